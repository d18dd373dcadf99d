import PyProof.Rows.All
import Wide.All
import OpenK.AllK
import Wide.FinOn
import Lean
import PyProof.EqAt
import PyProof.EqKinds
import PyProof.TupleCall
import KE.KDictSum
import KE.KTryMore
import KE.KRevSl
import KE.KSortTup
import KE.KItemsList
import KE.KSortKey
import PyProof.Rows.SetFrom
import KE.KRevIter
import PyProof.TupleOfGen
import KE.KUnpack
import PySem.Challenge.RW_manyleast_k66_whole_any_makes_asked
set_option Elab.async false
set_option linter.all false
set_option maxRecDepth 100000
set_option maxHeartbeats 4000000
theorem fnt:false ≠ true:=Bool.noConfusion
namespace PySem.W.Fast
def tw7674292497303504648:=()
def tw1600396345302884861:=()
def tw3318930204785009659:=()
def tw16436599242024385848:=()
def tw4330346487041912786:=()
def tw11450765201159466282:=()
def tw14364147735755427598:=()
def tw2040129912646171167:=()
def tw5103910922866265774:=()
def tw5427095721476803132:=()
def tw2081312126593445540:=()
def tw11417199805257173394:=()
def tw122848676161560114:=()
def tw7704981422072863698:=()
def tw10674067043680467898:=()
def tw5968626466979694426:=()
def tw7253826797589774341:=()
def tw12433517554221672914:=()
def tw9983086225577768694:=()
def tw910545026019457994:=()
def tw15594624424295923622:=()
def tw9416342967383407621:=()
def tw13135024844165081551:=()
def tw15611139203357756287:=()
def tw968435071728953553:=()
def tw10366555236597406866:=()
def tw7424575791281338296:=()
def tw15867290793973653153:=()
def tw10498113233240878775:=()
def tw7177272980506268132:=()
def tw15881791569963224565:=()
def tw12434119785876565568:=()
def tw18109425805076668427:=()
def tw6315762791205855314:=()
def tw1614709238326827297:=()
def tw6234561926702834750:=()
def tw5867000216294841507:=()
def tw16258720467840586289:=()
def tw2596521859697326508:=()
def tw14047800177945244427:=()
def tw9747054618995711974:=()
def tw11353218422293117351:=()
def tw12049851283146712894:=()
def tw11223099715779107903:=()
def tw13465981591990043105:=()
def tw82005722241962319:=()
def tw16673349864108250374:=()
def tw7128652625623124251:=()
def tw1700297796934975892:=()
def tw10808111340453683001:=()
def tw10388913030401298273:=()
def tw16022913297337016482:=()
def tw907066436341549541:=()
def tw16365900404782665486:=()
def tw10227356312978387625:=()
def tw352399395496652838:=()
def tw14599282561262730818:=()
def tw9174920438979683178:=()
def tw16625391248734187838:=()
def tw1540536381027328519:=()
def tw7609725042078104943:=()
def tw16044531387507112602:=()
def tw17467034209300981503:=()
def tw13758753613599618272:=()
def tw14218047221777303228:=()
def tw12519438092222798882:=()
def tw17469137010576402495:=()
def tw12200791725232319682:=()
def tw13880838815026709575:=()
def tw1074976015671464928:=()
def tw1250413296360375949:=()
def tw12866980909932383786:=()
def tw11881327016776672749:=()
def tw15343367966234289610:=()
def tw6313624620280223950:=()
def tw4995266846689475898:=()
def tw8963895112646091591:=()
def tw10778668411813757015:=()
def tw3212421987359364732:=()
def tw17742567168078797843:=()
def tw4568213894205559244:=()
def tw652038853030509935:=()
def tw8892284414119267889:=()
def tw4217844877387783379:=()
def tw10698749417285407384:=()
def tw4624444373769603351:=()
def tw8388976849371627365:=()
def tw11245778613873665809:=()
def tw2116318280633981780:=()
def tw12112156511666972985:=()
def tw14532334090647904587:=()
def tw10135827340599014466:=()
def tw4117854834480361561:=()
def tw14561318994479137940:=()
def tw2715829415663797675:=()
def tw16533043869709436987:=()
def tw9942995334421685102:=()
def tw2445216400498832926:=()
def tw18118621365326969405:=()
def tw17051895053255351612:=()
def tw15030774354621848764:=()
def tw5747435597695942061:=()
def tw5682659003468527610:=()
def tw16914247507796531513:=()
def tw17597551394670742026:=()
def tw13149318282770895899:=()
def tw14008926687988313493:=()
def tw8406167087015551452:=()
def tw13181623349232852244:=()
def tw16330521978762534902:=()
def tw6442598024378944114:=()
def tw8387977697896384227:=()
def tw5543881179064118069:=()
def tw14826499366414050920:=()
def tw5886414156432050711:=()
def tw10776569594758732305:=()
def tw3313165750111610149:=()
def tw1187478091160774648:=()
def tw2478687752371587528:=()
def tw4344256219701867515:=()
def tw10048816432922542669:=()
def tw15337901735698961701:=()
def tw16039470834707422454:=()
def tw3372637119799379252:=()
def tw17543331788088331501:=()
def tw4066328193345442044:=()
def tw2640517176969667911:=()
def tw10832747873455014894:=()
def tw11189239964411898533:=()
def tw3695023827613771029:=()
def tw17097151078496092382:=()
def tw15791378732498521703:=()
def tw14792579508260885592:=()
def tw4961258962502810436:=()
def tw11704966299223008444:=()
def tw8726686090494935559:=()
def tw8299587165046571585:=()
def tw10409003194638929243:=()
def tw12493364927238303292:=()
def tw11270171831386580612:=()
def tw9937092732693852872:=()
def tw15698701137761156408:=()
def tw4815639213182940869:=()
def tw528191112706905720:=()
def tw17819051917567742862:=()
def tw14812091148204673768:=()
def tw5601082147876943838:=()
def tw3772719875106906533:=()
def tw698818206398992135:=()
def tw7033123226975928093:=()
def tw8643274757629856961:=()
def tw15398974502709059195:=()
def tw11599396805172193718:=()
def tw8671316591209415617:=()
def tw1754144696484785813:=()
def tw16785603591046713906:=()
def tw15552394390470468643:=()
def tw9933985296693649337:=()
def tw1340611242074686334:=()
def tw4142010180246591321:=()
def tw3298300010936634344:=()
def tw13164717751046234774:=()
def tw1009135605508506968:=()
def tw4844919589645535085:=()
def tw3527853041542063372:=()
def tw18068323108987239918:=()
def tw3924395597765895423:=()
def tw15565584389326581863:=()
def tw2918246702564738169:=()
def tw14916225686565035847:=()
def tw3438187778459393123:=()
def tw6968009936451361993:=()
def tw17963368263820307054:=()
def tw13621764292831103558:=()
def tw4950589735927936166:=()
def tw7761107803168033057:=()
def tw9648657426526094934:=()
def tw4429960525625888610:=()
def tw16042305462272429958:=()
def tw16586445673651656187:=()
def tw17023123218843384309:=()
def tw8952840872546439171:=()
def tw2246297048838052279:=()
def tw7680101059923337797:=()
def tw18073099967072575201:=()
def tw15018477175967828603:=()
def tw3223989944468558646:=()
def tw6916206897447758838:=()
def tw12026716509971077025:=()
def tw2182167179563949717:=()
def tw15681391376519199319:=()
def tw3072404116491829383:=()
def tw18235452253149247878:=()
def tw11565066897794326154:=()
def tw4604139818626484484:=()
def tw6376415523024199260:=()
def tw8552113705682161241:=()
def tw15430456094236794606:=()
def tw4247745577103242744:=()
def tw11705138545887059525:=()
def tw15026383968613363534:=()
def tw13690118669981414490:=()
def tw9377072233891000151:=()
def tw4230939364532708203:=()
def tw9980838293368238746:=()
def tw1363473646964845656:=()
def tw5954155343702517267:=()
def tw2140310516834484182:=()
def tw4495318095693314834:=()
def tw8507300812334302929:=()
def tw18238567125629267890:=()
def tw11343903489246459256:=()
def tw11223049913137328173:=()
def tw1859628274250455520:=()
def tw14676908826619030799:=()
def tw15915806478239237007:=()
def tw3203964364932667806:=()
def tw13599809739172481258:=()
def tw9057703355865801191:=()
def tw15523127495285566071:=()
def tw15905912420688748548:=()
def tw1227006098917210663:=()
def tw18024155805704515402:=()
def tw17602089171715195962:=()
def tw17937800105000055360:=()
def tw9760111895251921728:=()
def tw14366585254422855137:=()
def tw3620856892647408467:=()
def tw9885852853804880371:=()
def tw12000967465500802181:=()
def tw6628119156497107250:=()
def tw8853813002755587140:=()
def tw689096795711285700:=()
def tw15079362820179193744:=()
def tw12495214420855687126:=()
def tw11885624622457937270:=()
def tw9076072592305284689:=()
def tw10336556913703776536:=()
def tw13767260738629300338:=()
def tw12574383615001655546:=()
def tw8724661656438207836:=()
def tw10196020907070153890:=()
def tw13741008209235051298:=()
def tw4004120644863606594:=()
def tw11102700100208000855:=()
def tw10417425706776611645:=()
def tw17637979102295490783:=()
def tw6559644494775957954:=()
def tw8477670951307206872:=()
def tw13878754149126678279:=()
def tw10337434231580791950:=()
def tw17988845477219354645:=()
def tw16972992519164167638:=()
def tw15568607915717550782:=()
def tw1069839481671484912:=()
def tw18395454504429595746:=()
def tw11210360578774706284:=()
def tw3592108883931922519:=()
def tw3721733620583759314:=()
def tw11880447994219283590:=()
def tw12412136462601083532:=()
def tw1198265368805838418:=()
def tw12270529452202628625:=()
def tw3393643103149240399:=()
def tw6885958272402144714:=()
def tw13447967112608379263:=()
def tw10864236124755784880:=()
def tw17377532221302565686:=()
def tw5753657283570344003:=()
def tw9379168398719077393:=()
def tw8785654052671995457:=()
def tw11231738744263300511:=()
def tw17253480600099142821:=()
def tw6545849610504398609:=()
def tw7473509904694524347:=()
def tw3307799699880198628:=()
def tw14094640584182287928:=()
def tw14920650950586792863:=()
def tw7826859644002864044:=()
def tw15169776829929521990:=()
def tw5997886195763570698:=()
def tw15443927895630573860:=()
def tw8286540860774983919:=()
def tw4471597903241821774:=()
def tw17927209365911276747:=()
def tw3943501410029744453:=()
def tw15348242531663402188:=()
def tw6073753567944891374:=()
def tw935973748777969203:=()
def tw1157176076737346467:=()
def tw2969379664283673930:=()
def tw3666949764617590468:=()
def tw3377857553139622080:=()
def tw7169304282812285284:=()
def tw3405904579532638594:=()
def tw11359897578459227589:=()
def tw6633215055434785361:=()
def tw12986380143485969352:=()
def tw12994637759633299379:=()
def tw17271470829168881909:=()
def tw2615959843942426295:=()
def tw11181372773320470602:=()
def tw18277668941699266150:=()
def tw8282489977035357880:=()
def tw13321819550387383296:=()
def tw8553158664480498397:=()
def tw15025328046482510105:=()
def tw15185096019589371047:=()
def tw5312454926514153913:=()
def tw7006730665333551967:=()
def tw5843374686070458604:=()
def tw6596947005689906083:=()
def tw4687392249615946387:=()
def tw2727200879516489240:=()
def tw14813118412317030561:=()
def tw16429940669077248950:=()
def tw792699095994424029:=()
def tw11539378097374239409:=()
def tw6807679924032663122:=()
def tw8759969022592424450:=()
def tw12505384076735596575:=()
def tw11052326778512405803:=()
def tw2566894050809082098:=()
def tw14881009748852384815:=()
def tw435765309066506842:=()
def tw5198660291630214306:=()
def tw17992922244592127328:=()
def tw14752197326238955314:=()
def tw3355076853759758353:=()
def tw14139161800267195771:=()
def tw10801037765198592330:=()
def tw4475181550004555937:=()
def tw9637680780074150948:=()
def tw15953521995611105209:=()
def tw6984473237516983410:=()
def tw17306330092149664745:=()
def tw8588777390256238861:=()
def tw15352761886253236067:=()
def tw6189652597256753986:=()
def tw11177376052753103243:=()
def tw5332845587190925336:=()
def tw17649210327131265108:=()
def tw14827502161262698560:=()
def tw15050823862007342304:=()
def tw14327315784324389765:=()
def tw5386561324595667108:=()
def tw10966392545186587816:=()
def tw13938566928870052902:=()
def tw92380914205118860:=()
def tw13058369985960926867:=()
def tw17401164600378896557:=()
def tw5536639993774671755:=()
def tw9671692106662667203:=()
def tw11749487315152246481:=()
def tw2528023165941432364:=()
def tw5334872461127508993:=()
def tw5931307144363238051:=()
def tw15306710689577786743:=()
def tw18395330854441637410:=()
def tw14058223176512322791:=()
def tw10376965538798919344:=()
def tw3103211446093417599:=()
def tw14914317176923695075:=()
def tw18037270916134986308:=()
def tw5070310548233117411:=()
def tw8635244659939807635:=()
def tw52239264509220758:=()
def tw11632674025664687788:=()
def tw13113279497420890246:=()
def tw7642145224787255517:=()
def tw1389510643753211450:=()
def tw1778387223430356208:=()
def tw10450099413312166122:=()
def tw8164381538823152356:=()
def tw10771011359032970128:=()
def tw14008358311725641807:=()
def tw15431941967052958366:=()
def tw2687318378406708625:=()
def tw6217542646303236270:=()
def tw17204108299387176123:=()
def tw8651476451653079170:=()
def tw3717407646597466838:=()
def tw6901974582582345135:=()
def tw12293128331835414316:=()
def tw6357184480807151047:=()
def tw2635028134845089409:=()
def tw13067528397108649199:=()
def tw9955259251352268958:=()
def tw2241453067633637981:=()
def tw6270179616544256930:=()
def tw3644239641239096954:=()
def tw13259977382368533591:=()
end PySem.W.Fast
namespace MyQ
open PySem PySem.W PyProof.Rows
set_option maxRecDepth 100000 in
set_option maxHeartbeats 0 in
open_top hd for PySem.Challenge.rw_manyleast_k66_whole_any_makes_asked
end MyQ
local macro_rules | `(tactic| walk_at "a")=>`(tactic| first | exact .inl rfl | exact .inr rfl | assumption)
local macro_rules | `(tactic| walk_at "b")=>`(tactic| first | exact Or.inl rfl | exact Or.inr (Or.inl rfl) | exact Or.inr (Or.inr rfl))
local macro_rules | `(tactic| walk_at "c")=>`(tactic| first | exact Or.inl rfl | exact Or.inr rfl)
set_option autoImplicit true
abbrev Fg:=PySem.W.Frag
abbrev VS:=PySem.Value->PySem.Shared->Prop
abbrev LL:=List (List Int)
abbrev Mg:=PySem.Str->Option PySem.Value
namespace L2
open PySem PySem.Spec PyProof.Rows
abbrev Key:=Sum Int Str
noncomputable def keyIs:Key->Value->Bool
 | .inl k,v=>Value.isInt k v
 | .inr x,v=>Value.isStrOf x v
noncomputable def keyH (w:World):Key->Int
 | .inl k=>hashInt k
 | .inr x=>hashStr w x
theorem q43:∀ {k:Key} {v:Value},keyIs k v=true->(∃ i t,k=Sum.inl i/\v=Value.int i t)\/(∃ x t,k=Sum.inr x/\v=Value.str x t)
 | .inl i,v,h=>by
  obtain ⟨t,e⟩:=Value.isInt_shape (k:=i) (v:=v) h
  exact .inl ⟨i,t,rfl,e⟩
 | .inr x,v,h=>by
  obtain ⟨t,e⟩:=Value.isStrOf_shape (x:=x) (v:=v) h
  exact .inr ⟨x,t,rfl,e⟩
theorem q577 (i:Int) (t:Tok):keyIs (.inl i) (.int i t)=true:=by simp [keyIs,Value.isInt]
theorem q578 (x:Str) (t:Tok):keyIs (.inr x) (.str x t)=true:=by simp [keyIs,Value.isStrOf]
theorem key_ll (a b:Int):decide ((Sum.inl a:Key)=Sum.inl b)=(a == b):=by
 by_cases e:a=b
 ·subst e;simp
 ·have h:¬ (Sum.inl a:Key)=Sum.inl b:=fun q=>e (Sum.inl.inj q)
  rw [decide_eq_false h]
  exact (beq_eq_false_iff_ne.mpr e).symm
theorem key_rr (a b:Str):decide ((Sum.inr a:Key)=Sum.inr b)=decide (a=b):=by
 by_cases e:a=b
 ·subst e;simp
 ·have h:¬ (Sum.inr a:Key)=Sum.inr b:=fun q=>e (Sum.inr.inj q)
  rw [decide_eq_false h,decide_eq_false e]
theorem key_lr (a:Int) (b:Str):decide ((Sum.inl a:Key)=Sum.inr b)=false:=decide_eq_false (fun q=>nomatch q)
theorem key_rl (a:Str) (b:Int):decide ((Sum.inr a:Key)=Sum.inl b)=false:=decide_eq_false (fun q=>nomatch q)
noncomputable def q53 (prog:Program) (w:World):PySem.KeyKind prog w Key where
 is:=keyIs
 hash:=keyH w
 inj:=fun v a b ha hb=>by
  rcases q43 ha with ⟨i,t,rfl,rfl⟩ | ⟨x,t,rfl,rfl⟩
  ·rcases q43 hb with ⟨j,u,rfl,e⟩ | ⟨y,u,rfl,e⟩
   ·injection e with e1 _;rw [e1]
   ·exact nomatch e
  ·rcases q43 hb with ⟨j,u,rfl,e⟩ | ⟨y,u,rfl,e⟩
   ·exact nomatch e
   ·injection e with e1 _;rw [e1]
 byValue:=fun k v h=>by
  rcases q43 h with ⟨i,t,rfl,rfl⟩ | ⟨x,t,rfl,rfl⟩ <;> rfl
 pyHash:=fun hv h=>by
  rcases q43 hv with ⟨i,t,rfl,rfl⟩ | ⟨x,t,rfl,rfl⟩
  ·exact wpAny_pyHash_int h
  ·exact wpAny_pyHash_str h
 eqBool:=fun hu hv h=>by
  rcases q43 hu with ⟨i,t,rfl,rfl⟩ | ⟨x,t,rfl,rfl⟩
  ·rcases q43 hv with ⟨j,u,rfl,rfl⟩ | ⟨y,u,rfl,rfl⟩
   ·rw [key_ll] at h;exact wpAny_eqBool_int h
   ·rw [key_lr] at h;exact SeqAt.EqAt.int_str i t y u _ _ _ _ h
  ·rcases q43 hv with ⟨j,u,rfl,rfl⟩ | ⟨y,u,rfl,rfl⟩
   ·rw [key_rl] at h;exact SeqAt.EqAt.str_int x t j u _ _ _ _ h
   ·rw [key_rr] at h;exact wpAny_eqBool_str h
 «strs»:=fun k x t v h=>by
  rcases q43 h with ⟨i,u,rfl,e⟩ | ⟨y,u,rfl,e⟩
  ·exact nomatch e
  ·injection e with e1 _
   subst e1
   cases v <;> rfl
theorem q428 (prog:Program) (w:World) (i:Int) (t:Tok):(q53 prog w).is (.inl i) (.int i t)=true:=q577 i t
theorem q429 (prog:Program) (w:World) (x:Str) (t:Tok):(q53 prog w).is (.inr x) (.str x t)=true:=q578 x t
inductive V where
 | non | bl (b:Bool) | int (i:Int) | str (x:Str) | byt (b:Array UInt8) | flt (b:UInt64) | ref (a:Addr) | ty (n:String)
 deriving DecidableEq
def RelV:V->Value->Prop
 | .non,u=>u=Value.none
 | .bl b,u=>u=Value.bool b
 | .int i,u=>∃ t,u=Value.int i t
 | .str x,u=>∃ t,u=Value.str x t
 | .byt b,u=>∃ t,u=Value.bytes b t
 | .flt b,u=>∃ t,u=Value.float b t
 | .ref a,u=>u=Value.ref a
 | .ty n,u=>u=Value.type n
abbrev Vals:List V->List Value->Prop:=Paired RelV
theorem Vals.length {xs:List V} {us:List Value} (r:Vals xs us):xs.length=us.length:=Paired.length r
theorem Vals.get:∀ {xs:List V} {us:List Value} {i:Nat} {x:V},Vals xs us->xs[i]? = some x -> ∃ u,us[i]? = some u/\RelV x u
 | _,_,_,_,.nil,e=>by simp at e
 | _,_,0,_,.cons r _,e=>by simp at e;subst e;exact ⟨_,rfl,r⟩
 | _,_,i+1,x,.cons _ t,e=>by
  obtain ⟨u,h1,h2⟩:=Vals.get (i:=i) (x:=x) t (by simpa using e)
  exact ⟨u,by simpa using h1,h2⟩
theorem Vals.set {x:V} {u:Value} (r:RelV x u):∀ {xs:List V} {us:List Value} (i:Nat),Vals xs us->Vals (xs.set i x) (us.set i u)
 | _,_,_,.nil=>.nil
 | _,_,0,.cons _ t=>.cons r t
 | _,_,i+1,.cons q t=>.cons q (Vals.set r i t)
theorem Vals.append:∀ {xs ys:List V} {us ws:List Value},Vals xs us->Vals ys ws->Vals (xs++ys) (us++ws)
 | _,_,_,_,.nil,s=>s
 | _,_,_,_,.cons r t,s=>.cons r (Vals.append t s)
theorem Vals.take:∀ {xs:List V} {us:List Value} (n:Nat),Vals xs us->Vals (xs.take n) (us.take n)
 | _,_,0,_=>.nil
 | _,_,_+1,.nil=>.nil
 | _,_,n+1,.cons r t=>.cons r (Vals.take n t)
theorem Vals.drop:∀ {xs:List V} {us:List Value} (n:Nat),Vals xs us->Vals (xs.drop n) (us.drop n)
 | _,_,0,r=>r
 | _,_,_+1,.nil=>.nil
 | _,_,n+1,.cons _ t=>Vals.drop n t
def RelO:Option V->Option Value->Prop
 | some v,some u=>RelV v u
 | none,none=>True
 | _,_=>False
def KV {κ:Type}:List (κ × V)->List (κ × Value)->Prop:=Paired fun (p:κ × V) (q:κ × Value)=>p.1=q.1/\RelV p.2 q.2
noncomputable def kV:Key->V
 | .inl i=>.int i
 | .inr x=>.str x
inductive HO where
 | lst (xs:List V)
 | tup (xs:List V)
 | dK (kvs:List (Key × V)) | dT (kvs:List (List Key × V))
 | set (S:Int->Bool) (n:Nat)
 | ins (C dx:Addr) (fs:List (Str × V))
 | own (x:Addr)
 | xd (fs:List (Str × V))
 | met (f x:Addr)
 | rng (lo hi:Int)
 | frz (o:Obj) (u:HO)
 | tbl (ps:Array Value)
 | ext (φ:Heap->Prop)
abbrev Hp:=Addr->Option HO
noncomputable def upd (H:Hp) (a:Addr) (o:HO):Hp:=fun b=>if b=a then some o else H b
theorem q14:upd H a o a=some o:=by unfold upd;rw [if_pos rfl]
theorem q31 (h:b ≠ a):upd H a o b=H b:=by unfold upd;rw [if_neg h]
theorem q182:upd (upd H a o) a u=upd H a u:=by
 funext b;unfold upd;split <;> rfl
theorem ne_of {H:Hp} {a b:Addr} {o u:HO} (h:H a=some o) (h':H b=some u) (d:o ≠ u):a ≠ b:=by
 intro e;subst e;rw [h] at h';exact d (Option.some.inj h')
theorem q27 {H:Hp} {a b:Addr} {o:HO} (h:H a=some o) (h':H b=none):a ≠ b:=by
 intro e;subst e;rw [h] at h';cases h'
section
variable (P:Program) (w:World)
def ObjOk (H:Hp) (h:Heap) (a:Addr):HO->Prop
 | .lst xs=>xs.length<=sizeLine /\ ∃ (its:List Value) (n:Nat),Vals xs its/\h.get? a=some { cls:=.type "list", data:=.seq its.toArray n }
 | .tup xs=>xs.length<=sizeLine /\ ∃ its:List Value,Vals xs its/\IsTup h a its.toArray
 | .dK kvs=>kvs.length<=sizeLine/\(a == sysModules)=false /\ ∃ vs,KV kvs vs/\h.DictOf (q53 P w) a vs
 | .dT kvs=>kvs.length<=sizeLine/\(a == sysModules)=false /\ ∃ xs:List (List Key × Addr × Value),
   Paired (fun (p:List Key × V) (q:List Key × Addr × Value)=>p.1=q.1/\H q.2.1=some (.tup (p.1.map kV))/\RelV p.2 q.2.2) kvs xs /\
   ∃ o es ep,h.get? a=some o/\o.ExactDict/\o.data = .dict es ep/\es.toList=xs.map (entryOfKey (tupleKind (q53 P w)))/\(xs.map (·.1)).Nodup
 | .set S n=>h.SetOf (intKind P w) a S n
 | .ins C dx fs=>H dx=some (.own a)/\fs.length<=1000/\dx ≠ a/\h.get? a=some (PySem.W.instObj C dx) /\
   ∃ mA,h.Ns1 dx mA/\(∀ f,RelO (fs.lookup f) (mA f))/\PySem.Within mA (fs.map (·.1))
 | .own _=>∃ o,h.get? a=some o
 | .xd fs=>∃ mA,h.Ns1 a mA /\ ∀ f,RelO (fs.lookup f) (mA f)
 | .rng lo hi=>∃ t u v,h.get? a=some { cls:=.type "range", data:=.fields #[.int lo t,.int hi u,.int 1 v] }
 | .frz o u=>h.get? a=some o/\ObjOk H h a u
 | .tbl ps=>h.get? a=some { cls:=.none,data:=.fields ps }
 | .met f x=>h.get? a=some (PySem.W.methodObj (.ref f) (.ref x))
 | .ext φ=>φ h/\(∃ o,h.get? a=some o) /\ ∀ h1 h2:Heap,φ h1->(∀ o,h1.get? a=some o->h2.get? a=some o)->φ h2
def HOk (H:Hp) (h:Heap):Prop:=∀ a o,H a=some o->ObjOk P w H h a o
end
section
variable {P:Program} {w:World} {H H':Hp} {h h':Heap} {a:Addr} {o:HO}
theorem ObjOk.lt (x:ObjOk P w H h a o):a < h.objs.size:=by
 cases o with
 | lst xs=>obtain ⟨_,_,_,_,e⟩:=x;exact Heap.lt_size e
 | tup xs=>obtain ⟨_,_,_,p⟩:=x;exact p.lt
 | dK kvs=>obtain ⟨_,_,_,_,o,_,_,e,_⟩:=x;exact Heap.lt_size e
 | dT kvs=>obtain ⟨_,_,_,_,o,_,_,e,_⟩:=x;exact Heap.lt_size e
 | set S n=>obtain ⟨o,_,_,_,e,_⟩:=x;exact Heap.lt_size e
 | ins C dx fs=>obtain ⟨_,_,_,e,_⟩:=x;exact Heap.lt_size e
 | own y=>obtain ⟨_,e⟩:=x;exact Heap.lt_size e
 | xd fs=>obtain ⟨_,⟨_,_,_,e,_⟩,_⟩:=x;exact Heap.lt_size e
 | rng lo hi=>obtain ⟨_,_,_,e⟩:=x;exact Heap.lt_size e
 | frz ob u=>obtain ⟨e,_⟩:=x;exact Heap.lt_size e
 | tbl ps=>exact Heap.lt_size (show h.get? a=some _ from x)
 | met f y=>exact Heap.lt_size (show h.get? a=some _ from x)
 | ext φ=>obtain ⟨_,⟨_,e⟩,_⟩:=x;exact Heap.lt_size e
theorem Paired.mapP {α β:Type} {F G:α->β->Prop}:∀ {l₁:List α} {l₂:List β},Paired F l₁ l₂->(∀ a b,F a b->G a b)->Paired G l₁ l₂
 | _,_,.nil,_=>.nil
 | _,_,.cons r t,f=>.cons (f _ _ r) (Paired.mapP t f)
theorem ObjOk.stay (x:ObjOk P w H h a o) (k:∀ b u,(b=a\/H b=some (.own a))->h.get? b=some u->h'.get? b=some u)
  (ho:∀ b,H b=some (.own a)->H' b=some (.own a)) (ht:∀ b xs,H b=some (.tup xs)->H' b=some (.tup xs)):ObjOk P w H' h' a o:=by
 induction o with
 | lst xs=>obtain ⟨z,its,n,r,e⟩:=x;exact ⟨z,its,n,r,k _ _ (.inl rfl) e⟩
 | tup xs=>obtain ⟨z,its,r,ob,e,c⟩:=x;exact ⟨z,its,r,ob,k _ _ (.inl rfl) e,c⟩
 | dK kvs=>obtain ⟨z,y,vs,r,ob,es,ep,e,c⟩:=x;exact ⟨z,y,vs,r,ob,es,ep,k _ _ (.inl rfl) e,c⟩
 | dT kvs=>
  obtain ⟨z,y,xs,r,ob,es,ep,e,c⟩:=x
  exact ⟨z,y,xs,Paired.mapP r fun p q z=>⟨z.1,ht _ _ z.2.1,z.2.2⟩,ob,es,ep,k _ _ (.inl rfl) e,c⟩
 | set S n=>obtain ⟨ob,es,ep,t,e,c⟩:=x;exact ⟨ob,es,ep,t,k _ _ (.inl rfl) e,c⟩
 | ins C dx fs=>
  obtain ⟨d,z,ne,e,mA,⟨od,es,ep,e2,c⟩,r⟩:=x
  exact ⟨ho _ d,z,ne,k _ _ (.inl rfl) e,mA,⟨od,es,ep,k _ _ (.inr d) e2,c⟩,r⟩
 | own y=>obtain ⟨ob,e⟩:=x;exact ⟨ob,k _ _ (.inl rfl) e⟩
 | xd fs=>obtain ⟨mA,⟨od,es,ep,e,c⟩,r⟩:=x;exact ⟨mA,⟨od,es,ep,k _ _ (.inl rfl) e,c⟩,r⟩
 | rng lo hi=>obtain ⟨t,u,v,e⟩:=x;exact ⟨t,u,v,k _ _ (.inl rfl) e⟩
 | frz ob u ih=>obtain ⟨e,q⟩:=x;exact ⟨k _ _ (.inl rfl) e,ih q⟩
 | tbl ps=>
  have e:h.get? a=some { cls:=.none,data:=.fields ps }:=x
  show h'.get? a=some { cls:=.none,data:=.fields ps }
  exact k a _ (.inl rfl) e
 | met f y=>
  have e:h.get? a=some (PySem.W.methodObj (.ref f) (.ref y)):=x
  show h'.get? a=some (PySem.W.methodObj (.ref f) (.ref y))
  exact k a _ (.inl rfl) e
 | ext φ=>obtain ⟨p,⟨o,e⟩,st⟩:=x;exact ⟨st _ _ p fun o q=>k _ _ (.inl rfl) q,⟨o,k _ _ (.inl rfl) e⟩,st⟩
theorem HOk.lt (x:HOk P w H h) (e:H a=some o):a < h.objs.size:=(x a o e).lt
theorem HOk.fresh (x:HOk P w H h) (e:h.objs.size<=a):H a=none:=by
 cases q:H a with
 | none=>rfl
 | some u=>exact absurd (Nat.lt_of_lt_of_le (x.lt q) e) (Nat.lt_irrefl _)
theorem HOk.kept (x:HOk P w H h) (k:∀ b u,h.get? b=some u->h'.get? b=some u):HOk P w H h':=fun a o e=>
 (x a o e).stay (fun b u _ q=>k b u q) (fun _ q=>q) fun _ _ q=>q
theorem HOk.laid (x:HOk P w H h) (k:∀ b u,h.get? b=some u->h'.get? b=some u) (hp:h.objs.size<=a) (new:ObjOk P w (upd H a o) h' a o):HOk P w (upd H a o) h':=fun b u e=>by
 have hn:=x.fresh hp
 by_cases hb:b=a
 ·subst hb;rw [q14] at e;cases e;exact new
 ·rw [q31 hb] at e
  exact (x b u e).stay (fun c v _ q=>k c v q) (fun c q=>by rw [q31 (q27 q hn)];exact q) fun c xs q=>by rw [q31 (q27 q hn)];exact q
end
def Rd (H:Hp) (a:Addr) (u:HO):Prop:=H a=some u \/ ∃ o,H a=some (.frz o u)
theorem Rd.ok (r:Rd H a u) (x:HOk P w H h):ObjOk P w H h a u:=by
 rcases r with r | ⟨o,r⟩
 ·exact x a u r
 ·obtain ⟨_,q⟩:=x a _ r
  exact q
def Mut:Option HO->Prop
 | some (.lst _)=>True
 | some (.dK _)=>True
 | some (.dT _)=>True
 | some (.set _ _)=>True
 | some (.ins _ _ _)=>True
 | some (.ext _)=>True
 | _=>False
section
variable {P:Program} {w:World} {H:Hp} {h h':Heap} {x e:Addr} {o':HO}
theorem HOk.write (ok:HOk P w H h) (mu:Mut (H x)) (he:e=x\/H e=some (.own x)) (k:∀ b u,b ≠ e->h.get? b=some u->h'.get? b=some u) (heo:∃ u,h'.get? e=some u)
  (new:ObjOk P w (upd H x o') h' x o'):HOk P w (upd H x o') h':=fun b u q=>by
 have nown:∀ c y,H c=some (.own y)->c ≠ x:=fun c y r z=>by subst z;rw [r] at mu;exact mu
 have ntup:∀ c xs,H c=some (.tup xs)->c ≠ x:=fun c xs r z=>by subst z;rw [r] at mu;exact mu
 by_cases hb:b=x
 ·subst hb;rw [q14] at q;cases q;exact new
 ·rw [q31 hb] at q
  by_cases hbe:b=e
  ·have q':H b=some (.own x):=by
    rcases he with z | z
    ·exact absurd (hbe.trans z) hb
    ·rw [hbe];exact z
   rw [q] at q';cases q'
   obtain ⟨v,hv⟩:=heo
   exact ⟨v,by rw [hbe];exact hv⟩
  ·refine (ok b u q).stay (fun c v hc r=>k c v ?_ r) (fun c r=>by rw [q31 (nown c b r)];exact r) fun c xs r=>by rw [q31 (ntup c xs r)];exact r
   rcases hc with rfl | hc
   ·exact hbe
   ·rintro rfl
    rcases he with z | z
    ·exact nown c b hc z
    ·rw [hc] at z;cases z;exact hb rfl
end
structure Un (fs ex:List Addr) (H H':Hp) (h h':Heap):Prop where
 keep:∀ b o,h.get? b=some o->H b=none->b ∉ fs->b ∉ ex->h'.get? b=some o
 slot:∀ b o,h.get? b=some o->H b=none->b ∈ fs->b ∉ ex -> ∃ sl,h'.get? b=some { o with slots:=sl }
 free:∀ b o,h.get? b=some o->H b=none->b ∉ ex->H' b=none
 there:∀ b o,h.get? b=some o->b ∉ ex -> ∃ o',h'.get? b=some o'
 tups:∀ b xs,H b=some (.tup xs)->H' b=some (.tup xs)
 frzs:∀ b o u,H b=some (.frz o u)->H' b=some (.frz o u)
 tbls:∀ b ps,H b=some (.tbl ps) -> ∃ more,H' b=some (.tbl (ps++more))
section
variable {fs fs' ex ex':List Addr} {H H1 H2:Hp} {h h1 h2 h':Heap} {a x e:Addr} {o:HO}
theorem Un.any (u:Un fs ex H H1 h h1) (q:h.get? b=some ob) (n:H b=none) (hx:b ∉ ex):∃ sl,h1.get? b=some { ob with slots:=sl }:=by
 by_cases hb:b ∈ fs
 ·exact u.slot b ob q n hb hx
 ·exact ⟨ob.slots,u.keep b ob q n hb hx⟩
theorem Un.kept (k:∀ b u,h.get? b=some u->h'.get? b=some u):Un fs ex H H h h':=
 ⟨fun b ob q _ _ _=>k b ob q,fun b ob q _ _ _=>⟨ob.slots,k b ob q⟩,fun _ _ _ n _=>n,fun b ob q _=>⟨ob,k b ob q⟩,fun _ _ q=>q,fun _ _ _ q=>q,fun _ ps q=>⟨#[],by rw [q];simp⟩⟩
theorem Un.refl:Un fs ex H H h h:=Un.kept fun _ _ q=>q
theorem Un.laid (k:∀ b u,h.get? b=some u->h'.get? b=some u) (hp:h.objs.size<=a) (hn:H a=none):Un fs ex H (upd H a o) h h' where
 keep:=fun b u q _ _ _=>k b u q
 slot:=fun b u q _ _ _=>⟨u.slots,k b u q⟩
 free:=fun b u q n _=>by rw [q31 (Nat.ne_of_lt (Nat.lt_of_lt_of_le (Heap.lt_size q) hp))];exact n
 there:=fun b u q _=>⟨u,k b u q⟩
 tups:=fun b xs q=>by rw [q31 (q27 q hn)];exact q
 frzs:=fun b u xs q=>by rw [q31 (q27 q hn)];exact q
 tbls:=fun b ps q=>⟨#[],by rw [q31 (q27 q hn),q];simp⟩
theorem Un.write (mu:Mut (H x)) (he:e=x\/H e=some (.own x)) (k:∀ b u,b ≠ e->h.get? b=some u->h'.get? b=some u) (heo:∃ u,h'.get? e=some u):Un fs ex H (upd H x o) h h':=by
 have hx:∀ b,H b=none->b ≠ x:=fun b n z=>by subst z;rw [n] at mu;exact mu
 have hb:∀ b,H b=none->b ≠ e:=fun b n z=>by
  subst z
  rcases he with r | r
  ·exact hx b n r
  ·rw [n] at r;cases r
 have hm:∀ b u,H b=some u -> ¬ Mut (some u)->b ≠ x:=fun b u q nm z=>by subst z;rw [q] at mu;exact nm mu
 refine ⟨fun b u q n _ _=>k b u (hb b n) q,fun b u q n _ _=>⟨u.slots,k b u (hb b n) q⟩,fun b u q n _=>by rw [q31 (hx b n)];exact n,fun b u q _=>?_,
  fun b xs q=>by rw [q31 (hm b _ q fun z=>z)];exact q,fun b u xs q=>by rw [q31 (hm b _ q fun z=>z)];exact q,fun b ps q=>⟨#[],by rw [q31 (hm b _ q fun z=>z),q];simp⟩⟩
 by_cases hbe:b=e
 ·subst hbe;exact heo
 ·exact ⟨u,k b u hbe q⟩
end
noncomputable def trk (h:Heap) (H:Hp):List Addr:=(List.range h.objs.size).filter fun a=>(H a).isSome
noncomputable def hidT (h:Heap) (H:Hp):Heap:=PySem.W.hideAll h (trk h H)
theorem q579 (h:Heap) (H:Hp):(hidT h H).objs.size=h.objs.size:=PySem.W.hideAll_size _ _
theorem hidT_get {h:Heap} (e:h.get? b=some o) (n:H b=none):(hidT h H).get? b=some o:=
 PySem.W.hideAll_get _ e fun hm=>by
  have q:(H b).isSome=true:=(List.mem_filter.mp hm).2
  rw [n] at q;simp at q
theorem of_hidT {h:Heap} (e:(hidT h H).get? b=some o):h.get? b=some o/\H b=none:=by
 have e':h.get? b=some o:=PySem.W.of_hideAll (trk h H) e
 refine ⟨e',?_⟩
 cases q:H b with
 | none=>rfl
 | some x=>
  have hm:b ∈ trk h H:=List.mem_filter.mpr ⟨List.mem_range.mpr (Heap.lt_size e'),by simp [q]⟩
  have z:(hidT h H).get? b=none:=PySem.W.hideAll_none (trk h H) hm
  rw [z] at e;cases e
noncomputable def allNews (g h:Heap) (L:Addr):List (Addr × Obj):=(List.range h.objs.size).filterMap fun a=>if a=L\/(g.get? a).isSome=true then none else (h.get? a).map fun o=>(a,o)
noncomputable def rest (g h:Heap) (L d:Addr):List (Addr × Obj):=(allNews g h L).filter fun p=>decide (p.1 ≠ d)
structure Mod (K:Fg) (mg:Mg) (base:Heap):Prop where
 kin:K.In base
 glob:base.Ns mainGlobals mg
 blt:∃ mb,base.Ns builtinsNs mb /\ ∀ x:Str,x ≠ "__name__" -> mb x=bootBuiltins x
 nolimit:base.NoLimit
structure Cx where
 prog:Program
 w:World
 K:Fg
 mg:Mg
 base:Heap
 A:Around
 N:List Str
 s₀:Shared
 H₀:Hp
 env:Env
 outer:List Env
 stack:List Env
 ex:List Addr
 fn:Str->Bool
 calm:Bool
 pn:List (Addr × Obj)
 xe:VS
variable {X:Cx}
noncomputable def frs (l:List Env):List Addr:=l.filterMap (·.frame)
noncomputable abbrev Cx.fs (X:Cx):List Addr:=frs X.outer
def Vis (sc:Scope) (x:Str):Prop:=sc.names.lookup x=some .local\/sc.names.lookup x=some .cell\/sc.names.lookup x=some .free
def Loc (sc:Scope) (x:Str):Prop:=sc.names.lookup x=some .local\/sc.names.lookup x=some .cell
def Look (env:Env) (h:Heap) (m:Mg) (x:Str) (u:Value):Prop:=
 (env.kindOf x=some .local/\m x=some u)\/((env.kindOf x=some .cell\/env.kindOf x=some .free) /\ ∃ c,env.cells.lookup x=some c/\h.IsCell c (some u))
structure Cx.Ok (X:Cx):Prop where
 mod:Mod X.K X.mg X.base
 kind:X.env.scope.kind = .function
 glob:X.env.globals=mainGlobals
 blt:X.env.builtins=builtinsNs
 above:X.s₀.heap.objs.size<=X.env.locals
 inj:∀ x y c,X.env.cells.lookup x=some c->X.env.cells.lookup y=some c->x=y
 has:∀ x,(X.env.kindOf x=some .cell\/X.env.kindOf x=some .free) -> ∃ c,X.env.cells.lookup x=some c
 cab:∀ x c,X.fn x=true->X.env.cells.lookup x=some c->X.s₀.heap.objs.size<=c
 hd:X.calm=true->X.A.handled=none
 frames:X.A.frames=some X.stack
 stk:X.stack=X.outer\/(X.stack=X.env::X.outer/\X.env.frame=some X.env.locals)
 exf:∀ b ∈ X.ex,b ≠ X.env.locals /\ ∀ x c,X.env.cells.lookup x=some c->c ≠ b
 bs:∀ b o,X.base.get? b=some o->X.s₀.heap.get? b=some o/\X.H₀ b=none
 bsz:X.base.objs.size<=X.s₀.heap.objs.size
 noex:∀ b o,X.base.get? b=some o->b ∉ X.ex
 exfs:∀ b ∈ X.ex,b ∉ X.fs
 funs:X.s₀.heap.FunFrames X.base X.outer
 frf:∀ b ∈ X.fs,X.H₀ b=none
structure Inv (X:Cx) (pins:List (Addr × Obj)) (σ:List (Option V)) (H:Hp) (s:Shared):Prop where
 ok:X.Ok
 os:s.os=X.s₀.os
 bare:AllBare s.gens
 base:Un X.fs X.ex X.H₀ H X.s₀.heap s.heap
 loc:∃ m,s.heap.Ns X.env.locals m /\ ∀ (i:Nat) (x:Str) (v:V),X.N[i]? = some x->σ[i]? = some (some v)->Vis X.env.scope x -> ∃ u,RelV v u/\Look X.env s.heap m x u
 cell:∀ x c,X.env.cells.lookup x=some c -> ∃ v,s.heap.IsCell c v
 free:H X.env.locals=none
 freeC:∀ x c,X.env.cells.lookup x=some c->H c=none
 pin:∀ p ∈ X.pn++pins,s.heap.get? p.1=some p.2/\H p.1=none/\p.1 ≠ X.env.locals/\p.1 ∉ X.fs /\ ∀ v,p.2.data ≠ .cell v
 hok:HOk X.prog X.w H s.heap
 len:σ.length=X.N.length
section
variable {pins:List (Addr × Obj)} {σ:List (Option V)} {H H':Hp} {s:Shared} {h':Heap}
theorem Cx.Ok.nofr (ok:X.Ok) (e:X.base.get? b=some o):b ∉ X.fs:=fun hb=>by
 have:=(ok.funs.mem hb).1
 rw [e] at this;cases this
theorem Inv.bs (I:Inv X pins σ H s):∀ b o,X.base.get? b=some o->s.heap.get? b=some o/\H b=none:=fun b o e=>
 ⟨I.base.keep b o (I.ok.bs b o e).1 (I.ok.bs b o e).2 (I.ok.nofr e) (I.ok.noex b o e),I.base.free b o (I.ok.bs b o e).1 (I.ok.bs b o e).2 (I.ok.noex b o e)⟩
theorem Inv.bk (I:Inv X pins σ H s):∀ b o,X.base.get? b=some o->s.heap.get? b=some o:=fun b o e=>(I.bs b o e).1
theorem Inv.mod (I:Inv X pins σ H s):Mod X.K X.mg X.base:=I.ok.mod
theorem Inv.kIn (I:Inv X pins σ H s):X.K.In s.heap:=I.ok.mod.kin.keeps I.bk
theorem Inv.lt (I:Inv X pins σ H s):X.env.locals < s.heap.objs.size:=let ⟨_,hn,_⟩:=I.loc;hn.lt
theorem Inv.sz (I:Inv X pins σ H s):X.s₀.heap.objs.size<=s.heap.objs.size:=Nat.le_trans I.ok.above (Nat.le_of_lt I.lt)
theorem Inv.nofs (I:Inv X pins σ H s) (h:s.heap.objs.size<=a):a ∉ X.fs:=fun hb=>by
 obtain ⟨_,o,ho,_⟩:=I.ok.funs.mem hb
 exact absurd (Nat.lt_of_lt_of_le (Heap.lt_size ho) (Nat.le_trans I.sz h)) (Nat.lt_irrefl _)
theorem Inv.cne (I:Inv X pins σ H s):∀ x c,X.env.cells.lookup x=some c->c ≠ X.env.locals:=fun x c e z=>by
 obtain ⟨v,o,ho,hd⟩:=I.cell x c e
 obtain ⟨m,⟨o',es,ep,ho',hd',_⟩,_⟩:=I.loc
 rw [z,ho'] at ho;cases ho;rw [hd'] at hd;cases hd
theorem Inv.funs (I:Inv X pins σ H s):s.heap.FunFrames X.base X.outer:=by
 have all:∀ (l:List Env),(∀ b ∈ frs l,b ∈ X.fs)->X.s₀.heap.FunFrames X.base l->s.heap.FunFrames X.base l:=by
  intro l
  induction l with
  | nil=>intro _ _;trivial
  | cons env r ih=>
   intro hs hl
   obtain ⟨hk,⟨L,o,hf,hn,ho,hd⟩,hr⟩:=hl
   have hL:L ∈ X.fs:=hs L (by unfold frs;rw [List.filterMap_cons,hf];exact List.mem_cons_self)
   obtain ⟨sl,e⟩:=I.base.slot L o ho (I.ok.frf L hL) hL fun z=>I.ok.exfs L z hL
   exact ⟨hk,⟨L,_,hf,hn,e,hd⟩,ih (fun b hb=>hs b (by unfold frs;rw [List.filterMap_cons,hf];exact List.mem_cons_of_mem _ hb)) hr⟩
 exact all X.outer (fun _ hb=>hb) I.ok.funs
theorem Inv.stack (I:Inv X pins σ H s):s.heap.FunFrames X.base X.stack:=by
 rcases I.ok.stk with e | ⟨e,hf⟩
 ·rw [e];exact I.funs
 ·rw [e]
  obtain ⟨m,hn,_⟩:=I.loc
  refine .cons (by rw [I.ok.kind];decide) hf hn ?_ I.funs
  exact Heap.get?_none_of_le (Nat.le_trans I.ok.bsz I.ok.above)
theorem Inv.stkSub (I:Inv X pins σ H s):∀ b ∈ frs X.stack,b ∈ X.env.locals::X.fs:=fun b hb=>by
 rcases I.ok.stk with e | ⟨e,hf⟩
 ·rw [e] at hb;exact List.mem_cons_of_mem _ hb
 ·rw [e] at hb
  unfold frs at hb
  rw [List.filterMap_cons,hf] at hb
  exact hb
theorem Inv.stkFree (I:Inv X pins σ H s):∀ b ∈ frs X.stack,H b=none:=fun b hb=>by
 rcases List.mem_cons.mp (I.stkSub b hb) with e | hb
 ·rw [e];exact I.free
 ·obtain ⟨_,o,ho,_⟩:=I.ok.funs.mem hb
  exact I.base.free b o ho (I.ok.frf b hb) fun z=>I.ok.exfs b z hb
theorem Inv.step {g':Array GenState} {t':Nat} {d':Drawn} {ch:List Addr} (I:Inv X pins σ H s)
  (hch:∀ b ∈ ch,(b ∈ X.ex\/X.s₀.heap.objs.size<=b)/\b ≠ X.env.locals/\(∀ x c,X.env.cells.lookup x=some c->c ≠ b) /\ ∀ p ∈ X.pn++pins,p.1 ≠ b)
  (keep:∀ b o,b ≠ X.env.locals->b ∉ X.fs->b ∉ ch->s.heap.get? b=some o->H b=none->h'.get? b=some o)
  (slot:∀ b o,b ≠ X.env.locals->b ∈ X.fs->b ∉ ch->s.heap.get? b=some o->H b=none -> ∃ sl,h'.get? b=some { o with slots:=sl }) (free:∀ b o,b ∉ ch->s.heap.get? b=some o->H b=none->H' b=none)
  (there:∀ b o,b ∉ ch->s.heap.get? b=some o -> ∃ o',h'.get? b=some o')
  (tups:∀ b xs,H b=some (.tup xs)->H' b=some (.tup xs)) (frzs:∀ b o u,H b=some (.frz o u)->H' b=some (.frz o u)) (tbls:∀ b ps,H b=some (.tbl ps) -> ∃ more,H' b=some (.tbl (ps++more)))
  (ns:∀ m,s.heap.Ns X.env.locals m->h'.Ns X.env.locals m) (hok:HOk X.prog X.w H' h') (hg:AllBare g') :
  Inv X pins σ H' { s with heap:=h',gens:=g',drawn:=d',toks:=t' }:=by
 have neL:∀ b o,X.s₀.heap.get? b=some o->b ≠ X.env.locals:=fun b o e=>Nat.ne_of_lt (Nat.lt_of_lt_of_le (Heap.lt_size e) I.ok.above)
 have neC:∀ b o,X.s₀.heap.get? b=some o->b ∉ X.ex->b ∉ ch:=fun b o e hx hb=>by
  rcases (hch b hb).1 with z | z
  ·exact hx z
  ·exact absurd (Nat.lt_of_lt_of_le (Heap.lt_size e) z) (Nat.lt_irrefl _)
 have cellK:∀ x c,X.env.cells.lookup x=some c -> ∀ v,s.heap.IsCell c v->h'.IsCell c v:=fun x c e v ⟨o,ho,hd⟩=>by
  have nch:c ∉ ch:=fun z=>(hch c z).2.2.1 x c e rfl
  by_cases hc:c ∈ X.fs
  ·obtain ⟨sl,q⟩:=slot c o (I.cne x c e) hc nch ho (I.freeC x c e)
   exact ⟨_,q,hd⟩
  ·exact ⟨o,keep c o (I.cne x c e) hc nch ho (I.freeC x c e),hd⟩
 refine ⟨I.ok,I.os,hg,⟨fun b o e n hb hx=>?_,fun b o e n hb hx=>?_,fun b o e n hx=>?_,fun b o e hx=>?_,fun b xs e=>tups b xs (I.base.tups b xs e),fun b o xs e=>frzs b o xs (I.base.frzs b o xs e),fun b ps e=>?_⟩,?_,fun x c e=>?_,?_,fun x c e=>?_,fun p hp=>?_,hok,I.len⟩
 ·exact keep b o (neL b o e) hb (neC b o e hx) (I.base.keep b o e n hb hx) (I.base.free b o e n hx)
 ·obtain ⟨sl,e1⟩:=I.base.slot b o e n hb hx
  obtain ⟨sl',e2⟩:=slot b _ (neL b o e) hb (neC b o e hx) e1 (I.base.free b o e n hx)
  exact ⟨sl',e2⟩
 ·obtain ⟨o',e1⟩:=I.base.there b o e hx
  exact free b o' (neC b o e hx) e1 (I.base.free b o e n hx)
 ·obtain ⟨o',e1⟩:=I.base.there b o e hx
  exact there b o' (neC b o e hx) e1
 ·obtain ⟨m1,e1⟩:=I.base.tbls b ps e
  obtain ⟨m2,e2⟩:=tbls b _ e1
  exact ⟨m1++m2,by rw [e2,Array.append_assoc]⟩
 ·obtain ⟨m,hn,hl⟩:=I.loc
  refine ⟨m,ns m hn,fun i x v e1 e2 e3=>?_⟩
  obtain ⟨u,r,l⟩:=hl i x v e1 e2 e3
  refine ⟨u,r,?_⟩
  rcases l with l | ⟨k,c,e,z⟩
  ·exact .inl l
  ·exact .inr ⟨k,c,e,cellK x c e _ z⟩
 ·obtain ⟨v,z⟩:=I.cell x c e
  exact ⟨v,cellK x c e v z⟩
 ·obtain ⟨m,⟨o,_,_,ho,_⟩,_⟩:=I.loc
  exact free _ o (fun z=>(hch _ z).2.1 rfl) ho I.free
 ·obtain ⟨v,o,ho,hd⟩:=I.cell x c e
  exact free c o (fun z=>(hch c z).2.2.1 x c e rfl) ho (I.freeC x c e)
 ·obtain ⟨e,n,ne,nf,d⟩:=I.pin p hp
  have nch:p.1 ∉ ch:=fun z=>(hch p.1 z).2.2.2 p hp rfl
  exact ⟨keep p.1 p.2 ne nf nch e n,free p.1 p.2 nch e n,ne,nf,d⟩
theorem Inv.un {t':Nat} (I:Inv X pins σ H s) (u:Un X.fs [] H H' s.heap h') (hok:HOk X.prog X.w H' h'):Inv X pins σ H' { s with heap:=h',toks:=t' }:=by
 obtain ⟨m,⟨o,es,ep,ho,r⟩,_⟩:=id I.loc
 obtain ⟨sl,hL⟩:=u.any ho I.free (by simp)
 exact I.step (g':=s.gens) (d':=s.drawn) (ch:=[]) (fun _ z=>nomatch z) (fun b o _ hb _ e n=>u.keep b o e n hb (by simp)) (fun b o _ hb _ e n=>u.slot b o e n hb (by simp)) (fun b o _ e n=>u.free b o e n (by simp)) (fun b o _ e=>u.there b o e (by simp)) u.tups u.frzs u.tbls (fun m' hm=>by
  obtain ⟨o',es',ep',ho',r'⟩:=hm
  rw [ho] at ho';cases ho'
  exact ⟨_,es',ep',hL,r'⟩) hok I.bare
theorem Inv.call {g':Array GenState} {t':Nat} {d':Drawn} {ch:List Addr} (I:Inv X pins σ H s) (u:Un (frs X.stack) ch H H' s.heap h') (hok:HOk X.prog X.w H' h') (hg:AllBare g')
  (hch:∀ b ∈ ch,(b ∈ X.ex\/X.s₀.heap.objs.size<=b)/\b ≠ X.env.locals/\(∀ x c,X.env.cells.lookup x=some c->c ≠ b) /\ ∀ p ∈ X.pn++pins,p.1 ≠ b) :
  Inv X pins σ H' { s with heap:=h',gens:=g',drawn:=d',toks:=t' }:=by
 obtain ⟨m,⟨o,es,ep,ho,r⟩,_⟩:=id I.loc
 obtain ⟨sl,hL⟩:=u.any ho I.free fun z=>(hch _ z).2.1 rfl
 exact I.step (ch:=ch) hch (fun b o hL hb hc e n=>u.keep b o e n (fun z=>(List.mem_cons.mp (I.stkSub b z)).elim hL hb) hc) (fun b o _ _ hc e n=>u.any e n hc) (fun b o hc e n=>u.free b o e n hc) (fun b o hc e=>u.there b o e hc) u.tups u.frzs u.tbls (fun m' hm=>by
  obtain ⟨o',es',ep',ho',r'⟩:=hm
  rw [ho] at ho';cases ho'
  exact ⟨_,es',ep',hL,r'⟩) hok hg
theorem Inv.turned {t':Nat} {it:Addr} (I:Inv X pins σ H s) (k:∀ b o,b ≠ it->s.heap.get? b=some o->h'.get? b=some o) (hn:H it=none) (hL:it ≠ X.env.locals)
  (h1:it ∈ X.ex\/X.s₀.heap.objs.size<=it) (h2:∀ x c,X.env.cells.lookup x=some c->c ≠ it) (h3:∀ p ∈ X.pn++pins,p.1 ≠ it):Inv X pins σ H { s with heap:=h',toks:=t' }:=by
 have nit:∀ b u,H b=some u->b ≠ it:=fun b u e z=>by rw [z,hn] at e;cases e
 refine I.step (g':=s.gens) (d':=s.drawn) (ch:=[it]) (fun b hb=>?_) (fun b o _ _ hc e _=>k b o (fun z=>hc (by simp [z])) e) (fun b o _ _ hc e _=>⟨o.slots,k b o (fun z=>hc (by simp [z])) e⟩) (fun _ _ _ _ n=>n)
  (fun b o hc e=>⟨o,k b o (fun z=>hc (by simp [z])) e⟩) (fun _ _ e=>e) (fun _ _ _ e=>e) (fun b ps e=>⟨#[],by rw [e];simp⟩) (fun m hm=>?_) (fun b u e=>?_) I.bare
 ·have e:b=it:=by simpa using hb
  subst e
  exact ⟨h1,hL,h2,h3⟩
 ·obtain ⟨o,es,ep,ho,r⟩:=hm
  exact ⟨o,es,ep,k _ o (Ne.symm hL) ho,r⟩
 ·refine (I.hok b u e).stay (fun c v hc q=>k c v ?_ q) (fun _ q=>q) fun _ _ q=>q
  rcases hc with z | z
  ·rw [z];exact nit b u e
  ·exact nit c _ z
theorem Inv.tok (I:Inv X pins σ H s) (t:Nat):Inv X pins σ H { s with toks:=t }:=I.un (h':=s.heap) (t':=t) Un.refl I.hok
theorem Inv.kept {t':Nat} (I:Inv X pins σ H s) (k:∀ b u,s.heap.get? b=some u->h'.get? b=some u):Inv X pins σ H { s with heap:=h',toks:=t' }:=I.un (Un.kept k) (I.hok.kept k)
theorem Inv.laid {t':Nat} (I:Inv X pins σ H s) (k:∀ b u,s.heap.get? b=some u->h'.get? b=some u) (hp:s.heap.objs.size<=a) (new:ObjOk X.prog X.w (upd H a o) h' a o) :
  Inv X pins σ (upd H a o) { s with heap:=h',toks:=t' }:=I.un (Un.laid k hp (I.hok.fresh hp)) (I.hok.laid k hp new)
theorem Inv.write {t':Nat} (I:Inv X pins σ H s) (mu:Mut (H x)) (he:e=x\/H e=some (.own x)) (k:∀ b u,b ≠ e->s.heap.get? b=some u->h'.get? b=some u) (heo:∃ u,h'.get? e=some u)
  (new:ObjOk X.prog X.w (upd H x o) h' x o):Inv X pins σ (upd H x o) { s with heap:=h',toks:=t' }:=I.un (Un.write mu he k heo) (I.hok.write mu he k heo new)
theorem Inv.pins_of (I:Inv X pins σ H s) (h:∀ p ∈ pins',s.heap.get? p.1=some p.2/\H p.1=none/\p.1 ≠ X.env.locals/\p.1 ∉ X.fs /\ ∀ v,p.2.data ≠ .cell v):Inv X pins' σ H s:=
 ⟨I.ok,I.os,I.bare,I.base,I.loc,I.cell,I.free,I.freeC,fun p hp=>(List.mem_append.mp hp).elim (fun z=>I.pin p (List.mem_append_left _ z)) (h p),I.hok,I.len⟩
theorem q471 {N:List Str} (hN:N.Nodup) {i j:Nat} (a:N[i]? = some x) (b:N[j]? = some x):i=j:=by
 obtain ⟨h1,e1⟩:=List.getElem?_eq_some_iff.mp a
 obtain ⟨h2,e2⟩:=List.getElem?_eq_some_iff.mp b
 exact (List.getElem_inj hN).mp (e1.trans e2.symm)
theorem q224 {M:Model} {A:Around} {E:VS} {i:Nat} (I:Inv X pins σ H s) (hN:X.N.Nodup) (hi:X.N[i]? = some x) (hx:Loc X.env.scope x) (r:RelV v u)
  (h:∀ s',Inv X pins (σ.set i (some v)) H s'->(∃ a,Heap.SameBut a s.heap s'.heap/\(a=X.env.locals\/X.env.cells.lookup x=some a))->Q () s') (hf:X.fn x=true\/X.env.scope.names.lookup x=some .local:=by walk_at "a"):wpAny M A (storeName X.env x u) Q E s:=by
 obtain ⟨m,hn,hl⟩:=id I.loc
 have hcls:(X.env.scope.kind == .class || (X.env.scope.kind == .module && X.env.locals != X.env.globals))=false:=by rw [I.ok.kind];rfl
 have hiσ:i < σ.length:=by rw [I.len];exact (List.getElem?_eq_some_iff.mp hi).1
 have cne:=I.cne
 have tracked:∀ {a:Addr} {h':Heap},(∃ o,s.heap.get? a=some o/\H a=none)->Heap.SameBut a s.heap h'->HOk X.prog X.w H h':=fun {a h'} ha hs b ob e=>by
  obtain ⟨_,_,hfree⟩:=ha
  refine (I.hok b ob e).stay (fun c w' hc q=>(hs.2 c ?_).trans q) (fun _ q=>q) fun _ _ q=>q
  rintro rfl
  rcases hc with rfl | hc
  ·rw [hfree] at e;cases e
  ·rw [hfree] at hc;cases hc
 rcases hx with hk | hk
 ·refine wpAny_storeName_local hk hn (fun h' hn' hs=>?_) hcls
  obtain ⟨oL,_,_,hoL,_⟩:=id hn
  refine h _ ⟨I.ok,I.os,I.bare,⟨fun b o e n hb hx=>?_,fun b o e n hb hx=>?_,I.base.free,fun b o e hx=>?_,I.base.tups,I.base.frzs,I.base.tbls⟩,⟨_,hn',fun j y v' e1 e2 e3=>?_⟩,fun y c e=>?_,I.free,I.freeC,fun p hp=>?_,tracked ⟨oL,hoL,I.free⟩ hs,by simpa using I.len⟩ ⟨_,hs,.inl rfl⟩
  ·exact (hs.2 b (Nat.ne_of_lt (Nat.lt_of_lt_of_le (Heap.lt_size e) I.ok.above))).trans (I.base.keep b o e n hb hx)
  ·obtain ⟨sl,e1⟩:=I.base.slot b o e n hb hx
   exact ⟨sl,(hs.2 b (Nat.ne_of_lt (Nat.lt_of_lt_of_le (Heap.lt_size e) I.ok.above))).trans e1⟩
  ·obtain ⟨o',e1⟩:=I.base.there b o e hx
   exact ⟨o',(hs.2 b (Nat.ne_of_lt (Nat.lt_of_lt_of_le (Heap.lt_size e) I.ok.above))).trans e1⟩
  ·by_cases hj:j=i
   ·subst hj
    rw [hi] at e1;cases e1
    rw [List.getElem?_set_self hiσ] at e2
    cases e2
    exact ⟨u,r,.inl ⟨hk,by simp⟩⟩
   ·rw [List.getElem?_set_ne (Ne.symm hj)] at e2
    obtain ⟨u',r',q⟩:=hl j y v' e1 e2 e3
    refine ⟨u',r',?_⟩
    rcases q with ⟨k,e⟩ | ⟨k,c,e,z⟩
    ·refine .inl ⟨k,?_⟩
     have:y ≠ x:=fun e=>hj (q471 hN e1 (e ▸ hi))
     simp [this,e]
    ·exact .inr ⟨k,c,e,z.sameBut hs (cne y c e)⟩
  ·obtain ⟨w',z⟩:=I.cell y c e
   exact ⟨w',z.sameBut hs (cne y c e)⟩
  ·obtain ⟨e,n,ne,nf,d⟩:=I.pin p hp
   exact ⟨(hs.2 p.1 ne).trans e,n,ne,nf,d⟩
 ·have hfn:X.fn x=true:=by
   rcases hf with z | z
   ·exact z
   ·rw [z] at hk;cases hk
  obtain ⟨c,hc⟩:=I.ok.has x (.inl hk)
  obtain ⟨w',z⟩:=I.cell x c hc
  refine wpAny_storeName_cell I.ok.kind hk hc z (fun h' hc' hs=>?_)
  obtain ⟨oc,hoc,hocd⟩:=id z
  refine h { s with heap:=h' } ⟨I.ok,I.os,I.bare,⟨fun b o e n hb hx=>?_,fun b o e n hb hx=>?_,I.base.free,fun b o e hx=>?_,I.base.tups,I.base.frzs,I.base.tbls⟩,⟨m,hn.sameBut hs (Ne.symm (cne x c hc)),fun j y v' e1 e2 e3=>?_⟩,fun y c' e=>?_,I.free,I.freeC,fun p hp=>?_,tracked ⟨oc,hoc,I.freeC x c hc⟩ hs,by simpa using I.len⟩ ⟨c,hs,.inr hc⟩
  ·exact (hs.2 b (Nat.ne_of_lt (Nat.lt_of_lt_of_le (Heap.lt_size e) (I.ok.cab x c hfn hc)))).trans (I.base.keep b o e n hb hx)
  ·obtain ⟨sl,e1⟩:=I.base.slot b o e n hb hx
   exact ⟨sl,(hs.2 b (Nat.ne_of_lt (Nat.lt_of_lt_of_le (Heap.lt_size e) (I.ok.cab x c hfn hc)))).trans e1⟩
  ·obtain ⟨o',e1⟩:=I.base.there b o e hx
   exact ⟨o',(hs.2 b (Nat.ne_of_lt (Nat.lt_of_lt_of_le (Heap.lt_size e) (I.ok.cab x c hfn hc)))).trans e1⟩
  ·by_cases hj:j=i
   ·subst hj
    rw [hi] at e1;cases e1
    rw [List.getElem?_set_self hiσ] at e2
    cases e2
    exact ⟨u,r,.inr ⟨.inl hk,c,hc,hc'⟩⟩
   ·rw [List.getElem?_set_ne (Ne.symm hj)] at e2
    obtain ⟨u',r',q⟩:=hl j y v' e1 e2 e3
    refine ⟨u',r',?_⟩
    rcases q with q | ⟨k,c',e,z'⟩
    ·exact .inl q
    ·refine .inr ⟨k,c',e,z'.sameBut hs ?_⟩
     rintro rfl
     exact hj (q471 hN e1 (I.ok.inj _ _ _ e hc ▸ hi))
  ·by_cases hcc:c'=c
   ·subst hcc;exact ⟨_,hc'⟩
   ·obtain ⟨w2,z2⟩:=I.cell y c' e
    exact ⟨w2,z2.sameBut hs hcc⟩
  ·obtain ⟨e,n,ne,nf,d⟩:=I.pin p hp
   refine ⟨(hs.2 p.1 ?_).trans e,n,ne,nf,d⟩
   intro q
   rw [q,hoc] at e
   have q':oc=p.2:=Option.some.inj e
   exact d w' (by rw [<- q'];exact hocd)
theorem q214 {M:Model} {A:Around} {E:VS} {i:Nat} (I:Inv X pins σ H s) (hN:X.N.Nodup) (hi:X.N[i]? = some x) (hx:Loc X.env.scope x) (r:RelV v u)
  (h:∀ s',Inv X pins (σ.set i (some v)) H s'->Q () s') (hf:X.fn x=true\/X.env.scope.names.lookup x=some .local:=by walk_at "a"):wpAny M A (storeName X.env x u) Q E s:=
 q224 I hN hi hx r (fun s' I' _=>h s' I') hf
theorem Inv.call' {s':Shared} (I:Inv X pins σ H s) (ho:s'.os=s.os) (u:Un (frs X.stack) ch H H' s.heap s'.heap) (hok:HOk X.prog X.w H' s'.heap) (hg:AllBare s'.gens)
  (hch:∀ b ∈ ch,(b ∈ X.ex\/X.s₀.heap.objs.size<=b)/\b ≠ X.env.locals/\(∀ x c,X.env.cells.lookup x=some c->c ≠ b) /\ ∀ p ∈ X.pn++pins,p.1 ≠ b):Inv X pins σ H' s':=by
 obtain ⟨h',g',d',t',o'⟩:=s'
 have e:o'=s.os:=ho
 subst e
 exact I.call (g':=g') (t':=t') (d':=d') u hok hg hch
end
abbrev XK:=Value->Option Addr->Hp->Prop
abbrev St:=List (Option V)
abbrev VK:=V->Hp->Prop
abbrev TE:=St->Hp->VK->Prop
abbrev TT:=St->Hp->(Bool->Hp->Prop)->Prop
abbrev TA:=St->Hp->(List V->Hp->Prop)->Prop
structure Ends where
 nx:St->Hp->Prop
 rt:VK
 bk:St->Hp->Prop:=fun _ _=>False
 ct:St->Hp->Prop:=fun _ _=>False
abbrev TS:=Ends->St->Hp->Prop
def EP (X:Cx) (pins:List (Addr × Obj)) (σ:St) (Q:VK) (u:Value) (s':Shared):Prop:=∃ v H',Inv X pins σ H' s'/\RelV v u/\Q v H'
def TP (X:Cx) (pins:List (Addr × Obj)) (σ:St) (Q:Bool->Hp->Prop) (b:Bool) (s':Shared):Prop:=∃ H',Inv X pins σ H' s'/\Q b H'
def AP (X:Cx) (pins:List (Addr × Obj)) (σ:St) (Q:List V->Hp->Prop) (us:List Value) (s':Shared):Prop:=∃ vs H',Inv X pins σ H' s'/\Vals vs us/\Q vs H'
def SP (X:Cx) (pins:List (Addr × Obj)) (D:Ends) (f:Flow) (s':Shared):Prop:=
 match f with
 | .next=>∃ σ' H',Inv X pins σ' H' s'/\D.nx σ' H'
 | .brk=>∃ σ' H',Inv X pins σ' H' s'/\D.bk σ' H'
 | .cont=>∃ σ' H',Inv X pins σ' H' s'/\D.ct σ' H'
 | .ret u=>∃ v σ' H',Inv X pins σ' H' s'/\RelV v u/\D.rt v H'
def PE (X:Cx) (e:Expr) (t:TE):Prop:=
 ∀ (pins:List (Addr × Obj)) (s:Shared) (σ:St) (H:Hp) (Q:VK),Inv X pins σ H s->t σ H Q->wpAny (model X.prog X.w) X.A (eval e X.env) (EP X pins σ Q) X.xe s
def PT (X:Cx) (e:Expr) (t:TT):Prop:=
 ∀ (pins:List (Addr × Obj)) (s:Shared) (σ:St) (H:Hp) (Q:Bool->Hp->Prop),Inv X pins σ H s->t σ H Q->wpAny (model X.prog X.w) X.A (isTrue e X.env (eval e X.env)) (TP X pins σ Q) X.xe s
def PW (X:Cx) (e:Expr) (t:TT):Prop:=
 ∀ (whole:Sem Value) (pins:List (Addr × Obj)) (s:Shared) (σ:St) (H:Hp) (Q:Bool->Hp->Prop),Inv X pins σ H s->t σ H Q->wpAny (model X.prog X.w) X.A (isTrue e X.env whole) (TP X pins σ Q) X.xe s
theorem PW.pt (h:PW X e t):PT X e t:=h _
def PA (X:Cx) (es:List Expr) (t:TA):Prop:=
 ∀ (pos:Pos) (pins:List (Addr × Obj)) (s:Shared) (σ:St) (H:Hp) (Q:List V->Hp->Prop),Inv X pins σ H s->t σ H Q->wpAny (model X.prog X.w) X.A (spliced (backTo pos (starEach es X.env))) (AP X pins σ Q) X.xe s
def PS (X:Cx) (st:Stmt) (t:TS):Prop:=
 ∀ (pins:List (Addr × Obj)) (s:Shared) (σ:St) (H:Hp) (D:Ends),Inv X pins σ H s->t D σ H->wpAny (model X.prog X.w) X.A (exec st X.env) (SP X pins D) X.xe s
def PSs (X:Cx) (st:List Stmt) (t:TS):Prop:=
 ∀ (pins:List (Addr × Obj)) (s:Shared) (σ:St) (H:Hp) (D:Ends),Inv X pins σ H s->t D σ H->wpAny (model X.prog X.w) X.A (execs st X.env) (SP X pins D) X.xe s
theorem thn {α:Type} {t:Sem α} {Q Q':α->Shared->Prop} {M:Model} {A:Around} {E:VS} {s:Shared} (h:wpAny M A t Q E s) (hQ:∀ a s,Q a s->Q' a s):wpAny M A t Q' E s:=wpAny_mono h hQ fun _ _ x=>x
section
def tVar (i:Nat):TE:=fun σ H Q=>∃ v,σ[i]? = some (some v)/\Q v H
def tC (v:V):TE:=fun _ H Q=>Q v H
theorem pe_var {i:Nat} {pos:Pos} (hN:X.N[i]? = some x) (hv:Vis X.env.scope x) (hd:(x == ("__debug__" : Str))=false:=by decide) (hcd:(x == ("__classdict__" : Str))=false:=by decide):PE X (.Name x pos) (tVar i):=by
 intro pins s σ H Q I h
 obtain ⟨v,e,h⟩:=h
 obtain ⟨m,hn,hl⟩:=I.loc
 obtain ⟨u,r,l⟩:=hl i x v hN e hv
 have fin:EP X pins σ Q u s:=⟨v,H,I,r,h⟩
 rcases l with ⟨hk,hm⟩ | ⟨hk,c,hc,hcell⟩
 ·exact wpAny_Name (wpAny_loadName_local I.ok.kind hk hn hm fin) hd
 ·rcases hk with hk | hk
  ·exact wpAny_Name (wpAny_loadName_cell I.ok.kind hk hc hcell fin) hd
  ·exact wpAny_Name (wpAny_loadName_free I.ok.kind hk hc hcell fin hcd) hd
theorem q13 {i j pos}:PE X (.Constant (.int i) j pos) (tC (.int i)):=fun _ _ _ H _ I h=>wpAny_Constant_int ⟨.int i,H,I.tok _,⟨_,rfl⟩,h⟩
theorem pe_bl {b j pos}:PE X (.Constant (.bool b) j pos) (tC (.bl b)):=fun _ _ _ H _ I h=>Constant_bool ⟨.bl b,H,I,rfl,h⟩
theorem q58 {j pos}:PE X (.Constant .none j pos) (tC .non):=fun _ _ _ H _ I h=>Constant_none ⟨.non,H,I,rfl,h⟩
theorem q42 {x j pos}:PE X (.Constant (.str x) j pos) (tC (.str x)):=fun _ _ _ H _ I h=>Calls.Constant_str ⟨.str x,H,I.tok _,⟨_,rfl⟩,h⟩
def Gl (X:Cx) (x:Str):Prop:=X.env.kindOf x=some .globalImplicit
theorem q580 {E:VS} {pos:Pos} (I:Inv X pins σ H s) (hg:Gl X x) (hm:X.mg x=some u) (h:Q u s)
  (hd:(x == ("__debug__" : Str))=false:=by decide):wpAny (model X.prog X.w) X.A (eval (.Name x pos) X.env) Q E s:=
 Calls.Name_function_global I.ok.kind hg (Calls.loadGlobal_global (by rw [I.ok.glob];exact I.mod.glob.keeps I.bk) hm h) hd
theorem q156 {E:VS} {pos:Pos} (I:Inv X pins σ H s) (hg:Gl X x) (hm:X.mg x=none) (hv:bootBuiltins x=some u) (h:Q u s)
  (hn:x ≠ "__name__" := by decide) (hd:(x == ("__debug__" : Str))=false:=by decide):wpAny (model X.prog X.w) X.A (eval (.Name x pos) X.env) Q E s:=by
 obtain ⟨mb,h1,h2⟩:=I.mod.blt
 exact Calls.Name_function_global I.ok.kind hg (Calls.loadGlobal_builtin (by rw [I.ok.glob];exact I.mod.glob.keeps I.bk) hm (by rw [I.ok.blt];exact h1.keeps I.bk) ((h2 x hn).trans hv) h) hd
theorem q308 {pos:Pos} (hg:Gl X x) (hm:X.mg x=none) (hv:bootBuiltins x=some u) (r:RelV v u) (hn:x ≠ "__name__" := by decide) (hd:(x == ("__debug__" : Str))=false:=by decide):PE X (.Name x pos) (tC v):=
 fun _ _ _ H _ I h=>q156 I hg hm hv ⟨v,H,I,r,h⟩ hn hd
variable {a b:Expr} {ta tb:TE} {pos:Pos}
def PC (X:Cx) (op:CmpOp) (a b:Expr) (t:TE):Prop:=
 ∀ (pins:List (Addr × Obj)) (s:Shared) (σ:St) (H:Hp) (Q:VK),Inv X pins σ H s->t σ H Q ->
  wpAny (model X.prog X.w) X.A (eval a X.env) (fun v s₁=>wpAny (model X.prog X.w) X.A (eval b X.env) (fun u s₂=>wpAny (model X.prog X.w) X.A (compareOp op v u) (EP X pins σ Q) X.xe s₂) X.xe s₁) X.xe s
def tB (t:TE):TT:=fun σ H Q=>t σ H fun x H1=>∃ c,x = .bl c/\Q c H1
theorem q353 {e:Expr} (h:PE X e t) (he:∀ whole,isTrue e X.env whole=(do let v <- whole;standAt e.pos;holding [v] (truthy v)):=by intro _;rfl):PT X e (tB t):=by
 intro pins s σ H Q I hw
 refine isTrue_plain (thn (h pins s σ H _ I hw) fun v s1 ⟨x,H1,I1,r1,q1⟩=>?_) (he _)
 obtain ⟨d,rfl,q⟩:=q1
 cases r1
 exact wpAny_truthy_bool ⟨H1,I1,q⟩
variable {tA tB':TT} {rest:List Expr}
def tAnd (t u:TT):TT:=fun σ H Q=>t σ H fun c H1=>if c=true then u σ H1 Q else Q false H1
def tOr (t u:TT):TT:=fun σ H Q=>t σ H fun c H1=>if c=true then Q true H1 else u σ H1 Q
def tNot (t:TT):TT:=fun σ H Q=>t σ H fun c H1=>Q (!c) H1
theorem q430 (ha:PT X a tA):PW X (.BoolOp .And [a] pos) tA:=by
 intro wh pins s σ H Q I h
 refine isTrue_and (thn (ha pins s σ H Q I h) fun c s1 e=>?_)
 cases c with
 | true=>exact isTrue_and_nil e
 | false=>exact e
theorem q88 (ha:PT X a tA):PW X (.BoolOp .Or [a] pos) tA:=by
 intro wh pins s σ H Q I h
 refine isTrue_or (thn (ha pins s σ H Q I h) fun c s1 e=>?_)
 cases c with
 | false=>exact isTrue_or_nil e
 | true=>exact e
theorem q581 (ha:PT X a tA) (hb:PW X (.BoolOp .And (b::rest) pos) tB'):PW X (.BoolOp .And (a::b::rest) pos) (tAnd tA tB'):=by
 intro wh pins s σ H Q I h
 refine isTrue_and (thn (ha pins s σ H _ I h) fun c s1 ⟨H1,I1,q1⟩=>?_)
 cases c with
 | true=>exact hb wh pins s1 σ H1 Q I1 q1
 | false=>exact ⟨H1,I1,q1⟩
theorem pw_or (ha:PT X a tA) (hb:PW X (.BoolOp .Or (b::rest) pos) tB'):PW X (.BoolOp .Or (a::b::rest) pos) (tOr tA tB'):=by
 intro wh pins s σ H Q I h
 refine isTrue_or (thn (ha pins s σ H _ I h) fun c s1 ⟨H1,I1,q1⟩=>?_)
 cases c with
 | true=>exact ⟨H1,I1,q1⟩
 | false=>exact hb wh pins s1 σ H1 Q I1 q1
theorem q472 (ha:PT X a tA):PT X (.UnaryOp .Not a pos) (tNot tA):=by
 intro pins s σ H Q I h
 exact isTrue_not (ha pins s σ H (fun c H1=>Q (!c) H1) I h)
def tAndV (ta tb:TE):TE:=fun σ H Q=>ta σ H fun x H1=>∃ c,x = .bl c/\if c=true then tb σ H1 Q else Q (.bl false) H1
def tOrV (ta tb:TE):TE:=fun σ H Q=>ta σ H fun x H1=>∃ c,x = .bl c/\if c=true then Q (.bl true) H1 else tb σ H1 Q
def tNotV (ta:TE):TE:=fun σ H Q=>ta σ H fun x H1=>∃ c,x = .bl c/\Q (.bl (!c)) H1
theorem q582 {op} (h:PE X a t):PE X (.BoolOp op [a] pos) t:=fun pins s σ H Q I hw=>BoolOp_one (h pins s σ H Q I hw)
theorem pe_and (ha:PE X a ta) (hb:PE X (.BoolOp .And (b::rest) pos) tb):PE X (.BoolOp .And (a::b::rest) pos) (tAndV ta tb):=by
 intro pins s σ H Q I h
 refine BoolOp_and (thn (ha pins s σ H _ I h) fun v s1 ⟨x,H1,I1,r1,q1⟩=>?_)
 obtain ⟨c,rfl,q1⟩:=q1
 cases r1
 refine wpAny_truthy_bool ?_
 cases c with
 | true=>exact hb pins s1 σ H1 Q I1 q1
 | false=>exact ⟨.bl false,H1,I1,rfl,q1⟩
theorem pe_or (ha:PE X a ta) (hb:PE X (.BoolOp .Or (b::rest) pos) tb):PE X (.BoolOp .Or (a::b::rest) pos) (tOrV ta tb):=by
 intro pins s σ H Q I h
 refine BoolOp_or (thn (ha pins s σ H _ I h) fun v s1 ⟨x,H1,I1,r1,q1⟩=>?_)
 obtain ⟨c,rfl,q1⟩:=q1
 cases r1
 refine wpAny_truthy_bool ?_
 cases c with
 | false=>exact hb pins s1 σ H1 Q I1 q1
 | true=>exact ⟨.bl true,H1,I1,rfl,q1⟩
theorem pe_not (ha:PE X a ta):PE X (.UnaryOp .Not a pos) (tNotV ta):=by
 intro pins s σ H Q I h
 refine UnaryOp_ (thn (ha pins s σ H _ I h) fun v s1 ⟨x,H1,I1,r1,q1⟩=>?_)
 obtain ⟨c,rfl,q1⟩:=q1
 cases r1
 exact not_of (wpAny_truthy_bool ⟨.bl (!c),H1,I1,rfl,q1⟩)
def tIf (t:TT) (ta tb:TE):TE:=fun σ H Q=>t σ H fun c H1=>if c=true then ta σ H1 Q else tb σ H1 Q
theorem q309 (hc:PT X c tA) (ha:PE X a ta) (hb:PE X b tb):PE X (.IfExp c a b pos) (tIf tA ta tb):=by
 intro pins s σ H Q I h
 refine wpAny_IfExp (thn (hc pins s σ H _ I h) fun d s1 ⟨H1,I1,q1⟩=>?_)
 cases d with
 | true=>exact ha pins s1 σ H1 Q I1 q1
 | false=>exact hb pins s1 σ H1 Q I1 q1
end
def SqL (K:Fg) (H:Hp) (a:Addr) (xs:List V):Prop:=
 Rd H a (.lst xs) \/
  ∃ (o:Obj) (its:Array Value) (n:Nat),K.lookup a=some o/\o.cls = .type "list" /\ o.dict=none/\o.data = .seq its n/\its.size<=sizeLine/\Vals xs its.toList
def SqT (K:Fg) (H:Hp) (a:Addr) (xs:List V):Prop:=
 Rd H a (.tup xs) \/
  ∃ (o:Obj) (its:Array Value) (n:Nat),K.lookup a=some o/\o.cls = .type "tuple" /\ o.data = .seq its n/\its.size<=sizeLine/\Vals xs its.toList
noncomputable def absV:Value->Option V
 | .none=>some .non
 | .bool b=>some (.bl b)
 | .int i _=>some (.int i)
 | .str x _=>some (.str x)
 | .bytes b _=>some (.byt b)
 | .float b _=>some (.flt b)
 | .ref a=>some (.ref a)
 | .type n=>some (.ty n)
 | _=>none
theorem RelV.abs (r:RelV x u):absV u=some x:=by
 cases x with
 | non=>cases r;rfl
 | bl _=>cases r;rfl
 | int _=>obtain ⟨t,rfl⟩:=r;rfl
 | str _=>obtain ⟨t,rfl⟩:=r;rfl
 | byt _=>obtain ⟨t,rfl⟩:=r;rfl
 | flt _=>obtain ⟨t,rfl⟩:=r;rfl
 | ref _=>cases r;rfl
 | ty _=>cases r;rfl
theorem RelV.inj (r:RelV x u) (q:RelV y u):x=y:=Option.some.inj (r.abs.symm.trans q.abs)
theorem Vals.inj:∀ {xs ys:List V} {us:List Value},Vals xs us->Vals ys us->xs=ys
 | _,_,_,.nil,.nil=>rfl
 | _,_,_,.cons r t,.cons r' t'=>by rw [r.inj r',Vals.inj t t']
section
variable {pins:List (Addr × Obj)} {σ:St} {H:Hp} {s:Shared} {a:Addr} {xs ys:List V}
theorem SqL.of {K:Fg} (h:H a=some (.lst xs)):SqL K H a xs:=.inl (.inl h)
theorem SqT.of {K:Fg} (h:H a=some (.tup xs)):SqT K H a xs:=.inl (.inl h)
theorem Inv.list (I:Inv X pins σ H s) (h:SqL X.K H a xs):∃ its:List Value,Vals xs its/\PlainL s.heap a its.toArray/\xs.length<=sizeLine:=by
 rcases h with h | ⟨o,its,n,hk,hc,hd,hs,hz,r⟩
 ·obtain ⟨z,its,n,r,e⟩:=h.ok I.hok
  exact ⟨its,r,⟨_,n,e,rfl,rfl,rfl⟩,z⟩
 ·refine ⟨its.toList,r,⟨o,n,I.kIn a o hk,hc,hd,by simpa using hs⟩,?_⟩
  have e:=r.length
  simp only [Array.length_toList] at e
  omega
theorem Inv.tuple (I:Inv X pins σ H s) (h:SqT X.K H a xs):∃ its:List Value,Vals xs its/\IsTup s.heap a its.toArray/\xs.length<=sizeLine:=by
 rcases h with h | ⟨o,its,n,hk,hc,hs,hz,r⟩
 ·obtain ⟨z,its,r,p⟩:=h.ok I.hok
  exact ⟨its,r,p,z⟩
 ·refine ⟨its.toList,r,⟨o,I.kIn a o hk,hc,n,by simpa using hs⟩,?_⟩
  have e:=r.length
  simp only [Array.length_toList] at e
  omega
theorem Inv.list_inj (I:Inv X pins σ H s) (h:SqL X.K H a xs) (h':SqL X.K H a ys):xs=ys:=by
 obtain ⟨its,r,⟨o,n,e,_,_,d⟩,_⟩:=I.list h
 obtain ⟨its',r',⟨o',n',e',_,_,d'⟩,_⟩:=I.list h'
 rw [e] at e';cases e'
 rw [d] at d'
 injection d' with d1 _
 have:its=its':=by simpa using congrArg Array.toList d1
 subst this
 exact r.inj r'
theorem Inv.tuple_inj (I:Inv X pins σ H s) (h:SqT X.K H a xs) (h':SqT X.K H a ys):xs=ys:=by
 obtain ⟨its,r,⟨o,e,_,n,d⟩,_⟩:=I.tuple h
 obtain ⟨its',r',⟨o',e',_,n',d'⟩,_⟩:=I.tuple h'
 rw [e] at e';cases e'
 rw [d] at d'
 injection d' with d1 _
 have:its=its':=by simpa using congrArg Array.toList d1
 subst this
 exact r.inj r'
end
noncomputable abbrev Cx.wish (X:Cx) (E:VS):Cx:={ X with xe:=E }
noncomputable abbrev Cx.nox (X:Cx):Cx:=X.wish fun _ _=>False
theorem Cx.Ok.wish {X:Cx} (ok:X.Ok) (E:VS):(X.wish E).Ok:=
 ⟨ok.mod,ok.kind,ok.glob,ok.blt,ok.above,ok.inj,ok.has,ok.cab,ok.hd,ok.frames,ok.stk,ok.exf,ok.bs,ok.bsz,ok.noex,ok.exfs,ok.funs,ok.frf⟩
theorem Cx.Ok.unwish {X:Cx} (ok:(X.wish E).Ok):X.Ok:=
 ⟨ok.mod,ok.kind,ok.glob,ok.blt,ok.above,ok.inj,ok.has,ok.cab,ok.hd,ok.frames,ok.stk,ok.exf,ok.bs,ok.bsz,ok.noex,ok.exfs,ok.funs,ok.frf⟩
section
variable {pins:List (Addr × Obj)} {σ:St} {H:Hp} {s:Shared} {E:VS}
theorem Inv.wish (I:Inv X pins σ H s) (E:VS):Inv (X.wish E) pins σ H s:=⟨I.ok.wish E,I.os,I.bare,I.base,I.loc,I.cell,I.free,I.freeC,I.pin,I.hok,I.len⟩
theorem Inv.unwish (I:Inv (X.wish E) pins σ H s):Inv X pins σ H s:=⟨I.ok.unwish,I.os,I.bare,I.base,I.loc,I.cell,I.free,I.freeC,I.pin,I.hok,I.len⟩
theorem SP.unwish (h:SP (X.wish E) pins D f s'):SP X pins D f s':=by
 cases f with
 | next=>obtain ⟨σ',H',I,q⟩:=h;exact ⟨σ',H',I.unwish,q⟩
 | brk=>obtain ⟨σ',H',I,q⟩:=h;exact ⟨σ',H',I.unwish,q⟩
 | cont=>obtain ⟨σ',H',I,q⟩:=h;exact ⟨σ',H',I.unwish,q⟩
 | ret u=>obtain ⟨v,σ',H',I,r,q⟩:=h;exact ⟨v,σ',H',I.unwish,r,q⟩
theorem PSs.nox {st:List Stmt} {t:TS} (h:PSs X.nox st t):PSs X st t:=fun pins s σ H D I hw=>
 wpAny_mono (h pins s σ H D (I.wish _) hw) (fun _ _ q=>q.unwish) fun _ _ z=>False.elim z
end
section
variable {st:Stmt} {rest:List Stmt} {t u:TS} {e:Expr} {te:TE} {pos:Pos}
def tNext:TS:=fun D σ H=>D.nx σ H
def tSeq (t u:TS):TS:=fun D σ H=>t { D with nx:=u D } σ H
theorem q21:PSs X [] tNext:=fun _ _ σ H _ I h=>wpAny_execs_nil ⟨σ,H,I,h⟩
theorem q12 (h1:PS X st t) (h2:PSs X rest u):PSs X (st::rest) (tSeq t u):=by
 intro pins s σ H D I h
 refine wpAny_execs_cons (thn (h1 pins s σ H { D with nx:=u D } I h) fun f s1 q=>?_)
 cases f with
 | next=>
  obtain ⟨σ',H',I',q⟩:=q
  exact h2 pins s1 σ' H' D I' q
 | ret v=>exact q
 | brk=>exact q
 | cont=>exact q
theorem q15 (h1:PS X st t):PSs X [st] t:=by
 intro pins s σ H D I h
 refine wpAny_execs_cons (thn (h1 pins s σ H D I h) fun f s1 q=>?_)
 cases f with
 | next=>exact wpAny_execs_nil q
 | ret v=>exact q
 | brk=>exact q
 | cont=>exact q
theorem Inv.quiet (I:Inv X pins σ H s):interactive X.env=false:=by simp [interactive,I.ok.kind]
def tDrop (te:TE):TS:=fun D σ H=>te σ H fun _ H1=>D.nx σ H1
theorem q98 (he:PE X e te) (hs:swapsWith e none pos.line X.env=pure false:=by rfl):PS X (.Expr e pos) (tDrop te):=by
 intro pins s σ H D I h
 exact wpAny_Expr_any (thn (he pins s σ H _ I h) fun v s1 ⟨x,H1,I1,r1,q1⟩=>⟨σ,H1,I1,q1⟩) I.quiet hs
def tRet (te:TE):TS:=fun D σ H=>te σ H D.rt
theorem q18 (he:PE X e te):PS X (.Return (some e) pos) (tRet te):=by
 intro pins s σ H D I h
 exact wpAny_Return_some (thn (he pins s σ H _ I h) fun v s1 ⟨x,H1,I1,r1,q1⟩=>⟨x,σ,H1,I1,r1,q1⟩)
def tIfS (c:TT) (t u:TS):TS:=fun D σ H=>c σ H fun b H1=>if b=true then t D σ H1 else u D σ H1
theorem ps_if (hc:PT X c tc) (ha:PSs X a t) (hb:PSs X b u):PS X (.If c a b pos) (tIfS tc t u):=by
 intro pins s σ H D I h
 refine wpAny_If (thn (hc pins s σ H _ I h) fun d s1 ⟨H1,I1,q1⟩=>?_)
 cases d with
 | true=>exact ha pins s1 σ H1 D I1 q1
 | false=>exact hb pins s1 σ H1 D I1 q1
def tNever:TS:=fun _ _ _=>False
theorem q63:PS X st tNever:=fun _ _ _ _ _ _ h=>h.elim
end
abbrev TG:=V->St->Hp->(St->Hp->Prop)->Prop
abbrev TGs:=List V->St->Hp->(St->Hp->Prop)->Prop
def PG (X:Cx) (target:Expr) (t:TG):Prop:=
 ∀ (pins:List (Addr × Obj)) (s:Shared) (σ:St) (H:Hp) (v:V) (u:Value) (Q:St->Hp->Prop),Inv X pins σ H s->RelV v u->t v σ H Q ->
  wpAny (model X.prog X.w) X.A (assign target X.env u) (fun _ s'=>∃ σ' H',Inv X pins σ' H' s'/\Q σ' H') X.xe s
def PGs (X:Cx) (ts:List Expr) (t:TGs):Prop:=
 ∀ (pins:List (Addr × Obj)) (s:Shared) (σ:St) (H:Hp) (vs:List V) (us:List Value) (Q:St->Hp->Prop),Inv X pins σ H s->Vals vs us->t vs σ H Q ->
  wpAny (model X.prog X.w) X.A (assignInOrder ((assignEach ts X.env).map (·.2)) us) (fun _ s'=>∃ σ' H',Inv X pins σ' H' s'/\Q σ' H') X.xe s
abbrev TSet:=V->V->V->Hp->(Hp->Prop)->Prop
def PSet (X:Cx) (t:TSet):Prop:=
 ∀ (pins:List (Addr × Obj)) (s:Shared) (σ:St) (H:Hp) (o i v:V) (ov iv u:Value) (Q:Hp->Prop),Inv X pins σ H s->RelV o ov->RelV i iv->RelV v u->t o i v H Q ->
  wpAny (model X.prog X.w) X.A (setItem ov iv u) (fun _ s'=>∃ H',Inv X pins σ H' s'/\Q H') X.xe s
section
variable {pos:Pos}
def gName (i:Nat):TG:=fun v σ H Q=>Q (σ.set i (some v)) H
theorem q183 {i:Nat} (hN:X.N.Nodup) (hi:X.N[i]? = some x) (hx:Loc X.env.scope x) (hf:X.fn x=true\/X.env.scope.names.lookup x=some .local:=by walk_at "a"):PG X (.Name x pos) (gName i):=by
 intro pins s σ H v u Q I r h
 exact wpAny_assign_Name (q214 I hN hi hx r (fun s' I'=>⟨_,H,I',h⟩) hf)
def gNil:TGs:=fun vs σ H Q=>vs=[]/\Q σ H
def gCons (t:TG) (u:TGs):TGs:=fun vs σ H Q=>∃ v r,vs=v::r/\t v σ H fun σ' H'=>u r σ' H' Q
theorem q122:PGs X [] gNil:=by
 intro pins s σ H vs us Q I r h
 obtain ⟨e,h⟩:=h
 subst e
 cases r
 exact assignInOrder_nil ⟨σ,H,I,h⟩
theorem q35 (h1:PG X e t) (h2:PGs X es u)
  (hs:(assignEach (e::es) X.env).map (·.2)=assign e X.env::(assignEach es X.env).map (·.2):=by rfl):PGs X (e::es) (gCons t u):=by
 intro pins s σ H vs us Q I r h
 obtain ⟨v,vr,e1,h⟩:=h
 subst e1
 cases r with
 | cons r rr=>
  rw [hs]
  refine assignInOrder_cons (thn (h1 pins s σ H _ _ _ I r h) fun _ s1 ⟨σ1,H1,I1,q1⟩=>?_)
  exact h2 pins s1 σ1 H1 _ _ Q I1 rr q1
def gTup (K:Fg) (n:Nat) (t:TGs):TG:=fun v σ H Q=>∃ a xs,v = .ref a/\SqT K H a xs/\xs.length=n/\t xs σ H Q
theorem q225 {k:Nat} {n:Nat} (hc:X.calm=true) (h:PGs X es t)
  (hn:(assignEach es X.env).length=n:=by rfl) (hst:(assignEach es X.env).findIdx? (·.1)=none:=by rfl):PG X (.Tuple es k pos) (gTup X.K n t):=by
 intro pins s σ H v u Q I r hw
 obtain ⟨a,xs,e1,hq,hl,hw⟩:=hw
 subst e1
 cases r
 obtain ⟨its,rv,ht,hz⟩:=I.tuple hq
 refine assign_Tuple_tuple (I.ok.hd hc) ht (by simp [hn,<- hl,rv.length]) hst fun h' hx=>?_
 have I1:Inv X pins σ H { s with heap:=h' }:=I.kept (t':=s.toks) fun b o e=>hx b o (Nat.ne_of_lt (Heap.lt_size e)) e
 exact h pins _ σ H xs _ Q I1 (by simpa using rv) hw
def gSub (to ti:TE) (t:TSet):TG:=fun v σ H Q=>to σ H fun o H1=>ti σ H1 fun i H2=>t o i v H2 fun H3=>Q σ H3
theorem pg_sub (ho:PE X o to) (hi:PE X i ti) (hs:PSet X t)
  (ha:∀ v,assign (.Subscript o i pos) X.env v=(do
   let ov <- holding [v] (eval o X.env)
   let iv <- holding [v,ov] (eval i X.env)
   standAt pos
   holding [v,ov,iv] (setItem ov iv v)
   release [v,ov,iv] []):=by intro _;rfl):PG X (.Subscript o i pos) (gSub to ti t):=by
 intro pins s σ H v u Q I r h
 rw [ha]
 refine wpAny_bind (wpAny_holding (thn (ho pins s σ H _ I h) fun ov s1 ⟨x,H1,I1,r1,q1⟩=>?_))
 refine wpAny_bind (wpAny_holding (thn (hi pins s1 σ H1 _ I1 q1) fun iv s2 ⟨y,H2,I2,r2,q2⟩=>?_))
 refine wpAny_bind (wpAny_standAt (wpAny_bind (wpAny_holding (thn (hs pins s2 σ H2 x y v ov iv u _ I2 r1 r2 r q2) fun _ s3 ⟨H3,I3,q3⟩=>?_))))
 exact wpAny_release ⟨σ,H3,I3,q3⟩
def tAsg (te:TE) (g:TG):TS:=fun D σ H=>te σ H fun x H1=>g x σ H1 D.nx
theorem q226 (he:PE X e te) (hg:PG X tg g) (hs:swapsWithSole [tg] e pos.line X.env=pure false:=by rfl) (hw:swappedStores [tg] e X.env=pure none:=by rfl)
  (h1:(assignEach [tg] X.env).map (·.2)=[assign tg X.env]:=by rfl):PS X (.Assign [tg] e pos) (tAsg te g):=by
 intro pins s σ H D I h
 refine wpAny_Assign_stores (thn (he pins s σ H _ I h) fun v s1 ⟨x,H1,I1,r1,q1⟩=>?_) hs hw
 rw [h1]
 exact thn (hg pins s1 σ H1 x v _ I1 r1 q1) fun _ s2 q=>q
theorem ps_set {i:Nat} (hN:X.N.Nodup) (hi:X.N[i]? = some x) (hx:Loc X.env.scope x) (he:PE X e te) (hs:swapsWith e (some (.Name x pos')) pos.line X.env=pure false:=by rfl) (hf:X.fn x=true\/X.env.scope.names.lookup x=some .local:=by walk_at "a") :
  PS X (.Assign [.Name x pos'] e pos) (tAsg te (gName i)):=by
 intro pins s σ H D I h
 refine wpAny_Assign_Name (thn (he pins s σ H _ I h) fun v s1 ⟨y,H1,I1,r1,q1⟩=>?_) hs
 exact q214 I1 hN hi hx r1 (fun s2 I2=>⟨_,H1,I2,q1⟩) hf
def tPar (i j:Nat) (ta:TA):TS:=fun D σ H=>ta σ H fun vs H1=>∃ v w,vs=[v,w]/\D.nx ((σ.set i (some v)).set j (some w)) H1
theorem ps_par {i j:Nat} {kt k2 pt2} (hc:X.calm=true) (hN:X.N.Nodup) (hi:X.N[i]? = some x) (hj:X.N[j]? = some y) (hij:i ≠ j)
  (hx:X.env.scope.names.lookup x=some .local) (hy:X.env.scope.names.lookup y=some .local) (ha:PA X [a,b] ta)
  (hw:swappedStores [.Tuple [.Name x px,.Name y py] kt pt] (.Tuple [a,b] k2 pt2) X.env=pure (some [x,y]))
  (hs:swapsWithSole [.Tuple [.Name x px,.Name y py] kt pt] (.Tuple [a,b] k2 pt2) pos.line X.env=pure false:=by rfl) :
  PS X (.Assign [.Tuple [.Name x px,.Name y py] kt pt] (.Tuple [a,b] k2 pt2) pos) (tPar i j ta):=by
 intro pins s σ H D I h
 rw [exec_Assign_arm]
 refine wpAny_bind (wpAny_standAt ?_)
 rw [hs]
 refine wpAny_bind (wpAny_pure ?_)
 rw [if_neg (by decide)]
 refine wpAny_bind (Tuple_ (thn (ha _ pins s σ H _ I h) fun us s1 ⟨vs,H1,I1,r1,q1⟩=>?_))
 obtain ⟨v,w,e1,q1⟩:=q1
 subst e1
 obtain ⟨u1,u2,rfl,rv,rw'⟩:∃ u1 u2,us=[u1,u2]/\RelV v u1/\RelV w u2:=by
  cases r1 with
  | cons p q=>
   cases q with
   | cons p' q'=>
    cases q'
    exact ⟨_,_,rfl,p,p'⟩
 refine wpAny_newObj_type ?_ (by show 2<=sizeLine;decide)
 have I2:Inv X pins σ H1 { s1 with heap:=s1.heap.push { cls:=.type "tuple", data:=.seq [u1,u2].toArray } }:=I1.kept (t':=s1.toks) fun b o e=>Heap.get?_push_of_some _ e
 rw [hw]
 refine wpAny_bind (wpAny_pure ?_)
 show wpAny (model X.prog X.w) X.A (do rule "assign.swapped-stores"; let items <- unpackItems (.ref s1.heap.objs.size) 2 none;assignInOrder [fun v=>bindName X.env y v,fun v=>bindName X.env x v] items.reverse;pure Flow.next) _ _ _
 refine wpAny_bind (wpAny_rule (wpAny_bind (unpackItems_tuple (items:=#[u1,u2]) (I.ok.hd hc) (IsTup.new s1.heap _) fun h' hx'=>?_)))
 have I3:=I2.kept (h':=h') (t':=s1.toks) fun b o e=>hx' b o (Nat.ne_of_lt (Heap.lt_size e)) e
 show wpAny _ _ (assignInOrder [fun v=>bindName X.env y v,fun v=>bindName X.env x v] [u2,u1] >>= fun _=>pure Flow.next) _ _ _
 refine wpAny_bind (assignInOrder_cons (wpAny_bindName (q214 I3 hN hj (.inl hy) rw' (fun s2 I4=>?_) (.inr hy))))
 refine assignInOrder_cons (wpAny_bindName (q214 I4 hN hi (.inl hx) rv (fun s3 I5=>assignInOrder_nil (wpAny_pure ?_)) (.inr hx)))
 rw [List.set_comm _ _ (Ne.symm hij)] at I5
 exact ⟨_,H1,I5,q1⟩
end
section
variable {pos:Pos}
def tWhile (c:TT) (tb:TS):TS:=fun D σ H=>∃ W:Nat->St->Hp->Prop,(∃ m,W m σ H) /\ ∀ m σ H,W m σ H ->
 c σ H fun b H1=>if b=true then ∃ N:St->Hp->Prop,(∀ σ' H',N σ' H' -> ∃ m',m' < m/\W m' σ' H')/\tb { D with nx:=N,ct:=N,bk:=D.nx } σ H1 else D.nx σ H1
theorem q310 (hp:PassesOwn (model X.prog X.w) X.A X.env X.xe) (hc:PT X c tc) (hb:PSs X body tb):PS X (.While c body [] pos) (tWhile tc tb):=by
 intro pins s σ H D I h
 obtain ⟨W,⟨m0,w0⟩,turn⟩:=h
 refine wpAny_While (codeAny_whileLoop (fun n s'=>∃ σ' H',Inv X pins σ' H' s'/\W n σ' H') ?_ m0 ⟨σ,H,I,w0⟩)
 rintro n s1 ⟨σ1,H1,I1,w1⟩
 refine wpAny_passesOwn hp (thn (hc pins s1 σ1 H1 _ I1 (turn n σ1 H1 w1)) fun b s2 ⟨H2,I2,q2⟩=>?_)
 cases b with
 | true=>
  obtain ⟨N,hN,q2⟩:=q2
  rw [if_pos rfl]
  refine wpAny_passesOwn hp (thn (hb pins s2 σ1 H2 _ I2 q2) fun f s3 q3=>?_)
  cases f with
  | next=>
   obtain ⟨σ3,H3,I3,n3⟩:=q3
   obtain ⟨m',hm,w3⟩:=hN σ3 H3 n3
   exact ⟨m',hm,σ3,H3,I3,w3⟩
  | cont=>
   obtain ⟨σ3,H3,I3,n3⟩:=q3
   obtain ⟨m',hm,w3⟩:=hN σ3 H3 n3
   exact ⟨m',hm,σ3,H3,I3,w3⟩
  | brk=>exact q3
  | ret v=>exact q3
 | false=>
  rw [if_neg fnt]
  exact wpAny_execs_nil ⟨σ1,H2,I2,q2⟩
end
structure It where
 go:Nat->Hp->Prop
 yld:Nat->Hp->V->Hp->Prop
 stop:Nat->Hp->Prop
def FpOk (X:Cx) (pins:List (Addr × Obj)) (H:Hp) (b:Addr):Prop:=
 H b=none/\b ≠ X.env.locals/\b ∉ X.fs/\(b ∈ X.ex\/X.s₀.heap.objs.size<=b)/\(∀ x c,X.env.cells.lookup x=some c->c ≠ b) /\ ∀ p ∈ X.pn++pins,p.1 ≠ b
theorem Inv.fpOk {s:Shared} (I:Inv X pins σ H s) (hb:s.heap.objs.size<=b) (hn:H' b=none):FpOk X pins H' b:=by
 refine ⟨hn,Nat.ne_of_gt (Nat.lt_of_lt_of_le I.lt hb),I.nofs hb,.inr (Nat.le_trans I.sz hb),fun x c e z=>?_,fun p hp z=>?_⟩
 ·obtain ⟨v,q⟩:=I.cell x c e
  exact absurd (Nat.lt_of_lt_of_le q.lt (by rw [z];exact hb)) (Nat.lt_irrefl _)
 ·exact absurd (Nat.lt_of_lt_of_le (Heap.lt_size (I.pin p hp).1) (by rw [z];exact hb)) (Nat.lt_irrefl _)
structure Turn (P:Program) (w:World) (K:Fg) (tg:Expr) (J:It) (fp:List Addr) (it:Addr) (tn:Nat->Heap->Prop):Prop where
 mem:it ∈ fp
 obj:∀ i h,tn i h -> ∀ b ∈ fp,∃ o,h.get? b=some o /\ ∀ v,o.data ≠ .cell v
 keep:∀ i h h',tn i h->(∀ b ∈ fp,∀ o,h.get? b=some o->h'.get? b=some o)->tn i h'
 item:∀ (X:Cx),X.prog=P->X.w=w->X.K=K->X.calm=true -> ∀ (i:Nat) (pins:List (Addr × Obj)) (s:Shared) (σ:St) (H:Hp) (E:VS),Inv X pins σ H s->(∀ b ∈ fp,FpOk X pins H b)->tn i s.heap->J.go i H ->
  wpAny (model P w) X.A (pyNext (.ref it)) (fun r s1=>∃ u,r=some u /\
   wpAny (model P w) X.A (letOwnedTupleGo tg (.ref it) u) (fun _ s2=>∃ x H',Inv X pins σ H' s2/\RelV x u/\J.yld i H x H'/\tn (i+1) s2.heap /\ ∀ b ∈ fp,H' b=none) E s1) E s
 done:∀ (X:Cx),X.prog=P->X.w=w->X.K=K->X.calm=true -> ∀ (i:Nat) (pins:List (Addr × Obj)) (s:Shared) (σ:St) (H:Hp) (E:VS),Inv X pins σ H s->(∀ b ∈ fp,FpOk X pins H b)->tn i s.heap->J.stop i H ->
  wpAny (model P w) X.A (pyNext (.ref it)) (fun r s1=>r=none/\Inv X pins σ H s1) E s
 self:∀ (A:Around) (i:Nat) (s:Shared) (Q:VS) (E:VS),tn i s.heap->Q (.ref it) s->wpAny (model P w) A (pyIter (.ref it)) Q E s
abbrev TI:=St->Hp->(It->Hp->Prop)->Prop
def PIE (X:Cx) (pins:List (Addr × Obj)) (σ:St) (tg:Expr) (R:It->Hp->Prop) (itv:Value) (s2:Shared):Prop:=
 ∃ (it:Addr) (fp:List Addr) (tn:Nat->Heap->Prop) (J:It) (H':Hp),itv = .ref it/\Inv X pins σ H' s2/\Turn X.prog X.w X.K tg J fp it tn/\tn 0 s2.heap/\(∀ b ∈ fp,FpOk X pins H' b)/\R J H'
def PI (X:Cx) (tg iter:Expr) (wi:TI):Prop:=
 ∀ (pins:List (Addr × Obj)) (s:Shared) (σ:St) (H:Hp) (R:It->Hp->Prop),Inv X pins σ H s->wi σ H R ->
  wpAny (model X.prog X.w) X.A (eval iter X.env) (fun v s1=>wpAny (model X.prog X.w) X.A (pyIter v) (PIE X pins σ tg R) X.xe s1) X.xe s
theorem go_of {s:Shared} {o:Obj} (ho:s.heap.get? it=some o) (hc:o.cls = .type n) (hd:o.data = .fields vs)
  (hn:["enumerate", "zip", "dict_itemiterator", "dict_reverseitemiterator", "odict_iterator", "itertools.zip_longest", "itertools.pairwise"].contains n=false) (hQ:Q () s):wpAny M A (letOwnedTupleGo tg (.ref it) u) Q E s:=by
 unfold letOwnedTupleGo
 cases tg <;> first
  | exact wpAny_pure hQ
  | (cases u <;> first
    | exact wpAny_pure hQ
    | (refine wpAny_bind (wpAny_load ho ?_)
       rw [hc,hd]
       show wpAny M A (if (["enumerate", "zip", "dict_itemiterator", "dict_reverseitemiterator", "odict_iterator", "itertools.zip_longest", "itertools.pairwise"].contains n && vs[0]? == some (rawInt _))=true then _ else _) Q E s
       rw [if_neg (by intro h;rw [hn,Bool.false_and] at h;cases h)]
       exact wpAny_pure hQ))
def Itl (K:Fg) (a:Addr):It:=
 ⟨fun i H=>∃ xs x,SqL K H a xs/\xs[i]? = some x,fun i H x H'=>H'=H /\ ∀ xs,SqL K H a xs->xs[i]? = some x,fun i H=>∃ xs,SqL K H a xs/\xs.length<=i⟩
noncomputable def Itt (K:Fg) (a:Addr):It:=
 ⟨fun i H=>∃ xs x,SqT K H a xs/\xs[i]? = some x,fun i H x H'=>H'=H /\ ∀ xs,SqT K H a xs->xs[i]? = some x,fun i H=>∃ xs,SqT K H a xs/\xs.length<=i⟩
def Itr (lo:Int) (n:Nat):It:=⟨fun i _=>i < n,fun i H x H'=>H'=H/\x = .int (lo+i),fun i _=>n<=i⟩
theorem q583 {P:Program} {w:World} {K:Fg} {tg:Expr} (a it:Addr):Turn P w K tg (Itl K a) [it] it (fun i h=>h.IsListIter it a i) where
 mem:=by simp
 obj:=fun i h st b hb=>by
  have e:b=it:=by simpa using hb
  subst e
  obtain ⟨o,e,c,d⟩:=st
  exact ⟨o,e,fun v z=>by rw [d] at z;cases z⟩
 keep:=fun i h h' st k=>st.at fun o e=>k it (by simp) o e
 item:=by
  intro X hP hw hK hc i pins s σ H E I hf st hg
  subst hP hw hK
  obtain ⟨xs,x,hq,hx⟩:=hg
  obtain ⟨its,rv,p,hz⟩:=I.list hq
  obtain ⟨u,hu,ru⟩:=rv.get hx
  obtain ⟨f0,f1,f2,f3,f4,f5⟩:=hf it (by simp)
  refine wpAny_pyNext_list_item st p.isList (x:=u) (by simpa using hu) fun h' st' sb=>?_
  have I1:Inv X pins σ H { s with heap:=h' }:=I.turned (t':=s.toks) (fun b o hb e=>(sb.2 b hb).trans e) f0 f1 f3 f4 f5
  obtain ⟨o,e,c,d⟩:=id st'
  exact ⟨u,rfl,go_of (s:={ s with heap:=h' }) e c d (by decide) ⟨x,H,I1,ru,⟨rfl,fun ys hy=>by rw [I.list_inj hy hq];exact hx⟩,st',fun b hb=>(hf b hb).1⟩⟩
 done:=by
  intro X hP hw hK hc i pins s σ H E I hf st hg
  subst hP hw hK
  obtain ⟨xs,hq,hx⟩:=hg
  obtain ⟨its,rv,p,hz⟩:=I.list hq
  obtain ⟨f0,f1,f2,f3,f4,f5⟩:=hf it (by simp)
  have hl:=rv.length
  exact wpAny_pyNext_list_end (I.ok.hd hc) st p.isList (by simp;omega) fun h' eb=>⟨rfl,I.turned (t':=s.toks) (fun b o hb e=>eb b o hb e) f0 f1 f3 f4 f5⟩
 self:=fun _ _ _ _ _ st h=>wpAny_pyIter_listiter st h
theorem q520 {P:Program} {w:World} {K:Fg} {tg:Expr} (a it:Addr):Turn P w K tg (Itt K a) [it] it (fun i h=>h.IsTupleIter it a i) where
 mem:=by simp
 obj:=fun i h st b hb=>by
  have e:b=it:=by simpa using hb
  subst e
  obtain ⟨o,e,c,d⟩:=st
  exact ⟨o,e,fun v z=>by rw [d] at z;cases z⟩
 keep:=fun i h h' st k=>st.at fun o e=>k it (by simp) o e
 item:=by
  intro X hP hw hK hc i pins s σ H E I hf st hg
  subst hP hw hK
  obtain ⟨xs,x,hq,hx⟩:=hg
  obtain ⟨its,rv,p,hz⟩:=I.tuple hq
  obtain ⟨u,hu,ru⟩:=rv.get hx
  obtain ⟨f0,f1,f2,f3,f4,f5⟩:=hf it (by simp)
  refine wpAny_pyNext_tuple_item st (show s.heap.IsTuple a its.toArray from p) (x:=u) (by simpa using hu) fun h' st' sb=>?_
  have I1:Inv X pins σ H { s with heap:=h' }:=I.turned (t':=s.toks) (fun b o hb e=>(sb.2 b hb).trans e) f0 f1 f3 f4 f5
  obtain ⟨o,e,c,d⟩:=id st'
  exact ⟨u,rfl,go_of (s:={ s with heap:=h' }) e c d (by decide) ⟨x,H,I1,ru,⟨rfl,fun ys hy=>by rw [I.tuple_inj hy hq];exact hx⟩,st',fun b hb=>(hf b hb).1⟩⟩
 done:=by
  intro X hP hw hK hc i pins s σ H E I hf st hg
  subst hP hw hK
  obtain ⟨xs,hq,hx⟩:=hg
  obtain ⟨its,rv,p,hz⟩:=I.tuple hq
  obtain ⟨f0,f1,f2,f3,f4,f5⟩:=hf it (by simp)
  have hl:=rv.length
  exact wpAny_pyNext_tuple_end (I.ok.hd hc) st (show s.heap.IsTuple a its.toArray from p) (by simp;omega) fun h' eb=>⟨rfl,I.turned (t':=s.toks) (fun b o hb e=>eb b o hb e) f0 f1 f3 f4 f5⟩
 self:=fun _ _ _ _ _ st h=>wpAny_pyIter_tupleiter st h
theorem q521 {P:Program} {w:World} {K:Fg} {tg:Expr} (it:Addr) (lo:Int) (n:Nat):Turn P w K tg (Itr lo n) [it] it (fun i h=>IsRangeIter h it (lo+(i:Nat) * 1) ((n:Int) - (i:Nat)) 1) where
 mem:=by simp
 obj:=fun i h st b hb=>by
  have e:b=it:=by simpa using hb
  subst e
  exact ⟨_,st,fun v z=>by
   have z':Data.fields _=Data.cell v:=z
   cases z'⟩
 keep:=fun i h h' st k=>k it (by simp) _ st
 item:=by
  intro X hP hw hK hc i pins s σ H E I hf st hg
  subst hP hw hK
  obtain ⟨f0,f1,f2,f3,f4,f5⟩:=hf it (by simp)
  have W:=Walks.range (prog:=X.prog) (w:=X.w) (I.ok.hd hc) it lo 1 n
  refine W.item i s _ _ hg st fun v h' tk hv st' kk=>?_
  obtain ⟨t,rfl⟩:=hv
  have I1:Inv X pins σ H { s with heap:=h',toks:=tk }:=I.turned (fun b o hb e=>kk b o (by simpa using hb) e) f0 f1 f3 f4 f5
  refine ⟨_,rfl,go_of (s:={ s with heap:=h',toks:=tk }) (n := "range_iterator") st' rfl rfl (by decide) ⟨.int (lo+i),H,I1,⟨t,?_⟩,⟨rfl,rfl⟩,st',fun b hb=>(hf b hb).1⟩⟩
  rw [Int.mul_one]
 done:=by
  intro X hP hw hK hc i pins s σ H E I hf st hg
  subst hP hw hK
  obtain ⟨f0,f1,f2,f3,f4,f5⟩:=hf it (by simp)
  exact wpAny_pyNext_range_end (I.ok.hd hc) st (by have:n<=i:=hg;omega) fun h' eb=>⟨rfl,I.turned (t':=s.toks) (fun b o hb e=>eb b o hb e) f0 f1 f3 f4 f5⟩
 self:=fun _ _ _ _ _ st h=>wpAny_pyIter_rangeiter st h
section
variable {tg:Expr}
def iList (K:Fg) (tl:TE):TI:=fun σ H R=>tl σ H fun x H1=>∃ a,x = .ref a/\(∃ xs,SqL K H1 a xs)/\R (Itl K a) H1
def iTup (K:Fg) (tl:TE):TI:=fun σ H R=>tl σ H fun x H1=>∃ a,x = .ref a/\(∃ xs,SqT K H1 a xs)/\R (Itt K a) H1
theorem q50 {l:Expr} {tl:TE} (hl:PE X l tl):PI X tg l (iList X.K tl):=by
 intro pins s σ H R I h
 refine thn (hl pins s σ H _ I h) fun v s1 ⟨x,H1,I1,r1,q1⟩=>?_
 obtain ⟨a,e,⟨xs,hq⟩,q⟩:=q1
 subst e
 cases r1
 obtain ⟨its,rv,p,hz⟩:=I1.list hq
 refine wpAny_pyIter_list p.isList ?_
 refine ⟨s1.heap.objs.size,[s1.heap.objs.size],_,_,H1,rfl,I1.kept (t':=s1.toks) fun b o e=>Heap.get?_push_of_some _ e,q583 a _,⟨_,Heap.get?_push_size _ rfl,rfl,rfl⟩,fun b hb=>?_,q⟩
 have e:b=s1.heap.objs.size:=by simpa using hb
 subst e
 exact I1.fpOk (Nat.le_refl _) (I1.hok.fresh (Nat.le_refl _))
theorem q354 {l:Expr} {tl:TE} (hl:PE X l tl):PI X tg l (iTup X.K tl):=by
 intro pins s σ H R I h
 refine thn (hl pins s σ H _ I h) fun v s1 ⟨x,H1,I1,r1,q1⟩=>?_
 obtain ⟨a,e,⟨xs,hq⟩,q⟩:=q1
 subst e
 cases r1
 obtain ⟨its,rv,p,hz⟩:=I1.tuple hq
 refine wpAny_pyIter_tuple (show s1.heap.IsTuple a its.toArray from p) ?_
 refine ⟨s1.heap.objs.size,[s1.heap.objs.size],_,_,H1,rfl,I1.kept (t':=s1.toks) fun b o e=>Heap.get?_push_of_some _ e,q520 a _,⟨_,Heap.get?_push_size _ rfl,rfl,rfl⟩,fun b hb=>?_,q⟩
 have e:b=s1.heap.objs.size:=by simpa using hb
 subst e
 exact I1.fpOk (Nat.le_refl _) (I1.hok.fresh (Nat.le_refl _))
theorem q473 {s:Shared} {lo hi:Int} {t u v:Tok} {tk:Nat} (I:Inv X pins σ H s) (h1:-(2 ^ 62)<=lo) (h2:lo < 2 ^ 62) (h3:-(2 ^ 62)<=hi) (h4:hi < 2 ^ 62)
  (q:R (Itr lo (hi - lo).toNat) H):wpAny (model X.prog X.w) X.A (pyIter (.ref s.heap.objs.size)) (PIE X pins σ tg R) E { s with heap:=s.heap.push { cls:=.type "range", data:=.fields #[.int lo t,.int hi u,.int 1 v] },toks:=tk }:=by
 refine wpAny_pyIter_range (IsRange.new ..) (small_one h1 h2 h3 h4) ?_
 have I1:Inv X pins σ H { s with heap:=s.heap.push { cls:=.type "range", data:=.fields #[.int lo t,.int hi u,.int 1 v] },toks:=tk }:=I.kept fun b o e=>Heap.get?_push_of_some _ e
 refine ⟨(s.heap.push { cls:=.type "range", data:=.fields #[.int lo t,.int hi u,.int 1 v] }).objs.size,[(s.heap.push { cls:=.type "range", data:=.fields #[.int lo t,.int hi u,.int 1 v] }).objs.size],_,_,H,rfl,
  I1.kept (t':=tk) fun b o e=>Heap.get?_push_of_some _ e,q521 _ lo (hi - lo).toNat,?_,fun b hb=>?_,q⟩
 ·have e1:lo+((0:Nat):Int) * 1=lo:=by simp
  have e2:(((hi - lo).toNat:Nat):Int) - ((0:Nat):Int)=Builtin.Range.rangeSize lo hi 1:=by rw [rangeSize_one];split <;> omega
  show IsRangeIter _ _ (lo+((0:Nat):Int) * 1) ((((hi - lo).toNat:Nat):Int) - ((0:Nat):Int)) 1
  rw [e1,e2]
  exact Heap.get?_push_size _ rfl
 ·have e:b=(s.heap.push { cls:=.type "range", data:=.fields #[.int lo t,.int hi u,.int 1 v] }).objs.size:=by simpa using hb
  subst e
  exact I1.fpOk (Nat.le_refl _) (I1.hok.fresh (Nat.le_refl _))
def iRng1 (ta:TA):TI:=fun σ H R=>ta σ H fun vs H1=>∃ j:Int,vs=[.int j] /\ -(2 ^ 62)<=j/\j < 2 ^ 62/\R (Itr 0 j.toNat) H1
def iRng2 (ta:TA):TI:=fun σ H R=>ta σ H fun vs H1=>∃ i j:Int,vs=[.int i,.int j]/\(-(2 ^ 62)<=i/\i < 2 ^ 62 /\ -(2 ^ 62)<=j/\j < 2 ^ 62)/\R (Itr i (j - i).toNat) H1
theorem q52 {p pos:Pos} (hg:Gl X "range") (hm:X.mg "range" = none) (ha:PA X [a] ta) (hs:starEach [a] X.env=[(false,eval a X.env)]:=by rfl):PI X tg (.Call (.Name "range" p) [a] [] pos) (iRng1 ta):=by
 intro pins s σ H R I h
 refine Call_ (q156 I hg hm boot_range (PyProof.Rows.callWith_type1 (thn (ha pos pins s σ H _ I h) fun us s1 ⟨vs,H1,I1,r1,q1⟩=>?_) hs rfl))
 obtain ⟨j,e,q1,q2,q⟩:=q1
 subst e
 cases r1 with
 | cons r rr=>
  cases rr
  obtain ⟨t,rfl⟩:=r
  exact call_range_1 (q473 I1 (by omega) (by omega) q1 q2 (by simpa using q))
theorem q584 {p pos:Pos} (hg:Gl X "range") (hm:X.mg "range" = none) (ha:PA X [a,b] ta) (hs:starEach [a,b] X.env=[(false,eval a X.env),(false,eval b X.env)]:=by rfl) (hs2:starEach [b] X.env=[(false,eval b X.env)]:=by rfl) :
  PI X tg (.Call (.Name "range" p) [a,b] [] pos) (iRng2 ta):=by
 intro pins s σ H R I h
 refine Call_ (q156 I hg hm boot_range (PyProof.Rows.callWith_type1 (thn (ha pos pins s σ H _ I h) fun us s1 ⟨vs,H1,I1,r1,q1⟩=>?_) (by rw [hs,hs2]) (by rw [hs2];rfl)))
 obtain ⟨i,j,e,⟨q1,q2,q3,q4⟩,q⟩:=q1
 subst e
 cases r1 with
 | cons r rr=>
  cases rr with
  | cons r' rr=>
   cases rr
   obtain ⟨t,rfl⟩:=r
   obtain ⟨t',rfl⟩:=r'
   exact call_range_2 (q473 I1 q1 q2 q3 q4 q)
def tFor (wi:TI) (g:TG) (tb:TS):TS:=fun D σ H=>wi σ H fun J H1=>∃ W:Nat->Nat->St->Hp->Prop,(∃ m,W 0 m σ H1) /\ ∀ i m σ H,W i m σ H ->
 (J.stop i H/\D.nx σ H)\/(J.go i H /\ ∃ N:St->Hp->Prop,(∀ σ' H',N σ' H' -> ∃ m',m' < m/\W (i+1) m' σ' H') /\ ∀ x H',J.yld i H x H'->g x σ H' fun σ2 H2=>tb { D with nx:=N,ct:=N,bk:=D.nx } σ2 H2)
noncomputable def q474 (fp:List Addr) (h:Heap):List (Addr × Obj):=fp.filterMap fun b=>(h.get? b).map fun o=>(b,o)
theorem q84 {h:Heap} (hb:b ∈ fp) (e:h.get? b=some o):(b,o) ∈ q474 fp h:=List.mem_filterMap.mpr ⟨b,hb,by rw [e];rfl⟩
theorem q585 {h:Heap} {p:Addr × Obj} (hp:p ∈ q474 fp h):p.1 ∈ fp/\h.get? p.1=some p.2:=by
 obtain ⟨b,hb,e⟩:=List.mem_filterMap.mp hp
 cases q:h.get? b with
 | none=>rw [q] at e;cases e
 | some o=>
  rw [q] at e
  have e':(b,o)=p:=Option.some.inj e
  subst e'
  exact ⟨hb,q⟩
theorem Inv.pinned {s:Shared} (I:Inv X pins σ H s) (hf:∀ b ∈ fp,FpOk X pins H b) (ho:∀ b ∈ fp,∃ o,s.heap.get? b=some o /\ ∀ v,o.data ≠ .cell v):Inv X (pins++q474 fp s.heap) σ H s:=
 I.pins_of fun p hp=>(List.mem_append.mp hp).elim (fun z=>I.pin p (List.mem_append_right _ z)) fun z=>by
  obtain ⟨hb,e⟩:=q585 z
  obtain ⟨f0,f1,f2,_⟩:=hf p.1 hb
  obtain ⟨o,e',d⟩:=ho p.1 hb
  rw [e] at e';cases e'
  exact ⟨e,f0,f1,f2,d⟩
theorem Inv.unpinned (I:Inv X (pins++pl) σ H s):Inv X pins σ H s:=I.pins_of fun p hp=>I.pin p (List.mem_append_right _ (List.mem_append_left _ hp))
theorem q66 {pos:Pos} (hp:PassesOwn (model X.prog X.w) X.A X.env X.xe) (hc:X.calm=true) (hi:PI X tg iter wi) (hg:PG X tg g) (hb:PSs X body tb)
  (hs:∀ x,foldedSetIterable iter X.env x=pure x:=by intro _;rfl):PS X (.For tg iter body [] pos) (tFor wi g tb):=by
 intro pins s σ H D I h
 refine wpAny_For (thn (hi pins s σ H _ I h) fun v s1 h1=>thn h1 fun itv s2 h2=>?_) hs
 obtain ⟨it,fp,tn,J,H2,e,I2,T,st2,f2,W,⟨m0,w0⟩,turn⟩:=h2
 subst e
 have stat:∀ {H':Hp},(∀ b ∈ fp,H' b=none) -> ∀ b ∈ fp,FpOk X pins H' b:=fun hn b hb=>⟨hn b hb,(f2 b hb).2⟩
 refine codeAny_forLoop_any (fun n s'=>∃ i σ' H',Inv X pins σ' H' s'/\tn i s'.heap/\(∀ b ∈ fp,H' b=none)/\W i n σ' H') ?_ m0 ⟨0,σ,H2,I2,st2,fun b hb=>(f2 b hb).1,w0⟩
 rintro n s3 ⟨i,σ3,H3,I3,st3,fr3,w3⟩
 rcases turn i n σ3 H3 w3 with ⟨stop,qn⟩ | ⟨go,N,hN,step⟩
 ·refine wpAny_passesOwn hp (thn (T.done X rfl rfl rfl hc i pins s3 σ3 H3 X.xe I3 (stat fr3) st3 stop) fun r s4 ⟨hr,I4⟩=>?_)
  subst hr
  exact wpAny_execs_nil ⟨σ3,H3,I4,qn⟩
 ·refine wpAny_passesOwn hp (thn (T.item X rfl rfl rfl hc i pins s3 σ3 H3 X.xe I3 (stat fr3) st3 go) fun r s4 ⟨u,hr,h4⟩=>?_)
  subst hr
  refine wpAny_passesOwn hp (thn h4 fun _ s5 ⟨x,H5,I5,r5,y5,st5,fr5⟩=>?_)
  have I5':=I5.pinned (stat fr5) (T.obj _ _ st5)
  refine wpAny_passesOwn hp (thn (hg _ s5 σ3 H5 x u _ I5' r5 (step x H5 y5)) fun _ s6 ⟨σ6,H6,I6,q6⟩=>?_)
  refine wpAny_passesOwn hp (thn (hb _ s6 σ6 H6 _ I6 q6) fun f s7 q7=>?_)
  have again:∀ {σ7:St} {H7:Hp},Inv X (pins++q474 fp s5.heap) σ7 H7 s7->N σ7 H7 -> ∃ m,m < n /\ ∃ i σ' H',Inv X pins σ' H' s7/\tn i s7.heap/\(∀ b ∈ fp,H' b=none)/\W i m σ' H':=fun {σ7 H7} I7 n7=>by
   obtain ⟨m',hm,w7⟩:=hN σ7 H7 n7
   refine ⟨m',hm,i+1,σ7,H7,I7.unpinned,T.keep _ _ _ st5 fun b hb o e=>(I7.pin (b,o) (List.mem_append_right _ (List.mem_append_right _ (q84 hb e)))).1,fun b hb=>?_,w7⟩
   obtain ⟨o,e,d⟩:=T.obj _ _ st5 b hb
   exact (I7.pin (b,o) (List.mem_append_right _ (List.mem_append_right _ (q84 hb e)))).2.1
  cases f with
  | next=>obtain ⟨σ7,H7,I7,n7⟩:=q7;exact again I7 n7
  | cont=>obtain ⟨σ7,H7,I7,n7⟩:=q7;exact again I7 n7
  | brk=>obtain ⟨σ7,H7,I7,q7⟩:=q7;exact ⟨σ7,H7,I7.unpinned,q7⟩
  | ret v=>obtain ⟨x7,σ7,H7,I7,r7,q7⟩:=q7;exact ⟨x7,σ7,H7,I7.unpinned,r7,q7⟩
end
theorem q215 {K:Fg} {a:Addr} {xs:List V} {g:TG} {tb:TS} {D:Ends} {σ:St} {H:Hp} (Pv:Nat->St->Hp->Prop) (h0:Pv 0 σ H) (hl:∀ i σ H,i<=xs.length->Pv i σ H->SqL K H a xs)
  (hs:∀ i x σ H,xs[i]? = some x->Pv i σ H->g x σ H fun σ2 H2=>tb { D with nx:=Pv (i+1),ct:=Pv (i+1),bk:=D.nx } σ2 H2) (hd:∀ σ H,Pv xs.length σ H->D.nx σ H) :
  ∃ W:Nat->Nat->St->Hp->Prop,(∃ m,W 0 m σ H) /\ ∀ i m σ H,W i m σ H ->
   ((Itl K a).stop i H/\D.nx σ H)\/((Itl K a).go i H /\ ∃ N:St->Hp->Prop,(∀ σ' H',N σ' H' -> ∃ m',m' < m/\W (i+1) m' σ' H') /\ ∀ x H',(Itl K a).yld i H x H'->g x σ H' fun σ2 H2=>tb { D with nx:=N,ct:=N,bk:=D.nx } σ2 H2):=by
 refine ⟨fun i m σ H=>m=xs.length - i/\i<=xs.length/\Pv i σ H,⟨xs.length,by simp,Nat.zero_le _,h0⟩,?_⟩
 rintro i m σ H ⟨rfl,hi,p⟩
 have q:=hl i σ H hi p
 by_cases hlt:i < xs.length
 ·refine .inr ⟨⟨xs,xs[i],q,by simp [hlt]⟩,Pv (i+1),fun σ' H' p'=>⟨xs.length - (i+1),by omega,rfl,hlt,p'⟩,fun x H' y=>?_⟩
  obtain ⟨e,y⟩:=y
  subst e
  exact hs i x σ _ (y xs q) p
 ·have e:i=xs.length:=by omega
  subst e
  exact .inl ⟨⟨xs,q,Nat.le_refl _⟩,hd σ H p⟩
theorem q431 {K:Fg} {a:Addr} {xs:List V} {g:TG} {tb:TS} {D:Ends} {σ:St} {H:Hp} (Pv:Nat->St->Hp->Prop) (h0:Pv 0 σ H) (hl:∀ i σ H,i<=xs.length->Pv i σ H->SqT K H a xs)
  (hs:∀ i x σ H,xs[i]? = some x->Pv i σ H->g x σ H fun σ2 H2=>tb { D with nx:=Pv (i+1),ct:=Pv (i+1),bk:=D.nx } σ2 H2) (hd:∀ σ H,Pv xs.length σ H->D.nx σ H) :
  ∃ W:Nat->Nat->St->Hp->Prop,(∃ m,W 0 m σ H) /\ ∀ i m σ H,W i m σ H ->
   ((Itt K a).stop i H/\D.nx σ H)\/((Itt K a).go i H /\ ∃ N:St->Hp->Prop,(∀ σ' H',N σ' H' -> ∃ m',m' < m/\W (i+1) m' σ' H') /\ ∀ x H',(Itt K a).yld i H x H'->g x σ H' fun σ2 H2=>tb { D with nx:=N,ct:=N,bk:=D.nx } σ2 H2):=by
 refine ⟨fun i m σ H=>m=xs.length - i/\i<=xs.length/\Pv i σ H,⟨xs.length,by simp,Nat.zero_le _,h0⟩,?_⟩
 rintro i m σ H ⟨rfl,hi,p⟩
 have q:=hl i σ H hi p
 by_cases hlt:i < xs.length
 ·refine .inr ⟨⟨xs,xs[i],q,by simp [hlt]⟩,Pv (i+1),fun σ' H' p'=>⟨xs.length - (i+1),by omega,rfl,hlt,p'⟩,fun x H' y=>?_⟩
  obtain ⟨e,y⟩:=y
  subst e
  exact hs i x σ _ (y xs q) p
 ·have e:i=xs.length:=by omega
  subst e
  exact .inl ⟨⟨xs,q,Nat.le_refl _⟩,hd σ H p⟩
theorem q61 {lo:Int} {n:Nat} {g:TG} {tb:TS} {D:Ends} {σ:St} {H:Hp} (Pv:Nat->St->Hp->Prop) (h0:Pv 0 σ H)
  (hs:∀ i σ H,i < n->Pv i σ H->g (.int (lo+i)) σ H fun σ2 H2=>tb { D with nx:=Pv (i+1),ct:=Pv (i+1),bk:=D.nx } σ2 H2) (hd:∀ σ H,Pv n σ H->D.nx σ H) :
  ∃ W:Nat->Nat->St->Hp->Prop,(∃ m,W 0 m σ H) /\ ∀ i m σ H,W i m σ H ->
   ((Itr lo n).stop i H/\D.nx σ H)\/((Itr lo n).go i H /\ ∃ N:St->Hp->Prop,(∀ σ' H',N σ' H' -> ∃ m',m' < m/\W (i+1) m' σ' H') /\ ∀ x H',(Itr lo n).yld i H x H'->g x σ H' fun σ2 H2=>tb { D with nx:=N,ct:=N,bk:=D.nx } σ2 H2):=by
 refine ⟨fun i m σ H=>m=n - i/\i<=n/\Pv i σ H,⟨n,by simp,Nat.zero_le _,h0⟩,?_⟩
 rintro i m σ H ⟨rfl,hi,p⟩
 by_cases hlt:i < n
 ·refine .inr ⟨hlt,Pv (i+1),fun σ' H' p'=>⟨n - (i+1),by omega,rfl,hlt,p'⟩,fun x H' y=>?_⟩
  obtain ⟨e,y⟩:=y
  subst e y
  exact hs i σ _ hlt p
 ·have e:i=n:=by omega
  subst e
  exact .inl ⟨Nat.le_refl _,hd σ H p⟩
theorem q311 (Pv:St->Hp->Prop) (μ:St->Hp->Nat) (h0:Pv σ H)
  (hs:∀ σ H,Pv σ H->c σ H fun b H1=>if b=true then tb { D with nx:=fun σ' H'=>Pv σ' H'/\μ σ' H' < μ σ H,ct:=fun σ' H'=>Pv σ' H'/\μ σ' H' < μ σ H,bk:=D.nx } σ H1 else D.nx σ H1)
  (mono:∀ σ H Q Q',(∀ b H1,Q b H1->Q' b H1)->c σ H Q->c σ H Q'):tWhile c tb D σ H:=by
 refine ⟨fun m σ H=>m=μ σ H/\Pv σ H,⟨_,rfl,h0⟩,?_⟩
 rintro m σ H ⟨rfl,p⟩
 refine mono σ H _ _ (fun b H1 q=>?_) (hs σ H p)
 cases b with
 | true=>exact ⟨_,fun σ' H' ⟨p',l⟩=>⟨_,l,rfl,p'⟩,q⟩
 | false=>exact q
abbrev R2:=V->V->Hp->VK->Prop
def OpR (X:Cx) (f:Value->Value->Sem Value) (r:R2):Prop:=
 ∀ (pins:List (Addr × Obj)) (s:Shared) (σ:St) (H:Hp) (x y:V) (v u:Value) (Q:VK),Inv X pins σ H s->RelV x v->RelV y u->r x y H Q ->
  wpAny (model X.prog X.w) X.A (f v u) (EP X pins σ Q) X.xe s
def UnR (X:Cx) (f:Value->Sem Value) (r:V->Hp->VK->Prop):Prop:=
 ∀ (pins:List (Addr × Obj)) (s:Shared) (σ:St) (H:Hp) (x:V) (v:Value) (Q:VK),Inv X pins σ H s->RelV x v->r x H Q ->
  wpAny (model X.prog X.w) X.A (f v) (EP X pins σ Q) X.xe s
def CallR (X:Cx) (f:Value) (r:List V->Hp->VK->Prop):Prop:=
 ∀ (pins:List (Addr × Obj)) (s:Shared) (σ:St) (H:Hp) (xs:List V) (us:List Value) (Q:VK),Inv X pins σ H s->Vals xs us->r xs H Q ->
  wpAny (model X.prog X.w) X.A (call f us) (EP X pins σ Q) X.xe s
def tOp (r:R2) (ta tb:TE):TE:=fun σ H Q=>ta σ H fun x H1=>tb σ H1 fun y H2=>r x y H2 Q
def tUn (r:V->Hp->VK->Prop) (ta:TE):TE:=fun σ H Q=>ta σ H fun x H1=>r x H1 Q
def rI (C:Int->Int->Prop) (g:Int->Int->V):R2:=fun x y H Q=>∃ i j,x = .int i/\y = .int j/\C i j/\Q (g i j) H
def rI0 (g:Int->Int->V):R2:=fun x y H Q=>∃ i j,x = .int i/\y = .int j/\Q (g i j) H
def rU (g:Int->V):V->Hp->VK->Prop:=fun x H Q=>∃ i,x = .int i/\Q (g i) H
section
variable {a b c:Expr} {ta tb tc:TE} {pos:Pos}
theorem binT (ha:PE X a ta) (hb:PE X b tb) {pins:List (Addr × Obj)} {s:Shared} {σ:St} {H:Hp} {R:V->V->Hp->Prop} (I:Inv X pins σ H s)
  (h:ta σ H fun x H1=>tb σ H1 fun y H2=>R x y H2) {Q:VS} {f:Value->Value->Sem Value}
  (hf:∀ v u s2 x y H2,Inv X pins σ H2 s2->RelV x v->RelV y u->R x y H2->wpAny (model X.prog X.w) X.A (f v u) Q X.xe s2) :
  wpAny (model X.prog X.w) X.A (eval a X.env) (fun v s₁=>wpAny (model X.prog X.w) X.A (eval b X.env) (fun u s₂=>wpAny (model X.prog X.w) X.A (f v u) Q X.xe s₂) X.xe s₁) X.xe s:=by
 refine thn (ha pins s σ H _ I h) fun v s1 ⟨x,H1,I1,r1,q1⟩=>?_
 refine thn (hb pins s1 σ H1 _ I1 q1) fun u s2 ⟨y,H2,I2,r2,q2⟩=>?_
 exact hf v u s2 x y H2 I2 r1 r2 q2
theorem pe_op {op:Operator} {r:R2} (ho:OpR X (binaryOp op) r) (ha:PE X a ta) (hb:PE X b tb):PE X (.BinOp a op b pos) (tOp r ta tb):=by
 intro pins s σ H Q I h
 exact wpAny_BinOp (binT ha hb I h fun v u s2 x y H2 I2 rx ry q=>ho pins s2 σ H2 x y v u Q I2 rx ry q)
theorem pe_un (ho:UnR X (unaryOp op) r) (ha:PE X a ta):PE X (.UnaryOp op a pos) (tUn r ta):=by
 intro pins s σ H Q I h
 exact UnaryOp_ (thn (ha pins s σ H _ I h) fun v s1 ⟨x,H1,I1,r1,q1⟩=>ho pins s1 σ H1 x v Q I1 r1 q1)
theorem opI {f:Value->Value->Sem Value} {C:Int->Int->Prop} {g:Int->Int->Int}
  (rule:∀ (i j:Int) (t u:Tok) (s:Shared) (Q:VS) (E:VS),C i j->Q (.int (g i j) s.toks) { s with toks:=s.toks+1 }->wpAny (model X.prog X.w) X.A (f (.int i t) (.int j u)) Q E s) :
  OpR X f (rI C fun i j=>.int (g i j)):=by
 intro pins s σ H x y v u Q I rx ry h
 obtain ⟨i,j,rfl,rfl,hc,q⟩:=h
 obtain ⟨t,rfl⟩:=rx
 obtain ⟨t',rfl⟩:=ry
 exact rule i j t t' s _ _ hc ⟨.int (g i j),H,I.tok _,⟨_,rfl⟩,q⟩
theorem opI0 {f:Value->Value->Sem Value} {g:Int->Int->Int}
  (rule:∀ (i j:Int) (t u:Tok) (s:Shared) (Q:VS) (E:VS),Q (.int (g i j) s.toks) { s with toks:=s.toks+1 }->wpAny (model X.prog X.w) X.A (f (.int i t) (.int j u)) Q E s) :
  OpR X f (rI0 fun i j=>.int (g i j)):=by
 intro pins s σ H x y v u Q I rx ry h
 obtain ⟨i,j,rfl,rfl,q⟩:=h
 obtain ⟨t,rfl⟩:=rx
 obtain ⟨t',rfl⟩:=ry
 exact rule i j t t' s _ _ ⟨.int (g i j),H,I.tok _,⟨_,rfl⟩,q⟩
theorem opB0 {f:Value->Value->Sem Value} {g:Int->Int->Bool}
  (rule:∀ (i j:Int) (t u:Tok) (s:Shared) (Q:VS) (E:VS),Q (.bool (g i j)) s->wpAny (model X.prog X.w) X.A (f (.int i t) (.int j u)) Q E s) :
  OpR X f (rI0 fun i j=>.bl (g i j)):=by
 intro pins s σ H x y v u Q I rx ry h
 obtain ⟨i,j,rfl,rfl,q⟩:=h
 obtain ⟨t,rfl⟩:=rx
 obtain ⟨t',rfl⟩:=ry
 exact rule i j t t' s _ _ ⟨.bl (g i j),H,I,rfl,q⟩
def CPow (i j:Int):Prop:=0<=j/\j<=1000000/\i.natAbs < 2 ^ 64
def CMul (i j:Int):Prop:=(-(2 ^ 64) < i/\i < 2 ^ 64)\/(-(2 ^ 64) < j/\j < 2 ^ 64)
theorem CMul.ok {i j:Int} (h:CMul i j):IntMulOk i j:=by
 rcases h with ⟨h1,h2⟩ | ⟨h1,h2⟩
 ·exact .of_left (intBits_le_64 h1 h2)
 ·exact .of_right (intBits_le_64 h1 h2)
theorem q73:OpR X (binaryOp .Add) (rI0 fun i j=>.int (i+j)):=opI0 fun _ _ _ _ _ _ _ q=>add_int q
theorem q81:OpR X (binaryOp .Sub) (rI0 fun i j=>.int (i - j)):=opI0 fun _ _ _ _ _ _ _ q=>sub_int q
theorem q89:OpR X (binaryOp .Mult) (rI CMul fun i j=>.int (i * j)):=opI fun _ _ _ _ _ _ _ hc q=>mul_int q hc.ok
theorem q199:OpR X (binaryOp .Mod) (rI (fun _ j=>0 < j) fun i j=>.int (i % j)):=opI fun i j _ _ _ _ _ hc q=>by
 have h1:(0:Int) < j:=hc
 exact mod_int' (by omega) (by rw [Int.fmod_eq_emod_of_nonneg i (by omega)];exact q)
theorem q227:OpR X (binaryOp .Pow) (rI CPow fun i j=>.int (i ^ j.toNat)):=opI fun _ _ _ _ _ _ _ hc q=>pow_int_small hc.1 hc.2.1 hc.2.2 q
theorem q355:OpR X (binaryOp .LShift) (rI CPow fun i j=>.int (i * 2 ^ j.toNat)):=opI fun _ _ _ _ _ _ _ hc q=>lshift_int_small hc.1 hc.2.1 hc.2.2 q
theorem unI {f:Value->Sem Value} {g:Int->Int}
  (rule:∀ (i:Int) (t:Tok) (s:Shared) (Q:VS) (E:VS),Q (.int (g i) s.toks) { s with toks:=s.toks+1 }->wpAny (model X.prog X.w) X.A (f (.int i t)) Q E s) :
  UnR X f (rU fun i=>.int (g i)):=by
 intro pins s σ H x v Q I rx h
 obtain ⟨i,rfl,q⟩:=h
 obtain ⟨t,rfl⟩:=rx
 exact rule i t s _ _ ⟨.int (g i),H,I.tok _,⟨_,rfl⟩,q⟩
theorem un_neg:UnR X (unaryOp .USub) (rU fun i=>.int (-i)):=unI fun _ _ _ _ _ q=>neg_int q
end
noncomputable def scal:V->V->Bool
 | .non,.non=>true | .non,.int _=>true | .int _,.non=>true | .non,.bl _=>true | .bl _,.non=>true | .non,.str _=>true | .str _,.non=>true
 | .int _,.int _=>true | .bl _,.bl _=>true | .str _,.str _=>true | .byt _,.byt _=>true
 | .int _,.str _=>true | .str _,.int _=>true | .bl _,.str _=>true | .str _,.bl _=>true
 | _,_=>false
def rEq:R2:=fun x y H Q=>scal x y=true/\Q (.bl (decide (x=y))) H
def rNe:R2:=fun x y H Q=>scal x y=true/\Q (.bl (!decide (x=y))) H
theorem q586 {i j:Int}:decide (V.int i=V.int j)=(i == j):=by
 rw [Bool.eq_iff_iff]
 simp
theorem dec_bl {i j:Bool}:decide (V.bl i=V.bl j)=(i == j):=by
 rw [Bool.eq_iff_iff]
 simp
theorem q587:decide (V.str i=V.str j)=(i == j):=by
 rw [Bool.eq_iff_iff]
 simp
theorem q588 {i j:Array UInt8}:decide (V.byt i=V.byt j)=(i.toList == j.toList):=by
 rw [Bool.eq_iff_iff]
 cases i
 cases j
 simp
section
variable {a b c:Expr} {ta tb tc:TE} {pos:Pos}
theorem q38 {k k':Bool} (I:Inv X pins σ H s) (q:Q (.bl k) H) (e:k=k'):EP X pins σ Q (.bool k') s:=by
 subst e
 exact ⟨.bl k,H,I,rfl,q⟩
theorem op_eq:OpR X (compareOp .Eq) rEq:=by
 intro pins s σ H x y v u Q I rx ry h
 obtain ⟨hs,q⟩:=h
 cases x with
 | non=>
  cases rx
  cases y with
  | non=>cases ry;exact PySem.EqNone.eq_none_none (q38 I q (by simp))
  | bl j=>cases ry;exact PySem.EqNone.eq_none_bool (q38 I q (by simp))
  | int j=>obtain ⟨t',rfl⟩:=ry;exact PySem.EqNone.eq_none_int (q38 I q (by simp))
  | str j=>obtain ⟨t',rfl⟩:=ry;exact PySem.EqNone.eq_none_str (q38 I q (by simp))
  | _=>exact absurd (show false=true from hs) fnt
 | bl i=>
  cases rx
  cases y with
  | non=>cases ry;exact PySem.EqNone.eq_bool_none (q38 I q (by simp))
  | bl j=>cases ry;exact eq_bool (q38 I q dec_bl)
  | str j=>obtain ⟨t',rfl⟩:=ry;exact PySem.EqMixed.eq_bool_str (q38 I q (by simp))
  | _=>exact absurd (show false=true from hs) fnt
 | int i=>
  obtain ⟨t,rfl⟩:=rx
  cases y with
  | non=>cases ry;exact PySem.EqNone.eq_int_none (q38 I q (by simp))
  | int j=>obtain ⟨t',rfl⟩:=ry;exact eq_int (q38 I q q586)
  | str j=>obtain ⟨t',rfl⟩:=ry;exact PySem.EqMixed.eq_int_str (q38 I q (by simp))
  | _=>exact absurd (show false=true from hs) fnt
 | str i=>
  obtain ⟨t,rfl⟩:=rx
  cases y with
  | non=>cases ry;exact PySem.EqNone.eq_str_none (q38 I q (by simp))
  | bl j=>cases ry;exact PySem.EqMixed.eq_str_bool (q38 I q (by simp))
  | int j=>obtain ⟨t',rfl⟩:=ry;exact PySem.EqMixed.eq_str_int (q38 I q (by simp))
  | str j=>obtain ⟨t',rfl⟩:=ry;exact eq_str (q38 I q q587)
  | _=>exact absurd (show false=true from hs) fnt
 | byt i=>
  obtain ⟨t,rfl⟩:=rx
  cases y with
  | byt j=>obtain ⟨t',rfl⟩:=ry;exact PySem.W.eq_bytes (q38 I q q588)
  | _=>exact absurd (show false=true from hs) fnt
 | _=>cases y <;> exact absurd (show false=true from hs) fnt
theorem op_ne:OpR X (compareOp .NotEq) rNe:=by
 intro pins s σ H x y v u Q I rx ry h
 obtain ⟨hs,q⟩:=h
 cases x with
 | non=>
  cases rx
  cases y with
  | non=>cases ry;exact PySem.EqNone.ne_none_none (q38 I q (by simp))
  | bl j=>cases ry;exact PySem.EqNone.ne_none_bool (q38 I q (by simp))
  | int j=>obtain ⟨t',rfl⟩:=ry;exact PySem.EqNone.ne_none_int (q38 I q (by simp))
  | str j=>obtain ⟨t',rfl⟩:=ry;exact PySem.EqNone.ne_none_str (q38 I q (by simp))
  | _=>exact absurd (show false=true from hs) fnt
 | bl i=>
  cases rx
  cases y with
  | non=>cases ry;exact PySem.EqNone.ne_bool_none (q38 I q (by simp))
  | bl j=>cases ry;exact ne_bool (q38 I q (congrArg not dec_bl))
  | str j=>obtain ⟨t',rfl⟩:=ry;exact PySem.EqMixed.ne_bool_str (q38 I q (by simp))
  | _=>exact absurd (show false=true from hs) fnt
 | int i=>
  obtain ⟨t,rfl⟩:=rx
  cases y with
  | non=>cases ry;exact PySem.EqNone.ne_int_none (q38 I q (by simp))
  | int j=>obtain ⟨t',rfl⟩:=ry;exact ne_int (q38 I q (congrArg not q586))
  | str j=>obtain ⟨t',rfl⟩:=ry;exact PySem.EqMixed.ne_int_str (q38 I q (by simp))
  | _=>exact absurd (show false=true from hs) fnt
 | str i=>
  obtain ⟨t,rfl⟩:=rx
  cases y with
  | non=>cases ry;exact PySem.EqNone.ne_str_none (q38 I q (by simp))
  | bl j=>cases ry;exact PySem.EqMixed.ne_str_bool (q38 I q (by simp))
  | int j=>obtain ⟨t',rfl⟩:=ry;exact PySem.EqMixed.ne_str_int (q38 I q (by simp))
  | str j=>obtain ⟨t',rfl⟩:=ry;exact ne_str (q38 I q (congrArg not q587))
  | _=>exact absurd (show false=true from hs) fnt
 | byt i=>
  obtain ⟨t,rfl⟩:=rx
  cases y with
  | byt j=>obtain ⟨t',rfl⟩:=ry;exact PySem.W.ne_bytes (q38 I q (congrArg not q588))
  | _=>exact absurd (show false=true from hs) fnt
 | _=>cases y <;> exact absurd (show false=true from hs) fnt
theorem op_lt:OpR X (compareOp .Lt) (rI0 fun i j=>.bl (decide (i < j))):=opB0 fun _ _ _ _ _ _ _ q=>lt_int q
theorem op_le:OpR X (compareOp .LtE) (rI0 fun i j=>.bl (decide (i<=j))):=opB0 fun _ _ _ _ _ _ _ q=>le_int q
theorem op_gt:OpR X (compareOp .Gt) (rI0 fun i j=>.bl (decide (j < i))):=opB0 fun _ _ _ _ _ _ _ q=>gt_int q
theorem op_ge:OpR X (compareOp .GtE) (rI0 fun i j=>.bl (decide (j<=i))):=opB0 fun _ _ _ _ _ _ _ q=>ge_int q
theorem q123:OpR X (compareOp .Is) (fun x y H Q=>y = .non/\Q (.bl (decide (x = .non))) H):=by
 intro pins s σ H x y v u Q I rx ry h
 obtain ⟨rfl,q⟩:=h
 cases ry
 refine is_none_gen (q38 I q ?_)
 cases x <;> first
  | (cases rx;rfl)
  | (obtain ⟨t,rfl⟩:=rx;rfl)
theorem q19 (b:Expr) (h:op ≠ .In:=by decide) (h2:op ≠ .NotIn:=by decide):behindInMarks op b=false:=by
 have e1:(op == CmpOp.In)=false:=by cases op <;> first | rfl | exact absurd rfl h
 have e2:(op == CmpOp.NotIn)=false:=by cases op <;> first | rfl | exact absurd rfl h2
 cases b <;> simp [behindInMarks,e1,e2]
theorem q184 {op:CmpOp} {r:R2} (ho:OpR X (compareOp op) r) (ha:PE X a ta) (hb:PE X b tb) (hm:behindInMarks op b=false):PE X (.Compare a [op] [b] pos) (tOp r ta tb):=by
 intro pins s σ H Q I h
 exact wpAny_Compare1 (binT ha hb I h fun v u s2 x y H2 I2 rx ry q=>ho pins s2 σ H2 x y v u Q I2 rx ry q) hm
def tTest (t:TE):TT:=fun σ H Q=>t σ H fun x H'=>∃ k,x = .bl k/\Q k H'
theorem q26 (ho:OpR X (compareOp op) r) (ha:PE X a ta) (hb:PE X b tb) (hm:behindInMarks op b=false):PT X (.Compare a [op] [b] pos) (tTest (tOp r ta tb)):=by
 intro pins s σ H Q I h
 refine wpAny_isTrue_Compare1 (thn (ha pins s σ H _ I h) fun v s1 ⟨x,H1,I1,r1,q1⟩=>thn (hb pins s1 σ H1 _ I1 q1) fun u s2 ⟨y,H2,I2,r2,q2⟩=>
  thn (ho pins s2 σ H2 x y v u _ I2 r1 r2 q2) fun c s3 ⟨z,H3,I3,r3,k,e,q3⟩=>?_) hm
 subst e
 cases r3
 exact wpAny_truthy_bool ⟨H3,I3,q3⟩
theorem q475:(sizeLine:Nat) < 2 ^ 63:=by rw [sizeLine_eq];decide
theorem vals1 (r:Vals [x] us):∃ u,us=[u]/\RelV x u:=by
 cases r with
 | cons r1 r2=>cases r2;exact ⟨_,rfl,r1⟩
theorem vals2 (r:Vals [x,y] us):∃ u w',us=[u,w']/\RelV x u/\RelV y w':=by
 cases r with
 | cons r1 r2=>
  cases r2 with
  | cons r3 r4=>cases r4;exact ⟨_,_,rfl,r1,r3⟩
theorem q589 (hc:X.calm=true):CallR X (.builtin "max") (fun xs H Q=>∃ i j,xs=[.int i,.int j]/\Q (.int (if j > i then j else i)) H):=by
 intro pins s σ H xs us Q I r h
 obtain ⟨i,j,rfl,q⟩:=h
 obtain ⟨u,w',rfl,⟨t,rfl⟩,⟨t',rfl⟩⟩:=vals2 r
 refine max_two_ints (I.ok.hd hc) fun h' tk k=>⟨_,H,I.kept k,?_,q⟩
 by_cases hj:j > i
 ·rw [if_pos hj,if_pos hj];exact ⟨_,rfl⟩
 ·rw [if_neg hj,if_neg hj];exact ⟨_,rfl⟩
theorem q590 (hc:X.calm=true):CallR X (.builtin "min") (fun xs H Q=>∃ i j,xs=[.int i,.int j]/\Q (.int (if j < i then j else i)) H):=by
 intro pins s σ H xs us Q I r h
 obtain ⟨i,j,rfl,q⟩:=h
 obtain ⟨u,w',rfl,⟨t,rfl⟩,⟨t',rfl⟩⟩:=vals2 r
 refine min_two_ints (I.ok.hd hc) fun h' tk k=>⟨_,H,I.kept k,?_,q⟩
 by_cases hj:j < i
 ·rw [if_pos hj,if_pos hj];exact ⟨_,rfl⟩
 ·rw [if_neg hj,if_neg hj];exact ⟨_,rfl⟩
theorem q591:CallR X (.type "int") (fun xs H Q=>(∃ i,xs=[.int i]/\Q (.int i) H) \/ ∃ k,xs=[.bl k]/\Q (.int (if k then 1 else 0)) H):=by
 intro pins s σ H xs us Q I r h
 rcases h with ⟨i,rfl,q⟩ | ⟨k,rfl,q⟩
 ·obtain ⟨u,rfl,t,rfl⟩:=vals1 r
  exact call_int_int ⟨.int i,H,I,⟨_,rfl⟩,q⟩
 ·obtain ⟨u,rfl,r1⟩:=vals1 r
  cases r1
  exact call_int_bool ⟨.int (if k then 1 else 0),H,I.tok _,⟨_,rfl⟩,q⟩
end
structure ObjM (h:Heap) (x dx C:Addr) (mA:Mg):Prop where
 obj:h.get? x=some (PySem.W.instObj C dx)
 ns:h.Ns1 dx mA
 ne:dx ≠ x
theorem q592 {h:Heap} (n:h.Ns1 dx mA):∃ od,h.get? dx=some od /\ ∀ name,PySem.W.lookIn name od=some (mA name):=by
 obtain ⟨o,es,ep,ho,hd,hk,_,hm⟩:=n
 refine ⟨o,ho,fun name=>?_⟩
 have e:=hm name
 unfold nsFind findBy at e
 rw [<- Array.find?_toList] at e
 unfold PySem.W.lookIn
 rw [hd]
 dsimp only
 split
 ·rename_i y q
  rw [q] at e
  exact congrArg some e
 ·rename_i q
  rw [q] at e
  have a:es.toList.any (·.refKey)=false:=by
   rw [List.any_eq_false]
   intro y hy
   obtain ⟨z,t,hkey⟩:=hk y (Array.mem_toList_iff.mp hy)
   simp [DictEntry.refKey,hkey]
  have a':¬ es.toList.any (·.refKey)=true:=by rw [a];exact fnt
  rw [if_neg a']
  exact congrArg some e
theorem ObjM.look (I:ObjM h x dx C mA):∃ od,PySem.W.InstAt h x (PySem.W.instObj C dx) C (some od) /\ ∀ name,PySem.W.lookIn name od=some (mA name):=
 let ⟨od,ho,hl⟩:=q592 I.ns
 ⟨od,⟨I.obj,rfl,rfl,ho⟩,hl⟩
section
variable {prog:Program} {w:World} {A:Around} {E:VS} {s:Shared} {K:Fg} {x dx C f:Addr} {mA:Mg} {name:Str} {v:Value}
theorem get_map {expr:Bool} (X:K.In s.heap) (I:ObjM s.heap x dx C mA) (hg:PySem.W.plainGet K C name=true) (hh:PySem.W.hasDictIn K C=true)
  (ha:PySem.W.findIn K (.ref C) name=some none) (hv:mA name=some v) (hv':PySem.W.handedIn v=true) (h:Q v { s with toks:=s.toks+1 }) :
  wpAny (model prog w) A (getAttr (.ref x) name expr) Q E s:=by
 obtain ⟨od,J,hl⟩:=I.look
 exact PySem.W.get_value X J (PySem.W.plainGet_of hg).1 (PySem.W.findObj_own hh ha rfl (by rw [hl,hv])) hv' h
theorem get_meth (X:K.In s.heap) (I:ObjM s.heap x dx C mA) (hg:PySem.W.plainGet K C name=true)
  (hf:PySem.W.findIn K (.ref C) name=some (some (.ref f))) (ht:PySem.W.isFn K (.ref f)=true) (hv:mA name=none) (h:Q (.ref f,[.ref x]) s) :
  wpAny (model prog w) A (getMethod (.ref x) name pl) Q E s:=by
 obtain ⟨od,J,hl⟩:=I.look
 exact PySem.W.method_fn X J (PySem.W.plainGet_of hg).1 (PySem.W.plainGet_of hg).2 hf (beq_iff_eq.mp ht) (by show (PySem.W.lookIn name od).map (·.isSome)=some false;rw [hl,hv];rfl) h
theorem set_map {ns:List Str} (X:K.In s.heap) (I:ObjM s.heap x dx C mA)
  (hs:PySem.W.findIn K (.ref C) "__setattr__" = some (some (.builtin "object.__setattr__"))) (hp:PySem.W.plainOver K C=true) (ht:PySem.W.takerIn K C name=some none) (hh:PySem.W.hasDictIn K C=true)
  (hw:PySem.Within mA ns) (hsz:ns.length<=sizeLine)
  (h:∀ h',ObjM h' x dx C (fun y=>if y=name then some v else mA y)->Heap.SameBut dx s.heap h'->Q () { s with heap:=h',toks:=s.toks+2 }) :
  wpAny (model prog w) A (setAttr (.ref x) name v) Q E s:=by
 obtain ⟨od,J,hl⟩:=I.look
 refine PySem.W.set_plain X J hs (PySem.W.osa_open (s:={ s with toks:=s.toks+1 }) (r:=none) X J hp ht fun b=>?_)
 obtain ⟨cd,hc,hd'⟩:=PySem.W.any_some hh
 have hx:s.heap.get? x=some ⟨.ref C,some dx,.plain,#[]⟩:=I.obj
 refine wpAny_bind (wpAny_pure (wpAny_bind (wpAny_bind (wpAny_loadPart hx (wpAny_bind (PySem.W.Looks.here (s:={ s with toks:=s.toks+1 }) (PySem.W.looks_clsIn X hc) ?_))))))
 rw [hd']
 refine wpAny_pure (a:=some dx) (wpAny_bind (wpAny_pure (wpAny_bind ?_)))
 refine wpAny_nsSet1 (s:={ s with toks:=s.toks+1 }) I.ns fun h' hn2 hs2=>?_
 obtain ⟨oD,esD,epD,hoD,hdD,hcD⟩:=hn2.count (PySem.Within.cons name v hw)
 refine wpAny_bind (wpAny_lookBehind hoD (by rw [hdD];exact pastItsLine_dict (Nat.le_trans hcD (by rw [List.length_cons];omega))) ?_)
 exact wpAny_pure (h _ ⟨(hs2.2 _ (Ne.symm I.ne)).trans I.obj,hn2,I.ne⟩ hs2)
theorem make_map (X:K.In s.heap) (hm:PySem.W.makesIn K C=true)
  (hi:PySem.W.findIn K (.ref C) "__init__" = some (some (.ref f))) (hf:PySem.W.typeIn K (.ref f)=some (.type "function"))
  (h:codeAny (model prog w) (A.under (.builtin "type.__call__" ⟨.ref C::vs,kw⟩)) (.call (.ref f) ⟨.ref (s.heap.objs.size+1)::vs,kw⟩) (PySem.W.InitBack (s.heap.objs.size+1) R)
   { s with heap:=(s.heap.push PySem.W.emptyDict).push (PySem.W.instObj C s.heap.objs.size) }) :
  codeAny (model prog w) A (.call (.ref C) ⟨vs,kw⟩) R s:=by
 obtain ⟨hh,g,d,t,os⟩:=s
 exact PySem.W.make_core (PySem.W.makes_of X hm) (PySem.W.looks_findIn X hi) (fun self=>PySem.W.bind_fn X self hf) (.inl rfl) h
end
noncomputable def putF (f:Str) (v:V):List (Str × V)->List (Str × V)
 | []=>[(f,v)]
 | (g,x)::r=>if g=f then (g,v)::r else (g,x)::putF f v r
theorem q228 (f g:Str) (v:V):∀ fs:List (Str × V),(putF f v fs).lookup g=if g=f then some v else fs.lookup g
 | []=>by
  show List.lookup g [(f,v)]=_
  by_cases h:g=f
  ·have hb:(g == f)=true:=beq_iff_eq.mpr h
   simp only [List.lookup,hb,if_pos h]
  ·have hb:(g == f)=false:=beq_eq_false_iff_ne.mpr h
   simp only [List.lookup,hb,if_neg h]
 | (k,x)::r=>by
  have ih:=q228 f g v r
  rw [show putF f v ((k,x)::r)=(if k=f then (k,v)::r else (k,x)::putF f v r) from rfl]
  by_cases hk:k=f
  ·rw [if_pos hk]
   by_cases h:g=k
   ·have hb:(g == k)=true:=beq_iff_eq.mpr h
    simp only [List.lookup,hb,if_pos (h.trans hk)]
   ·have hb:(g == k)=false:=beq_eq_false_iff_ne.mpr h
    simp only [List.lookup,hb,if_neg (fun e:g=f=>h (e.trans hk.symm))]
  ·rw [if_neg hk]
   by_cases h:g=k
   ·have hb:(g == k)=true:=beq_iff_eq.mpr h
    simp only [List.lookup,hb,if_neg (fun e:g=f=>hk (h.symm.trans e))]
   ·have hb:(g == k)=false:=beq_eq_false_iff_ne.mpr h
    simp only [List.lookup,hb]
    exact ih
theorem q229 (f:Str) (v:V):∀ fs:List (Str × V),f ∈ (putF f v fs).map (·.1) /\ ∀ g,g ∈ fs.map (·.1)->g ∈ (putF f v fs).map (·.1)
 | []=>⟨by simp [putF],fun g h=>by simp at h⟩
 | (k,x)::r=>by
  obtain ⟨i1,i2⟩:=q229 f v r
  rw [show putF f v ((k,x)::r)=(if k=f then (k,v)::r else (k,x)::putF f v r) from rfl]
  by_cases hk:k=f
  ·rw [if_pos hk]
   subst hk
   exact ⟨by simp,fun g h=>by simpa using h⟩
  ·rw [if_neg hk]
   refine ⟨?_,fun g h=>?_⟩
   ·rw [List.map_cons]
    exact List.mem_cons_of_mem _ i1
   ·rw [List.map_cons] at h ⊢
    rcases List.mem_cons.mp h with e | e
    ·exact List.mem_cons.mpr (.inl e)
    ·exact List.mem_cons_of_mem _ (i2 g e)
theorem q230 (f:Str) (v:V):∀ fs:List (Str × V),(putF f v fs).length<=fs.length+1
 | []=>by simp [putF]
 | (k,x)::r=>by
  have ih:=q230 f v r
  rw [show putF f v ((k,x)::r)=(if k=f then (k,v)::r else (k,x)::putF f v r) from rfl]
  by_cases hk:k=f
  ·rw [if_pos hk,List.length_cons,List.length_cons];omega
  ·rw [if_neg hk,List.length_cons,List.length_cons];omega
theorem RelO.some_of (r:RelO (some v) o):∃ u,o=some u/\RelV v u:=by
 cases o with
 | none=>exact (show False from r).elim
 | some u=>exact ⟨u,rfl,r⟩
theorem RelO.none_of (r:RelO none o):o=none:=by
 cases o with
 | none=>rfl
 | some u=>exact (show False from r).elim
theorem q593 (r:RelV v u):PySem.W.handedIn u=true:=by
 cases v with
 | non=>cases (show u=Value.none from r);rfl
 | bl b=>cases (show u=Value.bool b from r);rfl
 | int i=>obtain ⟨t,e⟩:=(show ∃ t,u=Value.int i t from r);cases e;rfl
 | str x=>obtain ⟨t,e⟩:=(show ∃ t,u=Value.str x t from r);cases e;rfl
 | byt b=>obtain ⟨t,e⟩:=(show ∃ t,u=Value.bytes b t from r);cases e;rfl
 | flt b=>obtain ⟨t,e⟩:=(show ∃ t,u=Value.float b t from r);cases e;rfl
 | ref a=>cases (show u=Value.ref a from r);rfl
 | ty n=>cases (show u=Value.type n from r);rfl
section
variable {P:Program} {w:World} {H H':Hp} {h h':Heap} {a C dx:Addr} {fs fs':List (Str × V)}
theorem q312 (hok:HOk P w H h) (e:H a=some (.ins C dx fs)):∃ mA,ObjM h a dx C mA/\(∀ f,RelO (fs.lookup f) (mA f))/\PySem.Within mA (fs.map (·.1))/\fs.length<=1000/\H dx=some (.own a):=by
 obtain ⟨d,z,ne,ob,mA,n,r,q⟩:=(show ObjOk P w H h a (.ins C dx fs) from hok a _ e)
 exact ⟨mA,⟨ob,n,ne⟩,r,q,z,d⟩
end
structure Cls (K:Fg) (C:Addr):Prop where
 pg:PySem.W.plainGet K C Str.empty=true
 hd:PySem.W.hasDictIn K C=true
 po:PySem.W.plainOver K C=true
 sa:PySem.W.findIn K (.ref C) "__setattr__" = some (some (.builtin "object.__setattr__"))
theorem Cls.get {K:Fg} {C:Addr} (c:Cls K C) (f:Str):PySem.W.plainGet K C f=true:=c.pg
def q200 (K:Fg) (C:Addr) (f:Str):Prop:=PySem.W.findIn K (.ref C) f=some none
theorem q200.taker {K:Fg} {C:Addr} {f:Str} (n:q200 K C f):PySem.W.takerIn K C f=some none:=by
 unfold PySem.W.takerIn
 rw [show PySem.W.findIn K (.ref C) f=some none from n]
 rfl
structure Con (K:Fg) (C:Addr) (f:Str) (v:V) (u:Value):Prop where
 at_:PySem.W.findIn K (.ref C) f=some (some u)
 rel:RelV v u
 get:PySem.W.specialIn K u "__get__" = some none
 cp:PySem.W.copiedNames.contains f=false
structure Meth (K:Fg) (C:Addr) (m:Str) (f:Addr):Prop where
 at_:PySem.W.findIn K (.ref C) m=some (some (.ref f))
 fn:PySem.W.isFn K (.ref f)=true
 kp:PySem.W.keepIn K (.ref f)=true
section
variable {pins:List (Addr × Obj)} {σ:St} {H:Hp} {s:Shared} {a C dx:Addr} {fs:List (Str × V)} {f:Str} {v:V} {A:Around} {E:VS}
theorem q522 {b:Bool} (I:Inv X pins σ H s) (e:H a=some (.ins C dx fs)) (c:Cls X.K C) (n:q200 X.K C f) (l:fs.lookup f=some v)
  (h:∀ u s',Inv X pins σ H s'->RelV v u->Q u s'):wpAny (model X.prog X.w) A (getAttr (.ref a) f b) Q E s:=by
 obtain ⟨mA,O,r,_,_,_⟩:=q312 I.hok e
 obtain ⟨u,hu,ru⟩:=RelO.some_of (v:=v) (o:=mA f) (by rw [<- l];exact r f)
 exact get_map I.kIn O (c.get f) c.hd n hu (q593 ru) (h u _ (I.tok _) ru)
theorem q283 (I:Inv X pins σ H s) (e:H a=some (.ins C dx fs)) (c:Cls X.K C) (k:Meth X.K C m g) (l:fs.lookup m=none)
  (h:Q (.ref g,[.ref a]) s):wpAny (model X.prog X.w) A (getMethod (.ref a) m pl) Q E s:=by
 obtain ⟨mA,O,r,_,_,_⟩:=q312 I.hok e
 have hn:mA m=none:=RelO.none_of (by rw [<- l];exact r m)
 exact get_meth I.kIn O (c.get m) k.at_ k.fn hn h
theorem q523 (I:Inv X pins σ H s) (e:H a=some (.ins C dx fs)) (c:Cls X.K C) (n:q200 X.K C f) (hl:fs.length < 1000) (ry:RelV y u)
  (h:∀ s',Inv X pins σ (upd H a (.ins C dx (putF f y fs))) s'->Q () s'):wpAny (model X.prog X.w) A (setAttr (.ref a) f u) Q E s:=by
 obtain ⟨mA,O,r,wi,_,ho⟩:=q312 I.hok e
 have hz:(fs.map (·.1)).length<=sizeLine:=by rw [List.length_map,sizeLine_eq];omega
 refine set_map I.kIn O c.sa c.po n.taker c.hd wi hz fun h' O' sb=>h _ ?_
 have hd:∃ o,h'.get? dx=some o:=let ⟨o,_,_,e',_⟩:=O'.ns;⟨o,e'⟩
 refine I.write (x:=a) (e:=dx) (by rw [e];exact True.intro) (.inr ho) (fun b q hb z=>(sb.2 b hb).trans z) hd ?_
 refine ⟨by rw [q31 O.ne];exact ho,?_,O.ne,O'.obj,_,O'.ns,fun g=>?_,fun g hg=>?_⟩
 ·have:=q230 f y fs;omega
 ·show RelO ((putF f y fs).lookup g) (if g=f then some u else mA g)
  rw [q228]
  by_cases q:g=f
  ·rw [if_pos q,if_pos q];exact ry
  ·rw [if_neg q,if_neg q];exact r g
 ·by_cases q:g=f
  ·rw [q];exact (q229 f y fs).1
  ·refine (q229 f y fs).2 g (wi g fun z=>hg ?_)
   show (if g=f then some u else mA g)=none
   rw [if_neg q];exact z
theorem Inv.made (I:Inv X pins σ H s):Inv X pins σ (upd (upd H s.heap.objs.size (.own (s.heap.objs.size+1))) (s.heap.objs.size+1) (.ins C s.heap.objs.size []))
  { s with heap:=(s.heap.push PySem.W.emptyDict).push (PySem.W.instObj C s.heap.objs.size) }:=by
 have e1:(s.heap.push PySem.W.emptyDict).get? s.heap.objs.size=some PySem.W.emptyDict:=Heap.get?_push_size s.heap rfl
 have e2:((s.heap.push PySem.W.emptyDict).push (PySem.W.instObj C s.heap.objs.size)).get? (s.heap.objs.size+1)=some (PySem.W.instObj C s.heap.objs.size):=by
  have:=Heap.get?_push_size (s.heap.push PySem.W.emptyDict) (o:=PySem.W.instObj C s.heap.objs.size) rfl
  rwa [Heap.size_push] at this
 have e3:(s.heap.push PySem.W.emptyDict).Ns s.heap.objs.size (fun _=>none):=⟨PySem.W.emptyDict,#[],_,e1,rfl,(fun e he=>absurd he (by simp)),fun _=>rfl⟩
 have I1:=I.laid (a:=s.heap.objs.size) (o:=.own (s.heap.objs.size+1)) (h':=s.heap.push PySem.W.emptyDict) (t':=s.toks) (fun b u q=>Heap.get?_push_of_some _ q) (Nat.le_refl _) ⟨_,e1⟩
 refine I1.laid (a:=s.heap.objs.size+1) (o:=.ins C s.heap.objs.size []) (t':=s.toks) (fun b u q=>Heap.get?_push_of_some _ q) (Nat.le_of_eq (Heap.size_push _ _)) ?_
 have ne:s.heap.objs.size ≠ s.heap.objs.size+1:=Nat.ne_of_lt (Nat.lt_succ_self _)
 refine ⟨by rw [q31 ne,q14],Nat.zero_le _,ne,e2,fun _=>none,(Heap.Ns1.of_empty e3).at fun o q=>Heap.get?_push_of_some _ q,fun _=>True.intro,fun y hy=>absurd rfl hy⟩
theorem attr_of (hb:attributeBase e f env (eval e env)=eval e env)
  (h:wpAny (model prog w) A (eval e env) (fun o s₁=>wpAny (model prog w) A (getAttr o f true) Q E s₁) E s):wpAny (model prog w) A (eval (.Attribute e f pos) env) Q E s:=
 Attribute_any_ h (by rw [arm_eval_Attribute,hb])
end
def tFld (K:Fg) (ta:TE) (f:Str):TE:=fun σ H Q=>ta σ H fun x H1=>∃ a C dx fs v,x = .ref a/\H1 a=some (.ins C dx fs)/\Cls K C/\q200 K C f/\fs.lookup f=some v/\Q v H1
def sFld (K:Fg) (ta tv:TE) (f:Str):TS:=fun D σ H=>tv σ H fun y H1=>ta σ H1 fun x H2=>∃ a C dx fs,x = .ref a/\H2 a=some (.ins C dx fs)/\Cls K C/\q200 K C f/\fs.length < 1000 /\
 D.nx σ (upd H2 a (.ins C dx (putF f y fs)))
section
variable {o e value:Expr} {f:Str} {pos pos' tpos:Pos} {ta tv:TE}
theorem q157 (he:PE X e ta) (hb:attributeBase e f X.env (eval e X.env)=eval e X.env):PE X (.Attribute e f pos) (tFld X.K ta f):=by
 intro pins s σ H Q I h
 refine attr_of hb (thn (he pins s σ H _ I h) fun u s1 ⟨x,H1,I1,rx,a,C,dx,fs,v,ex,ea,c,n,l,q⟩=>?_)
 subst ex
 obtain rfl:u=Value.ref a:=rx
 exact q522 I1 ea c n l fun u' s2 I2 ru=>⟨v,H1,I2,ru,q⟩
theorem ps_fld (ha:PE X o ta) (hv:PE X value tv) (hs:swapsWith value (some (.Attribute o f pos')) pos.line X.env=pure false):PS X (.Assign [.Attribute o f pos'] value pos) (sFld X.K ta tv f):=by
 intro pins s σ H D I h
 refine plainObj_wpAny_Assign_Attribute (thn (hv pins s σ H _ I h) fun u s1 ⟨y,H1,I1,ry,q⟩=>thn (ha pins s1 σ H1 _ I1 q) fun ov s2 ⟨x,H2,I2,rx,a,C,dx,fs,ex,ea,c,n,l,q2⟩=>?_) hs
 subst ex
 obtain rfl:ov=Value.ref a:=rx
 exact q523 I2 ea c n l ry fun s3 I3=>⟨σ,_,I3,q2⟩
end
section
variable {pins:List (Addr × Obj)} {σ:St} {H:Hp} {s:Shared} {A:Around} {E:VS} {Q:VS} {c:Value} {b:Bool}
inductive TyOf (K:Fg) (H:Hp):V->Value->Prop where
 | non:TyOf K H .non (.type "NoneType")
 | bl (x:Bool):TyOf K H (.bl x) (.type "bool")
 | int (i:Int):TyOf K H (.int i) (.type "int")
 | str (x:Str):TyOf K H (.str x) (.type "str")
 | flt (x:UInt64):TyOf K H (.flt x) (.type "float")
 | lst {a:Addr} {xs:List V} (e:H a=some (.lst xs)):TyOf K H (.ref a) (.type "list")
 | frz {a:Addr} {o:Obj} {xs:List V} (e:H a=some (.frz o (.lst xs))):TyOf K H (.ref a) (.type "list")
 | tup {a:Addr} {xs:List V} (e:H a=some (.tup xs)):TyOf K H (.ref a) (.type "tuple")
 | dK {a:Addr} {kvs:List (Key × V)} (e:H a=some (.dK kvs)):TyOf K H (.ref a) (.type "dict")
 | dT {a:Addr} {kvs:List (List Key × V)} (e:H a=some (.dT kvs)):TyOf K H (.ref a) (.type "dict")
 | ins {a C dx:Addr} {fs:List (Str × V)} (e:H a=some (.ins C dx fs)) (cl:Cls K C) (ha:PySem.W.findIn K (.ref C) "__class__" = some (some (.builtin "object.__class__")))
   (hn:PySem.W.specialIn K (.builtin "object.__class__") "__get__" = some (some (.builtin "getset_descriptor.__get__"))) (htk:PySem.W.takesIn K (.builtin "object.__class__")=some true)
   (hm:PySem.W.mroIn K C (.type "object")=some true):TyOf K H (.ref a) (.ref C)
theorem q594 (I:Inv X pins σ H s) (rx:RelV x u) (ty:TyOf X.K H x t) (e:PySem.W.kitOne X.K t c=some b) (h:∀ tk,Q (.bool b) { s with toks:=tk }) :
  wpAny (model X.prog X.w) A (call (.builtin "isinstance") [u,c]) Q E s:=by
 cases ty with
 | non=>cases (show u=Value.none from rx);exact PySem.W.kia_one PySem.W.kitx_none I.kIn True.intro e (fun z=>nomatch z) h
 | bl y=>cases (show u=Value.bool y from rx);exact PySem.W.kia_one PySem.W.kitx_bool I.kIn True.intro e (fun z=>nomatch z) h
 | int i=>obtain ⟨t,q⟩:=(show ∃ t,u=Value.int i t from rx);cases q;exact PySem.W.kia_one PySem.W.kitx_int I.kIn True.intro e (fun z=>nomatch z) h
 | str y=>obtain ⟨t,q⟩:=(show ∃ t,u=Value.str y t from rx);cases q;exact PySem.W.kia_one PySem.W.kitx_str I.kIn True.intro e (fun z=>nomatch z) h
 | flt y=>obtain ⟨t,q⟩:=(show ∃ t,u=Value.float y t from rx);cases q;exact PySem.W.kia_one PySem.W.kitx_float I.kIn True.intro e (fun z=>nomatch z) h
 | @lst a xs ea=>
  cases (show u=Value.ref a from rx)
  obtain ⟨_,_,n,_,h1⟩:=(show ObjOk X.prog X.w H s.heap a (.lst xs) from I.hok a _ ea)
  exact PySem.W.kia_one PySem.W.kitx_list I.kIn ⟨_,h1,rfl⟩ e (fun z=>nomatch z) h
 | @frz a ob xs ea=>
  cases (show u=Value.ref a from rx)
  obtain ⟨_,_,_,n,_,h1⟩:=(show ObjOk X.prog X.w H s.heap a (.frz ob (.lst xs)) from I.hok a _ ea)
  exact PySem.W.kia_one PySem.W.kitx_list I.kIn ⟨_,h1,rfl⟩ e (fun z=>nomatch z) h
 | @tup a xs ea=>
  cases (show u=Value.ref a from rx)
  obtain ⟨_,_,_,p⟩:=(show ObjOk X.prog X.w H s.heap a (.tup xs) from I.hok a _ ea)
  obtain ⟨o,h1,h2,_⟩:=p
  exact PySem.W.kia_one PySem.W.kitx_tuple I.kIn ⟨o,h1,h2⟩ e (fun z=>nomatch z) h
 | @dK a kvs ea=>
  cases (show u=Value.ref a from rx)
  obtain ⟨_,_,vs,_,p⟩:=(show ObjOk X.prog X.w H s.heap a (.dK kvs) from I.hok a _ ea)
  obtain ⟨o,es,ep,h1,h2,_⟩:=p
  exact PySem.W.kia_one PySem.W.kitx_dict I.kIn ⟨o,h1,h2.1⟩ e (fun z=>nomatch z) h
 | @dT a kvs ea=>
  cases (show u=Value.ref a from rx)
  obtain ⟨_,_,xs,_,o,es,ep,h1,h2,_⟩:=(show ObjOk X.prog X.w H s.heap a (.dT kvs) from I.hok a _ ea)
  exact PySem.W.kia_one PySem.W.kitx_dict I.kIn ⟨o,h1,h2.1⟩ e (fun z=>nomatch z) h
 | @ins a C dx fs ea cl ha hn htk hm=>
  cases (show u=Value.ref a from rx)
  obtain ⟨mA,O,_⟩:=q312 I.hok ea
  obtain ⟨od,J,_⟩:=O.look
  exact PySem.W.kia_one (PySem.W.kitx_own (cl.get _) cl.hd ha hn htk hm) I.kIn J e (fun z=>nomatch z) h
end
structure Room (k:Nat) (A:Around):Prop where
 hd:A.handled=none
 dp:A.depth+3 * k+5 < recursionLimit
 un:A.units+16 * k+200 < cLine
theorem Room.mono {j k:Nat} (r:Room k A) (h:j<=k):Room j A:=⟨r.hd,by have:=r.dp;omega,by have:=r.un;omega⟩
theorem Room.deeper {k:Nat} {A:Around} (r:Room (k+1) A) (env:Env):Room k (A.deeper env):=
 ⟨r.hd,by have:=r.dp;show A.depth+1+3 * k+5 < _;omega,by have:=r.un;show A.units+3+16 * k+200 < _;omega⟩
theorem q524 {A:Around}:(A.under (.builtin "type.__call__" ⟨.ref C::us,kw⟩)).depth=A.depth+1:=by
 first | rfl | simp [Around.under,Code.weight,Code.isCreation,Code.isGuard,Code.isCaller,Code.frames,Code.isFrame,guardIds]
theorem q525 {A:Around}:(A.under (.builtin "type.__call__" ⟨.ref C::us,kw⟩)).units=A.units+1:=by
 first | rfl | simp [Around.under,Code.cUnits,Code.frames,Code.isFrame]
theorem Room.make {k:Nat} {A:Around} (r:Room (k+1) A) (C:Addr) (us:List Value) (kw:List (Str × Value)):Room k (A.under (.builtin "type.__call__" ⟨.ref C::us,kw⟩)):=
 ⟨r.hd,by have:=r.dp;rw [q524];omega,by have:=r.un;rw [q525];omega⟩
theorem Room.depth {k:Nat} {A:Around} (r:Room k A):A.depth < recursionLimit:=by have:=r.dp;omega
theorem Room.units {k:Nat} {A:Around} (r:Room k A):A.units+64 < cLine:=by have:=r.un;omega
def tNil:TA:=fun _ H Q=>Q [] H
def tCons (ta:TE) (tr:TA):TA:=fun σ H Q=>ta σ H fun x H1=>tr σ H1 fun xs H2=>Q (x::xs) H2
section
variable {e:Expr} {es:List Expr} {te:TE} {t:TA} {pos:Pos}
theorem q11:PA X [] tNil:=fun _ _ _ _ H Q I h=>Calls.spliced_nil ⟨[],H,I,.nil,h⟩
theorem q10 (ha:PE X e te) (hr:PA X es t) (hs:starEach (e::es) X.env=(false,eval e X.env)::starEach es X.env:=by rfl):PA X (e::es) (tCons te t):=by
 intro pos pins s σ H Q I h
 rw [hs]
 show wpAny _ _ (spliced ((false,eval e X.env)::backTo pos (starEach es X.env))) _ _ s
 refine Calls.spliced_cons (thn (ha pins s σ H _ I h) fun u s1 ⟨x,H1,I1,r1,q1⟩=>?_)
 exact thn (hr pos pins s1 σ H1 _ I1 q1) fun us s2 ⟨xs,H2,I2,r2,q2⟩=>⟨x::xs,H2,I2,.cons r1 r2,q2⟩
def tTup (t:TA):TE:=fun σ H Q=>t σ H fun xs H1=>xs.length<=sizeLine /\ ∀ p,H1 p=none->Q (.ref p) (upd H1 p (.tup xs))
def tLst (t:TA):TE:=fun σ H Q=>t σ H fun xs H1=>xs.length<=sizeLine /\ ∀ p,H1 p=none->Q (.ref p) (upd H1 p (.lst xs))
theorem q28 {x1} (h:PA X es t):PE X (.Tuple es x1 pos) (tTup t):=by
 intro pins s σ H Q I hq
 refine wpAny_Tuple_spliced (thn (h pos pins s σ H _ I hq) fun us s1 ⟨xs,H1,I1,r,z,q⟩=>⟨by rw [<- r.length];exact z,?_⟩)
 have hf:H1 s1.heap.objs.size=none:=I1.hok.fresh (Nat.le_refl _)
 refine ⟨.ref s1.heap.objs.size,upd H1 s1.heap.objs.size (.tup xs),I1.laid (t':=s1.toks) (fun b u e=>Heap.get?_push_of_some _ e) (Nat.le_refl _) ?_,rfl,q _ hf⟩
 exact ⟨z,us,r,⟨_,Heap.get?_push_size _ rfl,rfl,_,rfl⟩⟩
theorem q36 (h:PA X es t):PE X (.List es pos) (tLst t):=by
 intro pins s σ H Q I hq
 refine wpAny_List_spliced (thn (h pos pins s σ H _ I hq) fun us s1 ⟨xs,H1,I1,r,z,q⟩=>⟨by rw [<- r.length];exact z,?_⟩)
 have hf:H1 s1.heap.objs.size=none:=I1.hok.fresh (Nat.le_refl _)
 refine ⟨.ref s1.heap.objs.size,upd H1 s1.heap.objs.size (.lst xs),I1.laid (t':=s1.toks) (fun b u e=>Heap.get?_push_of_some _ e) (Nat.le_refl _) ?_,rfl,q _ hf⟩
 exact ⟨z,us,0,r,Heap.get?_push_size _ rfl⟩
end
abbrev Sp:=List V->Hp->VK->XK->Prop
abbrev CXT:=List Env->Hp->Shared->XK->VS
structure Env0 (P:Program) (w:World) (K:Fg) (mg:Mg) (base:Heap) (A:Around) (outer:List Env) (s:Shared) (H:Hp):Prop where
 frames:A.frames=some outer
 mod:Mod K mg base
 bs:∀ b o,base.get? b=some o->s.heap.get? b=some o/\H b=none
 bsz:base.objs.size<=s.heap.objs.size
 funs:s.heap.FunFrames base outer
 frf:∀ b ∈ frs outer,H b=none
 hok:HOk P w H s.heap
 bare:AllBare s.gens
def CE (outer:List Env) (P:Program) (w:World) (H:Hp) (s:Shared) (Q:VK) (u:Value) (s':Shared):Prop:=
 ∃ v H',s'.os=s.os/\AllBare s'.gens/\Un (frs outer) [] H H' s.heap s'.heap/\HOk P w H' s'.heap/\RelV v u/\Q v H'
def CR (CX:CXT) (outer:List Env) (P:Program) (w:World) (H:Hp) (s:Shared) (Q:VK) (E:XK) (r:Result) (s':Shared):Prop:=
 match r with
 | .ok (.ret u)=>CE outer P w H s Q u s'
 | .ok _=>False
 | .error e=>CX outer H s E e s'
structure FnOk (P:Program) (w:World) (K:Fg) (mg:Mg) (base:Heap) (CX:CXT) (k:Nat) (f:Addr) (fd:FuncData) (ps:List Str) (sp:Sp):Prop where
 len:∀ vs H Q E,sp vs H Q E->vs.length=ps.length
 run:∀ (A:Around) (outer:List Env) (s:Shared) (H:Hp) (args:Args) (us:List Value) (vs:List V) (Q:VK) (E:XK),Room k A->Env0 P w K mg base A outer s H->BindsTo s fd args (ps.zip us)->Vals vs us->sp vs H Q E ->
  codeAny (model P w) A (.call (.ref f) args) (CR CX outer P w H s Q E) s
theorem FnOk.mono {P:Program} {w:World} {K:Fg} {mg:Mg} {base:Heap} {CX:CXT} {j k:Nat} {f:Addr} {fd:FuncData} {ps:List Str} {sp:Sp} (F:FnOk P w K mg base CX j f fd ps sp) (h:j<=k) :
  FnOk P w K mg base CX k f fd ps sp:=⟨F.len,fun A outer s H args us vs Q E hr=>F.run A outer s H args us vs Q E (hr.mono h)⟩
theorem Env0.make {P:Program} {w:World} {K:Fg} {mg:Mg} {base:Heap} {A:Around} {outer:List Env} {s:Shared} {H:Hp} (e:Env0 P w K mg base A outer s H) (C:Addr) (us:List Value) (kw:List (Str × Value)) :
  Env0 P w K mg base (A.under (.builtin "type.__call__" ⟨.ref C::us,kw⟩)) outer s H:=⟨by first | exact e.frames | (simpa [Around.under,Code.envs,Code.isFrame,pushEnvs] using e.frames),e.mod,e.bs,e.bsz,e.funs,e.frf,e.hok,e.bare⟩
section
variable {pins:List (Addr × Obj)} {σ:St} {H:Hp} {s s':Shared}
theorem Inv.env0 (I:Inv X pins σ H s):Env0 X.prog X.w X.K X.mg X.base X.A X.stack s H:=
 ⟨I.ok.frames,I.ok.mod,I.bs,Nat.le_trans I.ok.bsz I.sz,I.stack,I.stkFree,I.hok,I.bare⟩
theorem Inv.after (I:Inv X pins σ H s) (h:CE X.stack X.prog X.w H s Q u s'):EP X pins σ Q u s':=by
 obtain ⟨v,H',os,bare,un,hok,r,q⟩:=h
 obtain ⟨hh,g,d,t,os'⟩:=s'
 obtain rfl:os'=s.os:=os
 exact ⟨v,H',I.call (h':=hh) (g':=g) (d':=d) (t':=t) (ch:=[]) un hok bare (fun b z=>absurd z (by simp)),r,q⟩
end
def tCall (sp:Sp) (dvs:List V) (E:XK) (t:TA):TE:=fun σ H Q=>t σ H fun vs H1=>sp (vs++dvs) H1 Q E
def tMeth (C:Addr) (m:Str) (sp:Sp) (dvs:List V) (E:XK) (ta:TE) (t:TA):TE:=fun σ H Q=>ta σ H fun x H1=>∃ a dx fs,x = .ref a/\H1 a=some (.ins C dx fs)/\fs.lookup m=none /\
 t σ H1 fun vs H2=>sp (x::(vs++dvs)) H2 Q E
def tMake (C:Addr) (sp:Sp) (dvs:List V) (E:XK) (t:TA):TE:=fun σ H Q=>t σ H fun vs H1=>∀ x dx,H1 x=none->H1 dx=none->dx ≠ x ->
 sp (.ref x::(vs++dvs)) (upd (upd H1 dx (.own x)) x (.ins C dx [])) (fun v H2=>v = .non/\Q (.ref x) H2) E
def Binds (K:Fg) (fd:FuncData) (ps:List Str) (ds:List Value):Prop:=
 ∀ (s:Shared) (us:List Value),K.In s.heap->(us++ds).length=ps.length->BindsTo s fd ⟨us,[]⟩ (ps.zip (us++ds))
theorem Binds.all {K:Fg} {fd:FuncData} {ps:List Str} (h:∀ us:List Value,us.length=ps.length->bindArgs fd ⟨us,[]⟩=pure (ps.zip us)):Binds K fd ps []:=fun s us _ hl=>by
 rw [List.append_nil] at hl ⊢
 exact .of_eq (h us hl)
def q231 (CX:CXT) (X:Cx) (E:XK):Prop:=∀ (pins:List (Addr × Obj)) (σ:St) (H:Hp) (s:Shared) (e:Value) (s':Shared),Inv X pins σ H s->CX X.stack H s E e s'->X.xe e s'
section
variable {CX:CXT} {k:Nat} {f C:Addr} {fd:FuncData} {ps:List Str} {sp:Sp} {dvs:List V} {ds:List Value} {E:XK} {x m:Str} {p pos apos:Pos} {e o:Expr} {es:List Expr} {ta:TE} {t:TA}
theorem q595 (F:FnOk X.prog X.w X.K X.mg X.base CX k f fd ps sp) (hr:Room k X.A) (hb:Binds X.K fd ps ds) (hd:Vals dvs ds) (hx:q231 CX X E)
  (I:Inv X pins σ H s) (r:Vals vs us) (h:sp (vs++dvs) H Q E):wpAny (model X.prog X.w) X.A (call (.ref f) us) (EP X pins σ Q) X.xe s:=by
 have r2:Vals (vs++dvs) (us++ds):=r.append hd
 have hl:(us++ds).length=ps.length:=by rw [<- r2.length];exact F.len _ _ _ _ h
 refine wpAny_call (codeAny_mono (F.run X.A X.stack s H ⟨us,[]⟩ (us++ds) (vs++dvs) Q E hr I.env0 (hb s us I.kIn hl) r2 h) fun r s' hq=>?_)
 cases r with
 | error e=>exact hx pins σ H s e s' I hq
 | ok fl=>
  cases fl with
  | ret u=>exact I.after hq
  | next=>exact False.elim hq
  | brk=>exact False.elim hq
  | cont=>exact False.elim hq
theorem pe_call (F:FnOk X.prog X.w X.K X.mg X.base CX k f fd ps sp) (hr:Room k X.A) (hg:Gl X x) (hm:X.mg x=some (.ref f)) (hk:PySem.W.keepIn X.K (.ref f)=true) (hb:Binds X.K fd ps ds) (hd:Vals dvs ds) (hx:q231 CX X E)
  (ha:PA X (e::es) t) (hdb:(x == ("__debug__" : Str))=false:=by decide) (he:starEach (e::es) X.env=(false,eval e X.env)::starEach es X.env:=by rfl) (hpl:(backTo pos (starEach es X.env)).any (·.1)=false:=by rfl) :
  PE X (.Call (.Name x p) (e::es) [] pos) (tCall sp dvs E t):=by
 intro pins s σ H Q I h
 refine wpAny_Call_Name_kw (q580 I hg hm ?_ hdb)
 refine PySem.W.callWith_K (h₀:=X.base) I.ok.mod.kin hk (thn (ha pos pins s σ H _ I h) fun us s1 ⟨vs,H1,I1,r,q⟩=>⟨I1.kIn,?_⟩) he hpl
 exact q595 F hr hb hd hx I1 r q
theorem pe_meth {pl:Sem Bool} (he:PE X o ta) (c:Cls X.K C) (hm:Meth X.K C m f) (F:FnOk X.prog X.w X.K X.mg X.base CX k f fd ps sp) (hr:Room k X.A) (hb:Binds X.K fd ps ds) (hd:Vals dvs ds) (hx:q231 CX X E) (ha:PA X (e::es) t)
  (hst:starEach (e::es) X.env=(false,eval e X.env)::starEach es X.env:=by rfl) (hpl:(backTo pos (starEach es X.env)).any (·.1)=false:=by rfl)
  (ht:eval (.Call (.Attribute o m apos) (e::es) [] pos) X.env=(do
   let ov <- eval o X.env
   standAt apos.atName
   let (f,first) <- holding [ov] (getMethod ov m pl)
   callWith pos f first (backTo pos (starEach (e::es) X.env)) (backToKw pos (keywordEach [] X.env))):=by rfl) :
  PE X (.Call (.Attribute o m apos) (e::es) [] pos) (tMeth C m sp dvs E ta t):=by
 intro pins s σ H Q I h
 refine PySem.W.methodCall_KW (pl:=pl) (thn (he pins s σ H _ I h) fun u s1 ⟨x,H1,I1,rx,a,dx,fs,ex,ea,l,q⟩=>?_) ht
 subst ex
 obtain rfl:u=Value.ref a:=rx
 refine q283 I1 ea c hm l ?_
 refine PySem.W.callWith_K (first:=[.ref a]) (h₀:=X.base) I.ok.mod.kin hm.kp (thn (ha pos pins s1 σ H1 _ I1 q) fun us s2 ⟨vs,H2,I2,r,q2⟩=>⟨I2.kIn,?_⟩) hst hpl
 exact q595 (us:=.ref a::us) (vs:=.ref a::vs) F hr hb hd hx I2 (.cons rfl r) q2
theorem pe_meth0 (he:PE X o ta) (c:Cls X.K C) (hm:Meth X.K C m f) (F:FnOk X.prog X.w X.K X.mg X.base CX k f fd ps sp) (hr:Room k X.A) (hb:Binds X.K fd ps ds) (hd:Vals dvs ds) (hx:q231 CX X E)
  (ht:eval (.Call (.Attribute o m apos) [] [] pos) X.env=(do
   let ov <- eval o X.env
   standAt apos.atName
   let (f,first) <- holding [ov] (getMethod ov m pl)
   callWith pos f first (backTo pos (starEach [] X.env)) (backToKw pos (keywordEach [] X.env))):=by rfl) :
  PE X (.Call (.Attribute o m apos) [] [] pos) (tMeth C m sp dvs E ta tNil):=by
 intro pins s σ H Q I h
 refine PySem.W.methodCall_KW (pl:=pl) (thn (he pins s σ H _ I h) fun u s1 ⟨x,H1,I1,rx,a,dx,fs,ex,ea,l,q⟩=>?_) ht
 subst ex
 obtain rfl:u=Value.ref a:=rx
 refine q283 I1 ea c hm l ?_
 exact PySem.W.callWith_K0 (first:=[.ref a]) I1.kIn hm.kp (q595 (us:=[.ref a]) (vs:=[.ref a]) F hr hb hd hx I1 (.cons rfl .nil) q)
structure Mk (K:Fg) (C f:Addr):Prop where
 makes:PySem.W.makesIn K C=true
 init:PySem.W.findIn K (.ref C) "__init__" = some (some (.ref f))
 fn:PySem.W.isFn K (.ref f)=true
 kp:PySem.W.keepIn K (.ref C)=true
theorem run_make (M:Mk X.K C f) (F:FnOk X.prog X.w X.K X.mg X.base CX k f fd ps sp) (hr:Room (k+1) X.A) (hb:Binds X.K fd ps ds) (hd:Vals dvs ds)
  (hx:q231 CX X E) (I:Inv X pins σ H s) (r:Vals vs us)
  (h:∀ x dx,H x=none->H dx=none->dx ≠ x->sp (.ref x::(vs++dvs)) (upd (upd H dx (.own x)) x (.ins C dx [])) (fun v H2=>v = .non/\Q (.ref x) H2) E) :
  wpAny (model X.prog X.w) X.A (call (.ref C) us) (EP X pins σ Q) X.xe s:=by
 have hq:=h (s.heap.objs.size+1) s.heap.objs.size (I.hok.fresh (Nat.le_succ _)) (I.hok.fresh (Nat.le_refl _)) (Nat.ne_of_lt (Nat.lt_succ_self _))
 have I2:=Inv.made (C:=C) I
 have r2:Vals (V.ref (s.heap.objs.size+1)::(vs++dvs)) (Value.ref (s.heap.objs.size+1)::(us++ds)):=.cons rfl (r.append hd)
 have hl:(Value.ref (s.heap.objs.size+1)::us++ds).length=ps.length:=by
  have e:=r2.length
  rw [F.len _ _ _ _ hq] at e
  exact e.symm
 refine wpAny_call (make_map (f:=f) I.kIn M.makes M.init (beq_iff_eq.mp M.fn) (codeAny_mono (F.run _ X.stack _ _ ⟨Value.ref (s.heap.objs.size+1)::us,[]⟩ (Value.ref (s.heap.objs.size+1)::(us++ds)) _ _ E (hr.make C us [])
  (I2.env0.make C us []) (hb _ (Value.ref (s.heap.objs.size+1)::us) I2.kIn hl) r2 hq) fun r s' hq'=>?_))
 cases r with
 | error e=>exact hx pins σ _ _ e s' I2 hq'
 | ok fl=>
  cases fl with
  | ret u=>
   obtain ⟨v,H',I3,rv,ev,q3⟩:=I2.after hq'
   subst ev
   exact ⟨rv,⟨V.ref (s.heap.objs.size+1),H',I3,rfl,q3⟩⟩
  | next=>exact False.elim hq'
  | brk=>exact False.elim hq'
  | cont=>exact False.elim hq'
theorem pe_make (M:Mk X.K C f) (F:FnOk X.prog X.w X.K X.mg X.base CX k f fd ps sp) (hr:Room (k+1) X.A) (hg:Gl X x) (hm:X.mg x=some (.ref C)) (hb:Binds X.K fd ps ds) (hd:Vals dvs ds) (hx:q231 CX X E)
  (ha:PA X (e::es) t) (hdb:(x == ("__debug__" : Str))=false:=by decide) (he:starEach (e::es) X.env=(false,eval e X.env)::starEach es X.env:=by rfl) (hpl:(backTo pos (starEach es X.env)).any (·.1)=false:=by rfl) :
  PE X (.Call (.Name x p) (e::es) [] pos) (tMake C sp dvs E t):=by
 intro pins s σ H Q I h
 refine wpAny_Call_Name_kw (q580 I hg hm ?_ hdb)
 refine PySem.W.callWith_K (h₀:=X.base) I.ok.mod.kin M.kp (thn (ha pos pins s σ H _ I h) fun us s1 ⟨vs,H1,I1,r,q⟩=>⟨I1.kIn,?_⟩) he hpl
 exact run_make M F hr hb hd hx I1 r q
end
section
variable {CX:CXT} {k:Nat} {f C:Addr} {fd:FuncData} {ps ks:List Str} {sp:Sp} {E:XK} {x m:Str} {p pos apos kpos:Pos} {e o:Expr} {es:List Expr} {kws:List Keyword} {te ta:TE} {t tk:TA} {nm:Option Str}
structure KBinds (K:Fg) (fd:FuncData) (ps ks:List Str) (g:List Value->List Value->List Value) (gV:List V->List V->List V):Prop where
 to:∀ (s:Shared) (us ws:List Value),K.In s.heap->(g us ws).length=ps.length->BindsTo s fd ⟨us,ks.zip ws⟩ (ps.zip (g us ws))
 rel:∀ {vs:List V} {us:List Value} {zs:List V} {ws:List Value},Vals vs us->Vals zs ws->Vals (gV vs zs) (g us ws)
variable {g:List Value->List Value->List Value} {gV:List V->List V->List V}
end
structure FnScope (N P:List Str) (sc:Scope):Prop where
 kind:sc.kind = .function
 co:sc.isCoroutine=false
 gen:sc.isGenerator=false
 nd:N.Nodup
 pre:N.take P.length=P
 par:∀ x ∈ P,sc.names.lookup x=some .local\/sc.names.lookup x=some .cell
 nofree:∀ y ∈ sc.names,y.2 ≠ .free
theorem q356 {kindOf:Str->Option NameKind} {x:Str}:∀ {binds:List (Str × Value)} {m:Mg},(∀ v,(x,v) ∉ binds)->bindL kindOf binds m x=m x
 | [],_,_=>rfl
 | (n,v)::r,m,h=>by
  unfold bindL
  rw [q356 fun w hw=>h w (List.mem_cons_of_mem _ hw)]
  split
  ·have:x ≠ n:=by rintro rfl;exact h v List.mem_cons_self
   simp [this]
  ·rfl
theorem q357 {kindOf:Str->Option NameKind} {x:Str}:∀ {binds:List (Str × Value)} {m:Mg},(∀ v,(x,v) ∉ binds)->bindC kindOf binds m x=m x
 | [],_,_=>rfl
 | (n,v)::r,m,h=>by
  unfold bindC
  rw [q357 fun w hw=>h w (List.mem_cons_of_mem _ hw)]
  split
  ·rfl
  ·have:x ≠ n:=by rintro rfl;exact h v List.mem_cons_self
   simp [this]
theorem q358 {kindOf:Str->Option NameKind} {x:Str} {v:Value}:∀ {P:List Str} {vs:List Value} {i:Nat} {m:Mg},P.Nodup->P[i]? = some x->vs[i]? = some v->kindOf x=some .local ->
  bindL kindOf (P.zip vs) m x=some v
 | [],_,_,_,_,h,_,_=>by simp at h
 | _::_,[],_,_,_,_,h,_=>by simp at h
 | p::P,w::vs,0,m,nd,h1,h2,hk=>by
  simp at h1 h2;subst h1;subst h2
  show bindL kindOf ((p,w)::P.zip vs) m p=_
  unfold bindL
  rw [q356 fun v hv=>(List.nodup_cons.mp nd).1 (List.of_mem_zip hv).1,if_pos hk]
  simp
 | p::P,w::vs,i+1,m,nd,h1,h2,hk=>by
  show bindL kindOf ((p,w)::P.zip vs) m x=_
  unfold bindL
  exact q358 (i:=i) (List.nodup_cons.mp nd).2 (by simpa using h1) (by simpa using h2) hk
theorem q359 {kindOf:Str->Option NameKind} {x:Str} {v:Value}:∀ {P:List Str} {vs:List Value} {i:Nat} {m:Mg},P.Nodup->P[i]? = some x->vs[i]? = some v->kindOf x ≠ some .local ->
  bindC kindOf (P.zip vs) m x=some v
 | [],_,_,_,_,h,_,_=>by simp at h
 | _::_,[],_,_,_,_,h,_=>by simp at h
 | p::P,w::vs,0,m,nd,h1,h2,hk=>by
  simp at h1 h2;subst h1;subst h2
  show bindC kindOf ((p,w)::P.zip vs) m p=_
  unfold bindC
  rw [q357 fun v hv=>(List.nodup_cons.mp nd).1 (List.of_mem_zip hv).1,if_neg hk]
  simp
 | p::P,w::vs,i+1,m,nd,h1,h2,hk=>by
  show bindC kindOf ((p,w)::P.zip vs) m x=_
  unfold bindC
  exact q359 (i:=i) (List.nodup_cons.mp nd).2 (by simpa using h1) (by simpa using h2) hk
noncomputable def start (N:List Str) (vs:List V):St:=vs.map some++List.replicate (N.length - vs.length) none
noncomputable def cxOf (CX:CXT) (P:Program) (w:World) (K:Fg) (mg:Mg) (base:Heap) (N:List Str) (qual:Str) (scope:Scope) (f:Addr) (cd:Value) (A:Around) (outer:List Env) (s:Shared) (H:Hp) (E:XK):Cx where
 prog:=P
 w:=w
 K:=K
 mg:=mg
 base:=base
 A:=A.deeper (envOfC qual scope s.heap.objs.size f cd)
 N:=N
 s₀:=s
 H₀:=H
 env:=envOfC qual scope s.heap.objs.size f cd
 outer:=outer
 stack:=envOfC qual scope s.heap.objs.size f cd::outer
 ex:=[]
 calm:=true
 fn:=fun _=>true
 pn:=[]
 xe:=fun e s'=>wpAny (model P w) (A.deeper (envOfC qual scope s.heap.objs.size f cd)) (leaving (envOfC qual scope s.heap.objs.size f cd) e) (fun _ s''=>CX outer H s E e s'') (fun e' s''=>CX outer H s E e' s'') s'
theorem q476 {sc:Scope} {n:Nat} (h:sc.names.lookup x=some .cell):∃ c,(cellsFrom n sc.names []).lookup x=some c:=by
 have q:=PySem.W.cellsFrom_some sc.names n [] (.inl h)
 exact Option.isSome_iff_exists.mp q
theorem q596 {CX:CXT} {P:Program} {w:World} {K:Fg} {mg:Mg} {base:Heap} {N ps:List Str} {qual:Str} {scope:Scope} {f:Addr} {cd:Value} {A:Around} {outer:List Env} {s s1:Shared} {H:Hp} {E:XK} {us:List Value} {vs:List V}
  (S:FnScope N ps scope) (hd:A.handled=none) (e0:Env0 P w K mg base A outer s H) (hl:vs.length=ps.length) (r:Vals vs us)
  (x:InCallC s s.heap.objs.size (bindL (envOfC qual scope s.heap.objs.size f cd).kindOf (ps.zip us) fun _=>none) (cellsFrom (s.heap.objs.size+1) scope.names []) (bindC (envOfC qual scope s.heap.objs.size f cd).kindOf (ps.zip us) fun _=>none) s1) :
  Inv (cxOf CX P w K mg base N qual scope f cd A outer s H E) [] (start N vs) H s1:=by
 have hpl:ps.length<=N.length:=by have:=congrArg List.length S.pre;rw [List.length_take] at this;omega
 obtain ⟨h1,tk,rfl,hk⟩:=x.done
 have noA:∀ b:Addr,b ∉ (cxOf CX P w K mg base N qual scope f cd A outer s H E).ex:=fun b z=>absurd (show b ∈ ([]:List Addr) from z) (by simp)
 refine ⟨⟨e0.mod,S.kind,rfl,rfl,Nat.le_refl _,fun y z c h1 h2=>?_,fun y hy=>?_,fun y c _ h=>?_,fun _=>hd,Around.frames_deeper e0.frames,.inr ⟨rfl,rfl⟩,fun b z=>absurd z (noA b),e0.bs,e0.bsz,fun b _ _=>noA b,fun b z=>absurd z (noA b),e0.funs,e0.frf⟩,
  rfl,e0.bare,Un.kept hk,⟨_,x.toInCall.ns,fun i y v h1 h2 h3=>?_⟩,fun y c h=>⟨_,x.cell y c h⟩,e0.hok.fresh (Nat.le_refl _),fun y c h=>?_,fun p hp=>absurd (show p ∈ ([]:List (Addr × Obj)) from hp) (by simp),e0.hok.kept hk,?_⟩
 ·exact name_of_addr x.apart (PySem.mem_of_lookup h1) (PySem.mem_of_lookup h2)
 ·have hy:scope.names.lookup y=some .cell\/scope.names.lookup y=some .free:=hy
  rcases hy with hy | hy
  ·exact q476 hy
  ·exact absurd rfl (S.nofree _ (PySem.mem_of_lookup hy))
 ·exact Nat.le_of_lt (x.above y c (PySem.mem_of_lookup h))
 ·have hi:i < vs.length:=by
   unfold start at h2
   by_cases hi:i < vs.length
   ·exact hi
   ·rw [List.getElem?_append_right (by simpa using hi)] at h2
    rw [List.getElem?_replicate] at h2
    split at h2 <;> cases h2
  have ha:vs[i]? = some v:=by
   unfold start at h2
   rw [List.getElem?_append_left (by simpa using hi),List.getElem?_map] at h2
   cases e:vs[i]? with
   | none=>rw [e] at h2;cases h2
   | some a=>rw [e] at h2;cases h2;rfl
  obtain ⟨u,hu,rv⟩:=r.get ha
  have hp:ps[i]? = some y:=by
   rw [<- S.pre,List.getElem?_take_of_lt (by omega)];exact h1
  have ndP:ps.Nodup:=by rw [<- S.pre];exact S.nd.sublist (List.take_sublist _ _)
  refine ⟨u,rv,?_⟩
  rcases S.par y (List.mem_of_getElem? hp) with k | k
  ·exact .inl ⟨k,q358 ndP hp hu k⟩
  ·obtain ⟨c,e⟩:=q476 (n:=s.heap.objs.size+1) k
   refine .inr ⟨.inl k,c,e,?_⟩
   have q:=x.cell y c e
   rw [q359 ndP hp hu (by show scope.names.lookup y ≠ _;rw [k];decide)] at q
   exact q
 ·exact e0.hok.fresh (Nat.le_of_lt (x.above y c (PySem.mem_of_lookup h)))
 ·unfold start
  show _=N.length
  rw [List.length_append,List.length_map,List.length_replicate]
  omega
theorem fn_of {CX:CXT} {P:Program} {w:World} {K:Fg} {mg:Mg} {base:Heap} {k:Nat} {f:Addr} {name qual:Str} {params:Arguments} {body:List Stmt} {scope:Scope} {dV kV doc pm cdv ct oc:Value} {an od:Option Addr}
  {osl:Array (Option Value)} {N ps:List Str} {sp:Sp} (lk:K.lookup f=some ⟨oc,od,.func (PySem.W.fnOf name qual params body scope dV kV doc pm an cdv ct),osl⟩) (hcd:PySem.W.codeIn K cdv qual=true) (S:FnScope N ps scope)
  (len:∀ vs H Q E,sp vs H Q E->vs.length=ps.length)
  (hbody:∀ (A:Around) (outer:List Env) (s:Shared) (H:Hp) (vs:List V) (Q:VK) (E:XK),Room k (A.deeper (envOfC qual scope s.heap.objs.size f cdv))->sp vs H Q E ->
   ∃ t,PSs (cxOf CX P w K mg base N qual scope f cdv A outer s H E) body t/\t { nx:=fun _ H'=>Q .non H',rt:=Q } (start N vs) H) :
  FnOk P w K mg base CX (k+1) f (PySem.W.fnOf name qual params body scope dV kV doc pm an cdv ct) ps sp:=by
 refine ⟨len,fun A outer s H args us vs Q E hr e0 hb r hsp=>?_⟩
 have hl:=len _ _ _ _ hsp
 have KX:K.In s.heap:=e0.mod.kin.keeps fun b o e=>(e0.bs b o e).1
 have lim:s.heap.NoLimit:=e0.mod.nolimit.keeps fun b o e=>(e0.bs b o e).1
 have hkind:∀ y ∈ ps.zip us,scope.names.lookup y.1=some .local\/(scope.names.lookup y.1=some .cell/\((cellsFrom (s.heap.objs.size+1) scope.names []).lookup y.1).isSome=true):=fun ⟨n,v⟩ hy=>by
  rcases S.par n (List.of_mem_zip hy).1 with q | q
  ·exact .inl q
  ·exact .inr ⟨q,PySem.W.cellsFrom_some _ _ _ (.inl q)⟩
 refine codeAny_call_function hr.depth (KX _ _ lk) rfl S.co S.gen rfl (PySem.W.codeRec_of KX hcd) (hb _ _ _ _ ?_)
 refine wpAny_newFunctionEnv_cells S.kind hkind fun env he s1 x=>?_
 subst he
 refine ⟨lim.keeps x.toInCall.keep,codeAny_func ?_⟩
 obtain ⟨t,ht,hq⟩:=hbody A outer s H vs Q E (hr.deeper _) hsp
 have I:Inv (cxOf CX P w K mg base N qual scope f cdv A outer s H E) [] (start N vs) H s1:=q596 S hr.hd e0 hl r x
 refine wpAny_mono (ht [] s1 (start N vs) H _ I hq) (fun fl s' hs=>?_) fun e s' hs=>hs
 have fin:∀ {σ':St} {H':Hp} {v:V} {u:Value},Inv (cxOf CX P w K mg base N qual scope f cdv A outer s H E) [] σ' H' s'->RelV v u->Q v H'->CE outer P w H s Q u s':=
  fun {σ' H' v u} J rv q=>⟨v,H',J.os,J.bare,J.base,J.hok,rv,q⟩
 cases fl with
 | ret u=>
  obtain ⟨v,σ',H',J,rv,q⟩:=hs
  exact fin J rv q
 | next=>
  obtain ⟨σ',H',J,q⟩:=hs
  exact fin (v:=V.non) (u:=Value.none) J rfl q
 | brk=>
  obtain ⟨_,_,_,q⟩:=hs
  exact False.elim q
 | cont=>
  obtain ⟨_,_,_,q⟩:=hs
  exact False.elim q
section
variable {x:Str} {p pos:Pos} {e:Expr} {es:List Expr} {t:TA} {id T:String} {r:List V->Hp->VK->Prop}
def tCB (r:List V->Hp->VK->Prop) (t:TA):TE:=fun σ H Q=>t σ H fun vs H1=>r vs H1 Q
theorem q67 (hc:CallR X (.builtin id) r) (hg:Gl X x) (hm:X.mg x=none) (hv:bootBuiltins x=some (.builtin id)) (ha:PA X (e::es) t) (hn:x ≠ "__name__" := by decide) (hdb:(x == ("__debug__" : Str))=false:=by decide)
  (he:starEach (e::es) X.env=(false,eval e X.env)::starEach es X.env:=by rfl) (hpl:(backTo pos (starEach es X.env)).any (·.1)=false:=by rfl):PE X (.Call (.Name x p) (e::es) [] pos) (tCB r t):=by
 intro pins s σ H Q I h
 refine wpAny_Call_Name_kw (q156 I hg hm hv ?_ hn hdb)
 exact PyProof.Rows.callWith_builtin1 (thn (ha pos pins s σ H _ I h) fun us s1 ⟨vs,H1,I1,r1,q1⟩=>hc pins s1 σ H1 vs us Q I1 r1 q1) he hpl
theorem q68 (hc:CallR X (.type T) r) (hg:Gl X x) (hm:X.mg x=none) (hv:bootBuiltins x=some (.type T)) (ha:PA X (e::es) t) (hn:x ≠ "__name__" := by decide) (hdb:(x == ("__debug__" : Str))=false:=by decide)
  (he:starEach (e::es) X.env=(false,eval e X.env)::starEach es X.env:=by rfl) (hpl:(backTo pos (starEach es X.env)).any (·.1)=false:=by rfl):PE X (.Call (.Name x p) (e::es) [] pos) (tCB r t):=by
 intro pins s σ H Q I h
 refine wpAny_Call_Name_kw (q156 I hg hm hv ?_ hn hdb)
 exact PyProof.Rows.callWith_type1 (thn (ha pos pins s σ H _ I h) fun us s1 ⟨vs,H1,I1,r1,q1⟩=>hc pins s1 σ H1 vs us Q I1 r1 q1) he hpl
end
end L2
namespace HT
set_option autoImplicit false
open PySem PyProof.Rows
section
open PySem.SeqAt
open PySem.AutoSeq1 (wpAny_loadPart')
open PySem.MeetsSeq PySem.MeetsSeq2 PySem.MeetsSeq3
end
section
variable {prog:Program} {w:World} {A:Around} {E:VS} {s:Shared}
noncomputable def sIx (n d:Nat):Option Int->Nat
 | none=>d
 | some v=>if v < 0 then (v+(n:Int)).toNat else min v.toNat n
theorem q691 (n d:Nat):sIx n d none=d:=rfl
theorem q692 (n d k:Nat):sIx n d (some (k:Int))=min k n:=by
 show (if (k:Int) < 0 then ((k:Int)+(n:Int)).toNat else min (k:Int).toNat n)=min k n
 rw [if_neg (by omega),Int.toNat_natCast]
theorem sIx_le (n d:Nat) (hd:d<=n) (o:Option Int):sIx n d o<=n:=by
 cases o with
 | none=>exact hd
 | some v=>
  show (if v < 0 then (v+(n:Int)).toNat else min v.toNat n)<=n
  by_cases hv:v < 0
  ·rw [if_pos hv];omega
  ·rw [if_neg hv];exact Nat.min_le_right _ _
theorem q597 (v:Int) (n d:Nat):(if v < 0 then max (v+(n:Int)) 0 else min v (n:Int))=((sIx n d (some v):Nat):Int):=by
 show (if v < 0 then max (v+(n:Int)) 0 else min v (n:Int))=(((if v < 0 then (v+(n:Int)).toNat else min v.toNat n):Nat):Int)
 by_cases hv:v < 0
 ·simp only [if_pos hv];omega
 ·simp only [if_neg hv];omega
theorem q526 (lo hi:Option Int) (n:Nat):Builtin.Slice.sliceAdjust lo hi 1 (n:Int)=(((sIx n 0 lo:Nat):Int),((sIx n n hi:Nat):Int)):=by
 have h1:¬ ((1:Int) < 0):=by omega
 unfold Builtin.Slice.sliceAdjust
 simp only [h1,if_false]
 refine Prod.ext ?_ ?_
 ·cases lo with
  | none=>rfl
  | some v=>exact q597 v n 0
 ·cases hi with
  | none=>rfl
  | some v=>exact q597 v n n
theorem q527 (i j:Nat):Builtin.Slice.slicePlaces (i:Int) (j:Int) 1=j - i:=by
 unfold Builtin.Slice.slicePlaces
 have h1:(1:Int) > 0:=by omega
 simp only [h1,if_true,Int.ediv_one]
 split <;> omega
theorem q284 {v:Value} {o:Option Int} {Q:Option Int->Shared->Prop} (p:IsPart v o) (h:Q o s):wpAny (model prog w) A (Builtin.Slice.slicePartIndex v) Q E s:=by
 cases p with
 | none=>exact slicePart_none h
 | int i t=>exact slicePart_int h
theorem q118 {sl:Addr} {vl vu:Value} {lo hi:Option Int} {n:Nat} {Q:Int × Int × Nat->Shared->Prop} (hs:s.heap.IsSliceOf sl vl vu .none) (pl:IsPart vl lo) (pu:IsPart vu hi)
  (h:Q (((sIx n 0 lo:Nat):Int),1,sIx n n hi - sIx n 0 lo) s):wpAny (model prog w) A (Builtin.Slice.sliceApplied (.ref sl) (pure (n:Int))) Q E s:=by
 obtain ⟨os,hos,hcs,hds⟩:=id hs
 unfold Builtin.Slice.sliceApplied Builtin.Slice.sliceFields
 refine wpAny_bind (wpAny_bind (wpAny_field hos hds (x:=vl) rfl (wpAny_bind (wpAny_field hos hds (x:=vu) rfl (wpAny_bind (wpAny_field hos hds (x:=.none) rfl (wpAny_pure ?_)))))))
 refine wpAny_bind (slicePart_none ?_)
 show wpAny _ _ (if ((1:Int) == 0)=true then _ else _) _ _ s
 rw [if_neg (by decide)]
 refine wpAny_bind (q284 pl (wpAny_bind (q284 pu (wpAny_bind (wpAny_pure ?_)))))
 show wpAny _ _ (match Builtin.Slice.sliceAdjust lo hi 1 (n:Int) with | (lo,hi)=>pure (lo,(1:Int),Builtin.Slice.slicePlaces lo hi 1)) _ _ s
 rw [q526 lo hi n]
 show wpAny _ _ (pure (((sIx n 0 lo:Nat):Int),(1:Int),Builtin.Slice.slicePlaces ((sIx n 0 lo:Nat):Int) ((sIx n n hi:Nat):Int) 1)) _ _ s
 rw [q527]
 exact wpAny_pure h
theorem pick_gen (xs:Array Value) (i k:Nat):((List.range k).filterMap fun (m:Nat)=>xs[((i:Int)+(m:Int) * 1).toNat]?).toArray=((xs.toList.drop i).take k).toArray:=by
 have e:(fun (m:Nat)=>xs[((i:Int)+(m:Int) * 1).toNat]?)=fun m=>xs[i+m]?:=by
  funext m
  have:((i:Int)+(m:Int) * 1).toNat=i+m:=by omega
  rw [this]
 rw [e]
 have:=pick_run xs i k
 rw [List.filterMap_map] at this
 have e2:((fun x=>xs[x]?) ∘ fun x=>i+x)=fun m=>xs[i+m]?:=rfl
 rw [e2] at this
 rw [this]
theorem q528 {t sl:Addr} {items:Array Value} {vl vu:Value} {lo hi:Option Int} {Q:VS} (ht:IsTup s.heap t items) (hs:s.heap.IsSliceOf sl vl vu .none) (pl:IsPart vl lo) (pu:IsPart vu hi)
  (hw:¬ (sIx items.size 0 lo=0/\sIx items.size items.size hi=items.size))
  (h:Q (.ref s.heap.objs.size) { s with heap:=s.heap.push { cls:=.type "tuple", data:=.seq ((items.toList.drop (sIx items.size 0 lo)).take (sIx items.size items.size hi - sIx items.size 0 lo)).toArray } })
  (hsz:items.size<=sizeLine):wpAny (model prog w) A (getItem (.ref t) (.ref sl)) Q E s:=by
 have htake:sizeOk (.seq ((items.toList.drop (sIx items.size 0 lo)).take (sIx items.size items.size hi - sIx items.size 0 lo)).toArray):=by
  show ((items.toList.drop (sIx items.size 0 lo)).take (sIx items.size items.size hi - sIx items.size 0 lo)).toArray.size<=sizeLine
  rw [List.size_toArray,List.length_take,List.length_drop,Array.length_toList]
  omega
 have hj:sIx items.size items.size hi<=items.size:=sIx_le _ _ (Nat.le_refl _) hi
 obtain ⟨os,hos,hcs,hds⟩:=id hs
 have hTs:s.TypeIs (.ref sl) "slice" := ⟨os,hos,hcs⟩
 unfold getItem
 try with_reducible refine wpAny_holding ?_
 first | refine wpAny_bind (wpAny_pure ?_) | skip
 refine wpAny_bind (wpAny_sequenceKey ht.typeIs (by decide) ?_)
 refine wpAny_bind (wpAny_callSpecial?_slot (name:=Str.ofString "__getitem__") ht.typeIs PyProof.Rows.slot_tuple_getitem
  (wpAny_call_entry PyProof.Rows.slot_tuple_getitem ht.typeIs entry_tuple_getitem ?_ (args_tuple_getitem _ _)))
 show wpAny _ _ (Builtin.Tuple.tupleItemsOf (.ref t) >>= _) _ _ s
 refine wpAny_bind (tupleItemsOf_ ht ?_)
 refine wpAny_bind (wpAny_typeOf hTs ?_)
 rw [if_pos (by decide)]
 refine wpAny_bind (q118 hs pl pu ?_)
 have hno:¬ ((((sIx items.size 0 lo:Nat):Int) == 0 && (1:Int) == 1 && (sIx items.size items.size hi - sIx items.size 0 lo) == items.size)=true):=by
  intro q
  rw [Bool.and_eq_true,Bool.and_eq_true] at q
  have q1:((sIx items.size 0 lo:Nat):Int)=0:=eq_of_beq q.1.1
  have q2:sIx items.size items.size hi - sIx items.size 0 lo=items.size:=eq_of_beq q.2
  exact hw ⟨by omega,by omega⟩
 show wpAny _ _ (if (((sIx items.size 0 lo:Nat):Int) == 0 && (1:Int) == 1 && (sIx items.size items.size hi - sIx items.size 0 lo) == items.size)=true then _ else _) _ _ s
 rw [if_neg hno,pick_gen]
 first
  | exact wpAny_bind (m:=Builtin.Tuple.tupleExact _) (wpAny_newObj_type (wpAny_pure ⟨_,rfl,wpAny_pure h⟩) htake)
  | exact wpAny_bind (m:=Builtin.Tuple.tupleExact _) (wpAny_newObj_type (wpAny_bind (wpAny_pure (wpAny_pure ⟨_,rfl,wpAny_pure h⟩))) htake)
  | exact wpAny_bind (wpAny_bind (m:=Builtin.Tuple.tupleExact _) (wpAny_newObj_type (wpAny_pure (wpAny_pure ⟨_,rfl,wpAny_pure h⟩)) htake))
  | exact wpAny_bind (wpAny_bind (m:=Builtin.Tuple.tupleExact _) (wpAny_newObj_type (wpAny_pure ⟨_,rfl,wpAny_pure h⟩) htake))
end
end HT
namespace L2
open PySem PySem.Spec PyProof.Rows
variable {X:Cx}
abbrev TO:=St->Hp->(Option Int->Hp->Prop)->Prop
def PO (X:Cx) (e:Option Expr) (t:TO):Prop:=
 ∀ (pins:List (Addr × Obj)) (s:Shared) (σ:St) (H:Hp) (Q:Option Int->Hp->Prop),Inv X pins σ H s->t σ H Q ->
  wpAny (model X.prog X.w) X.A (evalPart e X.env) (fun u s'=>∃ o H',Inv X pins σ H' s'/\IsPart u o/\Q o H') X.xe s
def tNoPart:TO:=fun _ H Q=>Q none H
def tPart (t:TE):TO:=fun σ H Q=>t σ H fun x H1=>∃ i,x = .int i/\Q (some i) H1
theorem q85 {ns:List Int}:∀ {us:List Value},Vals (ns.map V.int) us->IntsAre us ns:=by
 induction ns with
 | nil=>intro us r;rw [List.map_nil] at r;cases r;exact .nil
 | cons n ns ih=>
  intro us r
  rw [List.map_cons] at r
  cases r with
  | cons r1 r2=>
   obtain ⟨t,e⟩:=r1
   subst e
   exact .cons n t (ih r2)
section
variable {e:Expr} {te:TE} {lo hi:Option Expr} {tl th:TO} {pos p2:Pos}
theorem q60:PO X none tNoPart:=by
 intro pins s σ H Q I h
 rw [evalPart_none]
 exact wpAny_pure ⟨none,H,I,.none,h⟩
theorem q51 (h:PE X e te):PO X (some e) (tPart te):=by
 intro pins s σ H Q I hw
 rw [evalPart_some]
 refine thn (h pins s σ H _ I hw) fun u s1 ⟨x,H1,I1,r1,q1⟩=>?_
 obtain ⟨i,rfl,q⟩:=q1
 obtain ⟨t,rfl⟩:=r1
 exact ⟨some i,H1,I1,.int i t,q⟩
def SlR (X:Cx) (r:V->Option Int->Option Int->Hp->VK->Prop):Prop:=
 ∀ (pins:List (Addr × Obj)) (s:Shared) (σ:St) (H:Hp) (x:V) (v vl vu:Value) (lo hi:Option Int) (sl:Addr) (Q:VK),Inv X pins σ H s->RelV x v->s.heap.IsSliceOf sl vl vu .none->IsPart vl lo->IsPart vu hi->r x lo hi H Q ->
  ∃ T id,typeLookup (.type T) "__getitem__" = pure (some (.builtin id))/\s.TypeIs v T/\wpAny (model X.prog X.w) X.A (getItem v (.ref sl)) (EP X pins σ Q) X.xe s
def tSl (r:V->Option Int->Option Int->Hp->VK->Prop) (te:TE) (tl th:TO):TE:=fun σ H Q=>te σ H fun x H1=>tl σ H1 fun l H2=>th σ H2 fun u H3=>r x l u H3 Q
theorem q45 (hr:SlR X r) (he:PE X e te) (hl:PO X lo tl) (hu:PO X hi th):PE X (.Subscript e (.Slice lo hi none p2) pos) (tSl r te tl th):=by
 intro pins s σ H Q I h
 refine Subscript_ (thn (he pins s σ H _ I h) fun v s1 ⟨x,H1,I1,r1,q1⟩=>?_)
 refine wpAny_Slice (thn (hl pins s1 σ H1 _ I1 q1) fun vl s2 ⟨l,H2,I2,pl,q2⟩=>thn (hu pins s2 σ H2 _ I2 q2) fun vu s3 ⟨u,H3,I3,pu,q3⟩=>?_)
 rw [evalPart_none]
 refine wpAny_pure ?_
 have I4:Inv X pins σ H3 { s3 with heap:=s3.heap.push { cls:=.type "slice", data:=.fields #[vl,vu,.none] } }:=I3.kept (t':=s3.toks) fun b ob q=>Heap.get?_push_of_some _ q
 obtain ⟨T,id,hT,ht,hg⟩:=hr pins { s3 with heap:=s3.heap.push { cls:=.type "slice", data:=.fields #[vl,vu,.none] } } σ H3 x v vl vu l u s3.heap.objs.size Q I4 r1 (Heap.IsSliceOf.new ..) pl pu q3
 show wpAny (model X.prog X.w) X.A (subscriptTail e (.Slice lo hi none p2) v (.ref s3.heap.objs.size)) (EP X pins σ Q) X.xe { s3 with heap:=s3.heap.push { cls:=.type "slice", data:=.fields #[vl,vu,.none] } }
 exact tail_any (ops:=[.ref s3.heap.objs.size,v]) ht hT hg (by with_unfolding_all rfl)
noncomputable def cutV (xs:List V) (lo hi:Option Int):List V:=(xs.drop (HT.sIx xs.length 0 lo)).take (HT.sIx xs.length xs.length hi - HT.sIx xs.length 0 lo)
theorem q232 (xs:List V) (lo hi:Option Int):(cutV xs lo hi).length<=xs.length:=by
 unfold cutV
 rw [List.length_take,List.length_drop]
 omega
theorem Vals.nil_iff (r:Vals xs us):us=[] ↔ xs=[]:=by
 cases r with
 | nil=>simp
 | cons _ _=>simp
end
noncomputable def ixN (n:Nat) (i:Int):Option Nat:=if 0<=i then (if i < n then some i.toNat else none) else if -(n:Int)<=i then some (i+n).toNat else none
noncomputable def atI {α:Type} (xs:List α) (i:Int):Option α:=(ixN xs.length i).bind fun j=>xs[j]?
theorem q598 {n:Nat} {i:Int} {j:Nat} (h:ixN n i=some j):seqIndex? i n=some j/\j < n /\ -(n:Int)<=i/\i < n:=by
 unfold ixN at h
 by_cases h0:0<=i
 ·rw [if_pos h0] at h
  by_cases h1:i < n
  ·rw [if_pos h1] at h
   have e:i.toNat=j:=Option.some.inj h
   exact ⟨by rw [seqIndex_of h0 h1,e],by omega,by omega,h1⟩
  ·rw [if_neg h1] at h;cases h
 ·rw [if_neg h0] at h
  by_cases h1:-(n:Int)<=i
  ·rw [if_pos h1] at h
   have e:(i+n).toNat=j:=Option.some.inj h
   exact ⟨by rw [seqIndex_neg (by omega) h1,e],by omega,h1,by omega⟩
  ·rw [if_neg h1] at h;cases h
theorem q599 {α:Type} {xs:List α} {i:Int} {v:α} (h:atI xs i=some v):∃ j,seqIndex? i xs.length=some j/\xs[j]? = some v/\j < xs.length /\ -(xs.length:Int)<=i/\i < xs.length:=by
 unfold atI at h
 cases e:ixN xs.length i with
 | none=>rw [e] at h;cases h
 | some j=>
  rw [e] at h
  obtain ⟨h1,h2,h3,h4⟩:=q598 e
  exact ⟨j,h1,h,h2,h3,h4⟩
theorem q39 {α:Type} {xs:List α} {j:Nat} {v:α} (h:xs[j]? = some v):atI xs (j:Int)=some v:=by
 have hj:j < xs.length:=(List.getElem?_eq_some_iff.mp h).1
 have e:ixN xs.length (j:Int)=some j:=by
  unfold ixN
  rw [if_pos (by omega),if_pos (by omega)];simp
 unfold atI;rw [e];exact h
def q600 (b:Expr):Prop:=∀ o i,subscripted b false o i=operate [o,i] (getItem o i)
def IxR (X:Cx) (r:R2):Prop:=
 ∀ (value slice:Expr) (pins:List (Addr × Obj)) (s:Shared) (σ:St) (H:Hp) (x y:V) (v u:Value) (Q:VK),Inv X pins σ H s->RelV x v->RelV y u->r x y H Q ->
  subscripted slice false v u=operate [v,u] (getItem v u)->wpAny (model X.prog X.w) X.A (subscriptTail value slice v u) (EP X pins σ Q) X.xe s
def MtR (X:Cx) (id:String) (r:V->List V->Hp->VK->Prop):Prop:=
 ∀ (pins:List (Addr × Obj)) (s:Shared) (σ:St) (H:Hp) (x:V) (xs:List V) (v:Value) (us:List Value) (Q:VK),Inv X pins σ H s->RelV x v->Vals xs us->r x xs H Q ->
  wpAny (model X.prog X.w) X.A (call (.builtin id) (v::us)) (EP X pins σ Q) X.xe s
section
variable {a b:Expr} {ta tb:TE} {pos:Pos}
theorem pe_ix (hr:IxR X r) (ha:PE X a ta) (hb:PE X b tb) (hs:q600 b):PE X (.Subscript a b pos) (tOp r ta tb):=by
 intro pins s σ H Q I h
 exact Subscript_ (binT ha hb I h fun v u s2 x y H2 I2 rx ry q=>hr a b pins s2 σ H2 x y v u Q I2 rx ry q (hs _ _))
def rIxL (K:Fg):R2:=fun x y H Q=>∃ p xs i v,x = .ref p/\y = .int i/\SqL K H p xs/\atI xs i=some v/\Q v H
def rIxT (K:Fg):R2:=fun x y H Q=>∃ p xs i v,x = .ref p/\y = .int i/\SqT K H p xs/\atI xs i=some v/\Q v H
theorem q47:IxR X (rIxL X.K):=by
 intro value slice pins s σ H x y v u Q I rx ry h hs
 obtain ⟨p,xs,i,z,rfl,rfl,hq,he,q⟩:=h
 cases rx
 obtain ⟨t,rfl⟩:=ry
 obtain ⟨its,r,pl,hz⟩:=I.list hq
 obtain ⟨j,h1,h2,h3,h4,h5⟩:=q599 he
 obtain ⟨w,ew,rw'⟩:=r.get h2
 have hl:=r.length
 have hn:=q475
 have fin:EP X pins σ Q w s:=⟨z,H,I,rw',q⟩
 by_cases h0:0<=i
 ·have hj:i.toNat=j:=by
   rw [seqIndex_of h0 h5] at h1
   exact Option.some.inj h1
  exact item_listR pl.isList h0 (by omega) (by rw [hj];simpa using ew) fin hs
 ·have hj:(i+(its.toArray.size:Int)).toNat=j:=by
   rw [seqIndex_neg (by omega) h4] at h1
   rw [List.size_toArray,<- hl]
   exact Option.some.inj h1
  exact subscriptTail_builtinR (x:=w) pl.isList.typeIs slot_list_getitem.lookup
   (wpAny_getItem_list_neg (Q:=fun r s'=>r=w/\EP X pins σ Q r s') pl.isList (by omega) (by rw [List.size_toArray] <;> omega) (by omega) (by rw [hj];simpa using ew) ⟨rfl,fin⟩) hs
theorem q32:IxR X (rIxT X.K):=by
 intro value slice pins s σ H x y v u Q I rx ry h hs
 obtain ⟨p,xs,i,z,rfl,rfl,hq,he,q⟩:=h
 cases rx
 obtain ⟨t,rfl⟩:=ry
 obtain ⟨its,r,pl,hz⟩:=I.tuple hq
 obtain ⟨j,h1,h2,h3,h4,h5⟩:=q599 he
 obtain ⟨w,ew,rw'⟩:=r.get h2
 have hl:=r.length
 have hn:=q475
 have fin:EP X pins σ Q w s:=⟨z,H,I,rw',q⟩
 exact subscriptTail_builtinR (x:=w) pl.typeIs slot_tuple_getitem.lookup
  (getItem_tuple (j:=j) (Q:=fun r s'=>r=w/\EP X pins σ Q r s') pl (by omega) (by omega) (by rw [List.size_toArray,<- hl];exact h1) (by simpa using ew) ⟨rfl,fin⟩) hs
theorem q529 (its:List Value) (n j:Nat) (u:Value):Obj.mapSeq (·.setIfInBounds j u) { cls:=.type "list", data:=.seq its.toArray n } = { cls:=.type "list", data:=.seq (its.set j u).toArray n }:=by
 simp [Obj.mapSeq]
theorem Inv.lst {s:Shared} (I:Inv X pins σ H s) (h:H p=some (.lst xs)) :
  ∃ (its:List Value) (n:Nat),Vals xs its/\s.heap.get? p=some { cls:=.type "list", data:=.seq its.toArray n }/\xs.length<=sizeLine:=by
 obtain ⟨z,its,n,r,e⟩:=I.hok p _ h
 exact ⟨its,n,r,e,z⟩
theorem Inv.lstUpd {s:Shared} {ys:List V} {its its':List Value} {n n':Nat} {f:Obj->Obj} (I:Inv X pins σ H s) (h:H p=some (.lst xs))
  (ho:s.heap.get? p=some { cls:=.type "list", data:=.seq its.toArray n }) (hf:f { cls:=.type "list", data:=.seq its.toArray n } = { cls:=.type "list", data:=.seq its'.toArray n' }) (r:Vals ys its') (hz:ys.length<=sizeLine) (t:Nat) :
  Inv X pins σ (upd H p (.lst ys)) { s with heap:=s.heap.update p f,toks:=t }:=by
 have e:(s.heap.update p f).get? p=some { cls:=.type "list", data:=.seq its'.toArray n' }:=by
  rw [Heap.get?_update_self f ho (by rw [hf] <;> rfl),hf]
 refine I.write (x:=p) (e:=p) (by rw [h];trivial) (.inl rfl) (fun b u hb q=>(Heap.get?_update_other _ _ (Ne.symm hb)).trans q) ⟨_,e⟩ ?_
 exact ⟨hz,its',n',r,e⟩
def rSetL:V->V->V->Hp->(Hp->Prop)->Prop:=fun o i v H Q=>∃ p xs k j,o = .ref p/\i = .int k/\H p=some (.lst xs)/\ixN xs.length k=some j/\Q (upd H p (.lst (xs.set j v)))
theorem set_list:PSet X rSetL:=by
 intro pins s σ H o i v ov iv u Q I ro ri rv h
 obtain ⟨p,xs,k,j,rfl,rfl,hp,hj,q⟩:=h
 cases ro
 obtain ⟨t,rfl⟩:=ri
 obtain ⟨its,n,r,ho,hz⟩:=I.lst hp
 obtain ⟨h1,h2,h3,h4⟩:=q598 hj
 have hl:=r.length
 have hn:=q475
 have I':Inv X pins σ (upd H p (.lst (xs.set j v))) { s with heap:=s.heap.update p (Obj.mapSeq (·.setIfInBounds j u)) }:=
  I.lstUpd hp ho (q529 its n j u) (r.set rv j) (by rw [List.length_set];exact hz) s.toks
 by_cases h0:0<=k
 ·have hk:k.toNat=j:=by
   rw [seqIndex_of h0 h4] at h1
   exact Option.some.inj h1
  exact PySem.W.ki_setAt ho h0 (by omega) (by rw [List.size_toArray,<- hl];exact h4) (by rw [hk];exact ⟨_,I',q⟩)
 ·have hk:(k+(its.toArray.size:Int)).toNat=j:=by
   rw [seqIndex_neg (by omega) h3] at h1
   rw [List.size_toArray,<- hl]
   exact Option.some.inj h1
  exact PySem.W.ki_setBack ho (by omega) (by rw [List.size_toArray,<- hl];exact h3) (by omega) (by rw [hk];exact ⟨_,I',q⟩)
theorem q360 (lo hi:Option Int) (n:Nat):(sliceBounds lo hi none n).1=((HT.sIx n 0 lo:Nat):Int)/\(sliceBounds lo hi none n).2.1=((HT.sIx n n hi:Nat):Int)/\(sliceBounds lo hi none n).2.2=1:=by
 refine ⟨?_,?_,rfl⟩
 ·cases lo with
  | none=>simp [sliceBounds,HT.sIx]
  | some i=>
   simp only [sliceBounds,HT.sIx,Option.getD_none,show (1:Int) > 0 by decide,if_true]
   by_cases h:i < 0
   ·simp only [h,if_true] <;> omega
   ·simp only [h,if_false] <;> omega
 ·cases hi with
  | none=>simp [sliceBounds,HT.sIx]
  | some i=>
   simp only [sliceBounds,HT.sIx,Option.getD_none,show (1:Int) > 0 by decide,if_true]
   by_cases h:i < 0
   ·simp only [h,if_true] <;> omega
   ·simp only [h,if_false] <;> omega
theorem q313 (its:List Value) (lo hi:Option Int):slicePick its.toArray lo hi none=((its.drop (HT.sIx its.length 0 lo)).take (HT.sIx its.length its.length hi - HT.sIx its.length 0 lo)).toArray:=by
 obtain ⟨h1,h2,h3⟩:=q360 lo hi its.toArray.size
 unfold slicePick
 rw [h1,h2,h3]
 simp only [sliceRange_one,pick_run,List.size_toArray] <;> rfl
def rSlL (K:Fg):V->Option Int->Option Int->Hp->VK->Prop:=fun x lo hi H Q=>∃ a xs,x = .ref a/\SqL K H a xs /\ ∀ p,H p=none->Q (.ref p) (upd H p (.lst (cutV xs lo hi)))
theorem q124:SlR X (rSlL X.K):=by
 intro pins s σ H x v vl vu lo hi sl Q I rx hs pl pu h
 obtain ⟨a,xs,rfl,hx,q⟩:=h
 cases rx
 obtain ⟨its,r,ht,hz⟩:=I.list hx
 have hlen:=r.length
 refine ⟨"list", _,slot_list_getitem.lookup,ht.isList.typeIs,?_⟩
 refine wpAny_getItem_list_slice ht.isList hs pl pu .none (by simp) ?_ (by rw [List.size_toArray] <;> omega)
 rw [q313,<- hlen]
 refine ⟨.ref s.heap.objs.size,_,I.laid (t':=s.toks) (o:=.lst (cutV xs lo hi)) (fun b ob q=>Heap.get?_push_of_some _ q) (Nat.le_refl _) ?_,rfl,q _ (I.hok.fresh (Nat.le_refl _))⟩
 exact ⟨Nat.le_trans (q232 xs lo hi) hz,_,0,(r.drop (HT.sIx xs.length 0 lo)).take (HT.sIx xs.length xs.length hi - HT.sIx xs.length 0 lo),Heap.get?_push_size _ rfl⟩
noncomputable def flatV:V->Bool
 | .non=>true
 | .bl _=>true
 | .int _=>true
 | .str _=>true
 | _=>false
noncomputable def eqV:V->V->Bool
 | .non,.non=>true
 | .bl a,.bl b=>a == b
 | .bl a,.int b=>(if a then 1 else 0) == b
 | .int a,.bl b=>a == (if b then 1 else 0)
 | .int a,.int b=>a == b
 | .str a,.str b=>a == b
 | _,_=>false
theorem q477 (ry:RelV y u) (rx:RelV x v) (fy:flatV y=true) (fx:flatV x=true):SeqAt.EqAt A s u v (eqV y x):=by
 cases y with
 | non=>
  cases ry
  cases x with
  | non=>cases rx;exact SeqAt.EqAt.same _
  | bl b=>cases rx;exact SeqAt.EqAt.none_bool b
  | int b=>obtain ⟨t,rfl⟩:=rx;exact SeqAt.EqAt.none_int b t
  | str b=>obtain ⟨t,rfl⟩:=rx;exact SeqAt.EqAt.none_str b t
  | _=>exact absurd (show false=true from fx) fnt
 | bl a=>
  cases ry
  cases x with
  | non=>cases rx;exact SeqAt.EqAt.bool_none a
  | bl b=>cases rx;exact SeqAt.EqAt.bool_bool a b
  | int b=>obtain ⟨t,rfl⟩:=rx;exact SeqAt.EqAt.bool_int a b t
  | str b=>obtain ⟨t,rfl⟩:=rx;exact SeqAt.EqAt.bool_str a b t
  | _=>exact absurd (show false=true from fx) fnt
 | int a=>
  obtain ⟨t',rfl⟩:=ry
  cases x with
  | non=>cases rx;exact SeqAt.EqAt.int_none a t'
  | bl b=>cases rx;exact SeqAt.EqAt.int_bool a t' b
  | int b=>obtain ⟨t,rfl⟩:=rx;exact SeqAt.EqAt.int_int a t' b t
  | str b=>obtain ⟨t,rfl⟩:=rx;exact SeqAt.EqAt.int_str a t' b t
  | _=>exact absurd (show false=true from fx) fnt
 | str a=>
  obtain ⟨t',rfl⟩:=ry
  cases x with
  | non=>cases rx;exact SeqAt.EqAt.str_none a t'
  | bl b=>cases rx;exact SeqAt.EqAt.str_bool a t' b
  | int b=>obtain ⟨t,rfl⟩:=rx;exact SeqAt.EqAt.str_int a t' b t
  | str b=>obtain ⟨t,rfl⟩:=rx;exact SeqAt.EqAt.str_str a t' b t
  | _=>exact absurd (show false=true from fx) fnt
 | _=>exact absurd (show false=true from fy) fnt
noncomputable def eqU (x:V) (u:Value):Bool:=match u with
 | .none=>eqV .non x
 | .bool b=>eqV (.bl b) x
 | .int i _=>eqV (.int i) x
 | .str z _=>eqV (.str z) x
 | _=>false
theorem eqU_of (r:RelV y u) (f:flatV y=true):eqU x u=eqV y x:=by
 cases y with
 | non=>cases r;rfl
 | bl b=>cases r;rfl
 | int i=>obtain ⟨t,rfl⟩:=r;rfl
 | str z=>obtain ⟨t,rfl⟩:=r;rfl
 | _=>exact absurd (show false=true from f) fnt
theorem q478 {A:Around} {s:Shared} {x:V} {v:Value} (rx:RelV x v) (fx:flatV x=true):∀ {xs:List V} {us:List Value},Vals xs us->xs.all flatV=true -> ∀ u ∈ us,SeqAt.EqAt A s u v (eqU x u)
 | _,_,.nil,_=>fun u hu=>by cases hu
 | y::xs,u::us,.cons r t,f=>fun u' hu=>by
  rw [List.all_cons,Bool.and_eq_true] at f
  rcases List.mem_cons.mp hu with rfl | hu
  ·rw [eqU_of r f.1];exact q477 r rx f.1 fx
  ·exact q478 rx fx t f.2 u' hu
theorem q201:CallR X (.builtin "len") (fun xs H Q=>∃ p ys,xs=[.ref p]/\(SqL X.K H p ys\/SqT X.K H p ys)/\Q (.int ys.length) H):=by
 intro pins s σ H xs us Q I r h
 obtain ⟨p,ys,rfl,hq,q⟩:=h
 obtain ⟨u,rfl,rx⟩:=vals1 r
 cases rx
 have hn:=q475
 rcases hq with hq | hq
 ·obtain ⟨its,r',pl,hz⟩:=I.list hq
  have hlen:=r'.length
  exact Calls.call_len_list pl.isList (by simp only [List.size_toArray] <;> omega) ⟨.int ys.length,H,I.tok _,⟨s.toks+1,by rw [List.size_toArray,hlen]⟩,q⟩
 ·obtain ⟨its,r',pl,hz⟩:=I.tuple hq
  have hlen:=r'.length
  exact len_tuple pl (by simp only [List.size_toArray] <;> omega) ⟨.int ys.length,H,I.tok _,⟨s.toks+1,by rw [List.size_toArray,hlen]⟩,q⟩
theorem q125:CallR X (.type "list") (fun xs H Q=>∃ p ys,xs=[.ref p]/\(SqL X.K H p ys\/SqT X.K H p ys) /\ ∀ l,H l=none->Q (.ref l) (upd H l (.lst ys))):=by
 intro pins s σ H xs us Q I r h
 obtain ⟨p,ys,rfl,hq,q⟩:=h
 obtain ⟨u,rfl,rx⟩:=vals1 r
 cases rx
 have fin:∀ (its:List Value),Vals ys its->ys.length<=sizeLine -> ∀ (h':Heap) (c':Nat),(∀ b o',s.heap.get? b=some o'->h'.get? b=some o') ->
   h'.get? s.heap.objs.size=some { cls:=.type "list", dict:=none,data:=.seq its.toArray c',slots:=#[] }->EP X pins σ Q (.ref s.heap.objs.size) { s with heap:=h' }:=fun its r' hz h' c' kp e=>
  ⟨.ref s.heap.objs.size,_,I.laid (t':=s.toks) kp (Nat.le_refl _) (show ObjOk X.prog X.w _ h' _ (.lst ys) from ⟨hz,its,c',r',e⟩),rfl,q _ (I.hok.fresh (Nat.le_refl _))⟩
 rcases hq with hq | hq
 ·obtain ⟨its,r',pl,hz⟩:=I.list hq
  have hlen:=r'.length
  obtain ⟨o,ho,hc,n,hd⟩:=pl.isList
  exact call_list_seq p (.inl rfl) ho hc hd (fun h' c' kp e=>fin its r' hz h' c' kp e) (by simp only [List.size_toArray] <;> omega)
 ·obtain ⟨its,r',pl,hz⟩:=I.tuple hq
  have hlen:=r'.length
  obtain ⟨o,ho,hc,n,hd⟩:=pl
  exact call_list_seq p (.inr rfl) ho hc hd (fun h' c' kp e=>fin its r' hz h' c' kp e) (by simp only [List.size_toArray] <;> omega)
def tyV (K:Fg) (T:String) (x:V) (H:Hp):Prop:=match x with
 | .str _=>T = "str"
 | .int _=>T = "int"
 | .ref p=>(T = "list" /\ ∃ xs,SqL K H p xs)\/(T = "tuple" /\ ∃ o,K.lookup p=some o/\o.cls = .type "tuple" /\ o.dict=none) \/
   (T = "dict" /\ ((∃ kvs,H p=some (.dK kvs)) \/ ∃ kvs,H p=some (.dT kvs)))\/(T = "set" /\ ∃ S n,H p=some (.set S n))
 | _=>False
theorem tyV_is {s:Shared} (I:Inv X pins σ H s) (r:RelV x v) (ty:tyV X.K T x H) :
  s.TypeIs v T /\ ∀ a,v = .ref a -> ∃ ob,s.heap.get? a=some ob/\ob.dict=none:=by
 cases x with
 | str z=>
  obtain ⟨t,rfl⟩:=r
  cases (show T = "str" from ty)
  exact ⟨typeIs_str s z t,fun _ e=>nomatch e⟩
 | int i=>
  obtain ⟨t,rfl⟩:=r
  cases (show T = "int" from ty)
  exact ⟨typeIs_int s i t,fun _ e=>nomatch e⟩
 | ref p=>
  cases r
  rcases ty with ⟨rfl,xs,hq⟩ | ⟨rfl,o,hk,hc,hd⟩ | ⟨rfl,hk⟩ | ⟨rfl,S,n,hk⟩
  ·obtain ⟨its,_,pl,_⟩:=I.list hq
   refine ⟨pl.isList.typeIs,fun a e=>?_⟩
   cases e
   obtain ⟨o,n,e,c,hd,_⟩:=pl
   exact ⟨o,e,hd⟩
  ·refine ⟨⟨o,I.kIn p o hk,hc⟩,fun a e=>?_⟩
   cases e
   exact ⟨o,I.kIn _ o hk,hd⟩
  ·have z:∃ o,s.heap.get? p=some o/\o.ExactDict:=by
    rcases hk with ⟨kvs,hk⟩ | ⟨kvs,hk⟩
    ·obtain ⟨_,_,_,_,o,_,_,e,ex,_⟩:=I.hok p _ hk
     exact ⟨o,e,ex⟩
    ·obtain ⟨_,_,_,_,o,_,_,e,ex,_⟩:=I.hok p _ hk
     exact ⟨o,e,ex⟩
   obtain ⟨o,e,ex⟩:=z
   refine ⟨⟨o,e,ex.1⟩,fun a e2=>?_⟩
   cases e2
   exact ⟨o,e,ex.2.1⟩
  ·obtain ⟨o,_,_,_,e,ex,_⟩:=I.hok p _ hk
   refine ⟨⟨o,e,ex.1⟩,fun a e2=>?_⟩
   cases e2
   exact ⟨o,e,ex.2.1⟩
 | _=>exact False.elim ty
def tBM (K:Fg) (T:String) (r:V->List V->Hp->VK->Prop) (to:TE) (t:TA):TE:=fun σ H Q=>to σ H fun x H1=>tyV K T x H1/\t σ H1 fun xs H2=>r x xs H2 Q
variable {o e:Expr} {es:List Expr} {to:TE} {t:TA} {name:Str} {apos cpos:Pos} {T id:String} {r:V->List V->Hp->VK->Prop}
theorem pe_bm (pa:PlainAttrs T) (slot:Slot T name id) (hty:typeOf (.builtin id)=pure (.type "method_descriptor")) (hm:MtR X id r) (ho:PE X o to) (ha:PA X (e::es) t)
  (hbase:attributeBase o name X.env (eval o X.env)=eval o X.env:=by rfl)
  (hfew:((backTo cpos (starEach (e::es) X.env)).all (fun x=>!x.1) && (backToKw cpos (keywordEach [] X.env)).all (fun x=>x.1.isSome)
   && decide ((e::es).length+([]:List Keyword).length+(if ([]:List Keyword).isEmpty then 0 else 1) < 30))=true:=by rfl)
  (hline:(apos.endLine == cpos.line)=true:=by rfl) (hs:starEach (e::es) X.env=(false,eval e X.env)::starEach es X.env:=by rfl) (hplain:(backTo cpos (starEach es X.env)).any (·.1)=false:=by rfl) :
  PE X (.Call (.Attribute o name apos) (e::es) [] cpos) (tBM X.K T r to t):=by
 intro pins s σ H Q I h
 refine wpAny_Call_method_late hbase hfew hline rfl (thn (ho pins s σ H _ I h) fun v s1 ⟨x,H1,I1,r1,ty,q1⟩=>?_)
 obtain ⟨h1,h2⟩:=tyV_is I1 r1 ty
 refine ⟨T,id,pa,slot,hty,h1,h2,?_⟩
 have hA:=ha cpos pins s1 σ H1 _ I1 q1
 rw [hs] at hA ⊢
 refine Calls.callWith_builtin (by show (false || (backTo cpos (starEach es X.env)).any (·.1))=false;rw [hplain] <;> rfl) (Calls.evalArgs_plain ?_)
 exact thn hA fun us s2 ⟨vs,H2,I2,r2,q2⟩=>hm pins s2 σ H2 x vs v us Q I2 r1 r2 q2
/- xs.append(e),list.index on a module's tuple .. are MtR facts of 06m -/
end
def MtM (X:Cx) (id:String) (r:V->List V->Hp->VK->Prop):Prop:=
 ∀ (pins:List (Addr × Obj)) (s:Shared) (σ:St) (H:Hp) (x:V) (xs:List V) (v:Value) (us:List Value) (Q:VK),Inv X pins σ H s->RelV x v->Vals xs us->r x xs H Q ->
  wpAny (model X.prog X.w) X.A (call (.builtin id) (v::us)) (EP X pins σ Q) X.xe s
theorem Vals.one:∀ {x:V} {us:List Value},Vals [x] us -> ∃ u,us=[u]/\RelV x u
 | _,_,.cons r .nil=>⟨_,rfl,r⟩
theorem Vals.reverse {xs:List V} {us:List Value} (h:Vals xs us):Vals xs.reverse us.reverse:=by
 induction h with
 | nil=>exact .nil
 | cons r t ih=>rw [List.reverse_cons,List.reverse_cons];exact Vals.append ih (.cons r .nil)
section
variable {pins:List (Addr × Obj)} {σ:St} {H:Hp} {s:Shared} {l b:Addr} {xs ys zs:List V}
theorem Inv.lset {its its':List Value} {n:Nat} {f:Array Value->Array Value} {t':Nat} (I:Inv X pins σ H s) (hH:H l=some (.lst xs))
  (e:s.heap.get? l=some { cls:=.type "list", data:=.seq its.toArray n }) (hf:f its.toArray=its'.toArray) (hv:Vals ys its') (hz:ys.length<=sizeLine) :
  Inv X pins σ (upd H l (.lst ys)) { s with heap:=s.heap.update l (Obj.mapSeq f),toks:=t' }:=by
 have q:=PySem.IsL.update e f
 rw [hf] at q
 refine I.write (x:=l) (e:=l) (by rw [hH];exact trivial) (.inl rfl) (fun b' u hb hu=>(Heap.get?_update_other s.heap (Obj.mapSeq f) (Ne.symm hb)).trans hu) ⟨_,q⟩ ?_
 exact ⟨hz,its',_,hv,q⟩
theorem Inv.lnew {t':Nat} (I:Inv X pins σ H s) (hv:Vals ys its) (hz:ys.length<=sizeLine) :
  Inv X pins σ (upd H s.heap.objs.size (.lst ys)) { s with heap:=s.heap.push { cls:=.type "list", data:=.seq its.toArray },toks:=t' }:=
 I.laid (fun _ _ q=>Heap.get?_push_of_some _ q) (Nat.le_refl _) ⟨hz,its,0,hv,Heap.get?_push_size _ rfl⟩
theorem Inv.fresh (I:Inv X pins σ H s):H s.heap.objs.size=none:=I.hok.fresh (Nat.le_refl _)
theorem Inv.lstM (I:Inv X pins σ H s) (hH:H l=some (.lst xs)):xs.length<=sizeLine /\ ∃ (its:List Value) (n:Nat),Vals xs its/\xs.length=its.length/\s.heap.get? l=some { cls:=.type "list", data:=.seq its.toArray n }:=by
 obtain ⟨z,its,n,r,e⟩:=I.hok l _ hH
 exact ⟨z,its,n,r,r.length,e⟩
theorem notLongL {n:Nat} (h:n<=sizeLine):Builtin.List.listTooLong n=false:=by
 unfold Builtin.List.listTooLong
 exact decide_eq_false (by omega)
end
def rAppend:V->List V->Hp->VK->Prop:=fun x vs H Q=>∃ l xs y,x = .ref l/\vs=[y]/\H l=some (.lst xs)/\xs.length < sizeLine/\Q .non (upd H l (.lst (xs++[y])))
theorem q69:MtM X "list.append" rAppend:=by
 intro pins s σ H x vs v us Q I rx rv h
 obtain ⟨l,xs,y,rfl,rfl,hH,hz,q⟩:=h
 cases rx
 obtain ⟨u,rfl,ru⟩:=rv.one
 obtain ⟨z,its,n,r,hl,e⟩:=I.lstM hH
 refine call_meets F.slot_list_append ⟨_,e,rfl⟩ F.entry_list_append (F.args_list_append_2 _ _) (PySem.list_append l its.toArray n u (by rw [List.size_toArray];omega)) ⟨e,?_⟩
 refine ⟨.non,_,I.lset (its':=its++[u]) hH e (by simp) (r.append (.cons ru .nil)) ?_,rfl,q⟩
 rw [List.length_append,List.length_singleton]
 omega
def rExtend:V->List V->Hp->VK->Prop:=fun x vs H Q=>∃ l b xs zs,x = .ref l/\vs=[.ref b]/\H l=some (.lst xs)/\H b=some (.lst zs)/\xs.length+zs.length<=sizeLine/\Q .non (upd H l (.lst (xs++zs)))
theorem q601:MtM X "list.extend" rExtend:=by
 intro pins s σ H x vs v us Q I rx rv h
 obtain ⟨l,b,xs,zs,rfl,rfl,hH,hB,hz,q⟩:=h
 cases rx
 obtain ⟨u,rfl,ru⟩:=rv.one
 cases ru
 obtain ⟨z,its,n,r,hl,e⟩:=I.lstM hH
 obtain ⟨z2,its2,n2,r2,hl2,e2⟩:=I.lstM hB
 have hsz:its.toArray.size+its2.toArray.size<=sizeLine:=by rw [List.size_toArray,List.size_toArray];omega
 have hlong:¬ (!its.toArray.isEmpty && Builtin.List.listTooLong (its.toArray.size+its2.toArray.size))=true:=by
  rw [notLongL hsz,Bool.and_false]
  exact fnt
 refine call_meets F.slot_list_extend ⟨_,e,rfl⟩ F.entry_list_extend (F.args_list_extend_2 _ _)
  (AutoSeq1.list_extend_list_list_0 l its.toArray n b its2.toArray n2 hlong (by rw [List.size_toArray];omega) (by omega)) ⟨e,e2,?_⟩
 refine ⟨.non,_,I.lset (its':=its++its2) hH e (by simp) (r.append r2) ?_,rfl,q⟩
 rw [List.length_append]
 omega
def rCat:R2:=fun x y H Q=>∃ l b xs zs,x = .ref l/\y = .ref b/\H l=some (.lst xs)/\H b=some (.lst zs)/\xs.length+zs.length<=sizeLine /\ ∀ p,H p=none->Q (.ref p) (upd H p (.lst (xs++zs)))
theorem q158:OpR X (binaryOp .Add) rCat:=by
 intro pins s σ H x y v u Q I rx ry h
 obtain ⟨l,b,xs,zs,rfl,rfl,hH,hB,hz,q⟩:=h
 cases rx
 cases ry
 obtain ⟨z,its,n,r,hl,e⟩:=I.lstM hH
 obtain ⟨z2,its2,n2,r2,hl2,e2⟩:=I.lstM hB
 refine PySem.P.add_list e e2 ?_ (by rw [List.size_toArray,List.size_toArray];omega)
 have ea:its.toArray++its2.toArray=(its++its2).toArray:=by simp
 rw [ea]
 exact ⟨.ref _,_,I.lnew (t':=s.toks) (r.append r2) (by rw [List.length_append];omega),rfl,q _ I.fresh⟩
section
variable {prog:Program} {w:World} {A:Around} {E:VS} {s:Shared}
set_option maxRecDepth 100000 in
end
end L2
namespace Att
set_option autoImplicit false
open PySem PySem.W PySem.Calls PyProof.Rows
theorem q233 {P:Params} {h:Heap}:∀ (ns:List Int) (vs:List Value),WellAll P h vs (ns.map WData.int)->IntsAre vs ns:=by
 intro ns
 induction ns with
 | nil=>
  intro vs w
  rw [List.map_nil] at w
  cases w
  exact .nil
 | cons n ns ih=>
  intro vs w
  rw [List.map_cons] at w
  cases w with
  | cons a b=>
   cases a
   exact .cons _ _ (ih _ b)
theorem q602 {l:OpenLaw} {n:Nat} (hn:l.most=some n) {P:Params} {h:Heap} {args:List WData} {vals:List Value}
  (hpre:l.row.toRowW.claim.pre args=true) (hwl:WellAll P h vals args) :
  ∃ a vs ns,vals=[Value.ref a]/\args=[WData.list (ns.map WData.int)]/\h.get? a=some { cls:=.type "list", data:=.seq vs.toArray }/\IntsAre vs ns/\ns.length<=n:=by
 have hsh:WShape.hasAll [] args [.list .int]=true:=(pre_splitW hpre).1
 have hc:l.pre.holds [] { args:=args }=true:=(pre_splitW hpre).2
 obtain ⟨d,r,rfl,h1,h2⟩:=hasAllW_cons hsh
 obtain rfl:=hasAllW_nil h2
 obtain ⟨xs,rfl,h3⟩:=hasW_list h1
 obtain ⟨ns,rfl⟩:=items_int h3
 have hlen:ns.length<=n:=by
  unfold OpenLaw.pre at hc
  have h4:(WTm.not (.lt (.lit (.int (n:Int))) (.len (.arg 0)))).holds [] { args:=[.list (ns.map .int)] }=true:=by
   have h4:=(holds_andW hc).1
   rw [hn] at h4
   exact h4
  have h5:=condW_of h4 (w_not (w_lt w_lit (w_len_list (w_arg rfl))))
  rw [List.length_map] at h5
  refine Nat.le_of_not_lt fun q=>?_
  have q':(n:Int) < ((ns.length:Nat):Int):=by omega
  first
   | (rw [decide_eq_true q'] at h5;exact absurd h5 (by decide))
   | (simp at h5;omega)
 cases hwl with
 | cons w1 w2=>
  cases w2
  cases w1 with
  | list ho hall=>exact ⟨_,_,ns,rfl,rfl,ho,q233 ns _ hall,hlen⟩
theorem q603 (l:OpenLaw) (args:List WData):l.row.toRowW.claim.post args (.bool true) args=true:=
 postW_of (r:=l.row.toRowW) (X:=(true == true))
  (show WShape.has [] (.bool true) .bool=true by first | rfl | decide | simp [WShape.has,WShape.arms,WShape.armsAll])
  (show (WTm.eq .res (.lit (.bool true))).value [] { args:=args,res:=some (.bool true),after:=args }=some (.bool (true == true)) from w_eq_bool (w_res rfl) w_lit) rfl
theorem q688 {l:OpenLaw} {n:Nat} {q:Program} {loose:List Str} {XP:(Mg)->Heap->Prop} {YP:World->Heap->Prop} {d:DefRec}
  (hn:l.most=some n) (hdf:d.params.defaults=[])
  (call:∀ (w:World) (s₀ s₁:Shared) (mg mb:Mg) (fa:Addr) (o:Obj) (pm cd doc:Value) (a:Addr) (vs:List Value) (ns:List Int),
   Ground q loose [] XP w s₀ mg mb s₁.heap->YP w s₁.heap ->
   s₁.heap.get? fa=some o->o.data = .func (docDef d.name d.params d.body d.scope pm cd doc)->s₁.heap.CodeRec cd d.name->mg d.name=some (.ref fa) ->
   s₁.heap.get? a=some { cls:=.type "list", data:=.seq vs.toArray }->IntsAre vs ns->ns.length<=n->s₁.gens = #[] ->
   codeAny (model l.prog w) callerA (.call (.ref fa) ⟨[.ref a],[]⟩) (fun r s'=>r = .ok (.ret (.bool true))/\OldK s₁.heap s'.heap/\s'.os=s₁.os/\AllBare s'.gens) s₁) :
  WalkO q loose XP YP l.row.toRowW d [] (fun f vs=>PySem.call f vs):=by
 intro w s₀ s₁ mg mb G Y fa o pm cd doc dV kV ho hd hcd hD hmg hg args vals as hpre hlay hrd hwl hlo
 obtain rfl:dV = .none:=Dflts.none hD hdf
 obtain rfl:kV = .none:=Dflts.noKw hD
 obtain ⟨a,vs,ns,rfl,rfl,hobj,hints,hlen⟩:=q602 hn hpre hwl
 refine enter_call (codeAny_mono (call w s₀ s₁ mg mb fa o pm cd doc a vs ns G Y ho (fd_plain hd) hcd hmg hobj hints hlen hg) fun r s' hq=>?_)
 obtain ⟨rfl,h2,h3,h4⟩:=hq
 exact ⟨.inl ⟨.bool true,.bool true,[],rfl,fun _=>rfl,.bool true,q603 l _,fun _=>⟨List.Pairwise.nil,fun _ hm=>(nomatch hm)⟩⟩,h2,h3,h4⟩
end Att
namespace L2
open PySem PySem.Spec PyProof.Rows
variable {X:Cx}
theorem q234:∀ {vs:List Value} {ns:List Int},IntsAre vs ns->Vals (ns.map V.int) vs
 | _,_,.nil=>.nil
 | _,_,.cons n t h=>.cons ⟨t,rfl⟩ (q234 h)
def Only (H:Hp):Prop:=∀ b,H b=none \/ ∃ o xs,H b=some (.frz o (.lst xs))
theorem law_call {P:Program} {w:World} {K:Fg} {CX:CXT} {k:Nat} {fa:Addr} {fd:FuncData} {sp:Sp} {s₁:Shared} {vs:List Value} {ns:List Int}
  (KX:K.In s₁.heap) (hns:s₁.heap.Ns mainGlobals mg) (hb:s₁.heap.Ns builtinsNs mb) (hbb:∀ x:Str,x ≠ "__name__" -> mb x=bootBuiltins x) (hlim:s₁.heap.NoLimit) (hg:s₁.gens = #[])
  (ha:s₁.heap.get? a=some { cls:=.type "list", data:=.seq vs.toArray }) (hi:IntsAre vs ns) (hl:ns.length<=sizeLine) (hr:Room k callerA)
  (F:∀ base:Heap,K.In base->base.Ns mainGlobals mg->FnOk P w K mg base CX k fa fd [x] sp) (hbind:∀ (s:Shared) (u:Value),BindsTo s fd ⟨[u],[]⟩ [(x,u)])
  (hsp:∀ H:Hp,Only H->SqL K H a (ns.map V.int)->sp [.ref a] H (fun v _=>v = .bl true) fun _ _ _=>False)
  (hCX:∀ H e s',CX [] H s₁ (fun _ _ _=>False) e s'->False) :
  codeAny (model P w) callerA (.call (.ref fa) ⟨[.ref a],[]⟩) (fun r s'=>r = .ok (.ret (.bool true))/\OldK s₁.heap s'.heap/\s'.os=s₁.os/\AllBare s'.gens) s₁:=by
 have rv:=q234 hi
 have lenV:=hi.length
 have core:∀ H:Hp,Only H->SqL K H a (ns.map V.int)->HOk P w H s₁.heap->(∀ b,H b ≠ none->b=a)->(H a ≠ none->K.lookup a=none) ->
   codeAny (model P w) callerA (.call (.ref fa) ⟨[.ref a],[]⟩) (fun r s'=>r = .ok (.ret (.bool true))/\OldK s₁.heap s'.heap/\s'.os=s₁.os/\AllBare s'.gens) s₁:=by
  intro H hO hS hok hA hK
  have base_of:∀ {b:Addr} {o:Obj},s₁.heap.get? b=some o->H b=none->(hidT s₁.heap H).get? b=some o:=fun e n=>hidT_get e n
  have noA:∀ {b:Addr} {o:Obj} {es:Array DictEntry} {ep:Nat},s₁.heap.get? b=some o->o.data = .dict es ep->H b=none:=fun {b o es ep} e d=>by
   cases q:H b with
   | none=>rfl
   | some u=>
    have e':b=a:=hA b (by rw [q];simp)
    subst e'
    rw [ha] at e;cases e
    have d':Data.seq vs.toArray _=Data.dict es ep:=d
    cases d'
  have nsK:∀ {b:Addr} {m:Mg},s₁.heap.Ns b m->(hidT s₁.heap H).Ns b m:=fun {b m} ⟨o,es,ep,e,d,r⟩=>⟨o,es,ep,base_of e (noA e d),d,r⟩
  have hKb:K.In (hidT s₁.heap H):=fun b o e=>base_of (KX b o e) (by
   cases q:H b with
   | none=>rfl
   | some u=>
    have e':b=a:=hA b (by rw [q];simp)
    subst e'
    rw [hK (by rw [q];simp)] at e;cases e)
  have hM:Mod K mg (hidT s₁.heap H):=⟨hKb,nsK hns,⟨mb,nsK hb,hbb⟩,let ⟨mc,h1,h2⟩:=hlim;⟨mc,nsK h1,h2⟩⟩
  have e0:Env0 P w K mg (hidT s₁.heap H) callerA [] s₁ H:=⟨rfl,hM,fun b o e=>of_hidT e,Nat.le_of_eq (q579 _ _),trivial,fun b hb=>absurd (show b ∈ ([]:List Addr) from hb) (by simp),hok,.of_eq hg⟩
  refine codeAny_mono ((F _ hKb (nsK hns)).run callerA [] s₁ H ⟨[.ref a],[]⟩ [.ref a] [.ref a] _ _ hr e0 (hbind s₁ (.ref a)) (.cons rfl .nil) (hsp H hO hS)) fun r s' h=>?_
  cases r with
  | error e=>exact (hCX H e s' h).elim
  | ok fl=>
   cases fl with
   | next=>exact False.elim h
   | brk=>exact False.elim h
   | cont=>exact False.elim h
   | ret u=>
    obtain ⟨v,H',os,bare,un,hok',r',q⟩:=h
    have q':v = .bl true:=q
    subst q'
    obtain rfl:u=Value.bool true:=r'
    refine ⟨rfl,OldK.of_keep fun b o e=>?_,os,bare⟩
    cases q:H b with
    | none=>exact un.keep b o e q (by intro z;exact absurd (show b ∈ ([]:List Addr) from z) (by simp)) (by simp)
    | some u=>
     rcases hO b with z | ⟨ob,xs,z⟩
     ·rw [q] at z;cases z
     ·have z2:=un.frzs b ob _ z
      obtain ⟨e1,_⟩:=hok b _ z
      obtain ⟨e2,_⟩:=hok' b _ z2
      rw [e] at e1;cases e1
      exact e2
 cases hk:K.lookup a with
 | some o=>
  have e:=KX a o hk
  rw [ha] at e
  cases e
  refine core (fun _=>none) (fun _=>.inl rfl) (.inr ⟨_,vs.toArray,_,hk,rfl,rfl,rfl,by rw [List.size_toArray,lenV];exact hl,by simpa using rv⟩) (fun b u z=>by have z':(none:Option HO)=some u:=z;cases z') (fun b z=>absurd rfl z) fun z=>absurd rfl z
 | none=>
  refine core (fun b=>if b=a then some (.frz { cls:=.type "list", data:=.seq vs.toArray } (.lst (ns.map V.int))) else none) (fun b=>?_) (.inl (.inr ⟨{ cls:=.type "list", data:=.seq vs.toArray },if_pos rfl⟩)) (fun b u z=>?_) (fun b z=>?_) fun _=>hk
  ·by_cases hb:b=a
   ·exact .inr ⟨_,_,if_pos hb⟩
   ·exact .inl (if_neg hb)
  ·by_cases hb:b=a
   ·have z':=(if_pos hb).symm.trans z
    cases z'
    subst hb
    exact ⟨ha,by rw [List.length_map];exact hl,vs,_,rv,ha⟩
   ·have z':=(if_neg hb).symm.trans z
    cases z'
  ·by_cases hb:b=a
   ·exact hb
   ·exact absurd (if_neg hb) z
noncomputable abbrev KOf {K:Fg} {h:Heap} (_:K.In h):Fg:=K
theorem q689 {l:PySem.W.OpenLaw} {n k:Nat} {q:Program} {loose:List Str} {XP:(Mg)->Heap->Prop} {YP:World->Heap->Prop} {d:DefRec} {K:Params->Fg} {CX:World->CXT} {sp:World->Sp} {x:Str}
  (hn:l.most=some n) (hn2:n<=sizeLine) (hdf:d.params.defaults=[]) (hr:Room k callerA)
  (hY:∀ (w:World) (h:Heap),YP w h->(K w.params).In h)
  (F:∀ (w:World) (mg:Mg) (fa:Addr) (h:Heap),(K w.params).In h->h.Ns mainGlobals mg->mg d.name=some (.ref fa) ->
   ∃ fd:FuncData,(∀ (s:Shared) (u:Value),BindsTo s fd ⟨[u],[]⟩ [(x,u)]) /\
    ∀ base:Heap,(K w.params).In base->base.Ns mainGlobals mg->FnOk l.prog w (K w.params) mg base (CX w) k fa fd [x] (sp w))
  (hsp:∀ (w:World) (H:Hp) (a:Addr) (ns:List Int),ns.length<=n->Only H->SqL (K w.params) H a (ns.map V.int)->sp w [.ref a] H (fun v _=>v = .bl true) fun _ _ _=>False)
  (hCX:∀ (w:World) (H:Hp) (s:Shared) (e:Value) (s':Shared),CX w [] H s (fun _ _ _=>False) e s'->False) :
  PySem.W.WalkO q loose XP YP l.row.toRowW d [] (fun f vs=>PySem.call f vs):=by
 refine Att.q688 hn hdf fun w s₀ s₁ mg mb fa o pm cd doc a vs ns G Y ho hd hcd hmg hobj hints hlen hg=>?_
 have KX:=hY w _ Y
 obtain ⟨fd,hb,hF⟩:=F w mg fa _ KX G.T.g hmg
 exact law_call KX G.T.g G.T.b G.T.builtins G.T.nolimit hg hobj hints (Nat.le_trans hlen hn2) hr hF hb (fun H hO hS=>hsp w H a ns hlen hO hS) fun H e s'=>hCX w H s₁ e s'
end L2
/- THE LAST THEOREM (shape;LID,My.* are yours):
  My.Adr: a structure of the addresses that your layer names (classes,functions);My.Txt K t: a structure (Prop) of the equations over K;
  My.txt_mk:{K} {implicit addresses ..} (e1:nsIn K mainGlobals "law" = some (some (.ref f))) (e2:K.lookup f=some ⟨oc,od,.func (fnOf "law" "law" params body scope dV kV doc pm an cdv ct),sl⟩) (e3:codeIn K cdv "law" = true) .. : ∃ t,My.Txt K t
set_option maxRecDepth 100000 in
set_option maxHeartbeats 0 in
theorem PySem.Challenge.cw_LID_holds : PySem.Challenge.rw_LID.Holds := by
 w_on;o_law;k_head;(case hw=>w_witness2)
 k_fill
 refine L2.q689 (l:=PySem.Challenge.rw_LID) (n:=63) (k:=40) (x := "script") (CX:=fun w=>..) (sp:=fun _=>My.sp_law) rfl (by decide) rfl ⟨rfl,by decide,by decide⟩ (fun w h Y=>PySem.W.kIn_of Y) ?F ?S ?C
 case F=>
  intro w mg fa h KX G hmg
  have T:∃ t,My.Txt (L2.KOf KX) t:=by
   dsimp only [L2.KOf]                          -- K must stand as «<heap const> w.params» for k_is
   refine' My.txt_mk ?e1 ?e2 ?e3 ..
   (case e1=>PySem.W.k_is)                    -- in the order: a name->its address->its object->its parts
   (case e2=>PySem.W.k_is)
   ..
  obtain ⟨t,T⟩:=T
  have e0:=hmg.symm.trans (PySem.W.mg_of KX G T.law)
  cases e0                                       -- fa is the law's own address
  exact ⟨_,fun s u=>.of_eq rfl,fun base kb nb=>My.law_fn T kb nb⟩     -- if «.of_eq rfl» comes too early: refine' ⟨_,?b,fun base kb nb=>My.law_fn T kb nb⟩;exact fun s u=>.of_eq rfl
 case S=>exact fun w H a ns hl hO hS=>..
 case C=>exact ..
(the tactic k_is has no namespace: write k_is) -/
namespace L2
open PySem PySem.Spec PyProof.Rows
variable {X:Cx}
noncomputable def q149 (s:Stmt):Arguments:=match s with
 | .FunctionDef _ a _ _ _ _ _ _ _ _=>a
 | _=>{ posonlyargs:=[],args:=[],vararg:=none,kwonlyargs:=[],kw_defaults:=[],kwarg:=none,defaults:=[] }
noncomputable def q107 (s:Stmt):List Stmt:=match s with
 | .FunctionDef _ _ b _ _ _ _ _ _ _=>b
 | _=>[]
noncomputable def q17 (s:Stmt):Scope:=match s with
 | .FunctionDef _ _ _ _ _ _ sc _ _ _=>sc
 | _=>{ kind:=.function,names:=[],isGenerator:=false,isCoroutine:=false }
abbrev CX0:CXT:=fun _ _ _ _ _ _=>False
abbrev E0:XK:=fun _ _ _=>False
theorem pass0:q231 CX0 X E0:=fun _ _ _ _ _ _ _ h=>h.elim
structure Fun (K:Fg) (x qual:Str) (st:Stmt) (f:Addr) (fd:FuncData):Prop where
 ex:∃ (oc:Value) (od:Option Addr) (kV doc pm:Value) (an:Option Addr) (cdv ct:Value) (osl:Array (Option Value)),
  fd=PySem.W.fnOf x qual (q149 st) (q107 st) (q17 st) .none kV doc pm an cdv ct/\K.lookup f=some ⟨oc,od,.func fd,osl⟩/\PySem.W.codeIn K cdv qual=true
 kp:PySem.W.keepIn K (.ref f)=true
section
variable {P:Program} {w:World} {K:Fg} {mg:Mg} {base:Heap}
theorem Fun.ok {x qual:Str} {st:Stmt} {f:Addr} {fd:FuncData} {N ps:List Str} {k:Nat} {sp:Sp} (F:Fun K x qual st f fd) (S:FnScope N ps (q17 st)) (len:∀ vs H Q E,sp vs H Q E->vs.length=ps.length)
  (hbody:∀ (cdv:Value) (A:Around) (outer:List Env) (s:Shared) (H:Hp) (vs:List V) (Q:VK) (E:XK),Room k (A.deeper (envOfC qual (q17 st) s.heap.objs.size f cdv))->sp vs H Q E ->
   ∃ t,PSs (cxOf CX0 P w K mg base N qual (q17 st) f cdv A outer s H E).nox (q107 st) t/\t { nx:=fun _ H'=>Q .non H',rt:=Q } (start N vs) H):FnOk P w K mg base CX0 (k+1) f fd ps sp:=by
 obtain ⟨oc,od,kV,doc,pm,an,cdv,ct,osl,rfl,lk,hcd⟩:=F.ex
 refine fn_of lk hcd S len fun A outer s H vs Q E hr hsp=>?_
 obtain ⟨t,h,q⟩:=hbody cdv A outer s H vs Q E hr hsp
 exact ⟨t,h.nox,q⟩
theorem q687 {x qual:Str} {st:Stmt} {f:Addr} {oc:Value} {od an:Option Addr} {osl:Array (Option Value)} {kV doc pm cdv ct:Value} (l:K.lookup f=some ⟨oc,od,.func (PySem.W.fnOf x qual (q149 st) (q107 st) (q17 st) .none kV doc pm an cdv ct),osl⟩)
  (c:PySem.W.codeIn K cdv qual=true) (k:PySem.W.keepIn K (.ref f)=true):Fun K x qual st f (PySem.W.fnOf x qual (q149 st) (q107 st) (q17 st) .none kV doc pm an cdv ct):=⟨⟨oc,od,kV,doc,pm,an,cdv,ct,osl,rfl,l,c⟩,k⟩
end
theorem q54 {n:Nat} (h:n<=1000):n < sizeLine:=Nat.lt_of_le_of_lt h (by decide)
theorem pv (i:Nat) {pos:Pos} (hN:X.N[i]? = some x:=by rfl) (hv:Vis X.env.scope x:=by walk_at "b") (hd:(x == ("__debug__" : Str))=false:=by decide)
  (hcd:(x == ("__classdict__" : Str))=false:=by decide):PE X (.Name x pos) (tVar i):=pe_var hN hv hd hcd
theorem iteF {A B:Prop} (h:B):if false=true then A else B:=by
 rw [if_neg fnt]
 exact h
theorem iteT {A B:Prop} (h:A):if true=true then A else B:=by
 rw [if_pos rfl]
 exact h
theorem ite2 {c A B:Prop} [Decidable c] (h1:c->A) (h2:¬ c->B):if c then A else B:=by
 by_cases h:c
 ·rw [if_pos h]
  exact h1 h
 ·rw [if_neg h]
  exact h2 h
theorem iteNS {c A B:Prop} [Decidable c] (hc:c) (h:B):if (!decide c)=true then A else B:=by
 rw [decide_eq_true hc]
 exact iteF h
def Same (H H':Hp):Prop:=∀ b o,H b=some o->H' b=some o
theorem Same.refl (H:Hp):Same H H:=fun _ _ h=>h
theorem Same.trans (a:Same H H1) (b:Same H1 H2):Same H H2:=fun c o h=>b c o (a c o h)
theorem Same.free (e:Same H H') (h:H' l=Option.none):H l=Option.none:=by
 cases q:H l with
 | none=>rfl
 | some o=>
  rw [e l o q] at h
  cases h
theorem Same.seq {K:Fg} {H H':Hp} {a:Addr} {xs:List V} (e:Same H H') (h:SqL K H a xs):SqL K H' a xs:=by
 rcases h with (h | ⟨o,h⟩) | h
 ·exact .inl (.inl (e _ _ h))
 ·exact .inl (.inr ⟨o,e _ _ h⟩)
 ·exact .inr h
section
variable {κ:Type} [DecidableEq κ]
noncomputable def valV (kvs:List (κ × V)) (k:κ):Option V:=(kvs.find? fun kv=>decide (kv.1=k)).map (·.2)
noncomputable def putK (kvs:List (κ × V)) (k:κ) (v:V):List (κ × V):=
 if (kvs.any fun kv=>decide (kv.1=k))=true then kvs.map (fun kv=>if kv.1=k then (kv.1,v) else kv) else kvs++[(k,v)]
theorem q314 {p:κ × V} (e:p.1=k):valV (p::r) k=some p.2:=by simp [valV,List.find?_cons,e]
theorem q315 {p:κ × V} (e:¬ p.1=k):valV (p::r) k=valV r k:=by simp [valV,List.find?_cons,e]
theorem q479 (k:κ):∀ kvs:List (κ × V),(kvs.any fun kv=>decide (kv.1=k))=(valV kvs k).isSome
 | []=>rfl
 | p::r=>by
  rw [List.any_cons]
  by_cases e:p.1=k
  ·simp only [q314 e,decide_eq_true e,Bool.true_or,Option.isSome_some]
  ·rw [q315 e,decide_eq_false e,Bool.false_or];exact q479 k r
theorem q235 (kvs:List (κ × V)) (k:κ) (v:V):(putK kvs k v).length<=kvs.length+1:=by
 unfold putK
 split
 ·rw [List.length_map];omega
 ·rw [List.length_append,List.length_cons,List.length_nil];omega
theorem RelO.isSome_eq {o:Option V} {u:Option Value} (r:RelO o u):o.isSome=u.isSome:=by
 cases o with
 | none=>cases u with
  | none=>rfl
  | some _=>exact (show False from r).elim
 | some _=>cases u with
  | none=>exact (show False from r).elim
  | some _=>rfl
theorem RelO.getD {o:Option V} {u:Option Value} (r:RelO o u) (rd:RelV d d'):RelV (o.getD d) (u.getD d'):=by
 cases o with
 | none=>cases u with
  | none=>exact rd
  | some _=>exact (show False from r).elim
 | some _=>cases u with
  | none=>exact (show False from r).elim
  | some _=>exact r
theorem KV.val (r:KV kvs vs) (k:κ):RelO (valV kvs k) (valueAt vs k):=by
 unfold KV at r
 induction r with
 | nil=>exact True.intro
 | @cons p q ps qs h t ih=>
  obtain ⟨h1,h2⟩:=h
  by_cases e:p.1=k
  ·have e':q.1=k:=h1.symm.trans e
   have b:valueAt (q::qs) k=some q.2:=by simp [valueAt,List.find?_cons,e']
   rw [q314 e,b];exact h2
  ·have e':¬ q.1=k:=fun z=>e (h1.trans z)
   have b:valueAt (q::qs) k=valueAt qs k:=by simp [valueAt,List.find?_cons,e']
   rw [q315 e,b];exact ih
theorem KV.any {kvs:List (κ × V)} {vs:List (κ × Value)} (r:KV kvs vs) (k:κ):(kvs.any fun kv=>decide (kv.1=k))=vs.any fun kv=>decide (kv.1=k):=by
 unfold KV at r
 induction r with
 | nil=>rfl
 | cons h t ih=>rw [List.any_cons,List.any_cons,ih,h.1]
theorem KV.repl {kvs:List (κ × V)} {vs:List (κ × Value)} (r:KV kvs vs) (k:κ) (ry:RelV y u) :
  KV (kvs.map fun kv=>if kv.1=k then (kv.1,y) else kv) (vs.map fun kv=>if kv.1=k then (kv.1,u) else kv):=by
 unfold KV at r ⊢
 induction r with
 | nil=>exact .nil
 | @cons p q ps qs h t ih=>
  rw [List.map_cons,List.map_cons]
  refine .cons ?_ ih
  obtain ⟨h1,h2⟩:=h
  by_cases e:p.1=k
  ·rw [if_pos e,if_pos (h1.symm.trans e)];exact ⟨h1,ry⟩
  ·rw [if_neg e,if_neg (fun z=>e (h1.trans z))];exact ⟨h1,h2⟩
theorem KV.put (r:KV kvs vs) (k:κ) (ry:RelV y u):KV (putK kvs k y) (stored vs k u):=by
 unfold putK stored
 rw [r.any k]
 by_cases e:(vs.any fun kv=>decide (kv.1=k))=true
 ·rw [if_pos e,if_pos e];exact r.repl k ry
 ·rw [if_neg e,if_neg e];exact Paired.snoc r ⟨rfl,ry⟩
theorem KV.length {kvs:List (κ × V)} {vs:List (κ × Value)} (r:KV kvs vs):kvs.length=vs.length:=Paired.length r
end
theorem kV_is (r:RelV (kV k) u):(q53 P w).is k u=true:=by
 cases k with
 | inl i=>obtain ⟨t,e⟩:=(show ∃ t,u=Value.int i t from r);subst e;exact q428 P w i t
 | inr x=>obtain ⟨t,e⟩:=(show ∃ t,u=Value.str x t from r);subst e;exact q429 P w x t
theorem q361 {P:Program} {w:World}:∀ {ks:List Key} {us:List Value},Vals (ks.map kV) us->ItemsAre (q53 P w) ks us
 | [],_,r=>by rw [List.map_nil] at r;cases r;exact .nil
 | k::ks,_,r=>by
  rw [List.map_cons] at r
  cases r with
  | cons h t=>exact .cons (kV_is h) (q361 t)
abbrev KT (H:Hp):List (List Key × V)->List (List Key × Addr × Value)->Prop:=Paired fun p q=>p.1=q.1/\H q.2.1=some (.tup (p.1.map kV))/\RelV p.2 q.2.2
theorem KT.val (r:KT H kvs xs) (k:List Key):RelO (valV kvs k) ((atKey xs k).map (·.2)):=by
 induction r with
 | nil=>exact True.intro
 | @cons p q ps qs h t ih=>
  obtain ⟨h1,_,h2⟩:=h
  by_cases e:p.1=k
  ·have e':q.1=k:=h1.symm.trans e
   have b:atKey (q::qs) k=some q.2:=by simp [atKey,List.find?_cons,e']
   rw [q314 e,b];exact h2
  ·have e':¬ q.1=k:=fun z=>e (h1.trans z)
   have b:atKey (q::qs) k=atKey qs k:=by simp [atKey,List.find?_cons,e']
   rw [q315 e,b];exact ih
theorem KT.repl {kvs:List (List Key × V)} {xs:List (List Key × Addr × Value)} (r:KT H kvs xs) (k:List Key) (ry:RelV y u) :
  KT H (kvs.map fun kv=>if kv.1=k then (kv.1,y) else kv) (xs.map (putAt k u)):=by
 induction r with
 | nil=>exact .nil
 | @cons p q ps qs h t ih=>
  rw [List.map_cons,List.map_cons]
  refine .cons ?_ ih
  obtain ⟨h1,h2,h3⟩:=h
  unfold putAt
  by_cases e:p.1=k
  ·rw [if_pos e,if_pos (h1.symm.trans e)];exact ⟨h1,h2,ry⟩
  ·rw [if_neg e,if_neg (fun z=>e (h1.trans z))];exact ⟨h1,h2,h3⟩
theorem KT.put (r:KT H kvs xs) (k:List Key) (hb:H b=some (.tup (k.map kV))) (ry:RelV y u) :
  KT H (putK kvs k y) (storedH xs k b u):=by
 have e:(kvs.any fun kv=>decide (kv.1=k))=(atKey xs k).isSome:=by
  rw [q479,(r.val k).isSome_eq,Option.isSome_map]
 unfold putK storedH
 rw [e]
 by_cases q:(atKey xs k).isSome=true
 ·rw [if_pos q,if_pos q];exact r.repl k ry
 ·rw [if_neg q,if_neg q];exact Paired.snoc r ⟨rfl,hb,ry⟩
theorem KT.keeps (r:KT H kvs xs) (ht:∀ b ys,H b=some (.tup ys)->H' b=some (.tup ys)):KT H' kvs xs:=
 Paired.mapP r fun _ _ z=>⟨z.1,ht _ _ z.2.1,z.2.2⟩
section
variable {P:Program} {w:World} {H:Hp} {h:Heap} {a:Addr}
theorem rd_of (ok:HOk P w H h) (e:Rd H a u):ObjOk P w H h a u:=e.ok ok
theorem dk_rd {kvs:List (Key × V)} (ok:HOk P w H h) (e:Rd H a (.dK kvs)):kvs.length<=sizeLine/\(a == sysModules)=false /\ ∃ vs,KV kvs vs/\h.DictOf (q53 P w) a vs:=
 show ObjOk P w H h a (.dK kvs) from rd_of ok e
theorem dk_of {kvs:List (Key × V)} (ok:HOk P w H h) (e:H a=some (.dK kvs)):kvs.length<=sizeLine/\(a == sysModules)=false /\ ∃ vs,KV kvs vs/\h.DictOf (q53 P w) a vs:=dk_rd ok (.inl e)
theorem q480 {ks:List Key} (ok:HOk P w H h) (e:H a=some (.tup (ks.map kV))):(tupleKind (q53 P w)).is h ks a:=by
 obtain ⟨_,its,r,o,h1,h2,n,h3⟩:=(show ObjOk P w H h a (.tup (ks.map kV)) from ok a _ e)
 exact ⟨o,its.toArray,n,h1,h2,h3,by simpa using q361 r⟩
theorem dt_rd {kvs:List (List Key × V)} (ok:HOk P w H h) (e:Rd H a (.dT kvs)):kvs.length<=sizeLine/\(a == sysModules)=false /\
  ∃ xs,KT H kvs xs/\h.DictOfH (tupleKind (q53 P w)) a xs:=by
 obtain ⟨z,y,xs,r,o,es,ep,h1,h2,h3,h4,h5⟩:=(show ObjOk P w H h a (.dT kvs) from rd_of ok e)
 refine ⟨z,y,xs,r,o,es,ep,h1,h2,h3,h4,fun x hx=>?_,h5⟩
 have all:∀ {l:List (List Key × V)} {m:List (List Key × Addr × Value)},KT H l m -> ∀ x ∈ m,(tupleKind (q53 P w)).is h x.1 x.2.1:=by
  intro l m q
  induction q with
  | nil=>intro x hx;exact nomatch hx
  | @cons p q ps qs hq t ih=>
   intro x hx
   rcases List.mem_cons.mp hx with e | hx
   ·subst e
    exact q480 ok (by rw [<- hq.1];exact hq.2.1)
   ·exact ih x hx
 exact all r x hx
theorem dt_of {kvs:List (List Key × V)} (ok:HOk P w H h) (e:H a=some (.dT kvs)):kvs.length<=sizeLine/\(a == sysModules)=false /\
  ∃ xs,KT H kvs xs/\h.DictOfH (tupleKind (q53 P w)) a xs:=dt_rd ok (.inl e)
end
def DGet (H:Hp) (a:Addr) (y:V) (r:Option V):Prop:=
 (∃ kvs k,Rd H a (.dK kvs)/\y=kV k/\r=valV kvs k) \/ ∃ kvs k b,Rd H a (.dT kvs)/\y = .ref b/\H b=some (.tup (k.map kV))/\r=valV kvs k
def DPut (H:Hp) (a:Addr) (y v:V) (H':Hp):Prop:=
 (∃ kvs k,H a=some (.dK kvs)/\y=kV k/\kvs.length < sizeLine/\H'=upd H a (.dK (putK kvs k v))) \/
 ∃ kvs k b,H a=some (.dT kvs)/\y = .ref b/\H b=some (.tup (k.map kV))/\kvs.length < sizeLine/\H'=upd H a (.dT (putK kvs k v))
theorem DGet.k {H:Hp} {a:Addr} {kvs:List (Key × V)} {k:Key} (e:H a=some (.dK kvs)):DGet H a (kV k) (valV kvs k):=.inl ⟨kvs,k,.inl e,rfl,rfl⟩
theorem DPut.k {H:Hp} {a:Addr} {kvs:List (Key × V)} {k:Key} {v:V} (e:H a=some (.dK kvs)) (hl:kvs.length < sizeLine):DPut H a (kV k) v (upd H a (.dK (putK kvs k v))):=.inl ⟨kvs,k,e,rfl,hl,rfl⟩
section
variable {pins:List (Addr × Obj)} {σ:St} {H:Hp} {s:Shared} {a:Addr} {y v:V} {u r:Value} {o:Option V} {A:Around} {E:VS}
theorem Inv.big (I:Inv X pins σ H s):sysModules < s.heap.objs.size:=by
 have h:mainGlobals < s.heap.objs.size:=(I.mod.glob.keeps I.bk).lt
 exact Nat.lt_trans (by decide) h
theorem q604 (hu:A.units+1 < cLine) (I:Inv X pins σ H s) (g:DGet H a y (some v)) (ry:RelV y u) (h:∀ w' s',Inv X pins σ H s'->RelV v w'->Q w' s') :
  wpAny (model X.prog X.w) A (getItem (.ref a) u) Q E s:=by
 rcases g with ⟨kvs,k,e,ey,l⟩ | ⟨kvs,k,b,e,ey,eb,l⟩
 ·subst ey
  obtain ⟨z,hd,vs,rel,dd⟩:=dk_rd I.hok e
  obtain ⟨w',hw,rw'⟩:=RelO.some_of (v:=v) (o:=valueAt vs k) (by rw [l];exact rel.val k)
  exact wpAny_getItem_of (kV_is ry) dd.mapOf hw (h w' _ (I.tok _) rw')
 ·subst ey
  cases (show u=Value.ref b from ry)
  obtain ⟨z,hd,xs,rel,dd⟩:=dt_rd I.hok e
  obtain ⟨w',hw,rw'⟩:=RelO.some_of (v:=v) (o:=(atKey xs k).map (·.2)) (by rw [l];exact rel.val k)
  obtain ⟨p,hp,hp2⟩:=Option.map_eq_some_iff.mp hw
  refine wpAny_getItem_heap (tupleKind_room_in1 hu) (q480 I.hok eb) dd hp ?_
  rw [hp2]
  exact h w' _ (I.tok _) rw'
theorem q605 {h':Heap} {t':Nat} (I:Inv X pins σ H s) (mu:Mut (H a)) (hs:Heap.SameBut a s.heap h') (he:∃ q,h'.get? a=some q) (new:ObjOk X.prog X.w (upd H a ob) h' a ob) :
  Inv X pins σ (upd H a ob) { s with heap:=h',toks:=t' }:=
 I.write (x:=a) (e:=a) mu (.inl rfl) (fun b q hb z=>(hs.2 b hb).trans z) he new
theorem dk_new {h':Heap} {kvs:List (Key × V)} (z:kvs.length<=sizeLine) (hd:(a == sysModules)=false) (rel:KV kvs vs) (dd:h'.DictOf (q53 P w) a vs) :
  ObjOk P w H' h' a (.dK kvs):=⟨z,hd,vs,rel,dd⟩
theorem q606 (hu:A.units+1 < cLine) (I:Inv X pins σ H s) (g:DPut H a y v H') (ry:RelV y u) (rv:RelV v r) (h:∀ s',Inv X pins σ H' s'->Q () s') :
  wpAny (model X.prog X.w) A (setItem (.ref a) u r) Q E s:=by
 rcases g with ⟨kvs,k,e,ey,l,eH⟩ | ⟨kvs,k,b,e,ey,eb,l,eH⟩
 ·subst ey eH
  obtain ⟨z,hd,vs,rel,dd⟩:=dk_of I.hok e
  have hz:vs.length<=sizeLine:=by rw [<- rel.length];exact z
  have hl:(putK kvs k v).length<=sizeLine:=by have:=q235 kvs k v;omega
  refine wpAny_setItem_pairs (hsz:=hz) (kV_is ry) dd fun h' dd' hs=>h _ ?_
  have he:∃ q,h'.get? a=some q:=let ⟨q,_,_,hq,_⟩:=dd';⟨q,hq⟩
  exact q605 I (by rw [e];exact True.intro) hs he (dk_new hl hd (rel.put k rv) dd')
 ·subst ey eH
  cases (show u=Value.ref b from ry)
  obtain ⟨z,hd,xs,rel,dd⟩:=dt_of I.hok e
  have hz:xs.length<=sizeLine:=by rw [<- Paired.length rel];exact z
  have hl:(putK kvs k v).length<=sizeLine:=by have:=q235 kvs k v;omega
  refine wpAny_setItem_heap (hsz:=hz) (tupleKind_room_in1 hu) (q480 I.hok eb) dd fun h' dd' hs=>h _ ?_
  obtain ⟨q,es,ep,hq,h2,h3,h4,_,h5⟩:=dd'
  refine q605 I (by rw [e];exact True.intro) hs ⟨q,hq⟩ ⟨hl,hd,_,(rel.put k eb rv).keeps fun c ys ec=>?_,q,es,ep,hq,h2,h3,h4,h5⟩
  rw [q31 (ne_of ec e (fun z=>nomatch z))]
  exact ec
end
def NoSl (i:Expr):Prop:=∀ ov iv,subscripted i false ov iv=operate [ov,iv] (getItem ov iv)
theorem subD_of {prog:Program} {w:World} {A:Around} {E:VS} {s:Shared} {env:Env} {value slice:Expr} {pos:Pos} {T id:String} {Q:VS}
  (hl:typeLookup (.type T) "__getitem__" = pure (some (.builtin id))) (hs:NoSl slice)
  (h:wpAny (model prog w) A (eval value env) (fun o s₁=>wpAny (model prog w) A (eval slice env) (fun i s₂=>s₂.TypeIs o T/\wpAny (model prog w) A (getItem o i) Q E s₂) E s₁) E s) :
  wpAny (model prog w) A (eval (.Subscript value slice pos) env) Q E s:=by
 refine Subscript_ (wpAny_mono h (fun o s₁ h₁=>wpAny_mono h₁ (fun i s₂ h₂=>?_) fun _ _ x=>x) fun _ _ x=>x)
 obtain ⟨hT,h₂⟩:=h₂
 unfold subscriptTail
 refine wpAny_bind ?_
 rw [getitemInPython_of_ne hT.not_modules]
 refine wpAny_bind (wpAny_specialOf hT hl ?_)
 have fin:wpAny (model prog w) A (subscripted slice false o i) (fun r s₃=>wpAny (model prog w) A (letTemporaryGo value o r >>= fun _=>pure r) Q E s₃) E s₂:=by
  rw [hs o i]
  exact wpAny_operating (wpAny_mono h₂ (fun r s₃ h₃=>wpAny_bind (wpAny_letTemporaryGo (wpAny_pure h₃))) fun _ _ x=>x)
 first
  | exact wpAny_pure (wpAny_bind fin)
  | exact wpAny_bind (wpAny_pure (wpAny_bind fin))
  | exact wpAny_bind fin
theorem q432 {s:Shared} (I:Inv X pins σ H s) (g:DGet H a y o):s.TypeIs (.ref a) "dict" := by
 rcases g with ⟨kvs,k,e,_,_⟩ | ⟨kvs,k,b,e,_,_,_⟩
 ·obtain ⟨_,_,vs,_,dd⟩:=dk_rd I.hok e
  exact dd.typeIs
 ·obtain ⟨_,_,xs,_,dd⟩:=dt_rd I.hok e
  exact dd.typeIs
def tDGet (td ty:TE):TE:=fun σ H Q=>td σ H fun x H1=>ty σ H1 fun y H2=>∃ a v,x = .ref a/\DGet H2 a y (some v)/\Q v H2
def sDPut (td ty tv:TE):TS:=fun D σ H=>tv σ H fun v H1=>td σ H1 fun x H2=>ty σ H2 fun y H3=>∃ a H4,x = .ref a/\DPut H3 a y v H4/\D.nx σ H4
section
variable {o i e value:Expr} {pos pos' tpos:Pos} {td ty tv:TE}
theorem pe_dget (hu:X.A.units+1 < cLine) (ho:PE X o td) (hi:PE X i ty) (hs:NoSl i):PE X (.Subscript o i pos) (tDGet td ty):=by
 intro pins s σ H Q I h
 refine subD_of PySem.F.slot_dict_getitem.lookup hs (thn (ho pins s σ H _ I h) fun u s1 ⟨x,H1,I1,rx,q1⟩=>thn (hi pins s1 σ H1 _ I1 q1) fun iv s2 ⟨y,H2,I2,ry,a,v,ex,g,q2⟩=>?_)
 subst ex
 obtain rfl:u=Value.ref a:=rx
 exact ⟨q432 I2 g,q604 hu I2 g ry fun w' s3 I3 rw'=>⟨v,H2,I3,rw',q2⟩⟩
theorem ps_dput (hu:X.A.units+1 < cLine) (ho:PE X o td) (hi:PE X i ty) (hv:PE X value tv) (hs:swapsWith value (some (.Subscript o i pos')) pos.line X.env=pure false) :
  PS X (.Assign [.Subscript o i pos'] value pos) (sDPut td ty tv):=by
 intro pins s σ H D I h
 refine wpAny_Assign_Subscript (thn (hv pins s σ H _ I h) fun r s1 ⟨v,H1,I1,rv,q1⟩=>thn (ho pins s1 σ H1 _ I1 q1) fun u s2 ⟨x,H2,I2,rx,q2⟩=>thn (hi pins s2 σ H2 _ I2 q2) fun iv s3 ⟨y,H3,I3,ry,a,H4,ex,g,q3⟩=>?_) hs
 subst ex
 obtain rfl:u=Value.ref a:=rx
 exact q606 hu I3 g ry rv fun s4 I4=>⟨σ,H4,I4,q3⟩
end
theorem dk_empty (h:Heap) (hb:sysModules < h.objs.size):ObjOk P w H (h.push { cls:=.type "dict", data:=.dict #[] }) h.objs.size (.dK []):=
 ⟨Nat.zero_le _,beq_eq_false_iff_ne.mpr (Ne.symm (Nat.ne_of_lt hb)),[],.nil,Heap.DictOf.new h⟩
def tDNewK:TE:=fun _ H Q=>∀ p,H p=none->Q (.ref p) (upd H p (.dK []))
section
variable {pos:Pos}
theorem pe_dnewK:PE X (.Dict [] [] pos) tDNewK:=fun pins s σ H Q I h=>
 wpAny_Dict_empty ⟨.ref s.heap.objs.size,_,I.laid (a:=s.heap.objs.size) (o:=.dK []) (t':=s.toks) (fun _ _ q=>Heap.get?_push_of_some _ q) (Nat.le_refl _) (dk_empty s.heap I.big),rfl,h _ (I.hok.fresh (Nat.le_refl _))⟩
end
theorem q16 (h:H p=none) (o:HO):Same H (upd H p o):=fun b u q=>by rw [q31 (q27 q h)];exact q
structure Def (K:Fg) (mg:Mg) (x:Str) (st:Stmt) (ps:List Str):Prop where
 ex:∃ (f:Addr) (fd:FuncData),Fun K x x st f fd/\(∀ us:List Value,us.length=ps.length->bindArgs fd ⟨us,[]⟩=pure (ps.zip us))/\mg x=some (.ref f)
theorem q694 {K:Fg} {h:Heap} {mg:Mg} {x:Str} {st:Stmt} {ps:List Str} {f:Addr} {oc:Value} {od an:Option Addr} {osl:Array (Option Value)} {kV doc pm cdv ct:Value}
  (KX:K.In h) (G:h.Ns mainGlobals mg) (a:PySem.W.nsIn K mainGlobals x=some (some (.ref f)))
  (l:K.lookup f=some ⟨oc,od,.func (PySem.W.fnOf x x (q149 st) (q107 st) (q17 st) .none kV doc pm an cdv ct),osl⟩)
  (c:PySem.W.codeIn K cdv x=true) (k:PySem.W.keepIn K (.ref f)=true)
  (b:∀ (kV doc pm:Value) (an:Option Addr) (cdv ct:Value) (us:List Value),us.length=ps.length->bindArgs (PySem.W.fnOf x x (q149 st) (q107 st) (q17 st) .none kV doc pm an cdv ct) ⟨us,[]⟩=pure (ps.zip us)) :
  Def K mg x st ps:=⟨f,_,q687 l c k,b kV doc pm an cdv ct,PySem.W.mg_of KX G a⟩
structure Cal (P:Program) (w:World) (K:Fg) (mg:Mg) (base:Heap) (k:Nat) (x:Str) (ps:List Str) (sp:Sp):Prop where
 ex:∃ (f:Addr) (fd:FuncData),FnOk P w K mg base CX0 k f fd ps sp/\Binds K fd ps []/\PySem.W.keepIn K (.ref f)=true/\mg x=some (.ref f)
theorem Def.cal {P:Program} {w:World} {K:Fg} {mg:Mg} {base:Heap} {k:Nat} {x:Str} {st:Stmt} {ps:List Str} {sp:Sp} (d:Def K mg x st ps)
  (F:∀ (f:Addr) (fd:FuncData),Fun K x x st f fd->FnOk P w K mg base CX0 k f fd ps sp):Cal P w K mg base k x ps sp:=by
 obtain ⟨f,fd,h1,h2,h3⟩:=d.ex
 exact ⟨f,fd,F f fd h1,.all h2,h1.kp,h3⟩
section
variable {k:Nat} {x:Str} {ps:List Str} {sp:Sp} {p pos:Pos} {e:Expr} {es:List Expr} {t:TA}
theorem pe_fn (c:Cal X.prog X.w X.K X.mg X.base k x ps sp) (hr:Room k X.A) (hg:Gl X x) (ha:PA X (e::es) t) (hdb:(x == ("__debug__" : Str))=false:=by decide)
  (he:starEach (e::es) X.env=(false,eval e X.env)::starEach es X.env:=by rfl) (hpl:(backTo pos (starEach es X.env)).any (·.1)=false:=by rfl) :
  PE X (.Call (.Name x p) (e::es) [] pos) (tCall sp [] E0 t):=by
 obtain ⟨f,fd,F,B,kp,m⟩:=c.ex
 exact pe_call F hr hg m kp B .nil pass0 ha hdb he hpl
end
def spLaw (K:Fg):Sp:=fun vs H Q _=>∃ (a:Addr) (ns:List Int),vs=[.ref a]/\SqL K H a (ns.map V.int)/\ns.length<=63/\Only H /\ ∀ H',Q (.bl true) H'
theorem law_mk {P:Program} {w:World} {K:Fg} {mg:Mg} {k:Nat} {st:Stmt} {fa:Addr} (d:Def K mg "law" st ["_law_script"])
  (F:∀ (base:Heap) (f:Addr) (fd:FuncData),Fun K "law" "law" st f fd->FnOk P w K mg base CX0 k f fd ["_law_script"] (spLaw K)) (hmg:mg "law" = some (.ref fa)) :
  ∃ fd:FuncData,(∀ (s:Shared) (u:Value),BindsTo s fd ⟨[u],[]⟩ [("_law_script", u)]) /\ ∀ base:Heap,K.In base->base.Ns mainGlobals mg->FnOk P w K mg base CX0 k fa fd ["_law_script"] (spLaw K):=by
 obtain ⟨f,fd,h1,h2,h3⟩:=d.ex
 have e:=hmg.symm.trans h3
 cases e
 exact ⟨fd,fun s u=>.of_eq (h2 [u] rfl),fun base _ _=>F base _ _ h1⟩
theorem walkL {l:PySem.W.OpenLaw} {k:Nat} {q:Program} {loose:List Str} {XP:(Mg)->Heap->Prop} {YP:World->Heap->Prop} {d:DefRec} {K:Params->Fg} (hr:Room k callerA) (hn:l.most=some 63) (hdf:d.params.defaults=[])
  (hY:∀ (w:World) (h:Heap),YP w h->(K w.params).In h)
  (F:∀ (w:World) (mg:Mg) (fa:Addr) (h:Heap),(K w.params).In h->h.Ns mainGlobals mg->mg d.name=some (.ref fa) ->
   ∃ fd:FuncData,(∀ (s:Shared) (u:Value),BindsTo s fd ⟨[u],[]⟩ [("_law_script", u)]) /\ ∀ base:Heap,(K w.params).In base->base.Ns mainGlobals mg->FnOk l.prog w (K w.params) mg base CX0 k fa fd ["_law_script"] (spLaw (K w.params))) :
  PySem.W.WalkO q loose XP YP l.row.toRowW d [] (fun f vs=>PySem.call f vs):=
 q689 (n:=63) (k:=k) (x := "_law_script") (CX:=fun _=>CX0) (sp:=fun w=>spLaw (K w.params)) hn (by decide) hdf hr hY F (fun _ _ a ns hl hO hS=>⟨a,ns,rfl,hS,hl,hO,fun _=>rfl⟩) fun _ _ _ _ _ z=>z
theorem q530 {n:Nat} (h:n < 10 ^ 60):n.log2 < 9000:=by
 by_cases h0:n=0
 ·subst h0;decide
 ·have h1:n.log2 < 200:=(Nat.log2_lt h0).mpr (Nat.lt_of_lt_of_le h (by decide))
  omega
theorem q70:OpR X (binaryOp .FloorDiv) (rI (fun _ j=>0 < j/\j < 10 ^ 60) fun i j=>.int (i / j)):=opI fun i j _ _ _ _ _ hc q=>by
 have h1:(0:Int) < j:=hc.1
 have h2:j < 10 ^ 60:=hc.2
 exact floordiv_int (by omega) (by rw [Int.fdiv_eq_ediv_of_nonneg i (by omega)];exact q) (.inl (PyProof.noPylong_of_log2 (q530 (by omega))))
theorem op_catU:OpR X (binaryOp .Add) (fun x y H Q=>∃ a b xs ys,x = .ref a/\y = .ref b/\SqT X.K H a xs/\SqT X.K H b ys/\xs.length+ys.length<=sizeLine /\
  ∀ p H',Same H H'->SqT X.K H' p (xs++ys)->(H a=some (.tup xs)->H b=some (.tup ys)->H' p=some (.tup (xs++ys)))->Q (.ref p) H'):=by
 intro pins s σ H x y v u Q I rx ry h
 obtain ⟨a,b,xs,ys,rfl,rfl,ha,hb,hz,q1⟩:=h
 cases rx
 cases ry
 obtain ⟨its,r1,p1,_⟩:=I.tuple ha
 obtain ⟨its2,r2,p2,_⟩:=I.tuple hb
 have hz':its.length+its2.length<=sizeLine:=by rw [<- r1.length,<- r2.length];exact hz
 obtain ⟨⟨cls,dd,data,sl⟩,ho,hc,n,hd⟩:=id p1
 obtain ⟨⟨cls2,dd2,data2,sl2⟩,ho2,hc2,n2,hd2⟩:=id p2
 simp only at hc hd hc2 hd2
 subst hc hd hc2 hd2
 have e:its.toArray++its2.toArray=(its++its2).toArray:=by simp
 by_cases hv:its=[]
 ·have hx:xs=[]:=r1.nil_iff.mp hv
  subst hx
  exact concat_meets ⟨_,ho,rfl⟩ ⟨_,ho2,rfl⟩ noFill_tuple_add seq_tuple_add PySem.F.slot_tuple_add PySem.F.entry_tuple_add (PySem.F.args_tuple_add_2 _ _)
   (tuple_addW0 a b its.toArray its2.toArray n n2 dd dd2 sl sl2 (by simp [hv])) ⟨ho,ho2,⟨.ref b,H,I,rfl,q1 b H (Same.refl H) (by simpa using hb) (fun _ z=>by simpa using z)⟩⟩
 ·by_cases hw:its2=[]
  ·have hy:ys=[]:=r2.nil_iff.mp hw
   subst hy
   exact concat_meets ⟨_,ho,rfl⟩ ⟨_,ho2,rfl⟩ noFill_tuple_add seq_tuple_add PySem.F.slot_tuple_add PySem.F.entry_tuple_add (PySem.F.args_tuple_add_2 _ _)
    (tuple_addW1 a b its.toArray its2.toArray n n2 dd dd2 sl sl2 (by simpa using hv) (by simp [hw])) ⟨ho,ho2,⟨.ref a,H,I,rfl,q1 a H (Same.refl H) (by simpa using ha) (fun z _=>by simpa using z)⟩⟩
  ·refine concat_meets ⟨_,ho,rfl⟩ ⟨_,ho2,rfl⟩ noFill_tuple_add seq_tuple_add PySem.F.slot_tuple_add PySem.F.entry_tuple_add (PySem.F.args_tuple_add_2 _ _)
    (tuple_addW2 a b its.toArray its2.toArray n n2 dd dd2 sl sl2 (by simpa using hv) (by simpa using hw) (by rw [List.size_toArray,List.size_toArray];exact hz')) ⟨ho,ho2,?_⟩
   rw [e]
   refine ⟨.ref s.heap.objs.size,_,I.laid (t':=s.toks) (o:=.tup (xs++ys)) (fun b ob q=>Heap.get?_push_of_some _ q) (Nat.le_refl _) ?_,rfl,q1 _ _ (q16 (I.hok.fresh (Nat.le_refl _)) _) (SqT.of q14) (fun _ _=>q14)⟩
   exact ⟨by rw [List.length_append];exact hz,_,r1.append r2,IsTup.new _ _⟩
section
theorem bt_int:bootBuiltins "int" = some (.type "int"):=by decide +kernel
theorem bt_bool:bootBuiltins "bool" = some (.type "bool"):=by decide +kernel
theorem bt_str:bootBuiltins "str" = some (.type "str"):=by decide +kernel
theorem q433:bootBuiltins "list" = some (.type "list"):=by decide +kernel
theorem q139:bootBuiltins "tuple" = some (.type "tuple"):=by decide +kernel
theorem bt_len:bootBuiltins "len" = some (.builtin "len"):=by decide +kernel
theorem q108:bootBuiltins "isinstance" = some (.builtin "isinstance"):=by decide +kernel
theorem bt_max:bootBuiltins "max" = some (.builtin "max"):=by decide +kernel
theorem bt_min:bootBuiltins "min" = some (.builtin "min"):=by decide +kernel
theorem bt_sum:bootBuiltins "sum" = some (.builtin "sum"):=by decide +kernel
theorem q236:bootBuiltins "sorted" = some (.builtin "sorted"):=by decide +kernel
end
section
variable {K:Fg}
theorem q362:PySem.W.kitOne K (.type "int") (.type "bool")=some false:=by kernel_rfl
theorem q316:PySem.W.kitOne K (.type "int") (.type "tuple")=some false:=by kernel_rfl
theorem q317:PySem.W.kitOne K (.type "str") (.type "tuple")=some false:=by kernel_rfl
theorem q271:PySem.W.kitOne K (.type "NoneType") (.type "tuple")=some false:=by kernel_rfl
theorem q237:PySem.W.kitOne K (.type "tuple") (.type "tuple")=some true:=by kernel_rfl
end
def Keep (p:Addr) (H H':Hp):Prop:=∀ b o,b ≠ p->H b=some o->H' b=some o
theorem Keep.trans (a:Keep p H H1) (b:Keep p H1 H2):Keep p H H2:=fun c o n h=>b c o n (a c o n h)
theorem Keep.same (s:Same H H'):Keep p H H':=fun b o _ h=>s b o h
theorem Keep.set (p:Addr) (H:Hp) (o:HO):Keep p H (upd H p o):=fun b u n h=>by rw [q31 n];exact h
theorem Keep.new (h:H q=none) (o:HO):Keep p H (upd H q o):=.same (q16 h o)
theorem Same.seqT {K:Fg} {H H':Hp} {a:Addr} {xs:List V} (e:Same H H') (h:SqT K H a xs):SqT K H' a xs:=by
 rcases h with (h | ⟨o,h⟩) | h
 ·exact .inl (.inl (e _ _ h))
 ·exact .inl (.inr ⟨o,e _ _ h⟩)
 ·exact .inr h
theorem sz {n:Nat} (h:n<=1000):n<=sizeLine:=Nat.le_of_lt (q54 h)
theorem szb {n:Nat} (h:Nat.ble n 1000=true):n<=sizeLine:=sz (Nat.le_of_ble_eq_true h)
theorem q140 {l:List Int} {i:Int} (h0:0<=i) (h1:i < (l.length:Int)):∃ v,v ∈ l/\atI (l.map V.int) i=some (.int v):=by
 have hk:i.toNat < l.length:=by omega
 have ek:i=((i.toNat:Nat):Int):=by omega
 have q:atI (l.map V.int) ((i.toNat:Nat):Int)=some (.int l[i.toNat]):=q39 (by rw [List.getElem?_map,List.getElem?_eq_getElem hk] <;> rfl)
 rw [<- ek] at q
 exact ⟨l[i.toNat],List.getElem_mem hk,q⟩
noncomputable def relN (scope sc0:Scope):List (Str × NameKind):=scope.names.map fun (n,k)=>if (k == .free && sc0.kind == .function && sc0.names.lookup n == some .cell) then (n,.cell) else (n,k)
def q90 (env:Env):List (Str × Addr)->Prop
 | []=>True
 | (n,c)::r=>env.cells.lookup n=some c/\q90 env r
theorem q90.look {env:Env}:∀ {cl:List (Str × Addr)} {n:Str} {c:Addr},q90 env cl->cl.lookup n=some c->env.cells.lookup n=some c
 | [],_,_,_,h=>by cases h
 | (m,d)::r,n,c,hc,h=>by
  rw [List.lookup_cons] at h
  cases hx:n == m with
  | true=>
   rw [hx] at h
   cases h
   rw [eq_of_beq hx]
   exact hc.1
  | false=>
   rw [hx] at h
   exact q90.look hc.2 h
theorem q238 {cl:List (Str × Addr)} (h:n ∈ cl.map (·.1)):∃ c,cl.lookup n=some c:=by
 induction cl with
 | nil=>cases h
 | cons p r ih=>
  obtain ⟨m,d⟩:=p
  rw [List.lookup_cons]
  cases hx:n == m with
  | true=>exact ⟨d,rfl⟩
  | false=>
   rcases List.mem_cons.mp h with e | e
   ·have e':n=m:=e
    rw [e',beq_self_eq_true] at hx
    cases hx
   ·exact ih e
structure CompOk (scope sc0:Scope) (x:Str) (N cn:List Str):Prop where
 has:∀ p ∈ relN scope sc0,(p.2 = .cell\/p.2 = .free)->p.1 ∈ cn
 nc:∀ p ∈ scope.names,p.2 ≠ .cell
 names:∀ p ∈ scope.names,p.2 = .local->scope.names.lookup p.1=some .local
 hx:scope.names.lookup x=some .local
 hx':(relN scope sc0).lookup x=some .local
 nd:(x::N).Nodup
 frs:∀ y ∈ N,(relN scope sc0).lookup y=some .cell/\sc0.names.lookup y=some .cell/\y ∈ cn
noncomputable def q59 (X:Cx) (scope:Scope) (cl:List (Str × Addr)) (C:Addr) (x:Str) (N:List Str) (s₂:Shared) (H₂:Hp) (fp:List Addr):Cx where
 prog:=X.prog
 w:=X.w
 K:=X.K
 mg:=X.mg
 base:=X.base
 A:=X.A
 N:=x::N
 s₀:=s₂
 H₀:=H₂
 env:=compEnvC scope cl C X.env
 outer:=X.stack
 stack:=X.stack
 ex:=fp
 fn:=fun _=>false
 calm:=X.calm
 pn:=[]
 xe:=fun _ _=>False
def tComp (wi:TI) (te:TE) (fr:List Nat):TE:=fun σ H Q=>wi σ H fun J H1=>∀ D,H1 D=none -> ∃ W:Nat->Nat->List V->Hp->Prop,(∃ m,W 0 m [] (upd H1 D (.lst []))) /\
 ∀ i m ys H2,W i m ys H2->H2 D=some (.lst ys)/\((J.stop i H2/\Q (.ref D) H2)\/(J.go i H2/\ys.length < sizeLine /\ ∃ N:V->Hp->Prop,(∀ y H3,N y H3->H3 D=some (.lst ys) /\ ∃ m',m' < m/\W (i+1) m' (ys++[y]) (upd H3 D (.lst (ys++[y])))) /\
  ∀ x H',J.yld i H2 x H'->te (some x::fr.map fun j=>(σ[j]?).getD none) H' N))
theorem q285 {α:Type}:∀ {l:List (Str × α)} {x:Str} {a:α},l.lookup x=some a->(x,a) ∈ l:=fun h=>PySem.mem_of_lookup h
abbrev nbOf (prog:Program) (w:World) (A:Around) (env:Env) (R:Result->Shared->Prop):VS:=notedBy (model prog w) A env fun e s'=>R (.error e) s'
def PTs (X:Cx) (ifs:List Expr) (tt:TT):Prop:=
 ∀ (pins:List (Addr × Obj)) (s:Shared) (σ:St) (H:Hp) (Q:Bool->Hp->Prop),Inv X pins σ H s->tt σ H Q ->
  wpAny (model X.prog X.w) X.A (forIn ifs true fun c r=>if r=true then do let ok <- isTrue c X.env (eval c X.env);pure (ForInStep.yield ok) else pure (ForInStep.yield r)) (TP X pins σ Q) X.xe s
theorem q607:PTs X [] (fun _ H Q=>Q true H):=fun _ _ _ H _ I h=>wpAny_tests_nil ⟨H,I,h⟩
theorem pts_one (h:PT X cc tt):PTs X [cc] tt:=fun pins s σ H Q I hw=>wpAny_tests_one (h pins s σ H Q I hw)
structure CompOkG (scope sc0:Scope) (N cn:List Str):Prop where
 has:∀ p ∈ relN scope sc0,(p.2 = .cell\/p.2 = .free)->p.1 ∈ cn
 nc:∀ p ∈ scope.names,p.2 ≠ .cell
 names:∀ p ∈ scope.names,p.2 = .local->scope.names.lookup p.1=some .local
 frs:∀ y ∈ N,(relN scope sc0).lookup y=some .cell/\sc0.names.lookup y=some .cell/\y ∈ cn
def tCompG (k:Nat) (wi:TI) (gt:TG) (tt:TT) (te:TE) (fr:List Nat):TE:=fun σ H Q=>wi σ H fun J H1=>∀ D,H1 D=none -> ∃ W:Nat->Nat->List V->Hp->Prop,(∃ m,W 0 m [] (upd H1 D (.lst []))) /\
 ∀ i m ys H2,W i m ys H2->H2 D=some (.lst ys)/\((J.stop i H2/\Q (.ref D) H2)\/(J.go i H2/\ys.length < sizeLine /\ ∃ (N:V->Hp->Prop) (Z:Hp->Prop),(∀ y H3,N y H3->H3 D=some (.lst ys) /\ ∃ m',m' < m/\W (i+1) m' (ys++[y]) (upd H3 D (.lst (ys++[y]))))/\(∀ H3,Z H3 -> ∃ m',m' < m/\W (i+1) m' ys H3) /\
  ∀ x H',J.yld i H2 x H' -> ∀ vs:St,vs.length=k->gt x (vs++fr.map fun j=>(σ[j]?).getD none) H' fun σ' H3=>(∃ vs':St,vs'.length=k/\σ'=vs'++fr.map fun j=>(σ[j]?).getD none)/\tt σ' H3 fun b H4=>if b=true then te σ' H4 N else Z H4))
section
variable {prog:Program} {w:World} {A:Around} {R:Result->Shared->Prop} {s:Shared}
theorem q531 (I:Nat->Shared->Prop)
  (turn:∀ n s,I n s->wpAny (model prog w) A (pyNext it) (fun r s₁=>match r with
   | none=>R (.ok .next) s₁
   | some v=>wpAny (model prog w) A (letOwnedTupleGo target it v) (fun _ s₁'=>wpAny (model prog w) A (assign target env v) (fun _ s₂=>
     wpAny (model prog w) A (forIn ifs true fun c r=>if r=true then do let ok <- isTrue c env (eval c env);pure (ForInStep.yield ok) else pure (ForInStep.yield r)) (fun okb s₂'=>if okb=true then
     wpAny (model prog w) A (eval elt env) (fun x s₃=>wpAny (model prog w) A (call (.builtin "list.append") [acc,x]) (fun _ s₄=>∃ m,m < n/\I m s₄) (nbOf prog w A env R) s₃) (nbOf prog w A env R) s₂'
     else ∃ m,m < n/\I m s₂') (nbOf prog w A env R) s₂) (nbOf prog w A env R) s₁') (nbOf prog w A env R) s₁) (nbOf prog w A env R) s)
  (n:Nat) (h:I n s) :
  codeAny (model prog w) A (.compLoop (.ListComp elt [⟨target,iter,ifs,0⟩] scope pos) 0 it acc env) R s:=by
 refine codeAny_loop rfl I (fun n s hI=>?_) n h
 show wpAny _ _ ((compTurn (.ListComp elt [⟨target,iter,ifs,0⟩] scope pos) 0 it acc env).onRaise (fun x=>do noteFrame x env;theTreesLotGoes x)) _ _ s
 refine wpAny_noted ?_
 rw [compTurn_list]
 refine wpAny_bind (wpAny_standAt (wpAny_bind (wpAny_mono (turn n s hI) (fun r s₁ h₁=>?_) fun _ _ h'=>h')))
 cases r with
 | none=>exact wpAny_pure h₁
 | some v=>
  refine wpAny_bind (wpAny_mono h₁ (fun _ s₁' h₁'=>wpAny_bind (wpAny_mono h₁' (fun _ s₂ h₂=>wpAny_bind (wpAny_mono h₂ (fun okb s₂' h₂'=>?_) fun _ _ h'=>h')) fun _ _ h'=>h')) fun _ _ h'=>h')
  cases okb with
  | false=>exact wpAny_pure ⟨rfl,h₂'⟩
  | true=>exact wpAny_bind (wpAny_bind (wpAny_mono h₂' (fun x s₃ h₃=>wpAny_bind (wpAny_mono h₃ (fun _ s₄ h₄=>wpAny_pure (wpAny_pure ⟨rfl,h₄⟩)) fun _ _ h'=>h')) fun _ _ h'=>h'))
end
theorem q185 {X:Cx} {elt iter tg:Expr} {ifs:List Expr} {x:Str} {pos:Pos} {scope sc0:Scope} {cl:List (Str × Addr)} {cn TN N:List Str} {fr:List Nat} {gt:TG} {tt:TT} {te:TE} {pins:List (Addr × Obj)} {σ:St} {H2:Hp} {s2:Shared} {it:Addr} {fp:List Addr}
  {tn:Nat->Heap->Prop} {J:It} {RR:Value->Addr->Result->Shared->Prop} {R:Hp->Prop} {E:VS} {W:Nat->Nat->List V->Hp->Prop} {m0:Nat}
  (hc:X.calm=true) (he:∀ (C:Addr) (s₂:Shared) (H₂:Hp) (fp:List Addr),PE (q59 X scope cl C x (TN++N) s₂ H₂ fp) elt te) (hct:∀ (C:Addr) (s₂:Shared) (H₂:Hp) (fp:List Addr),PTs (q59 X scope cl C x (TN++N) s₂ H₂ fp) ifs tt) (hgt:∀ (C:Addr) (s₂:Shared) (H₂:Hp) (fp:List Addr),PG (q59 X scope cl C x (TN++N) s₂ H₂ fp) tg gt)
  (hcl:q90 X.env cl) (hcn:cl.map (·.1)=cn) (hsc:X.env.scope=sc0) (hk:scope.kind = .function) (hok:CompOkG scope sc0 N cn) (hfr:fr.map (fun j=>X.N[j]?)=N.map some)
  (I2:Inv X pins σ H2 s2) (T:Turn X.prog X.w X.K tg J fp it tn) (st2:tn 0 s2.heap) (f2:∀ b ∈ fp,FpOk X pins H2 b)
  (w0:W 0 m0 [] (upd H2 s2.heap.objs.size (.lst [])))
  (turn:∀ i m ys H,W i m ys H->H s2.heap.objs.size=some (.lst ys)/\((J.stop i H/\R H)\/(J.go i H/\ys.length < sizeLine /\ ∃ (N:V->Hp->Prop) (Z:Hp->Prop),
   (∀ y H3,N y H3->H3 s2.heap.objs.size=some (.lst ys) /\ ∃ m',m' < m/\W (i+1) m' (ys++[y]) (upd H3 s2.heap.objs.size (.lst (ys++[y]))))/\(∀ H3,Z H3 -> ∃ m',m' < m/\W (i+1) m' ys H3) /\
   ∀ x H',J.yld i H x H' -> ∀ vs:St,vs.length=TN.length+1->gt x (vs++fr.map fun j=>(σ[j]?).getD none) H' fun σ' H3=>(∃ vs':St,vs'.length=TN.length+1/\σ'=vs'++fr.map fun j=>(σ[j]?).getD none)/\tt σ' H3 fun b H4=>if b=true then te σ' H4 N else Z H4)))
  (hRR:∀ (C:Addr) (H6:Hp) (s6:Shared) (m6:Mg),s6.heap.Ns C m6->Inv X pins σ H6 s6->FpOk X pins H6 C->R H6->RR (.ref s2.heap.objs.size) C (.ok .next) s6) :
  wpAny (model X.prog X.w) X.A (newList []) (fun acc s₃=>wpAny (model X.prog X.w) X.A (newFunctionEnv scope X.env.globals cl [] X.env.qual none .none (some X.env)) (fun cenv s₄=>
   codeAny (model X.prog X.w) X.A (.compStart (.ListComp elt [⟨tg,iter,ifs,0⟩] scope pos) 0 (.ref it) acc { cenv with scope:=relabel scope X.env }) (RR acc cenv.locals) s₄) E s₃) E s2:=by
 refine wpAny_newObj_type (wpAny_newFunctionEnv hok.nc (by intro y hy;simp at hy) (fun h4 hns hsb=>?_) hk)
 dsimp only at hns hsb ⊢
 have rel:∀ y,(compEnvC scope cl 0 X.env).scope.names.lookup y=(relN scope sc0).lookup y:=fun y=>by
  show (relabel scope X.env).names.lookup y=_
  unfold relabel relN Env.kindOf
  rw [hsc]
 generalize hD:s2.heap.objs.size=D at *
 have I3:Inv X pins σ (upd H2 D (.lst [])) { s2 with heap:=s2.heap.push { cls:=.type "list", dict:=none,data:=.seq ([]:List Value).toArray } }:=
  I2.laid (t':=s2.toks) (fun b u e=>Heap.get?_push_of_some _ e) (Nat.le_of_eq hD) ⟨Nat.zero_le _,[],0,.nil,by rw [<- hD];exact Heap.get?_push_size _ rfl⟩
 have k23:∀ b u,s2.heap.get? b=some u->(s2.heap.push { cls:=.type "list", dict:=none,data:=.seq ([]:List Value).toArray }).get? b=some u:=fun b u e=>Heap.get?_push_of_some _ e
 have hsz:s2.heap.objs.size<=(s2.heap.push { cls:=.type "list", dict:=none,data:=.seq ([]:List Value).toArray }).objs.size:=by rw [Heap.size_push];exact Nat.le_succ _
 generalize hh3:s2.heap.push { cls:=.type "list", dict:=none,data:=.seq ([]:List Value).toArray }=h3 at *
 have k34:∀ b u,h3.get? b=some u->h4.get? b=some u:=fun b u e=>(hsb.2 b (Nat.ne_of_lt (Heap.lt_size e))).trans (Heap.get?_push_of_some _ e)
 generalize hC:h3.objs.size=C at *
 have I4:Inv X pins σ (upd H2 D (.lst [])) { s2 with heap:=h4,toks:=s2.toks+([]:List (Str × Value)).length }:=I3.kept (t':=s2.toks+0) k34
 generalize hH3:upd H2 D (.lst [])=H3 at *
 have ltC:∀ b o,s2.heap.get? b=some o->b < C:=fun b o e=>Nat.lt_of_lt_of_le (Heap.lt_size e) hsz
 have lenF:fr.length=N.length:=by simpa using congrArg List.length hfr
 have fpo:∀ b ∈ fp,b ≠ C/\b ∉ frs X.stack:=fun b hb=>by
  obtain ⟨o,e,_⟩:=T.obj 0 s2.heap st2 b hb
  refine ⟨Nat.ne_of_lt (ltC b o e),fun z=>?_⟩
  obtain ⟨_,n1,n2,_⟩:=f2 b hb
  rcases List.mem_cons.mp (I2.stkSub b z) with q | q
  ·exact n1 q
  ·exact n2 q
 have H3C:H3 C=none:=I3.hok.fresh (Nat.le_of_eq hC)
 have okX:(q59 X scope cl C x (TN++N) { s2 with heap:=h3 } H3 fp).Ok:=by
  refine ⟨I2.ok.mod,hk,I2.ok.glob,I2.ok.blt,Nat.le_of_eq hC,fun y z c e1 e2=>I2.ok.inj y z c (hcl.look e1) (hcl.look e2),fun y hy=>?_,fun y c z=>(fnt z).elim,fun z=>I2.ok.hd z,I2.ok.frames,.inl rfl,
   fun b hb=>⟨(fpo b hb).1,fun y c e=>(f2 b hb).2.2.2.2.1 y c (hcl.look e)⟩,fun b o e=>I3.bs b o e,Nat.le_trans I2.ok.bsz I3.sz,fun b o e hb=>?_,fun b hb=>(fpo b hb).2,I3.stack,I3.stkFree⟩
  ·have hy':(relN scope sc0).lookup y=some .cell\/(relN scope sc0).lookup y=some .free:=by
    rcases hy with hy | hy
    ·exact .inl ((rel y).symm.trans hy)
    ·exact .inr ((rel y).symm.trans hy)
   have hm:y ∈ cn:=by
    rcases hy' with q | q
    ·exact hok.has (y,.cell) (q285 q) (.inl rfl)
    ·exact hok.has (y,.free) (q285 q) (.inr rfl)
   exact q238 (cl:=cl) (n:=y) (by rw [hcn];exact hm)
  ·rcases (f2 b hb).2.2.2.1 with z | z
   ·exact I2.ok.noex b o e z
   ·exact absurd (Nat.lt_of_lt_of_le (Heap.lt_size e) (Nat.le_trans I2.ok.bsz z)) (Nat.lt_irrefl _)
 have I5:Inv (q59 X scope cl C x (TN++N) { s2 with heap:=h3 } H3 fp) [] (List.replicate (TN.length+1) none++fr.map fun j=>(σ[j]?).getD none) H3 { s2 with heap:=h4,toks:=s2.toks+([]:List (Str × Value)).length }:=by
  refine ⟨okX,rfl,I4.bare,Un.kept k34,⟨_,hns,fun i y v e1 e2 e3=>?_⟩,fun y c e=>I4.cell y c (hcl.look e),H3C,fun y c e=>I4.freeC y c (hcl.look e),fun p hp=>absurd (show p ∈ ([]:List (Addr × Obj)) from hp) (by simp),I4.hok,by simp [q59,lenF];omega⟩
  by_cases hiT:i < TN.length+1
  ·exfalso
   rw [List.getElem?_append_left (by rw [List.length_replicate];exact hiT),List.getElem?_replicate,if_pos hiT] at e2
   cases e2
  ·obtain ⟨j,rfl⟩:∃ j,i=TN.length+1+j:=⟨i - (TN.length+1),by omega⟩
   have e1':N[j]? = some y:=by
    have e1b:(x::(TN++N))[TN.length+1+j]? = some y:=e1
    rw [show TN.length+1+j=(TN.length+j)+1 by omega,List.getElem?_cons_succ,List.getElem?_append_right (by omega),show TN.length+j - TN.length=j by omega] at e1b
    exact e1b
   have e2':(fr.map fun j=>(σ[j]?).getD none)[j]? = some (some v):=by
    rw [List.getElem?_append_right (by rw [List.length_replicate];omega),List.length_replicate,show TN.length+1+j - (TN.length+1)=j by omega] at e2
    exact e2
   obtain ⟨k,ek⟩:∃ k,fr[j]? = some k:=by
    have:j < fr.length:=by rw [lenF];exact (List.getElem?_eq_some_iff.mp e1').1
    exact ⟨fr[j],List.getElem?_eq_getElem this⟩
   rw [List.getElem?_map,ek] at e2'
   have e2'':(σ[k]?).getD none=some v:=Option.some.inj e2'
   have eσ:σ[k]? = some (some v):=by
    cases q:σ[k]? with
    | none=>rw [q] at e2'';cases e2''
    | some o=>rw [q] at e2'';exact congrArg some e2''
   have eN:X.N[k]? = some y:=by
    have z:=congrArg (fun l=>l[j]?) hfr
    simp only [List.getElem?_map,ek,e1',Option.map_some] at z
    exact Option.some.inj z
   obtain ⟨r1,r2,r3⟩:=hok.frs y (List.mem_of_getElem? e1')
   obtain ⟨m,_,hl⟩:=I4.loc
   obtain ⟨u,ru,look⟩:=hl k y v eN eσ (.inr (.inl (by rw [hsc];exact r2)))
   refine ⟨u,ru,.inr ⟨.inl ((rel y).trans r1),?_⟩⟩
   rcases look with ⟨l1,_⟩ | ⟨_,c,l1,l2⟩
   ·exfalso
    have l1':X.env.scope.names.lookup y=some .local:=l1
    rw [hsc,r2] at l1'
    cases l1'
   ·obtain ⟨c',l3⟩:=q238 (cl:=cl) (n:=y) (by rw [hcn];exact r3)
    have l4:=hcl.look l3
    rw [l1] at l4
    cases l4
    exact ⟨c,l3,l2⟩
 have st4:tn 0 h4:=T.keep 0 s2.heap h4 st2 fun b hb o e=>k34 b o (k23 b o e)
 have fp5:∀ {H':Hp},(∀ b ∈ fp,H' b=none) -> ∀ b ∈ fp,FpOk (q59 X scope cl C x (TN++N) { s2 with heap:=h3 } H3 fp) [] H' b:=fun hn b hb=>
  ⟨hn b hb,(fpo b hb).1,(fpo b hb).2,.inl hb,fun y c e=>(f2 b hb).2.2.2.2.1 y c (hcl.look e),fun p hp=>absurd (show p ∈ ([]:List (Addr × Obj)) from hp) (by simp)⟩
 have fr3:∀ b ∈ fp,H3 b=none:=fun b hb=>by
  obtain ⟨o,e,_⟩:=T.obj 0 s2.heap st2 b hb
  have:b ≠ D:=Nat.ne_of_lt (hD ▸ Heap.lt_size e)
  rw [<- hH3,q31 this]
  exact (f2 b hb).1
 have fin:∀ (H6:Hp) (s6:Shared) (σ6:St),Inv (q59 X scope cl C x (TN++N) { s2 with heap:=h3 } H3 fp) [] σ6 H6 s6->Inv X pins σ H6 s6/\FpOk X pins H6 C:=by
  intro H6 s6 σ6 I6
  refine ⟨I3.call' (s':=s6) (ch:=fp) I6.os ⟨I6.base.keep,I6.base.slot,I6.base.free,I6.base.there,I6.base.tups,I6.base.frzs,I6.base.tbls⟩ I6.hok I6.bare (fun b hb=>?_),I3.fpOk (Nat.le_of_eq hC) I6.free⟩
  obtain ⟨_,n1,_,n3,n4,n5⟩:=f2 b hb
  exact ⟨n3,n1,n4,n5⟩
 have loop:codeAny (model X.prog X.w) X.A (.compLoop (.ListComp elt [⟨tg,iter,ifs,0⟩] scope pos) 0 (.ref it) (.ref D) (compEnvC scope cl C X.env))
   (RR (.ref D) C) { s2 with heap:=h4,toks:=s2.toks+([]:List (Str × Value)).length }:=by
  refine q531 (fun n s'=>∃ (i:Nat) (vs:St) (ys:List V) (H':Hp),vs.length=TN.length+1/\Inv (q59 X scope cl C x (TN++N) { s2 with heap:=h3 } H3 fp) [] (vs++fr.map fun j=>(σ[j]?).getD none) H' s'/\tn i s'.heap/\(∀ b ∈ fp,H' b=none)/\W i n ys H') ?_ m0
   ⟨0,List.replicate (TN.length+1) none,[],H3,by simp,I5,st4,fr3,w0⟩
  rintro n s6 ⟨i,vs,ys,H6,hvs,I6,st6,fr6,w6⟩
  obtain ⟨hDl,hw⟩:=turn i n ys H6 w6
  rcases hw with ⟨stop,qn⟩ | ⟨go,hlen,N',Z',hN',hZ',step⟩
  ·refine thn (T.done (q59 X scope cl C x (TN++N) { s2 with heap:=h3 } H3 fp) rfl rfl rfl hc i [] s6 _ H6 _ I6 (fp5 fr6) st6 stop) fun r s7 ⟨hr,I7⟩=>?_
   subst hr
   obtain ⟨m7,hn7,_⟩:=I7.loc
   obtain ⟨J7,F7⟩:=fin H6 s7 _ I7
   exact hRR C H6 s7 m7 hn7 J7 F7 qn
  ·refine thn (T.item (q59 X scope cl C x (TN++N) { s2 with heap:=h3 } H3 fp) rfl rfl rfl hc i [] s6 _ H6 _ I6 (fp5 fr6) st6 go) fun r s7 ⟨u,hr,h7⟩=>?_
   subst hr
   refine thn h7 fun _ s8 ⟨x8,H8,I8,r8,y8,st8,fr8⟩=>?_
   have I8':=I8.pinned (fp5 fr8) (T.obj _ _ st8)
   refine wpAny_mono (hgt C { s2 with heap:=h3 } H3 fp _ s8 _ H8 x8 u _ I8' r8 (step x8 H8 y8 vs hvs)) (fun _ s9 h9=>?_) fun _ _ z=>False.elim z
   obtain ⟨σ9,H9a,I9,⟨vs9,hl9,e9⟩,n9a⟩:=h9
   subst e9
   refine wpAny_mono (hct C { s2 with heap:=h3 } H3 fp _ s9 _ H9a _ I9 n9a) (fun okb s9b h9b=>?_) fun _ _ z=>False.elim z
   obtain ⟨H9,I9b,n9⟩:=h9b
   cases okb with
   | false=>
    rw [if_neg fnt] at n9 ⊢
    obtain ⟨m',hm,w9⟩:=hZ' _ n9
    refine ⟨m',hm,i+1,vs9,ys,_,hl9,I9b.unpinned,T.keep _ _ _ st8 fun b hb o e=>(I9b.pin (b,o) (List.mem_append_right _ (List.mem_append_right _ (q84 hb e)))).1,fun b hb=>?_,w9⟩
    obtain ⟨o,e,d⟩:=T.obj _ _ st8 b hb
    exact (I9b.pin (b,o) (List.mem_append_right _ (List.mem_append_right _ (q84 hb e)))).2.1
   | true=>
    rw [if_pos rfl] at n9 ⊢
    refine wpAny_mono (he C { s2 with heap:=h3 } H3 fp _ s9b _ H9 _ I9b n9) (fun y s10 h10=>?_) fun _ _ z=>False.elim z
    obtain ⟨y10,H10,I10,r10,n10⟩:=h10
    obtain ⟨hD10,m',hm,w10⟩:=hN' y10 H10 n10
    refine wpAny_mono (q69 (X:=q59 X scope cl C x (TN++N) { s2 with heap:=h3 } H3 fp) _ s10 _ H10 (.ref D) [y10] (.ref D) [y] (fun _ H'=>H'=upd H10 D (.lst (ys++[y10]))) I10 rfl (.cons r10 .nil) ⟨D,ys,y10,rfl,rfl,hD10,hlen,rfl⟩) (fun _ s11 h11=>?_) fun _ _ z=>False.elim z
    obtain ⟨_,H11,I11,_,e11⟩:=h11
    subst e11
    refine ⟨m',hm,i+1,vs9,ys++[y10],_,hl9,I11.unpinned,T.keep _ _ _ st8 fun b hb o e=>(I11.pin (b,o) (List.mem_append_right _ (List.mem_append_right _ (q84 hb e)))).1,fun b hb=>?_,w10⟩
    obtain ⟨o,e,d⟩:=T.obj _ _ st8 b hb
    exact (I11.pin (b,o) (List.mem_append_right _ (List.mem_append_right _ (q84 hb e)))).2.1
 exact codeAny_compStart_list loop (T.self _ 0 _ _ _ st4 loop)
theorem q318 {X:Cx} (hsc:X.env.scope=sc0) (h:(relN scope sc0).lookup x=some .local):(compEnvC scope cl C X.env).scope.names.lookup x=some .local:=by
 show (relabel scope X.env).names.lookup x=_
 rw [<- h]
 unfold relabel relN Env.kindOf
 rw [hsc]
theorem q363 {X:Cx} {elt iter:Expr} {x:Str} {px pos:Pos} {scope sc0:Scope} {cl:List (Str × Addr)} {cn N:List Str} {fr:List Nat} {te:TE} {pins:List (Addr × Obj)} {σ:St} {H2:Hp} {s2:Shared} {it:Addr} {fp:List Addr}
  {tn:Nat->Heap->Prop} {J:It} {RR:Value->Addr->Result->Shared->Prop} {R:Hp->Prop} {E:VS} {W:Nat->Nat->List V->Hp->Prop} {m0:Nat}
  (hc:X.calm=true) (he:∀ (C:Addr) (s₂:Shared) (H₂:Hp) (fp:List Addr),PE (q59 X scope cl C x N s₂ H₂ fp) elt te)
  (hcl:q90 X.env cl) (hcn:cl.map (·.1)=cn) (hsc:X.env.scope=sc0) (hk:scope.kind = .function) (hok:CompOk scope sc0 x N cn) (hfr:fr.map (fun j=>X.N[j]?)=N.map some)
  (I2:Inv X pins σ H2 s2) (T:Turn X.prog X.w X.K (.Name x px) J fp it tn) (st2:tn 0 s2.heap) (f2:∀ b ∈ fp,FpOk X pins H2 b)
  (w0:W 0 m0 [] (upd H2 s2.heap.objs.size (.lst [])))
  (turn:∀ i m ys H,W i m ys H->H s2.heap.objs.size=some (.lst ys)/\((J.stop i H/\R H)\/(J.go i H/\ys.length < sizeLine /\ ∃ N:V->Hp->Prop,
   (∀ y H3,N y H3->H3 s2.heap.objs.size=some (.lst ys) /\ ∃ m',m' < m/\W (i+1) m' (ys++[y]) (upd H3 s2.heap.objs.size (.lst (ys++[y])))) /\
   ∀ x H',J.yld i H x H'->te (some x::fr.map fun j=>(σ[j]?).getD none) H' N)))
  (hRR:∀ (C:Addr) (H6:Hp) (s6:Shared) (m6:Mg),s6.heap.Ns C m6->Inv X pins σ H6 s6->FpOk X pins H6 C->R H6->RR (.ref s2.heap.objs.size) C (.ok .next) s6) :
  wpAny (model X.prog X.w) X.A (newList []) (fun acc s₃=>wpAny (model X.prog X.w) X.A (newFunctionEnv scope X.env.globals cl [] X.env.qual none .none (some X.env)) (fun cenv s₄=>
   codeAny (model X.prog X.w) X.A (.compStart (.ListComp elt [⟨.Name x px,iter,[],0⟩] scope pos) 0 (.ref it) acc { cenv with scope:=relabel scope X.env }) (RR acc cenv.locals) s₄) E s₃) E s2:=by
 refine q185 (TN:=[]) (gt:=gName 0) (tt:=fun _ H Q=>Q true H) hc he (fun _ _ _ _=>q607) (fun _ _ _ _=>q183 hok.nd rfl (.inl ?_) (.inr ?_)) hcl hcn hsc hk ⟨hok.has,hok.nc,hok.names,hok.frs⟩ hfr I2 T st2 f2 w0 (fun i m ys H h=>?_) hRR
 ·exact q318 hsc hok.hx'
 ·exact q318 hsc hok.hx'
 obtain ⟨a,b⟩:=turn i m ys H h
 refine ⟨a,?_⟩
 rcases b with b | ⟨g,l,N,h1,h2⟩
 ·exact .inl b
 refine .inr ⟨g,l,N,fun _=>False,h1,fun _ z=>z.elim,fun x H' y vs hv=>?_⟩
 match vs,hv with
 | [v0],_=>exact ⟨⟨[some x],rfl,rfl⟩,iteT (h2 x H' y)⟩
theorem Inv.let_go {s:Shared} (I:Inv X pins σ H s) (F:FpOk X pins H C) (sb:Heap.SameBut C s.heap h'):Inv X pins σ H { s with heap:=h' }:=by
 obtain ⟨f0,f1,_,f3,f4,f5⟩:=F
 exact I.turned (t':=s.toks) (fun b o hb e=>(sb.2 b hb).trans e) f0 f1 f3 f4 f5
theorem q109 {X:Cx} {elt iter:Expr} {x:Str} {px pos:Pos} {scope sc0:Scope} {cl:List (Str × Addr)} {cn N:List Str} {fr:List Nat} {wi:TI} {te:TE}
  (hc:X.calm=true) (hi:PI X (.Name x px) iter wi) (he:∀ (C:Addr) (s₂:Shared) (H₂:Hp) (fp:List Addr),PE (q59 X scope cl C x N s₂ H₂ fp) elt te)
  (hclos:closureFor scope X.env=pure cl) (hcl:q90 X.env cl) (hcn:cl.map (·.1)=cn) (hsc:X.env.scope=sc0) (hk:scope.kind = .function) (hok:CompOk scope sc0 x N cn)
  (hfr:fr.map (fun j=>X.N[j]?)=N.map some) (hs:∀ v,foldedSetIterable iter X.env v=pure v:=by intro _;rfl) :
  PE X (.ListComp elt [⟨.Name x px,iter,[],0⟩] scope pos) (tComp wi te fr):=by
 intro pins s σ H Q I h
 rw [eval_ListComp]
 refine wpAny_comprehension_free (use:=none) rfl hs hclos hk hok.names (thn (hi pins s σ H _ I h) fun v s1 h1=>thn h1 fun itv s2 h2=>?_)
 obtain ⟨it,fp,tn,J,H2,e,I2,T,st2,f2,hq⟩:=h2
 subst e
 obtain ⟨W,⟨m0,w0⟩,turn⟩:=hq s2.heap.objs.size (I2.hok.fresh (Nat.le_refl _))
 exact q363 (RR:=fun acc C=>compPost (model X.prog X.w) X.A X.xe none (EP X pins σ Q) acc C) (R:=fun H6=>Q (.ref s2.heap.objs.size) H6) hc he hcl hcn hsc hk hok hfr I2 T st2 f2 w0 turn
  fun C H6 s6 m6 hn I6 F6 q=>⟨m6,hn,fun h' sb=>⟨.ref s2.heap.objs.size,H6,I6.let_go F6 sb,rfl,q⟩⟩
def tSetComp (i:Nat) (wi:TI) (te:TE) (fr:List Nat):TS:=fun D σ H=>tComp wi te fr σ H fun v H1=>D.nx (σ.set i (some v)) H1
theorem q532 {X:Cx} {i:Nat} {y:Str} {py spos:Pos} {elt iter:Expr} {x:Str} {px pos:Pos} {scope sc0:Scope} {cl:List (Str × Addr)} {cn N:List Str} {fr:List Nat} {wi:TI} {te:TE}
  (hN:X.N.Nodup) (hiN:X.N[i]? = some y) (hy:Loc X.env.scope y)
  (hc:X.calm=true) (hi:PI X (.Name x px) iter wi) (he:∀ (C:Addr) (s₂:Shared) (H₂:Hp) (fp:List Addr),PE (q59 X scope cl C x N s₂ H₂ fp) elt te)
  (hclos:closureFor scope X.env=pure cl) (hcl:q90 X.env cl) (hcn:cl.map (·.1)=cn) (hsc:X.env.scope=sc0) (hk:scope.kind = .function) (hok:CompOk scope sc0 x N cn)
  (hfr:fr.map (fun j=>X.N[j]?)=N.map some) (hsw:swapsWith (.ListComp elt [⟨.Name x px,iter,[],0⟩] scope pos) (some (.Name y py)) spos.line X.env=pure true)
  (hf:X.fn y=true\/X.env.scope.names.lookup y=some .local) (hs:∀ v,foldedSetIterable iter X.env v=pure v:=by intro _;rfl) :
  PS X (.Assign [.Name y py] (.ListComp elt [⟨.Name x px,iter,[],0⟩] scope pos) spos) (tSetComp i wi te fr):=by
 intro pins s σ H D I h
 rw [exec_Assign_Name_used _ _ _ _ hsw]
 refine wpAny_bind (wpAny_standAt (wpAny_bind ?_))
 show wpAny _ X.A (do let _ <- comprehension (.ListComp elt [⟨.Name x px,iter,[],0⟩] scope pos) scope X.env _ (newList []) false (eval iter X.env) (some (assign (.Name y py) X.env))) _ _ s
 refine wpAny_bind (wpAny_mono (wpAny_comprehension_free (use:=some (assign (.Name y py) X.env)) (Q:=fun _ s'=>SP X pins D .next s') rfl hs hclos hk hok.names
  (thn (hi pins s σ H _ I h) fun v s1 h1=>thn h1 fun itv s2 h2=>?_)) (fun _ s' hq=>wpAny_pure (wpAny_pure hq)) fun _ _ e=>e)
 obtain ⟨it,fp,tn,J,H2,e,I2,T,st2,f2,hq⟩:=h2
 subst e
 obtain ⟨W,⟨m0,w0⟩,turn⟩:=hq s2.heap.objs.size (I2.hok.fresh (Nat.le_refl _))
 refine q363 (RR:=fun acc C=>compPost (model X.prog X.w) X.A X.xe (some (assign (.Name y py) X.env)) (fun _ s'=>SP X pins D .next s') acc C) (R:=fun H6=>D.nx (σ.set i (some (.ref s2.heap.objs.size))) H6) hc he hcl hcn hsc hk hok hfr I2 T st2 f2 w0 turn
  fun C H6 s6 m6 hn I6 F6 q=>?_
 show wpAny _ X.A (assign (.Name y py) X.env (.ref s2.heap.objs.size)) _ _ _
 refine wpAny_assign_Name (q224 (v:=.ref s2.heap.objs.size) I6 hN hiN hy rfl (fun s7 I7 ⟨a,sb,ha⟩=>?_) hf)
 have neC:C ≠ a:=by
  rcases ha with ha | ha
  ·rw [ha];exact F6.2.1
  ·exact Ne.symm (F6.2.2.2.2.1 y a ha)
 exact ⟨m6,hn.sameBut sb neC,fun h' sb'=>⟨_,H6,I7.let_go F6 sb',q⟩⟩
theorem q186 {lo:Int} {n:Nat} {T:V->Hp->(V->Hp->Prop)->Prop} {D:Addr} {H1:Hp} {R:Hp->Prop} (hn:n<=sizeLine) (Pv:Nat->List V->Hp->Prop) (h0:Pv 0 [] (upd H1 D (.lst [])))
  (hD:∀ i ys H,Pv i ys H->H D=some (.lst ys)/\ys.length=i)
  (hs:∀ i ys H,i < n->Pv i ys H->T (.int (lo+i)) H fun y H3=>H3 D=some (.lst ys)/\Pv (i+1) (ys++[y]) (upd H3 D (.lst (ys++[y]))))
  (hd:∀ ys H,Pv n ys H->R H) :
  ∃ W:Nat->Nat->List V->Hp->Prop,(∃ m,W 0 m [] (upd H1 D (.lst []))) /\
   ∀ i m ys H2,W i m ys H2->H2 D=some (.lst ys)/\(((Itr lo n).stop i H2/\R H2)\/((Itr lo n).go i H2/\ys.length < sizeLine /\ ∃ N:V->Hp->Prop,(∀ y H3,N y H3->H3 D=some (.lst ys) /\ ∃ m',m' < m/\W (i+1) m' (ys++[y]) (upd H3 D (.lst (ys++[y])))) /\
    ∀ x H',(Itr lo n).yld i H2 x H'->T x H' N)):=by
 refine ⟨fun i m ys H=>m=n - i/\i<=n/\Pv i ys H,⟨n,by simp,Nat.zero_le _,h0⟩,?_⟩
 rintro i m ys H2 ⟨rfl,hi,p⟩
 obtain ⟨d1,d2⟩:=hD i ys H2 p
 refine ⟨d1,?_⟩
 by_cases hlt:i < n
 ·refine .inr ⟨hlt,by omega,fun y H3=>H3 D=some (.lst ys)/\Pv (i+1) (ys++[y]) (upd H3 D (.lst (ys++[y]))),fun y H3 ⟨z1,z2⟩=>⟨z1,n - (i+1),by omega,rfl,hlt,z2⟩,fun x H' y=>?_⟩
  obtain ⟨e,y⟩:=y
  subst e y
  exact hs i ys _ hlt p
 ·have e:i=n:=by omega
  subst e
  exact .inl ⟨Nat.le_refl _,hd ys H2 p⟩
theorem comp_tup {K:Fg} {a:Addr} {xs:List V} {T:V->Hp->(V->Hp->Prop)->Prop} {D:Addr} {H1:Hp} {R:Hp->Prop} (hn:xs.length<=sizeLine) (Pv:Nat->List V->Hp->Prop) (h0:Pv 0 [] (upd H1 D (.lst [])))
  (hl:∀ i ys H,Pv i ys H->SqT K H a xs) (hD:∀ i ys H,Pv i ys H->H D=some (.lst ys)/\ys.length=i)
  (hs:∀ i x ys H,xs[i]? = some x->Pv i ys H->T x H fun y H3=>H3 D=some (.lst ys)/\Pv (i+1) (ys++[y]) (upd H3 D (.lst (ys++[y]))))
  (hd:∀ ys H,Pv xs.length ys H->R H) :
  ∃ W:Nat->Nat->List V->Hp->Prop,(∃ m,W 0 m [] (upd H1 D (.lst []))) /\
   ∀ i m ys H2,W i m ys H2->H2 D=some (.lst ys)/\(((Itt K a).stop i H2/\R H2)\/((Itt K a).go i H2/\ys.length < sizeLine /\ ∃ N:V->Hp->Prop,(∀ y H3,N y H3->H3 D=some (.lst ys) /\ ∃ m',m' < m/\W (i+1) m' (ys++[y]) (upd H3 D (.lst (ys++[y])))) /\
    ∀ x H',(Itt K a).yld i H2 x H'->T x H' N)):=by
 refine ⟨fun i m ys H=>m=xs.length - i/\i<=xs.length/\Pv i ys H,⟨xs.length,by simp,Nat.zero_le _,h0⟩,?_⟩
 rintro i m ys H2 ⟨rfl,hi,p⟩
 obtain ⟨d1,d2⟩:=hD i ys H2 p
 have q:=hl i ys H2 p
 refine ⟨d1,?_⟩
 by_cases hlt:i < xs.length
 ·refine .inr ⟨⟨xs,xs[i],q,by simp [hlt]⟩,by omega,fun y H3=>H3 D=some (.lst ys)/\Pv (i+1) (ys++[y]) (upd H3 D (.lst (ys++[y]))),fun y H3 ⟨z1,z2⟩=>⟨z1,xs.length - (i+1),by omega,rfl,hlt,z2⟩,fun x H' y=>?_⟩
  obtain ⟨e,y⟩:=y
  subst e
  exact hs i x ys _ (y xs q) p
 ·have e:i=xs.length:=by omega
  subst e
  exact .inl ⟨⟨xs,q,Nat.le_refl _⟩,hd ys H2 p⟩
end L2
namespace HT
set_option autoImplicit false
open PySem PySem.Spec PyProof.Rows
section
variable {prog:Program} {w:World} {A:Around} {E:VS} {s:Shared}
theorem q533 {t sl:Addr} {items:Array Value} {vl vu:Value} {lo hi:Option Int} {Q:VS} (ht:IsTup s.heap t items) (hs:s.heap.IsSliceOf sl vl vu .none) (pl:IsPart vl lo) (pu:IsPart vu hi)
  (h0:sIx items.size 0 lo=0) (h1:sIx items.size items.size hi=items.size) (h:Q (.ref t) s):wpAny (model prog w) A (getItem (.ref t) (.ref sl)) Q E s:=by
 obtain ⟨os,hos,hcs,hds⟩:=id hs
 have hTs:s.TypeIs (.ref sl) "slice" := ⟨os,hos,hcs⟩
 have hT:s.TypeIs (.ref t) "tuple" := ht.typeIs
 unfold getItem
 try with_reducible refine wpAny_holding ?_
 first | refine wpAny_bind (wpAny_pure ?_) | skip
 refine wpAny_bind (wpAny_sequenceKey ht.typeIs (by decide) ?_)
 refine wpAny_bind (wpAny_callSpecial?_slot (name:=Str.ofString "__getitem__") ht.typeIs PyProof.Rows.slot_tuple_getitem
  (wpAny_call_entry PyProof.Rows.slot_tuple_getitem ht.typeIs entry_tuple_getitem ?_ (args_tuple_getitem _ _)))
 show wpAny _ _ (Builtin.Tuple.tupleItemsOf (.ref t) >>= _) _ _ s
 refine wpAny_bind (tupleItemsOf_ ht ?_)
 refine wpAny_bind (wpAny_typeOf hTs ?_)
 rw [if_pos (by decide)]
 refine wpAny_bind (q118 hs pl pu ?_)
 have hyes:((((sIx items.size 0 lo:Nat):Int) == 0 && (1:Int) == 1 && (sIx items.size items.size hi - sIx items.size 0 lo) == items.size)=true):=by
  rw [h0,h1];simp
 show wpAny _ _ (if (((sIx items.size 0 lo:Nat):Int) == 0 && (1:Int) == 1 && (sIx items.size items.size hi - sIx items.size 0 lo) == items.size)=true then _ else _) _ _ s
 rw [if_pos hyes]
 first
  | exact wpAny_bind (wpAny_typeOf hT (wpAny_pure ⟨_,rfl,wpAny_pure h⟩))
  | exact wpAny_pure ⟨_,rfl,wpAny_pure h⟩
  | exact wpAny_bind (wpAny_pure ⟨_,rfl,wpAny_pure h⟩)
  | (wp_walk;exact ⟨_,rfl,wpAny_pure h⟩)
  | (wp_walk;exact ⟨_,rfl,h⟩)
end
end HT
namespace L2
open PySem PySem.Spec PyProof.Rows
variable {X:Cx}
def TupF (H:Hp) (a:Addr) (xs:List V):Prop:=∃ o:Obj,H a=some (.frz o (.tup xs))/\o.cls = .type "tuple" /\ o.dict=none
theorem TupF.sq {K:Fg} {H:Hp} {a:Addr} {xs:List V} (h:TupF H a xs):SqT K H a xs:=by
 obtain ⟨o,h,_⟩:=h
 exact .inl (.inr ⟨o,h⟩)
theorem TupF.same (h:TupF H a xs) (s:Same H H'):TupF H' a xs:=by
 obtain ⟨o,h,c⟩:=h
 exact ⟨o,s _ _ h,c⟩
section
theorem q91:CallR X (.type "tuple") (fun xs H Q=>∃ p ys,xs=[.ref p]/\SqL X.K H p ys /\ ∀ l H',Same H H'->TupF H' l ys->Q (.ref l) H'):=by
 intro pins s σ H xs us Q I r h
 obtain ⟨p,ys,rfl,hq,q⟩:=h
 obtain ⟨u,rfl,rx⟩:=vals1 r
 cases rx
 obtain ⟨its,r',pl,hz⟩:=I.list hq
 have hlen:=r'.length
 refine call_tuple_list pl.isList (fun h' kp=>?_) (by simp only [List.size_toArray] <;> omega)
 have I1:Inv X pins σ H { s with heap:=h' }:=I.kept (t':=s.toks) kp
 have I2:Inv X pins σ (upd H h'.objs.size (.frz { cls:=.type "tuple", data:=.seq its.toArray } (.tup ys))) { s with heap:=h'.push { cls:=.type "tuple", data:=.seq its.toArray } }:=
  I1.laid (t':=s.toks) (fun b o e=>Heap.get?_push_of_some _ e) (Nat.le_refl _) (show ObjOk X.prog X.w _ _ _ (.frz _ (.tup ys)) from ⟨Heap.get?_push_size _ rfl,hz,its,r',IsTup.new _ _⟩)
 exact ⟨.ref h'.objs.size,_,I2,rfl,q _ _ (q16 (I1.hok.fresh (Nat.le_refl _)) _) ⟨_,q14,rfl,rfl⟩⟩
theorem cutV_all {xs:List V} {lo hi:Option Int} (h0:HT.sIx xs.length 0 lo=0) (h1:HT.sIx xs.length xs.length hi=xs.length):cutV xs lo hi=xs:=by
 unfold cutV
 rw [h0,h1,List.drop_zero,Nat.sub_zero,List.take_length]
theorem q126:SlR X (fun x lo hi H Q=>∃ a xs,x = .ref a/\TupF H a xs /\ ∀ p H',Same H H'->TupF H' p (cutV xs lo hi)->Q (.ref p) H'):=by
 intro pins s σ H x v vl vu lo hi sl Q I rx hs pl pu h
 obtain ⟨a,xs,rfl,hx,q⟩:=h
 cases rx
 obtain ⟨its,r,ht,hz⟩:=I.tuple (hx.sq (K:=X.K))
 have hlen:its.toArray.size=xs.length:=by rw [List.size_toArray];exact r.length.symm
 refine ⟨"tuple", _,PyProof.Rows.slot_tuple_getitem.lookup,ht.typeIs,?_⟩
 by_cases hw:HT.sIx xs.length 0 lo=0/\HT.sIx xs.length xs.length hi=xs.length
 ·refine HT.q533 ht hs pl pu (by rw [hlen];exact hw.1) (by rw [hlen];exact hw.2) ⟨.ref a,H,I,rfl,q a H (Same.refl H) ?_⟩
  rw [cutV_all hw.1 hw.2]
  exact hx
 ·refine HT.q528 ht hs pl pu (by rw [hlen];exact hw) ?_ (by rw [hlen];exact hz)
  rw [hlen]
  refine ⟨.ref s.heap.objs.size,_,I.laid (t':=s.toks) (o:=.frz { cls:=.type "tuple", data:=.seq ((its.toArray.toList.drop (HT.sIx xs.length 0 lo)).take (HT.sIx xs.length xs.length hi - HT.sIx xs.length 0 lo)).toArray } (.tup (cutV xs lo hi))) (fun b ob q=>Heap.get?_push_of_some _ q) (Nat.le_refl _) ?_,rfl,
   q _ _ (q16 (I.hok.fresh (Nat.le_refl _)) _) ⟨_,q14,rfl,rfl⟩⟩
  exact ⟨Heap.get?_push_size _ rfl,Nat.le_trans (q232 xs lo hi) hz,_,(r.drop (HT.sIx xs.length 0 lo)).take (HT.sIx xs.length xs.length hi - HT.sIx xs.length 0 lo),IsTup.new _ _⟩
theorem q286 {x:V}:∀ {xs:List V} {us:List Value},Vals xs us->xs.all flatV=true->us.countP (eqU x)=xs.countP fun y=>eqV y x
 | _,_,.nil,_=>rfl
 | y::xs,u::us,.cons r t,f=>by
  rw [List.all_cons,Bool.and_eq_true] at f
  rw [List.countP_cons,List.countP_cons,eqU_of r f.1,q286 t f.2]
theorem q608:MtR X "tuple.count" (fun x xs H Q=>∃ a ys v,x = .ref a/\xs=[v]/\SqT X.K H a ys/\flatV v=true/\ys.all flatV=true/\Q (.int (ys.countP fun y=>eqV y v:Nat)) H):=by
 intro pins s σ H x xs v us Q I rx rv h
 obtain ⟨a,ys,y,rfl,rfl,ha,f1,f2,q⟩:=h
 cases rx
 obtain ⟨u,rfl,ru⟩:=rv.one
 obtain ⟨its,r,p,hz⟩:=I.tuple ha
 obtain ⟨⟨cls,dd,data,sl⟩,ho,hc,n,hd⟩:=id p
 simp only at hc hd
 subst hc hd
 refine call_meets F.slot_tuple_count ⟨_,ho,rfl⟩ F.entry_tuple_count (F.args_tuple_count_2 _ _) (SeqAt.tuple_countAt a its.toArray n dd sl u (eqU y)) ⟨ho,fun z hz=>q478 ru f1 r f2 z (by simpa using hz),?_⟩
 refine ⟨.int (ys.countP fun y'=>eqV y' y:Nat),H,I.tok _,?_,q⟩
 rw [<- q286 r f2]
 exact ⟨_,rfl⟩
def tBMF (T:String) (r:V->List V->Hp->VK->Prop) (to:TE) (t:TA):TE:=fun σ H Q=>to σ H fun x H1=>(∃ a o u,x = .ref a/\H1 a=some (.frz o u)/\o.cls = .type T/\o.dict=none)/\t σ H1 fun xs H2=>r x xs H2 Q
variable {o e:Expr} {es:List Expr} {to:TE} {t:TA} {name:Str} {apos cpos:Pos} {T id:String} {r:V->List V->Hp->VK->Prop}
theorem pe_bmF (pa:PlainAttrs T) (slot:Slot T name id) (hty:typeOf (.builtin id)=pure (.type "method_descriptor")) (hm:MtR X id r) (ho:PE X o to) (ha:PA X (e::es) t)
  (hbase:attributeBase o name X.env (eval o X.env)=eval o X.env:=by rfl)
  (hfew:((backTo cpos (starEach (e::es) X.env)).all (fun x=>!x.1) && (backToKw cpos (keywordEach [] X.env)).all (fun x=>x.1.isSome)
   && decide ((e::es).length+([]:List Keyword).length+(if ([]:List Keyword).isEmpty then 0 else 1) < 30))=true:=by rfl)
  (hline:(apos.endLine == cpos.line)=true:=by rfl) (hs:starEach (e::es) X.env=(false,eval e X.env)::starEach es X.env:=by rfl) (hplain:(backTo cpos (starEach es X.env)).any (·.1)=false:=by rfl) :
  PE X (.Call (.Attribute o name apos) (e::es) [] cpos) (tBMF T r to t):=by
 intro pins s σ H Q I h
 refine wpAny_Call_method_late hbase hfew hline rfl (thn (ho pins s σ H _ I h) fun v s1 ⟨x,H1,I1,r1,ty,q1⟩=>?_)
 obtain ⟨a,ob,u,rfl,hH,hc,hd⟩:=ty
 cases r1
 obtain ⟨hg,_⟩:=I1.hok a _ hH
 refine ⟨T,id,pa,slot,hty,⟨ob,hg,hc⟩,fun b eb=>?_,?_⟩
 ·cases eb
  exact ⟨ob,hg,hd⟩
 have hA:=ha cpos pins s1 σ H1 _ I1 q1
 rw [hs] at hA ⊢
 refine Calls.callWith_builtin (by show (false || (backTo cpos (starEach es X.env)).any (·.1))=false;rw [hplain] <;> rfl) (Calls.evalArgs_plain ?_)
 exact thn hA fun us s2 ⟨vs,H2,I2,r2,q2⟩=>hm pins s2 σ H2 (.ref a) vs (.ref a) us Q I2 rfl r2 q2
end
theorem op_neL (hu:X.A.units+64 < cLine):OpR X (compareOp .NotEq) (fun x y H Q=>∃ (a b:Addr) (ns ms:List Int),x = .ref a/\y = .ref b/\SqL X.K H a (ns.map V.int)/\SqL X.K H b (ms.map V.int)/\Q (.bl (!decide (ns=ms))) H):=by
 intro pins s σ H x y v u Q I rx ry h
 obtain ⟨a,b,ns,ms,rfl,rfl,ha,hb,q⟩:=h
 cases rx
 cases ry
 obtain ⟨its,r1,p1,_⟩:=I.list ha
 obtain ⟨its2,r2,p2,_⟩:=I.list hb
 exact PySem.W.ke_ne_ints p1.isList p2.isList (q85 r1) (q85 r2) hu ⟨.bl _,H,I,rfl,q⟩
def Exc (n:Nat) (h:Heap) (x:Addr) (cls:Value) (dd:Option Addr) (fl:Value):Prop:=
 ∃ (oe:Obj) (vs:Array Value) (T:Addr) (oT:Obj) (ts:Array Value),(h.get? x=some oe/\oe.cls=cls/\oe.dict=dd/\oe.data = .fields vs/\vs[1]? = some (.ref T)) /\
  (n<=T/\T ≠ x)/\h.get? T=some oT/\oT.data = .fields ts/\ts[3]? = some fl
structure Fly (n:Nat) (fs:List Addr) (x:Addr) (h h':Heap):Prop where
 keep:∀ b o,h.get? b=some o->b < n->b ≠ x->b ∉ fs->h'.get? b=some o
 slot:∀ b o,h.get? b=some o->b ∈ fs -> ∃ sl,h'.get? b=some { o with slots:=sl }
 there:∀ b o,h.get? b=some o -> ∃ o',h'.get? b=some o'
structure Out (P:Program) (w:World) (outer:List Env) (H:Hp) (s:Shared) (x:Addr) (cls:Value) (dd:Option Addr) (n:Nat) (H':Hp) (fl:Value) (s':Shared):Prop where
 os:s'.os=s.os
 bare:AllBare s'.gens
 un:Un (frs outer) [] H H' s.heap s'.heap
 hok:HOk P w H' s'.heap
 exc:Exc n s'.heap x cls dd fl
 free:H' x=none
 new:s.heap.get? x=none
 old:s.heap.objs.size<=n
 low:∀ b u,H' b=some u->b < n
def CX1 (P:Program) (w:World):CXT:=fun outer H s E e s'=>∃ (x:Addr) (cls:Value) (dd:Option Addr) (n:Nat) (H':Hp),e = .ref x/\Out P w outer H s x cls dd n H' .none s'/\E cls dd H'
section
variable {pins:List (Addr × Obj)} {σ:St} {H H':Hp} {s s':Shared} {x:Addr} {cls fl:Value} {dd:Option Addr} {n:Nat}
structure Away (X:Cx) (pins:List (Addr × Obj)) (σ:St) (H:Hp) (s:Shared) (x:Addr) (cls:Value) (dd:Option Addr) (n:Nat) (fl:Value):Prop where
 inv:Inv X pins σ H s
 exc:Exc n s.heap x cls dd fl
 free:H x=none
 new:X.s₀.heap.get? x=none
 old:X.s₀.heap.objs.size<=n
 low:∀ b u,H b=some u->b < n
 loc:X.env.locals < n
end
structure Lv (X:Cx) (E:XK):Prop where
 xe:X.xe=fun e s'=>wpAny (model X.prog X.w) X.A (leaving X.env e) (fun _ s''=>CX1 X.prog X.w X.outer X.H₀ X.s₀ E e s'') (fun e' s''=>CX1 X.prog X.w X.outer X.H₀ X.s₀ E e' s'') s'
 ex:X.ex=[]
 stack:X.stack=X.env::X.outer
 frame:X.env.frame=some X.env.locals
 calm:X.calm=true
structure ECls (K:Fg) (C:Addr):Prop where
 ga:PySem.W.findIn K (.ref C) "__getattribute__" = some (some (.builtin "BaseException.__getattribute__"))
 gh:PySem.W.findIn K (.ref C) "__getattr__" = some none
 sb:PySem.W.subIn K (.ref C) (.type "BaseException")=some true
 cl:PySem.W.isClsIn K C=true
 fi:PySem.W.findIn K (.ref C) "__class__" = some (some (.builtin "object.__class__"))
 sp:PySem.W.specialIn K (.builtin "object.__class__") "__get__" = some (some (.builtin "getset_descriptor.__get__"))
 tk:PySem.W.takesIn K (.builtin "object.__class__")=some true
 mr:PySem.W.mroIn K C (.type "object")=some true
inductive ClsV:V->Value->Prop where
 | own (D:Addr):ClsV (.ref D) (.ref D)
 | ty (T:String):ClsV (.ty T) (.type T)
section
variable {prog:Program} {w:World} {A:Around} {E:VS} {s:Shared}
theorem q534 {i:Nat} (a1:s.heap.IsTupleIter ia tp i) (a2:s.heap.IsTuple tp us) (a3:us[i]? = some u)
  (k:∀ h',h'.IsTupleIter ia tp (i+1)->Heap.SameBut ia s.heap h'->Q u { s with heap:=h' }):wpAny (model prog w) A (Builtin.SmallTypes.nextOf (.ref ia)) Q E s:=by
 obtain ⟨o,b1,b2,b3⟩:=id a1
 obtain ⟨ot,c1,_,nt,c2⟩:=a2
 unfold Builtin.SmallTypes.nextOf
 refine wpAny_bind (wpAny_callSpecial?_slot (name:=Str.ofString "__next__") a1.typeIs F.slot_tuple_iterator_next (wpAny_call_entry F.slot_tuple_iterator_next a1.typeIs F.entry_tuple_iterator_next ?_ (F.args_tuple_iterator_next_1 _)))
 show wpAny _ _ (field (.ref ia) 0 >>= _) _ _ s
 refine wpAny_bind (wpAny_field b1 b3 (x:=.ref tp) rfl ?_)
 show wpAny _ _ (if (Value.ref tp == Value.none)=true then _ else _) _ _ s
 rw [if_neg (show ¬ ((Value.ref tp == Value.none)=true) from fnt)]
 show wpAny _ _ (field (.ref ia) 1 >>= _) _ _ s
 refine wpAny_bind (wpAny_field b1 b3 (x:=.int i 0) rfl ?_)
 show wpAny _ _ (seqItems? (.ref tp) >>= _) _ _ s
 refine wpAny_bind (wpAny_seqItems c1 c2 ?_)
 simp only [Int.toNat_natCast,a3]
 refine wpAny_bind (wpAny_setField b1 b3 (by simp) (wpAny_pure ⟨u,rfl,wpAny_pure (k _ ?_ (Heap.SameBut.update ..))⟩))
 exact ⟨_,Heap.get?_update_self _ b1 (Obj.isFreed_of_fields (Obj.data_mapFields b3 _)),(Obj.cls_mapFields ..).trans b2,by rw [Obj.data_mapFields b3];simp [rawInt]⟩
theorem q609 {i:Nat} {Q:VS} (hh:A.handled=none) (a1:s.heap.IsTupleIter ia tp i) (a2:s.heap.IsTuple tp us) (a3:us[i]? = none)
  (k:∀ h' x,Heap.ExtBut ia s.heap h'->(∃ o,h'.get? x=some o/\o.cls = .type "StopIteration")->E (.ref x) { s with heap:=h' }):wpAny (model prog w) A (Builtin.SmallTypes.nextOf (.ref ia)) Q E s:=by
 obtain ⟨o,b1,b2,b3⟩:=id a1
 obtain ⟨ot,c1,_,nt,c2⟩:=a2
 unfold Builtin.SmallTypes.nextOf
 refine wpAny_bind (wpAny_callSpecial?_slot (name:=Str.ofString "__next__") a1.typeIs F.slot_tuple_iterator_next (wpAny_call_entry F.slot_tuple_iterator_next a1.typeIs F.entry_tuple_iterator_next ?_ (F.args_tuple_iterator_next_1 _)))
 show wpAny _ _ (field (.ref ia) 0 >>= _) _ _ s
 refine wpAny_bind (wpAny_field b1 b3 (x:=.ref tp) rfl ?_)
 show wpAny _ _ (if (Value.ref tp == Value.none)=true then _ else _) _ _ s
 rw [if_neg (show ¬ ((Value.ref tp == Value.none)=true) from fnt)]
 show wpAny _ _ (field (.ref ia) 1 >>= _) _ _ s
 refine wpAny_bind (wpAny_field b1 b3 (x:=.int i 0) rfl ?_)
 show wpAny _ _ (seqItems? (.ref tp) >>= _) _ _ s
 refine wpAny_bind (wpAny_seqItems c1 c2 ?_)
 simp only [Int.toNat_natCast,a3]
 refine wpAny_bind (wpAny_rule (wpAny_bind (wpAny_setField b1 b3 (by simp) ?_)))
 show wpAny _ _ (newExc (.type "StopIteration") [] >>= fun _=>_) _ _ _
 refine wpAny_bind ?_
 simp only [newExc,newTuple]
 refine wpAny_bind (wpAny_newObj_type ?_ (by size_fits))
 refine wpAny_bind (m:=firstArgMember _ _) (wpAny_of_eq (a:=Value.none) (by first | rfl | simp [firstArgMember]) (wpAny_newObj_type ?_ (by size_fits)))
 simp only [raiseNew]
 refine wpAny_bind (wpAny_handled ?_)
 first | rw [show A.in1.handled=none from hh] | (rw [hh];skip)
 exact wpAny_bind (wpAny_pure (wpAny_throw (k _ _ (((Heap.SameBut.update ..).extBut.push _).push _) ⟨_,Heap.get?_push_size _ rfl,rfl⟩)))
theorem q535 {i:Nat} {Q:Option Value->Shared->Prop} (e0:IsEnum s.heap en ia i was) (a1:s.heap.IsTupleIter ia tp i) (a2:s.heap.IsTuple tp us) (a3:us[i]? = some u) (ne:en ≠ ia)
  (k:∀ h',IsEnumOut h' en ia ((i:Int)+1) u s.heap.objs.size->h'.IsTupleIter ia tp (i+1)->h'.get? s.heap.objs.size=some { cls:=.type "tuple", data:=.seq #[.int i s.toks,u] } ->
   (∀ b o,b ≠ en->b ≠ ia->s.heap.get? b=some o->h'.get? b=some o)->Q (some (.ref s.heap.objs.size)) { s with heap:=h',toks:=s.toks+1 }) :
  wpAny (model prog w) A (pyNext (.ref en)) Q E s:=by
 have ty:s.TypeIs (.ref en) "enumerate" := ⟨_,e0,rfl⟩
 unfold pyNext
 refine wpAny_bind (wpAny_attempt (wpAny_callSpecial?_slot (name:=Str.ofString "__next__") ty F.slot_enumerate_next (wpAny_call_entry F.slot_enumerate_next ty F.entry_enumerate_next ?_ (F.args_enumerate_next_1 _))))
 obtain ⟨h0,g,d,tk,os⟩:=s
 show wpAny _ _ (field (.ref en) 2 >>= _) _ _ _
 refine wpAny_bind (wpAny_field e0 rfl (x:=.ref ia) rfl (wpAny_bind (q534 a1 a2 a3 fun h1 n1 s1=>?_)))
 replace s1:Heap.SameBut ia h0 h1:=s1
 have e1:IsEnum h1 en ia i was:=(s1.2 en ne).trans e0
 show wpAny _ _ (field (.ref en) 3 >>= _) _ _ ⟨h1,g,d,tk,os⟩
 refine wpAny_bind (wpAny_field e1 rfl (x:=rawInt i) rfl ?_)
 show wpAny _ _ (field (.ref en) 4 >>= _) _ _ ⟨h1,g,d,tk,os⟩
 refine wpAny_bind (wpAny_field e1 rfl (x:=.none) rfl ?_)
 show wpAny _ _ (mkInt i >>= _) _ _ ⟨h1,g,d,tk,os⟩
 refine wpAny_bind (wpAny_mkInt ?_)
 show wpAny _ _ (setField (.ref en) 3 (rawInt ((i:Int)+1)) >>= _) _ _ ⟨h1,g,d,tk+1,os⟩
 refine wpAny_bind (wpAny_setField_rec e1 (by simp) fun h2 e2 s2=>?_)
 replace s2:Heap.SameBut en h1 h2:=s2
 replace e2:IsEnum h2 en ia ((i:Int)+1) was:=e2
 show wpAny _ _ (setField (.ref en) 4 .none >>= _) _ _ ⟨h2,g,d,tk+1,os⟩
 refine wpAny_bind (wpAny_setField_rec e2 (by simp) fun h3 e3 s3=>?_)
 replace s3:Heap.SameBut en h2 h3:=s3
 replace e3:IsEnum h3 en ia ((i:Int)+1) was:=e3
 show wpAny _ _ (newTuple [.int i tk,u] >>= _) _ _ ⟨h3,g,d,tk+1,os⟩
 refine wpAny_bind (wpAny_newTuple ?_)
 have z3:h3.objs.size=h0.objs.size:=by rw [s3.1,s2.1,s1.1]
 have l0:en < h0.objs.size:=Heap.lt_size e0
 have ni:ia ≠ en:=Ne.symm ne
 generalize hh4:h3.push { cls:=.type "tuple", data:=.seq #[.int i tk,u] }=h4
 have e4:IsEnum h4 en ia ((i:Int)+1) was:=by rw [<- hh4];exact Heap.get?_push_of_some _ e3
 have t4:h4.get? h0.objs.size=some { cls:=.type "tuple", data:=.seq #[.int i tk,u] }:=by rw [<- hh4,<- z3];exact Heap.get?_push_size _ rfl
 have k4:∀ b o,b ≠ en->b ≠ ia->h0.get? b=some o->h4.get? b=some o:=fun b o m1 m2 q=>by
  rw [<- hh4]
  exact Heap.get?_push_of_some _ (s3.extBut b o m1 (s2.extBut b o m1 (s1.extBut b o m2 q)))
 have n4:h4.IsTupleIter ia tp (i+1):=by
  rw [<- hh4]
  obtain ⟨o,q,r⟩:=(n1.extBut s2.extBut ni).extBut s3.extBut ni
  exact ⟨o,Heap.get?_push_of_some _ q,r⟩
 show wpAny _ _ (Builtin.SmallTypes.ownedTupleIsFree (.ref en) >>= _) _ _ ⟨h4,g,d,tk+1,os⟩
 rw [z3]
 clear hh4
 refine wpAny_bind ?_
 unfold Builtin.SmallTypes.ownedTupleIsFree
 refine wpAny_bind (wpAny_field e4 rfl (x:=.none) rfl (wpAny_pure ?_))
 simp only [if_true]
 refine wpAny_bind (wpAny_rule (wpAny_bind (wpAny_field e4 rfl (x:=was) rfl (wpAny_bind (wpAny_setField_rec e4 (by simp) fun h5 e5 s5=>?_)))))
 replace s5:Heap.SameBut en h4 h5:=s5
 replace e5:IsEnum h5 en ia ((i:Int)+1) u:=e5
 show wpAny _ _ (Builtin.SmallTypes.ownedTupleHandOut (.ref en) (.ref h0.objs.size) >>= _) _ _ ⟨h5,g,d,tk+1,os⟩
 refine wpAny_bind ?_
 unfold Builtin.SmallTypes.ownedTupleHandOut
 refine wpAny_bind (wpAny_setField_rec e5 (by simp) fun h6 e6 s6=>?_)
 replace s6:Heap.SameBut en h5 h6:=s6
 replace e6:IsEnumOut h6 en ia ((i:Int)+1) u h0.objs.size:=e6
 refine wpAny_setField_rec e6 (by simp) fun h7 e7 s7=>?_
 replace s7:Heap.SameBut en h6 h7:=s7
 replace e7:IsEnumOut h7 en ia ((i:Int)+1) u h0.objs.size:=e7
 have up:∀ b o,b ≠ en->h4.get? b=some o->h7.get? b=some o:=fun b o m q=>s7.extBut b o m (s6.extBut b o m (s5.extBut b o m q))
 refine wpAny_bind (wpAny_letGo (wpAny_pure ⟨_,rfl,wpAny_pure (k h7 e7 ?_ (up _ _ (Nat.ne_of_gt l0) t4) fun b o m1 m2 q=>up b o m1 (k4 b o m1 m2 q))⟩))
 obtain ⟨o,q,r⟩:=n4
 exact ⟨o,up _ _ ni q,r⟩
theorem q610 {i:Nat} (hh:A.handled=none) (e0:IsEnum s.heap en ia i was) (a1:s.heap.IsTupleIter ia tp i) (a2:s.heap.IsTuple tp us) (a3:us[i]? = none)
  (k:∀ h',Heap.ExtBut ia s.heap h'->Q none { s with heap:=h' }):wpAny (model prog w) A (pyNext (.ref en)) Q E s:=by
 have ty:s.TypeIs (.ref en) "enumerate" := ⟨_,e0,rfl⟩
 unfold pyNext
 refine wpAny_bind (wpAny_attempt (wpAny_callSpecial?_slot (name:=Str.ofString "__next__") ty F.slot_enumerate_next (wpAny_call_entry F.slot_enumerate_next ty F.entry_enumerate_next ?_ (F.args_enumerate_next_1 _))))
 show wpAny _ _ (field (.ref en) 2 >>= _) _ _ _
 refine wpAny_bind (wpAny_field e0 rfl (x:=.ref ia) rfl (wpAny_bind (q609 hh a1 a2 a3 fun h' x q1 q2=>?_)))
 obtain ⟨o,o1,o2⟩:=q2
 exact wpAny_bind (wpAny_isInstance (T := "StopIteration") (b:=true) ⟨o,o1,o2⟩ isSubtype_stop (wpAny_pure (k _ q1)))
end
noncomputable def Ite (K:Fg) (a:Addr):It:=
 ⟨fun i H=>∃ xs x,SqT K H a xs/\xs[i]? = some x,fun i H x H'=>∃ p y,x = .ref p/\H p=none/\H'=upd H p (.tup [.int i,y]) /\ ∀ xs,SqT K H a xs->xs[i]? = some y,fun i H=>∃ xs,SqT K H a xs/\xs.length<=i⟩
theorem q611:2<=sizeLine:=szb rfl
theorem q536 {P:Program} {w:World} {K:Fg} {es:List Expr} {x1:Nat} {pos:Pos} (a en ia:Addr) (ne:en ≠ ia) :
  Turn P w K (.Tuple es x1 pos) (Ite K a) [en,ia] en (fun i h=>(∃ was,IsEnum h en ia (i:Nat) was)/\h.IsTupleIter ia a i) where
 mem:=by simp
 obj:=fun i h st b hb=>by
  obtain ⟨⟨was,q1⟩,o,q2,q3,q4⟩:=st
  rcases List.mem_cons.mp hb with z | z
  ·subst z
   exact ⟨_,q1,fun v y=>by cases y⟩
  ·have z':b=ia:=by simpa using z
   subst z'
   exact ⟨o,q2,fun v y=>by rw [q4] at y;cases y⟩
 keep:=fun i h h' st k=>by
  obtain ⟨⟨was,q1⟩,o,q2,q3⟩:=st
  exact ⟨⟨was,k en (by simp) _ q1⟩,o,k ia (by simp) _ q2,q3⟩
 item:=by
  intro X hP hw hK hc i pins s σ H E I hf st hg
  subst hP hw hK
  obtain ⟨⟨was,q1⟩,q2⟩:=st
  obtain ⟨xs,x,hq,hx⟩:=hg
  obtain ⟨its,rv,p,hz⟩:=I.tuple hq
  obtain ⟨u,hu,ru⟩:=rv.get hx
  refine q535 q1 q2 (show s.heap.IsTuple a its.toArray from p) (u:=u) (by simpa using hu) ne fun h1 e1 n1 t1 k1=>⟨_,rfl,?_⟩
  refine wpAny_letOwnedTupleGo_enum e1 fun h2 e2 s2=>?_
  replace s2:Heap.SameBut en h1 h2:=s2
  have len:en < s.heap.objs.size:=Heap.lt_size q1
  have t2:h2.get? s.heap.objs.size=some { cls:=.type "tuple", data:=.seq #[.int i s.toks,u] }:=(s2.2 _ (Nat.ne_of_gt len)).trans t1
  have kk:∀ b o,b ≠ en->b ≠ ia->s.heap.get? b=some o->h2.get? b=some o:=fun b o m1 m2 q=>(s2.2 b m1).trans (k1 b o m1 m2 q)
  have fr:H s.heap.objs.size=none:=I.hok.fresh (Nat.le_refl _)
  have f1:=hf en (by simp)
  have f2:=hf ia (by simp)
  have neq:∀ b,H b ≠ none->b ≠ en/\b ≠ ia:=fun b m=>⟨fun z=>m (z ▸ f1.1),fun z=>m (z ▸ f2.1)⟩
  have un:Un (frs X.stack) [en,ia] H (upd H s.heap.objs.size (.tup [.int i,x])) s.heap h2:=by
   have nn:∀ b,b ∉ [en,ia]->b ≠ en/\b ≠ ia:=fun b m=>⟨fun z=>m (by simp [z]),fun z=>m (by simp [z])⟩
   have np:∀ b o,s.heap.get? b=some o->b ≠ s.heap.objs.size:=fun b o q=>Nat.ne_of_lt (Heap.lt_size q)
   exact ⟨fun b o q _ _ m=>kk b o (nn b m).1 (nn b m).2 q,fun b o q _ _ m=>⟨o.slots,kk b o (nn b m).1 (nn b m).2 q⟩,fun b o q m _=>by rw [q31 (np b o q)];exact m,fun b o q m=>⟨o,kk b o (nn b m).1 (nn b m).2 q⟩,
    fun b ys q=>by rw [q31 (q27 q fr)];exact q,fun b o v q=>by rw [q31 (q27 q fr)];exact q,fun b ps q=>⟨#[],by rw [q31 (q27 q fr),q];simp⟩⟩
  have hok:HOk X.prog X.w (upd H s.heap.objs.size (.tup [.int i,x])) h2:=fun b ob e=>by
   by_cases hb:b=s.heap.objs.size
   ·subst hb
    rw [q14] at e
    cases e
    exact ⟨q611,[.int i s.toks,u],.cons ⟨_,rfl⟩ (.cons ru .nil),⟨_,t2,rfl,_,rfl⟩⟩
   ·rw [q31 hb] at e
    refine (I.hok b ob e).stay (fun c v z q=>?_) (fun c q=>by rw [q31 (q27 q fr)];exact q) fun c ys q=>by rw [q31 (q27 q fr)];exact q
    have m:H c ≠ none:=by
     rcases z with rfl | z
     ·rw [e];exact fun y=>nomatch y
     ·rw [z];exact fun y=>nomatch y
    exact kk c v (neq c m).1 (neq c m).2 q
  have J:Inv X pins σ (upd H s.heap.objs.size (.tup [.int i,x])) { s with heap:=h2,toks:=s.toks+1 }:=by
   refine I.call' (s':={ s with heap:=h2,toks:=s.toks+1 }) (ch:=[en,ia]) rfl un hok I.bare fun b hb=>?_
   rcases List.mem_cons.mp hb with z | z
   ·subst z
    exact ⟨f1.2.2.2.1,f1.2.1,f1.2.2.2.2.1,f1.2.2.2.2.2⟩
   ·have z':b=ia:=by simpa using z
    subst z'
    exact ⟨f2.2.2.2.1,f2.2.1,f2.2.2.2.2.1,f2.2.2.2.2.2⟩
  refine ⟨.ref s.heap.objs.size,_,J,rfl,⟨s.heap.objs.size,x,rfl,fr,rfl,fun ys hy=>by rw [I.tuple_inj hy hq];exact hx⟩,⟨⟨u,?_⟩,?_⟩,fun b hb=>?_⟩
  ·have:((i+1:Nat):Int)=(i:Int)+1:=by omega
   rw [this]
   exact e2
  ·obtain ⟨o,q,r⟩:=n1
   exact ⟨o,(s2.2 ia (Ne.symm ne)).trans q,r⟩
  ·have hb':b=en\/b=ia:=by simpa using hb
   have lb:b < s.heap.objs.size:=by
    rcases hb' with z | z
    ·rw [z];exact len
    ·obtain ⟨o,q,_⟩:=q2
     rw [z];exact Heap.lt_size q
   rw [q31 (Nat.ne_of_lt lb)]
   exact (hf b hb).1
 done:=by
  intro X hP hw hK hc i pins s σ H E I hf st hg
  subst hP hw hK
  obtain ⟨⟨was,q1⟩,q2⟩:=st
  obtain ⟨xs,hq,hx⟩:=hg
  obtain ⟨its,rv,p,hz⟩:=I.tuple hq
  obtain ⟨f0,f1,f2,f3,f4,f5⟩:=hf ia (by simp)
  have hl:=rv.length
  exact q610 (I.ok.hd hc) q1 q2 (show s.heap.IsTuple a its.toArray from p) (by simp;omega) fun h' eb=>⟨rfl,I.turned (t':=s.toks) (fun b o hb e=>eb b o hb e) f0 f1 f3 f4 f5⟩
 self:=fun _ _ _ _ _ st h=>by
  obtain ⟨⟨was,q1⟩,_⟩:=st
  exact wpAny_pyIter_enum q1 h
theorem q612 (tp:Addr) (us:Array Value) (n:Nat) (dct:Option Addr) (sl:Array (Option Value)) :
  Meets (Builtin.«enumerate.__new__» ⟨[.type "enumerate", .ref tp],[]⟩) (fun _ R s=>s.heap.get? tp=some { cls:=.type "tuple", dict:=dct,data:=.seq us n,slots:=sl } /\
   R (.ok (.ret (.ref (s.heap.push { cls:=.type "tuple_iterator", data:=.fields #[.ref tp,.int 0 0] }).objs.size)))
    { s with heap:=(s.heap.push { cls:=.type "tuple_iterator", data:=.fields #[.ref tp,.int 0 0] }).push { cls:=.type "enumerate", data:=.fields #[.none,.bool false,.ref s.heap.objs.size,rawInt 0,.none,.none] } }):=
 .of_wp fun prog w A R s z=>by
  obtain ⟨hp,g,d,tk,os⟩:=s
  obtain ⟨z1,z2⟩:=z
  have sb:=sub_enumerate
  have T:Heap.IsTuple (Shared.heap ⟨hp,g,d,tk,os⟩) tp us:=⟨_,z1,rfl,n,rfl⟩
  wp_walk using AutoSeq1.wpAny_loadPart' z1
  refine wpAny_stack_any fun st=>wpAny_pure ?_
  split
  ·rename_i c _ _ _ _ _
   cases (c == Value.type "enumerate")
   all_goals
    wp_walk using AutoSeq1.wpAny_loadPart' z1,wpAny_pyIter_tuple T
    exact ⟨_,rfl,z2⟩
  ·wp_walk using AutoSeq1.wpAny_loadPart' z1,wpAny_pyIter_tuple T
   exact ⟨_,rfl,z2⟩
section
variable {prog:Program} {w:World} {A:Around} {E:VS} {s:Shared}
theorem q537 (T:s.heap.IsTuple tp us)
  (k:∀ h',IsEnum h' (s.heap.objs.size+1) s.heap.objs.size 0 .none->h'.IsTupleIter s.heap.objs.size tp 0->(∀ b o,s.heap.get? b=some o->h'.get? b=some o)->Q (.ref (s.heap.objs.size+1)) { s with heap:=h' }) :
  wpAny (model prog w) A (call (.type "enumerate") [.ref tp]) Q E s:=by
 obtain ⟨⟨c,dct,dt,sl⟩,z1,z2,n,z3⟩:=T
 simp only at z2 z3
 subst z2 z3
 refine callType_new F.called_enumerate (by decide) (F.typeCall_enumerate_1 _) (F.newCall_enumerate_1 _) (fun obj=>F.args_object_init_2 obj _) F.entry_enumerate_new (q612 tp us n dct sl) ⟨z1,?_⟩
 generalize ho:({ cls:=.type "tuple_iterator", data:=.fields #[.ref tp,.int 0 0] }:Obj)=o1
 have y1:(s.heap.push o1).objs.size=s.heap.objs.size+1:=Heap.size_push ..
 have y2:∀ o2:Obj,o2.isFreed=false->((s.heap.push o1).push o2).get? (s.heap.objs.size+1)=some o2:=fun o2 f=>by
  have:=Heap.get?_push_size (s.heap.push o1) (o:=o2) f
  rwa [y1] at this
 show _/\_
 rw [y1]
 have y3:=y2 { cls:=.type "enumerate", data:=.fields #[.none,.bool false,.ref s.heap.objs.size,rawInt 0,.none,.none] } rfl
 refine ⟨⟨_,y3,rfl⟩,k _ y3 ⟨o1,Heap.get?_push_of_some _ (Heap.get?_push_size _ (by rw [<- ho];rfl)),by rw [<- ho],by rw [<- ho];rfl⟩ fun b o q=>Heap.get?_push_of_some _ (Heap.get?_push_of_some _ q)⟩
end
section
variable {es:List Expr} {x1:Nat} {tpos:Pos}
def iEnum (K:Fg) (ta:TA):TI:=fun σ H R=>ta σ H fun vs H1=>∃ a,vs=[.ref a]/\(∃ xs,SqT K H1 a xs)/\R (Ite K a) H1
theorem pi_enum {l:Expr} {ta:TA} {p pos:Pos} (hg:Gl X "enumerate") (hm:X.mg "enumerate" = none) (ha:PA X [l] ta) (hs:starEach [l] X.env=[(false,eval l X.env)]:=by rfl) :
  PI X (.Tuple es x1 tpos) (.Call (.Name "enumerate" p) [l] [] pos) (iEnum X.K ta):=by
 intro pins s σ H R I h
 refine Call_ (q156 I hg hm boot_enumerate (PyProof.Rows.callWith_type1 (thn (ha pos pins s σ H _ I h) fun us s1 ⟨vs,H1,I1,r1,q1⟩=>?_) hs rfl))
 obtain ⟨a,e,⟨xs,hq⟩,q⟩:=q1
 subst e
 cases r1 with
 | cons r rr=>
  cases rr
  cases r
  obtain ⟨its,rv,p,hz⟩:=I1.tuple hq
  refine q537 (show s1.heap.IsTuple a its.toArray from p) fun h' e1 e2 k=>wpAny_pyIter_enum e1 ?_
  have I2:Inv X pins σ H1 { s1 with heap:=h' }:=I1.kept (t':=s1.toks) k
  refine ⟨s1.heap.objs.size+1,[s1.heap.objs.size+1,s1.heap.objs.size],_,_,H1,rfl,I2,q536 a _ _ (Nat.succ_ne_self _),⟨⟨_,e1⟩,e2⟩,fun b hb=>?_,q⟩
  have hb':s1.heap.objs.size<=b:=by
   have z:b=s1.heap.objs.size+1\/b=s1.heap.objs.size:=by simpa using hb
   rcases z with z | z
   ·rw [z];exact Nat.le_succ _
   ·rw [z];exact Nat.le_refl _
  exact I1.fpOk hb' (I1.hok.fresh hb')
theorem for_enum {K:Fg} {a:Addr} {xs:List V} {g:TG} {tb:TS} {D:Ends} {σ:St} {H:Hp} (Pv:Nat->St->Hp->Prop) (h0:Pv 0 σ H) (hl:∀ i σ H,i<=xs.length->Pv i σ H->SqT K H a xs)
  (hs:∀ i x σ H p,xs[i]? = some x->Pv i σ H->H p=none->g (.ref p) σ (upd H p (.tup [.int i,x])) fun σ2 H2=>tb { D with nx:=Pv (i+1),ct:=Pv (i+1),bk:=D.nx } σ2 H2) (hd:∀ σ H,Pv xs.length σ H->D.nx σ H) :
  ∃ W:Nat->Nat->St->Hp->Prop,(∃ m,W 0 m σ H) /\ ∀ i m σ H,W i m σ H ->
   ((Ite K a).stop i H/\D.nx σ H)\/((Ite K a).go i H /\ ∃ N:St->Hp->Prop,(∀ σ' H',N σ' H' -> ∃ m',m' < m/\W (i+1) m' σ' H') /\ ∀ x H',(Ite K a).yld i H x H'->g x σ H' fun σ2 H2=>tb { D with nx:=N,ct:=N,bk:=D.nx } σ2 H2):=by
 refine ⟨fun i m σ H=>m=xs.length - i/\i<=xs.length/\Pv i σ H,⟨xs.length,by simp,Nat.zero_le _,h0⟩,?_⟩
 rintro i m σ H ⟨rfl,hi,p⟩
 have q:=hl i σ H hi p
 by_cases hlt:i < xs.length
 ·refine .inr ⟨⟨xs,xs[i],q,by simp [hlt]⟩,Pv (i+1),fun σ' H' p'=>⟨xs.length - (i+1),by omega,rfl,hlt,p'⟩,fun x H' y=>?_⟩
  obtain ⟨pp,yv,rfl,e2,rfl,y⟩:=y
  exact hs i yv σ _ pp (y xs q) p e2
 ·have e:i=xs.length:=by omega
  subst e
  exact .inl ⟨⟨xs,q,Nat.le_refl _⟩,hd σ H p⟩
end
structure CalX (P:Program) (w:World) (K:Fg) (mg:Mg) (base:Heap) (k:Nat) (x:Str) (ps:List Str) (sp:Sp):Prop where
 ex:∃ (f:Addr) (fd:FuncData),FnOk P w K mg base (CX1 P w) k f fd ps sp/\Binds K fd ps []/\PySem.W.keepIn K (.ref f)=true/\mg x=some (.ref f)
open PySem.Builtin.ObjectAttr in
structure XFld (K:Fg) (C:Addr) (f:Str):Prop where
 sa:PySem.W.findIn K (.ref C) "__setattr__" = some (some (.builtin "object.__setattr__"))
 na:PySem.W.findIn K (.ref C) f=some none
 hd:PySem.W.hasDictIn K C=true
def tCompIf (wi:TI) (tt:TT) (te:TE) (fr:List Nat):TE:=fun σ H Q=>wi σ H fun J H1=>∀ D,H1 D=none -> ∃ W:Nat->Nat->List V->Hp->Prop,(∃ m,W 0 m [] (upd H1 D (.lst []))) /\
 ∀ i m ys H2,W i m ys H2->H2 D=some (.lst ys)/\((J.stop i H2/\Q (.ref D) H2)\/(J.go i H2/\ys.length < sizeLine /\ ∃ N:V->Hp->Prop,(∀ y H3,N y H3->H3 D=some (.lst ys) /\ ∃ m',m' < m/\W (i+1) m' (ys++[y]) (upd H3 D (.lst (ys++[y])))) /\
  ∀ x H',J.yld i H2 x H'->tt (some x::fr.map fun j=>(σ[j]?).getD none) H' fun b H3=>if b=true then te (some x::fr.map fun j=>(σ[j]?).getD none) H3 N else ∃ m',m' < m/\W (i+1) m' ys H3))
theorem q434 {X:Cx} {elt iter cc:Expr} {x:Str} {px pos:Pos} {scope sc0:Scope} {cl:List (Str × Addr)} {cn N:List Str} {fr:List Nat} {tt:TT} {te:TE} {pins:List (Addr × Obj)} {σ:St} {H2:Hp} {s2:Shared} {it:Addr} {fp:List Addr}
  {tn:Nat->Heap->Prop} {J:It} {RR:Value->Addr->Result->Shared->Prop} {R:Hp->Prop} {E:VS} {W:Nat->Nat->List V->Hp->Prop} {m0:Nat}
  (hc:X.calm=true) (he:∀ (C:Addr) (s₂:Shared) (H₂:Hp) (fp:List Addr),PE (q59 X scope cl C x N s₂ H₂ fp) elt te) (hct:∀ (C:Addr) (s₂:Shared) (H₂:Hp) (fp:List Addr),PT (q59 X scope cl C x N s₂ H₂ fp) cc tt)
  (hcl:q90 X.env cl) (hcn:cl.map (·.1)=cn) (hsc:X.env.scope=sc0) (hk:scope.kind = .function) (hok:CompOk scope sc0 x N cn) (hfr:fr.map (fun j=>X.N[j]?)=N.map some)
  (I2:Inv X pins σ H2 s2) (T:Turn X.prog X.w X.K (.Name x px) J fp it tn) (st2:tn 0 s2.heap) (f2:∀ b ∈ fp,FpOk X pins H2 b)
  (w0:W 0 m0 [] (upd H2 s2.heap.objs.size (.lst [])))
  (turn:∀ i m ys H,W i m ys H->H s2.heap.objs.size=some (.lst ys)/\((J.stop i H/\R H)\/(J.go i H/\ys.length < sizeLine /\ ∃ N:V->Hp->Prop,
   (∀ y H3,N y H3->H3 s2.heap.objs.size=some (.lst ys) /\ ∃ m',m' < m/\W (i+1) m' (ys++[y]) (upd H3 s2.heap.objs.size (.lst (ys++[y])))) /\
   ∀ x H',J.yld i H x H'->tt (some x::fr.map fun j=>(σ[j]?).getD none) H' fun b H3=>if b=true then te (some x::fr.map fun j=>(σ[j]?).getD none) H3 N else ∃ m',m' < m/\W (i+1) m' ys H3)))
  (hRR:∀ (C:Addr) (H6:Hp) (s6:Shared) (m6:Mg),s6.heap.Ns C m6->Inv X pins σ H6 s6->FpOk X pins H6 C->R H6->RR (.ref s2.heap.objs.size) C (.ok .next) s6) :
  wpAny (model X.prog X.w) X.A (newList []) (fun acc s₃=>wpAny (model X.prog X.w) X.A (newFunctionEnv scope X.env.globals cl [] X.env.qual none .none (some X.env)) (fun cenv s₄=>
   codeAny (model X.prog X.w) X.A (.compStart (.ListComp elt [⟨.Name x px,iter,[cc],0⟩] scope pos) 0 (.ref it) acc { cenv with scope:=relabel scope X.env }) (RR acc cenv.locals) s₄) E s₃) E s2:=by
 refine q185 (TN:=[]) (gt:=gName 0) (tt:=tt) hc he (fun C s h f=>pts_one (hct C s h f)) (fun _ _ _ _=>q183 hok.nd rfl (.inl ?_) (.inr ?_)) hcl hcn hsc hk ⟨hok.has,hok.nc,hok.names,hok.frs⟩ hfr I2 T st2 f2 w0 (fun i m ys H h=>?_) hRR
 ·exact q318 hsc hok.hx'
 ·exact q318 hsc hok.hx'
 obtain ⟨a,b⟩:=turn i m ys H h
 refine ⟨a,?_⟩
 rcases b with b | ⟨g,l,N,h1,h2⟩
 ·exact .inl b
 refine .inr ⟨g,l,N,fun H3=>∃ m',m' < m/\W (i+1) m' ys H3,h1,fun _ z=>z,fun x H' y vs hv=>?_⟩
 match vs,hv with
 | [v0],_=>exact ⟨⟨[some x],rfl,rfl⟩,h2 x H' y⟩
theorem q71 {X:Cx} {elt iter cc:Expr} {x:Str} {px pos:Pos} {scope sc0:Scope} {cl:List (Str × Addr)} {cn N:List Str} {fr:List Nat} {wi:TI} {tt:TT} {te:TE}
  (hc:X.calm=true) (hi:PI X (.Name x px) iter wi) (he:∀ (C:Addr) (s₂:Shared) (H₂:Hp) (fp:List Addr),PE (q59 X scope cl C x N s₂ H₂ fp) elt te) (hct:∀ (C:Addr) (s₂:Shared) (H₂:Hp) (fp:List Addr),PT (q59 X scope cl C x N s₂ H₂ fp) cc tt)
  (hclos:closureFor scope X.env=pure cl) (hcl:q90 X.env cl) (hcn:cl.map (·.1)=cn) (hsc:X.env.scope=sc0) (hk:scope.kind = .function) (hok:CompOk scope sc0 x N cn)
  (hfr:fr.map (fun j=>X.N[j]?)=N.map some) (hs:∀ v,foldedSetIterable iter X.env v=pure v:=by intro _;rfl) :
  PE X (.ListComp elt [⟨.Name x px,iter,[cc],0⟩] scope pos) (tCompIf wi tt te fr):=by
 intro pins s σ H Q I h
 rw [eval_ListComp]
 refine wpAny_comprehension_free (use:=none) rfl hs hclos hk hok.names (thn (hi pins s σ H _ I h) fun v s1 h1=>thn h1 fun itv s2 h2=>?_)
 obtain ⟨it,fp,tn,J,H2,e,I2,T,st2,f2,hq⟩:=h2
 subst e
 obtain ⟨W,⟨m0,w0⟩,turn⟩:=hq s2.heap.objs.size (I2.hok.fresh (Nat.le_refl _))
 exact q434 (RR:=fun acc C=>compPost (model X.prog X.w) X.A X.xe none (EP X pins σ Q) acc C) (R:=fun H6=>Q (.ref s2.heap.objs.size) H6) hc he hct hcl hcn hsc hk hok hfr I2 T st2 f2 w0 turn
  fun C H6 s6 m6 hn I6 F6 q=>⟨m6,hn,fun h' sb=>⟨.ref s2.heap.objs.size,H6,I6.let_go F6 sb,rfl,q⟩⟩
theorem q435 {K:Fg} {a:Addr} {xs:List V} {p:V->Bool} {g:V->V} {Tt:V->Hp->(Bool->Hp->Prop)->Prop} {Te:V->Hp->(V->Hp->Prop)->Prop} {D:Addr} {H1:Hp} {R:Hp->Prop}
  (ha:SqL K H1 a xs) (hD:H1 D=none) (hn:xs.length<=sizeLine) (hT:∀ x ∈ xs,∀ (H:Hp) (Q:Bool->Hp->Prop),Same H1 H->Q (p x) H->Tt x H Q) (hE:∀ x ∈ xs,p x=true -> ∀ (H:Hp) (Q:V->Hp->Prop),Same H1 H->Q (g x) H->Te x H Q)
  (hR:R (upd H1 D (.lst ((xs.filter p).map g)))) :
  ∃ W:Nat->Nat->List V->Hp->Prop,(∃ m,W 0 m [] (upd H1 D (.lst []))) /\
   ∀ i m ys H2,W i m ys H2->H2 D=some (.lst ys)/\(((Itl K a).stop i H2/\R H2)\/((Itl K a).go i H2/\ys.length < sizeLine /\ ∃ N:V->Hp->Prop,(∀ y H3,N y H3->H3 D=some (.lst ys) /\ ∃ m',m' < m/\W (i+1) m' (ys++[y]) (upd H3 D (.lst (ys++[y])))) /\
    ∀ x H',(Itl K a).yld i H2 x H'->Tt x H' fun b H3=>if b=true then Te x H3 N else ∃ m',m' < m/\W (i+1) m' ys H3)):=by
 refine ⟨fun i m ys H=>m=xs.length - i/\i<=xs.length/\ys=((xs.take i).filter p).map g/\H=upd H1 D (.lst ys),⟨xs.length,by simp,Nat.zero_le _,by simp,rfl⟩,?_⟩
 rintro i m ys H2 ⟨rfl,hi,hy,rfl⟩
 have sm:=q16 hD (.lst ys)
 have q:=sm.seq ha
 have hyl:ys.length<=i:=by
  rw [hy,List.length_map]
  exact Nat.le_trans (List.length_filter_le _ _) (by rw [List.length_take];exact Nat.min_le_left _ _)
 refine ⟨q14,?_⟩
 by_cases hlt:i < xs.length
 ·refine .inr ⟨⟨xs,xs[i],q,by simp [hlt]⟩,by omega,fun y H3=>H3=upd H1 D (.lst ys)/\y=g xs[i]/\p xs[i]=true,fun y H3 ⟨z1,z2,z3⟩=>⟨by rw [z1];exact q14,xs.length - (i+1),by omega,rfl,hlt,?eq,by rw [z1,q182]⟩,fun x H' y=>?st⟩
  case eq=>
   rw [List.take_succ_eq_append_getElem hlt,List.filter_append,List.map_append,<- hy,z2]
   simp [z3]
  case st=>
   obtain ⟨e,y⟩:=y
   subst e
   have hx:xs[i]? = some x:=y xs q
   have hx':xs[i]=x:=by simpa [hlt] using hx
   have hm:x ∈ xs:=by rw [<- hx'];exact List.getElem_mem hlt
   refine hT x hm _ _ sm ?_
   by_cases hp:p x=true
   ·rw [if_pos hp]
    exact hE x hm hp _ _ sm ⟨rfl,by rw [hx'],by rw [hx'];exact hp⟩
   ·rw [if_neg hp]
    refine ⟨xs.length - (i+1),by omega,rfl,hlt,?_,rfl⟩
    rw [List.take_succ_eq_append_getElem hlt,List.filter_append,List.map_append,<- hy,hx']
    simp [hp]
 ·have e:i=xs.length:=by omega
  subst e
  refine .inl ⟨⟨xs,q,Nat.le_refl _⟩,?_⟩
  rw [hy,List.take_length]
  exact hR
section
variable {P:Program} {w:World} {K:Fg} {mg:Mg} {base:Heap}
def prevSp (sp:Nat->Sp):Nat->Sp
 | 0=>fun _ _ _ _=>False
 | e+1=>sp e
theorem Def.recur {sp:Nat->Sp} {x:Str} {st:Stmt} {ps:List Str} (d:Def K mg x st ps) {k:Nat} (n:Nat)
  (step:∀ e,e<=n->Cal P w K mg base (e+k) x ps (prevSp sp e) -> ∀ (f:Addr) (fd:FuncData),Fun K x x st f fd->FnOk P w K mg base CX0 (e+(k+1)) f fd ps (sp e)) :
  Cal P w K mg base (n+(k+1)) x ps (fun vs H Q E=>∃ e,e<=n/\sp e vs H Q E):=by
 obtain ⟨f,fd,h1,h2,h3⟩:=d.ex
 have all:∀ e,e<=n->FnOk P w K mg base CX0 (e+(k+1)) f fd ps (sp e):=by
  intro e
  induction e with
  | zero=>exact fun he=>step 0 he ⟨f,fd,⟨fun _ _ _ _ h=>h.elim,fun _ _ _ _ _ _ _ _ _ _ _ _ _ h=>h.elim⟩,.all h2,h1.kp,h3⟩ f fd h1
  | succ e ih=>exact fun he=>step (e+1) he ⟨f,fd,(ih (by omega)).mono (by omega),.all h2,h1.kp,h3⟩ f fd h1
 refine ⟨f,fd,⟨?_,?_⟩,.all h2,h1.kp,h3⟩
 ·rintro vs H Q E ⟨e,he,h⟩
  exact (all e he).len vs H Q E h
 ·rintro A outer s H args us vs Q E hr he hb hv ⟨e,hle,h⟩
  exact (all e hle).run A outer s H args us vs Q E (hr.mono (by omega)) he hb hv h
end
theorem q538 {K:Fg} {a:Addr} {xs:List V} {g:V->V} {Te:V->Hp->(V->Hp->Prop)->Prop} {D:Addr} {H1:Hp} {R:Hp->Prop}
  (ha:SqL K H1 a xs) (hD:H1 D=none) (hn:xs.length<=sizeLine) (hE:∀ x ∈ xs,∀ (H:Hp) (Q:V->Hp->Prop),Same H1 H->Q (g x) H->Te x H Q) (hR:R (upd H1 D (.lst (xs.map g)))) :
  ∃ W:Nat->Nat->List V->Hp->Prop,(∃ m,W 0 m [] (upd H1 D (.lst []))) /\
   ∀ i m ys H2,W i m ys H2->H2 D=some (.lst ys)/\(((Itl K a).stop i H2/\R H2)\/((Itl K a).go i H2/\ys.length < sizeLine /\ ∃ N:V->Hp->Prop,(∀ y H3,N y H3->H3 D=some (.lst ys) /\ ∃ m',m' < m/\W (i+1) m' (ys++[y]) (upd H3 D (.lst (ys++[y])))) /\
    ∀ x H',(Itl K a).yld i H2 x H'->Te x H' N)):=by
 refine ⟨fun i m ys H=>m=xs.length - i/\i<=xs.length/\ys=(xs.take i).map g/\H=upd H1 D (.lst ys),⟨xs.length,by simp,Nat.zero_le _,by simp,rfl⟩,?_⟩
 rintro i m ys H2 ⟨rfl,hi,hy,rfl⟩
 have sm:=q16 hD (.lst ys)
 have q:=sm.seq ha
 have hyl:ys.length<=i:=by
  rw [hy,List.length_map,List.length_take];exact Nat.min_le_left _ _
 refine ⟨q14,?_⟩
 by_cases hlt:i < xs.length
 ·refine .inr ⟨⟨xs,xs[i],q,by simp [hlt]⟩,by omega,fun y H3=>H3=upd H1 D (.lst ys)/\y=g xs[i],fun y H3 ⟨z1,z2⟩=>⟨by rw [z1];exact q14,xs.length - (i+1),by omega,rfl,hlt,?eq,by rw [z1,q182]⟩,fun x H' y=>?st⟩
  case eq=>
   rw [List.take_succ_eq_append_getElem hlt,List.map_append,<- hy,z2]
   rfl
  case st=>
   obtain ⟨e,y⟩:=y
   subst e
   have hx:xs[i]? = some x:=y xs q
   have hx':xs[i]=x:=by simpa [hlt] using hx
   have hm:x ∈ xs:=by rw [<- hx'];exact List.getElem_mem hlt
   exact hE x hm _ _ sm ⟨rfl,by rw [hx']⟩
 ·have e:i=xs.length:=by omega
  subst e
  refine .inl ⟨⟨xs,q,Nat.le_refl _⟩,?_⟩
  rw [hy,List.take_length]
  exact hR
theorem op_eqL (hu:X.A.units+64 < cLine):OpR X (compareOp .Eq) (fun x y H Q=>∃ (a b:Addr) (ns ms:List Int),x = .ref a/\y = .ref b/\SqL X.K H a (ns.map V.int)/\SqL X.K H b (ms.map V.int)/\Q (.bl (decide (ns=ms))) H):=by
 intro pins s σ H x y v u Q I rx ry h
 obtain ⟨a,b,ns,ms,rfl,rfl,ha,hb,q⟩:=h
 cases rx
 cases ry
 obtain ⟨its,r1,p1,_⟩:=I.list ha
 obtain ⟨its2,r2,p2,_⟩:=I.list hb
 exact PySem.W.ke_eq_ints p1.isList p2.isList (q85 r1) (q85 r2) hu ⟨.bl _,H,I,rfl,q⟩
theorem q364:CallR X (.builtin "sorted") (fun xs H Q=>∃ (p:Addr) (ns:List Int),xs=[.ref p]/\SqL X.K H p (ns.map V.int)/\ns.length < 64 /\ ∀ (l:Addr) (ms:List Int),H l=none->ms.Perm ns->ms.Pairwise (· <= ·)->Q (.ref l) (upd H l (.lst (ms.map V.int)))):=by
 intro pins s σ H xs us Q I r h
 obtain ⟨p,ns,rfl,hq,h64,q⟩:=h
 obtain ⟨u,rfl,rx⟩:=vals1 r
 cases rx
 obtain ⟨its,r',pl,hz⟩:=I.list hq
 have hl:=r'.length
 rw [List.length_map] at hl hz
 refine PyProof.Rows.sorted_ints pl.isList (q85 r') (by omega) fun out ms a1 a2 a3=>?_
 obtain ⟨e,he⟩:=PyProof.Rows.sortedAll_at s.heap its out
 have hml:ms.length=ns.length:=a2.length_eq
 refine ⟨.ref (s.heap.objs.size+1),_,I.laid (t':=s.toks) (a:=s.heap.objs.size+1) (o:=.lst (ms.map V.int)) (fun b ob z=>PyProof.Rows.sortedAll_old z) (Nat.le_succ _) ?_,rfl,q _ ms (I.hok.fresh (Nat.le_succ _)) a2 a3⟩
 refine ⟨by rw [List.length_map];omega,out.toList,e,q234 a1,?_⟩
 rw [he]
def tRev (K:Fg) (te:TE):TE:=fun σ H Q=>te σ H fun x H1=>∃ a xs,x = .ref a/\SqL K H1 a xs /\ ∀ p,H1 p=none->Q (.ref p) (upd H1 p (.lst xs.reverse))
theorem pe_rev {k:Nat} (he:PE X e te):PE X (.Subscript e (.Slice none none (some (.UnaryOp .USub (.Constant (.int 1) k p1) p3)) p2) pos) (tRev X.K te):=by
 intro pins s σ H Q I h
 refine Subscript_ (thn (he pins s σ H _ I h) fun v s1 ⟨x,H1,I1,r1,q1⟩=>?_)
 obtain ⟨a,xs,rfl,hx,q⟩:=q1
 cases r1
 have hst:PO X (some (.UnaryOp .USub (.Constant (.int 1) k p1) p3)) (tPart (tUn (rU fun i=>.int (-i)) fun _ H Q=>Q (.int 1) H)):=q51 (pe_un un_neg q13)
 refine wpAny_Slice (thn (q60 (X:=X) pins s1 σ H1 (fun o H'=>o=none/\H'=H1) I1 ⟨rfl,rfl⟩) fun vl s2 ⟨l,H2,I2,pl,el,e2⟩=>thn (q60 (X:=X) pins s2 σ H2 (fun o H'=>o=none/\H'=H1) I2 ⟨rfl,e2⟩) fun vu s3 ⟨u,H3,I3,pu,eu,e3⟩=>
  thn (hst pins s3 σ H3 (fun o H'=>o=some (-1)/\H'=H1) I3 ⟨_,rfl,⟨_,rfl,rfl,e3⟩⟩) fun vk s4 ⟨kk,H4,I4,pk,ek,e4⟩=>?_)
 subst el eu ek e4
 have I5:Inv X pins σ H4 { s4 with heap:=s4.heap.push { cls:=.type "slice", data:=.fields #[vl,vu,vk] } }:=I4.kept (t':=s4.toks) fun b ob q=>Heap.get?_push_of_some _ q
 obtain ⟨its,r,ht,hz⟩:=I5.list hx
 have hlen:=r.length
 show wpAny (model X.prog X.w) X.A (subscriptTail e _ (.ref a) (.ref s4.heap.objs.size)) (EP X pins σ Q) X.xe { s4 with heap:=s4.heap.push { cls:=.type "slice", data:=.fields #[vl,vu,vk] } }
 refine tail_any (ops:=[.ref a,.ref s4.heap.objs.size]) ht.isList.typeIs slot_list_getitem.lookup ?_ (by with_unfolding_all rfl)
 refine wpAny_getItem_list_slice ht.isList (Heap.IsSliceOf.new ..) pl pu pk (by simp) ?_ (by rw [List.size_toArray] <;> omega)
 rw [PySem.W.krv_pick]
 refine ⟨.ref _,_,I5.laid (t':=s4.toks) (o:=.lst xs.reverse) (fun b ob q=>Heap.get?_push_of_some _ q) (Nat.le_refl _) ?_,rfl,q _ (I5.hok.fresh (Nat.le_refl _))⟩
 exact ⟨by rw [List.length_reverse];exact hz,_,0,r.reverse,Heap.get?_push_size _ rfl⟩
section
variable {K:Fg}
theorem q481 (h:X.K=K):IxR X (rIxL K):=by subst h;exact q47
theorem q613 (h:X.K=K):CallR X (.builtin "len") (fun xs H Q=>∃ p ys,xs=[.ref p]/\(SqL K H p ys\/SqT K H p ys)/\Q (.int ys.length) H):=by subst h;exact q201
end
inductive Tr where
 | non
 | many (n:Int)
 | part (ms:List Int) (l r:Tr)
noncomputable def Tr.deep:Tr->Nat
 | .non=>0
 | .many _=>0
 | .part _ l r=>max l.deep r.deep+1
def q25 (H:Hp):V->Tr->Prop
 | v,.non=>v = .non
 | v,.many n=>∃ a,v = .ref a/\H a=some (.tup [.str "many", .int n])
 | v,.part ms l r=>∃ a m x y,v = .ref a/\H a=some (.tup [.str "part", .ref m,x,y])/\TupF H m (ms.map V.int)/\q25 H x l/\q25 H y r
def TKeep (H H':Hp):Prop:=∀ b xs,(H b=some (.tup xs)->H' b=some (.tup xs)) /\ ∀ o,H b=some (.frz o (.tup xs))->H' b=some (.frz o (.tup xs))
theorem TKeep.trans (a:TKeep H H1) (b:TKeep H1 H2):TKeep H H2:=fun c xs=>⟨fun h=>(b c xs).1 ((a c xs).1 h),fun o h=>(b c xs).2 o ((a c xs).2 o h)⟩
theorem TKeep.same (s:Same H H'):TKeep H H':=fun _ _=>⟨s _ _,fun _=>s _ _⟩
theorem TKeep.keep (s:Keep p H H') (e:H p=some (.lst ys)):TKeep H H':=fun _ _=>⟨fun h=>s _ _ (ne_of h e (by intro z;cases z)) h,fun _ h=>s _ _ (ne_of h e (by intro z;cases z)) h⟩
theorem TKeep.set (e:H p=some (.lst ys)):TKeep H (upd H p (.lst zs)):=.keep (Keep.set p H _) e
theorem TupF.tk (h:TupF H a xs) (s:TKeep H H'):TupF H' a xs:=by
 obtain ⟨o,h,c⟩:=h
 exact ⟨o,(s _ _).2 o h,c⟩
theorem q25.tk {H H':Hp} (s:TKeep H H'):∀ {t:Tr} {v:V},q25 H v t->q25 H' v t
 | .non,_,h=>h
 | .many _,_,⟨a,e,h⟩=>⟨a,e,(s _ _).1 h⟩
 | .part _ _ _,_,⟨a,m,x,y,e,h,hm,hl,hr⟩=>⟨a,m,x,y,e,(s _ _).1 h,hm.tk s,q25.tk s hl,q25.tk s hr⟩
theorem q25.same (s:Same H H') (h:q25 H v t):q25 H' v t:=h.tk (.same s)
theorem q159 {A:Around} {xs ys:List V} (I:Inv X pins σ H s) (ha:SqT X.K H a xs) (hb:SqT X.K H b ys) (hl:xs.length=ys.length)
  (he:∀ (j:Nat) (x y:V),xs[j]? = some x->ys[j]? = some y -> ∀ u v,RelV x u->RelV y v->SeqAt.EqAt A.in1 s u v true) (hu:A.units < cLine) :
  SeqAt.RcAt A s (.ref a) (.ref b) true/\SeqAt.RcNeAt A s (.ref a) (.ref b) false:=by
 obtain ⟨its,r1,p1,_⟩:=I.tuple ha
 obtain ⟨its2,r2,p2,_⟩:=I.tuple hb
 have l1:=r1.length
 have l2:=r2.length
 have hz:its.toArray.size=its2.toArray.size:=by rw [List.size_toArray,List.size_toArray];omega
 have el:∀ (j:Nat) (h1:j < its.toArray.size) (h2:j < its2.toArray.size),SeqAt.EqAt A.in1 s its.toArray[j] its2.toArray[j] ((fun _=>true) j):=by
  intro j h1 h2
  have h1':j < xs.length:=by rw [List.size_toArray] at h1;omega
  have h2':j < ys.length:=by rw [List.size_toArray] at h2;omega
  obtain ⟨v1,e1,r1'⟩:=r1.get (i:=j) (x:=xs[j]) (List.getElem?_eq_getElem h1')
  obtain ⟨v2,e2,r2'⟩:=r2.get (i:=j) (x:=ys[j]) (List.getElem?_eq_getElem h2')
  have g1:its.toArray[j]=v1:=by
   have:=List.getElem?_eq_some_iff.mp e1
   simpa using this.2
  have g2:its2.toArray[j]=v2:=by
   have:=List.getElem?_eq_some_iff.mp e2
   simpa using this.2
  rw [g1,g2]
  exact he j _ _ (List.getElem?_eq_getElem h1') (List.getElem?_eq_getElem h2') _ _ r1' r2'
 have t0:((List.range (min its.toArray.size its2.toArray.size)).all (fun _=>true) && its.toArray.size == its2.toArray.size)=true:=by
  rw [hz];simp
 constructor
 ·rw [<- t0]
  exact SeqAt.RcAt.tuples p1 p2 hu el
 ·have z:=SeqAt.RcNeAt.tuples (e:=fun _=>true) p1 p2 hu el
  rw [t0] at z
  exact z
theorem q160 (h:SeqAt.RcAt A s (.ref a) (.ref b) true):SeqAt.EqAt A s (.ref a) (.ref b) true:=by
 by_cases e:a=b
 ·subst e
  exact SeqAt.EqAt.same _
 ·exact .of_refs e h
theorem q482 {i:Int} (r1:RelV (.int i) u) (r2:RelV (.int i) v):SeqAt.EqAt A s u v true:=by
 have z:=q477 (A:=A) (s:=s) r1 r2 rfl rfl
 have e:eqV (.int i) (.int i)=true:=by simp [eqV]
 rw [e] at z
 exact z
theorem q483 (r1:RelV (.str i) u) (r2:RelV (.str i) v):SeqAt.EqAt A s u v true:=by
 have z:=q477 (A:=A) (s:=s) r1 r2 rfl rfl
 have e:eqV (.str i) (.str i)=true:=by simp [eqV]
 rw [e] at z
 exact z
theorem q614 {A:Around} {ns:List Int} (I:Inv X pins σ H s) (ha:SqT X.K H a (ns.map V.int)) (hb:SqT X.K H b (ns.map V.int)) (hu:A.units < cLine) :
  SeqAt.RcAt A s (.ref a) (.ref b) true/\SeqAt.RcNeAt A s (.ref a) (.ref b) false:=by
 refine q159 I ha hb rfl (fun j x y h1 h2 u v r1 r2=>?_) hu
 rw [h1] at h2
 cases h2
 rw [List.getElem?_map] at h1
 cases e:ns[j]? with
 | none=>rw [e] at h1;cases h1
 | some n=>
  rw [e] at h1
  cases h1
  exact q482 r1 r2
theorem q239 (I:Inv X pins σ H s):∀ (t:Tr) (A:Around) (x y:V) (u v:Value),q25 H x t->q25 H y t->RelV x u->RelV y v->A.units+t.deep+2 < cLine ->
  SeqAt.EqAt A s u v true/\SeqAt.RcNeAt A s u v false/\SeqAt.RcAt A s u v true
 | .non,A,x,y,u,v,hx,hy,ru,rv,hu=>by
  cases hx
  cases hy
  cases ru
  cases rv
  exact ⟨SeqAt.EqAt.same _,SeqAt.RcNeAt.none_none,SeqAt.RcAt.none_none⟩
 | .many n,A,x,y,u,v,⟨a,ea,ha⟩,⟨b,eb,hb⟩,ru,rv,hu=>by
  subst ea eb
  cases ru
  cases rv
  have z:=q159 (A:=A) I (SqT.of ha) (SqT.of hb) rfl (fun j x y h1 h2 u v r1 r2=>by
   match j,h1,h2 with
   | 0,h1,h2=>cases h1;cases h2;exact q483 r1 r2
   | 1,h1,h2=>cases h1;cases h2;exact q482 r1 r2
   | j+2,h1,h2=>cases h1) (by omega)
  exact ⟨q160 z.1,z.2,z.1⟩
 | .part ms l r,A,x,y,u,v,⟨a,m,x1,y1,ea,ha,hm,hl,hr⟩,⟨b,m',x2,y2,eb,hb,hm',hl',hr'⟩,ru,rv,hu=>by
  subst ea eb
  cases ru
  cases rv
  have hd:(Tr.part ms l r).deep=max l.deep r.deep+1:=rfl
  have hA:A.in1.units=A.units+1:=rfl
  have z:=q159 (A:=A) I (SqT.of ha) (SqT.of hb) rfl (fun j x y h1 h2 u v r1 r2=>by
   match j,h1,h2 with
   | 0,h1,h2=>cases h1;cases h2;exact q483 r1 r2
   | 1,h1,h2=>
    cases h1;cases h2
    cases r1
    cases r2
    exact q160 (q614 I hm.sq hm'.sq (by omega)).1
   | 2,h1,h2=>cases h1;cases h2;exact (q239 I l A.in1 _ _ _ _ hl hl' r1 r2 (by omega)).1
   | 3,h1,h2=>cases h1;cases h2;exact (q239 I r A.in1 _ _ _ _ hr hr' r1 r2 (by omega)).1
   | j+4,h1,h2=>cases h1) (by omega)
  exact ⟨q160 z.1,z.2,z.1⟩
theorem op_eqTr (hu:X.A.units+64 < cLine):OpR X (compareOp .Eq) (fun x y H Q=>∃ t:Tr,q25 H x t/\q25 H y t/\t.deep<=60/\Q (.bl true) H):=by
 intro pins s σ H x y v u Q I rx ry h
 obtain ⟨t,hx,hy,hd,q⟩:=h
 exact (q239 I t X.A x y v u hx hy rx ry (by omega)).2.2 _ _ _ _ ⟨.bl true,H,I,rfl,q⟩
noncomputable def onI {α:Type} (f:Int->α) (d:α):V->α
 | .int n=>f n
 | _=>d
theorem filt_onI {p:Int->Bool} {g:Int->V} (ns:List Int):(((ns.map V.int).filter (onI p false)).map (onI g .non))=(ns.filter p).map g:=by
 induction ns with
 | nil=>rfl
 | cons n ns ih=>
  rw [List.map_cons,List.filter_cons,List.filter_cons]
  have e:onI p false (.int n)=p n:=rfl
  rw [e]
  by_cases h:p n=true
  ·rw [if_pos h,if_pos h,List.map_cons,List.map_cons,ih];rfl
  ·rw [if_neg h,if_neg h];exact ih
section
variable {K:Fg} {a:Addr} {ns:List Int} {p:Int->Bool} {g:Int->V} {Tt:V->Hp->(Bool->Hp->Prop)->Prop} {Te:V->Hp->(V->Hp->Prop)->Prop} {D:Addr} {H1:Hp} {R:Hp->Prop}
theorem q110 (ha:SqL K H1 a (ns.map V.int)) (hD:H1 D=none) (hn:ns.length<=sizeLine) (hT:∀ n ∈ ns,∀ (H:Hp) (Q:Bool->Hp->Prop),Same H1 H->Q (p n) H->Tt (.int n) H Q)
  (hE:∀ n ∈ ns,p n=true -> ∀ (H:Hp) (Q:V->Hp->Prop),Same H1 H->Q (g n) H->Te (.int n) H Q) (hR:R (upd H1 D (.lst ((ns.filter p).map g)))) :
  ∃ W:Nat->Nat->List V->Hp->Prop,(∃ m,W 0 m [] (upd H1 D (.lst []))) /\
   ∀ i m ys H2,W i m ys H2->H2 D=some (.lst ys)/\(((Itl K a).stop i H2/\R H2)\/((Itl K a).go i H2/\ys.length < sizeLine /\ ∃ N:V->Hp->Prop,(∀ y H3,N y H3->H3 D=some (.lst ys) /\ ∃ m',m' < m/\W (i+1) m' (ys++[y]) (upd H3 D (.lst (ys++[y])))) /\
    ∀ x H',(Itl K a).yld i H2 x H'->Tt x H' fun b H3=>if b=true then Te x H3 N else ∃ m',m' < m/\W (i+1) m' ys H3)):=by
 refine q435 (p:=onI p false) (g:=onI g .non) ha hD (by rw [List.length_map];exact hn) (fun x hx H Q s q=>?_) (fun x hx hp H Q s q=>?_) (by rw [filt_onI];exact hR)
 ·obtain ⟨n,hm,rfl⟩:=List.mem_map.mp hx
  exact hT n hm H Q s q
 ·obtain ⟨n,hm,rfl⟩:=List.mem_map.mp hx
  exact hE n hm hp H Q s q
theorem q240 (ha:SqL K H1 a (ns.map V.int)) (hD:H1 D=none) (hn:ns.length<=sizeLine) (hE:∀ n ∈ ns,∀ (H:Hp) (Q:V->Hp->Prop),Same H1 H->Q (g n) H->Te (.int n) H Q) (hR:R (upd H1 D (.lst (ns.map g)))) :
  ∃ W:Nat->Nat->List V->Hp->Prop,(∃ m,W 0 m [] (upd H1 D (.lst []))) /\
   ∀ i m ys H2,W i m ys H2->H2 D=some (.lst ys)/\(((Itl K a).stop i H2/\R H2)\/((Itl K a).go i H2/\ys.length < sizeLine /\ ∃ N:V->Hp->Prop,(∀ y H3,N y H3->H3 D=some (.lst ys) /\ ∃ m',m' < m/\W (i+1) m' (ys++[y]) (upd H3 D (.lst (ys++[y])))) /\
    ∀ x H',(Itl K a).yld i H2 x H'->Te x H' N)):=by
 refine q538 (g:=onI g .non) ha hD (by rw [List.length_map];exact hn) (fun x hx H Q s q=>?_) (by rw [List.map_map];exact hR)
 obtain ⟨n,hm,rfl⟩:=List.mem_map.mp hx
 exact hE n hm H Q s q
end
theorem Keep.free (k:Keep p H H') (hl:H' l=none) (hp:H' p=some o):H l=none:=by
 cases e:H l with
 | none=>rfl
 | some u=>
  have n:l ≠ p:=fun z=>by rw [z,hp] at hl;cases hl
  rw [k l u n e] at hl
  cases hl
theorem Keep.own (k:Keep p H H') (hr:H r=none):Keep p H (upd H' r o):=fun c u hc z=>by
 rw [q31 (q27 z hr)]
 exact k c u hc z
theorem p2pos (L:Nat):(0:Int) < 2 ^ L:=by
 induction L with
 | zero=>decide
 | succ L ih=>rw [Int.pow_succ];omega
theorem p2le {L:Nat} (h:L<=40):(2:Int) ^ L<=1099511627776:=by
 have e:(2:Int) ^ L=((2 ^ L:Nat):Int):=by simp
 have:2 ^ L<=2 ^ 40:=Nat.pow_le_pow_right (by decide) h
 rw [e]
 have e2:(2:Nat) ^ 40=1099511627776:=by decide
 omega
theorem p2half (e:Nat):(2:Int) ^ (e+1) / 2=2 ^ e:=by rw [Int.pow_succ];omega
theorem p2succ (e:Nat):(2:Int) ^ (e+1)=2 ^ e+2 ^ e:=by rw [Int.pow_succ];omega
theorem p2one {e:Nat} (h:(2:Int) ^ e=1):e=0:=by
 cases e with
 | zero=>rfl
 | succ e=>have:=p2pos e;rw [p2succ] at h;omega
theorem q365 (L:Nat):(1:Int) * 2 ^ ((L:Int)).toNat=2 ^ L:=by rw [Int.one_mul];rfl
inductive Alk (K:Fg) (H:Hp):Nat->V->V->Prop where
 | flat {n:Nat} {x:V} (h:flatV x=true):Alk K H n x x
 | tup {n:Nat} {a b:Addr} {xs ys:List V} (ha:SqT K H a xs) (hb:SqT K H b ys) (hl:xs.length=ys.length) (h:∀ (j:Nat) (x y:V),xs[j]? = some x->ys[j]? = some y->Alk K H n x y):Alk K H (n+1) (.ref a) (.ref b)
 | lst {n:Nat} {a b:Addr} {xs ys:List V} (ha:SqL K H a xs) (hb:SqL K H b ys) (hl:xs.length=ys.length) (h:∀ (j:Nat) (x y:V),xs[j]? = some x->ys[j]? = some y->Alk K H n x y):Alk K H (n+1) (.ref a) (.ref b)
theorem eqV_self:∀ {x:V},flatV x=true->eqV x x=true:=by
 intro x h
 cases x <;> simp [flatV] at h <;> simp [eqV]
theorem q484 {A:Around} {xs ys:List V} (I:Inv X pins σ H s) (ha:SqL X.K H a xs) (hb:SqL X.K H b ys) (hl:xs.length=ys.length)
  (he:∀ (j:Nat) (x y:V),xs[j]? = some x->ys[j]? = some y -> ∀ u v,RelV x u->RelV y v->SeqAt.EqAt A.in1 s u v true) (hu:A.units < cLine) :
  SeqAt.RcAt A s (.ref a) (.ref b) true/\SeqAt.RcNeAt A s (.ref a) (.ref b) false:=by
 obtain ⟨its,r1,p1,_⟩:=I.list ha
 obtain ⟨its2,r2,p2,_⟩:=I.list hb
 have l1:=r1.length
 have l2:=r2.length
 have hz:its.toArray.size=its2.toArray.size:=by rw [List.size_toArray,List.size_toArray];omega
 have el:∀ (j:Nat) (h1:j < its.toArray.size) (h2:j < its2.toArray.size),SeqAt.EqAt A.in1 s its.toArray[j] its2.toArray[j] ((fun _=>true) j):=by
  intro j h1 h2
  have h1':j < xs.length:=by rw [List.size_toArray] at h1;omega
  have h2':j < ys.length:=by rw [List.size_toArray] at h2;omega
  obtain ⟨v1,e1,r1'⟩:=r1.get (i:=j) (x:=xs[j]) (List.getElem?_eq_getElem h1')
  obtain ⟨v2,e2,r2'⟩:=r2.get (i:=j) (x:=ys[j]) (List.getElem?_eq_getElem h2')
  have g1:its.toArray[j]=v1:=by
   have:=List.getElem?_eq_some_iff.mp e1
   simpa using this.2
  have g2:its2.toArray[j]=v2:=by
   have:=List.getElem?_eq_some_iff.mp e2
   simpa using this.2
  rw [g1,g2]
  exact he j _ _ (List.getElem?_eq_getElem h1') (List.getElem?_eq_getElem h2') _ _ r1' r2'
 have t0:(List.range its.toArray.size).all (fun _=>true)=true:=by simp
 constructor
 ·rw [<- t0]
  exact SeqAt.RcAt.lists p1.isList p2.isList hz hu el
 ·have z:=SeqAt.RcNeAt.lists (e:=fun _=>true) p1.isList p2.isList hz hu el
  rw [t0] at z
  exact z
theorem q485 (I:Inv X pins σ H s) {n:Nat} (h:Alk X.K H n x y):∀ (A:Around) (u v:Value),RelV x u->RelV y v->A.units+n+1 < cLine->SeqAt.EqAt A s u v true:=by
 induction h with
 | @flat n x hf=>
  intro A u v ru rv hu
  have z:=q477 (A:=A) (s:=s) ru rv hf hf
  rw [eqV_self hf] at z
  exact z
 | tup ha hb hl _ ih=>
  intro A u v ru rv hu
  cases ru
  cases rv
  exact q160 (q159 I ha hb hl (fun j x y h1 h2 u v r1 r2=>ih j x y h1 h2 A.in1 u v r1 r2 (by show A.units+1+_+1 < cLine;omega)) (by omega)).1
 | lst ha hb hl _ ih=>
  intro A u v ru rv hu
  cases ru
  cases rv
  exact q160 (q484 I ha hb hl (fun j x y h1 h2 u v r1 r2=>ih j x y h1 h2 A.in1 u v r1 r2 (by show A.units+1+_+1 < cLine;omega)) (by omega)).1
theorem q486 (I:Inv X pins σ H s) {n:Nat} (h:Alk X.K H n (.ref a) (.ref b)) (A:Around) (hu:A.units+n+1 < cLine):SeqAt.RcAt A s (.ref a) (.ref b) true/\SeqAt.RcNeAt A s (.ref a) (.ref b) false:=by
 cases h with
 | flat hf=>exact absurd hf (by simp [flatV])
 | tup ha hb hl h=>exact q159 I ha hb hl (fun j x y h1 h2 u v r1 r2=>q485 I (h j x y h1 h2) A.in1 u v r1 r2 (by show A.units+1+_+1 < cLine;omega)) (by omega)
 | lst ha hb hl h=>exact q484 I ha hb hl (fun j x y h1 h2 u v r1 r2=>q485 I (h j x y h1 h2) A.in1 u v r1 r2 (by show A.units+1+_+1 < cLine;omega)) (by omega)
theorem q319 (hu:X.A.units+64 < cLine):OpR X (compareOp .NotEq) (fun x y H Q=>∃ (n:Nat) (a b:Addr),x = .ref a/\y = .ref b/\Alk X.K H n (.ref a) (.ref b)/\n<=60/\Q (.bl false) H):=by
 intro pins s σ H x y v u Q I rx ry h
 obtain ⟨n,a,b,rfl,rfl,hk,hn,q⟩:=h
 cases rx
 cases ry
 exact (q486 I hk X.A (by omega)).2 _ _ _ _ ⟨.bl false,H,I,rfl,q⟩
theorem op_eqAlk (hu:X.A.units+64 < cLine):OpR X (compareOp .Eq) (fun x y H Q=>∃ (n:Nat) (a b:Addr),x = .ref a/\y = .ref b/\Alk X.K H n (.ref a) (.ref b)/\n<=60/\Q (.bl true) H):=by
 intro pins s σ H x y v u Q I rx ry h
 obtain ⟨n,a,b,rfl,rfl,hk,hn,q⟩:=h
 cases rx
 cases ry
 exact (q486 I hk X.A (by omega)).1 _ _ _ _ ⟨.bl true,H,I,rfl,q⟩
def q615 (i k:Nat) (wi:TI) (gt:TG) (tt:TT) (te:TE) (fr:List Nat):TS:=fun D σ H=>tCompG k wi gt tt te fr σ H fun v H1=>D.nx (σ.set i (some v)) H1
theorem q436 {X:Cx} {i:Nat} {spos:Pos} {scope:Scope} {cl:List (Str × Addr)} {N:List Str} {fr:List Nat}
  (hN:X.N.Nodup) (hiN:X.N[i]? = some y) (hy:Loc X.env.scope y)
  (hc:X.calm=true) (hi:PI X tg iter wi) (he:∀ (C:Addr) (s₂:Shared) (H₂:Hp) (fp:List Addr),PE (q59 X scope cl C x (TN++N) s₂ H₂ fp) elt te) (hct:∀ (C:Addr) (s₂:Shared) (H₂:Hp) (fp:List Addr),PTs (q59 X scope cl C x (TN++N) s₂ H₂ fp) ifs tt) (hgt:∀ (C:Addr) (s₂:Shared) (H₂:Hp) (fp:List Addr),PG (q59 X scope cl C x (TN++N) s₂ H₂ fp) tg gt)
  (hclos:closureFor scope X.env=pure cl) (hcl:q90 X.env cl) (hcn:cl.map (·.1)=cn) (hsc:X.env.scope=sc0) (hk:scope.kind = .function) (hok:CompOkG scope sc0 N cn)
  (hfr:fr.map (fun j=>X.N[j]?)=N.map some) (hsw:swapsWith (.ListComp elt [⟨tg,iter,ifs,0⟩] scope pos) (some (.Name y py)) spos.line X.env=pure true)
  (hf:X.fn y=true\/X.env.scope.names.lookup y=some .local) (hs:∀ v,foldedSetIterable iter X.env v=pure v:=by intro _;rfl) :
  PS X (.Assign [.Name y py] (.ListComp elt [⟨tg,iter,ifs,0⟩] scope pos) spos) (q615 i (TN.length+1) wi gt tt te fr):=by
 intro pins s σ H D I h
 rw [exec_Assign_Name_used _ _ _ _ hsw]
 refine wpAny_bind (wpAny_standAt (wpAny_bind ?_))
 show wpAny _ X.A (do let _ <- comprehension (.ListComp elt [⟨tg,iter,ifs,0⟩] scope pos) scope X.env _ (newList []) false (eval iter X.env) (some (assign (.Name y py) X.env))) _ _ s
 refine wpAny_bind (wpAny_mono (wpAny_comprehension_free (use:=some (assign (.Name y py) X.env)) (Q:=fun _ s'=>SP X pins D .next s') rfl hs hclos hk hok.names
  (thn (hi pins s σ H _ I h) fun v s1 h1=>thn h1 fun itv s2 h2=>?_)) (fun _ s' hq=>wpAny_pure (wpAny_pure hq)) fun _ _ e=>e)
 obtain ⟨it,fp,tn,J,H2,e,I2,T,st2,f2,hq⟩:=h2
 subst e
 obtain ⟨W,⟨m0,w0⟩,turn⟩:=hq s2.heap.objs.size (I2.hok.fresh (Nat.le_refl _))
 refine q185 (RR:=fun acc C=>compPost (model X.prog X.w) X.A X.xe (some (assign (.Name y py) X.env)) (fun _ s'=>SP X pins D .next s') acc C) (R:=fun H6=>D.nx (σ.set i (some (.ref s2.heap.objs.size))) H6) hc he hct hgt hcl hcn hsc hk hok hfr I2 T st2 f2 w0 turn
  fun C H6 s6 m6 hn I6 F6 q=>?_
 show wpAny _ X.A (assign (.Name y py) X.env (.ref s2.heap.objs.size)) _ _ _
 refine wpAny_assign_Name (q224 (v:=.ref s2.heap.objs.size) I6 hN hiN hy rfl (fun s7 I7 ⟨a,sb,ha⟩=>?_) hf)
 have neC:C ≠ a:=by
  rcases ha with ha | ha
  ·rw [ha];exact F6.2.1
  ·exact Ne.symm (F6.2.2.2.2.1 y a ha)
 exact ⟨m6,hn.sameBut sb neC,fun h' sb'=>⟨_,H6,I7.let_go F6 sb',q⟩⟩
theorem q539 {K:Fg} {a:Addr} {xs:List V} {Tn:V->Hp->(V->Hp->Prop)->(Hp->Prop)->Prop} {D:Addr} {H1:Hp} {R:Hp->Prop} (hn:xs.length<=sizeLine) (Pv:Nat->List V->Hp->Prop) (h0:Pv 0 [] (upd H1 D (.lst [])))
  (hl:∀ i ys H,Pv i ys H->SqL K H a xs) (hD:∀ i ys H,Pv i ys H->H D=some (.lst ys)/\ys.length<=i)
  (hs:∀ i x ys H,xs[i]? = some x->Pv i ys H->Tn x H (fun y H3=>H3 D=some (.lst ys)/\Pv (i+1) (ys++[y]) (upd H3 D (.lst (ys++[y])))) (Pv (i+1) ys))
  (hd:∀ ys H,Pv xs.length ys H->R H) :
  ∃ W:Nat->Nat->List V->Hp->Prop,(∃ m,W 0 m [] (upd H1 D (.lst []))) /\
   ∀ i m ys H2,W i m ys H2->H2 D=some (.lst ys)/\(((Itl K a).stop i H2/\R H2)\/((Itl K a).go i H2/\ys.length < sizeLine /\ ∃ (N:V->Hp->Prop) (Z:Hp->Prop),(∀ y H3,N y H3->H3 D=some (.lst ys) /\ ∃ m',m' < m/\W (i+1) m' (ys++[y]) (upd H3 D (.lst (ys++[y]))))/\(∀ H3,Z H3 -> ∃ m',m' < m/\W (i+1) m' ys H3) /\
    ∀ x H',(Itl K a).yld i H2 x H'->Tn x H' N Z)):=by
 refine ⟨fun i m ys H=>m=xs.length - i/\i<=xs.length/\Pv i ys H,⟨xs.length,by simp,Nat.zero_le _,h0⟩,?_⟩
 rintro i m ys H2 ⟨rfl,hi,p⟩
 obtain ⟨d1,d2⟩:=hD i ys H2 p
 have q:=hl i ys H2 p
 refine ⟨d1,?_⟩
 by_cases hlt:i < xs.length
 ·refine .inr ⟨⟨xs,xs[i],q,by simp [hlt]⟩,by omega,fun y H3=>H3 D=some (.lst ys)/\Pv (i+1) (ys++[y]) (upd H3 D (.lst (ys++[y]))),Pv (i+1) ys,fun y H3 ⟨z1,z2⟩=>⟨z1,xs.length - (i+1),by omega,rfl,hlt,z2⟩,fun H3 z=>⟨xs.length - (i+1),by omega,rfl,hlt,z⟩,fun x H' y=>?_⟩
  obtain ⟨e,y⟩:=y
  subst e
  exact hs i x ys _ (y xs q) p
 ·have e:i=xs.length:=by omega
  subst e
  exact .inl ⟨⟨xs,q,Nat.le_refl _⟩,hd ys H2 p⟩
theorem q616 (hc:X.calm=true):CallR X (.builtin "sum") (fun xs H Q=>∃ (p:Addr) (ns:List Int),xs=[.ref p]/\SqL X.K H p (ns.map V.int)/\Q (.int ns.sum) H):=by
 intro pins s σ H xs us Q I r h
 obtain ⟨p,ns,rfl,hq,q⟩:=h
 obtain ⟨u,rfl,rx⟩:=vals1 r
 cases rx
 obtain ⟨its,r',pl,hz⟩:=I.list hq
 have hi:=q85 r'
 obtain ⟨ys,hx⟩:=hi.allInts.items
 have hl':s.heap.IsList p (intItems ys):=hx ▸ pl.isList
 refine sum_intListG (I.ok.hd hc) hl' fun h' tk t' hk=>?_
 have e1:ns=ys.toList.map (·.1):=by
  rw [<- nums_intItems,<- hx]
  exact (show numsOf its.toArray.toList=ns from hi.numsOf).symm
 have e2:preSum (numAt ys) ys.size=ns.sum:=by
  rw [preSum_eq,List.take_of_length_le (by simp),e1]
 rw [e2]
 exact ⟨.int ns.sum,H,I.kept (t':=tk) hk,⟨_,rfl⟩,q⟩
theorem pg_tupK {K:Fg} {es:List Expr} {k:Nat} {t:TGs} {n:Nat} {pos:Pos} (hK:X.K=K) (hc:X.calm=true) (h:PGs X es t)
  (hn:(assignEach es X.env).length=n:=by rfl) (hst:(assignEach es X.env).findIdx? (·.1)=none:=by rfl):PG X (.Tuple es k pos) (gTup K n t):=by subst hK;exact q225 hc h hn hst
theorem q187 {K:Fg} {a:Addr} {xs:List V} {T:V->Hp->(V->Hp->Prop)->Prop} {D:Addr} {H1:Hp} {R:Hp->Prop} (hn:xs.length<=sizeLine) (Pv:Nat->List V->Hp->Prop) (h0:Pv 0 [] (upd H1 D (.lst [])))
  (hl:∀ i ys H,Pv i ys H->SqL K H a xs) (hD:∀ i ys H,Pv i ys H->H D=some (.lst ys)/\ys.length=i)
  (hs:∀ i x ys H,xs[i]? = some x->Pv i ys H->T x H fun y H3=>H3 D=some (.lst ys)/\Pv (i+1) (ys++[y]) (upd H3 D (.lst (ys++[y]))))
  (hd:∀ ys H,Pv xs.length ys H->R H) :
  ∃ W:Nat->Nat->List V->Hp->Prop,(∃ m,W 0 m [] (upd H1 D (.lst []))) /\
   ∀ i m ys H2,W i m ys H2->H2 D=some (.lst ys)/\(((Itl K a).stop i H2/\R H2)\/((Itl K a).go i H2/\ys.length < sizeLine /\ ∃ N:V->Hp->Prop,(∀ y H3,N y H3->H3 D=some (.lst ys) /\ ∃ m',m' < m/\W (i+1) m' (ys++[y]) (upd H3 D (.lst (ys++[y])))) /\
    ∀ x H',(Itl K a).yld i H2 x H'->T x H' N)):=by
 refine ⟨fun i m ys H=>m=xs.length - i/\i<=xs.length/\Pv i ys H,⟨xs.length,by simp,Nat.zero_le _,h0⟩,?_⟩
 rintro i m ys H2 ⟨rfl,hi,p⟩
 obtain ⟨d1,d2⟩:=hD i ys H2 p
 have q:=hl i ys H2 p
 refine ⟨d1,?_⟩
 by_cases hlt:i < xs.length
 ·refine .inr ⟨⟨xs,xs[i],q,by simp [hlt]⟩,by omega,fun y H3=>H3 D=some (.lst ys)/\Pv (i+1) (ys++[y]) (upd H3 D (.lst (ys++[y]))),fun y H3 ⟨z1,z2⟩=>⟨z1,xs.length - (i+1),by omega,rfl,hlt,z2⟩,fun x H' y=>?_⟩
  obtain ⟨e,y⟩:=y
  subst e
  exact hs i x ys _ (y xs q) p
 ·have e:i=xs.length:=by omega
  subst e
  exact .inl ⟨⟨xs,q,Nat.le_refl _⟩,hd ys H2 p⟩
end L2
namespace HT
set_option autoImplicit false
open PySem PySem.Spec PyProof.Rows
section
open PySem.SeqAt
open PySem.AutoSeq1 (wpAny_loadPart')
open PySem.MeetsSeq PySem.MeetsSeq2 PySem.MeetsSeq3
end
end HT
namespace L2
open PySem PySem.Spec PyProof.Rows
variable {X:Cx}
theorem q437 {K:Fg} {a:Addr} {xs:List V} {Tt:V->Hp->(Bool->Hp->Prop)->Prop} {Te:V->Hp->(V->Hp->Prop)->Prop} {D:Addr} {H1:Hp} {R:Hp->Prop} (hn:xs.length<=sizeLine) (Pv:Nat->List V->Hp->Prop) (h0:Pv 0 [] (upd H1 D (.lst [])))
  (hl:∀ i ys H,Pv i ys H->SqT K H a xs) (hD:∀ i ys H,Pv i ys H->H D=some (.lst ys)/\ys.length<=i)
  (hs:∀ i x ys H,xs[i]? = some x->Pv i ys H->Tt x H fun b H3=>if b=true then Te x H3 (fun y H4=>H4 D=some (.lst ys)/\Pv (i+1) (ys++[y]) (upd H4 D (.lst (ys++[y])))) else ∃ m',m' < xs.length - i/\m'=xs.length - (i+1)/\i+1<=xs.length/\Pv (i+1) ys H3)
  (hd:∀ ys H,Pv xs.length ys H->R H) :
  ∃ W:Nat->Nat->List V->Hp->Prop,(∃ m,W 0 m [] (upd H1 D (.lst []))) /\
   ∀ i m ys H2,W i m ys H2->H2 D=some (.lst ys)/\(((Itt K a).stop i H2/\R H2)\/((Itt K a).go i H2/\ys.length < sizeLine /\ ∃ N:V->Hp->Prop,(∀ y H3,N y H3->H3 D=some (.lst ys) /\ ∃ m',m' < m/\W (i+1) m' (ys++[y]) (upd H3 D (.lst (ys++[y])))) /\
    ∀ x H',(Itt K a).yld i H2 x H'->Tt x H' fun b H3=>if b=true then Te x H3 N else ∃ m',m' < m/\W (i+1) m' ys H3)):=by
 refine ⟨fun i m ys H=>m=xs.length - i/\i<=xs.length/\Pv i ys H,⟨xs.length,by simp,Nat.zero_le _,h0⟩,?_⟩
 rintro i m ys H2 ⟨rfl,hi,p⟩
 obtain ⟨d1,d2⟩:=hD i ys H2 p
 have q:=hl i ys H2 p
 refine ⟨d1,?_⟩
 by_cases hlt:i < xs.length
 ·refine .inr ⟨⟨xs,xs[i],q,by simp [hlt]⟩,by omega,fun y H3=>H3 D=some (.lst ys)/\Pv (i+1) (ys++[y]) (upd H3 D (.lst (ys++[y]))),fun y H3 ⟨z1,z2⟩=>⟨z1,xs.length - (i+1),by omega,rfl,hlt,z2⟩,fun x H' y=>?_⟩
  obtain ⟨e,y⟩:=y
  subst e
  exact hs i x ys _ (y xs q) p
 ·have e:i=xs.length:=by omega
  subst e
  exact .inl ⟨⟨xs,q,Nat.le_refl _⟩,hd ys H2 p⟩
theorem q127 {K:Fg} {a:Addr} {xs:List V} {Tt:V->Hp->(Bool->Hp->Prop)->Prop} {Te:V->Hp->(V->Hp->Prop)->Prop} {D:Addr} {H1:Hp} {R:Hp->Prop} (hn:xs.length<=sizeLine) (Pv:Nat->List V->Hp->Prop) (h0:Pv 0 [] (upd H1 D (.lst [])))
  (hl:∀ i ys H,Pv i ys H->SqL K H a xs) (hD:∀ i ys H,Pv i ys H->H D=some (.lst ys)/\ys.length<=i)
  (hs:∀ i x ys H,xs[i]? = some x->Pv i ys H->Tt x H fun b H3=>if b=true then Te x H3 (fun y H4=>H4 D=some (.lst ys)/\Pv (i+1) (ys++[y]) (upd H4 D (.lst (ys++[y])))) else ∃ m',m' < xs.length - i/\m'=xs.length - (i+1)/\i+1<=xs.length/\Pv (i+1) ys H3)
  (hd:∀ ys H,Pv xs.length ys H->R H) :
  ∃ W:Nat->Nat->List V->Hp->Prop,(∃ m,W 0 m [] (upd H1 D (.lst []))) /\
   ∀ i m ys H2,W i m ys H2->H2 D=some (.lst ys)/\(((Itl K a).stop i H2/\R H2)\/((Itl K a).go i H2/\ys.length < sizeLine /\ ∃ N:V->Hp->Prop,(∀ y H3,N y H3->H3 D=some (.lst ys) /\ ∃ m',m' < m/\W (i+1) m' (ys++[y]) (upd H3 D (.lst (ys++[y])))) /\
    ∀ x H',(Itl K a).yld i H2 x H'->Tt x H' fun b H3=>if b=true then Te x H3 N else ∃ m',m' < m/\W (i+1) m' ys H3)):=by
 refine ⟨fun i m ys H=>m=xs.length - i/\i<=xs.length/\Pv i ys H,⟨xs.length,by simp,Nat.zero_le _,h0⟩,?_⟩
 rintro i m ys H2 ⟨rfl,hi,p⟩
 obtain ⟨d1,d2⟩:=hD i ys H2 p
 have q:=hl i ys H2 p
 refine ⟨d1,?_⟩
 by_cases hlt:i < xs.length
 ·refine .inr ⟨⟨xs,xs[i],q,by simp [hlt]⟩,by omega,fun y H3=>H3 D=some (.lst ys)/\Pv (i+1) (ys++[y]) (upd H3 D (.lst (ys++[y]))),fun y H3 ⟨z1,z2⟩=>⟨z1,xs.length - (i+1),by omega,rfl,hlt,z2⟩,fun x H' y=>?_⟩
  obtain ⟨e,y⟩:=y
  subst e
  exact hs i x ys _ (y xs q) p
 ·have e:i=xs.length:=by omega
  subst e
  exact .inl ⟨⟨xs,q,Nat.le_refl _⟩,hd ys H2 p⟩
def tTupF (t:TA):TE:=fun σ H Q=>t σ H fun xs H1=>xs.length<=sizeLine /\ ∀ p H',Same H1 H'->TupF H' p xs->Q (.ref p) H'
theorem q617 {x1} (h:PA X es t):PE X (.Tuple es x1 pos) (tTupF t):=by
 intro pins s σ H Q I hq
 refine wpAny_Tuple_spliced (thn (h pos pins s σ H _ I hq) fun us s1 ⟨xs,H1,I1,r,z,q⟩=>⟨by rw [<- r.length];exact z,?_⟩)
 have hf:H1 s1.heap.objs.size=none:=I1.hok.fresh (Nat.le_refl _)
 refine ⟨.ref s1.heap.objs.size,upd H1 s1.heap.objs.size (.frz { cls:=.type "tuple", data:=.seq us.toArray } (.tup xs)),I1.laid (t':=s1.toks) (fun b u e=>Heap.get?_push_of_some _ e) (Nat.le_refl _) ?_,rfl,q _ _ (q16 hf _) ⟨_,q14,rfl,rfl⟩⟩
 exact ⟨Heap.get?_push_size _ rfl,z,us,r,⟨_,Heap.get?_push_size _ rfl,rfl,_,rfl⟩⟩
theorem q320:OpR X (binaryOp .Add) (fun x y H Q=>∃ a b xs ys,x = .ref a/\y = .ref b/\TupF H a xs/\TupF H b ys/\xs.length+ys.length<=sizeLine /\
  ∀ p H',Same H H'->TupF H' p (xs++ys)->Q (.ref p) H'):=by
 intro pins s σ H x y v u Q I rx ry h
 obtain ⟨a,b,xs,ys,rfl,rfl,ha,hb,hz,q1⟩:=h
 cases rx
 cases ry
 obtain ⟨its,r1,p1,_⟩:=I.tuple (ha.sq (K:=X.K))
 obtain ⟨its2,r2,p2,_⟩:=I.tuple (hb.sq (K:=X.K))
 have hz':its.length+its2.length<=sizeLine:=by rw [<- r1.length,<- r2.length];exact hz
 obtain ⟨⟨cls,dd,data,sl⟩,ho,hc,n,hd⟩:=id p1
 obtain ⟨⟨cls2,dd2,data2,sl2⟩,ho2,hc2,n2,hd2⟩:=id p2
 simp only at hc hd hc2 hd2
 subst hc hd hc2 hd2
 have e:its.toArray++its2.toArray=(its++its2).toArray:=by simp
 by_cases hv:its=[]
 ·have hx:xs=[]:=r1.nil_iff.mp hv
  subst hx
  exact concat_meets ⟨_,ho,rfl⟩ ⟨_,ho2,rfl⟩ noFill_tuple_add seq_tuple_add PySem.F.slot_tuple_add PySem.F.entry_tuple_add (PySem.F.args_tuple_add_2 _ _)
   (tuple_addW0 a b its.toArray its2.toArray n n2 dd dd2 sl sl2 (by simp [hv])) ⟨ho,ho2,⟨.ref b,H,I,rfl,q1 b H (Same.refl H) (by simpa using hb)⟩⟩
 ·by_cases hw:its2=[]
  ·have hy:ys=[]:=r2.nil_iff.mp hw
   subst hy
   exact concat_meets ⟨_,ho,rfl⟩ ⟨_,ho2,rfl⟩ noFill_tuple_add seq_tuple_add PySem.F.slot_tuple_add PySem.F.entry_tuple_add (PySem.F.args_tuple_add_2 _ _)
    (tuple_addW1 a b its.toArray its2.toArray n n2 dd dd2 sl sl2 (by simpa using hv) (by simp [hw])) ⟨ho,ho2,⟨.ref a,H,I,rfl,q1 a H (Same.refl H) (by simpa using ha)⟩⟩
  ·refine concat_meets ⟨_,ho,rfl⟩ ⟨_,ho2,rfl⟩ noFill_tuple_add seq_tuple_add PySem.F.slot_tuple_add PySem.F.entry_tuple_add (PySem.F.args_tuple_add_2 _ _)
    (tuple_addW2 a b its.toArray its2.toArray n n2 dd dd2 sl sl2 (by simpa using hv) (by simpa using hw) (by rw [List.size_toArray,List.size_toArray];exact hz')) ⟨ho,ho2,?_⟩
   rw [e]
   refine ⟨.ref s.heap.objs.size,upd H s.heap.objs.size (.frz { cls:=.type "tuple", data:=.seq (its++its2).toArray } (.tup (xs++ys))),I.laid (t':=s.toks) (fun b ob q=>Heap.get?_push_of_some _ q) (Nat.le_refl _) ?_,rfl,q1 _ _ (q16 (I.hok.fresh (Nat.le_refl _)) _) ⟨_,q14,rfl,rfl⟩⟩
   exact ⟨Heap.get?_push_size _ rfl,by rw [List.length_append];exact hz,_,r1.append r2,IsTup.new _ _⟩
section
def tChain3 (r r' r'':R2) (ta tb tc td:TE):TE:=fun σ H Q=>ta σ H fun x H1=>tb σ H1 fun y H2=>r x y H2 fun z H3=>∃ k,z = .bl k /\
 (if k=true then tc σ H3 fun w' H4=>r' y w' H4 fun z2 H5=>∃ k2,z2 = .bl k2/\(if k2=true then td σ H5 fun w'' H6=>r'' w' w'' H6 Q else Q (.bl false) H5) else Q (.bl false) H3)
variable {a b c d:Expr} {ta tb tc td:TE} {pos:Pos}
theorem q618 (ho:OpR X (compareOp op) r) (ho':OpR X (compareOp op') r') (ho'':OpR X (compareOp op'') r'') (ha:PE X a ta) (hb:PE X b tb) (hc:PE X c tc) (hd:PE X d td)
  (hm:lastMarks [op,op',op''] [b,c,d]=false:=by with_unfolding_all rfl):PT X (.Compare a [op,op',op''] [b,c,d] pos) (tTest (tChain3 r r' r'' ta tb tc td)):=by
 intro pins s σ H Q I h
 refine isTrue_chain (thn (ha pins s σ H _ I h) fun v s1 ⟨x,H1,I1,r1,q1⟩=>test_link (thn (hb pins s1 σ H1 _ I1 q1) fun u s2 ⟨y,H2,I2,r2,q2⟩=>
  thn (ho pins s2 σ H2 x y v u _ I2 r1 r2 q2) fun d' s3 ⟨z,H3,I3,r3,k,e,q3⟩=>?_)) hm
 subst e
 cases r3
 refine wpAny_truthy_bool ?_
 cases k with
 | false=>
  obtain ⟨k',e',q'⟩:=q3
  cases e'
  exact ite_ff ⟨H3,I3,q'⟩
 | true=>
  refine ite_tt (test_link (thn (hc pins s3 σ H3 _ I3 q3) fun w' s4 ⟨z',H4,I4,r4,q4⟩=>thn (ho' pins s4 σ H4 y z' u w' _ I4 r2 r4 q4) fun d2 s5 ⟨z2,H5,I5,r5,k2,e2,q5⟩=>?_))
  subst e2
  cases r5
  refine wpAny_truthy_bool ?_
  cases k2 with
  | false=>
   obtain ⟨k',e',q'⟩:=q5
   cases e'
   exact ite_ff ⟨H5,I5,q'⟩
  | true=>
   refine ite_tt (test_last (thn (hd pins s5 σ H5 _ I5 q5) fun w'' s6 ⟨z'',H6,I6,r6,q6⟩=>thn (ho'' pins s6 σ H6 z' z'' w' w'' _ I6 r4 r6 q6) fun d3 s7 ⟨z3,H7,I7,r7,k3,e3,q7⟩=>?_))
   subst e3
   cases r7
   exact wpAny_truthy_bool ⟨H7,I7,q7⟩
end
section
variable {K:Fg}
theorem q487 (hK:X.K=K):CallR X (.builtin "isinstance") (fun xs H Q=>∃ x c t b,xs=[x,.ty c]/\(TyOf K H x t \/ ∃ a ys,x = .ref a/\SqT K H a ys/\t = .type "tuple")/\PySem.W.kitOne K t (.type c)=some b/\Q (.bl b) H):=by
 subst hK
 intro pins s σ H xs us Q I r h
 obtain ⟨x,c,t,b,rfl,ty,e,q⟩:=h
 obtain ⟨u,w',rfl,ru,rw'⟩:=vals2 r
 cases rw'
 rcases ty with ty | ⟨a,ys,rfl,ht,rfl⟩
 ·exact q594 I ru ty e fun tk=>⟨.bl b,H,I.tok tk,rfl,q⟩
 ·cases ru
  obtain ⟨its,r1,p1,_⟩:=I.tuple ht
  obtain ⟨o,h1,h2,_⟩:=id p1
  exact PySem.W.kia_one PySem.W.kitx_tuple I.kIn ⟨o,h1,h2⟩ e (fun z=>nomatch z) fun tk=>⟨.bl b,H,I.tok tk,rfl,q⟩
theorem q540:PySem.W.kitAny K (.type "int") [.type "int", .type "str"]=some true:=by kernel_rfl
theorem q541:PySem.W.kitAny K (.type "str") [.type "int", .type "str"]=some true:=by kernel_rfl
theorem q366:PySem.W.kitOne K (.type "str") (.type "bool")=some false:=by kernel_rfl
theorem q619 (hK:X.K=K):CallR X (.builtin "isinstance") (fun xs H Q=>∃ x tp,xs=[x,.ref tp]/\((∃ n,x = .int n) \/ ∃ y,x = .str y)/\SqT K H tp [.ty "int", .ty "str"]/\Q (.bl true) H):=by
 subst hK
 intro pins s σ H xs us Q I r h
 obtain ⟨x,tp,rfl,hx,ht,q⟩:=h
 obtain ⟨u,w',rfl,ru,rw'⟩:=vals2 r
 cases rw'
 obtain ⟨its,r1,p1,_⟩:=I.tuple ht
 obtain ⟨⟨cls,dd,data,sl⟩,ho,hc,n,hd⟩:=id p1
 simp only at hc hd
 subst hc hd
 have z:its=[.type "int", .type "str"]:=by
  obtain ⟨u1,u2,rfl,q1,q2⟩:=vals2 r1
  cases q1
  cases q2
  rfl
 subst z
 rcases hx with ⟨n,rfl⟩ | ⟨y,rfl⟩
 ·obtain ⟨t,rfl⟩:=ru
  exact PySem.W.kia_tup PySem.W.kitx_int I.kIn True.intro ho q540 (fun z=>nomatch z) fun tk=>⟨.bl true,H,I.tok tk,rfl,q⟩
 ·obtain ⟨t,rfl⟩:=ru
  exact PySem.W.kia_tup PySem.W.kitx_str I.kIn True.intro ho q541 (fun z=>nomatch z) fun tk=>⟨.bl true,H,I.tok tk,rfl,q⟩
end
end L2
namespace TS
set_option autoImplicit false
open PySem PySem.W PyProof.Rows
abbrev M2:=StateT SortSt Sem
noncomputable def gallop':Bool->Keyed->Array Keyed->Nat->Nat->Nat->M2 (Option Nat):=sortPriv% PySem.Builtin.gallop
noncomputable def mergeLo':Array Keyed->Array Keyed->M2 (Array Keyed):=sortPriv% PySem.Builtin.mergeLo
def mergeHi':Array Keyed->Array Keyed->M2 (Array Keyed):=sortPriv% PySem.Builtin.mergeHi
def setMG':Nat->M2 Unit:=sortPriv% PySem.Builtin.setMinGallop
section
variable {prog:Program} {w:World} {A:Around} {E:VS}
theorem c_for {β:Type} {f:Nat->β->M2 (ForInStep β)} {Q:β->SortSt->Shared->Prop} (I:Nat->β->SortSt->Shared->Prop) :
  ∀ (l:List Nat) (n:Nat) (b:β) (st:SortSt) (s:Shared),I n b st s->(∀ b st s,I (n+l.length) b st s->Q b st s) ->
  (∀ k x b st s,n<=k->k < n+l.length->I k b st s->kasC (model prog w) A E (f x b) (fun r st' s'=>match r with | .done b'=>Q b' st' s' | .yield b'=>I (k+1) b' st' s') st s) ->
  kasC (model prog w) A E (forIn l b f) Q st s
 | [],n,b,st,s,hi,hq,_=>kasC_nil (hq b st s hi)
 | x::l,n,b,st,s,hi,hq,hs=>by
  refine kasC_cons (wpAny_mono (hs n x b st s (Nat.le_refl _) (by simp) hi) (fun r s' h=>?_) fun _ _ e=>e)
  obtain ⟨r,st'⟩:=r
  cases r with
  | done b'=>exact h
  | yield b'=>
   refine c_for I l (n+1) b' st' s' h (fun b st s hb=>hq b st s (by simpa [Nat.add_assoc,Nat.add_comm,Nat.add_left_comm] using hb)) (fun k x b st s h1 h2 h3=>hs k x b st s (by omega) (by simp at h2 ⊢;omega) h3)
theorem c_range {β:Type} {f:Nat->β->M2 (ForInStep β)} {Q:β->SortSt->Shared->Prop} {n:Nat} {b:β} {st:SortSt} {s:Shared} (I:Nat->β->SortSt->Shared->Prop) (h0:I 0 b st s) (hq:∀ b st s,I n b st s->Q b st s)
  (hs:∀ k x b st s,k < n->I k b st s->kasC (model prog w) A E (f x b) (fun r st' s'=>match r with | .done b'=>Q b' st' s' | .yield b'=>I (k+1) b' st' s') st s):kasC (model prog w) A E (forIn [0:n] b f) Q st s:=by
 refine kasC_range (c_for I (List.range' 0 (n - 0)) 0 b st s h0 (fun b st s h=>hq b st s ?_) (fun k x b st s h1 h2 h3=>hs k x b st s ?_ h3))
 ·simpa using h
 ·simpa using h2
theorem q82 {β:Type} {f:Nat->β->M2 (ForInStep β)} {Q:β->SortSt->Shared->Prop} {n:Nat} {b:β} {st:SortSt} {s:Shared} (I:Nat->β->SortSt->Shared->Prop) (R:β->SortSt->Shared->Prop) (h0:I 0 b st s) (he:∀ b st s,I n b st s->R b st s)
  (hs:∀ k x b st s,k < n->I k b st s->kasC (model prog w) A E (f x b) (fun r st' s'=>match r with | .done b'=>R b' st' s' | .yield b'=>I (k+1) b' st' s') st s) (hR:∀ b st s,R b st s->Q b st s):kasC (model prog w) A E (forIn [0:n] b f) Q st s:=
 wpAny_mono (c_range I h0 he hs) (fun r s' h=>hR _ _ _ h) fun _ _ e=>e
theorem q55 {arr:Array Keyed} {i:Nat} {Q:Keyed->SortSt->Shared->Prop} {st:SortSt} {s:Shared} (hi:i < arr.size) (h:Q (kas_item arr i) st s):kasC (model prog w) A E (elem' arr i) Q st s:=by
 rw [elem'_eq]
 have e:arr[i]? = some (kas_item arr i):=by
  unfold kas_item
  simp [Array.getD,hi]
 rw [e]
 exact kasC_pure h
def Good (prog:Program) (w:World) (A:Around) (E:VS) (κ:SortKind) (P:Keyed->Prop) (lt:Keyed->Keyed->Bool) (s:Shared):Prop:=
 ∀ (x y:Keyed) (st:SortSt) (Q:Option Bool->SortSt->Shared->Prop),P x->P y->kindOf st=κ->Q (some (lt x y)) st s->kasC (model prog w) A E (lt' x y) Q st s
variable {κ:SortKind} {P:Keyed->Prop} {lt:Keyed->Keyed->Bool}
theorem q188 {s:Shared} (G:Good prog w A E κ P lt s) {left:Bool} {key:Keyed} {arr:Array Keyed} {base n hint k:Nat} {Q:Option Nat->SortSt->Shared->Prop} {st:SortSt} (hst:kindOf st=κ) (hk:P key) (hP:∀ i,i < n->P (kas_item arr (base+i)))
  (hsz:base+n<=arr.size) (hh:hint < n) (hkn:k<=n) (hB:∀ i,i < n->(if left=true then lt (kas_item arr (base+i)) key else !(lt key (kas_item arr (base+i))))=decide (i < k)) (h:Q (some k) st s) :
  kasC (model prog w) A E (gallop' left key arr base n hint) Q st s:=by
 have bey:∀ (i:Nat) (Q':Option Bool->SortSt->Shared->Prop),i < n->Q' (some (decide (i < k))) st s->kasC (model prog w) A E (do
   let x <- elem' arr (base+i)
   if left=true then lt' x key else do
    let r <- lt' key x
    pure (Option.map (fun x=>!x) r)) Q' st s:=by
  intro i Q' hi hq
  refine kasC_bind (q55 (by omega) ?_)
  have hb:=hB i hi
  cases left with
  | true=>
   rw [if_pos rfl] at hb ⊢
   exact G _ _ _ _ (hP i hi) hk hst (by rw [hb];exact hq)
  | false=>
   rw [if_neg fnt] at hb ⊢
   refine kasC_bind (G _ _ _ _ hk (hP i hi) hst (kasC_pure ?_))
   show Q' (some (!(lt key (kas_item arr (base+i))))) st s
   rw [hb]
   exact hq
 refine kasC_bind (bey hint _ hh ?_)
 dsimp only
 by_cases c:hint < k
 ·rw [if_pos (decide_eq_true c)]
  refine kasC_bind (q82 (fun t r st' s'=>st'=st/\s'=s /\ ∃ la of,r=(none,la,of)/\la < of/\hint+la < k/\t+1<=of) (fun r st' s'=>st'=st/\s'=s /\ ∃ la of,r=(none,la,of)/\la < of/\hint+la < k/\k<=hint+min of (n - hint))
   ⟨rfl,rfl,0,1,rfl,by omega,by omega,by omega⟩ ?_ ?_ ?_)
  ·rintro r st' s' ⟨rfl,rfl,la,of,rfl,h1,h2,h3⟩
   exact ⟨rfl,rfl,la,of,rfl,h1,h2,by omega⟩
  ·rintro t x r st' s' ht ⟨rfl,rfl,la,of,rfl,h1,h2,h3⟩
   dsimp only
   by_cases c2:of>=n - hint
   ·rw [if_pos c2]
    exact kasC_pure ⟨rfl,rfl,la,of,rfl,h1,h2,by omega⟩
   ·rw [if_neg c2]
    refine kasC_bind (bey (hint+of) _ (by omega) ?_)
    dsimp only
    by_cases c3:hint+of < k
    ·rw [if_neg (by simp [c3])]
     exact kasC_pure ⟨rfl,rfl,of,2 * of+1,rfl,by omega,c3,by omega⟩
    ·rw [if_pos (by simp [c3])]
     exact kasC_pure ⟨rfl,rfl,la,of,rfl,h1,h2,by omega⟩
  ·rintro r st' s' ⟨rfl,rfl,la,of,rfl,h1,h2,h3⟩
   dsimp only
   refine kasC_bind (q82 (fun t r st₂ s₂=>st₂=st'/\s₂=s' /\ ∃ lo hi,r=(none,lo,hi)/\lo<=k/\k<=hi/\hi<=n/\(hi - lo)+t<=n) (fun r st₂ s₂=>st₂=st'/\s₂=s' /\ ∃ lo,r=(none,lo,k)) ⟨rfl,rfl,_,_,rfl,by omega,by omega,by omega,by omega⟩ ?_ ?_ ?_)
   ·rintro r st₂ s₂ ⟨rfl,rfl,lo,hi,rfl,g1,g2,g3,g4⟩
    obtain rfl:hi=k:=by omega
    exact ⟨rfl,rfl,lo,rfl⟩
   ·rintro t x r st₂ s₂ ht ⟨rfl,rfl,lo,hi,rfl,g1,g2,g3,g4⟩
    dsimp only
    by_cases c2:lo>=hi
    ·rw [if_pos c2]
     obtain rfl:hi=k:=by omega
     exact kasC_pure ⟨rfl,rfl,lo,rfl⟩
    ·rw [if_neg c2]
     refine kasC_bind (bey (lo+(hi - lo) / 2) _ (by omega) ?_)
     dsimp only
     by_cases c3:lo+(hi - lo) / 2 < k
     ·rw [if_pos (decide_eq_true c3)]
      exact kasC_pure ⟨rfl,rfl,_,_,rfl,by omega,by omega,by omega,by omega⟩
     ·rw [if_neg (by simp [c3])]
      exact kasC_pure ⟨rfl,rfl,_,_,rfl,by omega,by omega,by omega,by omega⟩
   ·rintro r st₂ s₂ ⟨rfl,rfl,lo,rfl⟩
    exact kasC_pure h
 ·rw [if_neg (by simp [c])]
  refine kasC_bind (q82 (fun t r st' s'=>st'=st/\s'=s /\ ∃ la of,r=(none,la,of)/\la < of/\k<=hint - la/\la<=hint/\t+1<=of) (fun r st' s'=>st'=st/\s'=s /\ ∃ la of,r=(none,la,of)/\la < of/\k<=hint - la/\la<=hint/\hint+1 - min of (hint+1)<=k)
   ⟨rfl,rfl,0,1,rfl,by omega,by omega,by omega,by omega⟩ ?_ ?_ ?_)
  ·rintro r st' s' ⟨rfl,rfl,la,of,rfl,h1,h2,h3,h4⟩
   exact ⟨rfl,rfl,la,of,rfl,h1,h2,h3,by omega⟩
  ·rintro t x r st' s' ht ⟨rfl,rfl,la,of,rfl,h1,h2,h3,h4⟩
   dsimp only
   by_cases c2:of>=hint+1
   ·rw [if_pos c2]
    exact kasC_pure ⟨rfl,rfl,la,of,rfl,h1,h2,h3,by omega⟩
   ·rw [if_neg c2]
    refine kasC_bind (bey (hint - of) _ (by omega) ?_)
    dsimp only
    by_cases c3:hint - of < k
    ·rw [if_pos (decide_eq_true c3)]
     exact kasC_pure ⟨rfl,rfl,la,of,rfl,h1,h2,h3,by omega⟩
    ·rw [if_neg (by simp [c3])]
     exact kasC_pure ⟨rfl,rfl,of,2 * of+1,rfl,by omega,by omega,by omega,by omega⟩
  ·rintro r st' s' ⟨rfl,rfl,la,of,rfl,h1,h2,h3,h4⟩
   dsimp only
   refine kasC_bind (q82 (fun t r st₂ s₂=>st₂=st'/\s₂=s' /\ ∃ lo hi,r=(none,lo,hi)/\lo<=k/\k<=hi/\hi<=n/\(hi - lo)+t<=n) (fun r st₂ s₂=>st₂=st'/\s₂=s' /\ ∃ lo,r=(none,lo,k)) ⟨rfl,rfl,_,_,rfl,by omega,by omega,by omega,by omega⟩ ?_ ?_ ?_)
   ·rintro r st₂ s₂ ⟨rfl,rfl,lo,hi,rfl,g1,g2,g3,g4⟩
    obtain rfl:hi=k:=by omega
    exact ⟨rfl,rfl,lo,rfl⟩
   ·rintro t x r st₂ s₂ ht ⟨rfl,rfl,lo,hi,rfl,g1,g2,g3,g4⟩
    dsimp only
    by_cases c2:lo>=hi
    ·rw [if_pos c2]
     obtain rfl:hi=k:=by omega
     exact kasC_pure ⟨rfl,rfl,lo,rfl⟩
    ·rw [if_neg c2]
     refine kasC_bind (bey (lo+(hi - lo) / 2) _ (by omega) ?_)
     dsimp only
     by_cases c3:lo+(hi - lo) / 2 < k
     ·rw [if_pos (decide_eq_true c3)]
      exact kasC_pure ⟨rfl,rfl,_,_,rfl,by omega,by omega,by omega,by omega⟩
     ·rw [if_neg (by simp [c3])]
      exact kasC_pure ⟨rfl,rfl,_,_,rfl,by omega,by omega,by omega,by omega⟩
   ·rintro r st₂ s₂ ⟨rfl,rfl,lo,rfl⟩
    exact kasC_pure h
end
section
variable {P:Keyed->Prop} {lt:Keyed->Keyed->Bool}
structure Tot (P:Keyed->Prop) (lt:Keyed->Keyed->Bool):Prop where
 trans:∀ x y z,P x->P y->P z->lt y x=false->lt z y=false->lt z x=false
 asym:∀ x y,P x->P y->lt x y=true->lt y x=false
def Srt (lt:Keyed->Keyed->Bool) (l:List Keyed):Prop:=l.Pairwise fun x y=>lt y x=false
structure MInv (lt:Keyed->Keyed->Bool) (al bl o:List Keyed) (i j:Nat):Prop where
 perm:o.Perm (al.take i++bl.take j)
 srt:Srt lt o
 ba:∀ x ∈ o,∀ y ∈ al.drop i,lt y x=false
 bb:∀ x ∈ o,∀ y ∈ bl.drop j,lt y x=false
theorem MInv.zero (al bl:List Keyed):MInv lt al bl [] 0 0:=⟨by simp,.nil,fun x hx=>absurd hx (by simp),fun x hx=>absurd hx (by simp)⟩
theorem q542 (l:List Keyed) (i k:Nat):l.drop i=(l.drop i).take k++l.drop (i+k):=by
 rw [<- List.drop_drop,List.take_append_drop]
theorem q543 (l:List Keyed) (i k:Nat):l.take (i+k)=l.take i++(l.drop i).take k:=List.take_add
theorem MInv.chunkA {al bl o:List Keyed} {i j:Nat} (m:MInv lt al bl o i j) (ha:Srt lt al) (k:Nat) (hc:∀ x ∈ (al.drop i).take k,∀ y ∈ bl.drop j,lt y x=false):MInv lt al bl (o++(al.drop i).take k) (i+k) j:=by
 have hd:=q542 al i k
 have hs:Srt lt (al.drop i):=List.Pairwise.sublist (List.drop_sublist i al) ha
 rw [hd] at hs
 have hs':=List.pairwise_append.mp hs
 have sub1:∀ y ∈ (al.drop i).take k,y ∈ al.drop i:=fun y hy=>List.mem_of_mem_take hy
 have sub2:∀ y ∈ al.drop (i+k),y ∈ al.drop i:=fun y hy=>by rw [hd];exact List.mem_append_right _ hy
 refine ⟨?_,?_,fun x hx y hy=>?_,fun x hx y hy=>?_⟩
 ·rw [q543]
  refine (m.perm.append_right _).trans ?_
  rw [List.append_assoc,List.append_assoc]
  exact List.Perm.append_left _ List.perm_append_comm
 ·refine List.pairwise_append.mpr ⟨m.srt,?_,fun x hx y hy=>m.ba x hx y (sub1 y hy)⟩
  have:=hs'.1
  simpa [List.take_take] using this
 ·rcases List.mem_append.mp hx with h | h
  ·exact m.ba x h y (sub2 y hy)
  ·exact hs'.2.2 x (by simpa [List.take_take] using h) y hy
 ·rcases List.mem_append.mp hx with h | h
  ·exact m.bb x h y hy
  ·exact hc x h y hy
theorem MInv.swap {al bl o:List Keyed} {i j:Nat} (m:MInv lt al bl o i j):MInv lt bl al o j i:=⟨m.perm.trans List.perm_append_comm,m.srt,m.bb,m.ba⟩
theorem MInv.chunkB {al bl o:List Keyed} {i j:Nat} (m:MInv lt al bl o i j) (hb:Srt lt bl) (k:Nat) (hc:∀ x ∈ (bl.drop j).take k,∀ y ∈ al.drop i,lt y x=false):MInv lt al bl (o++(bl.drop j).take k) i (j+k):=
 (m.swap.chunkA hb k hc).swap
def Fin2 (lt:Keyed->Keyed->Bool) (al bl r:List Keyed):Prop:=r.Perm (al++bl)/\Srt lt r
theorem MInv.fin {al bl o:List Keyed} {i j:Nat} (m:MInv lt al bl o i j) (hi:al.length<=i) (hj:bl.length<=j):Fin2 lt al bl o:=by
 have p:=m.perm
 rw [List.take_of_length_le hi,List.take_of_length_le hj] at p
 exact ⟨p,m.srt⟩
theorem MInv.doneB {al bl o:List Keyed} {i j:Nat} (m:MInv lt al bl o i j) (ha:Srt lt al) (hj:bl.length<=j):Fin2 lt al bl (o++al.drop i++bl.drop j):=by
 have e:bl.drop j=[]:=List.drop_of_length_le hj
 have z:=m.chunkA ha al.length (fun x _ y hy=>by rw [e] at hy;cases hy)
 rw [e,List.append_nil]
 have e2:(al.drop i).take al.length=al.drop i:=List.take_of_length_le (by rw [List.length_drop];omega)
 rw [e2] at z
 exact z.fin (by omega) hj
theorem MInv.doneA {al bl o:List Keyed} {i j:Nat} (m:MInv lt al bl o i j) (hb:Srt lt bl) (hi:al.length<=i):Fin2 lt al bl (o++al.drop i++bl.drop j):=by
 have e:al.drop i=[]:=List.drop_of_length_le hi
 have z:=m.chunkB hb bl.length (fun x _ y hy=>by rw [e] at hy;cases hy)
 rw [e,List.append_nil]
 have e2:(bl.drop j).take bl.length=bl.drop j:=List.take_of_length_le (by rw [List.length_drop];omega)
 rw [e2] at z
 exact z.fin hi (by omega)
theorem MInv.lastA {al bl o:List Keyed} {i j:Nat} (m:MInv lt al bl o i j) (ha:Srt lt al) (hb:Srt lt bl) (hl:∀ x ∈ bl,∀ y ∈ al.drop i,lt y x=false):Fin2 lt al bl (o++bl.drop j++al.drop i):=by
 have z:=m.chunkB hb bl.length (fun x hx y hy=>hl x (List.mem_of_mem_drop (List.mem_of_mem_take hx)) y hy)
 have e2:(bl.drop j).take bl.length=bl.drop j:=List.take_of_length_le (by rw [List.length_drop];omega)
 rw [e2] at z
 have z2:=z.doneB ha (by omega)
 have e3:bl.drop (j+bl.length)=[]:=List.drop_of_length_le (by omega)
 rw [e3,List.append_nil] at z2
 exact z2
theorem bound (B:Nat->Bool):∀ n,(∀ i j,i<=j->j < n->B j=true->B i=true) -> ∃ k,k<=n /\ ∀ i,i < n->B i=decide (i < k)
 | 0,_=>⟨0,Nat.le_refl _,fun i hi=>absurd hi (Nat.not_lt_zero _)⟩
 | n+1,h=>by
  obtain ⟨k,hk,hB⟩:=bound B n fun i j a b c=>h i j a (by omega) c
  cases hn:B n with
  | true=>
   refine ⟨n+1,Nat.le_refl _,fun i hi=>?_⟩
   rw [h i n (by omega) (by omega) hn,decide_eq_true hi]
  | false=>
   refine ⟨k,by omega,fun i hi=>?_⟩
   by_cases e:i=n
   ·rw [e,hn,decide_eq_false (by omega)]
   ·exact hB i (by omega)
theorem q57 {a:Array Keyed} {i:Nat} (h:i < a.size):a.toList[i]? = some (kas_item a i):=by
 unfold kas_item
 simp [Array.getD,h]
theorem q20 {a:Array Keyed} {i:Nat} (h:i < a.size):kas_item a i ∈ a.toList:=List.mem_of_getElem? (q57 h)
theorem q102 {a:Array Keyed} {i:Nat} {y:Keyed} (h:y ∈ a.toList.drop i):∃ j,i<=j/\j < a.size/\y=kas_item a j:=by
 obtain ⟨k,hk⟩:=List.mem_iff_getElem?.mp h
 rw [List.getElem?_drop] at hk
 have hl:=(List.getElem?_eq_some_iff.mp hk).1
 have hl':i+k < a.size:=by simpa using hl
 refine ⟨i+k,by omega,hl',?_⟩
 rw [q57 hl'] at hk
 exact (Option.some.inj hk).symm
theorem q287 {a:Array Keyed} {i k:Nat} {y:Keyed} (h:y ∈ (a.toList.drop i).take k):∃ j,i<=j/\j < i+k/\j < a.size/\y=kas_item a j:=by
 obtain ⟨m,hm⟩:=List.mem_iff_getElem?.mp h
 rw [List.getElem?_take] at hm
 by_cases c:m < k
 ·rw [if_pos c,List.getElem?_drop] at hm
  have hl:=(List.getElem?_eq_some_iff.mp hm).1
  have hl':i+m < a.size:=by simpa using hl
  refine ⟨i+m,by omega,by omega,hl',?_⟩
  rw [q57 hl'] at hm
  exact (Option.some.inj hm).symm
 ·rw [if_neg c] at hm
  cases hm
theorem q96 {a:Array Keyed} {i j:Nat} (T:Tot P lt) (h:Srt lt a.toList) (hP:∀ x ∈ a.toList,P x) (hij:i < j) (hj:j < a.size):lt (kas_item a j) (kas_item a i)=false:=by
 have hi:i < a.size:=by omega
 have z:=List.pairwise_iff_getElem.mp h i j (by simpa using hi) (by simpa using hj) hij
 have e1:=(List.getElem?_eq_some_iff.mp (q57 hi)).2
 have e2:=(List.getElem?_eq_some_iff.mp (q57 hj)).2
 rw [e1,e2] at z
 exact z
end
end TS
namespace TS
set_option autoImplicit false
open PySem PySem.W PyProof.Rows
section
variable {P:Keyed->Prop} {lt:Keyed->Keyed->Bool} {a b out:Array Keyed} {i j k:Nat}
abbrev AInv (lt:Keyed->Keyed->Bool) (a b out:Array Keyed) (i j:Nat):Prop:=MInv lt a.toList b.toList out.toList i j
abbrev FinA (lt:Keyed->Keyed->Bool) (a b r:Array Keyed):Prop:=Fin2 lt a.toList b.toList r.toList
theorem q216 (h:k<=a.size):(a.extract i k).toList=(a.toList.drop i).take (k - i):=by
 simp [List.extract_eq_take_drop]
theorem q189:(a.extract i a.size).toList=a.toList.drop i:=by
 rw [q216 (Nat.le_refl _)]
 exact List.take_of_length_le (by simp)
theorem q161 (h:i < a.size):(a.toList.drop i).take 1=[kas_item a i]:=by
 have e:=(List.getElem?_eq_some_iff.mp (q57 h))
 obtain ⟨h1,h2⟩:=e
 rw [List.drop_eq_getElem_cons h1,h2]
 rfl
theorem pushB (T:Tot P lt) (sb:Srt lt b.toList) (sa:Srt lt a.toList) (pa:∀ x ∈ a.toList,P x) (pb:∀ x ∈ b.toList,P x) (m:AInv lt a b out i j) (hi:i < a.size) (hj:j < b.size) (h:lt (kas_item b j) (kas_item a i)=true):AInv lt a b (out.push (kas_item b j)) i (j+1):=by
 have z:=m.chunkB sb 1 (fun x hx y hy=>by
  rw [q161 hj] at hx
  cases List.mem_singleton.mp hx
  obtain ⟨j',h1,h2,rfl⟩:=q102 hy
  have q1:=T.asym _ _ (pb _ (q20 hj)) (pa _ (q20 hi)) h
  by_cases e:i=j'
  ·rw [<- e];exact q1
  ·exact T.trans _ _ _ (pb _ (q20 hj)) (pa _ (q20 hi)) (pa _ (q20 h2)) q1 (q96 T sa pa (by omega) h2))
 rw [q161 hj] at z
 simpa [AInv] using z
theorem pushA (T:Tot P lt) (sb:Srt lt b.toList) (sa:Srt lt a.toList) (pa:∀ x ∈ a.toList,P x) (pb:∀ x ∈ b.toList,P x) (m:AInv lt a b out i j) (hi:i < a.size) (h:j < b.size->lt (kas_item b j) (kas_item a i)=false):AInv lt a b (out.push (kas_item a i)) (i+1) j:=by
 have z:=m.chunkA sa 1 (fun x hx y hy=>by
  rw [q161 hi] at hx
  cases List.mem_singleton.mp hx
  obtain ⟨j',h1,h2,rfl⟩:=q102 hy
  have hj:j < b.size:=by omega
  have q1:=h hj
  by_cases e:j=j'
  ·rw [<- e];exact q1
  ·exact T.trans _ _ _ (pa _ (q20 hi)) (pb _ (q20 hj)) (pb _ (q20 h2)) q1 (q96 T sb pb (by omega) h2))
 rw [q161 hi] at z
 simpa [AInv] using z
theorem exA (T:Tot P lt) (sa:Srt lt a.toList) (pa:∀ x ∈ a.toList,P x) {key:Keyed} (hk:P key) (n:Nat) (hn:i+n<=a.size):∃ k,k<=n /\ ∀ t,t < n->(if false=true then lt (kas_item a (i+t)) key else !(lt key (kas_item a (i+t))))=decide (t < k):=by
 refine bound _ n fun t u htu hu h=>?_
 rw [if_neg fnt] at h ⊢
 rw [Bool.not_eq_true'] at h ⊢
 by_cases e:t=u
 ·rw [e];exact h
 ·exact T.trans _ _ _ (pa _ (q20 (by omega))) (pa _ (q20 (by omega))) hk (q96 T sa pa (by omega) (by omega)) h
theorem exB (T:Tot P lt) (sb:Srt lt b.toList) (pb:∀ x ∈ b.toList,P x) {key:Keyed} (hk:P key) (n:Nat) (hn:j+n<=b.size):∃ k,k<=n /\ ∀ t,t < n->(if true=true then lt (kas_item b (j+t)) key else !(lt key (kas_item b (j+t))))=decide (t < k):=by
 refine bound _ n fun t u htu hu h=>?_
 rw [if_pos rfl] at h ⊢
 by_cases e:t=u
 ·rw [e];exact h
 ·cases c:lt (kas_item b (j+t)) key with
  | true=>rfl
  | false=>
   have z:=T.trans _ _ _ hk (pb _ (q20 (by omega))) (pb _ (q20 (by omega))) c (q96 T sb pb (show j+t < j+u by omega) (by omega))
   rw [h] at z
   cases z
theorem galA (T:Tot P lt) (sb:Srt lt b.toList) (sa:Srt lt a.toList) (pa:∀ x ∈ a.toList,P x) (pb:∀ x ∈ b.toList,P x) (m:AInv lt a b out i j) (hi:i<=a.size) (hj:j < b.size) (hk:k<=a.size - i)
  (h:∀ t,t < a.size - i->(if false=true then lt (kas_item a (i+t)) (kas_item b j) else !(lt (kas_item b j) (kas_item a (i+t))))=decide (t < k)) :
  AInv lt a b (out++a.extract i (i+k)) (i+k) j/\(i+k < a.size->lt (kas_item b j) (kas_item a (i+k))=true):=by
 constructor
 ·have z:=m.chunkA sa k (fun x hx y hy=>by
   obtain ⟨i',g1,g2,g3,rfl⟩:=q287 hx
   obtain ⟨j',h1,h2,rfl⟩:=q102 hy
   have q:=h (i' - i) (by omega)
   rw [if_neg fnt,show i+(i' - i)=i' by omega,decide_eq_true (by omega),Bool.not_eq_true'] at q
   by_cases e:j=j'
   ·rw [<- e];exact q
   ·exact T.trans _ _ _ (pa _ (q20 g3)) (pb _ (q20 hj)) (pb _ (q20 h2)) q (q96 T sb pb (by omega) h2))
  have e:(out++a.extract i (i+k)).toList=out.toList++(a.toList.drop i).take k:=by
   rw [Array.toList_append,q216 (by omega),show i+k - i=k by omega]
  show MInv lt _ _ (out++a.extract i (i+k)).toList _ _
  rw [e]
  exact z
 ·intro hlt
  have q:=h k (by omega)
  rw [if_neg fnt,decide_eq_false (by omega),Bool.not_eq_false'] at q
  exact q
theorem galB (T:Tot P lt) (sb:Srt lt b.toList) (sa:Srt lt a.toList) (pa:∀ x ∈ a.toList,P x) (pb:∀ x ∈ b.toList,P x) (m:AInv lt a b out i j) (hi:i < a.size) (hj:j<=b.size) (hk:k<=b.size - j)
  (h:∀ t,t < b.size - j->(if true=true then lt (kas_item b (j+t)) (kas_item a i) else !(lt (kas_item a i) (kas_item b (j+t))))=decide (t < k)) :
  AInv lt a b (out++b.extract j (j+k)) i (j+k)/\(j+k < b.size->lt (kas_item b (j+k)) (kas_item a i)=false):=by
 constructor
 ·have z:=m.chunkB sb k (fun x hx y hy=>by
   obtain ⟨j',g1,g2,g3,rfl⟩:=q287 hx
   obtain ⟨i',h1,h2,rfl⟩:=q102 hy
   have q:=h (j' - j) (by omega)
   rw [if_pos rfl,show j+(j' - j)=j' by omega,decide_eq_true (by omega)] at q
   have q1:=T.asym _ _ (pb _ (q20 g3)) (pa _ (q20 hi)) q
   by_cases e:i=i'
   ·rw [<- e];exact q1
   ·exact T.trans _ _ _ (pb _ (q20 g3)) (pa _ (q20 hi)) (pa _ (q20 h2)) q1 (q96 T sa pa (by omega) h2))
  have e:(out++b.extract j (j+k)).toList=out.toList++(b.toList.drop j).take k:=by
   rw [Array.toList_append,q216 (by omega),show j+k - j=k by omega]
  show MInv lt _ _ (out++b.extract j (j+k)).toList _ _
  rw [e]
  exact z
 ·intro hlt
  have q:=h k (by omega)
  rw [if_pos rfl,decide_eq_false (by omega)] at q
  exact q
theorem doneB (sa:Srt lt a.toList) (m:AInv lt a b out i j) (h:j=b.size):FinA lt a b (out++a.extract i a.size++b.extract j b.size):=by
 have z:=MInv.doneB m sa (by rw [h];simp)
 show Fin2 lt _ _ (out++a.extract i a.size++b.extract j b.size).toList
 rw [Array.toList_append,Array.toList_append,q189,q189]
 exact z
theorem doneA (sb:Srt lt b.toList) (m:AInv lt a b out i j) (h:i=a.size):FinA lt a b (out++a.extract i a.size++b.extract j b.size):=by
 have z:=MInv.doneA m sb (by rw [h];simp)
 show Fin2 lt _ _ (out++a.extract i a.size++b.extract j b.size).toList
 rw [Array.toList_append,Array.toList_append,q189,q189]
 exact z
theorem lastA (sa:Srt lt a.toList) (sb:Srt lt b.toList) (m:AInv lt a b out i j) (h:i+1=a.size) (hl:∀ x ∈ b.toList,lt (kas_item a (a.size - 1)) x=false):FinA lt a b (out++b.extract j b.size++a.extract i a.size):=by
 have z:=MInv.lastA m sa sb (fun x hx y hy=>by
  obtain ⟨i',g1,g2,rfl⟩:=q102 hy
  have:i'=a.size - 1:=by omega
  rw [this]
  exact hl x hx)
 show Fin2 lt _ _ (out++b.extract j b.size++a.extract i a.size).toList
 rw [Array.toList_append,Array.toList_append,q189,q189]
 exact z
end
section
variable {prog:Program} {w:World} {A:Around} {E:VS} {κ:SortKind} {P:Keyed->Prop} {lt:Keyed->Keyed->Bool}
def Kp (st st':SortSt):Prop:=kindOf st'=kindOf st/\arrOf st'=arrOf st/\pendingOf st'=pendingOf st/\failedOf st'=failedOf st
theorem Kp.refl (st:SortSt):Kp st st:=⟨rfl,rfl,rfl,rfl⟩
theorem Kp.trans {a b c:SortSt} (h:Kp a b) (g:Kp b c):Kp a c:=⟨g.1.trans h.1,g.2.1.trans h.2.1,g.2.2.1.trans h.2.2.1,g.2.2.2.trans h.2.2.2⟩
theorem q488 {g:Nat} {Q:Unit->SortSt->Shared->Prop} {st:SortSt} {s:Shared} (h:∀ st',Kp st st'->Q () st' s):kasC (model prog w) A E (setMG' g) Q st s:=by
 refine kasC_modify (h _ ⟨rfl,rfl,rfl,rfl⟩)
end
end TS
namespace TS
set_option autoImplicit false
open PySem PySem.W PyProof.Rows
section
variable {prog:Program} {w:World} {A:Around} {E:VS} {κ:SortKind} {P:Keyed->Prop} {lt:Keyed->Keyed->Bool}
theorem q141 {β:Type} {f:Nat->β->M2 (ForInStep β)} {Q:β->SortSt->Shared->Prop} {n:Nat} {b:β} {st:SortSt} {s:Shared} (I:Nat->β->SortSt->Shared->Prop) (R:β->SortSt->Shared->Prop) (h0:I 0 b st s) (he:∀ b st s,I n b st s->R b st s)
  (hs:∀ k x b st s,k < n->I k b st s -> ∀ N:ForInStep β->SortSt->Shared->Prop,(∀ {b st s},R b st s->N (.done b) st s)->(∀ {b st s},I (k+1) b st s->N (.yield b) st s)->kasC (model prog w) A E (f x b) N st s) (hR:∀ b st s,R b st s->Q b st s):kasC (model prog w) A E (forIn [0:n] b f) Q st s:=
 q82 I R h0 he (fun k x b st s hk hi=>hs k x b st s hk hi _ id id) hR
theorem c_J1 {α:Type} (J:Unit->Nat->M2 α) {c:Prop} {_d:Decidable c} {x y:Nat} {Q:α->SortSt->Shared->Prop} {st:SortSt} {s:Shared} (h:∀ g,kasC (model prog w) A E (J () g) Q st s):kasC (model prog w) A E (if c then J () x else J () y) Q st s:=by
 split <;> exact h _
theorem c_jp {α β γ:Type} (J:Unit->β->γ->M2 α) {c:Prop} {_d:Decidable c} {x:M2 α} {o:β} {i:γ} {Q:α->SortSt->Shared->Prop} {st:SortSt} {s:Shared} (I:β->γ->Prop) (hJ:∀ o i,I o i->kasC (model prog w) A E (J () o i) Q st s) (hx:c->(∀ o i,I o i->kasC (model prog w) A E (J () o i) Q st s)->kasC (model prog w) A E x Q st s) (h0:¬ c->I o i):kasC (model prog w) A E (if c then x else J () o i) Q st s:=by
 by_cases h:c
 ·rw [if_pos h]
  exact hx h hJ
 ·rw [if_neg h]
  exact hJ _ _ (h0 h)
theorem mergeLo_ {s:Shared} (G:Good prog w A E κ P lt s) (T:Tot P lt) {a b:Array Keyed} {Q:Array Keyed->SortSt->Shared->Prop} {st:SortSt} (hst:kindOf st=κ) (pa:∀ x ∈ a.toList,P x) (pb:∀ x ∈ b.toList,P x) (sa:Srt lt a.toList) (sb:Srt lt b.toList)
  (na:0 < a.size) (nb:0 < b.size) (h0:lt (kas_item b 0) (kas_item a 0)=true) (hl:∀ x ∈ b.toList,lt (kas_item a (a.size - 1)) x=false) (h:∀ r st',Kp st st'->FinA lt a b r->Q r st' s):kasC (model prog w) A E (mergeLo' a b) Q st s:=by
 have m0:AInv lt a b (#[]:Array Keyed) 0 0:=MInv.zero _ _
 have m1:=pushB T sb sa pa pb m0 na nb h0
 refine kasC_bind (kasC_lift (wpAny_rule ?_))
 refine kasC_bind (q55 nb ?_)
 extract_lets -merge
 dsimp -zeta +zetaDelta only
 by_cases c1:1=b.size
 ·rw [if_pos (by simp [<- c1])]
  exact kasC_pure (h _ _ (Kp.refl _) (doneB sa m1 c1))
 rw [if_neg (by simpa using c1)]
 by_cases c2:0+1=a.size
 ·rw [if_pos (by simp [<- c2])]
  exact kasC_pure (h _ _ (Kp.refl _) (lastA sa sb m1 c2 hl))
 rw [if_neg (by simpa using c2)]
 refine kasC_bind (kasC_get ?_)
 refine kasC_bind (q141 (fun t r st' s'=>Kp st st'/\s'=s /\ ∃ out i j mg,r=(none,out,i,j,mg)/\AInv lt a b out i j/\i+1 < a.size/\j < b.size/\t<=i+j)
  (fun r st' s'=>Kp st st'/\s'=s /\ ∃ res z,r=(some res,z)/\FinA lt a b res) ⟨Kp.refl _,rfl,_,_,_,_,rfl,m1,by omega,by omega,by omega⟩ ?_ ?_ ?_)
 ·rintro r st' s' ⟨_,_,out,i,j,mg,_,_,h1,h2,h3⟩
  omega
 ·rintro t x r st' s' ht ⟨K1,rfl,out,i,j,mg,rfl,m,hi,hj,hij⟩ N dn yl
  dsimp -zeta only
  extract_lets -merge
  dsimp -zeta +zetaDelta only
  refine kasC_bind (q141 (fun u r st₂ s₂=>st₂=st'/\s₂=s' /\ ∃ out₂ i₂ j₂ ac bc,r=(none,out₂,i₂,j₂,ac,bc)/\AInv lt a b out₂ i₂ j₂/\i₂+1 < a.size/\j₂ < b.size/\u+(i+j)<=i₂+j₂)
   (fun r st₂ s₂=>st₂=st'/\s₂=s'/\((∃ res z,r=(some res,z)/\FinA lt a b res) \/ ∃ out₂ i₂ j₂ ac bc,r=(none,out₂,i₂,j₂,ac,bc)/\AInv lt a b out₂ i₂ j₂/\i₂+1 < a.size/\j₂ < b.size/\i+j<=i₂+j₂))
   ⟨rfl,rfl,_,_,_,_,_,rfl,m,hi,hj,by omega⟩ ?_ ?_ ?_)
  ·rintro r st₂ s₂ ⟨_,_,out₂,i₂,j₂,ac,bc,_,_,h1,h2,h3⟩
   omega
  ·rintro u x r st₂ s₂ hu ⟨rfl,rfl,out₂,i₂,j₂,ac,bc,rfl,m₂,hi₂,hj₂,hu₂⟩ N dn yl
   dsimp -zeta only
   extract_lets -merge
   dsimp -zeta +zetaDelta only
   refine kasC_bind (q55 hj₂ (kasC_bind (q55 (show i₂ < a.size by omega) ?_)))
   refine kasC_bind (G _ _ _ _ (pb _ (q20 hj₂)) (pa _ (q20 (show i₂ < a.size by omega))) (K1.1.trans hst) ?_)
   dsimp -zeta only
   cases hb:lt (kas_item b j₂) (kas_item a i₂) with
   | true=>
    rw [if_pos rfl]
    refine kasC_bind (q55 hj₂ ?_)
    have m₃:=pushB T sb sa pa pb m₂ (by omega) hj₂ hb
    by_cases d1:j₂+1=b.size
    ·rw [if_pos (by simp [<- d1])]
     exact kasC_pure (dn ⟨rfl,rfl,.inl ⟨_,_,rfl,doneB sa m₃ d1⟩⟩)
    rw [if_neg (by simpa using d1)]
    by_cases d2:bc+1>=mg
    ·rw [if_pos d2]
     exact kasC_pure (dn ⟨rfl,rfl,.inr ⟨_,_,_,_,_,rfl,m₃,hi₂,by omega,by omega⟩⟩)
    ·rw [if_neg d2]
     exact kasC_pure (yl ⟨rfl,rfl,_,_,_,_,_,rfl,m₃,hi₂,by omega,by omega⟩)
   | false=>
    rw [if_neg fnt]
    refine kasC_bind (q55 (show i₂ < a.size by omega) ?_)
    have m₃:=pushA T sb sa pa pb m₂ (by omega) (fun _=>hb)
    by_cases d1:i₂+1+1=a.size
    ·rw [if_pos (by simp [<- d1])]
     exact kasC_pure (dn ⟨rfl,rfl,.inl ⟨_,_,rfl,lastA sa sb m₃ d1 hl⟩⟩)
    rw [if_neg (by simpa using d1)]
    by_cases d2:ac+1>=mg
    ·rw [if_pos d2]
     exact kasC_pure (dn ⟨rfl,rfl,.inr ⟨_,_,_,_,_,rfl,m₃,by omega,hj₂,by omega⟩⟩)
    ·rw [if_neg d2]
     exact kasC_pure (yl ⟨rfl,rfl,_,_,_,_,_,rfl,m₃,by omega,hj₂,by omega⟩)
  ·rintro r st₂ s₂ ⟨rfl,rfl,hr⟩
   rcases hr with ⟨res,z,rfl,hf⟩ | ⟨out₂,i₂,j₂,ac,bc,rfl,m₂,hi₂,hj₂,hu₂⟩
   ·exact kasC_pure (dn ⟨K1,rfl,_,_,rfl,hf⟩)
   dsimp -zeta only
   extract_lets -merge
   dsimp -zeta +zetaDelta only
   refine kasC_bind (kasC_lift (wpAny_rule ?_))
   refine kasC_bind (q141 (fun u r st₃ s₃=>Kp st st₃/\s₃=s₂ /\ ∃ out₃ i₃ j₃ mg ac bc,r=(none,out₃,i₃,j₃,mg,ac,bc)/\AInv lt a b out₃ i₃ j₃/\i₃+1 < a.size/\j₃ < b.size/\u+(i₂+j₂)<=i₃+j₃)
    (fun r st₃ s₃=>Kp st st₃/\s₃=s₂/\((∃ res z,r=(some res,z)/\FinA lt a b res) \/ ∃ out₃ i₃ j₃ mg ac bc,r=(none,out₃,i₃,j₃,mg,ac,bc)/\AInv lt a b out₃ i₃ j₃/\i₃+1 < a.size/\j₃ < b.size/\i₂+j₂+1<=i₃+j₃))
    ⟨K1,rfl,_,_,_,_,_,_,rfl,m₂,hi₂,hj₂,by omega⟩ ?_ ?_ ?_)
   ·rintro r st₃ s₃ ⟨_,_,out₃,i₃,j₃,mg,ac,bc,_,_,h1,h2,h3⟩
    omega
   ·rintro u x r st₃ s₃ hu ⟨K3,rfl,out₃,i₃,j₃,mg,ac,bc,rfl,m₃,hi₃,hj₃,hu₃⟩ N dn yl
    dsimp -zeta only
    extract_lets -merge +onlyGivenNames _ _ _ _ _ _ _ _ _ _ _
    dsimp -zeta +zetaDelta only
    extract_lets -underBinder jp
    refine c_J1 jp fun mgx=>?_
    dsimp -zeta only [jp]
    clear jp
    obtain ⟨k,hk,hB⟩:=exA T sa pa (pb _ (q20 hj₃)) (a.size - i₃) (i:=i₃) (by omega)
    obtain ⟨m₄,hk4⟩:=galA T sb sa pa pb m₃ (by omega) hj₃ hk hB
    have key:∀ st₄,Kp st st₄->kindOf st₄=κ:=fun st₄ K4=>K4.1.trans hst
    refine kasC_bind (q488 fun st₄ K4=>?_)
    have K5:=K3.trans K4
    refine kasC_bind (q55 hj₃ ?_)
    refine kasC_bind (q188 G (key _ K5) (pb _ (q20 hj₃)) (fun t ht=>pa _ (q20 (by omega))) (by omega) (by omega) hk hB ?_)
    dsimp -zeta only
    extract_lets -merge +onlyGivenNames _
    dsimp -zeta +zetaDelta only
    extract_lets -underBinder jp
    refine c_jp jp (fun o i'=>AInv lt a b o i' j₃/\i'+1 < a.size/\lt (kas_item b j₃) (kas_item a i')=true/\i₃<=i') ?_ ?_ ?_
    ·rintro o i' ⟨m₄,hi4,hb4,hle⟩
     dsimp -zeta only [jp]
     clear jp
     refine kasC_bind (q55 hj₃ ?_)
     extract_lets -merge
     dsimp -zeta +zetaDelta only
     have m₅:=pushB T sb sa pa pb m₄ (by omega) hj₃ hb4
     by_cases d3:j₃+1=b.size
     ·rw [if_pos (by simp [<- d3])]
      exact kasC_pure (dn ⟨K5,rfl,.inl ⟨_,_,rfl,doneB sa m₅ d3⟩⟩)
     rw [if_neg (by simpa using d3)]
     have hi5:i' < a.size:=by omega
     refine kasC_bind (q55 hi5 ?_)
     generalize o.push (kas_item b j₃)=o5 at m₅ ⊢
     have hj5:i₃+j₃ < i'+(j₃+1)/\j₃+1 < b.size:=by omega
     generalize j₃+1=j5 at m₅ hj5 ⊢
     obtain ⟨k2,hk2,hB2⟩:=exB T sb pb (pa _ (q20 hi5)) (b.size - j5) (j:=j5) (by omega)
     obtain ⟨m₆,hk6⟩:=galB T sb sa pa pb m₅ hi5 (by omega) hk2 hB2
     refine kasC_bind (q188 G (key _ K5) (pa _ (q20 hi5)) (fun t ht=>pb _ (q20 (by omega))) (by omega) (by omega) hk2 hB2 ?_)
     dsimp -zeta only
     extract_lets -merge +onlyGivenNames _
     dsimp -zeta +zetaDelta only
     extract_lets -underBinder jp
     refine c_jp jp (fun o j'=>AInv lt a b o i' j'/\j' < b.size/\lt (kas_item b j') (kas_item a i')=false/\j5<=j') ?_ ?_ ?_
     ·rintro o j' ⟨m₆,hj6,hb6,hl6⟩
      dsimp -zeta only [jp]
      clear jp
      refine kasC_bind (q55 hi5 ?_)
      extract_lets -merge
      dsimp -zeta +zetaDelta only
      have m₇:=pushA T sb sa pa pb m₆ hi5 (fun _=>hb6)
      by_cases d5:i'+1+1=a.size
      ·rw [if_pos (by simp [<- d5])]
       exact kasC_pure (dn ⟨K5,rfl,.inl ⟨_,_,rfl,lastA sa sb m₇ d5 hl⟩⟩)
      rw [if_neg (by simpa using d5)]
      split
      ·exact kasC_pure (dn ⟨K5,rfl,.inr ⟨_,_,_,_,_,_,rfl,m₇,by omega,hj6,by omega⟩⟩)
      ·exact kasC_pure (yl ⟨K5,rfl,_,_,_,_,_,_,rfl,m₇,by omega,hj6,by omega⟩)
     ·intro hk20 J
      clear_value jp
      dsimp -zeta +zetaDelta only
      by_cases d4:j5+k2=b.size
      ·rw [if_pos (by simp [<- d4])]
       exact kasC_pure (dn ⟨K5,rfl,.inl ⟨_,_,rfl,doneB sa m₆ d4⟩⟩)
      rw [if_neg (by simpa using d4)]
      exact J _ _ ⟨m₆,by omega,hk6 (by omega),by omega⟩
     ·intro hk20
      obtain rfl:k2=0:=by omega
      exact ⟨m₅,by omega,hk6 (by omega),Nat.le_refl _⟩
    ·intro hk0 J
     clear_value jp
     dsimp -zeta +zetaDelta only
     by_cases d1:i₃+k+1=a.size
     ·rw [if_pos (by simp [<- d1])]
      exact kasC_pure (dn ⟨K5,rfl,.inl ⟨_,_,rfl,lastA sa sb m₄ d1 hl⟩⟩)
     rw [if_neg (by simpa using d1)]
     by_cases d2:i₃+k=a.size
     ·rw [if_pos (by simp [<- d2])]
      exact kasC_pure (dn ⟨K5,rfl,.inl ⟨_,_,rfl,doneA sb m₄ d2⟩⟩)
     rw [if_neg (by simpa using d2)]
     exact J _ _ ⟨m₄,by omega,hk4 (by omega),by omega⟩
    ·intro hk0
     obtain rfl:k=0:=by omega
     exact ⟨m₃,hi₃,hk4 (by omega),Nat.le_refl _⟩
   ·rintro r st₃ s₃ ⟨K3,rfl,hr⟩
    rcases hr with ⟨res,z,rfl,hf⟩ | ⟨out₃,i₃,j₃,mg,ac,bc,rfl,m₃,hi₃,hj₃,hu₃⟩
    ·exact kasC_pure (dn ⟨K3,rfl,_,_,rfl,hf⟩)
    dsimp -zeta only
    extract_lets -merge
    dsimp -zeta +zetaDelta only
    refine kasC_bind (q488 fun st₄ K4=>?_)
    exact kasC_pure (yl ⟨K3.trans K4,rfl,_,_,_,_,rfl,m₃,hi₃,hj₃,by omega⟩)
 ·rintro r st' s' ⟨K1,rfl,res,z,rfl,hf⟩
  exact kasC_pure (h _ _ K1 hf)
end
end TS
namespace TS
set_option autoImplicit false
open PySem PySem.W PyProof.Rows
section
variable {P:Keyed->Prop} {lt:Keyed->Keyed->Bool}
structure HInv (lt:Keyed->Keyed->Bool) (al bl o:List Keyed) (i j:Nat):Prop where
 perm:o.Perm (al.drop i++bl.drop j)
 srt:Srt lt o
 ba:∀ x ∈ al.take i,∀ y ∈ o,lt y x=false
 bb:∀ x ∈ bl.take j,∀ y ∈ o,lt y x=false
theorem HInv.swap {al bl o:List Keyed} {i j:Nat} (m:HInv lt al bl o i j):HInv lt bl al o j i:=⟨m.perm.trans List.perm_append_comm,m.srt,m.bb,m.ba⟩
theorem HInv.chunkA {al bl o:List Keyed} {i j:Nat} (m:HInv lt al bl o i j) (ha:Srt lt al) (at_:Nat) (h:at_<=i) (hi:i<=al.length) (hc:∀ x ∈ bl.take j,∀ y ∈ (al.take i).drop at_,lt y x=false):HInv lt al bl ((al.take i).drop at_++o) at_ j:=by
 have hs:Srt lt (al.take i):=List.Pairwise.sublist (List.take_sublist i al) ha
 have e0:(al.take i).take at_=al.take at_:=by rw [List.take_take,Nat.min_eq_left h]
 have e1:al.take i=al.take at_++(al.take i).drop at_:=by rw [<- e0,List.take_append_drop]
 have hs2:=hs
 rw [e1] at hs2
 have hs':=List.pairwise_append.mp hs2
 have e2:al.drop at_=(al.take i).drop at_++al.drop i:=by
  have z:al=al.take i++al.drop i:=(List.take_append_drop i al).symm
  have z2:=congrArg (List.drop at_) z
  rw [List.drop_append_of_le_length (by rw [List.length_take];omega)] at z2
  exact z2
 have sub1:∀ y ∈ (al.take i).drop at_,y ∈ al.take i:=fun y hy=>List.mem_of_mem_drop hy
 have sub2:∀ y ∈ al.take at_,y ∈ al.take i:=fun y hy=>by rw [e1];exact List.mem_append_left _ hy
 refine ⟨?_,?_,fun x hx y hy=>?_,fun x hx y hy=>?_⟩
 ·rw [e2,List.append_assoc]
  exact m.perm.append_left _
 ·exact List.pairwise_append.mpr ⟨hs'.2.1,m.srt,fun x hx y hy=>m.ba x (sub1 x hx) y hy⟩
 ·rcases List.mem_append.mp hy with h' | h'
  ·exact hs'.2.2 x hx y h'
  ·exact m.ba x (sub2 x hx) y h'
 ·rcases List.mem_append.mp hy with h' | h'
  ·exact hc x hx y h'
  ·exact m.bb x hx y h'
theorem HInv.chunkB {al bl o:List Keyed} {i j:Nat} (m:HInv lt al bl o i j) (hb:Srt lt bl) (at_:Nat) (h:at_<=j) (hj:j<=bl.length) (hc:∀ x ∈ al.take i,∀ y ∈ (bl.take j).drop at_,lt y x=false):HInv lt al bl ((bl.take j).drop at_++o) i at_:=
 (m.swap.chunkA hb at_ h hj hc).swap
theorem HInv.zero (al bl:List Keyed):HInv lt al bl [] al.length bl.length:=⟨by simp,.nil,fun x hx y hy=>absurd hy (by simp),fun x hx y hy=>absurd hy (by simp)⟩
theorem HInv.fin {al bl o:List Keyed} (m:HInv lt al bl o 0 0):Fin2 lt al bl o:=⟨by simpa using m.perm,m.srt⟩
variable {a b out:Array Keyed} {i j k:Nat}
abbrev BInv (lt:Keyed->Keyed->Bool) (a b out:Array Keyed) (i j:Nat):Prop:=HInv lt a.toList b.toList out.reverse.toList i j
theorem ext0 (h:i<=a.size):(a.extract k i).toList=(a.toList.take i).drop k:=by
 rw [q216 h,List.drop_take]
theorem q241 {x:Keyed} (h:x ∈ a.toList.take i):∃ t,t < i/\t < a.size/\x=kas_item a t:=by
 obtain ⟨m,hm⟩:=List.mem_iff_getElem?.mp h
 rw [List.getElem?_take] at hm
 by_cases c:m < i
 ·rw [if_pos c] at hm
  have hl:=(List.getElem?_eq_some_iff.mp hm).1
  have hl':m < a.size:=by simpa using hl
  refine ⟨m,c,hl',?_⟩
  rw [q57 hl'] at hm
  exact (Option.some.inj hm).symm
 ·rw [if_neg c] at hm
  cases hm
theorem q489 {x:Keyed} (h:x ∈ (a.toList.take i).drop k):∃ t,k<=t/\t < i/\t < a.size/\x=kas_item a t:=by
 obtain ⟨m,hm⟩:=List.mem_iff_getElem?.mp h
 rw [List.getElem?_drop,List.getElem?_take] at hm
 by_cases c:k+m < i
 ·rw [if_pos c] at hm
  have hl:=(List.getElem?_eq_some_iff.mp hm).1
  have hl':k+m < a.size:=by simpa using hl
  refine ⟨k+m,by omega,c,hl',?_⟩
  rw [q57 hl'] at hm
  exact (Option.some.inj hm).symm
 ·rw [if_neg c] at hm
  cases hm
theorem one_last (h0:0 < i) (h:i<=a.size):(a.toList.take i).drop (i - 1)=[kas_item a (i - 1)]:=by
 obtain ⟨t,rfl⟩:∃ t,i=t+1:=⟨i - 1,by omega⟩
 have e:=q57 (a:=a) (i:=t) (by omega)
 rw [Nat.add_sub_cancel,List.take_add_one,e,List.drop_append_of_le_length (by simp;omega),List.drop_of_length_le (by rw [List.length_take];omega)]
 rfl
theorem hgalA (T:Tot P lt) (sb:Srt lt b.toList) (sa:Srt lt a.toList) (pa:∀ x ∈ a.toList,P x) (pb:∀ x ∈ b.toList,P x) (m:BInv lt a b out i j) (hi:i<=a.size) (hj0:0 < j) (hj:j<=b.size) (hk:k<=i)
  (h:∀ t,k<=t->t < i->lt (kas_item b (j - 1)) (kas_item a t)=true):BInv lt a b (out++(a.extract k i).reverse) k j:=by
 have z:=m.chunkA sa k hk (by simpa using hi) (fun x hx y hy=>by
  obtain ⟨j',h1,h2,rfl⟩:=q241 hx
  obtain ⟨t,g1,g2,g3,rfl⟩:=q489 hy
  have q:=T.asym _ _ (pb _ (q20 (by omega))) (pa _ (q20 g3)) (h t g1 g2)
  by_cases e:j'=j - 1
  ·rw [e];exact q
  ·exact T.trans _ _ _ (pb _ (q20 h2)) (pb _ (q20 (by omega))) (pa _ (q20 g3)) (q96 T sb pb (by omega) (by omega)) q)
 have e:(out++(a.extract k i).reverse).reverse.toList=(a.toList.take i).drop k++out.reverse.toList:=by
  rw [<- ext0 hi]
  simp
 show HInv lt _ _ (out++(a.extract k i).reverse).reverse.toList _ _
 rw [e]
 exact z
theorem hgalB (T:Tot P lt) (sb:Srt lt b.toList) (sa:Srt lt a.toList) (pa:∀ x ∈ a.toList,P x) (pb:∀ x ∈ b.toList,P x) (m:BInv lt a b out i j) (hi0:0 < i) (hi:i<=a.size) (hj:j<=b.size) (hk:k<=j)
  (h:∀ t,k<=t->t < j->lt (kas_item b t) (kas_item a (i - 1))=false):BInv lt a b (out++(b.extract k j).reverse) i k:=by
 have z:=m.chunkB sb k hk (by simpa using hj) (fun x hx y hy=>by
  obtain ⟨i',h1,h2,rfl⟩:=q241 hx
  obtain ⟨t,g1,g2,g3,rfl⟩:=q489 hy
  have q:=h t g1 g2
  by_cases e:i'=i - 1
  ·rw [e];exact q
  ·exact T.trans _ _ _ (pa _ (q20 h2)) (pa _ (q20 (by omega))) (pb _ (q20 g3)) (q96 T sa pa (by omega) (by omega)) q)
 have e:(out++(b.extract k j).reverse).reverse.toList=(b.toList.take j).drop k++out.reverse.toList:=by
  rw [<- ext0 hj]
  simp
 show HInv lt _ _ (out++(b.extract k j).reverse).reverse.toList _ _
 rw [e]
 exact z
theorem q490 (h0:0 < i) (h:i<=a.size):out++(a.extract (i - 1) i).reverse=out.push (kas_item a (i - 1)):=by
 apply Array.toList_inj.mp
 rw [Array.toList_append,Array.toList_reverse,ext0 h,one_last h0 h]
 simp
theorem q620 (T:Tot P lt) (sb:Srt lt b.toList) (sa:Srt lt a.toList) (pa:∀ x ∈ a.toList,P x) (pb:∀ x ∈ b.toList,P x) (m:BInv lt a b out i j) (hi0:0 < i) (hi:i<=a.size) (hj0:0 < j) (hj:j<=b.size) (h:lt (kas_item b (j - 1)) (kas_item a (i - 1))=true):BInv lt a b (out.push (kas_item a (i - 1))) (i - 1) j:=by
 rw [<- q490 hi0 hi]
 exact hgalA T sb sa pa pb m hi hj0 hj (by omega) fun t h1 h2=>by
  have:t=i - 1:=by omega
  rw [this];exact h
theorem hpushB (T:Tot P lt) (sb:Srt lt b.toList) (sa:Srt lt a.toList) (pa:∀ x ∈ a.toList,P x) (pb:∀ x ∈ b.toList,P x) (m:BInv lt a b out i j) (hi0:0 < i) (hi:i<=a.size) (hj0:0 < j) (hj:j<=b.size) (h:lt (kas_item b (j - 1)) (kas_item a (i - 1))=false):BInv lt a b (out.push (kas_item b (j - 1))) i (j - 1):=by
 rw [<- q490 hj0 hj]
 exact hgalB T sb sa pa pb m hi0 hi hj (by omega) fun t h1 h2=>by
  have:t=j - 1:=by omega
  rw [this];exact h
theorem q491 (sb:Srt lt b.toList) (m:BInv lt a b out i j) (hj:j<=b.size) (h:i=0):FinA lt a b (a.extract 0 i++b.extract 0 j++out.reverse):=by
 subst h
 have z:=(m.chunkB sb 0 (Nat.zero_le _) (by simpa using hj) (fun x hx=>absurd hx (by simp))).fin
 show Fin2 lt _ _ (a.extract 0 0++b.extract 0 j++out.reverse).toList
 rw [Array.toList_append,Array.toList_append,ext0 hj,ext0 (Nat.zero_le _)]
 simpa using z
theorem hdoneB (sa:Srt lt a.toList) (m:BInv lt a b out i j) (hi:i<=a.size) (h:j=0):FinA lt a b (a.extract 0 i++b.extract 0 j++out.reverse):=by
 subst h
 have z:=(m.chunkA sa 0 (Nat.zero_le _) (by simpa using hi) (fun x hx=>absurd hx (by simp))).fin
 show Fin2 lt _ _ (a.extract 0 i++b.extract 0 0++out.reverse).toList
 rw [Array.toList_append,Array.toList_append,ext0 hi,ext0 (Nat.zero_le _)]
 simpa using z
theorem q492 (sa:Srt lt a.toList) (sb:Srt lt b.toList) (m:BInv lt a b out i j) (hi:i<=a.size) (hj:j<=b.size) (h:j=1) (hf:∀ x ∈ a.toList,lt x (kas_item b 0)=false):FinA lt a b (b.extract 0 j++a.extract 0 i++out.reverse):=by
 subst h
 have z:=m.chunkA sa 0 (Nat.zero_le _) (by simpa using hi) (fun x hx y hy=>by
  obtain ⟨t,h1,h2,rfl⟩:=q241 hx
  have:t=0:=by omega
  subst this
  exact hf y (List.mem_of_mem_take (List.mem_of_mem_drop hy)))
 have z2:=(z.chunkB sb 0 (Nat.zero_le _) (by simpa using hj) (fun x hx=>absurd hx (by simp))).fin
 show Fin2 lt _ _ (b.extract 0 1++a.extract 0 i++out.reverse).toList
 rw [Array.toList_append,Array.toList_append,ext0 hi,ext0 hj]
 simpa using z2
end
section
variable {prog:Program} {w:World} {A:Around} {E:VS} {κ:SortKind} {P:Keyed->Prop} {lt:Keyed->Keyed->Bool}
theorem mergeHi_ {s:Shared} (G:Good prog w A E κ P lt s) (T:Tot P lt) {a b:Array Keyed} {Q:Array Keyed->SortSt->Shared->Prop} {st:SortSt} (hst:kindOf st=κ) (pa:∀ x ∈ a.toList,P x) (pb:∀ x ∈ b.toList,P x) (sa:Srt lt a.toList) (sb:Srt lt b.toList)
  (na:0 < a.size) (nb:0 < b.size) (hl:lt (kas_item b (b.size - 1)) (kas_item a (a.size - 1))=true) (hf:∀ x ∈ a.toList,lt x (kas_item b 0)=false) (h:∀ r st',Kp st st'->FinA lt a b r->Q r st' s):kasC (model prog w) A E (mergeHi' a b) Q st s:=by
 have m0:BInv lt a b (#[]:Array Keyed) a.size b.size:=by
  have z:=HInv.zero (lt:=lt) a.toList b.toList
  simpa [BInv] using z
 have m1:=q620 T sb sa pa pb m0 na (Nat.le_refl _) nb (Nat.le_refl _) hl
 refine kasC_bind (kasC_lift (wpAny_rule ?_))
 refine kasC_bind (q55 (show a.size - 1 < a.size by omega) ?_)
 extract_lets -merge
 dsimp -zeta +zetaDelta only
 by_cases c1:a.size - 1=0
 ·rw [if_pos (by simp [c1])]
  exact kasC_pure (h _ _ (Kp.refl _) (q491 sb m1 (Nat.le_refl _) c1))
 rw [if_neg (by simpa using c1)]
 by_cases c2:b.size=1
 ·rw [if_pos (by simp [c2])]
  exact kasC_pure (h _ _ (Kp.refl _) (q492 sa sb m1 (by omega) (Nat.le_refl _) c2 hf))
 rw [if_neg (by simpa using c2)]
 refine kasC_bind (kasC_get ?_)
 refine kasC_bind (q141 (fun t r st' s'=>Kp st st'/\s'=s /\ ∃ i j out mg,r=(none,i,j,out,mg)/\BInv lt a b out i j/\1<=i/\i<=a.size/\2<=j/\j<=b.size/\t+i+j<=a.size+b.size)
  (fun r st' s'=>Kp st st'/\s'=s /\ ∃ res z,r=(some res,z)/\FinA lt a b res) ⟨Kp.refl _,rfl,_,_,_,_,rfl,m1,by omega,by omega,by omega,by omega,by omega⟩ ?_ ?_ ?_)
 ·rintro r st' s' ⟨_,_,i,j,out,mg,_,_,h1,h2,h3,h4,h5⟩
  omega
 ·rintro t x r st' s' ht ⟨K1,rfl,i,j,out,mg,rfl,m,hi0,hi,hj0,hj,hij⟩ N dn yl
  dsimp -zeta only
  extract_lets -merge
  dsimp -zeta +zetaDelta only
  refine kasC_bind (q141 (fun u r st₂ s₂=>st₂=st'/\s₂=s' /\ ∃ i₂ j₂ out₂ ac bc,r=(none,i₂,j₂,out₂,ac,bc)/\BInv lt a b out₂ i₂ j₂/\1<=i₂/\i₂<=a.size/\2<=j₂/\j₂<=b.size/\u+i₂+j₂<=i+j)
   (fun r st₂ s₂=>st₂=st'/\s₂=s'/\((∃ res z,r=(some res,z)/\FinA lt a b res) \/ ∃ i₂ j₂ out₂ ac bc,r=(none,i₂,j₂,out₂,ac,bc)/\BInv lt a b out₂ i₂ j₂/\1<=i₂/\i₂<=a.size/\2<=j₂/\j₂<=b.size/\i₂+j₂<=i+j))
   ⟨rfl,rfl,_,_,_,_,_,rfl,m,hi0,hi,hj0,hj,by omega⟩ ?_ ?_ ?_)
  ·rintro r st₂ s₂ ⟨_,_,i₂,j₂,out₂,ac,bc,_,_,h1,h2,h3,h4,h5⟩
   omega
  ·rintro u x r st₂ s₂ hu ⟨rfl,rfl,i₂,j₂,out₂,ac,bc,rfl,m₂,hi₂0,hi₂,hj₂0,hj₂,hu₂⟩ N dn yl
   dsimp -zeta only
   extract_lets -merge
   dsimp -zeta +zetaDelta only
   have ja:j₂ - 1 < b.size:=by omega
   have ia:i₂ - 1 < a.size:=by omega
   refine kasC_bind (q55 ja (kasC_bind (q55 ia ?_)))
   refine kasC_bind (G _ _ _ _ (pb _ (q20 ja)) (pa _ (q20 ia)) (K1.1.trans hst) ?_)
   dsimp -zeta only
   cases hb:lt (kas_item b (j₂ - 1)) (kas_item a (i₂ - 1)) with
   | true=>
    rw [if_pos rfl]
    refine kasC_bind (q55 ia ?_)
    have m₃:=q620 T sb sa pa pb m₂ (by omega) hi₂ (by omega) hj₂ hb
    by_cases d1:i₂ - 1=0
    ·rw [if_pos (by simp [d1])]
     exact kasC_pure (dn ⟨rfl,rfl,.inl ⟨_,_,rfl,q491 sb m₃ hj₂ d1⟩⟩)
    rw [if_neg (by simpa using d1)]
    by_cases d2:ac+1>=mg
    ·rw [if_pos d2]
     exact kasC_pure (dn ⟨rfl,rfl,.inr ⟨_,_,_,_,_,rfl,m₃,by omega,by omega,by omega,by omega,by omega⟩⟩)
    ·rw [if_neg d2]
     exact kasC_pure (yl ⟨rfl,rfl,_,_,_,_,_,rfl,m₃,by omega,by omega,by omega,by omega,by omega⟩)
   | false=>
    rw [if_neg fnt]
    refine kasC_bind (q55 ja ?_)
    have m₃:=hpushB T sb sa pa pb m₂ (by omega) hi₂ (by omega) hj₂ hb
    by_cases d1:j₂ - 1=1
    ·rw [if_pos (by simp [d1])]
     exact kasC_pure (dn ⟨rfl,rfl,.inl ⟨_,_,rfl,q492 sa sb m₃ hi₂ (by omega) d1 hf⟩⟩)
    rw [if_neg (by simpa using d1)]
    by_cases d2:bc+1>=mg
    ·rw [if_pos d2]
     exact kasC_pure (dn ⟨rfl,rfl,.inr ⟨_,_,_,_,_,rfl,m₃,by omega,by omega,by omega,by omega,by omega⟩⟩)
    ·rw [if_neg d2]
     exact kasC_pure (yl ⟨rfl,rfl,_,_,_,_,_,rfl,m₃,by omega,by omega,by omega,by omega,by omega⟩)
  ·rintro r st₂ s₂ ⟨rfl,rfl,hr⟩
   rcases hr with ⟨res,z,rfl,hfin⟩ | ⟨i₂,j₂,out₂,ac,bc,rfl,m₂,hi₂0,hi₂,hj₂0,hj₂,hu₂⟩
   ·exact kasC_pure (dn ⟨K1,rfl,_,_,rfl,hfin⟩)
   dsimp -zeta only
   extract_lets -merge
   dsimp -zeta +zetaDelta only
   refine kasC_bind (kasC_lift (wpAny_rule ?_))
   refine kasC_bind (q141 (fun u r st₃ s₃=>Kp st st₃/\s₃=s₂ /\ ∃ i₃ j₃ out₃ mg ac bc,r=(none,i₃,j₃,out₃,mg,ac,bc)/\BInv lt a b out₃ i₃ j₃/\1<=i₃/\i₃<=a.size/\2<=j₃/\j₃<=b.size/\u+i₃+j₃<=i₂+j₂)
    (fun r st₃ s₃=>Kp st st₃/\s₃=s₂/\((∃ res z,r=(some res,z)/\FinA lt a b res) \/ ∃ i₃ j₃ out₃ mg ac bc,r=(none,i₃,j₃,out₃,mg,ac,bc)/\BInv lt a b out₃ i₃ j₃/\1<=i₃/\i₃<=a.size/\2<=j₃/\j₃<=b.size/\1+i₃+j₃<=i₂+j₂))
    ⟨K1,rfl,_,_,_,_,_,_,rfl,m₂,hi₂0,hi₂,hj₂0,hj₂,by omega⟩ ?_ ?_ ?_)
   ·rintro r st₃ s₃ ⟨_,_,i₃,j₃,out₃,mg,ac,bc,_,_,h1,h2,h3,h4,h5⟩
    omega
   ·rintro u x r st₃ s₃ hu ⟨K3,rfl,i₃,j₃,out₃,mg,ac,bc,rfl,m₃,hi₃0,hi₃,hj₃0,hj₃,hu₃⟩ N dn yl
    dsimp -zeta only
    extract_lets -merge +onlyGivenNames _ _ _ _ _ _ _ _ _ _ _
    dsimp -zeta +zetaDelta only
    extract_lets -underBinder jp
    refine c_J1 jp fun mgx=>?_
    dsimp -zeta only [jp]
    clear jp
    have ja:j₃ - 1 < b.size:=by omega
    obtain ⟨k,hk,hB⟩:=exA T sa pa (pb _ (q20 ja)) i₃ (i:=0) (by omega)
    have gA:∀ t,t < k->lt (kas_item b (j₃ - 1)) (kas_item a t)=false:=fun t ht=>by
     have q:=hB t (by omega)
     rw [if_neg fnt,Nat.zero_add,decide_eq_true ht,Bool.not_eq_true'] at q
     exact q
    have gB:∀ t,k<=t->t < i₃->lt (kas_item b (j₃ - 1)) (kas_item a t)=true:=fun t h1 h2=>by
     have q:=hB t h2
     rw [if_neg fnt,Nat.zero_add,decide_eq_false (by omega),Bool.not_eq_false'] at q
     exact q
    have m₄:=hgalA T sb sa pa pb m₃ hi₃ (by omega) hj₃ hk gB
    have key:∀ st₄,Kp st st₄->kindOf st₄=κ:=fun st₄ K4=>K4.1.trans hst
    refine kasC_bind (q488 fun st₄ K4=>?_)
    have K5:=K3.trans K4
    refine kasC_bind (q55 ja ?_)
    refine kasC_bind (q188 G (key _ K5) (pb _ (q20 ja)) (fun t ht=>pa _ (q20 (by omega))) (by omega) (by omega) hk hB ?_)
    dsimp -zeta only
    extract_lets -merge +onlyGivenNames _
    dsimp -zeta +zetaDelta only
    extract_lets -underBinder jp
    refine c_jp jp (fun i' o=>BInv lt a b o i' j₃/\0 < i'/\i'<=i₃/\lt (kas_item b (j₃ - 1)) (kas_item a (i' - 1))=false) ?_ ?_ ?_
    ·rintro i' o ⟨m₄,hi4,hi4',hb4⟩
     dsimp -zeta only [jp]
     clear jp
     refine kasC_bind (q55 ja ?_)
     extract_lets -merge
     dsimp -zeta +zetaDelta only
     have m₅:=hpushB T sb sa pa pb m₄ hi4 (by omega) (by omega) (by omega) hb4
     by_cases d3:j₃ - 1=1
     ·rw [if_pos (by simp [d3])]
      exact kasC_pure (dn ⟨K5,rfl,.inl ⟨_,_,rfl,q492 sa sb m₅ (by omega) (by omega) d3 hf⟩⟩)
     rw [if_neg (by simpa using d3)]
     have hi5:i' - 1 < a.size:=by omega
     refine kasC_bind (q55 hi5 ?_)
     generalize o.push (kas_item b (j₃ - 1))=o5 at m₅ ⊢
     have hj5:2<=j₃ - 1/\j₃ - 1 < j₃:=by omega
     generalize j₃ - 1=j5 at m₅ hj5 ⊢
     obtain ⟨k2,hk2,hB2⟩:=exB T sb pb (pa _ (q20 hi5)) j5 (j:=0) (by omega)
     have gA2:∀ t,t < k2->lt (kas_item b t) (kas_item a (i' - 1))=true:=fun t ht=>by
      have q:=hB2 t (by omega)
      rw [if_pos rfl,Nat.zero_add,decide_eq_true ht] at q
      exact q
     have gB2:∀ t,k2<=t->t < j5->lt (kas_item b t) (kas_item a (i' - 1))=false:=fun t h1 h2=>by
      have q:=hB2 t h2
      rw [if_pos rfl,Nat.zero_add,decide_eq_false (by omega)] at q
      exact q
     refine kasC_bind (q188 G (key _ K5) (pa _ (q20 hi5)) (fun t ht=>pb _ (q20 (by omega))) (by omega) (by omega) hk2 hB2 ?_)
     dsimp -zeta only
     extract_lets -merge +onlyGivenNames _
     dsimp -zeta +zetaDelta only
     extract_lets -underBinder jp
     refine c_jp jp (fun j' o=>BInv lt a b o i' j'/\2<=j'/\j'<=j5/\lt (kas_item b (j' - 1)) (kas_item a (i' - 1))=true) ?_ ?_ ?_
     ·rintro j' o ⟨m₆,hj6,hj6',hb6⟩
      dsimp -zeta only [jp]
      clear jp
      refine kasC_bind (q55 hi5 ?_)
      extract_lets -merge
      dsimp -zeta +zetaDelta only
      have m₇:=q620 T sb sa pa pb m₆ hi4 (by omega) (by omega) (by omega) hb6
      by_cases d6:i' - 1=0
      ·rw [if_pos (by simp [d6])]
       exact kasC_pure (dn ⟨K5,rfl,.inl ⟨_,_,rfl,q491 sb m₇ (by omega) d6⟩⟩)
      rw [if_neg (by simpa using d6)]
      split
      ·exact kasC_pure (dn ⟨K5,rfl,.inr ⟨_,_,_,_,_,_,rfl,m₇,by omega,by omega,by omega,by omega,by omega⟩⟩)
      ·exact kasC_pure (yl ⟨K5,rfl,_,_,_,_,_,_,rfl,m₇,by omega,by omega,by omega,by omega,by omega⟩)
     ·intro hz2 J
      clear_value jp
      dsimp -zeta +zetaDelta only
      have m₆:=hgalB T sb sa pa pb m₅ hi4 (by omega) (by omega) (show k2<=j5 by omega) gB2
      by_cases d4:k2=1
      ·rw [if_pos (by simp [d4])]
       exact kasC_pure (dn ⟨K5,rfl,.inl ⟨_,_,rfl,q492 sa sb m₆ (by omega) (by omega) d4 hf⟩⟩)
      rw [if_neg (by simpa using d4)]
      by_cases d5:k2=0
      ·rw [if_pos (by simp [d5])]
       exact kasC_pure (dn ⟨K5,rfl,.inl ⟨_,_,rfl,hdoneB sa m₆ (by omega) d5⟩⟩)
      rw [if_neg (by simpa using d5)]
      exact J _ _ ⟨m₆,by omega,by omega,gA2 _ (by omega)⟩
     ·intro hz2
      exact ⟨m₅,by omega,Nat.le_refl _,gA2 _ (by omega)⟩
    ·intro hz J
     clear_value jp
     dsimp -zeta +zetaDelta only
     by_cases d1:k=0
     ·rw [if_pos (by simp [d1])]
      exact kasC_pure (dn ⟨K5,rfl,.inl ⟨_,_,rfl,q491 sb m₄ hj₃ d1⟩⟩)
     rw [if_neg (by simpa using d1)]
     exact J _ _ ⟨m₄,by omega,by omega,gA _ (by omega)⟩
    ·intro hz
     exact ⟨m₃,by omega,Nat.le_refl _,gA _ (by omega)⟩
   ·rintro r st₃ s₃ ⟨K3,rfl,hr⟩
    rcases hr with ⟨res,z,rfl,hfin⟩ | ⟨i₃,j₃,out₃,mg,ac,bc,rfl,m₃,hi₃0,hi₃,hj₃0,hj₃,hu₃⟩
    ·exact kasC_pure (dn ⟨K3,rfl,_,_,rfl,hfin⟩)
    dsimp -zeta only
    extract_lets -merge
    dsimp -zeta +zetaDelta only
    refine kasC_bind (q488 fun st₄ K4=>?_)
    exact kasC_pure (yl ⟨K3.trans K4,rfl,_,_,_,_,rfl,m₃,hi₃0,hi₃,hj₃0,hj₃,by omega⟩)
 ·rintro r st' s' ⟨K1,rfl,res,z,rfl,hfin⟩
  exact kasC_pure (h _ _ K1 hfin)
end
end TS
namespace TS
set_option autoImplicit false
open PySem PySem.W PyProof.Rows
section
variable {prog:Program} {w:World} {A:Around} {E:VS}
theorem c_upto {β:Type} {f:Nat->β->M2 (ForInStep β)} {R:β->SortSt->Shared->Prop} (I:Nat->β->SortSt->Shared->Prop) :
  ∀ (m a:Nat) (b:β) (st:SortSt) (s:Shared),I a b st s->(∀ b st s,I (a+m) b st s->R b st s) ->
  (∀ k b st s,a<=k->k < a+m->I k b st s->kasC (model prog w) A E (f k b) (fun r st' s'=>match r with | .done b'=>R b' st' s' | .yield b'=>I (k+1) b' st' s') st s) ->
  kasC (model prog w) A E (forIn (List.range' a m) b f) R st s
 | 0,a,b,st,s,hi,hq,_=>kasC_nil (hq b st s hi)
 | m+1,a,b,st,s,hi,hq,hs=>by
  rw [List.range'_succ]
  refine kasC_cons (wpAny_mono (hs a b st s (Nat.le_refl _) (by omega) hi) (fun r s' h=>?_) fun _ _ e=>e)
  obtain ⟨r,st'⟩:=r
  cases r with
  | done b'=>exact h
  | yield b'=>exact c_upto I m (a+1) b' st' s' h (fun b st s hb=>hq b st s (by rw [show a+(m+1)=a+1+m by omega];exact hb)) (fun k b st s h1 h2 h3=>hs k b st s (by omega) (by omega) h3)
theorem q162 {β:Type} {f:Nat->β->M2 (ForInStep β)} {Q:β->SortSt->Shared->Prop} {a n:Nat} {b:β} {st:SortSt} {s:Shared} (han:a<=n) (I:Nat->β->SortSt->Shared->Prop) (R:β->SortSt->Shared->Prop) (h0:I a b st s) (he:∀ b st s,I n b st s->R b st s)
  (hs:∀ k b st s,a<=k->k < n->I k b st s->kasC (model prog w) A E (f k b) (fun r st' s'=>match r with | .done b'=>R b' st' s' | .yield b'=>I (k+1) b' st' s') st s) (hR:∀ b st s,R b st s->Q b st s):kasC (model prog w) A E (forIn [a:n] b f) Q st s:=by
 refine kasC_range (wpAny_mono (c_upto I (n - a) a b st s h0 (fun b st s h=>he b st s (by rw [show a+(n - a)=n by omega] at h;exact h)) (fun k b st s h1 h2 h3=>hs k b st s h1 (by omega) h3)) (fun r s' h=>hR _ _ _ h) fun _ _ e=>e)
end
section
variable {P:Keyed->Prop} {lt:Keyed->Keyed->Bool}
theorem q99 {xs ys:Array Keyed} {i j:Nat} (h:xs[i]? = ys[j]?):kas_item xs i=kas_item ys j:=by
 unfold kas_item
 rw [Array.getD_eq_getD_getElem?,Array.getD_eq_getD_getElem?,h]
theorem q242 {xs:Array Keyed} {src d:Nat} (hs:src < xs.size) (hd:d<=src) (t:Nat):kas_item (bubble xs src d) t=if t=src - d then kas_item xs src else if src - d < t/\t<=src then kas_item xs (t - 1) else kas_item xs t:=by
 have e:=getElem?_bubble hs d hd t
 by_cases h1:t=src - d
 ·rw [if_pos h1] at e ⊢;exact q99 e
 ·rw [if_neg h1] at e ⊢
  by_cases h2:src - d < t/\t<=src
  ·rw [if_pos h2] at e ⊢;exact q99 e
  ·rw [if_neg h2] at e ⊢;exact q99 e
theorem q150 {xs:Array Keyed} {i j:Nat} (hj:j<=xs.size) (t:Nat):kas_item (mirror xs i j ((j - i) / 2)) t=if i<=t/\t < j then kas_item xs (i+j - 1 - t) else kas_item xs t:=by
 have e:=getElem?_mirror_all (i:=i) hj t
 by_cases h1:i<=t/\t < j
 ·rw [if_pos h1] at e ⊢;exact q99 e
 ·rw [if_neg h1] at e ⊢;exact q99 e
structure Loc (xs ys:Array Keyed) (lo hi:Nat):Prop where
 size:ys.size=xs.size
 perm:ys.Perm xs
 out:∀ t,t < lo\/hi<=t->ys[t]? = xs[t]?
theorem Loc.refl (xs:Array Keyed) (lo hi:Nat):Loc xs xs lo hi:=⟨rfl,Array.Perm.refl _,fun _ _=>rfl⟩
theorem Loc.trans {xs ys zs:Array Keyed} {lo hi:Nat} (a:Loc xs ys lo hi) (b:Loc ys zs lo hi):Loc xs zs lo hi:=⟨b.size.trans a.size,b.perm.trans a.perm,fun t ht=>(b.out t ht).trans (a.out t ht)⟩
theorem Loc.wide {xs ys:Array Keyed} {lo hi lo' hi':Nat} (a:Loc xs ys lo hi) (h1:lo'<=lo) (h2:hi<=hi'):Loc xs ys lo' hi':=⟨a.size,a.perm,fun t ht=>a.out t (by omega)⟩
theorem Loc.good {xs ys:Array Keyed} {lo hi:Nat} (a:Loc xs ys lo hi) (h:∀ x ∈ xs.toList,P x):∀ x ∈ ys.toList,P x:=fun x hx=>h x ((Array.perm_iff_toList_perm.mp a.perm).mem_iff.mp hx)
theorem q544 {xs:Array Keyed} {src d:Nat} (hs:src < xs.size) (hd:d<=src):Loc xs (bubble xs src d) (src - d) (src+1):=⟨bubble_size _ _ _,bubble_perm _ _ _,fun t ht=>by
 rw [getElem?_bubble hs d hd t]
 by_cases h1:t=src - d
 ·omega
 ·rw [if_neg h1,if_neg (by omega)]⟩
theorem q74 {xs:Array Keyed} {i j:Nat} (hj:j<=xs.size):Loc xs (mirror xs i j ((j - i) / 2)) i j:=⟨mirror_size _ _ _ _,mirror_perm _ _ _ _,fun t ht=>by
 rw [getElem?_mirror_all hj t,if_neg (by omega)]⟩
def Asc (lt:Keyed->Keyed->Bool) (xs:Array Keyed) (lo n:Nat):Prop:=∀ p q,p < q->q < n->lt (kas_item xs (lo+q)) (kas_item xs (lo+p))=false
def Su (st st':SortSt):Prop:=kindOf st'=kindOf st/\pendingOf st'=pendingOf st/\failedOf st'=failedOf st
theorem Su.refl (st:SortSt):Su st st:=⟨rfl,rfl,rfl⟩
theorem Su.trans {a b c:SortSt} (h:Su a b) (g:Su b c):Su a c:=⟨g.1.trans h.1,g.2.1.trans h.2.1,g.2.2.trans h.2.2⟩
theorem ins_asc (T:Tot P lt) {xs:Array Keyed} {lo k l:Nat} (hp:∀ x ∈ xs.toList,P x) (hz:lo+k < xs.size) (hl:l<=k) (hs:Asc lt xs lo k) (h1:∀ t,t < l->lt (kas_item xs (lo+k)) (kas_item xs (lo+t))=false) (h2:∀ t,l<=t->t < k->lt (kas_item xs (lo+k)) (kas_item xs (lo+t))=true) :
  Asc lt (bubble xs (lo+k) (lo+k - (lo+l))) lo (k+1):=by
 have pm:∀ t,t<=k->P (kas_item xs (lo+t)):=fun t ht=>hp _ (q20 (by omega))
 intro p q hpq hq
 rw [q242 hz (by omega),q242 hz (by omega)]
 by_cases q1:q=l
 ·rw [if_pos (by omega),if_neg (by omega),if_neg (by omega)]
  exact h1 p (by omega)
 ·rw [if_neg (show ¬ lo+q=lo+k - (lo+k - (lo+l)) by omega)]
  by_cases q2:l < q
  ·rw [if_pos (show lo+k - (lo+k - (lo+l)) < lo+q/\lo+q<=lo+k by omega),show lo+q - 1=lo+(q - 1) by omega]
   by_cases p1:p=l
   ·rw [if_pos (by omega)]
    exact T.asym _ _ (pm k (Nat.le_refl _)) (pm (q - 1) (by omega)) (h2 (q - 1) (by omega) (by omega))
   ·rw [if_neg (by omega)]
    by_cases p2:l < p
    ·rw [if_pos (by omega),show lo+p - 1=lo+(p - 1) by omega]
     exact hs (p - 1) (q - 1) (by omega) (by omega)
    ·rw [if_neg (by omega)]
     exact hs p (q - 1) (by omega) (by omega)
  ·rw [if_neg (by omega),if_neg (by omega),if_neg (by omega)]
   exact hs p q hpq (by omega)
end
section
variable {prog:Program} {w:World} {A:Around} {E:VS} {κ:SortKind} {P:Keyed->Prop} {lt:Keyed->Keyed->Bool}
theorem q288 {s:Shared} (G:Good prog w A E κ P lt s) {i j:Nat} {Q:Option Bool->SortSt->Shared->Prop} {st:SortSt} (hst:kindOf st=κ) (hp:∀ x ∈ (arrOf st).toList,P x) (hi:i < (arrOf st).size) (hj:j < (arrOf st).size)
  (h:Q (some (lt (kas_item (arrOf st) i) (kas_item (arrOf st) j))) st s):kasC (model prog w) A E (ltAt' i j) Q st s:=by
 rw [ltAt'_eq]
 refine kasC_bind (kasC_get (kasC_bind (q55 hi (kasC_bind (q55 hj ?_)))))
 exact G _ _ _ _ (hp _ (q20 hi)) (hp _ (q20 hj)) hst h
theorem c_move {k l:Nat} {Q:Unit->SortSt->Shared->Prop} {st:SortSt} {s:Shared} (h:∀ st',Su st st'->arrOf st'=bubble (arrOf st) k (k - l)->Q () st' s):kasC (model prog w) A E (moveDown' k l) Q st s:=by
 rw [moveDown'_eq]
 exact kasC_modify (h _ ⟨rfl,rfl,rfl⟩ rfl)
theorem c_rev {i j:Nat} {Q:Unit->SortSt->Shared->Prop} {st:SortSt} {s:Shared} (h:∀ st',Su st st'->arrOf st'=mirror (arrOf st) i j ((j - i) / 2)->Q () st' s):kasC (model prog w) A E (reverseSlice' i j) Q st s:=by
 rw [reverseSlice'_eq]
 exact kasC_modify (h _ ⟨rfl,rfl,rfl⟩ rfl)
theorem q438 {s:Shared} (G:Good prog w A E κ P lt s) (T:Tot P lt) {lo n ok:Nat} {Q:Bool->SortSt->Shared->Prop} {st:SortSt} (hst:kindOf st=κ) (hp:∀ x ∈ (arrOf st).toList,P x) (hn:lo+n<=(arrOf st).size) (hok:ok<=n) (h1:1<=n) (hs:Asc lt (arrOf st) lo ok)
  (h:∀ st',Su st st'->Loc (arrOf st) (arrOf st') lo (lo+n)->Asc lt (arrOf st') lo n->Q true st' s):kasC (model prog w) A E (binarySort' lo n ok) Q st s:=by
 refine kasC_bind (q162 (show max ok 1<=n by omega) (fun k r st' s'=>s'=s/\r=(none,())/\Su st st'/\Loc (arrOf st) (arrOf st') lo (lo+n)/\Asc lt (arrOf st') lo k) (fun r st' s'=>s'=s/\r=(none,())/\Su st st'/\Loc (arrOf st) (arrOf st') lo (lo+n)/\Asc lt (arrOf st') lo n)
  ⟨rfl,rfl,Su.refl _,Loc.refl _ _ _,fun p q h1 h2=>hs p q h1 (by omega)⟩ (fun _ _ _ h=>h) ?_ ?_)
 ·rintro k r st' s' hk1 hk2 ⟨rfl,rfl,S1,L1,A1⟩
  dsimp only
  have hp':=L1.good hp
  have hz:(arrOf st').size=(arrOf st).size:=L1.size
  refine kasC_bind (q82 (fun u r st₂ s₂=>st₂=st'/\s₂=s' /\ ∃ l r',r=(none,l,r')/\l<=r'/\r'<=k/\(r' - l)+u<=k/\(∀ t,t < l->lt (kas_item (arrOf st') (lo+k)) (kas_item (arrOf st') (lo+t))=false) /\ ∀ t,r'<=t->t < k->lt (kas_item (arrOf st') (lo+k)) (kas_item (arrOf st') (lo+t))=true)
   (fun r st₂ s₂=>st₂=st'/\s₂=s' /\ ∃ l r',r=(none,l,r')/\l<=k/\(∀ t,t < l->lt (kas_item (arrOf st') (lo+k)) (kas_item (arrOf st') (lo+t))=false) /\ ∀ t,l<=t->t < k->lt (kas_item (arrOf st') (lo+k)) (kas_item (arrOf st') (lo+t))=true)
   ⟨rfl,rfl,0,k,rfl,by omega,by omega,by omega,fun t ht=>absurd ht (Nat.not_lt_zero _),fun t h1 h2=>by omega⟩ ?_ ?_ ?_)
  ·rintro r st₂ s₂ ⟨rfl,rfl,l,r',rfl,g1,g2,g3,g4,g5⟩
   exact ⟨rfl,rfl,l,r',rfl,by omega,g4,fun t h1 h2=>g5 t (by omega) h2⟩
  ·rintro u x r st₂ s₂ hu ⟨rfl,rfl,l,r',rfl,g1,g2,g3,g4,g5⟩
   dsimp only
   by_cases c:l>=r'
   ·rw [if_pos c]
    exact kasC_pure ⟨rfl,rfl,l,r',rfl,by omega,g4,fun t h1 h2=>g5 t (by omega) h2⟩
   rw [if_neg c]
   refine kasC_bind (q288 G (S1.1.trans hst) hp' (by omega) (by omega) ?_)
   dsimp only
   have pm:∀ t,t<=k->P (kas_item (arrOf st₂) (lo+t)):=fun t ht=>hp' _ (q20 (by omega))
   cases hl:lt (kas_item (arrOf st₂) (lo+k)) (kas_item (arrOf st₂) (lo+(l+r') / 2)) with
   | true=>
    rw [if_pos rfl]
    refine kasC_pure ⟨rfl,rfl,_,_,rfl,by omega,by omega,by omega,g4,fun t h1 h2=>?_⟩
    by_cases e:t=(l+r') / 2
    ·rw [e];exact hl
    ·cases c2:lt (kas_item (arrOf st₂) (lo+k)) (kas_item (arrOf st₂) (lo+t)) with
     | true=>rfl
     | false=>
      have z:=T.trans _ _ _ (pm ((l+r') / 2) (by omega)) (pm t (by omega)) (pm k (Nat.le_refl _)) (A1 _ _ (by omega) h2) c2
      rw [hl] at z
      cases z
   | false=>
    rw [if_neg fnt]
    refine kasC_pure ⟨rfl,rfl,_,_,rfl,by omega,by omega,by omega,fun t ht=>?_,g5⟩
    by_cases e:t=(l+r') / 2
    ·rw [e];exact hl
    ·exact T.trans _ _ _ (pm t (by omega)) (pm ((l+r') / 2) (by omega)) (pm k (Nat.le_refl _)) (A1 _ _ (by omega) (by omega)) hl
  ·rintro r st₂ s₂ ⟨rfl,rfl,l,r',rfl,g1,g4,g5⟩
   dsimp only
   refine kasC_bind (c_move fun st₃ S3 e3=>kasC_pure ⟨rfl,rfl,S1.trans S3,?_,?_⟩)
   ·rw [e3]
    exact L1.trans ((q544 (by omega) (by omega)).wide (by omega) (by omega))
   ·rw [e3]
    exact ins_asc T hp' (by omega) g1 A1 g4 g5
 ·rintro r st' s' ⟨rfl,rfl,S1,L1,A1⟩
  exact kasC_pure (h _ S1 L1 A1)
end
end TS
namespace TS
set_option autoImplicit false
open PySem PySem.W PyProof.Rows
section
variable {P:Keyed->Prop} {lt:Keyed->Keyed->Bool}
def Desc (lt:Keyed->Keyed->Bool) (xs:Array Keyed) (lo n:Nat):Prop:=∀ p q,p < q->q < n->lt (kas_item xs (lo+p)) (kas_item xs (lo+q))=false
def EqT (lt:Keyed->Keyed->Bool) (xs:Array Keyed) (lo i m:Nat):Prop:=∀ p q,i<=p->p < m->i<=q->q < m->lt (kas_item xs (lo+p)) (kas_item xs (lo+q))=false
theorem q128 (T:Tot P lt) {xs:Array Keyed} {lo m:Nat} (hp:∀ x ∈ xs.toList,P x) (hz:lo+m < xs.size) (h:Desc lt xs lo m) (h1:0 < m->lt (kas_item xs (lo+m - 1)) (kas_item xs (lo+m))=false):Desc lt xs lo (m+1):=by
 have pm:∀ t,t<=m->P (kas_item xs (lo+t)):=fun t ht=>hp _ (q20 (by omega))
 intro p q hpq hq
 by_cases e:q=m
 ·have z:=h1 (by omega)
  rw [show lo+m - 1=lo+(m - 1) by omega] at z
  rw [e]
  by_cases e2:p=m - 1
  ·rw [e2];exact z
  ·exact T.trans _ _ _ (pm m (Nat.le_refl _)) (pm (m - 1) (by omega)) (pm p (by omega)) z (h p (m - 1) (by omega) (by omega))
 ·exact h p q hpq (by omega)
theorem q493 (T:Tot P lt) {xs:Array Keyed} {lo m:Nat} (hp:∀ x ∈ xs.toList,P x) (hz:lo+m < xs.size) (h:Asc lt xs lo m) (h1:0 < m->lt (kas_item xs (lo+m)) (kas_item xs (lo+m - 1))=false):Asc lt xs lo (m+1):=by
 have pm:∀ t,t<=m->P (kas_item xs (lo+t)):=fun t ht=>hp _ (q20 (by omega))
 intro p q hpq hq
 by_cases e:q=m
 ·have z:=h1 (by omega)
  rw [show lo+m - 1=lo+(m - 1) by omega] at z
  rw [e]
  by_cases e2:p=m - 1
  ·rw [e2];exact z
  ·exact T.trans _ _ _ (pm p (by omega)) (pm (m - 1) (by omega)) (pm m (Nat.le_refl _)) (h p (m - 1) (by omega) (by omega)) z
 ·exact h p q hpq (by omega)
theorem q103 {xs:Array Keyed} {lo i m t:Nat} (hz:lo+m<=xs.size) (ht:t < m):kas_item (mirror xs (lo+i) (lo+m) ((lo+m - (lo+i)) / 2)) (lo+t)=if i<=t then kas_item xs (lo+(i+m - 1 - t)) else kas_item xs (lo+t):=by
 rw [q150 hz]
 by_cases c:i<=t
 ·rw [if_pos (by omega),if_pos c,show lo+i+(lo+m) - 1 - (lo+t)=lo+(i+m - 1 - t) by omega]
 ·rw [if_neg (by omega),if_neg c]
theorem q151 {xs:Array Keyed} {lo i m:Nat} (hz:lo+m<=xs.size) (h:Desc lt xs lo m) (he:EqT lt xs lo i m):Desc lt (mirror xs (lo+i) (lo+m) ((lo+m - (lo+i)) / 2)) lo m:=by
 intro p q hpq hq
 rw [q103 hz (by omega),q103 hz hq]
 by_cases c1:i<=p
 ·rw [if_pos c1,if_pos (by omega)]
  exact he _ _ (by omega) (by omega) (by omega) (by omega)
 ·rw [if_neg c1]
  by_cases c2:i<=q
  ·rw [if_pos c2]
   exact h _ _ (by omega) (by omega)
  ·rw [if_neg c2]
   exact h p q hpq hq
theorem q545 {xs:Array Keyed} {lo m:Nat} (hz:lo+m<=xs.size) (h:Desc lt xs lo m):Asc lt (mirror xs lo (lo+m) ((lo+m - lo) / 2)) lo m:=by
 have e:mirror xs lo (lo+m) ((lo+m - lo) / 2)=mirror xs (lo+0) (lo+m) ((lo+m - (lo+0)) / 2):=rfl
 rw [e]
 intro p q hpq hq
 rw [q103 hz hq,q103 hz (by omega),if_pos (Nat.zero_le _),if_pos (Nat.zero_le _)]
 exact h _ _ (by omega) (by omega)
end
section
variable {prog:Program} {w:World} {A:Around} {E:VS} {κ:SortKind} {P:Keyed->Prop} {lt:Keyed->Keyed->Bool}
theorem c_jS {α:Type} (J:Unit->M2 α) {c:Prop} {_d:Decidable c} {x:M2 α} {Q:α->SortSt->Shared->Prop} {st:SortSt} {s:Shared} (I:SortSt->Prop) (hJ:∀ st,I st->kasC (model prog w) A E (J ()) Q st s) (hx:c->(∀ st,I st->kasC (model prog w) A E (J ()) Q st s)->kasC (model prog w) A E x Q st s) (h0:¬ c->I st):kasC (model prog w) A E (if c then x else J ()) Q st s:=by
 by_cases h:c
 ·rw [if_pos h]
  exact hx h hJ
 ·rw [if_neg h]
  exact hJ _ (h0 h)
theorem q621 {s:Shared} (G:Good prog w A E κ P lt s) (T:Tot P lt) {lo nrem:Nat} {Q:Option Nat->SortSt->Shared->Prop} {st:SortSt} (hst:kindOf st=κ) (hp:∀ x ∈ (arrOf st).toList,P x) (hn:lo+nrem<=(arrOf st).size) (h1:1<=nrem)
  (h:∀ n st',1<=n->n<=nrem->Su st st'->Loc (arrOf st) (arrOf st') lo (lo+nrem)->Asc lt (arrOf st') lo n->Q (some n) st' s):kasC (model prog w) A E (countRun' lo nrem) Q st s:=by
 have irr:∀ x,P x->lt x x=false:=fun x hx=>by
  cases c:lt x x with
  | false=>rfl
  | true=>exact c.symm.trans (T.asym x x hx hx c)
 refine kasC_bind (q162 (show 1<=nrem by omega) (fun k r st₉ s₉=>st₉=st/\s₉=s/\r=(none,k)/\Asc lt (arrOf st) lo k) (fun r st₉ s₉=>st₉=st/\s₉=s /\ ∃ k,r=(none,k)/\1<=k/\k<=nrem/\Asc lt (arrOf st) lo k/\(k=nrem\/lt (kas_item (arrOf st) (lo+k)) (kas_item (arrOf st) (lo+k - 1))=true))
  ⟨rfl,rfl,rfl,fun p q a b=>absurd b (by omega)⟩ (fun r st₉ s₉ ⟨e1,e2,e3,e4⟩=>⟨e1,e2,nrem,e3,by omega,Nat.le_refl _,e4,.inl rfl⟩) ?_ ?_)
 ·rintro k r st₉ s₉ hk1 hk2 ⟨rfl,rfl,rfl,A9⟩
  dsimp only
  refine kasC_bind (q288 G hst hp (by omega) (by omega) ?_)
  dsimp only
  cases hl:lt (kas_item (arrOf st₉) (lo+k)) (kas_item (arrOf st₉) (lo+k - 1)) with
  | true=>
   rw [if_pos rfl]
   exact kasC_pure ⟨rfl,rfl,k,rfl,hk1,by omega,A9,.inr hl⟩
  | false=>
   rw [if_neg fnt]
   exact kasC_pure ⟨rfl,rfl,rfl,q493 T hp (by omega) A9 fun _=>hl⟩
 ·rintro r st₁ s₁ ⟨rfl,rfl,n,rfl,g1,g2,A1,hbr⟩
  dsimp -zeta only
  extract_lets -merge -underBinder
  dsimp -zeta +zetaDelta only
  extract_lets -merge -underBinder jp
  by_cases c1:n=nrem
  ·rw [if_pos (by simp [c1])]
   exact kasC_pure (h n _ g1 g2 (Su.refl _) (Loc.refl _ _ _) A1)
  rw [if_neg (by simpa using c1)]
  have hbr':lt (kas_item (arrOf st₁) (lo+n)) (kas_item (arrOf st₁) (lo+n - 1))=true:=by
   rcases hbr with z | z
   ·exact absurd z c1
   ·exact z
  have pm1:∀ t,t<=n->P (kas_item (arrOf st₁) (lo+t)):=fun t ht=>hp _ (q20 (by omega))
  rw [show lo+n - 1=lo+(n - 1) by omega] at hbr'
  have hge1:=T.asym _ _ (pm1 n (Nat.le_refl _)) (pm1 (n - 1) (by omega)) hbr'
  refine c_jS jp (fun st₂=>Su st₁ st₂/\Loc (arrOf st₁) (arrOf st₂) lo (lo+nrem)/\Desc lt (arrOf st₂) lo (n+1)) ?_ ?_ ?_
  ·rintro st₂ ⟨S2,L2,D2⟩
   dsimp -zeta +zetaDelta only
   clear jp
   refine kasC_bind (kasC_lift (wpAny_rule ?_))
   refine kasC_bind (q162 (show n+1<=nrem by omega) (fun k r st₄ s₄=>s₄=s₁/\Su st₁ st₄/\Loc (arrOf st₁) (arrOf st₄) lo (lo+nrem) /\ ∃ q,r=(none,k,q)/\q+1<=k/\Desc lt (arrOf st₄) lo k/\EqT lt (arrOf st₄) lo (k - (q+1)) k)
    (fun r st₄ s₄=>s₄=s₁/\Su st₁ st₄/\Loc (arrOf st₁) (arrOf st₄) lo (lo+nrem) /\ ∃ m q,r=(none,m,q)/\q+1<=m/\m<=nrem/\Desc lt (arrOf st₄) lo m/\EqT lt (arrOf st₄) lo (m - (q+1)) m)
    ⟨rfl,S2,L2,0,rfl,by omega,D2,fun p q h1 h2 h3 h4=>by
     have ep:p=n:=by omega
     have eq':q=n:=by omega
     rw [ep,eq']
     exact irr _ (L2.good hp _ (q20 (by have:=L2.size;omega)))⟩ (fun r st₄ s₄ ⟨e1,e2,e3,q,e4,e5,e6,e7⟩=>⟨e1,e2,e3,nrem,q,e4,e5,Nat.le_refl _,e6,e7⟩) ?_ ?_)
   ·rintro k r st₄ s₄ hk1 hk2 ⟨rfl,S4,L4,q,rfl,hq,D4,E4⟩
    dsimp only
    have hz4:=L4.size
    have hp4:=L4.good hp
    have hk4:kindOf st₄=κ:=S4.1.trans hst
    have pm:∀ t,t<=k->P (kas_item (arrOf st₄) (lo+t)):=fun t ht=>hp4 _ (q20 (by omega))
    refine kasC_bind (q288 G hk4 hp4 (by omega) (by omega) ?_)
    dsimp only
    cases hl:lt (kas_item (arrOf st₄) (lo+k)) (kas_item (arrOf st₄) (lo+k - 1)) with
    | true=>
     rw [if_pos rfl]
     rw [show lo+k - 1=lo+(k - 1) by omega] at hl
     have hge:=T.asym _ _ (pm k (Nat.le_refl _)) (pm (k - 1) (by omega)) hl
     by_cases hq0:q > 0
     ·rw [if_pos hq0]
      refine kasC_bind (c_rev fun st₅ S5 e5=>kasC_pure ⟨rfl,S4.trans S5,?_,0,rfl,by omega,?_,fun p q' h1 h2 h3 h4=>?_⟩)
      ·rw [e5]
       exact L4.trans ((q74 (by omega)).wide (by omega) (by omega))
      ·rw [e5,show lo+k - (q+1)=lo+(k - (q+1)) by omega]
       have D5:=q151 (by omega) D4 E4
       have hp5:=(q74 (xs:=arrOf st₄) (i:=lo+(k - (q+1))) (j:=lo+k) (by omega)).good hp4
       have z1:kas_item (mirror (arrOf st₄) (lo+(k - (q+1))) (lo+k) ((lo+k - (lo+(k - (q+1)))) / 2)) (lo+k)=kas_item (arrOf st₄) (lo+k):=by
        rw [q150 (by omega),if_neg (by omega)]
       refine q128 T hp5 (by rw [mirror_size];omega) D5 fun _=>?_
       rw [show lo+k - 1=lo+(k - 1) by omega,z1,q103 (by omega) (by omega),if_pos (by omega)]
       exact T.trans _ _ _ (pm k (Nat.le_refl _)) (pm (k - 1) (by omega)) (pm _ (by omega)) hge (E4 _ _ (by omega) (by omega) (by omega) (by omega))
      ·have ep:p=k:=by omega
       have eq':q'=k:=by omega
       rw [ep,eq']
       refine irr _ ?_
       have L5:Loc (arrOf st₄) (arrOf st₅) (lo+k - (q+1)) (lo+k):=by
        rw [e5]
        exact q74 (by omega)
       exact L5.good hp4 _ (q20 (by have:=L5.size;omega))
     ·rw [if_neg hq0]
      refine kasC_pure ⟨rfl,S4,L4,0,rfl,by omega,q128 T hp4 (by omega) D4 fun _=>?_,fun p q' h1 h2 h3 h4=>?_⟩
      ·rw [show lo+k - 1=lo+(k - 1) by omega]
       exact hge
      ·have ep:p=k:=by omega
       have eq':q'=k:=by omega
       rw [ep,eq']
       exact irr _ (pm k (Nat.le_refl _))
    | false=>
     rw [if_neg fnt]
     refine kasC_bind (q288 G hk4 hp4 (by omega) (by omega) ?_)
     dsimp only
     cases hl2:lt (kas_item (arrOf st₄) (lo+k - 1)) (kas_item (arrOf st₄) (lo+k)) with
     | true=>
      rw [if_pos rfl]
      exact kasC_pure ⟨rfl,S4,L4,k,q,rfl,hq,by omega,D4,E4⟩
     | false=>
      rw [if_neg fnt]
      refine kasC_pure ⟨rfl,S4,L4,q+1,rfl,by omega,q128 T hp4 (by omega) D4 fun _=>hl2,fun p q' h1 h2 h3 h4=>?_⟩
      rw [show lo+k - 1=lo+(k - 1) by omega] at hl hl2
      by_cases ep:p=k
      ·by_cases eq':q'=k
       ·rw [ep,eq']
        exact irr _ (pm k (Nat.le_refl _))
       ·rw [ep]
        exact T.trans _ _ _ (pm q' (by omega)) (pm (k - 1) (by omega)) (pm k (Nat.le_refl _)) (E4 _ _ (by omega) (by omega) (by omega) (by omega)) hl
      ·by_cases eq':q'=k
       ·rw [eq']
        exact T.trans _ _ _ (pm k (Nat.le_refl _)) (pm (k - 1) (by omega)) (pm p (by omega)) hl2 (E4 _ _ (by omega) (by omega) (by omega) (by omega))
       ·exact E4 _ _ (by omega) (by omega) (by omega) (by omega)
   ·rintro r st₄ s₄ ⟨rfl,S4,L4,m,q,rfl,hq,hm,D4,E4⟩
    dsimp -zeta only
    extract_lets -merge -underBinder
    dsimp -zeta +zetaDelta only
    extract_lets -merge -underBinder jp
    have hz4:=L4.size
    refine c_jS jp (fun st₅=>Su st₁ st₅/\Loc (arrOf st₁) (arrOf st₅) lo (lo+nrem)/\Desc lt (arrOf st₅) lo m) ?_ ?_ ?_
    ·rintro st₅ ⟨S5,L5,D5⟩
     dsimp -zeta only [jp]
     clear jp
     have hz5:=L5.size
     refine kasC_bind (c_rev fun st₆ S6 e6=>?_)
     have L6:Loc (arrOf st₁) (arrOf st₆) lo (lo+nrem):=by
      rw [e6]
      exact L5.trans ((q74 (by omega)).wide (Nat.le_refl _) (by omega))
     have A6:Asc lt (arrOf st₆) lo m:=by
      rw [e6]
      exact q545 (by omega) D5
     have hz6:=L6.size
     have hp6:=L6.good hp
     have hk6:kindOf st₆=κ:=(S5.trans S6).1.trans hst
     refine kasC_bind (q162 (show m<=nrem by omega) (fun k r st₉ s₉=>st₉=st₆/\s₉=s₄/\r=(none,k)/\Asc lt (arrOf st₆) lo k) (fun r st₉ s₉=>st₉=st₆/\s₉=s₄ /\ ∃ k,r=(none,k)/\m<=k/\k<=nrem/\Asc lt (arrOf st₆) lo k/\(k=nrem\/lt (kas_item (arrOf st₆) (lo+k)) (kas_item (arrOf st₆) (lo+k - 1))=true))
      ⟨rfl,rfl,rfl,A6⟩ (fun r st₉ s₉ ⟨e1,e2,e3,e4⟩=>⟨e1,e2,nrem,e3,by omega,Nat.le_refl _,e4,.inl rfl⟩) ?_ ?_)
     ·rintro k r st₉ s₉ hk1 hk2 ⟨rfl,rfl,rfl,A9⟩
      dsimp only
      refine kasC_bind (q288 G hk6 hp6 (by omega) (by omega) ?_)
      dsimp only
      cases hl:lt (kas_item (arrOf st₉) (lo+k)) (kas_item (arrOf st₉) (lo+k - 1)) with
      | true=>
       rw [if_pos rfl]
       exact kasC_pure ⟨rfl,rfl,k,rfl,hk1,by omega,A9,.inr hl⟩
      | false=>
       rw [if_neg fnt]
       exact kasC_pure ⟨rfl,rfl,rfl,q493 T hp6 (by omega) A9 fun _=>hl⟩
     ·rintro r st₇ s₇ ⟨rfl,rfl,k,rfl,g1,g2,g3,_⟩
      exact kasC_pure (h k _ (by omega) g2 (S5.trans S6) L6 g3)
    ·intro hq0 J
     clear_value jp
     refine kasC_bind (c_rev fun st₅ S5 e5=>J _ ⟨S4.trans S5,?_,?_⟩)
     ·rw [e5]
      exact L4.trans ((q74 (by omega)).wide (by omega) (by omega))
     ·rw [e5,show lo+m - (q+1)=lo+(m - (q+1)) by omega]
      exact q151 (by omega) D4 E4
    ·exact fun _=>⟨S4,L4,D4⟩
  ·intro c2 J
   clear_value jp
   refine kasC_bind (q288 G hst hp (by omega) (by omega) ?_)
   dsimp only
   cases hl0:lt (kas_item (arrOf st₁) lo) (kas_item (arrOf st₁) (lo+n - 1)) with
   | true=>
    rw [if_pos rfl]
    exact kasC_pure (h n _ g1 g2 (Su.refl _) (Loc.refl _ _ _) A1)
   | false=>
    rw [if_neg fnt]
    rw [show lo+n - 1=lo+(n - 1) by omega] at hl0
    have hl0':lt (kas_item (arrOf st₁) (lo+0)) (kas_item (arrOf st₁) (lo+(n - 1)))=false:=hl0
    have E1:EqT lt (arrOf st₁) lo 0 n:=fun p q _ hp1 _ hq1=>by
     have z1:lt (kas_item (arrOf st₁) (lo+(n - 1))) (kas_item (arrOf st₁) (lo+q))=false:=by
      by_cases e:q=n - 1
      ·rw [e];exact irr _ (pm1 (n - 1) (by omega))
      ·exact A1 _ _ (by omega) (by omega)
     have z2:lt (kas_item (arrOf st₁) (lo+p)) (kas_item (arrOf st₁) (lo+0))=false:=by
      by_cases e:p=0
      ·rw [e];exact irr _ (pm1 0 (by omega))
      ·exact A1 _ _ (by omega) (by omega)
     have z3:=T.trans _ _ _ (pm1 q (by omega)) (pm1 (n - 1) (by omega)) (pm1 0 (by omega)) z1 hl0'
     exact T.trans _ _ _ (pm1 q (by omega)) (pm1 0 (by omega)) (pm1 p (by omega)) z3 z2
    refine kasC_bind (c_rev fun st₂ S2 e2=>?_)
    have L2:Loc (arrOf st₁) (arrOf st₂) lo (lo+nrem):=by
     rw [e2]
     exact (q74 (by omega)).wide (Nat.le_refl _) (by omega)
    have D2:Desc lt (arrOf st₂) lo (n+1):=by
     have D1:=q151 (i:=0) (show lo+n<=(arrOf st₁).size by omega) (fun p q a b=>E1 p q (Nat.zero_le _) (by omega) (Nat.zero_le _) b) E1
     have hp2:=(q74 (xs:=arrOf st₁) (i:=lo) (j:=lo+n) (by omega)).good hp
     have z1:kas_item (mirror (arrOf st₁) lo (lo+n) ((lo+n - lo) / 2)) (lo+n)=kas_item (arrOf st₁) (lo+n):=by
      rw [q150 (by omega),if_neg (by omega)]
     rw [e2]
     refine q128 T hp2 (by rw [mirror_size];omega) D1 fun _=>?_
     have z2:=q103 (xs:=arrOf st₁) (lo:=lo) (i:=0) (m:=n) (t:=n - 1) (by omega) (by omega)
     rw [if_pos (Nat.zero_le _)] at z2
     rw [show lo+n - 1=lo+(n - 1) by omega,z1]
     have z3:kas_item (mirror (arrOf st₁) lo (lo+n) ((lo+n - lo) / 2)) (lo+(n - 1))=kas_item (arrOf st₁) (lo+(0+n - 1 - (n - 1))):=z2
     rw [z3]
     exact T.trans _ _ _ (pm1 n (Nat.le_refl _)) (pm1 (n - 1) (by omega)) (pm1 _ (by omega)) hge1 (E1 _ _ (Nat.zero_le _) (by omega) (Nat.zero_le _) (by omega))
    exact J _ ⟨S2,L2,D2⟩
  ·intro c2
   have en:n=1:=by omega
   have D2:Desc lt (arrOf st₁) lo (n+1):=by
    refine q128 T hp (by omega) (fun p q a b=>absurd b (by omega)) fun _=>?_
    rw [show lo+n - 1=lo+(n - 1) by omega]
    exact hge1
   have S2:=Su.refl st₁
   have L2:=Loc.refl (arrOf st₁) lo (lo+nrem)
   exact ⟨S2,L2,D2⟩
end
end TS
namespace TS
set_option autoImplicit false
open PySem PySem.W PyProof.Rows
section
variable {P:Keyed->Prop} {lt:Keyed->Keyed->Bool}
theorem set_list:∀ (l:List Keyed) (xs:Array Keyed) (b off:Nat),b+off+l.length<=xs.size ->
  ((l.zipIdx off).foldl (fun a x=>a.setIfInBounds (b+x.snd) x.fst) xs).toList=xs.toList.take (b+off)++l++xs.toList.drop (b+off+l.length)
 | [],xs,b,off,h=>by simp
 | x::l,xs,b,off,h=>by
  rw [List.length_cons] at h
  rw [List.zipIdx_cons,List.foldl_cons]
  have ih:=set_list l (xs.setIfInBounds (b+off) x) b (off+1) (by rw [Array.size_setIfInBounds];omega)
  rw [ih,Array.toList_setIfInBounds]
  have hl:b+off < xs.toList.length:=by simp;omega
  have tl:(xs.toList.take (b+off)).length=b+off:=by rw [List.length_take];omega
  have es:xs.toList.set (b+off) x=xs.toList.take (b+off)++x::xs.toList.drop (b+off+1):=by rw [List.set_eq_take_append_cons_drop,if_pos hl]
  have e1:(xs.toList.set (b+off) x).take (b+(off+1))=xs.toList.take (b+off)++[x]:=by
   rw [es,List.take_append,tl,List.take_of_length_le (by omega),show b+(off+1) - (b+off)=1 by omega]
   rfl
  have e2:(xs.toList.set (b+off) x).drop (b+(off+1)+l.length)=xs.toList.drop (b+off+(x::l).length):=by
   rw [List.drop_set,if_pos (by omega),List.length_cons]
   congr 1
   omega
  rw [e1,e2,List.append_assoc,List.append_assoc,List.append_assoc]
  rfl
theorem q494 {xs:Array Keyed} {b e t:Nat} (he:e<=xs.size) (ht:b+t < e):kas_item (xs.extract b e) t=kas_item xs (b+t):=by
 refine q99 ?_
 rw [Array.getElem?_extract,if_pos (by omega)]
theorem q495 {xs:Array Keyed} {b e:Nat} (he:e<=xs.size):(xs.extract b e).size=e - b:=by
 rw [Array.size_extract]
 omega
theorem q496 {xs:Array Keyed} (h:∀ p q,p < q->q < xs.size->lt (kas_item xs q) (kas_item xs p)=false):Srt lt xs.toList:=by
 refine List.pairwise_iff_getElem.mpr fun i j hi hj hij=>?_
 have hj':j < xs.size:=by simpa using hj
 have hi':i < xs.size:=by simpa using hi
 have e1:=(List.getElem?_eq_some_iff.mp (q57 hi')).2
 have e2:=(List.getElem?_eq_some_iff.mp (q57 hj')).2
 rw [e1,e2]
 exact h i j hij hj'
theorem q497 {xs:Array Keyed} {y:Keyed} (h:y ∈ xs.toList):∃ t,t < xs.size/\y=kas_item xs t:=by
 obtain ⟨j,_,h2,h3⟩:=q102 (i:=0) (a:=xs) (by simpa using h)
 exact ⟨j,h2,h3⟩
end
section
variable {prog:Program} {w:World} {A:Around} {E:VS} {κ:SortKind} {P:Keyed->Prop} {lt:Keyed->Keyed->Bool}
theorem c_set {st₁ st:SortSt} {Q:PUnit->SortSt->Shared->Prop} {s:Shared} (h:Q ⟨⟩ st₁ s):kasC (model prog w) A E (set st₁:M2 PUnit) Q st s:=by
 unfold kasC
 rw [StateT.run_set]
 exact wpAny_pure h
theorem mergeAt_ {s:Shared} (G:Good prog w A E κ P lt s) (T:Tot P lt) {i sa na pw sb nb pw2:Nat} {Q:Bool->SortSt->Shared->Prop} {st:SortSt} (hst:kindOf st=κ) (hf:failedOf st=none) (hp:∀ x ∈ (arrOf st).toList,P x)
  (h1:(pendingOf st)[i]? = some (sa,na,pw)) (h2:(pendingOf st)[i+1]? = some (sb,nb,pw2)) (hsb:sb=sa+na) (hna:0 < na) (hnb:0 < nb) (hz:sb+nb<=(arrOf st).size) (A1:Asc lt (arrOf st) sa na) (A2:Asc lt (arrOf st) sb nb)
  (h:∀ st':SortSt,kindOf st'=κ->failedOf st'=none->pendingOf st'=((pendingOf st).setIfInBounds i (sa,na+nb,pw)).eraseIdxIfInBounds (i+1)->Loc (arrOf st) (arrOf st') sa (sb+nb)->Asc lt (arrOf st') sa (na+nb)->Q true st' s) :
  kasC (model prog w) A E (mergeAt' i) Q st s:=by
 have irr:∀ x,P x->lt x x=false:=fun x hx=>by
  cases c:lt x x with
  | false=>rfl
  | true=>exact c.symm.trans (T.asym x x hx hx c)
 have p1:∀ t,t < na->P (kas_item (arrOf st) (sa+t)):=fun t ht=>hp _ (q20 (by omega))
 have p2:∀ t,t < nb->P (kas_item (arrOf st) (sb+t)):=fun t ht=>hp _ (q20 (by omega))
 refine kasC_bind (kasC_get ?_)
 dsimp only
 rw [h1,h2]
 dsimp only
 refine kasC_bind (c_set ?_)
 refine kasC_bind (q55 (show sb < (arrOf st).size by omega) ?_)
 have pk:P (kas_item (arrOf st) sb):=p2 0 hnb
 obtain ⟨k,hk,hB⟩:∃ k,k<=na /\ ∀ t,t < na->(if false=true then lt (kas_item (arrOf st) (sa+t)) (kas_item (arrOf st) sb) else !(lt (kas_item (arrOf st) sb) (kas_item (arrOf st) (sa+t))))=decide (t < k):=by
  refine bound _ na fun t u htu hu hh=>?_
  rw [if_neg fnt,Bool.not_eq_true'] at hh ⊢
  by_cases e:t=u
  ·rw [e];exact hh
  ·exact T.trans _ _ _ (p1 t (by omega)) (p1 u hu) pk (A1 t u (by omega) hu) hh
 have B1:∀ t,t < k->lt (kas_item (arrOf st) sb) (kas_item (arrOf st) (sa+t))=false:=fun t ht=>by
  have q:=hB t (by omega)
  rw [if_neg fnt,decide_eq_true ht,Bool.not_eq_true'] at q
  exact q
 have B2:∀ t,k<=t->t < na->lt (kas_item (arrOf st) sb) (kas_item (arrOf st) (sa+t))=true:=fun t g1 g2=>by
  have q:=hB t g2
  rw [if_neg fnt,decide_eq_false (by omega),Bool.not_eq_false'] at q
  exact q
 have C1:∀ t,t < nb->lt (kas_item (arrOf st) (sb+t)) (kas_item (arrOf st) sb)=false:=fun t ht=>by
  by_cases e:t=0
  ·rw [e];exact irr _ pk
  ·exact A2 0 t (by omega) ht
 refine kasC_bind (q188 G hst pk (fun t ht=>p1 t ht) (show sa+na<=(arrOf st).size by omega) hna hk hB ?_)
 dsimp only
 have key:∀ t,t < k -> ∀ u,u < nb->lt (kas_item (arrOf st) (sb+u)) (kas_item (arrOf st) (sa+t))=false:=fun t ht u hu=>
  T.trans _ _ _ (p1 t (by omega)) pk (p2 u hu) (B1 t ht) (C1 u hu)
 by_cases c1:na - k=0
 ·rw [if_pos (by simp [c1])]
  refine kasC_pure (h _ hst hf rfl (Loc.refl _ _ _) fun p q hpq hq=>?_)
  by_cases q1:q < na
  ·exact A1 p q hpq q1
  ·have eq1:sa+q=sb+(q - na):=by omega
   by_cases p3:p < na
   ·rw [eq1]
    exact key p (by omega) (q - na) (by omega)
   ·rw [eq1,show sa+p=sb+(p - na) by omega]
    exact A2 _ _ (by omega) (by omega)
 rw [if_neg (by simpa using c1)]
 replace c1:k < na:=by omega
 have elast:sa+k+(na - k) - 1=sa+(na - 1):=by omega
 rw [elast]
 clear elast
 have pl:P (kas_item (arrOf st) (sa+(na - 1))):=p1 _ (by omega)
 refine kasC_bind (q55 (show sa+(na - 1) < (arrOf st).size by omega) ?_)
 obtain ⟨k2,hk2,hB2⟩:∃ k2,k2<=nb /\ ∀ t,t < nb->(if true=true then lt (kas_item (arrOf st) (sb+t)) (kas_item (arrOf st) (sa+(na - 1))) else !(lt (kas_item (arrOf st) (sa+(na - 1))) (kas_item (arrOf st) (sb+t))))=decide (t < k2):=by
  refine bound _ nb fun t u htu hu hh=>?_
  rw [if_pos rfl] at hh ⊢
  by_cases e:t=u
  ·rw [e];exact hh
  ·cases c:lt (kas_item (arrOf st) (sb+t)) (kas_item (arrOf st) (sa+(na - 1))) with
   | true=>rfl
   | false=>
    have z:=T.trans _ _ _ pl (p2 t (by omega)) (p2 u hu) c (A2 t u (by omega) hu)
    rw [hh] at z
    cases z
 have B3:∀ t,t < k2->lt (kas_item (arrOf st) (sb+t)) (kas_item (arrOf st) (sa+(na - 1)))=true:=fun t ht=>by
  have q:=hB2 t (by omega)
  rw [if_pos rfl,decide_eq_true ht] at q
  exact q
 have B4:∀ t,k2<=t->t < nb->lt (kas_item (arrOf st) (sb+t)) (kas_item (arrOf st) (sa+(na - 1)))=false:=fun t g1 g2=>by
  have q:=hB2 t g2
  rw [if_pos rfl,decide_eq_false (by omega)] at q
  exact q
 have key2:∀ t,t < na -> ∀ u,k2<=u->u < nb->lt (kas_item (arrOf st) (sb+u)) (kas_item (arrOf st) (sa+t))=false:=fun t ht u g1 g2=>by
  by_cases e:t=na - 1
  ·rw [e];exact B4 u g1 g2
  ·exact T.trans _ _ _ (p1 t ht) pl (p2 u g2) (A1 t (na - 1) (by omega) (by omega)) (B4 u g1 g2)
 refine kasC_bind (q188 G hst pl (fun t ht=>p2 t ht) (show sb+nb<=(arrOf st).size by omega) (by omega) hk2 hB2 ?_)
 dsimp only
 by_cases c2:k2=0
 ·rw [if_pos (by simp [c2])]
  refine kasC_pure (h _ hst hf rfl (Loc.refl _ _ _) fun p q hpq hq=>?_)
  by_cases q1:q < na
  ·exact A1 p q hpq q1
  ·have eq1:sa+q=sb+(q - na):=by omega
   by_cases p3:p < na
   ·rw [eq1]
    exact key2 p p3 (q - na) (by omega) (by omega)
   ·rw [eq1,show sa+p=sb+(p - na) by omega]
    exact A2 _ _ (by omega) (by omega)
 rw [if_neg (by simpa using c2)]
 have xz:((arrOf st).extract (sa+k) sb).size=na - k:=by rw [q495 (by omega)];omega
 have yz:((arrOf st).extract sb (sb+k2)).size=k2:=by rw [q495 (by omega)];omega
 have xi:∀ t,t < na - k->kas_item ((arrOf st).extract (sa+k) sb) t=kas_item (arrOf st) (sa+(k+t)):=fun t ht=>by
  rw [q494 (by omega) (by omega),show sa+k+t=sa+(k+t) by omega]
 have yi:∀ t,t < k2->kas_item ((arrOf st).extract sb (sb+k2)) t=kas_item (arrOf st) (sb+t):=fun t ht=>q494 (by omega) (by omega)
 have xm:∀ z ∈ ((arrOf st).extract (sa+k) sb).toList,∃ t,k<=t/\t < na/\z=kas_item (arrOf st) (sa+t):=fun z hz'=>by
  obtain ⟨t,g1,rfl⟩:=q497 hz'
  rw [xz] at g1
  exact ⟨k+t,by omega,by omega,xi t g1⟩
 have ym:∀ z ∈ ((arrOf st).extract sb (sb+k2)).toList,∃ t,t < k2/\z=kas_item (arrOf st) (sb+t):=fun z hz'=>by
  obtain ⟨t,g1,rfl⟩:=q497 hz'
  rw [yz] at g1
  exact ⟨t,g1,yi t g1⟩
 have px:∀ z ∈ ((arrOf st).extract (sa+k) sb).toList,P z:=fun z hz'=>by
  obtain ⟨t,g1,g2,rfl⟩:=xm z hz'
  exact p1 t g2
 have py:∀ z ∈ ((arrOf st).extract sb (sb+k2)).toList,P z:=fun z hz'=>by
  obtain ⟨t,g1,rfl⟩:=ym z hz'
  exact p2 t (by omega)
 have sx:Srt lt ((arrOf st).extract (sa+k) sb).toList:=q496 fun p q g1 g2=>by
  rw [xz] at g2
  rw [xi p (by omega),xi q g2]
  exact A1 _ _ (by omega) (by omega)
 have sy:Srt lt ((arrOf st).extract sb (sb+k2)).toList:=q496 fun p q g1 g2=>by
  rw [yz] at g2
  rw [yi p (by omega),yi q g2]
  exact A2 _ _ (by omega) (by omega)
 have xl:(arrOf st).toList.take (sa+k)++(((arrOf st).extract (sa+k) sb).toList++((arrOf st).extract sb (sb+k2)).toList)++(arrOf st).toList.drop (sb+k2)=(arrOf st).toList:=by
  rw [ext0 (show sb<=(arrOf st).size by omega),ext0 (show sb+k2<=(arrOf st).size by omega)]
  generalize (arrOf st).toList=l
  have e1:l.take sb=l.take (sa+k)++(l.take sb).drop (sa+k):=by
   have:(l.take sb).take (sa+k)=l.take (sa+k):=by rw [List.take_take,Nat.min_eq_left (by omega)]
   rw [<- this,List.take_append_drop]
  have e2:l.take (sb+k2)=l.take sb++(l.take (sb+k2)).drop sb:=by
   have:(l.take (sb+k2)).take sb=l.take sb:=by rw [List.take_take,Nat.min_eq_left (by omega)]
   rw [<- this,List.take_append_drop]
  rw [<- List.append_assoc,<- e1,<- e2,List.take_append_drop]
 have fin:∀ (r:Array Keyed) (st₂:SortSt),arrOf st₂=arrOf st->FinA lt ((arrOf st).extract (sa+k) sb) ((arrOf st).extract sb (sb+k2)) r ->
   Loc (arrOf st) (List.foldl (fun a x=>a.setIfInBounds (sa+k+x.snd) x.fst) (arrOf st₂) r.toList.zipIdx) sa (sb+nb)/\Asc lt (List.foldl (fun a x=>a.setIfInBounds (sa+k+x.snd) x.fst) (arrOf st₂) r.toList.zipIdx) sa (na+nb):=by
  intro r st₂ K2 F
  rw [K2]
  have rz:r.toList.length=na - k+k2:=by
   rw [F.1.length_eq,List.length_append,Array.length_toList,Array.length_toList,xz,yz]
  clear xz yz
  have ys:=set_list r.toList (arrOf st) (sa+k) 0 (by omega)
  generalize List.foldl (fun a x=>a.setIfInBounds (sa+k+x.snd) x.fst) (arrOf st) r.toList.zipIdx=zs at ys ⊢
  rw [Nat.add_zero,rz,show sa+k+(na - k+k2)=sb+k2 by omega] at ys
  have tl:((arrOf st).toList.take (sa+k)).length=sa+k:=by rw [List.length_take,Array.length_toList];omega
  have gl:∀ t,zs[t]? = if t < sa+k then (arrOf st)[t]? else if t < sb+k2 then r.toList[t - (sa+k)]? else (arrOf st)[t]?:=fun t=>by
   rw [<- Array.getElem?_toList,ys]
   by_cases g1:t < sa+k
   ·rw [if_pos g1,List.append_assoc,List.getElem?_append_left (by omega),List.getElem?_take,if_pos g1,Array.getElem?_toList]
   ·rw [if_neg g1]
    by_cases g2:t < sb+k2
    ·rw [if_pos g2,List.getElem?_append_left (by rw [List.length_append];omega),List.getElem?_append_right (by omega),tl]
    ·rw [if_neg g2,List.getElem?_append_right (by rw [List.length_append];omega),List.getElem?_drop,List.length_append,tl,rz,Array.getElem?_toList]
     congr 1
     omega
  clear tl
  have pz:zs.toList.Perm (arrOf st).toList:=by
   rw [ys]
   refine List.Perm.trans ?_ (List.Perm.of_eq xl)
   exact (List.Perm.append_left _ F.1).append_right _
  have zz:zs.size=(arrOf st).size:=by
   have:=pz.length_eq
   simpa using this
  refine ⟨⟨zz,Array.perm_iff_toList_perm.mpr pz,fun t ht=>?_⟩,fun p q hpq hq=>?_⟩
  ·rw [gl t]
   by_cases g1:t < sa+k
   ·rw [if_pos g1]
   ·rw [if_neg g1,if_neg (by omega)]
  ·clear zz
   have rm:∀ t,k<=t->t < na+k2->kas_item zs (sa+t)=kas_item r (t - k)/\((∃ u,k<=u/\u < na/\kas_item zs (sa+t)=kas_item (arrOf st) (sa+u)) \/ ∃ u,u < k2/\kas_item zs (sa+t)=kas_item (arrOf st) (sb+u)):=fun t g1 g2=>by
    have e:=gl (sa+t)
    rw [if_neg (by omega),if_pos (by omega),show sa+t - (sa+k)=t - k by omega,Array.getElem?_toList] at e
    have e2:=q99 e
    refine ⟨e2,?_⟩
    have hm:=q20 (a:=r) (i:=t - k) (by rw [<- Array.length_toList,rz];omega)
    rcases List.mem_append.mp (F.1.mem_iff.mp hm) with z | z
    ·obtain ⟨u,a1,a2,a3⟩:=xm _ z
     exact .inl ⟨u,a1,a2,e2.trans a3⟩
    ·obtain ⟨u,a1,a3⟩:=ym _ z
     exact .inr ⟨u,a1,e2.trans a3⟩
   have lowi:∀ t,t < k->kas_item zs (sa+t)=kas_item (arrOf st) (sa+t):=fun t ht=>q99 (by rw [gl,if_pos (by omega)])
   have hii:∀ t,na+k2<=t->kas_item zs (sa+t)=kas_item (arrOf st) (sb+(t - na)):=fun t ht=>by
    refine q99 ?_
    rw [gl,if_neg (by omega),if_neg (by omega),show sb+(t - na)=sa+t by omega]
   by_cases p3:p < k
   ·rw [lowi p p3]
    by_cases q1:q < k
    ·rw [lowi q q1]
     exact A1 p q hpq (by omega)
    ·by_cases q2:q < na+k2
     ·rcases (rm q (by omega) q2).2 with ⟨u,a1,a2,a3⟩ | ⟨u,a1,a3⟩
      ·rw [a3]
       exact A1 p u (by omega) a2
      ·rw [a3]
       exact key p p3 u (by omega)
     ·rw [hii q (by omega)]
      exact key p p3 _ (by omega)
   ·by_cases p4:p < na+k2
    ·by_cases q2:q < na+k2
     ·rw [(rm p (by omega) p4).1,(rm q (by omega) q2).1]
      have z:=List.pairwise_iff_getElem.mp F.2 (p - k) (q - k) (by omega) (by omega) (by omega)
      have e1:=(List.getElem?_eq_some_iff.mp (q57 (a:=r) (i:=p - k) (by rw [<- Array.length_toList,rz];omega))).2
      have e2:=(List.getElem?_eq_some_iff.mp (q57 (a:=r) (i:=q - k) (by rw [<- Array.length_toList,rz];omega))).2
      rw [e1,e2] at z
      exact z
     ·rw [hii q (by omega)]
      rcases (rm p (by omega) p4).2 with ⟨u,a1,a2,a3⟩ | ⟨u,a1,a3⟩
      ·rw [a3]
       exact key2 u a2 _ (by omega) (by omega)
      ·rw [a3]
       exact A2 u _ (by omega) (by omega)
    ·rw [hii p (by omega),hii q (by omega)]
     exact A2 _ _ (by omega) (by omega)
 have x0:kas_item ((arrOf st).extract (sa+k) sb) 0=kas_item (arrOf st) (sa+k):=xi 0 (by omega)
 have y0:kas_item ((arrOf st).extract sb (sb+k2)) 0=kas_item (arrOf st) sb:=yi 0 (by omega)
 have xe:kas_item ((arrOf st).extract (sa+k) sb) (((arrOf st).extract (sa+k) sb).size - 1)=kas_item (arrOf st) (sa+(na - 1)):=by
  rw [xz,xi _ (by omega)]
  congr 1
  omega
 have ye:kas_item ((arrOf st).extract sb (sb+k2)) (((arrOf st).extract sb (sb+k2)).size - 1)=kas_item (arrOf st) (sb+(k2 - 1)):=by
  rw [yz,yi _ (by omega)]
 by_cases c3:na - k<=k2
 ·rw [if_pos c3]
  refine kasC_bind (mergeLo_ G T hst px py sx sy (show 0 < ((arrOf st).extract (sa+k) sb).size by rw [xz];omega) (show 0 < ((arrOf st).extract sb (sb+k2)).size by rw [yz];omega) (by rw [x0,y0];exact B2 k (Nat.le_refl _) (by omega)) (fun z hz'=>?_) fun r st₂ K2 F=>?_)
  ·rw [xe]
   obtain ⟨t,g1,rfl⟩:=ym z hz'
   exact T.asym _ _ (p2 t (by omega)) pl (B3 t g1)
  ·obtain ⟨f1,f2⟩:=fin r st₂ K2.2.1 F
   refine kasC_bind (kasC_modify (kasC_bind (kasC_get (kasC_pure ?_))))
   have ef:failedOf st₂=none:=K2.2.2.2.trans hf
   show Q (failedOf st₂).isNone _ s
   rw [ef]
   exact h _ (K2.1.trans hst) ef K2.2.2.1 f1 f2
 ·rw [if_neg c3]
  refine kasC_bind (mergeHi_ G T hst px py sx sy (show 0 < ((arrOf st).extract (sa+k) sb).size by rw [xz];omega) (show 0 < ((arrOf st).extract sb (sb+k2)).size by rw [yz];omega) (by rw [xe,ye];exact B3 _ (by omega)) (fun z hz'=>?_) fun r st₂ K2 F=>?_)
  ·rw [y0]
   obtain ⟨t,g1,g2,rfl⟩:=xm z hz'
   exact T.asym _ _ pk (p1 t g2) (B2 t g1 g2)
  ·obtain ⟨f1,f2⟩:=fin r st₂ K2.2.1 F
   refine kasC_bind (kasC_modify (kasC_bind (kasC_get (kasC_pure ?_))))
   have ef:failedOf st₂=none:=K2.2.2.2.trans hf
   show Q (failedOf st₂).isNone _ s
   rw [ef]
   exact h _ (K2.1.trans hst) ef K2.2.2.1 f1 f2
end
end TS
namespace TS
set_option autoImplicit false
open PySem PySem.W PyProof.Rows
section
variable {P:Keyed->Prop} {lt:Keyed->Keyed->Bool}
noncomputable abbrev pr (p:Nat × Nat × Nat):Nat × Nat:=(p.1,p.2.1)
def Runs (lt:Keyed->Keyed->Bool) (xs:Array Keyed):Nat->List (Nat × Nat)->Nat->Prop
 | b,[],e=>b=e
 | b,(s,l)::r,e=>s=b/\0 < l/\Asc lt xs b l/\Runs lt xs (b+l) r e
theorem Runs.le {xs:Array Keyed}:∀ {l:List (Nat × Nat)} {b e:Nat},Runs lt xs b l e->b+l.length<=e
 | [],b,e,h=>by
  have:b=e:=h
  simp [this]
 | (s,l)::r,b,e,⟨_,h1,_,h2⟩=>by
  have:=h2.le
  rw [List.length_cons]
  omega
theorem Runs.app {xs:Array Keyed}:∀ {l1 l2:List (Nat × Nat)} {b e:Nat},Runs lt xs b (l1++l2) e ↔ ∃ m,Runs lt xs b l1 m/\Runs lt xs m l2 e
 | [],l2,b,e=>⟨fun h=>⟨b,rfl,h⟩,fun ⟨m,h1,h2⟩=>by
   have:b=m:=h1
   rw [this];exact h2⟩
 | (s,l)::r,l2,b,e=>⟨fun ⟨h1,h2,h3,h4⟩=>by
   obtain ⟨m,g1,g2⟩:=Runs.app.mp h4
   exact ⟨m,⟨h1,h2,h3,g1⟩,g2⟩,fun ⟨m,⟨h1,h2,h3,h4⟩,g⟩=>⟨h1,h2,h3,Runs.app.mpr ⟨m,h4,g⟩⟩⟩
theorem Asc.same {xs ys:Array Keyed} {b l:Nat} (h:∀ t,b<=t->t < b+l->kas_item ys t=kas_item xs t) (a:Asc lt xs b l):Asc lt ys b l:=fun p q h1 h2=>by
 rw [h _ (by omega) (by omega),h _ (by omega) (by omega)]
 exact a p q h1 h2
theorem Runs.same {xs ys:Array Keyed}:∀ {l:List (Nat × Nat)} {b e:Nat},(∀ t,b<=t->t < e->kas_item ys t=kas_item xs t)->Runs lt xs b l e->Runs lt ys b l e
 | [],b,e,_,h=>h
 | (s,l)::r,b,e,h,⟨h1,h2,h3,h4⟩=>by
  have hl:=h4.le
  exact ⟨h1,h2,h3.same fun t g1 g2=>h t g1 (by omega),h4.same fun t g1 g2=>h t (by omega) g2⟩
theorem Loc.item {xs ys:Array Keyed} {lo hi t:Nat} (a:Loc xs ys lo hi) (h:t < lo\/hi<=t):kas_item ys t=kas_item xs t:=q99 (a.out t h)
theorem q622 {α:Type} {l:List α} {i:Nat} (h:i+1 < l.length):∃ l1 a b l2,l=l1++a::b::l2/\l1.length=i/\l[i]? = some a/\l[i+1]? = some b:=by
 have h0:i < l.length:=by omega
 refine ⟨l.take i,l[i],l[i+1],l.drop (i+2),?_,by rw [List.length_take];omega,List.getElem?_eq_getElem h0,List.getElem?_eq_getElem h⟩
 rw [<- List.drop_eq_getElem_cons h,<- List.drop_eq_getElem_cons h0,List.take_append_drop]
theorem q623 {α:Type} (l1 l2:List α) (a b v:α):((l1++a::b::l2).set l1.length v).eraseIdx (l1.length+1)=l1++v::l2:=by
 induction l1 with
 | nil=>rfl
 | cons x l1 ih=>simpa using ih
theorem q624 (pd:Array (Nat × Nat × Nat)) (i:Nat) (f:Nat × Nat × Nat->Nat × Nat × Nat) (hf:∀ x,pr (f x)=pr x):(pd.modify i f).toList.map pr=pd.toList.map pr:=by
 apply List.ext_getElem?
 intro j
 rw [List.getElem?_map,List.getElem?_map,Array.getElem?_toList,Array.getElem?_toList,Array.getElem?_modify]
 by_cases c:i=j
 ·rw [if_pos c]
  cases pd[j]? with
  | none=>rfl
  | some x=>simp [hf x]
 ·rw [if_neg c]
end
section
variable {prog:Program} {w:World} {A:Around} {E:VS} {κ:SortKind} {P:Keyed->Prop} {lt:Keyed->Keyed->Bool}
theorem ite_lt {c:Prop} [Decidable c] {a b n:Nat} (h1:a+1 < n) (h2:b+1 < n):(if c then a else b)+1 < n:=by split <;> assumption
theorem c_iteF {α:Type} {c:Prop} [Decidable c] {x y:M2 α} {Q:α->SortSt->Shared->Prop} {st:SortSt} {s:Shared} (hc:¬ c) (h:kasC (model prog w) A E y Q st s):kasC (model prog w) A E (if c then x else y) Q st s:=by rw [if_neg hc];exact h
theorem q289 {s:Shared} (G:Good prog w A E κ P lt s) (T:Tot P lt) {i lo:Nat} {Q:Bool->SortSt->Shared->Prop} {st:SortSt} (hst:kindOf st=κ) (hf:failedOf st=none) (hp:∀ x ∈ (arrOf st).toList,P x)
  (hi:i+1 < (pendingOf st).size) (hlo:lo<=(arrOf st).size) (hr:Runs lt (arrOf st) 0 ((pendingOf st).toList.map pr) lo)
  (h:∀ st':SortSt,kindOf st'=κ->failedOf st'=none->(pendingOf st').size+1=(pendingOf st).size->Loc (arrOf st) (arrOf st') 0 lo->Runs lt (arrOf st') 0 ((pendingOf st').toList.map pr) lo->Q true st' s) :
  kasC (model prog w) A E (mergeAt' i) Q st s:=by
 obtain ⟨l1,⟨sa,na,pw⟩,⟨sb,nb,pw2⟩,l2,e,el,g1,g2⟩:=q622 (l:=(pendingOf st).toList) (i:=i) (by simpa using hi)
 rw [Array.getElem?_toList] at g1 g2
 rw [e,List.map_append,List.map_cons,List.map_cons] at hr
 obtain ⟨m,r1,rfl,na0,A1,hsb,nb0,A2,r2⟩:=Runs.app.mp hr
 have hsb':sb=sa+na:=hsb
 have na0':0 < na:=na0
 have nb0':0 < nb:=nb0
 have r2':Runs lt (arrOf st) (sa+na+nb) (l2.map pr) lo:=r2
 have hl2:=r2'.le
 have A2':Asc lt (arrOf st) sb nb:=by rw [hsb'];exact A2
 refine mergeAt_ G T hst hf hp g1 g2 hsb' na0' nb0' (by omega) A1 A2' fun st' k1 k2 k3 L A3=>?_
 have ep:(pendingOf st').toList=l1++(sa,na+nb,pw)::l2:=by
  rw [k3,Array.toList_eraseIdxIfInBounds,Array.toList_setIfInBounds,e,<- el]
  exact q623 l1 l2 _ _ _
 refine h st' k1 k2 ?_ (L.wide (Nat.zero_le _) (by omega)) ?_
 ·rw [<- Array.length_toList,<- Array.length_toList,ep,e]
  simp
  omega
 ·rw [ep,List.map_append,List.map_cons]
  refine Runs.app.mpr ⟨sa,r1.same fun t _ ht=>L.item (.inl ht),rfl,(show 0 < na+nb by omega),A3,?_⟩
  show Runs lt (arrOf st') (sa+(na+nb)) (l2.map pr) lo
  rw [<- Nat.add_assoc]
  exact r2'.same fun t ht _=>L.item (.inr (by omega))
theorem c_jN {α:Type} (J:Unit->Nat->M2 α) {c:Prop} {_d:Decidable c} {x:M2 α} {n:Nat} {Q:α->SortSt->Shared->Prop} {st:SortSt} {s:Shared} (I:Nat->SortSt->Prop) (hJ:∀ n st,I n st->kasC (model prog w) A E (J () n) Q st s) (hx:c->(∀ n st,I n st->kasC (model prog w) A E (J () n) Q st s)->kasC (model prog w) A E x Q st s) (h0:¬ c->I n st):kasC (model prog w) A E (if c then x else J () n) Q st s:=by
 by_cases h:c
 ·rw [if_pos h]
  exact hx h hJ
 ·rw [if_neg h]
  exact hJ _ _ (h0 h)
theorem q367 {s:Shared} (G:Good prog w A E κ P lt s) (T:Tot P lt) {Q:Unit->SortSt->Shared->Prop} {st:SortSt} (hst:kindOf st=κ) (hf:failedOf st=none) (hpd:pendingOf st = #[]) (hp:∀ x ∈ (arrOf st).toList,P x) (hn:1<=(arrOf st).size)
  (h:∀ st':SortSt,failedOf st'=none->(arrOf st').Perm (arrOf st)->Asc lt (arrOf st') 0 (arrOf st').size->Q () st' s):kasC (model prog w) A E sortRuns' Q st s:=by
 refine kasC_bind (kasC_get ?_)
 try dsimp -zeta only
 try extract_lets -merge -underBinder
 try dsimp -zeta +zetaDelta only
 refine kasC_bind (q82 (fun t r st' s'=>s'=s/\kindOf st'=κ/\failedOf st'=none/\Loc (arrOf st) (arrOf st') 0 (arrOf st).size /\ ∃ lo,r=(none,lo)/\lo<=(arrOf st).size/\t<=lo/\Runs lt (arrOf st') 0 ((pendingOf st').toList.map pr) lo)
  (fun r st' s'=>s'=s/\kindOf st'=κ/\failedOf st'=none/\Loc (arrOf st) (arrOf st') 0 (arrOf st).size/\r=(none,(arrOf st).size)/\Runs lt (arrOf st') 0 ((pendingOf st').toList.map pr) (arrOf st).size)
  ⟨rfl,hst,hf,Loc.refl _ _ _,0,rfl,Nat.zero_le _,Nat.zero_le _,by rw [hpd];exact rfl⟩ ?_ ?_ ?_)
 ·rintro r st' s' ⟨e1,e2,e3,e4,lo,e5,e6,e7,e8⟩
  have e7':(arrOf st).size<=lo:=e7
  have el:lo=(arrOf st).size:=by omega
  subst el
  exact ⟨e1,e2,e3,e4,e5,e8⟩
 ·rintro t x r st' s' ht ⟨rfl,k1,f1,L1,lo,rfl,hlo,htl,R1⟩
  try dsimp -zeta only
  try extract_lets -merge -underBinder
  try dsimp -zeta +zetaDelta only
  have hz1:=L1.size
  have hp1:=L1.good hp
  by_cases c1:lo>=(arrOf st).size
  ·rw [if_pos c1]
   have el:lo=(arrOf st).size:=by omega
   subst el
   exact kasC_pure ⟨rfl,k1,f1,L1,rfl,R1⟩
  rw [if_neg c1]
  refine kasC_bind (q621 G T k1 hp1 (show lo+((arrOf st).size - lo)<=(arrOf st').size by omega) (show 1<=(arrOf st).size - lo by omega) fun fo st₂ fo1 fo2' S2 L2' A2=>?_)
  dsimp -zeta only
  extract_lets -merge -underBinder +onlyGivenNames _
  dsimp -zeta +zetaDelta only
  extract_lets -merge -underBinder jp
  have fo2:fo<=(arrOf st).size - lo:=fo2'
  have L2:Loc (arrOf st') (arrOf st₂) lo (lo+((arrOf st).size - lo)):=L2'
  have L12:Loc (arrOf st) (arrOf st₂) 0 (arrOf st).size:=L1.trans (L2.wide (Nat.zero_le _) (by omega))
  have k2:kindOf st₂=κ:=S2.1.trans k1
  have f2:failedOf st₂=none:=S2.2.2.trans f1
  have R2:Runs lt (arrOf st₂) 0 ((pendingOf st₂).toList.map pr) lo:=by
   rw [S2.2.1]
   exact R1.same fun t _ ht=>L2.item (.inl ht)
  have hz2:=L12.size
  refine c_jN jp (fun n st₃=>kindOf st₃=κ/\failedOf st₃=none/\Loc (arrOf st) (arrOf st₃) 0 (arrOf st).size/\Runs lt (arrOf st₃) 0 ((pendingOf st₃).toList.map pr) lo/\Asc lt (arrOf st₃) lo n/\0 < n/\lo+n<=(arrOf st).size) ?_ ?_ ?_
  ·rintro fo st₂ ⟨kS,fS,LS,RS,Am,hm,hm2⟩
   have hz2:=LS.size
   dsimp -zeta only [jp]
   clear jp
   refine kasC_bind (kasC_get ?_)
   try dsimp only
   cases hb:(pendingOf st₂).back? with
   | none=>
    refine kasC_bind (kasC_modify (kasC_pure ⟨rfl,kS,fS,LS,lo+fo,rfl,(show lo+fo<=(arrOf st).size by omega),(show t+1<=lo+fo by omega),?_⟩))
    show Runs lt (arrOf st₂) 0 (((pendingOf st₂).push (lo,fo,0)).toList.map pr) (lo+fo)
    rw [Array.toList_push,List.map_append]
    exact Runs.app.mpr ⟨lo,RS,rfl,hm,Am,rfl⟩
   | some x=>
    obtain ⟨s1,n1,z1⟩:=x
    try dsimp only
    refine kasC_bind (q82 (fun u r st₄ s₄=>s₄=s'/\r=(none,())/\kindOf st₄=κ/\failedOf st₄=none/\Loc (arrOf st) (arrOf st₄) 0 (arrOf st).size/\Runs lt (arrOf st₄) 0 ((pendingOf st₄).toList.map pr) lo/\Asc lt (arrOf st₄) lo fo)
     (fun r st₄ s₄=>s₄=s'/\r=(none,())/\kindOf st₄=κ/\failedOf st₄=none/\Loc (arrOf st) (arrOf st₄) 0 (arrOf st).size/\Runs lt (arrOf st₄) 0 ((pendingOf st₄).toList.map pr) lo/\Asc lt (arrOf st₄) lo fo)
     ⟨rfl,rfl,kS,fS,LS,RS,Am⟩ (fun _ _ _ z=>z) ?_ ?_)
    ·rintro u x r st₄ s₄ hu ⟨rfl,rfl,k4,f4,L4,R4,A4⟩
     try dsimp only
     refine kasC_bind (kasC_get ?_)
     try dsimp only
     have hz4:=L4.size
     have stop:kasC (model prog w) A E (pure (ForInStep.done ((none:Option Unit),())):M2 _) (fun r st' s'=>match r with
       | .done b'=>s'=s₄/\b'=(none,())/\kindOf st'=κ/\failedOf st'=none/\Loc (arrOf st) (arrOf st') 0 (arrOf st).size/\Runs lt (arrOf st') 0 ((pendingOf st').toList.map pr) lo/\Asc lt (arrOf st') lo fo
       | .yield b'=>s'=s₄/\b'=(none,())/\kindOf st'=κ/\failedOf st'=none/\Loc (arrOf st) (arrOf st') 0 (arrOf st).size/\Runs lt (arrOf st') 0 ((pendingOf st').toList.map pr) lo/\Asc lt (arrOf st') lo fo) st₄ s₄:=kasC_pure ⟨rfl,rfl,k4,f4,L4,R4,A4⟩
     by_cases c5:(pendingOf st₄).size > 1
     ·rw [if_pos c5]
      cases h5:(pendingOf st₄)[(pendingOf st₄).size - 2]? with
      | none=>exact stop
      | some y=>
       obtain ⟨y1,y2,older⟩:=y
       try dsimp only
       split
       ·exact stop
       ·refine kasC_bind (q289 G T k4 f4 (L4.good hp) (show (pendingOf st₄).size - 2+1 < (pendingOf st₄).size by omega) (by omega) R4 fun st₅ k5 f5 _ L5 R5=>?_)
        exact kasC_pure ⟨rfl,rfl,k5,f5,L4.trans (L5.wide (Nat.le_refl _) (by omega)),R5,A4.same fun t g1 _=>L5.item (.inr g1)⟩
     ·rw [if_neg c5]
      exact stop
    ·rintro r st₄ s₄ ⟨rfl,rfl,k4,f4,L4,R4,A4⟩
     try dsimp only
     refine kasC_bind (kasC_modify (kasC_bind (kasC_modify (kasC_pure ⟨rfl,k4,f4,L4,lo+fo,rfl,(show lo+fo<=(arrOf st).size by omega),(show t+1<=lo+fo by omega),?_⟩))))
     show Runs lt (arrOf st₄) 0 (((Array.modify (pendingOf st₄) _ _).push (lo,fo,0)).toList.map pr) (lo+fo)
     rw [Array.toList_push,List.map_append,q624]
     ·exact Runs.app.mpr ⟨lo,R4,rfl,hm,A4,rfl⟩
     ·exact fun _=>rfl
  ·intro c J
   have c2:fo < minRun' (arrOf st).size (arrOf st).size 0:=c
   clear_value jp
   refine kasC_bind (kasC_lift (wpAny_rule ?_))
   refine kasC_bind (q438 G T k2 (L12.good hp) (show lo+(min ((arrOf st).size - lo) (minRun' (arrOf st).size (arrOf st).size 0))<=(arrOf st₂).size by omega) (show fo<=(min ((arrOf st).size - lo) (minRun' (arrOf st).size (arrOf st).size 0)) by omega) (show 1<=(min ((arrOf st).size - lo) (minRun' (arrOf st).size (arrOf st).size 0)) by omega) A2 fun st₃ S3 L3' A3'=>?_)
   have L3:Loc (arrOf st₂) (arrOf st₃) lo (lo+(min ((arrOf st).size - lo) (minRun' (arrOf st).size (arrOf st).size 0))):=L3'
   have A3:Asc lt (arrOf st₃) lo (min ((arrOf st).size - lo) (minRun' (arrOf st).size (arrOf st).size 0)):=A3'
   have kS:kindOf st₃=κ:=S3.1.trans k2
   have fS:failedOf st₃=none:=S3.2.2.trans f2
   have LS:Loc (arrOf st) (arrOf st₃) 0 (arrOf st).size:=L12.trans (L3.wide (Nat.zero_le _) (by omega))
   have RS:Runs lt (arrOf st₃) 0 ((pendingOf st₃).toList.map pr) lo:=by
    rw [S3.2.1]
    exact R2.same fun t _ ht=>L3.item (.inl ht)
   have Am:=A3
   have hm:0 < (min ((arrOf st).size - lo) (minRun' (arrOf st).size (arrOf st).size 0)):=by omega
   refine c_iteF (by simp) ?_
   exact J _ _ ⟨kS,fS,LS,RS,Am,hm,show lo+(min ((arrOf st).size - lo) (minRun' (arrOf st).size (arrOf st).size 0))<=(arrOf st).size by omega⟩
  ·exact fun c2=>⟨k2,f2,L12,R2,A2,fo1,by omega⟩
 ·rintro r st' s' ⟨rfl,k1,f1,L1,rfl,R1⟩
  try dsimp only
  have hz1:=L1.size
  refine kasC_bind (q82 (fun t r st₂ s₂=>s₂=s'/\r=(none,())/\kindOf st₂=κ/\failedOf st₂=none/\Loc (arrOf st) (arrOf st₂) 0 (arrOf st).size/\Runs lt (arrOf st₂) 0 ((pendingOf st₂).toList.map pr) (arrOf st).size/\(pendingOf st₂).size+t<=(arrOf st).size)
   (fun r st₂ s₂=>s₂=s'/\r=(none,())/\failedOf st₂=none/\Loc (arrOf st) (arrOf st₂) 0 (arrOf st).size/\Runs lt (arrOf st₂) 0 ((pendingOf st₂).toList.map pr) (arrOf st).size/\(pendingOf st₂).size<=1)
   ⟨rfl,rfl,k1,f1,L1,R1,by have:=R1.le;simp at this;omega⟩ ?_ ?_ ?_)
  ·rintro r st₂ s₂ ⟨e1,e2,e3,e4,e5,e6,e7⟩
   have e7':(pendingOf st₂).size+(arrOf st).size<=(arrOf st).size:=e7
   exact ⟨e1,e2,e4,e5,e6,by omega⟩
  ·rintro t x r st₂ s₂ ht ⟨rfl,rfl,k2,f2,L2,R2,hs2⟩
   try dsimp only
   refine kasC_bind (kasC_get ?_)
   try dsimp only
   have hz2:=L2.size
   by_cases c1:(pendingOf st₂).size<=1
   ·rw [if_pos c1]
    exact kasC_pure ⟨rfl,rfl,f2,L2,R2,c1⟩
   rw [if_neg c1]
   refine kasC_bind (q289 G T k2 f2 (L2.good hp) (ite_lt (show (pendingOf st₂).size - 2 - 1+1 < (pendingOf st₂).size by omega) (show (pendingOf st₂).size - 2+1 < (pendingOf st₂).size by omega)) (show (arrOf st).size<=(arrOf st₂).size by omega) R2 fun st₅ k5 f5 e5 L5 R5=>?_)
   exact kasC_pure ⟨rfl,rfl,k5,f5,L2.trans (L5.wide (Nat.le_refl _) (by omega)),R5,by omega⟩
  ·rintro r st₂ s₂ ⟨rfl,rfl,f2,L2,R2,hs2⟩
   have hz2:=L2.size
   refine kasC_pure (h st₂ f2 L2.perm ?_)
   rw [hz2]
   cases hl:(pendingOf st₂).toList with
   | nil=>
    rw [hl] at R2
    have z:0=(arrOf st).size:=R2
    omega
   | cons y l=>
    have hll:l=[]:=by
     have:(pendingOf st₂).toList.length<=1:=by simpa using hs2
     rw [hl,List.length_cons] at this
     exact List.eq_nil_of_length_eq_zero (by omega)
    rw [hl,hll] at R2
    obtain ⟨_,_,A9,e9⟩:=R2
    have e9':0+y.2.1=(arrOf st).size:=e9
    rw [<- e9',Nat.zero_add]
    exact A9
end
end TS
namespace TS
set_option autoImplicit false
open PySem PySem.W PyProof.Rows
abbrev I3:=Int × Int × Int
noncomputable def lex3 (a b:I3):Bool:=if a.1=b.1 then (if a.2.1=b.2.1 then decide (a.2.2 < b.2.2) else decide (a.2.1 < b.2.1)) else decide (a.1 < b.1)
theorem q190 {a b:I3}:lex3 a b=false ↔ (b.1 < a.1\/(a.1=b.1/\(b.2.1 < a.2.1\/(a.2.1=b.2.1/\b.2.2<=a.2.2)))):=by
 unfold lex3
 split
 ·split
  ·rw [decide_eq_false_iff_not];omega
  ·rw [decide_eq_false_iff_not];omega
 ·rw [decide_eq_false_iff_not];omega
theorem q625 {a b:I3}:lex3 a b=true ↔ ¬ (b.1 < a.1\/(a.1=b.1/\(b.2.1 < a.2.1\/(a.2.1=b.2.1/\b.2.2<=a.2.2)))):=by
 rw [<- q190,Bool.not_eq_false]
def TupI (h:Heap) (v:Value) (t:I3):Prop:=∃ (a:Addr) (o:Obj) (n:Nat) (t1 t2 t3:Tok),v = .ref a/\h.get? a=some o/\o.cls = .type "tuple" /\ o.data = .seq #[.int t.1 t1,.int t.2.1 t2,.int t.2.2 t3] n
section
variable {prog:Program} {w:World} {A:Around} {E:VS} {s:Shared}
theorem one_lt {a b:Int} {t u:Tok} {Q:Bool->Shared->Prop} (h:Q (decide (a < b)) s):wpAny (model prog w) A (oneLt' false (.int a t) (.int b u)) Q E s:=
 kat_one _ _ (lt_int h)
theorem cmp3 {x y:Value} {t u:I3} {Q:Bool->Shared->Prop} (hx:TupI s.heap x t) (hy:TupI s.heap y u) (h:Q (lex3 t u) s):wpAny (model prog w) A (keyLt' (tuples' true) x y) Q E s:=by
 obtain ⟨a,o,n,t1,t2,t3,rfl,ho,_,hd⟩:=hx
 obtain ⟨b,o',n',u1,u2,u3,rfl,ho',_,hd'⟩:=hy
 refine kat_lt ho hd ho' hd' ?_
 unfold lex3 at h
 show KatLex prog w A true _ Q [(_,_),(_,_),(_,_)] 0 s
 refine kat_cons (wpAny_eqBool_int (kat_go (fun e=>kat_yes ?_) (fun e=>kat_no ?_)))
 ·rw [if_pos (beq_iff_eq.mp e)] at h
  refine kat_cons (wpAny_eqBool_int (kat_go (fun e=>kat_yes ?_) (fun e=>kat_no ?_)))
  ·rw [if_pos (beq_iff_eq.mp e)] at h
   refine kat_cons (wpAny_eqBool_int (kat_go (fun e=>kat_yes (kat_nil ?_)) (fun e=>kat_no (one_lt h))))
   have e':=beq_iff_eq.mp e
   rw [decide_eq_false (by omega)] at h
   exact h
  ·rw [if_neg (fun z=>by rw [beq_iff_eq.mpr z] at e;cases e)] at h
   exact one_lt h
 ·rw [if_neg (fun z=>by rw [beq_iff_eq.mpr z] at e;cases e)] at h
  exact oneLt_int h
theorem good3 (ts:Value->I3):Good prog w A E (tuples' true) (fun x=>TupI s.heap x.1 (ts x.1)) (fun x y=>lex3 (ts x.1) (ts y.1)) s:=by
 intro x y st Q hx hy hk hq
 rw [lt'_eq]
 refine kasC_bind (kasC_get (kasC_bind (kasC_lift (wpAny_attempt ?_))))
 rw [hk]
 exact cmp3 (E:=_) hx hy (kasC_pure hq)
theorem tot3 {P:Keyed->Prop} (ts:Value->I3):Tot P (fun x y=>lex3 (ts x.1) (ts y.1)):=
 ⟨fun x y z _ _ _ h1 h2=>by rw [q190] at h1 h2 ⊢;omega,fun x y _ _ h=>by rw [q625] at h;rw [q190];omega⟩
theorem TupI.keep {h h':Heap} {v:Value} {t:I3} (k:∀ b o,h.get? b=some o->o.cls = .type "tuple" -> h'.get? b=some o) (z:TupI h v t):TupI h' v t:=by
 obtain ⟨a,o,n,t1,t2,t3,e,ho,hc,hd⟩:=z
 exact ⟨a,o,n,t1,t2,t3,e,k a o ho hc,hc,hd⟩
theorem kat_of {h:Heap} {ts:Value->I3}:∀ (vs:List Value),(∀ v ∈ vs,TupI h v (ts v)) -> ∃ fs:List Value,KatTups h vs fs/\fs.length=vs.length /\ ∀ v ∈ fs,∃ i t,v=Value.int i t
 | [],_=>⟨[],trivial,rfl,fun v hv=>absurd hv (by simp)⟩
 | v::vs,hT=>by
  obtain ⟨fs,k1,k2,k3⟩:=kat_of vs fun u hu=>hT u (List.mem_cons_of_mem _ hu)
  obtain ⟨a,o,n,t1,t2,t3,rfl,ho,hc,hd⟩:=hT v (List.mem_cons_self ..)
  exact ⟨_::fs,KatTups.cons ho hc hd (f:=.int (ts (.ref a)).1 t1) rfl k1,by simp [k2],fun u hu=>by
   rcases List.mem_cons.mp hu with e | e
   ·exact ⟨_,_,e⟩
   ·exact k3 u e⟩
theorem q439 {a:Addr} {vs:List Value} {n:Nat} {ts:Value->I3} {Q:PySem.Fin->Shared->Prop} (ho:s.heap.get? a=some (seqObj "list" vs.toArray n)) (hT:∀ v ∈ vs,TupI s.heap v (ts v)) (hz:vs.length<=sizeLine)
  (h:∀ out:Array Value,out.toList.Perm vs->(out.toList.Pairwise fun x y=>lex3 (ts y) (ts x)=false)->Q (.done (.ret .none)) { s with heap:=sortedHeap s.heap a vs out }):wpAny (model prog w) A (Builtin.«list.sort» ⟨[.ref a],[]⟩) Q E s:=by
 have ha:a < s.heap.objs.size:=Heap.lt_size ho
 have hvz:vs.toArray.size=vs.length:=List.size_toArray ..
 obtain ⟨e1,ho1⟩:∃ e1,(s.heap.update a (Obj.mapSeq fun _=>(#[]:Array Value))).get? a=some (seqObj "list" #[] e1):=⟨_,get?_update_seq ho fun _=>#[]⟩
 rw [list_sort_plain]
 refine wpAny_bind (listItems_at ho rfl (wpAny_bind (listUpdate_at ho rfl ?_ (by rw [hvz];exact hz) (Nat.zero_le _))))
 refine wpAny_bind (seqEpoch_at ho1 rfl (wpAny_bind (wpAny_newTuple (wpAny_bind (wpAny_newList (wpAny_holding ?_) (Nat.zero_le _))) (by show vs.length<=_;exact hz))))
 obtain ⟨h6,e6⟩:∃ h6,h6=((s.heap.update a (Obj.mapSeq fun _=>(#[]:Array Value))).push (seqObj "tuple" vs.toArray 0)).push (seqObj "list" #[] 0):=⟨_,rfl⟩
 have ho6:h6.get? a=some (seqObj "list" #[] e1):=by
  rw [e6]
  exact Heap.get?_push_of_some _ (Heap.get?_push_of_some _ ho1)
 have hT6:∀ v ∈ vs,TupI h6 v (ts v):=fun v hv=>(hT v hv).keep fun b o hb hc=>by
  have nb:b ≠ a:=fun z=>by
   rw [z,ho] at hb
   cases hb
   exact absurd (Value.type.inj hc) (by decide)
  rw [e6]
  exact Heap.get?_push_of_some _ (Heap.get?_push_of_some _ (((Heap.SameBut.update s.heap a (Obj.mapSeq fun _=>(#[]:Array Value))).2 b nb).trans hb))
 show wpAny (model prog w) A _ Q E { s with heap:=((s.heap.update a (Obj.mapSeq fun _=>(#[]:Array Value))).push (seqObj "tuple" vs.toArray 0)).push (seqObj "list" #[] 0) }
 have hfin:∀ out:Array Value,out.toList.Perm vs->(out.toList.Pairwise fun x y=>lex3 (ts y) (ts x)=false)->Q (.done (.ret .none)) { s with heap:=h6.update a (Obj.mapSeq fun _=>out) }:=fun out p1 p2=>by
  rw [e6]
  exact h out p1 p2
 rw [<- e6]
 dsimp only
 by_cases h2:vs.toArray.size < 2
 ·rw [if_pos h2,if_pos h2]
  refine wpAny_bind (wpAny_pure ?_)
  rw [StateT.run_pure]
  refine wpAny_bind (wpAny_pure ?_)
  dsimp only
  have eo:((arrOf (SortSt.mk' general' (vs.toArray.zip vs.toArray) #[] 7 none)).map (·.2))=vs.toArray:=by
   show (vs.toArray.zip vs.toArray).map (·.2)=vs.toArray
   apply Array.toList_inj.mp
   simp [List.map_snd_zip]
  rw [eo]
  refine wpAny_bind (seqEpoch_at ho6 rfl (wpAny_bind (listUpdate_at ho6 rfl ?_ (Nat.zero_le _) (by rw [hvz];omega))))
  simp only [bne_self_eq_false,Bool.false_eq_true,if_false]
  refine wpAny_pure (hfin vs.toArray (List.Perm.refl _) ?_)
  match vs,h2 with
  | [],_=>exact .nil
  | [x],_=>exact List.pairwise_singleton _ _
  | x::y::l,h2=>exact absurd h2 (by simp)
 ·rw [if_neg h2,if_neg h2]
  obtain ⟨fs,k1,k2,k3⟩:=kat_of vs hT6
  refine wpAny_bind (kat_kind (T:=.type "int") (s:={ s with heap:=h6 }) k1 (by omega) (fun v hv=>?_) (by rfl) ?_)
  ·obtain ⟨i,t,rfl⟩:=k3 v hv
   exact Looks.of_pure rfl
  have zl:(vs.toArray.zip vs.toArray).toList=vs.zip vs:=by simp
  have pz:∀ x ∈ (vs.toArray.zip vs.toArray).toList,TupI h6 x.1 (ts x.1):=fun x hx=>by
   rw [zl] at hx
   exact hT6 _ (mem_zip_self hx).2
  have run:=q367 (prog:=prog) (w:=w) (A:=A) (E:=E) (good3 (s:={ s with heap:=h6 }) ts) (tot3 ts) (Q:=fun _ st' s'=>s' = { s with heap:=h6 }/\failedOf st'=none/\(arrOf st').Perm (vs.toArray.zip vs.toArray)/\Asc (fun x y=>lex3 (ts x.1) (ts y.1)) (arrOf st') 0 (arrOf st').size)
   (st:=SortSt.mk' (tuples' true) (vs.toArray.zip vs.toArray) #[] 7 none) rfl rfl rfl pz (by show 1<=(vs.toArray.zip vs.toArray).size;simp;omega) (fun st' f1 f2 f3=>⟨rfl,f1,f2,f3⟩)
  refine wpAny_bind (wpAny_mono run ?_ fun _ _ e=>e)
  rintro ⟨⟨⟩,st'⟩ s' ⟨rfl,f1,f2,f3⟩
  dsimp only
  have p0:=Array.perm_iff_toList_perm.mp f2
  rw [zl] at p0
  have osz:((arrOf st').map (·.2)).size=vs.length:=by
   rw [Array.size_map,<- Array.length_toList,p0.length_eq]
   simp
  refine wpAny_bind (seqEpoch_at ho6 rfl (wpAny_bind (listUpdate_at ho6 rfl ?_ (Nat.zero_le _) (Nat.le_trans (Nat.le_of_eq osz) (by omega)))))
  rw [f1]
  simp only [bne_self_eq_false,Bool.false_eq_true,if_false]
  refine wpAny_pure (hfin _ ?_ ?_)
  ·rw [Array.toList_map]
   refine (p0.map _).trans (List.Perm.of_eq ?_)
   exact List.map_snd_zip (Nat.le_refl _)
  ·rw [Array.toList_map,List.pairwise_map]
   have sr:Srt (fun x y=>lex3 (ts x.1) (ts y.1)) (arrOf st').toList:=q496 fun p q g1 g2=>by
    have:=f3 p q g1 g2
    rw [Nat.zero_add,Nat.zero_add] at this
    exact this
   refine List.Pairwise.imp_of_mem ?_ sr
   intro x y hx hy hxy
   have ex:=(mem_zip_self (p0.mem_iff.mp hx)).1
   have ey:=(mem_zip_self (p0.mem_iff.mp hy)).1
   rw [<- ex,<- ey]
   exact hxy
theorem sorted_t {l:Addr} {vs:List Value} {ts:Value->I3} {Q:VS} (hl:s.heap.IsList l vs.toArray) (hT:∀ v ∈ vs,TupI s.heap v (ts v)) (hz:vs.length<=sizeLine)
  (h:∀ out:Array Value,out.toList.Perm vs->(out.toList.Pairwise fun x y=>lex3 (ts y) (ts x)=false)->Q (.ref (s.heap.objs.size+1)) { s with heap:=sortedAll s.heap vs out }):wpAny (model prog w) A (call (.builtin "sorted") [.ref l]) Q E s:=by
 refine Calls.call_function_entry kind_sorted plain_sorted entry_sorted (args_sorted1 _) ?_
 unfold Builtin.«sorted»
 refine wpAny_bind (m:=checkCount "sorted" 1 1 _) (wpAny_pure (wpAny_bind (collect_list hl (wpAny_bind (wpAny_newList ?_ (by show vs.length<=_;exact hz))) hz)))
 have hsz:((s.heap.push (seqObj "list" #[] 0)).update s.heap.objs.size (Obj.mapSeq (· ++ vs.toArray))).objs.size=s.heap.objs.size+1:=by rw [Heap.size_update,size_push']
 have hoL:(((s.heap.push (seqObj "list" #[] 0)).update s.heap.objs.size (Obj.mapSeq (· ++ vs.toArray))).push (seqObj "list" vs.toArray 0)).get? (s.heap.objs.size+1)=some (seqObj "list" vs.toArray 0):=by rw [<- hsz];exact Heap.get?_push_size _ rfl
 have hT2:∀ v ∈ vs,TupI (((s.heap.push (seqObj "list" #[] 0)).update s.heap.objs.size (Obj.mapSeq (· ++ vs.toArray))).push (seqObj "list" vs.toArray 0)) v (ts v):=fun v hv=>(hT v hv).keep fun b o hb hc=>by
  have nb:b ≠ s.heap.objs.size:=Nat.ne_of_lt (Heap.lt_size hb)
  exact Heap.get?_push_of_some _ (((Heap.SameBut.update (s.heap.push (seqObj "list" #[] 0)) s.heap.objs.size (Obj.mapSeq (· ++ vs.toArray))).2 b nb).trans (Heap.get?_push_of_some _ hb))
 show wpAny _ _ _ _ _ { s with heap:=((s.heap.push (seqObj "list" #[] 0)).update s.heap.objs.size (Obj.mapSeq (· ++ vs.toArray))).push (seqObj "list" vs.toArray 0) }
 rw [hsz]
 exact wpAny_bind (wpAny_holding (wpAny_call_entry slot_list_sort ⟨_,hoL,rfl⟩ entry_list_sort (q439 hoL hT2 hz fun out a1 a2=>⟨_,rfl,wpAny_pure ⟨_,rfl,h out a1 a2⟩⟩) (args_list_sort _)))
end
end TS
namespace TS
set_option autoImplicit false
open PySem PySem.W PyProof.Rows
theorem TupI.inj {h:Heap} {v:Value} {t u:I3} (x:TupI h v t) (y:TupI h v u):t=u:=by
 obtain ⟨a,o,n,t1,t2,t3,rfl,ho,_,hd⟩:=x
 obtain ⟨b,o',n',u1,u2,u3,e,ho',_,hd'⟩:=y
 cases e
 rw [ho] at ho'
 cases ho'
 rw [hd] at hd'
 have z:=congrArg Array.toList (Data.seq.inj hd').1
 simp only [List.cons.injEq,Value.int.injEq] at z
 exact Prod.ext z.1.1 (Prod.ext z.2.1.1 z.2.2.1.1)
open Classical in
noncomputable def tsOf (h:Heap) (v:Value):I3:=if q:∃ u,TupI h v u then q.choose else (0,0,0)
theorem tsOf_eq {h:Heap} {v:Value} {u:I3} (x:TupI h v u):tsOf h v=u:=by
 unfold tsOf
 have q:∃ u,TupI h v u:=⟨u,x⟩
 rw [dif_pos q]
 exact q.choose_spec.inj x
end TS
namespace L2
open PySem PySem.Spec PyProof.Rows
variable {X:Cx}
def q79 (K:Fg) (H:Hp) (y:V) (u:TS.I3):Prop:=∃ a,y = .ref a/\SqT K H a [.int u.1,.int u.2.1,.int u.2.2]
noncomputable def absR:Value->V
 | .ref a=>.ref a
 | _=>.non
theorem q191 {α β γ:Type} {R:β->γ->Prop} {f:α->β} {g:α->γ}:∀ (l:List α),(∀ v ∈ l,R (f v) (g v))->Paired R (l.map f) (l.map g)
 | [],_=>.nil
 | x::l,h=>.cons (h x (List.mem_cons_self ..)) (q191 l fun v hv=>h v (List.mem_cons_of_mem _ hv))
theorem q498 {s:Shared} (I:Inv X pins σ H s):∀ {ys:List V} {us:List TS.I3} {its:List Value},Paired (q79 X.K H) ys us->Vals ys its ->
  (∀ v ∈ its,TS.TupI s.heap v (TS.tsOf s.heap v)/\q79 X.K H (absR v) (TS.tsOf s.heap v)/\RelV (absR v) v)/\ys=its.map absR/\us=its.map (TS.tsOf s.heap)
 | _,_,_,.nil,.nil=>⟨fun v hv=>absurd hv (by simp),rfl,rfl⟩
 | _,_,_,.cons (a:=y) (b:=u) ht hp,.cons r rr=>by
  obtain ⟨h1,h2,h3⟩:=q498 I hp rr
  obtain ⟨a,rfl,hq⟩:=ht
  cases r
  obtain ⟨its2,r1,p1,_⟩:=I.tuple hq
  obtain ⟨o,ho,hc,n,hd⟩:=id p1
  cases r1 with
  | cons q1 r1=>
   cases r1 with
   | cons q2 r1=>
    cases r1 with
    | cons q3 r1=>
     cases r1
     obtain ⟨t1,rfl⟩:=q1
     obtain ⟨t2,rfl⟩:=q2
     obtain ⟨t3,rfl⟩:=q3
     have tp:TS.TupI s.heap (.ref a) u:=⟨a,o,n,t1,t2,t3,rfl,ho,hc,hd⟩
     have e:=TS.tsOf_eq tp
     refine ⟨fun v hv=>?_,by rw [List.map_cons,<- h2];rfl,by rw [List.map_cons,<- h3,e]⟩
     rcases List.mem_cons.mp hv with z | z
     ·rw [z,e]
      exact ⟨tp,⟨a,rfl,hq⟩,rfl⟩
     ·exact h1 v z
theorem q368 {K:Fg} (hK:X.K=K):CallR X (.builtin "sorted") (fun xs H Q=>∃ (p:Addr) (ys:List V) (us:List TS.I3),xs=[.ref p]/\SqL K H p ys/\Paired (q79 K H) ys us /\
  ∀ (l:Addr) (zs:List V) (vs:List TS.I3),H l=none->(zs.zip vs).Perm (ys.zip us)->Paired (q79 K H) zs vs->(vs.Pairwise fun x y=>TS.lex3 y x=false)->Q (.ref l) (upd H l (.lst zs))):=by
 subst hK
 intro pins s σ H xs us Q I r h
 obtain ⟨p,ys,ts,rfl,hq,hp,q⟩:=h
 obtain ⟨u,rfl,rx⟩:=vals1 r
 cases rx
 obtain ⟨its,r',pl,hz⟩:=I.list hq
 have hl:=r'.length
 obtain ⟨h1,h2,h3⟩:=q498 I hp r'
 refine TS.sorted_t (ts:=TS.tsOf s.heap) pl.isList (fun v hv=>(h1 v hv).1) (by omega) fun out a1 a2=>?_
 obtain ⟨e,he⟩:=PyProof.Rows.sortedAll_at s.heap its out
 have hml:out.toList.length=its.length:=a1.length_eq
 have hm:∀ v ∈ out.toList,v ∈ its:=fun v hv=>a1.mem_iff.mp hv
 refine ⟨.ref (s.heap.objs.size+1),_,I.laid (t':=s.toks) (a:=s.heap.objs.size+1) (o:=.lst (out.toList.map absR)) (fun b ob z=>PyProof.Rows.sortedAll_old z) (Nat.le_succ _) ?_,rfl,q _ (out.toList.map absR) (out.toList.map (TS.tsOf s.heap)) (I.hok.fresh (Nat.le_succ _)) ?_ ?_ ?_⟩
 ·refine ⟨by rw [List.length_map];omega,out.toList,e,?_,?_⟩
  ·have z:=q191 (R:=RelV) (f:=absR) (g:=id) out.toList fun v hv=>(h1 v (hm v hv)).2.2
   rw [List.map_id] at z
   exact z
  ·rw [he]
 ·rw [h2,h3,List.zip_map',List.zip_map']
  exact a1.map _
 ·exact q191 out.toList fun v hv=>(h1 v (hm v hv)).2.1
 ·rw [List.pairwise_map]
  exact a2
structure M1 (X:Cx) (o:Expr) (m:Str) (apos:Pos) (e:Expr) (cpos:Pos):Prop where
 base:attributeBase o m X.env (eval o X.env)=eval o X.env
 few:((backTo cpos (starEach [e] X.env)).all (fun x=>!x.1) && (backToKw cpos (keywordEach [] X.env)).all (fun x=>x.1.isSome)
  && decide (([e]:List Expr).length+([]:List Keyword).length+(if ([]:List Keyword).isEmpty then 0 else 1) < 30))=true
 line:(apos.endLine == cpos.line)=true
 trees:backTo cpos (starEach [e] X.env)=[(false,eval e X.env)]
structure M2 (X:Cx) (o:Expr) (m:Str) (apos:Pos) (e f:Expr) (cpos:Pos):Prop where
 base:attributeBase o m X.env (eval o X.env)=eval o X.env
 few:((backTo cpos (starEach [e,f] X.env)).all (fun x=>!x.1) && (backToKw cpos (keywordEach [] X.env)).all (fun x=>x.1.isSome)
  && decide (([e,f]:List Expr).length+([]:List Keyword).length+(if ([]:List Keyword).isEmpty then 0 else 1) < 30))=true
 line:(apos.endLine == cpos.line)=true
 trees:backTo cpos (starEach [e,f] X.env)=[(false,eval e X.env),(false,eval f X.env)]
def IsD (H:Hp) (a:Addr):Prop:=(∃ kvs,Rd H a (.dK kvs)) \/ ∃ kvs,Rd H a (.dT kvs)
theorem isD_at {s:Shared} (I:Inv X pins σ H s) (d:IsD H a) :
  s.TypeIs (.ref a) "dict" /\ (∀ b,Value.ref a = .ref b -> ∃ ob,s.heap.get? b=some ob/\ob.dict=none)/\(a == sysModules)=false:=by
 rcases d with ⟨kvs,e⟩ | ⟨kvs,e⟩
 ·obtain ⟨_,hd,vs,_,dd⟩:=dk_rd I.hok e
  refine ⟨dd.typeIs,fun b q=>?_,hd⟩
  cases q
  obtain ⟨ob,_,_,h1,h2,_⟩:=dd
  exact ⟨ob,h1,h2.2.1⟩
 ·obtain ⟨_,hd,xs,_,dd⟩:=dt_rd I.hok e
  refine ⟨dd.typeIs,fun b q=>?_,hd⟩
  cases q
  obtain ⟨ob,_,_,h1,h2,_⟩:=dd
  exact ⟨ob,h1,h2.2.1⟩
section
variable {pins:List (Addr × Obj)} {σ:St} {H:Hp} {s:Shared} {a:Addr} {y d:V} {u r:Value} {o:Option V} {A:Around} {E:VS}
theorem d_get2 (hu:A.units+1 < cLine) (I:Inv X pins σ H s) (g:DGet H a y o) (ry:RelV y u) (rd:RelV d r) (h:∀ w' s',Inv X pins σ H s'->RelV (o.getD d) w'->Q w' s') :
  wpAny (model X.prog X.w) A (call (.builtin "dict.get") [.ref a,u,r]) Q E s:=by
 rcases g with ⟨kvs,k,e,ey,l⟩ | ⟨kvs,k,b,e,ey,eb,l⟩
 ·subst ey
  obtain ⟨z,hd,vs,rel,dd⟩:=dk_rd I.hok e
  refine call_meetsIn PySem.F.slot_dict_get dd.typeIs PySem.F.entry_dict_get (PySem.F.args_dict_get_3 _ _ _) (meets_dict_get_default (q53 X.prog X.w) a (kV_is ry) hd r) ⟨_,dd.mapOf,h _ _ (I.tok _) ?_⟩
  rw [l]
  exact (rel.val k).getD rd
 ·subst ey
  cases (show u=Value.ref b from ry)
  obtain ⟨z,hd,xs,rel,dd⟩:=dt_rd I.hok e
  refine call_meetsIn PySem.F.slot_dict_get dd.typeIs PySem.F.entry_dict_get (PySem.F.args_dict_get_3 _ _ _) (meetsH_dict_get_default (tupleKind (q53 X.prog X.w)) a b hd r) ⟨tupleKind_room_in1 hu,k,xs,q480 I.hok eb,dd,h _ _ (I.tok _) ?_⟩
  rw [l]
  exact (rel.val k).getD rd
end
def tDGet2 (td ty tx:TE):TE:=fun σ H Q=>td σ H fun x H1=>∃ a,x = .ref a/\IsD H1 a/\ty σ H1 fun y H2=>tx σ H2 fun z H3=>∃ o,DGet H3 a y o/\Q (o.getD z) H3
section
variable {o e f:Expr} {apos cpos:Pos} {td ty tx:TE}
theorem pe_dget2 (hu:X.A.units+1 < cLine) (ho:PE X o td) (he:PE X e ty) (hf:PE X f tx) (m:M2 X o "get" apos e f cpos):PE X (.Call (.Attribute o "get" apos) [e,f] [] cpos) (tDGet2 td ty tx):=by
 intro pins s σ H Q I h
 refine wpAny_Call_method m.base m.few m.line PySem.F.plainAttrs_dict PySem.F.slot_dict_get PySem.F.type_dict_get (thn (ho pins s σ H _ I h) fun u s1 ⟨x,H1,I1,rx,a,ex,d,q1⟩=>?_)
 subst ex
 obtain rfl:u=Value.ref a:=rx
 obtain ⟨t1,t2,_⟩:=isD_at I1 d
 refine ⟨t1,t2,?_⟩
 rw [m.trees]
 refine Calls.callWith_builtin rfl (Calls.evalArgs_plain (Calls.spliced_cons (thn (he pins s1 σ H1 _ I1 q1) fun iv s2 ⟨y,H2,I2,ry,q2⟩=>
  Calls.spliced_cons (thn (hf pins s2 σ H2 _ I2 q2) fun fv s3 ⟨z,H3,I3,rz,ov,g,q3⟩=>Calls.spliced_nil ?_))))
 exact d_get2 hu I3 g ry rz fun w' s4 I4 rw'=>⟨_,H3,I4,rw',q3⟩
end
end L2
namespace TS
set_option autoImplicit false
open PySem PySem.W PyProof.Rows
abbrev I2:=Int × Int
end TS
namespace L2
open PySem PySem.Spec PyProof.Rows
variable {X:Cx}
theorem Inv.laidM {s:Shared} {h':Heap} {t':Nat} (I:Inv X pins σ H s) (k:∀ b u,s.heap.get? b=some u->h'.get? b=some u) (old:∀ b u,H b=some u->H' b=some u)
  (off:∀ b u,s.heap.get? b=some u->H b=none->H' b=none) (new:∀ b u,H' b=some u->H b=none->ObjOk X.prog X.w H' h' b u):Inv X pins σ H' { s with heap:=h',toks:=t' }:=by
 refine I.un ⟨fun b u q _ _ _=>k b u q,fun b u q _ _ _=>⟨u.slots,k b u q⟩,fun b u q n _=>off b u q n,fun b u q _=>⟨u,k b u q⟩,fun b xs q=>old b _ q,fun b o u q=>old b _ q,fun b ps q=>⟨#[],by rw [old b _ q];simp⟩⟩ fun b u e=>?_
 cases q:H b with
 | none=>exact new b u e q
 | some v=>
  rw [old b v q] at e
  cases e
  exact (I.hok b _ q).stay (fun c v _ q=>k c v q) (fun c q=>old c _ q) fun c xs q=>old c _ q
theorem q626:∀ {ks:List TS.I2} {vs:List (Key × Value)},KV (ks.map fun p=>((Sum.inl p.1:Key),V.int p.2)) vs -> ∀ {j:Nat} {k:Key} {x:Value},vs[j]? = some (k,x) -> ∃ p t,ks[j]? = some p/\k=Sum.inl p.1/\x = .int p.2 t
 | [],_,.nil,j,k,x,h=>by simp at h
 | p::ks,_,.cons (b:=q) ⟨e1,r⟩ t,0,k,x,h=>by
  cases h
  obtain ⟨t,e2⟩:=r
  exact ⟨p,t,rfl,e1.symm,e2⟩
 | p::ks,_,.cons _ t,j+1,k,x,h=>q626 t (by simpa using h)
theorem key_int {i:Int} (h:(q53 prog w).is (Sum.inl i) key=true):∃ t,key = .int i t:=by
 rcases q43 (show keyIs (Sum.inl i) key=true from h) with ⟨j,t,e,rfl⟩ | ⟨x,t,e,rfl⟩
 ·cases e
  exact ⟨t,rfl⟩
 ·cases e
end L2
namespace TS
set_option autoImplicit false
open PySem
abbrev Up (l:List Nat):Prop:=l.Pairwise (· < ·)
structure GT (b:Bool) (t:SetTable):Prop where
 led:t.led=b
 up:t.plain=true->Up t.place.toList
end TS
namespace TS
set_option autoImplicit false
open PySem
noncomputable def byT (w:World):Bool:=w.params.followText "set-order"
noncomputable def kOf:Value->Int
 | .int k _=>k
 | _=>0
def AllI (vs:List Value):Prop:=∀ v ∈ vs,∃ k t,v=Value.int k t
structure SetS (prog:Program) (w:World) (o:Obj) (es:Array (Int × Value)) (ep:Nat) (t:SetTable) (ks:List Int):Prop where
 ex:o.ExactSet
 dat:o.data = .set es ep t
 el:ElemsOf (intKind prog w) es.toList
 few:es.size < scanBound
 fit:t.fits es.size=true
 gt:GT (!(byT w)) t
 pm:(es.toList.map fun e=>kOf e.2).Perm ks
 nd:ks.Nodup
end TS
namespace TS
set_option autoImplicit false
open PySem PySem.W PyProof.Rows
section
variable {prog:Program} {w:World} {A:Around} {E:VS} {s:Shared}
theorem q440 {κ:SortKind} {P:Value->Prop} {lt:Value->Value->Bool} {a:Addr} {vs:List Value} {n:Nat} {Q:PySem.Fin->Shared->Prop} (ho:s.heap.get? a=some (seqObj "list" vs.toArray n)) (hz:vs.length<=sizeLine)
  (hk:∀ h6:Heap,(∀ b o,b ≠ a->s.heap.get? b=some o->h6.get? b=some o)->2<=vs.length -> ∀ Q':SortKind->Shared->Prop,Q' κ { s with heap:=h6 }->wpAny (model prog w) A (keyKind' vs.toArray) Q' E { s with heap:=h6 })
  (hg:∀ h6:Heap,(∀ b o,b ≠ a->s.heap.get? b=some o->h6.get? b=some o)->Good prog w A E κ (fun x=>P x.1) (fun x y=>lt x.1 y.1) { s with heap:=h6 })
  (ht:Tot (fun x=>P x.1) (fun x y=>lt x.1 y.1)) (hP:∀ v ∈ vs,P v)
  (h:∀ out:Array Value,out.toList.Perm vs->(out.toList.Pairwise fun x y=>lt y x=false)->Q (.done (.ret .none)) { s with heap:=sortedHeap s.heap a vs out }):wpAny (model prog w) A (Builtin.«list.sort» ⟨[.ref a],[]⟩) Q E s:=by
 have hvz:vs.toArray.size=vs.length:=List.size_toArray ..
 obtain ⟨e1,ho1⟩:∃ e1,(s.heap.update a (Obj.mapSeq fun _=>(#[]:Array Value))).get? a=some (seqObj "list" #[] e1):=⟨_,get?_update_seq ho fun _=>#[]⟩
 rw [list_sort_plain]
 refine wpAny_bind (listItems_at ho rfl (wpAny_bind (listUpdate_at ho rfl ?_ (by rw [hvz];exact hz) (Nat.zero_le _))))
 refine wpAny_bind (seqEpoch_at ho1 rfl (wpAny_bind (wpAny_newTuple (wpAny_bind (wpAny_newList (wpAny_holding ?_) (Nat.zero_le _))) (by show vs.length<=_;exact hz))))
 obtain ⟨h6,e6⟩:∃ h6,h6=((s.heap.update a (Obj.mapSeq fun _=>(#[]:Array Value))).push (seqObj "tuple" vs.toArray 0)).push (seqObj "list" #[] 0):=⟨_,rfl⟩
 have ho6:h6.get? a=some (seqObj "list" #[] e1):=by
  rw [e6]
  exact Heap.get?_push_of_some _ (Heap.get?_push_of_some _ ho1)
 have k6:∀ b o,b ≠ a->s.heap.get? b=some o->h6.get? b=some o:=fun b o hb z=>by
  rw [e6]
  exact Heap.get?_push_of_some _ (Heap.get?_push_of_some _ (((Heap.SameBut.update s.heap a (Obj.mapSeq fun _=>(#[]:Array Value))).2 b hb).trans z))
 show wpAny (model prog w) A _ Q E { s with heap:=((s.heap.update a (Obj.mapSeq fun _=>(#[]:Array Value))).push (seqObj "tuple" vs.toArray 0)).push (seqObj "list" #[] 0) }
 have hfin:∀ out:Array Value,out.toList.Perm vs->(out.toList.Pairwise fun x y=>lt y x=false)->Q (.done (.ret .none)) { s with heap:=h6.update a (Obj.mapSeq fun _=>out) }:=fun out p1 p2=>by
  rw [e6]
  exact h out p1 p2
 rw [<- e6]
 dsimp only
 by_cases h2:vs.toArray.size < 2
 ·rw [if_pos h2,if_pos h2]
  refine wpAny_bind (wpAny_pure ?_)
  rw [StateT.run_pure]
  refine wpAny_bind (wpAny_pure ?_)
  dsimp only
  have eo:((arrOf (SortSt.mk' general' (vs.toArray.zip vs.toArray) #[] 7 none)).map (·.2))=vs.toArray:=by
   show (vs.toArray.zip vs.toArray).map (·.2)=vs.toArray
   apply Array.toList_inj.mp
   simp [List.map_snd_zip]
  rw [eo]
  refine wpAny_bind (seqEpoch_at ho6 rfl (wpAny_bind (listUpdate_at ho6 rfl ?_ (Nat.zero_le _) (by rw [hvz];exact Nat.le_succ_of_le hz))))
  simp only [bne_self_eq_false,Bool.false_eq_true,if_false]
  refine wpAny_pure (hfin vs.toArray (List.Perm.refl _) ?_)
  match vs,h2 with
  | [],_=>exact .nil
  | [x],_=>exact List.pairwise_singleton _ _
  | x::y::l,h2=>exact absurd h2 (by simp)
 ·rw [if_neg h2,if_neg h2]
  refine wpAny_bind (hk h6 k6 (by rw [<- hvz];exact Nat.not_lt.mp h2) _ ?_)
  have zl:(vs.toArray.zip vs.toArray).toList=vs.zip vs:=by simp
  have pz:∀ x ∈ (vs.toArray.zip vs.toArray).toList,P x.1:=fun x hx=>by
   rw [zl] at hx
   exact hP _ (mem_zip_self hx).2
  have run:=q367 (prog:=prog) (w:=w) (A:=A) (E:=E) (hg h6 k6) ht (Q:=fun _ st' s'=>s' = { s with heap:=h6 }/\failedOf st'=none/\(arrOf st').Perm (vs.toArray.zip vs.toArray)/\Asc (fun x y=>lt x.1 y.1) (arrOf st') 0 (arrOf st').size)
   (st:=SortSt.mk' κ (vs.toArray.zip vs.toArray) #[] 7 none) rfl rfl rfl pz (by show 1<=(vs.toArray.zip vs.toArray).size;simp;omega) (fun st' f1 f2 f3=>⟨rfl,f1,f2,f3⟩)
  refine wpAny_bind (wpAny_mono run ?_ fun _ _ e=>e)
  rintro ⟨⟨⟩,st'⟩ s' ⟨rfl,f1,f2,f3⟩
  dsimp only
  have p0:=Array.perm_iff_toList_perm.mp f2
  rw [zl] at p0
  have osz:((arrOf st').map (·.2)).size=vs.length:=by
   rw [Array.size_map,<- Array.length_toList,p0.length_eq]
   simp
  refine wpAny_bind (seqEpoch_at ho6 rfl (wpAny_bind (listUpdate_at ho6 rfl ?_ (Nat.zero_le _) (Nat.le_trans (Nat.le_of_eq osz) (Nat.le_succ_of_le hz)))))
  rw [f1]
  simp only [bne_self_eq_false,Bool.false_eq_true,if_false]
  refine wpAny_pure (hfin _ ?_ ?_)
  ·rw [Array.toList_map]
   refine (p0.map _).trans (List.Perm.of_eq ?_)
   exact List.map_snd_zip (Nat.le_refl _)
  ·rw [Array.toList_map,List.pairwise_map]
   have sr:Srt (fun x y=>lt x.1 y.1) (arrOf st').toList:=q496 fun p q g1 g2=>by
    have:=f3 p q g1 g2
    rw [Nat.zero_add,Nat.zero_add] at this
    exact this
   refine List.Pairwise.imp_of_mem ?_ sr
   intro x y hx hy hxy
   have ex:=(mem_zip_self (p0.mem_iff.mp hx)).1
   have ey:=(mem_zip_self (p0.mem_iff.mp hy)).1
   rw [<- ex,<- ey]
   exact hxy
noncomputable def ltI (x y:Value):Bool:=decide (kOf x < kOf y)
theorem good_i:Good prog w A E oneType' (fun x=>∃ k t,x.1=Value.int k t) (fun x y=>ltI x.1 y.1) s:=by
 intro x y st Q hx hy hk hq
 rw [lt'_eq]
 refine kasC_bind (kasC_get (kasC_bind (kasC_lift (wpAny_attempt ?_))))
 rw [hk]
 obtain ⟨x1,x2⟩:=x
 obtain ⟨y1,y2⟩:=y
 obtain ⟨k,t,rfl⟩:=hx
 obtain ⟨k',t',rfl⟩:=hy
 exact kat_lt_int (E:=_) (kasC_pure hq)
theorem tot_i:Tot (fun x:Keyed=>∃ k t,x.1=Value.int k t) (fun x y=>ltI x.1 y.1):=
 ⟨fun x y z _ _ _ h1 h2=>by unfold ltI at *;rw [decide_eq_false_iff_not] at *;omega,fun x y _ _ h=>by unfold ltI at *;rw [decide_eq_true_eq] at h;rw [decide_eq_false_iff_not];omega⟩
theorem q499:∀ (vs:List Value),AllI vs->IntsAre vs (vs.map kOf)
 | [],_=>.nil
 | v::vs,h=>by
  obtain ⟨k,t,rfl⟩:=h v (.head _)
  exact .cons k t (q499 vs fun u hu=>h u (.tail _ hu))
end
end TS
namespace L2
open PySem PySem.Spec PyProof.Rows
variable {X:Cx}
theorem q500:∀ (vs:List Value),TS.AllI vs->Vals ((vs.map TS.kOf).map V.int) vs
 | [],_=>.nil
 | v::vs,h=>by
  obtain ⟨k,t,rfl⟩:=h v (.head _)
  exact .cons ⟨t,rfl⟩ (q500 vs fun u hu=>h u (.tail _ hu))
end L2
namespace RV
set_option autoImplicit false
open PySem PyProof.Rows
theorem q321:Manifest.owners.lookup (String.ofList ['d','e','s','r','e','v','e','r'].reverse)=some Manifest.sig_reversed:=by kernel_rfl
theorem q129:Slot "reversed" "__next__" "reversed.__next__" :=
 .of (owner := "reversed") (n := "__next__") (by rw [typeLookup_type,builtinLookup_eq_fast];kernel_rfl) (by decide +kernel) (by decide +kernel) (by decide +kernel)
  (by first | exact .inl (by decide +kernel) | exact .inr (by decide +kernel)) (by rw [isSubtype_type];kernel_rfl)
theorem q290:entryFor table "reversed.__next__" = some Builtin.«reversed.__next__»:=entryFor_of_tree (by kernel_rfl)
theorem q369 (a:Value):argsOk "reversed.__next__" ⟨[a],[]⟩:=by
 unfold argsOk;rw [signature?_of (id := "reversed.__next__") (n:=['_','_','t','x','e','n','_','_']) (o:=['d','e','s','r','e','v','e','r']) (by kernel_rfl) q321];kernel_rfl
theorem q370:Slot "reversed" "__iter__" "reversed.__iter__" :=
 .of (owner := "reversed") (n := "__iter__") (by rw [typeLookup_type,builtinLookup_eq_fast];kernel_rfl) (by decide +kernel) (by decide +kernel) (by decide +kernel)
  (by first | exact .inl (by decide +kernel) | exact .inr (by decide +kernel)) (by rw [isSubtype_type];kernel_rfl)
theorem q441:typeLookup (.type "tuple") "__reversed__" = pure none:=by rw [typeLookup_type,builtinLookup_eq_fast];kernel_rfl
section
variable {prog:Program} {w:World} {A:Around} {E:VS} {s:Shared}
noncomputable def rvObj (l:Addr) (i:Int):Obj:={ cls:=.type "reversed", data:=.fields #[.ref l,rawInt i] }
def IsRv (h:Heap) (a l:Addr) (i:Int):Prop:=∃ o,h.get? a=some o/\o.cls = .type "reversed" /\ o.data = .fields #[.ref l,rawInt i]
theorem IsRv.typeIs {a l:Addr} {i:Int} (x:IsRv s.heap a l i):s.TypeIs (.ref a) "reversed" := let ⟨o,ho,hc,_⟩:=x;⟨o,ho,hc⟩
theorem code_new {l:Addr} {items:Array Value} {Q₁:VS} (hl:s.heap.IsTuple l items) (hz:items.size<=1000)
  (h:∀ tk,Q₁ (.ref s.heap.objs.size) { s with heap:=s.heap.push (rvObj l ((items.size:Int) - 1)),toks:=tk }) :
  codeAny (model prog w) A (.call (.builtin "reversed.__new__") ⟨[.type "reversed", .ref l],[]⟩) (wants Q₁ E) s:=by
 refine codeAny_of_tree ?_
 show wpAny _ A.in1 (do checkBuiltinCall "reversed.__new__" ⟨[.type "reversed", .ref l],[]⟩;again (.builtin "reversed.__new__" ⟨[.type "reversed", .ref l],[]⟩)) _ _ s
 refine wpAny_bind (wpAny_of_eq (F.newCall_reversed_1 _) (wpAny_pure ⟨plainId_quiet F.plain_reversed_new _,codeAny_builtin F.entry_reversed_new ?_⟩))
 rw [Around.under_plainId F.plain_reversed_new _]
 unfold Builtin.«reversed.__new__»
 refine wpAny_bind (wpAny_of_eq (newClass_reversed _) ?_)
 try dsimp only
 refine wpAny_bind (wpAny_of_eq (a:=()) (by first | rfl | kernel_rfl) ?_)
 refine wpAny_bind (wpAny_of_eq (a:=()) (by first | rfl | kernel_rfl) ?_)
 try dsimp only
 refine wpAny_bind (wpAny_specialOf hl.typeIs q441 ?_)
 try dsimp only
 refine wpAny_bind (wpAny_bind (wpAny_isInstance (T := "tuple") (b:=false) hl.typeIs (by rw [isSubtype_type];kernel_rfl) ?_))
 try dsimp only
 rw [if_neg fnt]
 refine wpAny_bind (wpAny_specialOf hl.typeIs F.slot_tuple_getitem.lookup ?_)
 try dsimp only
 rw [if_pos (show (["tuple.__getitem__", "str.__getitem__", "bytes.__getitem__", "bytearray.__getitem__", "memoryview.__getitem__", "numpy.ndarray.__getitem__", "sqlite3.Row.__getitem__"].contains "tuple.__getitem__")=true by decide +kernel)]
 refine wpAny_pure ?_
 rw [if_neg (by decide)]
 obtain ⟨o,ho,hc,n,hd⟩:=id hl
 refine wpAny_bind (PyProof.Rows.len_tuple ⟨o,ho,hc,n,hd⟩ (by omega) ?_)
 refine wpAny_bind (m:=asInt? _) (wpAny_pure ?_)
 try dsimp only
 refine wpAny_bind ?_
 show wpAny _ _ (newObj (.type "reversed") (.fields #[.ref l,rawInt ((items.size:Int) - 1)])) _ _ _
 exact wpAny_newObj_type (wpAny_pure (h _))
theorem q627 {it l:Addr} {i:Nat} {items:Array Value} {x:Value} {Q:Option Value->Shared->Prop} (hit:IsRv s.heap it l (i:Int)) (hl:s.heap.IsTuple l items) (hz:items.size<=1000) (hx:items[i]? = some x)
  (hQ:∀ h' tk,IsRv h' it l ((i:Int) - 1)->Heap.SameBut it s.heap h'->Q (some x) { s with heap:=h',toks:=tk }):wpAny (model prog w) A (pyNext (.ref it)) Q E s:=by
 obtain ⟨o,ho,hc,hd⟩:=id hit
 unfold pyNext
 refine wpAny_bind (wpAny_attempt (wpAny_callSpecial?_slot (name:=Str.ofString "__next__") hit.typeIs q129
  (wpAny_call_entry q129 hit.typeIs q290 ?_ (q369 _))))
 unfold Builtin.«reversed.__next__»
 refine wpAny_bind (wpAny_of_eq (a:=(Value.ref it,[])) rfl ?_)
 try dsimp only
 refine wpAny_bind (wpAny_field ho hd (x:=.ref l) rfl ?_)
 refine wpAny_bind (wpAny_field ho hd (x:=rawInt (i:Int)) rfl ?_)
 show wpAny _ _ (if (i:Int) < 0 then _ else _) _ _ s
 rw [if_neg (by omega)]
 refine wpAny_bind (wpAny_specialOf hl.typeIs F.slot_tuple_getitem.lookup ?_)
 try dsimp only
 rw [if_neg (by decide)]
 obtain ⟨ol,hol,hcl,nl,hdl⟩:=id hl
 refine wpAny_bind (wpAny_mkInt ?_)
 have hi:i < items.size:=(Array.getElem?_eq_some_iff.mp hx).1
 refine wpAny_bind (wpAny_attempt (PyProof.Rows.getItem_tuple (j:=i) ⟨ol,hol,hcl,nl,hdl⟩ (by omega) (by omega) ?_ hx ?_))
 ·unfold seqIndex?
  simp
  omega
 try dsimp only
 refine wpAny_bind (wpAny_field ho hd (x:=rawInt (i:Int)) rfl ?_)
 show wpAny _ _ (setField (Value.ref it) 1 (rawInt ((i:Int) - 1)) >>= _) _ _ _
 refine wpAny_bind (wpAny_setField ho hd (by simp) ?_)
 refine wpAny_pure ⟨x,rfl,wpAny_pure (hQ _ _ ?_ (Heap.SameBut.update ..))⟩
 exact ⟨_,Heap.get?_update_self _ ho (Obj.isFreed_of_fields (Obj.data_mapFields hd _)),(Obj.cls_mapFields ..).trans hc,by
  rw [Obj.data_mapFields hd];simp⟩
theorem stop_rv {α:Type} (hh:A.handled=none) {Q:α->Shared->Prop} {E':VS} (h:∀ (h':Heap) (e:Addr),(∀ b o,s.heap.get? b=some o->h'.get? b=some o)->(∃ o,h'.get? e=some o/\o.cls = .type "StopIteration")->E' (.ref e) { s with heap:=h' }) :
  wpAny (model prog w) A (Builtin.SmallTypes.stopIteration:Sem α) Q E' s:=by
 unfold Builtin.SmallTypes.stopIteration
 refine wpAny_bind ?_
 simp only [newExc,newTuple]
 refine wpAny_bind (wpAny_newObj_type ?_ (by size_fits))
 refine wpAny_bind (m:=firstArgMember _ _) (wpAny_of_eq (a:=Value.none) (by first | rfl | (simp only [firstArgMember];rfl)) ?_)
 refine wpAny_newObj_type ?_ (by size_fits)
 simp only [raiseNew]
 refine wpAny_bind (wpAny_handled ?_)
 rw [hh]
 exact wpAny_bind (wpAny_pure (wpAny_throw (h _ _ (fun b o e=>Heap.get?_push_of_some _ (Heap.get?_push_of_some _ e)) ⟨_,Heap.get?_push_size _ rfl,rfl⟩)))
theorem q628 {it l:Addr} {Q:Option Value->Shared->Prop} (hh:A.handled=none) (hit:IsRv s.heap it l (-1)) (hQ:∀ h',(∀ b o,b ≠ it->s.heap.get? b=some o->h'.get? b=some o)->Q none { s with heap:=h' }):wpAny (model prog w) A (pyNext (.ref it)) Q E s:=by
 obtain ⟨o,ho,hc,hd⟩:=id hit
 unfold pyNext
 refine wpAny_bind (wpAny_attempt (wpAny_callSpecial?_slot (name:=Str.ofString "__next__") hit.typeIs q129
  (wpAny_call_entry q129 hit.typeIs q290 ?_ (q369 _))))
 unfold Builtin.«reversed.__next__»
 refine wpAny_bind (wpAny_of_eq (a:=(Value.ref it,[])) rfl ?_)
 try dsimp only
 refine wpAny_bind (wpAny_field ho hd (x:=.ref l) rfl ?_)
 refine wpAny_bind (wpAny_field ho hd (x:=rawInt (-1)) rfl ?_)
 show wpAny _ _ (if (-1:Int) < 0 then _ else _) _ _ s
 rw [if_pos (by decide)]
 refine wpAny_bind (wpAny_rule (wpAny_bind ?_))
 show wpAny _ _ (setField (Value.ref it) 1 (rawInt (-1)) >>= fun _=>setField (Value.ref it) 0 .none) _ _ _
 refine wpAny_bind (wpAny_setField ho hd (by simp) ?_)
 have ho2:=Heap.get?_update_self (Obj.mapFields (·.setIfInBounds 1 (rawInt (-1)))) ho (Obj.isFreed_of_fields (Obj.data_mapFields hd _))
 refine wpAny_setField ho2 (Obj.data_mapFields hd _) (by simp) ?_
 refine wpAny_bind (stop_rv (A:=A.in1) (show A.in1.handled=none from hh) fun h' e kp he=>?_)
 obtain ⟨u,hu,hcu⟩:=he
 refine wpAny_bind (wpAny_isInstance (T := "StopIteration") (b:=true) ⟨u,hu,hcu⟩ isSubtype_stop (wpAny_pure (hQ h' fun b o hb e=>kp b o ?_)))
 exact ((Heap.SameBut.update ..).2 b hb).trans (((Heap.SameBut.update ..).2 b hb).trans e)
theorem q629 {it l:Addr} {i:Int} {Q:VS} (hit:IsRv s.heap it l i) (h:Q (.ref it) s):wpAny (model prog w) A (pyIter (.ref it)) Q E s:=by
 refine wpAny_pyIter_slot hit.typeIs q370 (wpAny_call_entry (b:=Builtin.«dict_keyiterator.__iter__») q370 hit.typeIs (entryFor_alias (id' := "dict_keyiterator.__iter__") (by kernel_rfl) rfl (by decide +kernel) (by kernel_rfl)) ?_ ?_)
 ·exact wpAny_pure ⟨_,rfl, "reversed", _,hit.typeIs,q129.lookup,h⟩
 ·unfold argsOk;rw [signature?_of (id := "reversed.__iter__") (n:=['_','_','r','e','t','i','_','_']) (o:=['d','e','s','r','e','v','e','r']) (by kernel_rfl) q321];kernel_rfl
theorem walk_rv (hh:A.handled=none) (I l:Addr) (hne:l ≠ I) (items:Array Value) (hz:items.size<=1000) :
  Walks prog w A I [I,l] [I] items.size (fun i v=>items.toList.reverse[i]? = some v) (fun i h=>IsRv h I l ((items.size:Int) - 1 - i)/\h.IsTuple l items) where
 sub:=fun b hb=>by simp at hb;simp [hb]
 frame:=fun i h h' st hk=>by
  obtain ⟨⟨o,ho,r⟩,⟨u,hu,q⟩⟩:=st
  exact ⟨⟨o,hk I (by simp) _ ho,r⟩,⟨u,hk l (by simp) _ hu,q⟩⟩
 item:=fun i s Q E hi st hQ=>by
  have e:((items.size:Int) - 1 - i)=((items.size - 1 - i:Nat):Int):=by omega
  have h1:=st.1
  rw [e] at h1
  have hj:items.size - 1 - i < items.size:=by omega
  refine q627 h1 st.2 hz (x:=items[items.size - 1 - i]) (Array.getElem?_eq_getElem hj) fun h' tk hit' hs'=>?_
  refine hQ _ h' tk ?_ ⟨?_,?_⟩ fun b o hb z=>(hs'.2 b (fun q=>hb (by simp [q]))).trans z
  ·rw [List.getElem?_reverse (by simpa using hi),Array.length_toList,Array.getElem?_toList,Array.getElem?_eq_getElem hj]
  ·have e2:((items.size:Int) - 1 - ((i+1:Nat):Int))=((items.size - 1 - i:Nat):Int) - 1:=by omega
   rw [e2]
   exact hit'
  ·obtain ⟨u,hu,q⟩:=st.2
   exact ⟨u,(hs'.2 l hne).trans hu,q⟩
 done:=fun s Q E st hQ=>by
  have h1:=st.1
  rw [show ((items.size:Int) - 1 - (items.size:Nat)) = -1 by omega] at h1
  exact q628 hh h1 fun h' kp=>hQ h' s.toks fun b o hb z=>kp b o (fun q=>hb (by simp [q])) z
 self:=fun i s Q E st hQ=>q629 st.1 hQ
theorem q243:Slot "reversed" "__length_hint__" "reversed.__length_hint__" :=
 .of (owner := "reversed") (n := "__length_hint__") (by rw [typeLookup_type,builtinLookup_eq_fast];kernel_rfl) (by decide +kernel) (by decide +kernel) (by decide +kernel)
  (by first | exact .inl (by decide +kernel) | exact .inr (by decide +kernel)) (by rw [isSubtype_type];kernel_rfl)
theorem q546:entryFor table "reversed.__length_hint__" = some Builtin.«reversed.__length_hint__»:=entryFor_of_tree (by kernel_rfl)
theorem no_len:typeLookup (.type "reversed") "__len__" = pure none:=by rw [typeLookup_type,builtinLookup_eq_fast];kernel_rfl
theorem q630 (a:Value):argsOk "reversed.__length_hint__" ⟨[a],[]⟩:=by
 unfold argsOk;rw [signature?_of (id := "reversed.__length_hint__") (n:=['_','_','t','n','i','h','_','h','t','g','n','e','l','_','_']) (o:=['d','e','s','r','e','v','e','r']) (by kernel_rfl) q321];kernel_rfl
theorem q631 {I l:Addr} {items:Array Value} {Q:VS} (hit:IsRv s.heap I l ((items.size:Int) - 1)) (hl:s.heap.IsTuple l items) (hz:items.size<=1000) (h:∀ tk t,Q (.int (items.size:Int) t) { s with toks:=tk }) :
  wpAny (model prog w) A (call (.builtin "reversed.__length_hint__") [.ref I]) Q E s:=by
 obtain ⟨o,ho,hc,hd⟩:=id hit
 refine wpAny_call_entry q243 hit.typeIs q546 ?_ (q630 _)
 unfold Builtin.«reversed.__length_hint__»
 refine wpAny_bind (wpAny_of_eq (a:=Value.ref I) rfl ?_)
 refine wpAny_bind (wpAny_field ho hd (x:=.ref l) rfl ?_)
 rw [if_neg (show ¬ ((Value.ref l == Value.none)=true) from fnt)]
 refine wpAny_bind (PyProof.Rows.len_tuple hl (by omega) ?_)
 refine wpAny_bind (m:=asInt? _) (wpAny_pure ?_)
 try dsimp only
 refine wpAny_bind (wpAny_field (s:={ s with toks:=_ }) ho hd (x:=rawInt ((items.size:Int) - 1)) rfl ?_)
 show wpAny _ _ (if (items.size:Int) < (items.size:Int) - 1+1 then _ else retInt ((items.size:Int) - 1+1)) _ _ _
 rw [if_neg (by omega),show (items.size:Int) - 1+1=(items.size:Int) by omega]
 exact wpAny_bind (wpAny_mkInt (wpAny_pure ⟨_,rfl,h _ _⟩))
theorem q547 {I l:Addr} {items:Array Value} {Q:List Value->Shared->Prop} (hh:A.handled=none) (hit:IsRv s.heap I l ((items.size:Int) - 1)) (hl:s.heap.IsTuple l items) (hne:l ≠ I) (hz:items.size<=1000)
  (h:∀ (h':Heap) (tk:Nat),(∀ b o,b ≠ I->s.heap.get? b=some o->h'.get? b=some o)->s.heap.objs.size<=h'.objs.size->Q items.toList.reverse { s with heap:=h',toks:=tk }):wpAny (model prog w) A (collect (.ref I)) Q E s:=by
 obtain ⟨oI,hoI,hcI,hdI⟩:=id hit
 obtain ⟨ol,hol,rl⟩:=id hl
 unfold collect
 refine wpAny_bind (wpAny_runValue (codeAny_builtin PySem.F.entry_proto_collect ?_))
 rw [Around.under_plainId PySem.F.plain_proto_collect _]
 show wpAny _ A.in1 (newList [] >>= fun l=>again (.builtin "list.__iadd__" ⟨[l,.ref I],[]⟩)) _ _ s
 refine wpAny_bind (wpAny_newObj_type (wpAny_pure ⟨plainId_quiet PySem.F.plain_list_iadd _,codeAny_builtin PySem.F.entry_list_iadd ?_⟩))
 rw [Around.under_plainId PySem.F.plain_list_iadd _]
 generalize e0:s.heap.push { cls:=.type "list", data:=.seq ([]:List Value).toArray }=h0
 have g0:h0.get? s.heap.objs.size=some { cls:=.type "list", data:=.seq ([]:List Value).toArray }:=by rw [<- e0];exact Heap.get?_push_size _ rfl
 have k0:∀ b o,s.heap.get? b=some o->h0.get? b=some o:=fun b o z=>by rw [<- e0];exact Heap.get?_push_of_some _ z
 have hit0:IsRv h0 I l ((items.size:Int) - 1):=⟨oI,k0 _ _ hoI,hcI,hdI⟩
 have hl0:h0.IsTuple l items:=⟨ol,k0 _ _ hol,rl⟩
 have hIl:I < s.heap.objs.size:=Heap.lt_size hoI
 have hll:l < s.heap.objs.size:=Heap.lt_size hol
 have h1:Builtin.List.listSameRef (.ref s.heap.objs.size) (.ref I)=false:=by simp [Builtin.List.listSameRef,Nat.ne_of_gt hIl]
 have hT:Shared.TypeIs { s with heap:=h0 } (.ref I) "reversed" := ⟨oI,k0 _ _ hoI,hcI⟩
 show wpAny _ A.in1 (Builtin.List.listExtendWith (.ref s.heap.objs.size) (.ref I) (.ref s.heap.objs.size)) _ _ _
 unfold Builtin.List.listExtendWith
 refine wpAny_bind (wpAny_typeOf hT ?_)
 rw [if_neg (by rw [h1];decide)]
 refine wpAny_bind (q629 (s:={ s with heap:=h0 }) hit0 ?_)
 have W:=walk_rv (prog:=prog) (w:=w) (A:=A.in1) (show A.in1.handled=none from hh) I l hne items hz
 have hn:items.size<=sizeLine:=by rw [sizeLine_eq];omega
 have hSf:s.heap.objs.size ∉ [I,l]:=fun z=>by
  rcases List.mem_cons.mp z with q | q
  ·exact absurd q (Nat.ne_of_gt hIl)
  ·exact absurd (List.mem_singleton.mp q) (Nat.ne_of_gt hll)
 have hend:∀ (h2:Heap) (c2 tk2:Nat),(∀ b o,b ≠ s.heap.objs.size->h0.get? b=some o->h2.get? b=some o)->h2.get? s.heap.objs.size=some { cls:=.type "list", data:=.seq #[] c2 }->codeAny (model prog w) A (.builtin "list.extend.loop" ⟨[.ref s.heap.objs.size,.ref I,.ref s.heap.objs.size],[]⟩) (fun r s'=>match r with
   | .ok (.ret (.ref a))=>a=s.heap.objs.size /\ ∃ acc c,s'.heap.get? s.heap.objs.size=some { cls:=.type "list", dict:=none,data:=.seq acc c,slots:=#[] }/\Q acc.toList s'
   | _=>False) { s with heap:=h2,toks:=tk2 }:=by
  intro h2 c2 tk2 k2 g2
  have st:IsRv h2 I l ((items.size:Int) - 1 - (0:Nat))/\h2.IsTuple l items:=by
   rw [show (items.size:Int) - 1 - (0:Nat)=(items.size:Int) - 1 by omega]
   exact ⟨⟨oI,k2 _ _ (Nat.ne_of_lt hIl) (k0 _ _ hoI),hcI,hdI⟩,⟨ol,k2 _ _ (Nat.ne_of_lt hll) (k0 _ _ hol),rl⟩⟩
  refine codeAny_extend_loopS W.toS hn _ hSf _ items.size 0 _ #[] _ rfl (Nat.zero_le _) st g2 (ItemsOf.nil _) fun s' acc c hm hS' hacc=>?_
  refine ⟨rfl,acc,c,hS',?_⟩
  have ea:acc.toList=items.toList.reverse:=by
   apply List.ext_getElem?
   intro j
   rcases Nat.lt_or_ge j acc.size with z | z
   ·rw [hacc.2 j _ (Array.getElem?_eq_getElem z),Array.getElem?_toList,Array.getElem?_eq_getElem z]
   ·rw [List.getElem?_eq_none (by simpa using z),List.getElem?_eq_none (by rw [List.length_reverse,Array.length_toList,<- hacc.1];exact z)]
  obtain ⟨h',g',d',tk',os'⟩:=s'
  have eg:g'=s.gens:=hm.gens
  have ed:d'=s.drawn:=hm.drawn
  have eo:os'=s.os:=hm.os
  subst eg;subst ed;subst eo
  rw [ea]
  refine h h' tk' (fun b u hb z=>hm.heap b u (fun q=>?_) (k2 b u (Nat.ne_of_lt (Heap.lt_size z)) (k0 b u z))) (Nat.le_of_lt (Heap.lt_size hS'))
  rcases List.mem_cons.mp q with q | q
  ·exact absurd q (Nat.ne_of_lt (Heap.lt_size z))
  ·exact hb (List.mem_singleton.mp q)
 refine wpAny_bind (wpAny_holding ?_)
 unfold Builtin.List.listLengthHint
 refine wpAny_bind (wpAny_specialOf hT no_len ?_)
 show wpAny _ A.in1 (specialOf (Value.ref I) (Str.ofString "__length_hint__") >>= _) _ _ _
 refine wpAny_bind (wpAny_specialOf hT q243.lookup ?_)
 generalize hid:("reversed.__length_hint__" : String)=id0
 wp_delta
 rw [show splitId id0=some ("reversed", "__length_hint__") from by subst hid;decide +kernel]
 subst hid
 refine wpAny_bind (wpAny_isInstance (T := "reversed") (b:=true) hT (by rw [isSubtype_type];kernel_rfl) ?_)
 refine wpAny_ite_split (fun z=>absurd z (by decide)) (fun _=>?_)
 refine wpAny_ite_split (fun z=>absurd z (by decide +kernel)) (fun _=>?_)
 refine wpAny_bind (wpAny_rule ?_)
 refine wpAny_bind (wpAny_of_eq (q243.bind (.ref I)) ?_)
 refine wpAny_bind (wpAny_attempt (q631 (s:={ s with heap:=h0 }) hit0 hl0 hz fun tk t=>?_))
 generalize hn':(items.size:Int)=n
 show wpAny _ _ (asInt? (.int n t) >>= _) _ _ _
 refine wpAny_bind (wpAny_of_eq (a:=some n) rfl ?_)
 show wpAny _ _ (if (!Builtin.List.listFitsIndex n)=true then _ else if n < 0 then _ else if Builtin.List.listTooLong n.toNat=true then _ else pure (n != 0)) _ _ _
 rw [if_neg (by rw [fitsIndex_both (by omega) (by omega)];decide),if_neg (by omega),if_neg (by simp [Builtin.List.listTooLong,sizeLine_eq];omega)]
 refine wpAny_pure ?_
 have fin:∀ (r:Result) (s':Shared),(match r with
   | .ok (.ret (.ref a))=>a=s.heap.objs.size /\ ∃ acc c,s'.heap.get? s.heap.objs.size=some { cls:=.type "list", dict:=none,data:=.seq acc c,slots:=#[] }/\Q acc.toList s'
   | _=>False)->wants (fun v s'=>wpAny (model prog w) A (match v with | .ref a=>(do match (<- load a).data with | .seq xs _=>pure xs.toList | _=>unsupported "internal:collect") | _=>unsupported "internal:collect") Q E s') E r s':=fun r s' hr=>by
  match r,hr with
  | .ok (.ret (.ref a)),hr=>
   obtain ⟨rfl,acc,c,e1,e2⟩:=hr
   exact wpAny_bind (wpAny_load e1 (wpAny_pure e2))
 refine wpAny_ite_split (fun _=>?_) (fun _=>wpAny_pure ⟨plainId_quiet PySem.F.plain_extend_loop _,codeAny_mono (hend h0 0 tk (fun b o _ z=>z) g0) fin⟩)
 refine wpAny_bind (wpAny_rule (wpAny_bind ?_))
 show wpAny _ _ (updateSeq s.heap.objs.size (·.push .none) >>= fun _=>updateSeq s.heap.objs.size (·.pop)) _ _ _
 refine wpAny_bind (wpAny_updateSeq g0 rfl ?_)
 have g2:=Heap.get?_update_self (Obj.mapSeq (·.push Value.none)) g0 rfl
 refine wpAny_updateSeq (hz:=by seq_fits) g2 rfl ?_
 have g3:=Heap.get?_update_self (Obj.mapSeq (·.pop)) g2 rfl
 exact wpAny_pure ⟨plainId_quiet PySem.F.plain_extend_loop _,codeAny_mono (hend _ _ tk (fun b o hb z=>(Heap.get?_update_other _ _ (Ne.symm hb)).trans ((Heap.get?_update_other _ _ (Ne.symm hb)).trans z)) g3) fin⟩
theorem q632:Slot "reversed" "__init__" "object.__init__" :=
 .of (owner := "object") (n := "__init__") (by rw [typeLookup_type,builtinLookup_eq_fast];kernel_rfl) (by decide +kernel) (by decide +kernel) (by decide +kernel)
  (by first | exact .inl (by decide +kernel) | exact .inr (by decide +kernel)) (by rw [isSubtype_type];kernel_rfl)
theorem q244:TypeCalled "reversed" "reversed.__new__" "object.__init__" := ⟨by decide +kernel,by decide +kernel,⟨_,_,F.mro_reversed⟩,F.made_reversed,by decide +kernel,F.sub_reversed_self,q632⟩
theorem call_rv {l:Addr} {items:Array Value} {Q:VS} (hl:s.heap.IsTuple l items) (hz:items.size<=1000)
  (h:∀ tk,Q (.ref s.heap.objs.size) { s with heap:=s.heap.push (rvObj l ((items.size:Int) - 1)),toks:=tk }):wpAny (model prog w) A (call (.type "reversed") [.ref l]) Q E s:=by
 refine callType_codes (Q₁:=fun obj s₁=>s₁.TypeIs obj "reversed" /\ Q obj s₁) q244 (F.typeCall_reversed_1 _) F.entry_object_init (code_new hl hz fun tk=>⟨⟨_,Heap.get?_push_size _ rfl,rfl⟩,h tk⟩) fun obj s₁ h₁=>?_
 exact ⟨h₁.1,F.args_object_init_2 obj _,object_init_meets q244.init.lookup q244.made (by decide) prog w A.in1 _ s₁ ⟨h₁.1,rfl,h₁.2⟩⟩
theorem q686 {I l:Addr} {items:Array Value} {Q:VS} (hh:A.handled=none) (hit:IsRv s.heap I l ((items.size:Int) - 1)) (hl:s.heap.IsTuple l items) (hne:l ≠ I) (hz:items.size<=1000)
  (h:∀ (h':Heap) (tk:Nat),(∀ b o,b ≠ I->s.heap.get? b=some o->h'.get? b=some o)->s.heap.objs.size<=h'.objs.size->Q (.ref h'.objs.size) { s with heap:=h'.push { cls:=.type "tuple", data:=.seq items.toList.reverse.toArray },toks:=tk }):wpAny (model prog w) A (call (.type "tuple") [.ref I]) Q E s:=by
 refine callType_codes (Q₁:=fun obj s₁=>s₁.TypeIs obj "tuple" /\ Q obj s₁) F.called_tuple (F.typeCall_tuple_1 _) F.entry_object_init ?_ fun obj s₁ h₁=>
  ⟨h₁.1,F.args_object_init_2 obj _,object_init_meets F.called_tuple.init.lookup F.called_tuple.made (by decide) prog w A.in1 _ s₁ ⟨h₁.1,rfl,h₁.2⟩⟩
 refine codeAny_of_tree ?_;show wpAny _ A.in1.in1 (do checkBuiltinCall "tuple.__new__" ⟨[.type "tuple", .ref I],[]⟩;again (.builtin "tuple.__new__" ⟨[.type "tuple", .ref I],[]⟩)) _ _ s
 refine wpAny_bind (wpAny_of_eq (F.newCall_tuple_1 _) (wpAny_pure ⟨plainId_quiet F.plain_tuple_new _,codeAny_builtin F.entry_tuple_new ?_⟩))
 rw [Around.under_plainId F.plain_tuple_new _]
 have c1:=sub_tuple_self
 have c2:=init_tuple_lookup
 have c3:=madeHere_tuple
 have hTI:=hit.typeIs (s:=s)
 wp_walk using wpAny_typeOf hTI,q547 (A:=A.in1.in1) (show A.in1.in1.handled=none from hh) hit hl hne hz
 intro h' tk k1 k2
 show wpAny _ _ (Builtin.Tuple.tupleExact items.toList.reverse.toArray >>= fun v=>ret v) _ _ _
 unfold Builtin.Tuple.tupleExact
 exact wpAny_bind (wpAny_newObj_type (wpAny_pure ⟨⟨_,Heap.get?_push_size _ rfl,rfl⟩,h h' tk k1 k2⟩) (by show items.toList.reverse.toArray.size<=sizeLine;simp;rw [sizeLine_eq];omega))
end
end RV
namespace L2
open PySem PySem.Spec PyProof.Rows
variable {X:Cx}
theorem q442:bootBuiltins "reversed" = some (.type "reversed"):=by decide +kernel
theorem q633:bootBuiltins "tuple" = some (.type "tuple"):=by decide +kernel
def tTR (K:Fg) (ta:TA):TE:=fun σ H Q=>ta σ H fun vs H1=>∃ (a:Addr) (xs:List V),vs=[.ref a]/\SqT K H1 a xs/\xs.length<=1000 /\ ∀ l H',Same H1 H'->TupF H' l xs.reverse->Q (.ref l) H'
theorem vals_rev {xs:List V} {us:List Value} (h:Vals xs us):Vals xs.reverse us.reverse:=by
 induction h with
 | nil=>exact .nil
 | cons r rr ih=>
  rw [List.reverse_cons,List.reverse_cons]
  exact Vals.append ih (.cons r .nil)
theorem q634 {a:Expr} {ta:TA} {p p' pos pos':Pos} {K:Fg} (hc:X.calm=true) (hK:X.K=K) (hgl:Gl X "tuple") (hml:X.mg "tuple" = none) (hgr:Gl X "reversed") (hmr:X.mg "reversed" = none) (ha:PA X [a] ta)
  (hs:starEach [a] X.env=[(false,eval a X.env)]:=by rfl) (he:starEach [.Call (.Name "reversed" p') [a] [] pos'] X.env=[(false,eval (.Call (.Name "reversed" p') [a] [] pos') X.env)]:=by rfl) :
  PE X (.Call (.Name "tuple" p) [.Call (.Name "reversed" p') [a] [] pos'] [] pos) (tTR K ta):=by
 subst hK
 intro pins s σ H Q I h
 refine wpAny_Call_Name_kw (q156 I hgl hml q633 ?_ (by decide) (by decide))
 refine PyProof.Rows.callWith_type1 ?_ he rfl
 rw [he]
 refine Calls.spliced_cons ?_
 refine Call_ (q156 I hgr hmr q442 (PyProof.Rows.callWith_type1 (thn (ha pos' pins s σ H _ I h) fun us s1 ⟨vs,H1,I1,r1,q1⟩=>?_) hs rfl))
 obtain ⟨l,xs,e,hq,hz,q⟩:=q1
 subst e
 cases r1 with
 | cons r rr=>
  cases rr
  cases r
  obtain ⟨its,rv,ht,hzz⟩:=I1.tuple hq
  have hl:its.length=xs.length:=rv.length.symm
  have hl2:its.toArray.size<=1000:=by rw [List.size_toArray,hl];exact hz
  have hlt:l < s1.heap.objs.size:=by
   obtain ⟨o,ho,_⟩:=id ht
   exact Heap.lt_size ho
  refine RV.call_rv ht hl2 fun tk=>(Calls.spliced_nil ?_)
  have g0:(s1.heap.push (RV.rvObj l ((its.toArray.size:Int) - 1))).get? s1.heap.objs.size=some (RV.rvObj l ((its.toArray.size:Int) - 1)):=Heap.get?_push_size _ rfl
  have n0:(s1.heap.push (RV.rvObj l ((its.toArray.size:Int) - 1))).objs.size=s1.heap.objs.size+1:=Heap.size_push ..
  have k0:∀ b o,s1.heap.get? b=some o->(s1.heap.push (RV.rvObj l ((its.toArray.size:Int) - 1))).get? b=some o:=fun b o z=>Heap.get?_push_of_some _ z
  generalize s1.heap.push (RV.rvObj l ((its.toArray.size:Int) - 1))=h0 at *
  have ht0:h0.IsTuple l its.toArray:=by
   obtain ⟨o,ho,z⟩:=id ht
   exact ⟨o,k0 _ _ ho,z⟩
  refine RV.q686 (s:={ s1 with heap:=h0,toks:=tk }) (I1.ok.hd hc) ⟨_,g0,rfl,rfl⟩ ht0 (Nat.ne_of_lt hlt) hl2 fun h' tk' kp hsz=>?_
  have kk:∀ b o,s1.heap.get? b=some o->h'.get? b=some o:=fun b o z=>kp b o (Nat.ne_of_lt (Heap.lt_size z)) (k0 b o z)
  have hle:s1.heap.objs.size<=h'.objs.size:=by
   have:h0.objs.size<=h'.objs.size:=hsz
   omega
  have I2:Inv X pins σ (upd H1 h'.objs.size (.frz { cls:=.type "tuple", data:=.seq its.reverse.toArray } (.tup xs.reverse))) { s1 with heap:=h'.push { cls:=.type "tuple", data:=.seq its.reverse.toArray },toks:=tk' }:=
   I1.laid (t':=tk') (fun b o e=>Heap.get?_push_of_some _ (kk b o e)) hle (show ObjOk X.prog X.w _ _ _ (.frz _ (.tup xs.reverse)) from ⟨Heap.get?_push_size _ rfl,by rw [List.length_reverse];exact hzz,its.reverse,vals_rev rv,IsTup.new _ _⟩)
  exact ⟨.ref h'.objs.size,_,I2,rfl,q _ _ (q16 (I1.hok.fresh hle) _) ⟨_,q14,rfl,rfl⟩⟩
def gLst (K:Fg) (n:Nat) (t:TGs):TG:=fun v σ H Q=>∃ a xs,v = .ref a/\SqL K H a xs/\xs.length=n/\t xs σ H Q
theorem pg_lstT {k:Nat} {n:Nat} {pos:Pos} (hc:X.calm=true) (h:PGs X es t)
  (hn:(assignEach es X.env).length=n:=by rfl) (hst:(assignEach es X.env).findIdx? (·.1)=none:=by rfl):PG X (.Tuple es k pos) (gLst X.K n t):=by
 intro pins s σ H v u Q I r hw
 obtain ⟨a,xs,e1,hq,hl,hw⟩:=hw
 subst e1
 cases r
 obtain ⟨its,rv,pl,hz⟩:=I.list hq
 have hsz:(assignEach es X.env).length=its.toArray.size:=by rw [hn,<- hl,rv.length,List.size_toArray]
 rw [assign_Tuple]
 refine wpAny_bind (wpAny_standAt ?_)
 unfold unpack
 rw [hsz,hst]
 refine wpAny_bind (wpAny_holding (PySem.W.kun_itemsOf (I.ok.hd hc) pl.isList fun h' hx=>?_))
 have I1:Inv X pins σ H { s with heap:=h' }:=I.kept (t':=s.toks) fun b o e=>hx b o (Nat.ne_of_lt (Heap.lt_size e)) e
 exact h pins _ σ H xs _ Q I1 (by simpa using rv) hw
section
variable {st:Stmt} {t:TS}
def tJoin (t:TS):TS:=fun D σ H=>∃ R:St->Hp->Prop,t { D with nx:=R } σ H /\ ∀ σ' H',R σ' H'->D.nx σ' H'
theorem q322 (h:PS X st t):PS X st (tJoin t):=by
 intro pins s σ H D I ⟨R,h1,h2⟩
 refine thn (h pins s σ H { D with nx:=R } I h1) fun f s1 q=>?_
 cases f with
 | next=>
  obtain ⟨σ',H',I',q⟩:=q
  exact ⟨σ',H',I',h2 _ _ q⟩
 | ret v=>exact q
 | brk=>exact q
 | cont=>exact q
end
theorem q24 {σ:St} {H:Hp} (h:∀ N:St->Hp->Prop,(∀ σ' H',u D σ' H'->N σ' H')->t { D with nx:=N } σ H):tSeq t u D σ H:=h _ fun _ _ x=>x
def Itr3 (lo c:Int) (n:Nat):It:=⟨fun i _=>i < n,fun i H x H'=>H'=H/\x = .int (lo+i * c),fun i _=>n<=i⟩
theorem q443 {P:Program} {w:World} {K:Fg} {tg:Expr} (it:Addr) (lo c:Int) (n:Nat):Turn P w K tg (Itr3 lo c n) [it] it (fun i h=>IsRangeIter h it (lo+(i:Nat) * c) ((n:Int) - (i:Nat)) c) where
 mem:=by simp
 obj:=fun i h st b hb=>by
  have e:b=it:=by simpa using hb
  subst e
  exact ⟨_,st,fun v z=>by
   have z':Data.fields _=Data.cell v:=z
   cases z'⟩
 keep:=fun i h h' st k=>k it (by simp) _ st
 item:=by
  intro X hP hw hK hc i pins s σ H E I hf st hg
  subst hP hw hK
  obtain ⟨f0,f1,f2,f3,f4,f5⟩:=hf it (by simp)
  have W:=Walks.range (prog:=X.prog) (w:=X.w) (I.ok.hd hc) it lo c n
  refine W.item i s _ _ hg st fun v h' tk hv st' kk=>?_
  obtain ⟨t,rfl⟩:=hv
  have I1:Inv X pins σ H { s with heap:=h',toks:=tk }:=I.turned (fun b o hb e=>kk b o (by simpa using hb) e) f0 f1 f3 f4 f5
  exact ⟨_,rfl,go_of (s:={ s with heap:=h',toks:=tk }) (n := "range_iterator") st' rfl rfl (by decide) ⟨.int (lo+i * c),H,I1,⟨t,rfl⟩,⟨rfl,rfl⟩,st',fun b hb=>(hf b hb).1⟩⟩
 done:=by
  intro X hP hw hK hc i pins s σ H E I hf st hg
  subst hP hw hK
  obtain ⟨f0,f1,f2,f3,f4,f5⟩:=hf it (by simp)
  exact wpAny_pyNext_range_end (I.ok.hd hc) st (by have:n<=i:=hg;omega) fun h' eb=>⟨rfl,I.turned (t':=s.toks) (fun b o hb e=>eb b o hb e) f0 f1 f3 f4 f5⟩
 self:=fun _ _ _ _ _ st h=>wpAny_pyIter_rangeiter st h
section
variable {tg:Expr}
noncomputable def rngN (i j c:Int):Nat:=(Builtin.Range.rangeSize i j c).toNat
theorem q635 {i j c:Int} (hc:0 < c):0<=Builtin.Range.rangeSize i j c:=by
 unfold Builtin.Range.rangeSize
 rw [if_pos hc]
 split
 ·have:=Int.ediv_nonneg (a:=j - i - 1) (b:=c) (by omega) (by omega)
  omega
 ·omega
theorem rngN_le {i j c:Int} (hc:0 < c):Builtin.Range.rangeSize i j c<=0\/Builtin.Range.rangeSize i j c<=j - i:=by
 unfold Builtin.Range.rangeSize
 rw [if_pos hc]
 split
 ·have:=Int.ediv_le_self (a:=j - i - 1) c (by omega)
  omega
 ·omega
theorem rngN_lt {i j c:Int} (hc:0 < c) {k:Nat} (h:k < rngN i j c):i+k * c < j:=by
 have z:=q635 (i:=i) (j:=j) hc
 unfold rngN at h
 unfold Builtin.Range.rangeSize at h z
 rw [if_pos hc] at h z
 by_cases d:i < j
 ·rw [if_pos d] at h z
  have h':(k:Int)<=(j - i - 1) / c:=by omega
  have:=Int.mul_le_of_le_ediv hc h'
  omega
 ·rw [if_neg d] at h
  exact absurd h (Nat.not_lt_zero _)
def iRng3 (ta:TA):TI:=fun σ H R=>ta σ H fun vs H1=>∃ i j c:Int,vs=[.int i,.int j,.int c]/\(0<=i/\i < 10 ^ 6/\0<=j/\j < 10 ^ 6/\0 < c/\c < 10 ^ 6)/\R (Itr3 i c (rngN i j c)) H1
theorem q636 {p pos:Pos} (hg:Gl X "range") (hm:X.mg "range" = none) (ha:PA X [a,b,c] ta) (hs:starEach [a,b,c] X.env=[(false,eval a X.env),(false,eval b X.env),(false,eval c X.env)]:=by rfl) (hs2:starEach [b,c] X.env=[(false,eval b X.env),(false,eval c X.env)]:=by rfl) :
  PI X tg (.Call (.Name "range" p) [a,b,c] [] pos) (iRng3 ta):=by
 intro pins s σ H R I h
 refine Call_ (q156 I hg hm boot_range (PyProof.Rows.callWith_type1 (thn (ha pos pins s σ H _ I h) fun us s1 ⟨vs,H1,I1,r1,q1⟩=>?_) (by rw [hs,hs2]) (by rw [hs2];rfl)))
 obtain ⟨i,j,c,e,⟨q1,q2,q3,q4,q5,q6⟩,q⟩:=q1
 subst e
 cases r1 with
 | cons r rr=>
  cases rr with
  | cons r' rr=>
   cases rr with
   | cons r'' rr=>
    cases rr
    obtain ⟨t,rfl⟩:=r
    obtain ⟨t',rfl⟩:=r'
    obtain ⟨t'',rfl⟩:=r''
    refine call_range_3 (by omega) ?_ (Or.inl (PyProof.noPylong_small (by omega)))
    have hsz:=q635 (i:=i) (j:=j) q5
    refine wpAny_pyIter_range (IsRange.new ..) ?_ ?_
    ·have hle:=rngN_le (i:=i) (j:=j) q5
     unfold Builtin.Range.small
     generalize Builtin.Range.rangeSize i j c=z at *
     simp only [Builtin.Range.rangeFitsLong,Bool.and_eq_true,Bool.or_eq_true,decide_eq_true_eq,beq_iff_eq,show c > 0 from q5,if_true]
     first | omega | (split <;> omega)
    have J1:Inv X pins σ H1 { s1 with heap:=s1.heap.push { cls:=.type "range", data:=.fields #[.int i t,.int j t',.int c t''] },toks:=s1.toks }:=I1.kept fun b o e=>Heap.get?_push_of_some _ e
    refine ⟨(s1.heap.push { cls:=.type "range", data:=.fields #[.int i t,.int j t',.int c t''] }).objs.size,[(s1.heap.push { cls:=.type "range", data:=.fields #[.int i t,.int j t',.int c t''] }).objs.size],_,_,H1,rfl,
     J1.kept (t':=s1.toks) fun b o e=>Heap.get?_push_of_some _ e,q443 _ i c (rngN i j c),?_,fun b hb=>?_,q⟩
    ·have e1:i+((0:Nat):Int) * c=i:=by simp
     have e2:((rngN i j c:Nat):Int) - ((0:Nat):Int)=Builtin.Range.rangeSize i j c:=by unfold rngN;omega
     show IsRangeIter _ _ (i+((0:Nat):Int) * c) (((rngN i j c:Nat):Int) - ((0:Nat):Int)) c
     rw [e1,e2]
     exact Heap.get?_push_size _ rfl
    ·have e:b=(s1.heap.push { cls:=.type "range", data:=.fields #[.int i t,.int j t',.int c t''] }).objs.size:=by simpa using hb
     subst e
     exact J1.fpOk (Nat.le_refl _) (J1.hok.fresh (Nat.le_refl _))
theorem q548 {lo c:Int} {n:Nat} {g:TG} {tb:TS} {D:Ends} {σ:St} {H:Hp} (Pv:Nat->St->Hp->Prop) (h0:Pv 0 σ H)
  (hs:∀ i σ H,i < n->Pv i σ H->g (.int (lo+i * c)) σ H fun σ2 H2=>tb { D with nx:=Pv (i+1),ct:=Pv (i+1),bk:=D.nx } σ2 H2) (hd:∀ σ H,Pv n σ H->D.nx σ H) :
  ∃ W:Nat->Nat->St->Hp->Prop,(∃ m,W 0 m σ H) /\ ∀ i m σ H,W i m σ H ->
   ((Itr3 lo c n).stop i H/\D.nx σ H)\/((Itr3 lo c n).go i H /\ ∃ N:St->Hp->Prop,(∀ σ' H',N σ' H' -> ∃ m',m' < m/\W (i+1) m' σ' H') /\ ∀ x H',(Itr3 lo c n).yld i H x H'->g x σ H' fun σ2 H2=>tb { D with nx:=N,ct:=N,bk:=D.nx } σ2 H2):=by
 refine ⟨fun i m σ H=>m=n - i/\i<=n/\Pv i σ H,⟨n,by simp,Nat.zero_le _,h0⟩,?_⟩
 rintro i m σ H ⟨rfl,hi,p⟩
 by_cases hlt:i < n
 ·refine .inr ⟨hlt,Pv (i+1),fun σ' H' p'=>⟨n - (i+1),by omega,rfl,hlt,p'⟩,fun x H' y=>?_⟩
  obtain ⟨e,y⟩:=y
  subst e y
  exact hs i σ _ hlt p
 ·have e:i=n:=by omega
  subst e
  exact .inl ⟨Nat.le_refl _,hd σ H p⟩
end
theorem op_neOpt (hu:X.A.units+64 < cLine):OpR X (compareOp .NotEq) (fun x y H Q=>(x = .non/\y = .non/\Q (.bl false) H) \/ ∃ (n:Nat) (a b:Addr),x = .ref a/\y = .ref b/\Alk X.K H n (.ref a) (.ref b)/\n<=60/\Q (.bl false) H):=by
 intro pins s σ H x y v u Q I rx ry h
 rcases h with ⟨rfl,rfl,q⟩ | h
 ·exact op_ne pins s σ H _ _ v u Q I rx ry ⟨rfl,q⟩
 ·exact q319 hu pins s σ H _ _ v u Q I rx ry h
structure DefA (K:Fg) (mg:Mg) (al x:Str) (st:Stmt) (ps:List Str):Prop where
 ex:∃ (f:Addr) (fd:FuncData),Fun K x x st f fd/\(∀ us:List Value,us.length=ps.length->bindArgs fd ⟨us,[]⟩=pure (ps.zip us))/\mg al=some (.ref f)
theorem q693 {K:Fg} {h:Heap} {mg:Mg} {al x:Str} {st:Stmt} {ps:List Str} {f:Addr} {oc:Value} {od an:Option Addr} {osl:Array (Option Value)} {kV doc pm cdv ct:Value}
  (KX:K.In h) (G:h.Ns mainGlobals mg) (a:PySem.W.nsIn K mainGlobals al=some (some (.ref f)))
  (l:K.lookup f=some ⟨oc,od,.func (PySem.W.fnOf x x (q149 st) (q107 st) (q17 st) .none kV doc pm an cdv ct),osl⟩)
  (c:PySem.W.codeIn K cdv x=true) (k:PySem.W.keepIn K (.ref f)=true)
  (b:∀ (kV doc pm:Value) (an:Option Addr) (cdv ct:Value) (us:List Value),us.length=ps.length->bindArgs (PySem.W.fnOf x x (q149 st) (q107 st) (q17 st) .none kV doc pm an cdv ct) ⟨us,[]⟩=pure (ps.zip us)) :
  DefA K mg al x st ps:=⟨f,_,q687 l c k,b kV doc pm an cdv ct,PySem.W.mg_of KX G a⟩
structure MDef (K:Fg) (C:Addr) (m qual:Str) (st:Stmt) (ps:List Str):Prop where
 ex:∃ (f:Addr) (fd:FuncData),Meth K C m f/\Fun K m qual st f fd /\ ∀ us:List Value,us.length=ps.length->bindArgs fd ⟨us,[]⟩=pure (ps.zip us)
structure MCal (P:Program) (w:World) (K:Fg) (mg:Mg) (base:Heap) (k:Nat) (C:Addr) (m:Str) (ps:List Str) (sp:Sp):Prop where
 cl:Cls K C
 ex:∃ (f:Addr) (fd:FuncData),Meth K C m f/\FnOk P w K mg base CX0 k f fd ps sp/\Binds K fd ps []
structure IDef (K:Fg) (C:Addr) (qual:Str) (st:Stmt) (ps:List Str):Prop where
 ex:∃ (f:Addr) (fd:FuncData),Mk K C f/\Fun K "__init__" qual st f fd /\ ∀ us:List Value,us.length=ps.length->bindArgs fd ⟨us,[]⟩=pure (ps.zip us)
structure ICal (P:Program) (w:World) (K:Fg) (mg:Mg) (base:Heap) (k:Nat) (C:Addr) (ps:List Str) (sp:Sp):Prop where
 ex:∃ (f:Addr) (fd:FuncData),Mk K C f/\FnOk P w K mg base CX0 k f fd ps sp/\Binds K fd ps []
section
variable {P:Program} {w:World} {K:Fg} {mg:Mg} {base:Heap} {k:Nat} {C:Addr} {al x m qual:Str} {st:Stmt} {ps:List Str} {sp:Sp}
theorem DefA.cal (d:DefA K mg al x st ps) (F:∀ (f:Addr) (fd:FuncData),Fun K x x st f fd->FnOk P w K mg base CX0 k f fd ps sp):Cal P w K mg base k al ps sp:=by
 obtain ⟨f,fd,h1,h2,h3⟩:=d.ex
 exact ⟨f,fd,F f fd h1,.all h2,h1.kp,h3⟩
theorem DefA.recur {sp:Nat->Sp} (d:DefA K mg al x st ps) {k:Nat} (n:Nat)
  (step:∀ e,e<=n->Cal P w K mg base (e+k) al ps (prevSp sp e) -> ∀ (f:Addr) (fd:FuncData),Fun K x x st f fd->FnOk P w K mg base CX0 (e+(k+1)) f fd ps (sp e)) :
  Cal P w K mg base (n+(k+1)) al ps (fun vs H Q E=>∃ e,e<=n/\sp e vs H Q E):=by
 obtain ⟨f,fd,h1,h2,h3⟩:=d.ex
 have all:∀ e,e<=n->FnOk P w K mg base CX0 (e+(k+1)) f fd ps (sp e):=by
  intro e
  induction e with
  | zero=>exact fun he=>step 0 he ⟨f,fd,⟨fun _ _ _ _ h=>h.elim,fun _ _ _ _ _ _ _ _ _ _ _ _ _ h=>h.elim⟩,.all h2,h1.kp,h3⟩ f fd h1
  | succ e ih=>exact fun he=>step (e+1) he ⟨f,fd,(ih (by omega)).mono (by omega),.all h2,h1.kp,h3⟩ f fd h1
 refine ⟨f,fd,⟨?_,?_⟩,.all h2,h1.kp,h3⟩
 ·rintro vs H Q E ⟨e,he,h⟩
  exact (all e he).len vs H Q E h
 ·rintro A outer s H args us vs Q E hr he hb hv ⟨e,hle,h⟩
  exact (all e hle).run A outer s H args us vs Q E (hr.mono (by omega)) he hb hv h
theorem MDef.cal (d:MDef K C m qual st ps) (c:Cls K C) (F:∀ (f:Addr) (fd:FuncData),Fun K m qual st f fd->FnOk P w K mg base CX0 k f fd ps sp):MCal P w K mg base k C m ps sp:=by
 obtain ⟨f,fd,h1,h2,h3⟩:=d.ex
 exact ⟨c,f,fd,h1,F f fd h2,.all h3⟩
theorem IDef.cal (d:IDef K C qual st ps) (F:∀ (f:Addr) (fd:FuncData),Fun K "__init__" qual st f fd->FnOk P w K mg base CX0 k f fd ps sp):ICal P w K mg base k C ps sp:=by
 obtain ⟨f,fd,h1,h2,h3⟩:=d.ex
 exact ⟨f,fd,h1,F f fd h2,.all h3⟩
end
section
variable {k:Nat} {C:Addr} {m x:Str} {ps:List Str} {sp:Sp} {p apos pos:Pos} {o e:Expr} {es:List Expr} {to:TE} {t:TA}
theorem q37 {pl:Sem Bool} (c:MCal X.prog X.w X.K X.mg X.base k C m ps sp) (hr:Room k X.A) (ho:PE X o to) (ha:PA X (e::es) t)
  (hst:starEach (e::es) X.env=(false,eval e X.env)::starEach es X.env:=by rfl) (hpl:(backTo pos (starEach es X.env)).any (·.1)=false:=by rfl)
  (ht:eval (.Call (.Attribute o m apos) (e::es) [] pos) X.env=(do
   let ov <- eval o X.env
   standAt apos.atName
   let (f,first) <- holding [ov] (getMethod ov m pl)
   callWith pos f first (backTo pos (starEach (e::es) X.env)) (backToKw pos (keywordEach [] X.env))):=by rfl) :
  PE X (.Call (.Attribute o m apos) (e::es) [] pos) (tMeth C m sp [] E0 to t):=by
 obtain ⟨f,fd,hm,F,B⟩:=c.ex
 exact pe_meth ho c.cl hm F hr B .nil pass0 ha hst hpl ht
theorem q637 (c:MCal X.prog X.w X.K X.mg X.base k C m ps sp) (hr:Room k X.A) (ho:PE X o to)
  (ht:eval (.Call (.Attribute o m apos) [] [] pos) X.env=(do
   let ov <- eval o X.env
   standAt apos.atName
   let (f,first) <- holding [ov] (getMethod ov m pl)
   callWith pos f first (backTo pos (starEach [] X.env)) (backToKw pos (keywordEach [] X.env))):=by rfl) :
  PE X (.Call (.Attribute o m apos) [] [] pos) (tMeth C m sp [] E0 to tNil):=by
 obtain ⟨f,fd,hm,F,B⟩:=c.ex
 exact pe_meth0 ho c.cl hm F hr B .nil pass0 ht
theorem pe_mk (c:ICal X.prog X.w X.K X.mg X.base k C ps sp) (hr:Room (k+1) X.A) (hg:Gl X x) (hm:X.mg x=some (.ref C)) (ha:PA X (e::es) t) (hdb:(x == ("__debug__" : Str))=false:=by decide)
  (he:starEach (e::es) X.env=(false,eval e X.env)::starEach es X.env:=by rfl) (hpl:(backTo pos (starEach es X.env)).any (·.1)=false:=by rfl) :
  PE X (.Call (.Name x p) (e::es) [] pos) (tMake C sp [] E0 t):=by
 obtain ⟨f,fd,M,F,B⟩:=c.ex
 exact pe_make M F hr hg hm B .nil pass0 ha hdb he hpl
end
theorem Room.m {j k:Nat} (r:Room k A) (h:j<=k:=by decide):Room j A:=r.mono h
theorem fsc {N P:List Str} {sc:Scope} (h1:sc.kind = .function:=by rfl) (h2:sc.isCoroutine=false:=by rfl) (h3:sc.isGenerator=false:=by rfl) (h4:N.Nodup:=by decide +kernel) (h5:N.take P.length=P:=by rfl) (h6:∀ x ∈ P,sc.names.lookup x=some .local\/sc.names.lookup x=some .cell:=by decide +kernel) (h7:∀ y ∈ sc.names,y.2 ≠ .free:=by decide +kernel):FnScope N P sc:=⟨h1,h2,h3,h4,h5,h6,h7⟩
theorem Fun.k {P:Program} {w:World} {K:Fg} {mg:Mg} {base:Heap} {x qual:Str} {st:Stmt} {f:Addr} {fd:FuncData} {N ps:List Str} {k:Nat} {sp:Sp} (F:Fun K x qual st f fd) (S:FnScope N ps (q17 st))
  (hbody:∀ (cdv:Value) (A:Around) (outer:List Env) (s:Shared) (H:Hp) (vs:List V) (Q:VK) (E:XK),Room k (A.deeper (envOfC qual (q17 st) s.heap.objs.size f cdv))->sp vs H Q E ->
   ∃ t,PSs (cxOf CX0 P w K mg base N qual (q17 st) f cdv A outer s H E).nox (q107 st) t/\t { nx:=fun _ H'=>Q .non H',rt:=Q } (start N vs) H)
  (len:∀ vs H Q E,sp vs H Q E->vs.length=ps.length:=by intro _ _ _ _ h;cases h;subst_vars;rfl):FnOk P w K mg base CX0 (k+1) f fd ps sp:=F.ok S len hbody
section
variable {pos:Pos}
theorem pst (i:Nat) {pos':Pos} (hN:X.N.Nodup) (he:PE X e te) (hi:X.N[i]? = some x:=by rfl) (hx:Loc X.env.scope x:=by walk_at "c") (hs:swapsWith e (some (.Name x pos')) pos.line X.env=pure false:=by rfl) (hf:X.fn x=true\/X.env.scope.names.lookup x=some .local:=by walk_at "a") :
  PS X (.Assign [.Name x pos'] e pos) (tAsg te (gName i)):=ps_set hN hi hx he hs hf
theorem pix (hr:IxR X r) (ha:PE X a ta) (hb:PE X b tb) (hs:q600 b:=by exact fun _ _=>rfl):PE X (.Subscript a b pos) (tOp r ta tb):=pe_ix hr ha hb hs
theorem pgn (i:Nat) (hN:X.N.Nodup) (hi:X.N[i]? = some x:=by rfl) (hx:Loc X.env.scope x:=by walk_at "c") (hf:X.fn x=true\/X.env.scope.names.lookup x=some .local:=by walk_at "a"):PG X (.Name x pos) (gName i):=q183 hN hi hx hf
theorem pln {p:Pos} (hm:X.mg "len" = none) (ha:PA X (e::es) t) (hg:Gl X "len" := by rfl) (he:starEach (e::es) X.env=(false,eval e X.env)::starEach es X.env:=by rfl) (hpl:(backTo pos (starEach es X.env)).any (·.1)=false:=by rfl) :
  PE X (.Call (.Name "len" p) (e::es) [] pos) (tCB (fun xs H Q=>∃ p ys,xs=[.ref p]/\(SqL X.K H p ys\/SqT X.K H p ys)/\Q (.int ys.length) H) t):=q67 q201 hg hm bt_len ha (by decide) (by decide) he hpl
end
theorem cok {x:Str} {N:List Str} (h1:∀ p ∈ relN scope sc0,(p.2 = .cell\/p.2 = .free)->p.1 ∈ cn:=by decide +kernel) (h2:∀ p ∈ scope.names,p.2 ≠ .cell:=by decide +kernel) (h3:∀ p ∈ scope.names,p.2 = .local->scope.names.lookup p.1=some .local:=by decide +kernel) (h4:scope.names.lookup x=some .local:=by decide +kernel) (h5:(relN scope sc0).lookup x=some .local:=by decide +kernel) (h6:(x::N).Nodup:=by decide +kernel) (h7:∀ y ∈ N,(relN scope sc0).lookup y=some .cell/\sc0.names.lookup y=some .cell/\y ∈ cn:=by decide +kernel):CompOk scope sc0 x N cn:=⟨h1,h2,h3,h4,h5,h6,h7⟩
theorem mt0 {p:List Value->Prop} {n:Nat} (h:∀ a t,t.length=n->p (a::t)):∀ us,us.length=n+1->p us:=fun us e=>by
 obtain ⟨a,t,rfl⟩:=List.exists_cons_of_length_eq_add_one e
 exact h a t (Nat.succ.inj e)
theorem mt1 {p:List Value->Prop} (h:∀ a,p [a]):∀ us,us.length=1->p us:=mt0 fun a _ e=>List.eq_nil_of_length_eq_zero e ▸ h a
theorem mt2 {p:List Value->Prop} (h:∀ a b,p [a,b]):∀ us,us.length=2->p us:=mt0 fun a=>mt1 (h a)
theorem mt3 {p:List Value->Prop} (h:∀ a b c,p [a,b,c]):∀ us,us.length=3->p us:=mt0 fun a=>mt2 (h a)
theorem mt4 {p:List Value->Prop} (h:∀ a b c d,p [a,b,c,d]):∀ us,us.length=4->p us:=mt0 fun a=>mt3 (h a)
theorem mt5 {p:List Value->Prop} (h:∀ a b c d e,p [a,b,c,d,e]):∀ us,us.length=5->p us:=mt0 fun a=>mt4 (h a)
theorem cxK {P:Program} {w:World} {K:Fg} {mg:Mg} {base:Heap} {N:List Str} {q:Str} {sc:Scope} {f:Addr} {cdv:Value} {A:Around} {o:List Env} {s:Shared} {H:Hp} {E:XK}:(cxOf CX0 P w K mg base N q sc f cdv A o s H E).K=K:=rfl
theorem nwH (h:H q=none) (o:HO):∃ G,upd H q o=G/\Same H G/\G q=some o:=⟨_,rfl,q16 h o,q14⟩
noncomputable def tVr (i:Nat):TE:=fun σ H Q=>match σ[i]? with
 | some (some v)=>Q v H
 | _=>False
noncomputable def mI (g:Int->Int->V):R2:=fun x y H Q=>match x,y with
 | .int i,.int j=>Q (g i j) H
 | _,_=>False
noncomputable def mTest (t:TE):TT:=fun σ H Q=>t σ H fun x H'=>match x with
 | .bl k=>Q k H'
 | _=>False
theorem tVr_of {i:Nat} (h:tVr i σ H Q):tVar i σ H Q:=by
 unfold tVr at h
 split at h
 ·rename_i v e
  exact ⟨v,e,h⟩
 ·exact h.elim
theorem pr (i:Nat) {pos:Pos} (hN:X.N[i]? = some x:=by rfl) (hv:Vis X.env.scope x:=by walk_at "b") (hd:(x == ("__debug__" : Str))=false:=by decide)
  (hcd:(x == ("__classdict__" : Str))=false:=by decide):PE X (.Name x pos) (tVr i):=fun pins s σ H Q I h=>pe_var hN hv hd hcd pins s σ H Q I (tVr_of h)
theorem mI_of (h:mI g x y H Q):rI0 g x y H Q:=by
 unfold mI at h
 split at h
 ·exact ⟨_,_,rfl,rfl,h⟩
 ·exact h.elim
theorem OpR.m (o:OpR X op (rI0 g)):OpR X op (mI g):=fun pins s σ H x y v u Q I rx ry h=>o pins s σ H x y v u Q I rx ry (mI_of h)
theorem q40:OpR X (binaryOp .Add) (mI fun i j=>.int (i+j)):=q73.m
theorem q146:OpR X (binaryOp .Sub) (mI fun i j=>.int (i - j)):=q81.m
theorem om_lt:OpR X (compareOp .Lt) (mI fun i j=>.bl (decide (i < j))):=op_lt.m
theorem om_le:OpR X (compareOp .LtE) (mI fun i j=>.bl (decide (i<=j))):=op_le.m
theorem om_gt:OpR X (compareOp .Gt) (mI fun i j=>.bl (decide (j < i))):=op_gt.m
theorem mTest_eq (t:TE):mTest t=tTest t:=by
 funext σ H Q
 show t σ H _=t σ H _
 congr 1
 funext x H'
 apply propext
 constructor
 ·intro h
  split at h
  ·exact ⟨_,rfl,h⟩
  ·exact h.elim
 ·rintro ⟨k,rfl,h⟩
  exact h
section
variable {a b:Expr} {ta tb:TE} {pos:Pos}
theorem q23 (ho:OpR X (compareOp op) r) (ha:PE X a ta) (hb:PE X b tb) (hm:behindInMarks op b=false):PT X (.Compare a [op] [b] pos) (mTest (tOp r ta tb)):=by
 rw [mTest_eq]
 exact q26 ho ha hb hm
end
noncomputable def mIxT (K:Fg):R2:=fun x y H Q=>match x,y with
 | .ref p,.int i=>∃ xs v,SqT K H p xs/\atI xs i=some v/\Q v H
 | _,_=>False
def mIxL (K:Fg):R2:=fun x y H Q=>match x,y with
 | .ref p,.int i=>∃ xs v,SqL K H p xs/\atI xs i=some v/\Q v H
 | _,_=>False
theorem mIxT_of {K:Fg} {x y:V} {H:Hp} {Q:VK} (h:mIxT K x y H Q):rIxT K x y H Q:=by
 unfold mIxT at h
 split at h
 ·obtain ⟨xs,v,h1,h2,h3⟩:=h
  exact ⟨_,xs,_,v,rfl,rfl,h1,h2,h3⟩
 ·exact h.elim
theorem mIxL_of {K:Fg} {x y:V} {H:Hp} {Q:VK} (h:mIxL K x y H Q):rIxL K x y H Q:=by
 unfold mIxL at h
 split at h
 ·obtain ⟨xs,v,h1,h2,h3⟩:=h
  exact ⟨_,xs,_,v,rfl,rfl,h1,h2,h3⟩
 ·exact h.elim
section
variable {K:Fg}
theorem q29:IxR X (mIxT X.K):=fun va sl pins s σ H x y v u Q I rx ry h hs=>q32 va sl pins s σ H x y v u Q I rx ry (mIxT_of h) hs
theorem q56:IxR X (mIxL X.K):=fun va sl pins s σ H x y v u Q I rx ry h hs=>q47 va sl pins s σ H x y v u Q I rx ry (mIxL_of h) hs
theorem q152 (hK:X.K=K):IxR X (mIxT K):=hK ▸ q29
end
end L2
namespace TS
set_option autoImplicit false
open PySem PySem.W PyProof.Rows
section
variable {prog:Program} {w:World} {A:Around} {E:VS} {s:Shared}
theorem q690 {K:Type} [DecidableEq K] {knd:KeyKind prog w K} {d:Addr} {kvs:List (K × Value)} {ep:Nat} {ks:List Int} {Q:VS} (hh:A.handled=none) (lo:(d == sysModules)=false) (da:s.heap.DictAt knd d kvs ep) (hz:ks.length<=sizeLine) (hl:ks.length=kvs.length)
  (hk:∀ (j:Nat) (k:K) (x v:Value),kvs[j]? = some (k,x)->knd.is k v=true -> ∃ i t,ks[j]? = some i/\v = .int i t)
  (h:∀ (hF:Heap) (tk:Nat) (l:Addr) (e:Nat) (out:List Value),(∀ b o,s.heap.get? b=some o->hF.get? b=some o)->(∃ h1:Heap,(∀ b o,s.heap.get? b=some o->h1.get? b=some o)/\h1.objs.size<=l)->hF.get? l=some (seqObj "list" out.toArray e)->out.length<=sizeLine->AllI out->(out.map kOf).Perm ks->((out.map kOf).Pairwise (· <= ·)) ->
   Q (.ref l) { s with heap:=hF,toks:=tk }):wpAny (model prog w) A (call (.builtin "sorted") [.ref d]) Q E s:=by
 refine Calls.call_function_entry kind_sorted plain_sorted entry_sorted (args_sorted1 _) ?_
 unfold Builtin.«sorted»
 refine wpAny_bind (m:=checkCount "sorted" 1 1 _) (wpAny_pure (wpAny_bind (kdu_collect (A:=A.in1) (kdl_dict (knd:=knd) (kvs:=kvs) (ep:=ep) lo) (show A.in1.handled=none from hh) da (by rw [<- hl];exact hz) fun h' tk acc k1 hacc=>?_)))
 have hj:∀ (j:Nat) (v:Value),acc[j]? = some v -> ∃ i t,ks[j]? = some i/\v = .int i t:=fun j v e=>by
  obtain ⟨k,x,h1,h2⟩:=hacc.2 j v e
  exact hk j k x v h1 h2
 have ai:AllI acc.toList:=fun v hv=>by
  obtain ⟨j,e⟩:=List.mem_iff_getElem?.mp hv
  obtain ⟨i,t,_,e2⟩:=hj j v (by rw [<- Array.getElem?_toList];exact e)
  exact ⟨i,t,e2⟩
 have em:acc.toList.map kOf=ks:=by
  apply List.ext_getElem?
  intro j
  rw [List.getElem?_map,Array.getElem?_toList]
  cases ej:acc[j]? with
  | none=>
   have:=Array.getElem?_eq_none_iff.mp ej
   have e2:acc.size=kvs.length:=hacc.1
   rw [List.getElem?_eq_none (by omega)]
   rfl
  | some v=>
   obtain ⟨i,t,g1,rfl⟩:=hj j v ej
   rw [g1]
   rfl
 generalize acc.toList=us at ai em
 have lz:us.length<=sizeLine:=by rw [<- List.length_map (f:=kOf),em];exact hz
 refine wpAny_bind (wpAny_newList ?_ lz)
 have hoL:(h'.push (seqObj "list" us.toArray 0)).get? h'.objs.size=some (seqObj "list" us.toArray 0):=Heap.get?_push_size _ rfl
 show wpAny _ _ _ _ _ { s with heap:=h'.push (seqObj "list" us.toArray 0),toks:=tk }
 refine wpAny_bind (wpAny_holding (wpAny_call_entry slot_list_sort ⟨_,hoL,rfl⟩ entry_list_sort (q440 (κ:=oneType') (P:=fun v=>∃ k t,v=Value.int k t) (lt:=ltI) hoL lz (fun h6 _ h2 Q' hq=>?_) (fun h6 _=>good_i) tot_i ai fun out a1 a2=>⟨_,rfl,wpAny_pure ⟨_,rfl,?_⟩⟩) (args_list_sort _)))
 ·rw [ksk_kind (kz:=us.map kOf) (by simpa using q499 us ai) (by simpa using h2)]
  exact wpAny_pure hq
 obtain ⟨e,he⟩:=sortedHeap_at (h:=h'.push (seqObj "list" us.toArray 0)) (a:=h'.objs.size) (vs:=us) (out:=out) hoL
 refine h _ tk h'.objs.size e out.toList (fun b o hb=>?_) ⟨h',k1,Nat.le_refl _⟩ (by rw [Array.toArray_toList];exact he) (by rw [a1.length_eq];exact lz) (fun v hv=>ai v (a1.mem_iff.mp hv)) (by rw [<- em];exact a1.map _) ?_
 ·have hlt:=Heap.lt_size (k1 b o hb)
  rw [sortedHeap_old (Nat.ne_of_lt hlt) (by rw [size_push'];exact Nat.lt_succ_of_lt hlt)]
  exact Heap.get?_push_of_some _ (k1 b o hb)
 ·rw [List.pairwise_map]
  refine a2.imp fun {x y} q=>?_
  unfold ltI at q
  rw [decide_eq_false_iff_not] at q
  omega
end
end TS
namespace L2
open PySem PySem.Spec PyProof.Rows
variable {X:Cx}
theorem q371 (hc:X.calm=true):CallR X (.builtin "sorted") (fun xs H Q=>∃ (d:Addr) (ks:List TS.I2),xs=[.ref d]/\H d=some (.dK (ks.map fun p=>((Sum.inl p.1:Key),V.int p.2)))/\(ks.map (·.1)).Nodup /\
  ∀ (l:Addr) (ms:List Int),H l=none->ms.Perm (ks.map (·.1))->ms.Pairwise (· < ·)->Q (.ref l) (upd H l (.lst (ms.map V.int)))):=by
 intro pins s σ H xs us Q I r h
 obtain ⟨d,ks,rfl,hd,nd,q⟩:=h
 obtain ⟨u,rfl,rx⟩:=vals1 r
 cases rx
 obtain ⟨z,lo,vs,rel,dd⟩:=dk_of I.hok hd
 obtain ⟨ep,da⟩:=dd.dictAt
 have hvl:ks.length=vs.length:=by
  have:=rel.length
  rw [List.length_map] at this
  exact this
 rw [List.length_map] at z
 refine TS.q690 (knd:=q53 X.prog X.w) (ks:=ks.map (·.1)) (I.ok.hd hc) lo da (by rw [List.length_map];exact z) (by rw [List.length_map];exact hvl) (fun j k x v h1 h2=>?_) fun hF tk l e out kp hl hL oz ai po le=>?_
 ·obtain ⟨p,_,g1,rfl,_⟩:=q626 rel h1
  obtain ⟨t',rfl⟩:=key_int h2
  exact ⟨p.1,t',by rw [List.getElem?_map,g1];rfl,rfl⟩
 have ne:(out.map TS.kOf).Nodup:=po.nodup_iff.mpr nd
 have lt:=(List.pairwise_and_iff.mpr ⟨le,ne⟩).imp fun {x y:Int} q=>(show x < y by omega)
 have hlH:H l=none:=by
  cases q:H l with
  | none=>rfl
  | some v=>
   obtain ⟨h1,k1,l1⟩:=hl
   exact absurd ((I.hok l v q).stay (H':=H) (fun c u _ z=>k1 c u z) (fun c z=>z) fun c ys z=>z).lt (Nat.not_lt_of_le l1)
 refine ⟨.ref l,upd H l (.lst ((out.map TS.kOf).map V.int)),I.laidM (t':=tk) kp (fun b u e=>?_) (fun b u hb hn=>?_) (fun b u e hn=>?_),rfl,q l (out.map TS.kOf) hlH po lt⟩
 ·rw [q31 (q27 e hlH)]
  exact e
 ·obtain ⟨h1,k2,l1⟩:=hl
  rw [q31 (fun z=>by rw [z] at hb;exact absurd (Heap.lt_size (k2 _ _ hb)) (Nat.not_lt_of_le l1))]
  exact hn
 ·by_cases c:b=l
  ·subst c
   rw [q14] at e
   cases e
   exact ⟨by rw [List.length_map,List.length_map];exact oz,out,_,q500 out ai,hL⟩
  ·rw [q31 c,hn] at e
   cases e
theorem op_eqOpt (hu:X.A.units+64 < cLine):OpR X (compareOp .Eq) (fun x y H Q=>(x = .non/\y = .non/\Q (.bl true) H) \/ ∃ (n:Nat) (a b:Addr),x = .ref a/\y = .ref b/\Alk X.K H n (.ref a) (.ref b)/\n<=60/\Q (.bl true) H):=by
 intro pins s σ H x y v u Q I rx ry h
 rcases h with ⟨rfl,rfl,q⟩ | h
 ·exact op_eq pins s σ H _ _ v u Q I rx ry ⟨rfl,q⟩
 ·exact op_eqAlk hu pins s σ H _ _ v u Q I rx ry h
end L2
namespace My
open PySem L2
noncomputable abbrev pn0:List Str:=["self", "make"]
noncomputable abbrev pn1:List Str:=["self", "make", "place", "number"]
noncomputable abbrev pn2:List Str:=["bounds", "gathering", "number"]
noncomputable abbrev pn3:List Str:=["self", "make", "start", "end"]
noncomputable abbrev pn4:List Str:=["_law_pen_here", "_law_bounds_here", "_law_rows", "_law_makes"]
noncomputable abbrev pn5:List Str:=["_law_pen_here", "_law_bounds_here", "_law_makes", "_law_rows"]
noncomputable abbrev pn6:List Str:=["bounds", "gathering", "k"]
noncomputable abbrev pn7:List Str:=["_law_pen_here", "_law_bounds_here", "_law_row_here"]
noncomputable abbrev pn8:List Str:=["_law_pen_here", "_law_bounds_here", "_law_longest"]
noncomputable abbrev pn9:List Str:=["_law_found", "_law_bounds_here", "_law_row_here"]
noncomputable abbrev pn10:List Str:=["tree", "way", "place"]
noncomputable abbrev pn11:List Str:=["bounds", "gathering"]
noncomputable abbrev pn12:List Str:=["_law_pen_here", "_law_rows", "_law_longest"]
noncomputable abbrev pn13:List Str:=["_law_low", "_law_levels", "_law_row_here"]
noncomputable abbrev pn14:List Str:=["least", "many", "parts", "part", "floor"]
noncomputable abbrev pn15:List Str:=["bounds", "tree", "place"]
noncomputable abbrev pn16:List Str:=["bounds", "number"]
noncomputable abbrev pn17:List Str:=["gathering", "way"]
noncomputable abbrev pn18:List Str:=["bounds", "gathering", "j", "place"]
noncomputable abbrev pn19:List Str:=["bounds", "tree", "place", "number"]
noncomputable abbrev pn20:List Str:=["_law_pen_here"]
noncomputable def top (i:Nat):Stmt:=PySem.Challenge.pw_manyleast_k66_whole_any_makes_asked.main.body.getD i (.Pass ⟨0,0,0,0⟩)
noncomputable def q64:Stmt->List Stmt
 | .ClassDef _ _ _ b _ _ _ _ _ _ _=>b
 | _=>[]
noncomputable abbrev q163:Stmt:=top 6
noncomputable abbrev q501:Stmt:=top 7
noncomputable abbrev q638:Stmt:=top 8
noncomputable abbrev q372:Stmt:=top 9
noncomputable abbrev q502:Stmt:=top 10
noncomputable abbrev q639:Stmt:=top 12
noncomputable abbrev q291:Stmt:=top 13
noncomputable abbrev q373:Stmt:=top 15
noncomputable abbrev q245:Stmt:=top 16
noncomputable abbrev q374:Stmt:=top 17
noncomputable abbrev q375:Stmt:=top 18
noncomputable abbrev q246:Stmt:=top 22
noncomputable abbrev q503:Stmt:=top 24
noncomputable abbrev q292:Stmt:=top 26
noncomputable abbrev q247:Stmt:=top 27
noncomputable abbrev q248:Stmt:=top 28
noncomputable abbrev q376:Stmt:=top 30
noncomputable abbrev q504:Stmt:=top 31
noncomputable abbrev q249:Stmt:=top 34
noncomputable abbrev q323:Stmt:=top 35
noncomputable abbrev s_led:Stmt:=top 36
noncomputable abbrev q164:Stmt:=top 37
noncomputable abbrev q505:Stmt:=top 38
noncomputable abbrev q377:Stmt:=top 40
noncomputable abbrev q506:Stmt:=top 42
noncomputable abbrev q507:Stmt:=top 44
noncomputable abbrev q250:Stmt:=top 46
noncomputable abbrev q147:Stmt:=top 50
noncomputable abbrev q251:Stmt:=top 52
noncomputable abbrev q202:Stmt:=top 53
noncomputable abbrev q252:Stmt:=top 54
noncomputable abbrev q165:Stmt:=top 55
noncomputable abbrev q378:Stmt:=top 56
noncomputable abbrev q640:Stmt:=top 57
noncomputable abbrev q253:Stmt:=top 59
noncomputable abbrev s_most:Stmt:=top 60
noncomputable abbrev q641:Stmt:=top 61
noncomputable abbrev q130:Stmt:=top 62
noncomputable abbrev q379:Stmt:=top 64
noncomputable abbrev q166:Stmt:=top 65
noncomputable abbrev q293:Stmt:=top 67
noncomputable abbrev q203:Stmt:=top 68
noncomputable abbrev q254:Stmt:=top 69
noncomputable abbrev q167:Stmt:=top 70
noncomputable abbrev q192:Stmt:=top 71
noncomputable abbrev q92:Stmt:=top 72
noncomputable abbrev q131:Stmt:=top 73
noncomputable abbrev q380:Stmt:=top 74
noncomputable abbrev q204:Stmt:=top 75
noncomputable abbrev q153:Stmt:=top 76
noncomputable abbrev q111:Stmt:=top 77
noncomputable abbrev q132:Stmt:=top 78
noncomputable abbrev q154:Stmt:=top 79
noncomputable abbrev q48:Stmt:=top 80
noncomputable abbrev s_law:Stmt:=top 81
noncomputable abbrev q381:Stmt:=(q64 (top 49)).getD 0 (.Pass ⟨0,0,0,0⟩)
noncomputable abbrev q294:Stmt:=(q64 (top 49)).getD 1 (.Pass ⟨0,0,0,0⟩)
noncomputable abbrev q295:Stmt:=(q64 (top 49)).getD 2 (.Pass ⟨0,0,0,0⟩)
noncomputable abbrev q168:Stmt:=(q64 (top 49)).getD 3 (.Pass ⟨0,0,0,0⟩)
noncomputable abbrev q296:Stmt:=(q64 (top 49)).getD 4 (.Pass ⟨0,0,0,0⟩)
noncomputable abbrev q255:Stmt:=(q64 (top 49)).getD 5 (.Pass ⟨0,0,0,0⟩)
noncomputable abbrev q297:Stmt:=(q64 (top 49)).getD 6 (.Pass ⟨0,0,0,0⟩)
noncomputable abbrev q298:Stmt:=(q64 (top 49)).getD 7 (.Pass ⟨0,0,0,0⟩)
noncomputable abbrev q256:Stmt:=(q64 (top 49)).getD 8 (.Pass ⟨0,0,0,0⟩)
noncomputable abbrev q508:Stmt:=(q64 (top 49)).getD 9 (.Pass ⟨0,0,0,0⟩)
noncomputable abbrev q509:Stmt:=(q64 (top 49)).getD 10 (.Pass ⟨0,0,0,0⟩)
noncomputable abbrev q257:Stmt:=(q64 (top 49)).getD 12 (.Pass ⟨0,0,0,0⟩)
noncomputable abbrev q258:Stmt:=(q64 (top 49)).getD 13 (.Pass ⟨0,0,0,0⟩)
noncomputable abbrev q382:Stmt:=(q64 (top 49)).getD 14 (.Pass ⟨0,0,0,0⟩)
noncomputable abbrev q510:Stmt:=(q64 (top 49)).getD 15 (.Pass ⟨0,0,0,0⟩)
theorem q272:FnScope ["levels", "many", "level"] ["levels"] (q17 q163):=fsc
theorem q642:FnScope ["bounds"] ["bounds"] (q17 q501):=fsc
theorem sc_where:FnScope pn16 pn16 (q17 q638):=fsc
theorem q549:FnScope ["bounds", "way", "least", "many", "turn"] ["bounds", "way"] (q17 q372):=fsc
theorem q643:FnScope (pn16.append ["least", "many", "way", "level"]) pn16 (q17 q502):=fsc
theorem sc_ahead:FnScope ["marks", "mark", "place"] ["marks", "mark", "place"] (q17 q639):=fsc
theorem q444:FnScope ["marks", "mark", "number", "left", "place", "other"] ["marks", "mark", "number"] (q17 q291):=fsc
theorem q550:FnScope ["bounds", "row", "number"] ["bounds", "row"] (q17 q373):=fsc
theorem sc_grown:FnScope ["least", "many", "row", "half", "middle", "marks", "lower", "upper"] ["least", "many", "row"] (q17 q245):=fsc
theorem q551:FnScope ["tree", "mark"] ["tree", "mark"] (q17 q374):=fsc
theorem q552:FnScope ["tree"] ["tree"] (q17 q375):=fsc
theorem q383:FnScope (pn15.append ["least", "many", "part", "inner", "mark"]) pn15 (q17 q246):=fsc
theorem q644:FnScope pn19 pn19 (q17 q503):=fsc
theorem q445:FnScope (pn10.append ["turn", "marks", "half"]) pn10 (q17 q292):=fsc
theorem q384:FnScope ["marks", "tree", "turn", "half"] ["marks", "tree", "turn", "half"] (q17 q247):=fsc
theorem q385:FnScope (pn15.append ["number"]) pn15 (q17 q248):=fsc
theorem q553:FnScope ["tree", "place", "marks", "turn", "half"] ["tree", "place"] (q17 q376):=fsc
theorem q645:FnScope pn19 pn19 (q17 q504):=fsc
theorem q554:FnScope ["gathering"] ["gathering"] (q17 q249):=fsc
theorem q646:FnScope ["gathering"] ["gathering"] (q17 q323):=fsc
theorem sc_led:FnScope pn17 pn17 (q17 s_led):=fsc
theorem q273:FnScope ["stretch", "way", "part", "start", "end", "turn", "half"] ["stretch", "way"] (q17 q164):=fsc
theorem q647:FnScope (pn10.append ["inner"]) pn10 (q17 q505):=fsc
theorem q555:FnScope ["stretch", "tree", "start", "end", "lower", "upper"] ["stretch"] (q17 q377):=fsc
theorem q648:FnScope ["one", "other"] ["one", "other"] (q17 q506):=fsc
theorem q649:FnScope ["tree"] ["tree"] (q17 q507):=fsc
theorem q556:FnScope ["tree"] ["tree"] (q17 q250):=fsc
theorem q259:FnScope ["tree"] ["tree"] (q17 q147):=fsc
theorem q386:FnScope (pn6.append ["way", "alike"]) pn6 (q17 q251):=fsc
theorem q324:FnScope ["levels", "gathering", "k", "way", "parts", "left", "level", "lower", "turn"] ["levels", "gathering", "k"] (q17 q202):=fsc
theorem q387:FnScope ["gathering", "way", "number", "parts", "left", "j"] ["gathering", "way", "number"] (q17 q252):=fsc
theorem q274:FnScope (pn17.append ["many", "parts", "turn"]) pn17 (q17 q165):=fsc
theorem q557:FnScope (pn18.append ["stretch", "way", "before"]) pn18 (q17 q378):=fsc
theorem sc_below:FnScope (pn2.append ["side"]) pn2 (q17 q640):=fsc
theorem q388:FnScope pn11 pn11 (q17 q253):=fsc
theorem sc_most:FnScope (pn11.append ["best", "counted"]) pn11 (q17 s_most):=fsc
theorem sc_often:FnScope ["bounds", "gathering", "part"] ["bounds", "gathering", "part"] (q17 q641):=fsc
theorem q210:FnScope (pn14.append ["things", "half", "lower", "upper"]) pn14 (q17 q130):=fsc
theorem q558:FnScope (pn2.append ["k"]) pn2 (q17 q379):=fsc
theorem q275:FnScope (pn6.append ["way"]) pn6 (q17 q166):=fsc
theorem q446:FnScope ["_law_script", "_law_k", "_law_cell"] ["_law_script", "_law_k"] (q17 q293):=fsc
theorem q325:FnScope (pn20.append ["_law_number"]) pn20 (q17 q203):=fsc
theorem q389:FnScope ["_law_pen_here", "_law_size", "_law_found", "_law_wide"] ["_law_pen_here", "_law_size"] (q17 q254):=fsc
theorem q276:FnScope (pn20.append ["_law_levels", "_law_way", "_law_low"]) pn20 (q17 q167):=fsc
theorem q447:FnScope (pn8.append ["_law_low", "_law_levels", "_law_size", "_law_way", "_law_few", "_law_row_here", "_law_k", "_law_spot"]) pn8 (q17 q192):=fsc
theorem q390:FnScope (pn13.append ["_law_half", "_law_marks", "_law_lower"]) pn13 (q17 q92):=fsc
theorem q326:FnScope ["_law_thing"] ["_law_thing"] (q17 q131):=fsc
theorem q559:FnScope pn9 pn9 (q17 q380):=fsc
theorem q327:FnScope (pn7.append ["_law_number", "_law_at"]) pn7 (q17 q204):=fsc
theorem q391:FnScope (pn12.append ["_law_some_here", "_law_k", "_law_make", "_law_size", "_law_start", "_law_end"]) pn12 (q17 q153):=fsc
theorem q277:FnScope ["_law_rows", "_law_some_here", "_law_found", "_law_j", "_law_make", "_law_start", "_law_end"] ["_law_rows", "_law_some_here"] (q17 q111):=fsc
theorem q328:FnScope ["_law_things_here", "_law_found", "_law_worth_here", "_law_j", "_law_place"] ["_law_things_here"] (q17 q132):=fsc
theorem q392:FnScope (pn4.append ["_law_make", "_law_row_here", "_law_way", "_law_place", "_law_number", "_law_other", "_law_both"]) pn4 (q17 q154):=fsc
theorem q211:FnScope (pn5.append ["_law_some_here", "_law_things_here", "_law_gathering", "_law_told", "_law_k", "_law_worth_here", "_law_j", "_law_place", "_law_number", "_law_above", "_law_part", "_law_best", "_law_pair"]) pn5 (q17 q48):=fsc
theorem sc_law:FnScope ["_law_script", "_law_pen_here", "_law_bounds_here", "_law_makes", "_law_rows", "_law_came", "_law_k", "_law_number", "_law_row_here", "_law_elders", "_law_turn", "_law_make"] ["_law_script"] (q17 s_law):=fsc
theorem q560:FnScope ["self", "bounds"] ["self", "bounds"] (q17 q381):=fsc
theorem q448:FnScope ["self", "row"] ["self", "row"] (q17 q294):=fsc
theorem q449:FnScope (pn1.append ["tree"]) pn1 (q17 q295):=fsc
theorem q278:FnScope ["self", "make", "place", "told"] ["self", "make", "place"] (q17 q168):=fsc
theorem q450:FnScope pn1 pn1 (q17 q296):=fsc
theorem q393:FnScope pn3 pn3 (q17 q255):=fsc
theorem q451:FnScope ["self", "one", "other", "tree"] ["self", "one", "other"] (q17 q297):=fsc
theorem q452:FnScope pn0 pn0 (q17 q298):=fsc
theorem q394:FnScope pn0 pn0 (q17 q256):=fsc
theorem q650:FnScope ["self"] ["self"] (q17 q508):=fsc
theorem q651:FnScope pn0 pn0 (q17 q509):=fsc
theorem q395:FnScope pn0 pn0 (q17 q257):=fsc
theorem q396:FnScope (pn3.append ["tree"]) pn3 (q17 q258):=fsc
theorem q561:FnScope pn0 pn0 (q17 q382):=fsc
theorem q652:FnScope ["self", "tree", "sources"] ["self", "tree", "sources"] (q17 q510):=fsc
structure Bz (K:Fg) (mg:Mg) (cA cB cC cD cG:Addr):Prop where
 bool_:mg "bool" = none
 enumerate_:mg "enumerate" = none
 int_:mg "int" = none
 isinstance_:mg "isinstance" = none
 len_:mg "len" = none
 list_:mg "list" = none
 max_:mg "max" = none
 min_:mg "min" = none
 range_:mg "range" = none
 reversed_:mg "reversed" = none
 sorted_:mg "sorted" = none
 str_:mg "str" = none
 sum_:mg "sum" = none
 tuple_:mg "tuple" = none
 m_LeastError:mg "LeastError" = some (.ref cA)
 m_Beyond:mg "Beyond" = some (.ref cB)
 m_NoSuch:mg "NoSuch" = some (.ref cC)
 m_TooMany:mg "TooMany" = some (.ref cD)
 m_Makes:mg "Makes" = some (.ref cG)
 nB:q200 K cG "bounds"
 nK:q200 K cG "kept"
 o_Makes:Cls K cG
 d_I_Makes:IDef K cG "Makes.__init__" q381 ["self", "bounds"]
 d_M_of_row:MDef K cG "of_row" "Makes.of_row" q294 ["self", "row"]
 d_M_put_in:MDef K cG "put_in" "Makes.put_in" q295 pn1
 d_M_taken_out:MDef K cG "taken_out" "Makes.taken_out" q168 ["self", "make", "place"]
 d_M_set_at:MDef K cG "set_at" "Makes.set_at" q296 pn1
 d_M_cut_out:MDef K cG "cut_out" "Makes.cut_out" q255 pn3
 d_M_joined:MDef K cG "joined" "Makes.joined" q297 ["self", "one", "other"]
 d_M_turned:MDef K cG "turned" "Makes.turned" q298 pn0
 d_M_flipped:MDef K cG "flipped" "Makes.flipped" q256 pn0
 d_M_many:MDef K cG "many" "Makes.many" q508 ["self"]
 d_M_tree:MDef K cG "tree" "Makes.tree" q509 pn0
 d_M_came_of:MDef K cG "came_of" "Makes.came_of" q257 pn0
 d_M_stretch:MDef K cG "stretch" "Makes.stretch" q258 pn3
 d_M_found:MDef K cG "found" "Makes.found" q382 pn0
 d_M_keep:MDef K cG "keep" "Makes.keep" q510 ["self", "tree", "sources"]
 d_many_worths:Def K mg "many_worths" q163 ["levels"]
 d_top_of:Def K mg "top_of" q501 ["bounds"]
 d_where:Def K mg "where" q638 pn16
 d_span_of:Def K mg "span_of" q372 ["bounds", "way"]
 d_way_of:Def K mg "way_of" q502 pn16
 d_ahead:Def K mg "ahead" q639 ["marks", "mark", "place"]
 d_place_of:Def K mg "place_of" q291 ["marks", "mark", "number"]
 d_tree_of:Def K mg "tree_of" q373 ["bounds", "row"]
 d_grown:Def K mg "grown" q245 ["least", "many", "row"]
 d_half_of:Def K mg "half_of" q374 ["tree", "mark"]
 d_size_of:Def K mg "size_of" q375 ["tree"]
 d_number_at:Def K mg "number_at" q246 pn15
 d_put_in:DefA K mg "put_in_changes" "put_in" q503 ["bounds", "tree", "place", "number"]
 d_with_way:Def K mg "with_way" q292 pn10
 d_with_half:Def K mg "with_half" q247 ["marks", "tree", "turn", "half"]
 d_taken_out:DefA K mg "taken_out_changes" "taken_out" q248 ["bounds", "tree", "place"]
 d_without:Def K mg "without" q376 ["tree", "place"]
 d_set_at:DefA K mg "set_at_changes" "set_at" q504 ["bounds", "tree", "place", "number"]
 d_many_in:Def K mg "many_in" q249 ["gathering"]
 d_filled:Def K mg "filled" q323 ["gathering"]
 d_led:Def K mg "led" s_led pn17
 d_led_stretch:Def K mg "led_stretch" q164 ["stretch", "way"]
 d_lifted:Def K mg "lifted" q505 pn10
 d_cut_out:DefA K mg "cut_out_joins" "cut_out" q377 ["stretch"]
 d_joined:DefA K mg "joined_joins" "joined" q506 ["one", "other"]
 d_turned:DefA K mg "turned_joins" "turned" q507 ["tree"]
 d_flipped:DefA K mg "flipped_joins" "flipped" q250 ["tree"]
 d_not_too_many:Def K mg "not_too_many" q147 ["tree"]
 d_nth_least:Def K mg "nth_least" q251 pn6
 d_way_of_nth:Def K mg "way_of_nth" q202 ["levels", "gathering", "k"]
 d_nth_alike:Def K mg "nth_alike" q252 ["gathering", "way", "number"]
 d_many_lesser:Def K mg "many_lesser" q165 pn17
 d_rank_of:Def K mg "rank_of" q378 pn18
 d_below:Def K mg "below" q640 pn2
 d_worths_in:Def K mg "worths_in" q253 pn11
 d_most:Def K mg "most" s_most pn11
 d_often:Def K mg "often" q641 ["bounds", "gathering", "part"]
 d_counted_above:Def K mg "counted_above" q130 pn14
 d_next_up:Def K mg "next_up" q379 pn2
 d_counted_nth:Def K mg "counted_nth" q166 pn6
 d__law_pen:Def K mg "_law_pen" q293 ["_law_script", "_law_k"]
 d__law_mixed:Def K mg "_law_mixed" q203 pn20
 d__law_take:Def K mg "_law_take" q254 ["_law_pen_here", "_law_size"]
 d__law_bounds:Def K mg "_law_bounds" q167 pn20
 d__law_row:Def K mg "_law_row" q192 pn8
 d__law_tree:Def K mg "_law_tree" q92 pn13
 d__law_plain:Def K mg "_law_plain" q131 ["_law_thing"]
 d__law_is:Def K mg "_law_is" q380 pn9
 d__law_worth:Def K mg "_law_worth" q204 pn7
 d__law_some:Def K mg "_law_some" q153 pn12
 d__law_things:Def K mg "_law_things" q111 ["_law_rows", "_law_some_here"]
 d__law_manys:Def K mg "_law_manys" q132 ["_law_things_here"]
 d__law_deed:Def K mg "_law_deed" q154 pn4
 d__law_answered:Def K mg "_law_answered" q48 pn5
variable {cA cB cC cD cG:Addr}
def Wths (low:Int) (L:Nat) (ns:List Int):Prop:=∀ x ∈ ns,low<=x/\x < low+2 ^ L
theorem Wths.snoc {low:Int} {L:Nat} {y:Int} (h:Wths low L ns) (h0:low<=y) (h1:y < low+2 ^ L):Wths low L (ns++[y]):=fun x hx=>by
 rcases List.mem_append.mp hx with h' | h'
 ·exact h x h'
 ·cases List.mem_singleton.mp h'
  exact ⟨h0,h1⟩
inductive sp_many_worths (u0:Fg) (vs:List V) (H:Hp) (Q:VK) (E:XK):Prop
 | mk (L:Nat) (_:vs=[.int (L:Int)]) (_:L<=40) (_:Q (.int (2 ^ L)) H):sp_many_worths u0 vs H Q E
inductive sp_top_of (K:Fg) (vs:List V) (H:Hp) (Q:VK) (E:XK):Prop
 | mk (b:Addr) (low:Int) (L:Nat) (_:vs=[.ref b]) (_:SqT K H b [.int low,.int (L:Int)]) (_:L<=40) (_:Q (.int (low+2 ^ L - 1)) H):sp_top_of K vs H Q E
variable {P:Program} {w:World} {K:Fg} {mg:Mg} {base:Heap}
theorem q44 (z:Bz K mg cA cB cC cD cG):Cal P w K mg base 1 "many_worths" ["levels"] (sp_many_worths K):=by
 have sc:=q272
 refine z.d_many_worths.cal fun f fd F=>F.k sc fun _ _ _ s H _ Q _ hr h=>?_
 obtain ⟨L,rfl,hL,q⟩:=h
 refine ⟨_,(q12 (pst 1 sc.nd q13)
 (q12 (q66 PassesOwn.never rfl (q52 rfl z.range_ (q10 (pr 0) q11)) (pgn 2 sc.nd)
 (q15 (pst 1 sc.nd (pe_op q89 (pr 1) q13))))
 (q15 (q18 (pr 1))))),?_⟩
 refine ⟨(L:Int),rfl,by omega,by omega,q61 (n:=L) (fun i σ H2=>∃ v:Option V,σ=[some (.int (L:Int)),some (.int (2 ^ i)),v]/\H2=H) ⟨none,rfl,rfl⟩ ?_ ?_⟩
 ·rintro i σ H2 hi ⟨v,rfl,rfl⟩
  refine ⟨_,_,rfl,rfl,.inr ⟨by decide,by decide⟩,?_⟩
  exact ⟨_,by rw [Int.pow_succ];rfl,rfl⟩
 ·rintro σ H2 ⟨v,rfl,rfl⟩
  exact q
theorem q653 (z:Bz K mg cA cB cC cD cG):Cal P w K mg base 2 "top_of" ["bounds"] (sp_top_of K):=by
 have sc:=q642
 refine z.d_top_of.cal fun f fd F=>F.k sc fun _ _ _ s H _ Q _ hr h=>?_
 obtain ⟨b,low,L,rfl,hb,hL,q⟩:=h
 refine ⟨_,(q15 (q18 (pe_op q146 (pe_op q40 (pix q29 (pr 0) q13) (pe_fn (q44 z) hr.m (by rfl) (q10 (pix q29 (pr 0) q13) q11))) q13))),?_⟩
 exact ⟨_,_,hb,rfl,_,_,hb,rfl,L,rfl,hL,q⟩
noncomputable def q260 (low:Int) (L:Nat) (n:Int):Str:=if n < low then "below" else if low+2 ^ L - 1 < n then "above" else "within"
theorem q654 {low n:Int} {L:Nat} (h:low<=n/\n < low+2 ^ L):q260 low L n = "within" := by
 unfold q260
 rw [if_neg (by omega),if_neg (by omega)]
inductive sp_where (K:Fg) (vs:List V) (H:Hp) (Q:VK) (E:XK):Prop
 | mk (b:Addr) (low n:Int) (L:Nat) (_:vs=[.ref b,.int n]) (_:SqT K H b [.int low,.int (L:Int)]) (_:L<=40) (_:Q (.str (q260 low L n)) H):sp_where K vs H Q E
theorem q329 (z:Bz K mg cA cB cC cD cG):Cal P w K mg base 3 "where" pn16 (sp_where K):=by
 have sc:=sc_where
 refine z.d_where.cal fun f fd F=>F.k sc fun _ _ _ s H _ Q _ hr h=>?_
 obtain ⟨b,low,n,L,rfl,hb,hL,q⟩:=h
 refine ⟨_,(q12 (ps_if (q23 om_lt (pr 1) (pix q29 (pr 0) q13) (q19 _))
 (q15 (q18 q42))
 q21)
 (q12 (ps_if (q23 om_gt (pr 1) (pe_fn (q653 z) hr.m (by rfl) (q10 (pr 0) q11)) (q19 _))
 (q15 (q18 q42))
 q21)
 (q15 (q18 q42)))),?_⟩
 unfold q260 at q
 refine ⟨_,_,hb,rfl,?_⟩
 refine ite2 (fun c=>?_) (fun c=>?_)
 ·rw [if_pos (of_decide_eq_true c)] at q
  exact q
 ·rw [if_neg (fun z=>c (decide_eq_true z))] at q
  refine ⟨b,low,L,rfl,hb,hL,?_⟩
  refine ite2 (fun c=>?_) (fun c=>?_)
  ·rw [if_pos (of_decide_eq_true c)] at q
   exact q
  ·rw [if_neg (fun z=>c (decide_eq_true z))] at q
   exact q
noncomputable def grow (low:Int):Nat->List Int->Tr
 | 0,ns=>if ns=[] then .non else .many ns.length
 | e+1,ns=>if ns=[] then .non else .part (ns.map fun n=>if n < low+2 ^ e then 0 else 1) (grow low e (ns.filter fun n=>decide (n < low+2 ^ e))) (grow (low+2 ^ e) e (ns.filter fun n=>decide (low+2 ^ e<=n)))
theorem q33 (low:Int) (e:Nat):grow low e [] = .non:=by cases e <;> rfl
theorem q30 {low:Int} {ns:List Int} (h:ns ≠ []):grow low 0 ns = .many ns.length:=by unfold grow;rw [if_neg h]
theorem q93 {low:Int} {e:Nat} {ns:List Int} (h:ns ≠ []):grow low (e+1) ns = .part (ns.map fun n=>if n < low+2 ^ e then 0 else 1) (grow low e (ns.filter fun n=>decide (n < low+2 ^ e))) (grow (low+2 ^ e) e (ns.filter fun n=>decide (low+2 ^ e<=n))):=by
 rw [grow,if_neg h]
theorem q261:∀ (e:Nat) (low:Int) (ns:List Int),(grow low e ns).deep<=e
 | 0,low,ns=>by
  by_cases h:ns=[]
  ·rw [h,q33];exact Nat.le_refl _
  ·rw [q30 h];exact Nat.le_refl _
 | e+1,low,ns=>by
  by_cases h:ns=[]
  ·rw [h,q33];exact Nat.zero_le _
  ·rw [q93 h]
   have h1:=q261 e low (ns.filter fun n=>decide (n < low+2 ^ e))
   have h2:=q261 e (low+2 ^ e) (ns.filter fun n=>decide (low+2 ^ e<=n))
   show max _ _+1<=e+1
   omega
def Tr.fit (b:Nat):Tr->Prop
 | .non=>True
 | .many _=>True
 | .part ms l r=>ms.length<=b/\Tr.fit b l/\Tr.fit b r
theorem q330 {b:Nat}:∀ (e:Nat) (low:Int) (ns:List Int),ns.length<=b->Tr.fit b (grow low e ns)
 | 0,low,ns,_=>by
  by_cases h:ns=[]
  ·rw [h,q33];trivial
  ·rw [q30 h];trivial
 | e+1,low,ns,hl=>by
  by_cases h:ns=[]
  ·rw [h,q33];trivial
  ·rw [q93 h]
   exact ⟨by rw [List.length_map];exact hl,q330 e _ _ (Nat.le_trans (List.length_filter_le _ _) hl),q330 e _ _ (Nat.le_trans (List.length_filter_le _ _) hl)⟩
abbrev kb_grown:Nat:=0
abbrev q511:Nat:=40
inductive spe_grown (K:Fg) (e:Nat) (vs:List V) (H:Hp) (Q:VK) (E:XK):Prop
 | mk (least:Int) (a:Addr) (ns:List Int) (_:vs=[.int least,.int (2 ^ e),.ref a]) (_:SqL K H a (ns.map V.int)) (_:ns.length<=1000) (_:∀ (H':Hp) (v:V),Same H H'->q25 H' v (grow least e ns)->Q v H'):spe_grown K e vs H Q E
def sp_grown (K:Fg):Sp:=fun vs H Q E=>∃ e,e<=q511/\spe_grown K e vs H Q E
theorem ok_grown (z:Bz K mg cA cB cC cD cG):Cal P w K mg base 41 "grown" ["least", "many", "row"] (sp_grown K):=by
 have sc:=sc_grown
 refine z.d_grown.recur (k:=kb_grown) (sp:=spe_grown K) q511 fun e hen c_grown f fd F=>F.k sc fun _ _ _ s H _ Q _ hr h=>?_
 obtain ⟨least,a,ns,rfl,ha,hl,q⟩:=h
 refine ⟨_,(q12 (ps_if (q26 op_eq (pln z.len_ (q10 (pv 2) q11)) q13 (q19 _))
 (q15 (q18 q58))
 q21)
 (q12 (ps_if (q26 op_eq (pv 1) q13 (q19 _))
 (q15 (q18 (q28 (q10 q42 (q10 (pln z.len_ (q10 (pv 2) q11)) q11)))))
 q21)
 (q12 (pst 3 sc.nd (pe_op q70 (pv 1) q13))
 (q12 (pst 4 sc.nd (pe_op q73 (pv 0) (pv 3)))
 (q12 (pst 5 sc.nd (q68 q91 (by rfl) z.tuple_ q139 (q10 (q109 (cl:=[("middle", s.heap.objs.size+1+0)]) (cn:=["middle"]) (N:=["middle"]) (fr:=[4]) (sc0:=q17 q245) rfl (q50 (pv 2)) (fun C s₂ H₂ fp=>(q309 (q26 op_lt (pv 0) (pv 1) (q19 _)) q13 q13)) (by with_unfolding_all rfl) ⟨by with_unfolding_all rfl,trivial⟩ rfl rfl rfl cok rfl) q11)))
 (q12 (pst 6 sc.nd (pe_fn c_grown (hr.mono (Nat.le_refl _)) (by rfl) (q10 (pv 0) (q10 (pv 3) (q10 (q71 (cl:=[("middle", s.heap.objs.size+1+0)]) (cn:=["middle"]) (N:=["middle"]) (fr:=[4]) (sc0:=q17 q245) rfl (q50 (pv 2)) (fun C s₂ H₂ fp=>(pv 0)) (fun C s₂ H₂ fp=>(q26 op_lt (pv 0) (pv 1) (q19 _))) (by with_unfolding_all rfl) ⟨by with_unfolding_all rfl,trivial⟩ rfl rfl rfl cok rfl) q11)))))
 (q12 (pst 7 sc.nd (pe_fn c_grown (hr.mono (Nat.le_refl _)) (by rfl) (q10 (pv 4) (q10 (pv 3) (q10 (q71 (cl:=[("middle", s.heap.objs.size+1+0)]) (cn:=["middle"]) (N:=["middle"]) (fr:=[4]) (sc0:=q17 q245) rfl (q50 (pv 2)) (fun C s₂ H₂ fp=>(pv 0)) (fun C s₂ H₂ fp=>(q26 op_ge (pv 0) (pv 1) (q19 _))) (by with_unfolding_all rfl) ⟨by with_unfolding_all rfl,trivial⟩ rfl rfl rfl cok rfl) q11)))))
 (q15 (q18 (q28 (q10 q42 (q10 (pv 5) (q10 (pv 6) (q10 (pv 7) q11)))))))))))))),?_⟩
 have hz:ns.length<=sizeLine:=sz hl
 refine ⟨_,rfl,a,_,rfl,.inl ha,rfl,_,rfl,?_⟩
 refine ite2 (fun c=>?_) (fun c=>?_)
 ·have c':(((ns.map V.int).length:Nat):Int)=0:=V.int.inj (of_decide_eq_true c)
  rw [List.length_map] at c'
  have e0:ns=[]:=List.eq_nil_of_length_eq_zero (by omega)
  subst e0
  exact q H .non (Same.refl H) (by rw [q33];rfl)
 ·have hne:ns ≠ []:=fun z=>c (by rw [z];exact decide_eq_true rfl)
  refine ⟨_,rfl,rfl,_,rfl,?_⟩
  refine ite2 (fun c2=>?_) (fun c2=>?_)
  ·have e0:e=0:=p2one (V.int.inj (of_decide_eq_true c2))
   subst e0
   refine ⟨_,rfl,a,_,rfl,.inl ha,szb rfl,fun p hp=>q _ _ (q16 hp _) ?_⟩
   rw [q30 hne]
   refine ⟨p,rfl,?_⟩
   rw [q14,List.length_map]
  ·cases e with
   | zero=>exact absurd (decide_eq_true rfl) c2
   | succ e=>
    refine ⟨_,rfl,_,_,rfl,rfl,⟨by decide,by decide⟩,?_⟩
    dsimp only
    rw [p2half]
    refine ⟨_,rfl,_,rfl,_,_,rfl,rfl,?_⟩
    refine ⟨_,rfl,a,rfl,⟨_,ha⟩,fun D hD=>?_⟩
    refine q240 (g:=fun n=>.int (if n < least+2 ^ e then 0 else 1)) ha hD hz (fun n _ H1 Q1 _ q1=>?_) ?_
    ·refine ⟨_,rfl,_,rfl,_,_,rfl,rfl,_,rfl,?_⟩
     refine ite2 (fun c3=>?_) (fun c3=>?_)
     ·rw [if_pos (of_decide_eq_true c3)] at q1
      exact q1
     ·rw [if_neg (fun z=>c3 (decide_eq_true z))] at q1
      exact q1
    have s1:=q16 hD (.lst (ns.map fun n=>V.int (if n < least+2 ^ e then 0 else 1)))
    refine ⟨D,_,rfl,SqL.of q14,fun m H2 s2 hm=>?_⟩
    have s02:Same H H2:=s1.trans s2
    have hm':TupF H2 m ((ns.map fun n=>if n < least+2 ^ e then (0:Int) else 1).map V.int):=by rw [List.map_map];exact hm
    refine ⟨_,rfl,_,rfl,_,rfl,a,rfl,⟨_,s02.seq ha⟩,fun D2 hD2=>?_⟩
    refine q110 (p:=fun n=>decide (n < least+2 ^ e)) (g:=V.int) (s02.seq ha) hD2 hz (fun n _ H1 Q1 _ q1=>⟨_,rfl,_,rfl,_,_,rfl,rfl,_,rfl,q1⟩) (fun n _ _ H1 Q1 _ q1=>⟨_,rfl,q1⟩) ?_
    refine ⟨least,D2,_,rfl,SqL.of q14,Nat.le_trans (List.length_filter_le _ _) hl,fun H3 lo s3 hlo=>?_⟩
    have s03:Same H H3:=s02.trans ((q16 hD2 _).trans s3)
    refine ⟨_,rfl,_,rfl,_,rfl,a,rfl,⟨_,s03.seq ha⟩,fun D3 hD3=>?_⟩
    refine q110 (p:=fun n=>decide (least+2 ^ e<=n)) (g:=V.int) (s03.seq ha) hD3 hz (fun n _ H1 Q1 _ q1=>⟨_,rfl,_,rfl,_,_,rfl,rfl,_,rfl,q1⟩) (fun n _ _ H1 Q1 _ q1=>⟨_,rfl,q1⟩) ?_
    refine ⟨least+2 ^ e,D3,_,rfl,SqL.of q14,Nat.le_trans (List.length_filter_le _ _) hl,fun H4 hi s4 hhi=>?_⟩
    have s34:Same H3 H4:=(q16 hD3 _).trans s4
    refine ⟨_,rfl,_,rfl,_,rfl,szb rfl,fun p hp=>q _ _ (s03.trans (s34.trans (q16 hp _))) ?_⟩
    rw [q93 hne]
    have sp:=q16 hp (.tup [.str "part", .ref m,lo,hi])
    have s24:Same H2 H4:=(q16 hD2 _).trans (s3.trans s34)
    exact ⟨p,m,lo,hi,rfl,q14,(hm'.same s24).same sp,(hlo.same s34).same sp,hhi.same sp⟩
inductive sp_tree_of (K:Fg) (vs:List V) (H:Hp) (Q:VK) (E:XK):Prop
 | mk (b a:Addr) (low:Int) (L:Nat) (ns:List Int) (_:vs=[.ref b,.ref a]) (_:SqT K H b [.int low,.int (L:Int)]) (_:L<=40) (_:SqL K H a (ns.map V.int)) (_:ns.length<=1000) (_:Wths low L ns) (_:∀ (H':Hp) (v:V),Same H H'->q25 H' v (grow low L ns)->Q v H'):sp_tree_of K vs H Q E
theorem q562 (z:Bz K mg cA cB cC cD cG):Cal P w K mg base 42 "tree_of" ["bounds", "row"] (sp_tree_of K):=by
 have sc:=q550
 refine z.d_tree_of.cal fun f fd F=>F.k sc fun _ _ _ s H _ Q _ hr h=>?_
 obtain ⟨b,a,low,L,ns,rfl,hb,hL,ha,hl,hw,q⟩:=h
 refine ⟨_,(q12 (q66 PassesOwn.never rfl (q50 (pv 1)) (pgn 2 sc.nd)
 (q15 (ps_if (q26 op_ne (pe_fn (q329 z) hr.m (by rfl) (q10 (pv 0) (q10 (pv 2) q11))) q42 (q19 _))
 (q15 q63)
 q21)))
 (q15 (q18 (pe_fn (ok_grown z) hr.m (by rfl) (q10 (pix q32 (pv 0) q13) (q10 (pe_fn (q44 z) hr.m (by rfl) (q10 (pix q32 (pv 0) q13) q11)) (q10 (pv 1) q11))))))),?_⟩
 refine ⟨_,rfl,a,rfl,⟨_,ha⟩,q215 (K:=K) (a:=a) (xs:=ns.map V.int) (fun i σ H2=>∃ v:Option V,σ=[some (.ref b),some (.ref a),v]/\H2=H) ⟨none,rfl,rfl⟩ (fun i σ H2 _ ⟨_,_,e⟩=>by rw [e];exact ha) ?_ ?_⟩
 ·rintro i x σ H2 hi ⟨v,rfl,rfl⟩
  obtain ⟨n,hn,rfl⟩:=List.mem_map.mp (List.mem_of_getElem? hi)
  refine ⟨_,rfl,_,rfl,b,low,n,L,rfl,hb,hL,rfl,_,rfl,iteNS (by rw [q654 (hw n hn)]) ?_⟩
  exact ⟨_,rfl,rfl⟩
 ·rintro σ H2 ⟨v,rfl,rfl⟩
  refine ⟨_,rfl,b,_,_,_,rfl,rfl,hb,rfl,_,rfl,b,_,_,_,rfl,rfl,hb,rfl,L,rfl,hL,?_⟩
  exact ⟨_,rfl,L,hL,low,a,ns,rfl,ha,hl,q⟩
abbrev q397:Nat:=0
abbrev q205:Nat:=40
inductive spe__law_tree (K:Fg) (e:Nat) (vs:List V) (H:Hp) (Q:VK) (E:XK):Prop
 | mk (low:Int) (a:Addr) (ns:List Int) (_:vs=[.int low,.int (e:Int),.ref a]) (_:SqL K H a (ns.map V.int)) (_:ns.length<=1000) (_:∀ (H':Hp) (v:V),Same H H'->q25 H' v (grow low e ns)->Q v H'):spe__law_tree K e vs H Q E
def q398 (K:Fg):Sp:=fun vs H Q E=>∃ e,e<=q205/\spe__law_tree K e vs H Q E
theorem q399 (z:Bz K mg cA cB cC cD cG):Cal P w K mg base 41 "_law_tree" pn13 (q398 K):=by
 have sc:=q390
 refine z.d__law_tree.recur (k:=q397) (sp:=spe__law_tree K) q205 fun e hen c__law_tree f fd F=>F.k sc fun _ _ _ s H _ Q _ hr h=>?_
 obtain ⟨least,a,ns,rfl,ha,hl,q⟩:=h
 refine ⟨_,(q12 (ps_if (q26 (op_eqL hr.units) (pv 2) (q36 q11) (q19 _))
 (q15 (q18 q58))
 q21)
 (q12 (ps_if (q26 op_eq (pv 1) q13 (q19 _))
 (q15 (q18 (q28 (q10 q42 (q10 (pln z.len_ (q10 (pv 2) q11)) q11)))))
 q21)
 (q12 (pst 3 sc.nd (pe_op q73 (pv 0) (pe_op q355 q13 (pe_op q81 (pv 1) q13))))
 (q12 (pst 4 sc.nd (q68 q91 (by rfl) z.tuple_ q139 (q10 (q109 (cl:=[("_law_half", s.heap.objs.size+1+0)]) (cn:=["_law_half"]) (N:=["_law_half"]) (fr:=[3]) (sc0:=q17 q92) rfl (q50 (pv 2)) (fun C s₂ H₂ fp=>(q68 q591 (by rfl) z.int_ bt_int (q10 (q184 op_ge (pv 0) (pv 1) (q19 _)) q11))) (by with_unfolding_all rfl) ⟨by with_unfolding_all rfl,trivial⟩ rfl rfl rfl cok rfl) q11)))
 (q12 (pst 5 sc.nd (pe_fn c__law_tree (hr.mono (Nat.le_refl _)) (by rfl) (q10 (pv 0) (q10 (pe_op q81 (pv 1) q13) (q10 (q71 (cl:=[("_law_half", s.heap.objs.size+1+0)]) (cn:=["_law_half"]) (N:=["_law_half"]) (fr:=[3]) (sc0:=q17 q92) rfl (q50 (pv 2)) (fun C s₂ H₂ fp=>(pv 0)) (fun C s₂ H₂ fp=>(q26 op_lt (pv 0) (pv 1) (q19 _))) (by with_unfolding_all rfl) ⟨by with_unfolding_all rfl,trivial⟩ rfl rfl rfl cok rfl) q11)))))
 (q15 (q18 (q28 (q10 q42 (q10 (pv 4) (q10 (pv 5) (q10 (pe_fn c__law_tree (hr.mono (Nat.le_refl _)) (by rfl) (q10 (pv 3) (q10 (pe_op q81 (pv 1) q13) (q10 (q71 (cl:=[("_law_half", s.heap.objs.size+1+0)]) (cn:=["_law_half"]) (N:=["_law_half"]) (fr:=[3]) (sc0:=q17 q92) rfl (q50 (pv 2)) (fun C s₂ H₂ fp=>(pv 0)) (fun C s₂ H₂ fp=>(q26 op_ge (pv 0) (pv 1) (q19 _))) (by with_unfolding_all rfl) ⟨by with_unfolding_all rfl,trivial⟩ rfl rfl rfl cok rfl) q11)))) q11)))))))))))),?_⟩
 have hz:ns.length<=sizeLine:=sz hl
 refine ⟨_,rfl,szb rfl,fun p0 hp0=>?_⟩
 have s0:=q16 hp0 (.lst [])
 refine ⟨a,p0,ns,[],rfl,rfl,s0.seq ha,SqL.of q14,_,rfl,?_⟩
 have ha:=s0.seq ha
 refine ite2 (fun c=>?_) (fun c=>?_)
 ·have e0:ns=[]:=of_decide_eq_true c
  subst e0
  exact q _ .non s0 (by rw [q33];rfl)
 ·have hne:ns ≠ []:=fun z=>c (decide_eq_true z)
  generalize hH0:upd H p0 (.lst [])=H0 at *
  refine ⟨_,rfl,rfl,_,rfl,?_⟩
  refine ite2 (fun c2=>?_) (fun c2=>?_)
  ·have e0':((e:Nat):Int)=0:=V.int.inj (of_decide_eq_true c2)
   have e0:e=0:=by omega
   subst e0
   refine ⟨_,rfl,a,_,rfl,.inl ha,szb rfl,fun p hp=>q _ _ (s0.trans (q16 hp _)) ?_⟩
   rw [q30 hne]
   refine ⟨p,rfl,?_⟩
   rw [q14,List.length_map]
  ·cases e with
   | zero=>exact absurd (decide_eq_true rfl) c2
   | succ e=>
    have hen':e+1<=40:=hen
    have ee:(((e+1:Nat):Int) - 1)=(e:Int):=by omega
    refine ⟨_,rfl,_,rfl,_,_,rfl,rfl,_,_,rfl,rfl,⟨by omega,by omega,by decide⟩,_,_,rfl,rfl,?_⟩
    dsimp only
    rw [ee,q365]
    refine ⟨_,rfl,a,rfl,⟨_,ha⟩,fun D hD=>?_⟩
    refine q240 (g:=fun n=>.int (if n < least+2 ^ e then 0 else 1)) ha hD hz (fun n _ H1 Q1 _ q1=>?_) ?_
    ·refine ⟨_,rfl,_,rfl,_,_,rfl,rfl,.inr ⟨_,rfl,?_⟩⟩
     by_cases c3:n < least+2 ^ e
     ·rw [if_pos c3] at q1
      rw [if_neg (by intro z;have:=of_decide_eq_true z;omega)]
      exact q1
     ·rw [if_neg c3] at q1
      rw [if_pos (decide_eq_true (by omega))]
      exact q1
    have s1:=q16 hD (.lst (ns.map fun n=>V.int (if n < least+2 ^ e then 0 else 1)))
    refine ⟨D,_,rfl,SqL.of q14,fun m H2 s2 hm=>?_⟩
    have s02:Same H0 H2:=s1.trans s2
    have hm':TupF H2 m ((ns.map fun n=>if n < least+2 ^ e then (0:Int) else 1).map V.int):=by rw [List.map_map];exact hm
    refine ⟨_,rfl,_,rfl,_,_,rfl,rfl,_,rfl,a,rfl,⟨_,s02.seq ha⟩,fun D2 hD2=>?_⟩
    refine q110 (p:=fun n=>decide (n < least+2 ^ e)) (g:=V.int) (s02.seq ha) hD2 hz (fun n _ H1 Q1 _ q1=>⟨_,rfl,_,rfl,_,_,rfl,rfl,_,rfl,q1⟩) (fun n _ _ H1 Q1 _ q1=>⟨_,rfl,q1⟩) ?_
    refine ⟨least,D2,_,congrArg (fun t=>[V.int least,V.int t,V.ref D2]) ee,SqL.of q14,Nat.le_trans (List.length_filter_le _ _) hl,fun H3 lo s3 hlo=>?_⟩
    have s03:Same H0 H3:=s02.trans ((q16 hD2 _).trans s3)
    refine ⟨_,rfl,_,rfl,_,rfl,_,rfl,_,_,rfl,rfl,_,rfl,a,rfl,⟨_,s03.seq ha⟩,fun D3 hD3=>?_⟩
    refine q110 (p:=fun n=>decide (least+2 ^ e<=n)) (g:=V.int) (s03.seq ha) hD3 hz (fun n _ H1 Q1 _ q1=>⟨_,rfl,_,rfl,_,_,rfl,rfl,_,rfl,q1⟩) (fun n _ _ H1 Q1 _ q1=>⟨_,rfl,q1⟩) ?_
    refine ⟨least+2 ^ e,D3,_,congrArg (fun t=>[V.int (least+2 ^ e),V.int t,V.ref D3]) ee,SqL.of q14,Nat.le_trans (List.length_filter_le _ _) hl,fun H4 hi s4 hhi=>?_⟩
    have s34:Same H3 H4:=(q16 hD3 _).trans s4
    refine ⟨szb rfl,fun p hp=>q _ _ (s0.trans (s03.trans (s34.trans (q16 hp _)))) ?_⟩
    rw [q93 hne]
    have sp:=q16 hp (.tup [.str "part", .ref m,lo,hi])
    have s24:Same H2 H4:=(q16 hD2 _).trans (s3.trans s34)
    exact ⟨p,m,lo,hi,rfl,q14,(hm'.same s24).same sp,(hlo.same s34).same sp,hhi.same sp⟩
noncomputable def q512:Tr->Int
 | .non=>0
 | .many n=>n
 | .part ms _ _=>ms.length
noncomputable def q133:Tr->Int->Tr
 | .part _ l r,mk=>if mk=0 then l else r
 | _,_=>.non
theorem q104 (low:Int) (e:Nat) (ns:List Int):q512 (grow low e ns)=ns.length:=by
 by_cases h:ns=[]
 ·rw [h,q33];rfl
 ·cases e with
  | zero=>rw [q30 h];rfl
  | succ e=>
   rw [q93 h]
   show ((List.map _ ns).length:Int)=_
   rw [List.length_map]
inductive sp_size_of (u0:Fg) (vs:List V) (H:Hp) (Q:VK) (E:XK):Prop
 | mk (v:V) (t:Tr) (_:vs=[v]) (_:q25 H v t) (_:Q (.int (q512 t)) H):sp_size_of u0 vs H Q E
theorem q75 (z:Bz K mg cA cB cC cD cG):Cal P w K mg base 1 "size_of" ["tree"] (sp_size_of K):=by
 have sc:=q552
 refine z.d_size_of.cal fun f fd F=>F.k sc fun _ _ _ s H _ Q _ hr h=>?_
 obtain ⟨v,t,rfl,ht,q⟩:=h
 refine ⟨_,(q12 (ps_if (q23 q123 (pr 0) q58 (q19 _))
 (q15 (q18 q13))
 q21)
 (q12 (ps_if (q23 op_eq (pix q29 (pr 0) q13) q42 (q19 _))
 (q15 (q18 (pix q29 (pr 0) q13)))
 q21)
 (q15 (q18 (pln z.len_ (q10 (pix q29 (pr 0) q13) q11)))))),?_⟩
 refine ⟨rfl,?_⟩
 cases t with
 | non=>
  cases ht
  exact ite2 (fun c=>q) (fun c=>absurd (decide_eq_true rfl) c)
 | many n=>
  obtain ⟨a,rfl,ha⟩:=ht
  refine ite2 (fun c=>absurd (of_decide_eq_true c) (by intro z;cases z)) (fun c=>?_)
  refine ⟨_,_,SqT.of ha,rfl,rfl,?_⟩
  refine ite2 (fun c=>?_) (fun c=>absurd (decide_eq_true rfl) c)
  exact ⟨_,_,SqT.of ha,rfl,q⟩
 | part ms l r=>
  obtain ⟨a,m,x,y,rfl,ha,hm,hl,hr'⟩:=ht
  refine ite2 (fun c=>absurd (of_decide_eq_true c) (by intro z;cases z)) (fun c=>?_)
  refine ⟨_,_,SqT.of ha,rfl,rfl,?_⟩
  refine ite2 (fun c=>absurd (of_decide_eq_true c) (by decide)) (fun c=>?_)
  refine ⟨_,_,SqT.of ha,rfl,m,_,rfl,.inr hm.sq,?_⟩
  rw [List.length_map]
  exact q
inductive sp_half_of (u0:Fg) (vs:List V) (H:Hp) (Q:VK) (E:XK):Prop
 | mk (v:V) (t:Tr) (mk:Int) (_:vs=[v,.int mk]) (_:q25 H v t) (_:(mk=0\/mk=1)) (_:∀ u,q25 H u (q133 t mk)->Q u H):sp_half_of u0 vs H Q E
theorem q76 (z:Bz K mg cA cB cC cD cG):Cal P w K mg base 1 "half_of" ["tree", "mark"] (sp_half_of K):=by
 have sc:=q551
 refine z.d_half_of.cal fun f fd F=>F.k sc fun _ _ _ s H _ Q _ hr h=>?_
 obtain ⟨v,t,mk,rfl,ht,hmk,q⟩:=h
 refine ⟨_,(q12 (ps_if (PW.pt (pw_or (q23 q123 (pr 0) q58 (q19 _)) (q88 (q23 op_eq (pix q29 (pr 0) q13) q42 (q19 _)))))
 (q15 (q18 q58))
 q21)
 (q15 (q18 (pix q29 (pr 0) (pe_op q40 q13 (pr 1)))))),?_⟩
 refine ⟨rfl,?_⟩
 cases t with
 | non=>
  cases ht
  exact ite2 (fun c=>q .non rfl) (fun c=>absurd (decide_eq_true rfl) c)
 | many n=>
  obtain ⟨a,rfl,ha⟩:=ht
  refine ite2 (fun c=>absurd (of_decide_eq_true c) (by intro z;cases z)) (fun c=>?_)
  refine ⟨_,_,SqT.of ha,rfl,rfl,?_⟩
  exact ite2 (fun c=>q .non rfl) (fun c=>absurd (decide_eq_true rfl) c)
 | part ms l r=>
  obtain ⟨a,m,x,y,rfl,ha,hm,hl,hr'⟩:=ht
  refine ite2 (fun c=>absurd (of_decide_eq_true c) (by intro z;cases z)) (fun c=>?_)
  refine ⟨_,_,SqT.of ha,rfl,rfl,?_⟩
  refine ite2 (fun c=>absurd (of_decide_eq_true c) (by decide)) (fun c=>?_)
  rcases hmk with rfl | rfl
  ·exact ⟨_,_,SqT.of ha,rfl,q x hl⟩
  ·exact ⟨_,_,SqT.of ha,rfl,q y hr'⟩
noncomputable def idxs (p:Int->Bool):List Int->List Nat
 | []=>[]
 | o::os=>if p o=true then 0::(idxs p os).map (· + 1) else (idxs p os).map (· + 1)
theorem q400:∀ (os:List Int) (k:Nat),(∀ o ∈ os,p o=(q o && r (f o)))->(idxs p os)[k]? = ((idxs r ((os.filter q).map f))[k]?).bind fun j=>(idxs q os)[j]?
 | [],k,_=>by simp [idxs]
 | o::os,k,h=>by
  have h0:=h o (List.mem_cons_self ..)
  have ih:=fun k=>q400 (p:=p) (q:=q) (r:=r) (f:=f) os k fun x hx=>h x (List.mem_cons_of_mem _ hx)
  cases hq:q o with
  | false=>
   have hp:p o=false:=by rw [h0,hq];rfl
   simp only [idxs,hp,hq,List.filter_cons,Bool.false_eq_true,if_false,List.getElem?_map,ih]
   cases (idxs r ((os.filter q).map f))[k]? <;> simp
  | true=>
   cases hr:r (f o) with
   | false=>
    have hp:p o=false:=by rw [h0,hq,hr];rfl
    simp only [idxs,hp,hq,hr,List.filter_cons,Bool.false_eq_true,if_false,if_true,List.map_cons,List.getElem?_map,ih]
    cases (idxs r ((os.filter q).map f))[k]? <;> simp
   | true=>
    have hp:p o=true:=by rw [h0,hq,hr];rfl
    cases k with
    | zero=>simp [idxs,hp,hq,hr,List.filter_cons]
    | succ k=>
     simp only [idxs,hp,hq,hr,List.filter_cons,if_true,List.map_cons,List.getElem?_cons_succ,List.getElem?_map,ih]
     cases (idxs r ((os.filter q).map f))[k]? <;> simp
theorem q401:∀ (os:List Int),idxs (fun _=>true) os=List.range os.length
 | []=>rfl
 | o::os=>by
  rw [idxs,if_pos rfl,q401 os,List.length_cons,List.range_succ_eq_map]
noncomputable def inW:Nat->Int->List Int->Bool
 | _,_,[]=>true
 | 0,_,_::_=>false
 | e+1,o,w::ws=>(o / 2 ^ e == w) && inW e (o % 2 ^ e) ws
noncomputable def mk0 (e:Nat) (o:Int):Int:=if o < 2 ^ e then 0 else 1
noncomputable def halfO (e:Nat) (w:Int) (os:List Int):List Int:=(os.filter fun o=>mk0 e o == w).map fun o=>o % 2 ^ e
theorem q655 {e:Nat} {o:Int} (h0:0<=o) (h1:o < 2 ^ (e+1)):o / 2 ^ e=mk0 e o:=by
 have hp:(0:Int) < 2 ^ e:=Int.pow_pos (by decide)
 have hs:(2:Int) ^ (e+1)=2 ^ e+2 ^ e:=by rw [Int.pow_succ];omega
 unfold mk0
 split
 ·exact Int.ediv_eq_zero_of_lt h0 (by assumption)
 ·have e1:o=(o - 2 ^ e)+1 * 2 ^ e:=by omega
  rw [e1,Int.add_mul_ediv_right _ _ (by omega),Int.ediv_eq_zero_of_lt (by omega) (by omega)]
  rfl
noncomputable def spots (L:Nat) (os ws:List Int):List Nat:=idxs (fun o=>inW L o ws) os
theorem q563 {e:Nat} {os ws:List Int} {w:Int} (h:∀ o ∈ os,0<=o/\o < (2:Int) ^ (e+1)) (k:Nat) :
  (spots (e+1) os (w::ws))[k]? = ((spots e (halfO e w os) ws)[k]?).bind fun j=>(idxs (fun o=>mk0 e o == w) os)[j]?:=by
 unfold spots halfO
 refine q400 os k fun o ho=>?_
 obtain ⟨h0,h1⟩:=h o ho
 show ((o / 2 ^ e == w) && inW e (o % 2 ^ e) ws)=_
 rw [q655 h0 h1]
noncomputable def plc (mk:Int):List Int->Int->Nat->Option Nat
 | [],_,_=>none
 | m::r,l,i=>if m=mk then (if l=0 then some i else plc mk r (l - 1) (i+1)) else plc mk r l (i+1)
theorem q331 {w:Int} {f:Int->Int}:∀ (os:List Int) (j i:Nat),plc w (os.map f) (j:Int) i=((idxs (fun o=>f o == w) os)[j]?).map (· + i)
 | [],j,i=>by simp [plc,idxs]
 | o::os,j,i=>by
  rw [List.map_cons,plc,idxs]
  by_cases c:f o=w
  ·rw [if_pos c,if_pos (beq_iff_eq.mpr c)]
   cases j with
   | zero=>simp
   | succ j=>
    rw [if_neg (by omega),show (((j+1:Nat):Int) - 1)=(j:Int) by omega,q331 os j (i+1),List.getElem?_cons_succ,List.getElem?_map,Option.map_map]
    congr 1
    funext x
    show x+(i+1)=(x+1)+i
    omega
  ·rw [if_neg c,if_neg (by rw [beq_iff_eq];exact c),q331 os j (i+1),List.getElem?_map,Option.map_map]
   congr 1
   funext x
   show x+(i+1)=(x+1)+i
   omega
def InO (L:Nat) (os:List Int):Prop:=∀ o ∈ os,0<=o/\o < (2:Int) ^ L
noncomputable def growO:Nat->List Int->Tr
 | 0,os=>if os=[] then .non else .many os.length
 | e+1,os=>if os=[] then .non else .part (os.map (mk0 e)) (growO e (os.filter fun o=>decide (o < 2 ^ e))) (growO e ((os.filter fun o=>decide ((2:Int) ^ e<=o)).map fun o=>o - 2 ^ e))
theorem q105 (e:Nat):growO e [] = .non:=by cases e <;> rfl
theorem q193 {os:List Int} (h:os ≠ []):growO 0 os = .many os.length:=by unfold growO;rw [if_neg h]
theorem q77 {e:Nat} {os:List Int} (h:os ≠ []):growO (e+1) os = .part (os.map (mk0 e)) (growO e (os.filter fun o=>decide (o < 2 ^ e))) (growO e ((os.filter fun o=>decide ((2:Int) ^ e<=o)).map fun o=>o - 2 ^ e)):=by
 rw [growO,if_neg h]
theorem halfO_0 {e:Nat} {os:List Int} (h:InO (e+1) os):halfO e 0 os=os.filter fun o=>decide (o < 2 ^ e):=by
 unfold halfO
 have e1:(os.filter fun o=>mk0 e o == 0)=os.filter fun o=>decide (o < 2 ^ e):=List.filter_congr fun o _=>by
  unfold mk0
  by_cases c:o < 2 ^ e
  ·rw [if_pos c,decide_eq_true c];rfl
  ·rw [if_neg c,decide_eq_false c];rfl
 rw [e1]
 have e2:∀ o ∈ (os.filter fun o=>decide (o < (2:Int) ^ e)),o % 2 ^ e=o:=fun o ho=>by
  obtain ⟨h1,h2⟩:=List.mem_filter.mp ho
  exact Int.emod_eq_of_lt (h o h1).1 (of_decide_eq_true h2)
 rw [List.map_congr_left e2,List.map_id']
theorem halfO_1 {e:Nat} {os:List Int} (h:InO (e+1) os):halfO e 1 os=(os.filter fun o=>decide ((2:Int) ^ e<=o)).map fun o=>o - 2 ^ e:=by
 unfold halfO
 have e1:(os.filter fun o=>mk0 e o == 1)=os.filter fun o=>decide ((2:Int) ^ e<=o):=List.filter_congr fun o _=>by
  unfold mk0
  by_cases c:o < 2 ^ e
  ·rw [if_pos c,decide_eq_false (by omega)];rfl
  ·rw [if_neg c,decide_eq_true (by omega)];rfl
 rw [e1]
 refine List.map_congr_left fun o ho=>?_
 obtain ⟨h1,h2⟩:=List.mem_filter.mp ho
 have h3:(2:Int) ^ e<=o:=of_decide_eq_true h2
 have h4:=(h o h1).2
 have hs:(2:Int) ^ (e+1)=2 ^ e+2 ^ e:=by rw [Int.pow_succ];omega
 have e3:o=(o - 2 ^ e)+2 ^ e:=by omega
 have e4:o % 2 ^ e=(o - 2 ^ e) % 2 ^ e:=by rw [e3,Int.add_emod_right];congr 1;omega
 rw [e4]
 exact Int.emod_eq_of_lt (by omega) (by omega)
theorem q46 {e:Nat} {os:List Int} {w:Int}:InO e (halfO e w os):=fun o ho=>by
 obtain ⟨x,_,rfl⟩:=List.mem_map.mp ho
 have hp:(0:Int) < 2 ^ e:=Int.pow_pos (by decide)
 exact ⟨Int.emod_nonneg _ (by omega),Int.emod_lt_of_pos _ hp⟩
theorem q134 {e:Nat} {os:List Int} {w:Int}:(halfO e w os).length<=os.length:=by
 unfold halfO
 rw [List.length_map]
 exact List.length_filter_le _ _
theorem q194 {e:Nat} {os:List Int} {w:Int} (h:InO (e+1) os) (hw:w=0\/w=1):q133 (growO (e+1) os) w=growO e (halfO e w os):=by
 by_cases hn:os=[]
 ·subst hn
  rw [q105]
  show Tr.non=growO e ([]:List Int)
  rw [q105]
 ·rw [q77 hn]
  rcases hw with rfl | rfl
  ·rw [halfO_0 h];rfl
  ·rw [halfO_1 h];rfl
theorem q299 (e:Nat) (os:List Int):q512 (growO e os)=os.length:=by
 by_cases h:os=[]
 ·rw [h,q105];rfl
 ·cases e with
  | zero=>rw [q193 h];rfl
  | succ e=>
   rw [q77 h]
   show ((List.map _ os).length:Int)=_
   rw [List.length_map]
theorem q656 {L:Nat}:spots L [] ws=[]:=rfl
theorem q453 {L:Nat} {os:List Int}:spots L os []=List.range os.length:=by
 unfold spots
 have e:(fun o=>inW L o [])=fun _=>true:=by
  funext o
  cases L <;> rfl
 rw [e,q401]
theorem q564 {e:Nat} {os ws:List Int} {w:Int} (h:InO (e+1) os) (k:Nat) :
  (spots (e+1) os (w::ws))[k]? = ((spots e (halfO e w os) ws)[k]?).bind fun j=>plc w (os.map (mk0 e)) (j:Int) 0:=by
 rw [q563 h]
 congr 1
 funext j
 rw [q331]
 simp
def B01 (l:List Int):Prop:=∀ m ∈ l,m=0\/m=1
theorem q402 {l:List Int} {i:Nat} {m:Int} (h:l[i]? = some m):l.drop i=m::l.drop (i+1):=by
 obtain ⟨h1,h2⟩:=List.getElem?_eq_some_iff.mp h
 rw [List.drop_eq_getElem_cons h1,h2]
theorem plc_cons {mk m l:Int} {i:Nat}:plc mk (m::r) l i=if m=mk then (if l=0 then some i else plc mk r (l - 1) (i+1)) else plc mk r l (i+1):=rfl
theorem q112 (ms:List Int) (k:Nat):cutV (ms.map V.int) none (some (k:Int))=(ms.take k).map V.int:=by
 unfold cutV
 rw [HT.q692,HT.q691,List.drop_zero,Nat.sub_zero,List.map_take]
 by_cases h:k<=(ms.map V.int).length
 ·rw [Nat.min_eq_left h]
 ·rw [Nat.min_eq_right (by omega),List.take_length,List.take_of_length_le (by omega)]
inductive sp_place_of (K:Fg) (vs:List V) (H:Hp) (Q:VK) (E:XK):Prop
 | mk (t:Addr) (ms:List Int) (mk num:Int) (p:Nat) (_:vs=[.ref t,.int mk,.int num]) (_:SqT K H t (ms.map V.int)) (_:plc mk ms num 0=some p) (_:∀ H',Same H H'->Q (.int (p:Nat)) H'):sp_place_of K vs H Q E
theorem q454 (z:Bz K mg cA cB cC cD cG):Cal P w K mg base 1 "place_of" ["marks", "mark", "number"] (sp_place_of K):=by
 have sc:=q444
 refine z.d_place_of.cal fun f fd F=>F.k sc fun _ _ _ s H _ Q _ hr h=>?_
 obtain ⟨t,ms,mk,num,p0,rfl,ht,hp0,q⟩:=h
 refine ⟨_,(q12 (pst 3 sc.nd (pv 2))
 (q12 (q66 PassesOwn.never rfl (pi_enum rfl z.enumerate_ (q10 (pv 0) q11)) (q225 rfl (q35 (pgn 4 sc.nd) (q35 (pgn 5 sc.nd) q122)))
 (q15 (ps_if (q26 op_eq (pv 5) (pv 1) (q19 _))
 (q12 (ps_if (q26 op_eq (pv 3) q13 (q19 _))
 (q15 (q18 (pv 4)))
 q21)
 (q15 (pst 3 sc.nd (pe_op q81 (pv 3) q13))))
 q21)))
 (q15 q63))),?_⟩
 refine ⟨_,rfl,_,rfl,t,rfl,⟨_,ht⟩,for_enum (xs:=ms.map V.int) (fun i σ H2=>∃ (L:Int) (v u:Option V),σ=[some (.ref t),some (.int mk),some (.int num),some (.int L),v,u]/\Same H H2/\plc mk (ms.drop i) L i=some p0)
  ⟨num,none,none,rfl,Same.refl H,hp0⟩ (fun i σ H2 _ ⟨_,_,_,_,s2,_⟩=>s2.seqT ht) ?_ ?_⟩
 ·rintro i x σ H2 p hx ⟨L,v,u,rfl,s2,hp⟩ hpn
  obtain ⟨m,gm,rfl⟩:∃ m,ms[i]? = some m/\V.int m=x:=by
   rw [List.getElem?_map] at hx
   cases e:ms[i]? with
   | none=>rw [e] at hx;cases hx
   | some m=>rw [e] at hx;exact ⟨m,rfl,Option.some.inj hx⟩
  have s3:Same H (upd H2 p (.tup [.int (i:Nat),.int m])):=s2.trans (q16 hpn _)
  rw [q402 gm,plc_cons] at hp
  refine ⟨p,_,rfl,SqT.of q14,rfl,_,_,rfl,_,_,rfl,rfl,?_⟩
  refine ⟨_,rfl,_,rfl,rfl,_,rfl,?_⟩
  refine ite2 (fun c=>?_) (fun c=>?_)
  ·have c':m=mk:=V.int.inj (of_decide_eq_true c)
   rw [if_pos c'] at hp
   refine ⟨_,rfl,rfl,_,rfl,?_⟩
   refine ite2 (fun c2=>?_) (fun c2=>?_)
   ·have c2':L=0:=V.int.inj (of_decide_eq_true c2)
    rw [if_pos c2'] at hp
    cases hp
    exact ⟨_,rfl,q _ s3⟩
   ·have c2':¬ L=0:=fun z=>c2 (by rw [z];exact decide_eq_true rfl)
    rw [if_neg c2'] at hp
    exact ⟨_,rfl,_,_,rfl,rfl,_,_,_,rfl,s3,hp⟩
  ·have c':¬ m=mk:=fun z=>c (by rw [z];exact decide_eq_true rfl)
   rw [if_neg c'] at hp
   exact ⟨_,_,_,rfl,s3,hp⟩
 ·rintro σ H2 ⟨L,v,u,rfl,s2,hp⟩
  rw [List.length_map,List.drop_length] at hp
  cases hp
theorem all_flat (ms:List Int):(ms.map V.int).all flatV=true:=by
 rw [List.all_eq_true]
 intro x hx
 obtain ⟨i,_,rfl⟩:=List.mem_map.mp hx
 rfl
theorem q657 (ms:List Int) (m:Int):(ms.map V.int).countP (fun y=>eqV y (.int m))=ms.count m:=by
 rw [List.countP_map,List.count_eq_countP]
 rfl
inductive sp_ahead (u0:Fg) (vs:List V) (H:Hp) (Q:VK) (E:XK):Prop
 | mk (t:Addr) (ms:List Int) (mk:Int) (pl:Nat) (_:vs=[.ref t,.int mk,.int (pl:Int)]) (_:TupF H t (ms.map V.int)) (_:∀ H',Same H H'->Q (.int ((ms.take pl).count mk:Nat)) H'):sp_ahead u0 vs H Q E
theorem q169 (z:Bz K mg cA cB cC cD cG):Cal P w K mg base 1 "ahead" ["marks", "mark", "place"] (sp_ahead K):=by
 have sc:=sc_ahead
 refine z.d_ahead.cal fun f fd F=>F.k sc fun _ _ _ s H _ Q _ hr h=>?_
 obtain ⟨t,ms,mk,pl,rfl,ht,q⟩:=h
 refine ⟨_,(q15 (q18 (pe_bmF PySem.F.plainAttrs_tuple PySem.F.slot_tuple_count PySem.F.type_tuple_count q608 (q45 q126 (pv 0) q60 (q51 (q67 (q589 rfl) (by rfl) z.max_ bt_max (q10 (pv 2) (q10 q13 q11))))) (q10 (pv 1) q11)))),?_⟩
 have e1:(if (0:Int) > (pl:Int) then (0:Int) else (pl:Int))=(pl:Int):=if_neg (by omega)
 refine ⟨_,rfl,_,rfl,_,_,rfl,_,rfl,t,_,rfl,ht,fun p H1 s1 h1=>?_⟩
 rw [e1,q112] at h1
 obtain ⟨o,ho,hc,hd⟩:=id h1
 refine ⟨⟨p,o,_,rfl,ho,hc,hd⟩,_,rfl,p,_,_,rfl,rfl,h1.sq,rfl,all_flat _,?_⟩
 rw [q657]
 exact q H1 s1
abbrev G3:=List Int × Nat × Nat
def GoodS (L:Nat) (g:G3):Prop:=InO L g.1/\g.2.1<=g.2.2/\g.2.2<=g.1.length/\g.1.length<=300
noncomputable def led1 (e:Nat) (w:Int) (g:G3):G3:=(halfO e w g.1,((g.1.map (mk0 e)).take g.2.1).count w,((g.1.map (mk0 e)).take g.2.2).count w)
noncomputable def ledS:Nat->List Int->G3->G3
 | _,[],g=>g
 | 0,_::_,g=>g
 | e+1,w::ws,g=>ledS e ws (led1 e w g)
theorem q65 (L:Nat) (g:G3):ledS L [] g=g:=by cases L <;> rfl
theorem q80 (e:Nat) (w:Int) (ws:List Int) (g:G3):ledS (e+1) (w::ws) g=ledS e ws (led1 e w g):=rfl
theorem q217 (e:Nat) (w:Int) (os:List Int):(os.map (mk0 e)).count w=(halfO e w os).length:=by
 unfold halfO
 rw [List.length_map,List.count_eq_countP,List.countP_map,List.countP_eq_length_filter]
 rfl
theorem q135 {e:Nat} {w:Int} (h:GoodS (e+1) g):GoodS e (led1 e w g):=by
 obtain ⟨h1,h2,h3,h4⟩:=h
 refine ⟨q46,?_,?_,Nat.le_trans q134 h4⟩
 ·exact (List.take_sublist_take_left h2).count_le w
 ·show ((g.1.map (mk0 e)).take g.2.2).count w<=(halfO e w g.1).length
  rw [<- q217]
  exact (List.take_sublist _ _).count_le w
theorem q403 {e:Nat} {w:Int} {g:G3} (h:halfO e w g.1=[]):led1 e w g=([],0,0):=by
 have z:∀ k,((g.1.map (mk0 e)).take k).count w=0:=fun k=>by
  have h1:=(List.take_sublist k (g.1.map (mk0 e))).count_le w
  rw [q217,h,List.length_nil] at h1
  omega
 unfold led1
 rw [h,z,z]
theorem q513:∀ (e:Nat) (ws:List Int),ledS e ws ([],0,0)=([],0,0)
 | e,[]=>q65 e _
 | 0,_::_=>rfl
 | e+1,w::ws=>by
  rw [q80,q403 (e:=e) (w:=w) (g:=([],0,0)) rfl]
  exact q513 e ws
noncomputable def manyG (gs:List G3):Int:=(gs.map fun g=>(g.2.2:Int) - g.2.1).sum
theorem cnt01 {e:Nat} (os:List Int) (k:Nat):((os.map (mk0 e)).take k).count 0+((os.map (mk0 e)).take k).count 1=min k os.length:=by
 have z:∀ l:List Int,(l.map (mk0 e)).count 0+(l.map (mk0 e)).count 1=l.length:=fun l=>by
  induction l with
  | nil=>rfl
  | cons x l ih=>
   rw [List.map_cons,List.count_cons,List.count_cons,List.length_cons]
   unfold mk0 at ih ⊢
   by_cases c:x < 2 ^ e
   ·simp only [c,if_true] at ih ⊢
    simp
    omega
   ·simp only [c,if_false] at ih ⊢
    simp
    omega
 rw [<- List.map_take,z,List.length_take]
theorem q300 {p q:Int->Bool}:∀ {os:List Int},(∀ o ∈ os,p o=q o)->idxs p os=idxs q os
 | [],_=>rfl
 | o::os,h=>by
  rw [idxs,idxs,h o (List.mem_cons_self ..),q300 fun x hx=>h x (List.mem_cons_of_mem _ hx)]
def StrAt (H:Hp) (L:Nat) (v:V) (g:G3):Prop:=∃ t u,v = .ref t/\H t=some (.tup [u,.int (g.2.1:Int),.int (g.2.2:Int)])/\q25 H u (growO L g.1)
def GatAt (H:Hp) (L:Nat) (xs:List V) (gs:List G3):Prop:=xs.length=gs.length /\ ∀ (j:Nat) (x:V) (g:G3),xs[j]? = some x->gs[j]? = some g->StrAt H L x g
theorem StrAt.tk {L:Nat} (h:StrAt H L v g) (k:TKeep H H'):StrAt H' L v g:=by
 obtain ⟨t,u,e,h1,h2⟩:=h
 exact ⟨t,u,e,(k _ _).1 h1,h2.tk k⟩
theorem GatAt.tk {L:Nat} (h:GatAt H L xs gs) (k:TKeep H H'):GatAt H' L xs gs:=⟨h.1,fun j x g h1 h2=>(h.2 j x g h1 h2).tk k⟩
theorem GatAt.same {L:Nat} (h:GatAt H L xs gs) (s:Same H H'):GatAt H' L xs gs:=h.tk (.same s)
theorem GatAt.nil (H:Hp) (L:Nat):GatAt H L [] []:=⟨rfl,fun j x g h1 _=>by simp at h1⟩
theorem q83 {α:Type} {l:List α} {x y:α} {j:Nat} (h:(l++[x])[j]? = some y):(j < l.length/\l[j]? = some y)\/(j=l.length/\y=x):=by
 by_cases hj:j < l.length
 ·rw [List.getElem?_append_left hj] at h
  exact .inl ⟨hj,h⟩
 ·have hlt:j < (l++[x]).length:=(List.getElem?_eq_some_iff.mp h).1
  rw [List.length_append,List.length_singleton] at hlt
  have e:j=l.length:=by omega
  subst e
  rw [List.getElem?_append_right (Nat.le_refl _),Nat.sub_self] at h
  exact .inr ⟨rfl,(Option.some.inj h).symm⟩
theorem GatAt.snoc {L:Nat} (h:GatAt H L xs gs) (hx:StrAt H L x g):GatAt H L (xs++[x]) (gs++[g]):=by
 refine ⟨by rw [List.length_append,List.length_append,h.1] <;> rfl,fun j y k h1 h2=>?_⟩
 have hl:=h.1
 rcases q83 h1 with ⟨a1,a2⟩ | ⟨a1,a2⟩
 ·rcases q83 h2 with ⟨b1,b2⟩ | ⟨b1,b2⟩
  ·exact h.2 j y k a2 b2
  ·omega
 ·rcases q83 h2 with ⟨b1,b2⟩ | ⟨b1,b2⟩
  ·omega
  ·rw [a2,b2];exact hx
theorem Same.own (k:Same H H') (hr:H r=none):Same H (upd H' r o):=fun c u z=>by
 rw [q31 (q27 z hr)]
 exact k c u z
theorem q658 {H:Hp} {e:Nat} {os:List Int} (h:q25 H .non (growO e os)):os=[]:=by
 apply Classical.byContradiction
 intro hn
 cases e with
 | zero=>
  rw [q193 hn] at h
  obtain ⟨a,z,_⟩:=h
  cases z
 | succ e=>
  rw [q77 hn] at h
  obtain ⟨a,m,x,y,z,_⟩:=h
  cases z
def q148 (K:Fg):Sp:=fun vs H Q _=>∃ (v:V) (wy:Addr) (L:Nat) (ws:List Int) (g:G3),vs=[v,.ref wy]/\StrAt H L v g/\GoodS L g/\SqT K H wy (ws.map V.int)/\ws.length<=L/\B01 ws /\
 ∀ (H':Hp) (v':V),Same H H'->StrAt H' (L - ws.length) v' (ledS L ws g)->Q v' H'
inductive sp_led (K:Fg) (vs:List V) (H:Hp) (Q:VK) (E:XK):Prop
 | mk (ga wy:Addr) (xs:List V) (L:Nat) (ws:List Int) (gs:List G3) (_:vs=[.ref ga,.ref wy]) (_:SqL K H ga xs) (_:GatAt H L xs gs) (_:(∀ g ∈ gs,GoodS L g)) (_:gs.length<=1000) (_:SqT K H wy (ws.map V.int)) (_:ws.length<=L) (_:B01 ws) (_:∀ (H':Hp) (D:Addr) (ys:List V),Same H H'->H' D=some (.lst ys)->H D=none->GatAt H' (L - ws.length) ys (gs.map (ledS L ws))->Q (.ref D) H'):sp_led K vs H Q E
inductive sp_many_in (K:Fg) (vs:List V) (H:Hp) (Q:VK) (E:XK):Prop
 | mk (ga:Addr) (xs:List V) (L:Nat) (gs:List G3) (_:vs=[.ref ga]) (_:SqL K H ga xs) (_:GatAt H L xs gs) (_:gs.length<=1000) (_:∀ H',Same H H'->Q (.int (manyG gs)) H'):sp_many_in K vs H Q E
theorem q49 (z:Bz K mg cA cB cC cD cG):Cal P w K mg base 1 "many_in" ["gathering"] (sp_many_in K):=by
 have sc:=q554
 refine z.d_many_in.cal fun f fd F=>F.k sc fun _ _ _ s H _ Q _ hr h=>?_
 obtain ⟨ga,xs,L,gs,rfl,hga,hg,hl,q⟩:=h
 refine ⟨_,(q15 (q18 (q67 (q616 rfl) (by rfl) z.sum_ bt_sum (q10 (q109 (cl:=[]) (cn:=[]) (N:=[]) (fr:=[]) (sc0:=q17 q249) rfl (q50 (pr 0)) (fun C s₂ H₂ fp=>(pe_op q146 (pix (q152 (K:=K) rfl) (pr 0) q13) (pix (q152 (K:=K) rfl) (pr 0) q13))) (by with_unfolding_all rfl) trivial rfl rfl rfl cok rfl) q11)))),?_⟩
 have hxl:=hg.1
 refine ⟨ga,rfl,⟨_,hga⟩,fun D hD=>?_⟩
 refine q187 (xs:=xs) (sz (by omega)) (fun i ys H2=>ys=(gs.take i).map (fun g=>V.int ((g.2.2:Int) - g.2.1))/\i<=gs.length/\H2=upd H D (.lst ys)) ⟨by simp,Nat.zero_le _,rfl⟩ (fun i ys H2 ⟨_,_,e⟩=>by rw [e];exact (q16 hD _).seq hga)
  (fun i ys H2 ⟨e1,e2,e3⟩=>⟨by rw [e3];exact q14,by rw [e1,List.length_map,List.length_take];omega⟩) ?_ ?_
 ·rintro i x ys H2 hx ⟨e1,e2,rfl⟩
  have hi:i < gs.length:=by rw [<- hxl];exact (List.getElem?_eq_some_iff.mp hx).1
  have gi:gs[i]? = some gs[i]:=List.getElem?_eq_getElem hi
  generalize gs[i]=g at gi
  obtain ⟨t,u,rfl,ht,_⟩:=hg.2 i x g hx gi
  have ht':SqT K (upd H D (.lst ys)) t [u,.int (g.2.1:Int),.int (g.2.2:Int)]:=SqT.of (q16 hD _ _ _ ht)
  refine ⟨_,_,ht',rfl,_,_,ht',rfl,q14,?_,by omega,by rw [q182]⟩
  rw [List.take_add_one,gi,List.map_append,<- e1]
  rfl
 ·rintro ys H2 ⟨e1,e2,rfl⟩
  rw [hxl,List.take_length] at e1
  refine ⟨D,gs.map (fun (g:G3)=>(g.2.2:Int) - (g.2.1:Int)),rfl,SqL.of ?_,q _ (q16 hD _)⟩
  rw [q14,e1,List.map_map]
  rfl
theorem q100 (z:Bz K mg cA cB cC cD cG):Cal P w K mg base 2 "led_stretch" ["stretch", "way"] (q148 K):=by
 have sc:=q273
 refine z.d_led_stretch.cal fun f fd F=>F.ok sc (fun _ _ _ _ ⟨_,_,_,_,_,e,_⟩=>by rw [e];rfl) fun _ _ _ s H _ Q _ hr h=>?_
 obtain ⟨v,wy,L,ws,g,rfl,⟨t,u,rfl,ht,hu⟩,hgood,hw,hwl,h01,q⟩:=h
 refine ⟨_,(q12 (pst 2 sc.nd (pix q29 (pr 0) q13))
 (q12 (pst 3 sc.nd (pix q29 (pr 0) q13))
 (q12 (pst 4 sc.nd (pix q29 (pr 0) q13))
 (q12 (q66 PassesOwn.never rfl (q354 (pr 1)) (pgn 5 sc.nd)
 (q12 (pst 6 sc.nd (pe_fn (q76 z) hr.m (by rfl) (q10 (pr 2) (q10 (pr 5) q11))))
 (q12 (ps_if (q23 q123 (pr 6) q58 (q19 _))
 (q15 (q18 (q28 (q10 q58 (q10 q13 (q10 q13 q11))))))
 q21)
 (q12 (pst 3 sc.nd (pe_fn (q169 z) hr.m (by rfl) (q10 (pix q29 (pr 2) q13) (q10 (pr 5) (q10 (pr 3) q11)))))
 (q12 (pst 4 sc.nd (pe_fn (q169 z) hr.m (by rfl) (q10 (pix q29 (pr 2) q13) (q10 (pr 5) (q10 (pr 4) q11)))))
 (q15 (pst 2 sc.nd (pr 6))))))))
 (q15 (q18 (q28 (q10 (pr 2) (q10 (pr 3) (q10 (pr 4) q11)))))))))),?_⟩
 have htt:SqT K H t [u,.int (g.2.1:Int),.int (g.2.2:Int)]:=SqT.of ht
 refine ⟨_,_,htt,rfl,_,_,htt,rfl,_,_,htt,rfl,?_⟩
 refine ⟨wy,rfl,⟨_,hw⟩,q431 (K:=K) (a:=wy) (xs:=ws.map V.int) (fun i σ H2=>∃ (u':V) (g':G3) (v5 v6:Option V),σ=[some (.ref t),some (.ref wy),some u',some (.int (g'.2.1:Int)),some (.int (g'.2.2:Int)),v5,v6]/\Same H H2/\q25 H2 u' (growO (L - i) g'.1)/\GoodS (L - i) g'/\i<=ws.length/\ledS L ws g=ledS (L - i) (ws.drop i) g')
  ⟨u,g,none,none,rfl,Same.refl H,hu,hgood,Nat.zero_le _,rfl⟩ (fun i σ H2 _ ⟨_,_,_,_,_,s2,_⟩=>s2.seqT hw) ?_ ?_⟩
 ·rintro i x σ H2 hi ⟨u',g',v5,v6,rfl,s2,hu',hg',hil,hled⟩
  obtain ⟨wv,hwv,rfl⟩:∃ t,ws[i]? = some t/\x = .int t:=by
   rw [List.getElem?_map] at hi
   cases e:ws[i]? with
   | none=>rw [e] at hi;cases hi
   | some m=>rw [e] at hi;exact ⟨m,rfl,(Option.some.inj hi).symm⟩
  have hil2:i < ws.length:=(List.getElem?_eq_some_iff.mp hwv).1
  have hw01:=h01 wv (List.mem_of_getElem? hwv)
  obtain ⟨e,he⟩:∃ e,L - i=e+1:=⟨L - i - 1,by omega⟩
  have he2:L - (i+1)=e:=by omega
  have hdr:ws.drop i=wv::ws.drop (i+1):=by
   obtain ⟨h1,h2⟩:=List.getElem?_eq_some_iff.mp hwv
   rw [List.drop_eq_getElem_cons h1,h2]
  rw [he] at hu' hg' hled
  rw [hdr,q80] at hled
  refine ⟨u',_,wv,rfl,hu',hw01,fun u2 hu2=>?_⟩
  rw [q194 hg'.1 hw01] at hu2
  refine ⟨rfl,?_⟩
  refine ite2 (fun c=>?_) (fun c=>?_)
  ·have c':u2 = .non:=of_decide_eq_true c
   subst c'
   have h0:=q658 hu2
   rw [q403 h0,q513] at hled
   refine ⟨szb rfl,fun p hp=>q _ _ (s2.trans (q16 hp _)) ?_⟩
   rw [hled]
   exact ⟨p,.non,rfl,q14,by rw [q105];rfl⟩
  ·have hne:g'.1 ≠ []:=fun z=>c (by
    rw [z] at hu2
    have e0:halfO e wv []=[]:=rfl
    rw [e0,q105] at hu2
    exact decide_eq_true hu2)
   have hu3:=hu'
   rw [q77 hne] at hu3
   obtain ⟨a,m,x1,y1,rfl,ha,hm,_,_⟩:=hu3
   refine ⟨_,_,SqT.of ha,rfl,m,g'.1.map (mk0 e),wv,g'.2.1,rfl,hm,fun H3 s3=>?_⟩
   refine ⟨_,_,SqT.of (s3 _ _ ha),rfl,m,g'.1.map (mk0 e),wv,g'.2.2,rfl,hm.same s3,fun H4 s4=>?_⟩
   refine ⟨u2,led1 e wv g',_,_,rfl,s2.trans (s3.trans s4),?_,?_,by omega,?_⟩
   ·rw [he2];exact (hu2.same s3).same s4
   ·rw [he2];exact q135 hg'
   ·rw [he2];exact hled
 ·rintro σ H2 ⟨u',g',v5,v6,rfl,s2,hu',hg',hil,hled⟩
  rw [List.length_map] at hu' hled
  rw [List.drop_length,q65] at hled
  refine ⟨szb rfl,fun p hp=>q _ _ (s2.trans (q16 hp _)) ?_⟩
  rw [hled]
  exact ⟨p,u',rfl,q14,hu'.same (q16 hp _)⟩
theorem q170 (z:Bz K mg cA cB cC cD cG):Cal P w K mg base 3 "led" pn17 (sp_led K):=by
 have sc:=sc_led
 refine z.d_led.cal fun f fd F=>F.k sc fun _ _ _ s H _ Q _ hr h=>?_
 obtain ⟨ga,wy,xs,L,ws,gs,rfl,hga,hg,hgood,hl,hw,hwl,h01,q⟩:=h
 refine ⟨_,(q15 (q18 (q109 (cl:=[("way", s.heap.objs.size+1+0)]) (cn:=["way"]) (N:=["way"]) (fr:=[1]) (sc0:=q17 s_led) rfl (q50 (pr 0)) (fun C s₂ H₂ fp=>(pe_fn (q100 z) hr.m (by rfl) (q10 (pr 0) (q10 (pr 1) q11)))) (by with_unfolding_all rfl) ⟨by with_unfolding_all rfl,trivial⟩ rfl rfl rfl cok rfl))),?_⟩
 have hxl:=hg.1
 refine ⟨ga,rfl,⟨_,hga⟩,fun D hD=>?_⟩
 refine q187 (xs:=xs) (sz (by omega)) (fun i ys H2=>H2 D=some (.lst ys)/\ys.length=i/\Same H H2/\GatAt H2 (L - ws.length) ys ((gs.take i).map (ledS L ws))) ⟨q14,rfl,q16 hD _,by simp only [List.take_zero,List.map_nil];exact GatAt.nil _ _⟩ (fun i ys H2 ⟨_,_,e,_⟩=>e.seq hga)
  (fun i ys H2 ⟨e1,e2,_,_⟩=>⟨e1,e2⟩) ?_ ?_
 ·rintro i x ys H2 hx ⟨e1,e2,s2,hg2⟩
  have hi:i < gs.length:=by rw [<- hxl];exact (List.getElem?_eq_some_iff.mp hx).1
  have gi:gs[i]? = some gs[i]:=List.getElem?_eq_getElem hi
  generalize gs[i]=g at gi
  refine ⟨x,wy,L,ws,g,rfl,(hg.2 i x g hx gi).tk (.same s2),hgood g (List.mem_of_getElem? gi),s2.seqT hw,hwl,h01,fun H3 v' s3 hv'=>?_⟩
  have e3:=s3 _ _ e1
  have tk:TKeep H3 (upd H3 D (.lst (ys++[v']))):=TKeep.set e3
  refine ⟨e3,q14,by rw [List.length_append,e2] <;> rfl,Same.own (s2.trans s3) hD,?_⟩
  rw [List.take_add_one,gi,List.map_append]
  exact ((hg2.same s3).tk tk).snoc (hv'.tk tk)
 ·rintro ys H2 ⟨e1,e2,s2,hg2⟩
  rw [hxl,List.take_length] at hg2
  exact q H2 D ys s2 e1 hD hg2
theorem q195 {q:Int->Bool}:∀ (os:List Int) (s:Nat),(os.filter q).take ((os.take s).countP q)=(os.take s).filter q
 | [],s=>by simp
 | x::os,0=>by simp
 | x::os,s+1=>by
  rw [List.take_succ_cons,List.countP_cons,List.filter_cons,List.filter_cons]
  by_cases c:q x=true
  ·rw [if_pos c,if_pos c,if_pos c,List.take_succ_cons,q195 os s]
  ·rw [if_neg c,if_neg c,if_neg c,Nat.add_zero]
   exact q195 os s
theorem q196 {e:Nat} {w:Int} (os:List Int) (s:Nat):(halfO e w os).take (((os.map (mk0 e)).take s).count w)=halfO e w (os.take s):=by
 unfold halfO
 rw [<- List.map_take,<- List.map_take,List.count_eq_countP,List.countP_map]
 congr 1
 exact q195 os s
theorem q78 {e:Nat} {w:Int} (os:List Int):(halfO e w os).countP p=os.countP fun o=>(mk0 e o == w) && p (o % 2 ^ e):=by
 unfold halfO
 rw [List.countP_map,List.countP_filter]
 congr 1
 funext o
 show (p (o % 2 ^ e) && (mk0 e o == w))=_
 rw [Bool.and_comm]
theorem q218 {e:Nat} {o w:Int} (h:0<=o/\o < (2:Int) ^ (e+1)):inW (e+1) o (w::ws)=((mk0 e o == w) && inW e (o % 2 ^ e) ws):=by
 show ((o / 2 ^ e == w) && inW e (o % 2 ^ e) ws)=_
 rw [q655 h.1 h.2]
noncomputable def selO (L:Nat) (os ws:List Int):List Int:=(os.filter fun o=>inW L o ws).map fun o=>o % 2 ^ (L - ws.length)
theorem mod_pow {a b:Nat} {o:Int} (h:a<=b):(o % 2 ^ b) % 2 ^ a=o % 2 ^ a:=by
 refine Int.emod_emod_of_dvd o ?_
 exact ⟨2 ^ (b - a),by rw [<- Int.pow_add];congr 1;omega⟩
theorem q514:∀ (L:Nat) (ws os:List Int) (s t:Nat),ws.length<=L->InO L os ->
  ledS L ws (os,s,t)=(selO L os ws,(os.take s).countP (fun o=>inW L o ws),(os.take t).countP (fun o=>inW L o ws))\/(os.length < s\/os.length < t)
 | L,[],os,s,t,_,hin=>by
  by_cases hs:os.length < s
  ·exact .inr (.inl hs)
  ·by_cases ht:os.length < t
   ·exact .inr (.inr ht)
   ·refine .inl ?_
    rw [q65]
    have e:(fun o=>inW L o [])=fun _=>true:=by
     funext o
     cases L <;> rfl
    unfold selO
    rw [e]
    have c1:∀ l:List Int,l.countP (fun _=>true)=l.length:=fun l=>by simp
    have c2:(os.filter fun _=>true)=os:=by simp
    rw [c1,c1,c2,List.length_take,List.length_take,Nat.min_eq_left (by omega),Nat.min_eq_left (by omega)]
    have c3:os.map (fun o=>o % 2 ^ (L - ([]:List Int).length))=os:=by
     have:∀ o ∈ os,o % 2 ^ (L - ([]:List Int).length)=id o:=fun o ho=>Int.emod_eq_of_lt (hin o ho).1 (hin o ho).2
     rw [List.map_congr_left this,List.map_id]
    rw [c3]
 | 0,_::_,_,_,_,h,_=>absurd h (Nat.not_succ_le_zero _)
 | e+1,w::ws,os,s,t,h,hin=>by
  by_cases hs:os.length < s
  ·exact .inr (.inl hs)
  ·by_cases ht:os.length < t
   ·exact .inr (.inr ht)
   ·refine .inl ?_
    have hl:ws.length<=e:=by rw [List.length_cons] at h;omega
    rw [q80]
    have hc:∀ k,((os.map (mk0 e)).take k).count w<=(halfO e w os).length:=fun k=>by
     rw [<- q217]
     exact (List.take_sublist _ _).count_le w
    have ih:=q514 e ws (halfO e w os) (((os.map (mk0 e)).take s).count w) (((os.map (mk0 e)).take t).count w) hl q46
    rcases ih with ih | ih | ih
    ·show ledS e ws (halfO e w os,_,_)=_
     rw [ih,q196,q196,q78,q78]
     have hcong:∀ l:List Int,(∀ o ∈ l,o ∈ os)->l.countP (fun o=>(mk0 e o == w) && inW e (o % 2 ^ e) ws)=l.countP fun o=>inW (e+1) o (w::ws):=fun l hl=>by
      refine List.countP_congr fun o ho=>?_
      rw [q218 (hin o (hl o ho))]
     rw [hcong _ fun o ho=>List.mem_of_mem_take ho,hcong _ fun o ho=>List.mem_of_mem_take ho]
     have hsel:selO e (halfO e w os) ws=selO (e+1) os (w::ws):=by
      unfold selO halfO
      rw [List.filter_map,List.filter_filter,List.map_map,List.length_cons,Nat.add_sub_add_right]
      have f1:(os.filter fun a=>((fun o=>inW e o ws) ∘ fun o=>o % 2 ^ e) a && (mk0 e a == w))=os.filter fun o=>inW (e+1) o (w::ws):=List.filter_congr fun o ho=>by
       rw [q218 (hin o ho),Bool.and_comm]
       rfl
      rw [f1]
      refine List.map_congr_left fun o _=>?_
      exact mod_pow (by omega)
     rw [hsel]
    ·have:=hc s;omega
    ·have:=hc t;omega
theorem q404:∀ (os:List Int),(idxs p os).map (fun i=>(os[i]?).getD 0)=os.filter p
 | []=>rfl
 | o::os=>by
  rw [idxs,List.filter_cons]
  have e:((idxs p os).map (· + 1)).map (fun i=>((o::os)[i]?).getD 0)=os.filter p:=by
   rw [List.map_map,<- q404 os]
   refine List.map_congr_left fun i _=>?_
   simp
  by_cases c:p o=true
  ·rw [if_pos c,if_pos c,List.map_cons,e]
   rfl
  ·rw [if_neg c,if_neg c,e]
theorem q171 (os:List Int) {a b:Nat} (h:a<=b):(os.take a).countP q<=(os.take b).countP q:=by
 have e:os.take a=(os.take b).take a:=by rw [List.take_take,Nat.min_eq_left h]
 rw [e]
 exact (List.take_sublist a (os.take b)).countP_le
theorem cnt_step {os:List Int} {i:Nat} {o:Int} (h:os[i]? = some o) (hq:q o=true):(os.take (i+1)).countP q=(os.take i).countP q+1:=by
 rw [List.take_add_one,h,List.countP_append]
 simp [hq]
theorem q332:∀ (os:List Int) (j i:Nat),(idxs q os)[j]? = some i -> ∃ o,os[i]? = some o/\q o=true/\(os.take i).countP q=j
 | [],j,i,h=>by simp [idxs] at h
 | o::os,j,i,h=>by
  rw [idxs] at h
  by_cases c:q o=true
  ·rw [if_pos c] at h
   cases j with
   | zero=>
    have:i=0:=by simpa using h.symm
    subst this
    exact ⟨o,rfl,c,rfl⟩
   | succ j=>
    have h':((idxs q os).map (· + 1))[j]? = some i:=by simpa using h
    rw [List.getElem?_map] at h'
    cases e:(idxs q os)[j]? with
    | none=>rw [e] at h';cases h'
    | some i'=>
     rw [e] at h'
     have:i=i'+1:=(Option.some.inj h').symm
     subst this
     obtain ⟨o',h1,h2,h3⟩:=q332 os j i' e
     exact ⟨o',by simpa using h1,h2,by rw [List.take_succ_cons,List.countP_cons,h3,if_pos c]⟩
  ·rw [if_neg c] at h
   have h':((idxs q os).map (· + 1))[j]? = some i:=by simpa using h
   rw [List.getElem?_map] at h'
   cases e:(idxs q os)[j]? with
   | none=>rw [e] at h';cases h'
   | some i'=>
    rw [e] at h'
    have:i=i'+1:=(Option.some.inj h').symm
    subst this
    obtain ⟨o',h1,h2,h3⟩:=q332 os j i' e
    exact ⟨o',by simpa using h1,h2,by rw [List.take_succ_cons,List.countP_cons,h3,if_neg c] <;> rfl⟩
theorem q659:∀ (os:List Int) (i:Nat) (o:Int),os[i]? = some o->q o=true->(os.filter q)[(os.take i).countP q]? = some o
 | [],i,o,h,_=>by simp at h
 | a::os,0,o,h,hq=>by
  have:a=o:=by simpa using h
  subst this
  rw [List.filter_cons,if_pos hq]
  rfl
 | a::os,i+1,o,h,hq=>by
  have ih:=q659 os i o (by simpa using h) hq
  rw [List.filter_cons,List.take_succ_cons,List.countP_cons]
  by_cases c:q a=true
  ·rw [if_pos c,if_pos c]
   simpa using ih
  ·rw [if_neg c,if_neg c]
   simpa using ih
theorem cnt_take (e:Nat) (w:Int) (os:List Int) (s:Nat):((os.map (mk0 e)).take s).count w=(os.take s).countP (fun o=>mk0 e o == w):=by
 rw [<- List.map_take,List.count_eq_countP,List.countP_map]
 rfl
theorem half_at {e:Nat} {w:Int} {os:List Int} {i:Nat} {o:Int} (h:os[i]? = some o) (hw:mk0 e o=w):(halfO e w os)[(os.take i).countP (fun o=>mk0 e o == w)]? = some (o % 2 ^ e):=by
 unfold halfO
 rw [List.getElem?_map,q659 os i o h (by simp [hw])]
 rfl
theorem q119 {e:Nat} {o w:Int} (h0:0<=o) (h1:o < 2 ^ (e+1)) (hw:mk0 e o=w):o % 2 ^ e+w * 2 ^ e=o:=by
 have d:=q655 h0 h1
 rw [hw] at d
 have:=Int.emod_add_mul_ediv o (2 ^ e)
 rw [d,Int.mul_comm] at this
 exact this
theorem mk0b (e:Nat) (o:Int):mk0 e o=0\/mk0 e o=1:=by
 unfold mk0
 by_cases h:o < 2 ^ e
 ·exact .inl (if_pos h)
 ·exact .inr (if_neg h)
noncomputable def sel (g:G3):List Int:=(g.1.take g.2.2).drop g.2.1
noncomputable def Wh (gs:List G3):List Int:=gs.flatMap sel
theorem sel_len {L:Nat} {g:G3} (h:GoodS L g):((sel g).length:Int)=(g.2.2:Int) - g.2.1:=by
 obtain ⟨_,h1,h2,_⟩:=h
 unfold sel
 rw [List.length_drop,List.length_take,Nat.min_eq_left h2]
 omega
theorem q113 {L:Nat}:∀ {gs:List G3},(∀ g ∈ gs,GoodS L g)->manyG gs=((Wh gs).length:Nat)
 | [],_=>rfl
 | g::gs,h=>by
  have ih:=q113 (gs:=gs) fun x hx=>h x (List.mem_cons_of_mem _ hx)
  have hg:=sel_len (h g List.mem_cons_self)
  unfold manyG at ih ⊢
  unfold Wh at ih ⊢
  rw [List.map_cons,List.sum_cons,ih,List.flatMap_cons,List.length_append]
  omega
theorem q405 {e:Nat} {w:Int} (a b:List Int):halfO e w (a++b)=halfO e w a++halfO e w b:=by
 unfold halfO
 rw [List.filter_append,List.map_append]
theorem q136 {e:Nat} {w:Int} (os:List Int):(os.map (mk0 e)).count w=(halfO e w os).length:=q217 e w os
theorem sel_led1 {e:Nat} {w:Int} (h:GoodS (e+1) g):sel (led1 e w g)=halfO e w (sel g):=by
 obtain ⟨_,h1,h2,_⟩:=h
 show ((halfO e w g.1).take (((g.1.map (mk0 e)).take g.2.2).count w)).drop (((g.1.map (mk0 e)).take g.2.1).count w)=_
 rw [q196]
 have e1:g.1.take g.2.2=g.1.take g.2.1++sel g:=by
  unfold sel
  have:=(List.take_append_drop g.2.1 (g.1.take g.2.2)).symm
  rw [List.take_take,Nat.min_eq_left h1] at this
  exact this
 rw [e1,q405]
 have e2:((g.1.map (mk0 e)).take g.2.1).count w=(halfO e w (g.1.take g.2.1)).length:=by
  rw [<- List.map_take]
  exact q136 _
 rw [e2,List.drop_left]
theorem W_led {e:Nat} {w:Int}:∀ {gs:List G3},(∀ g ∈ gs,GoodS (e+1) g)->Wh (gs.map (led1 e w))=halfO e w (Wh gs)
 | [],_=>rfl
 | g::gs,h=>by
  have ih:=W_led (w:=w) (gs:=gs) fun x hx=>h x (List.mem_cons_of_mem _ hx)
  unfold Wh at ih ⊢
  rw [List.map_cons,List.flatMap_cons,List.flatMap_cons,q405,ih,sel_led1 (h g List.mem_cons_self)]
noncomputable def fillG (gs:List G3):List G3:=gs.filter fun g=>decide (g.2.1 < g.2.2)
theorem q172:∀ {gs:List G3},Wh (fillG gs)=Wh gs
 | []=>rfl
 | g::gs=>by
  have ih:=q172 (gs:=gs)
  unfold fillG Wh at ih ⊢
  rw [List.filter_cons]
  by_cases c:g.2.1 < g.2.2
  ·rw [if_pos (decide_eq_true c),List.flatMap_cons,List.flatMap_cons,ih]
  ·rw [if_neg (by simpa using c),ih,List.flatMap_cons]
   have:sel g=[]:=by
    unfold sel
    rw [List.drop_eq_nil_iff,List.length_take]
    omega
   rw [this,List.nil_append]
theorem q173 {L:Nat} (h:∀ g ∈ gs,GoodS L g):∀ g ∈ fillG gs,GoodS L g:=fun g hg=>h g (List.mem_filter.mp hg).1
theorem W_in {L:Nat} (h:∀ g ∈ gs,GoodS L g):InO L (Wh gs):=fun o ho=>by
 obtain ⟨g,hg,ho⟩:=List.mem_flatMap.mp ho
 exact (h g hg).1 o (List.mem_of_mem_take (List.mem_of_mem_drop ho))
theorem W_app (a b:List G3):Wh (a++b)=Wh a++Wh b:=List.flatMap_append
abbrev P2:=Int × Int
noncomputable def caF (part floor:Int):Nat->Int->List Int->List P2
 | 0,least,ws=>if (ws.length:Int) * part<=floor then [] else [(least,(ws.length:Int))]
 | e+1,least,ws=>if (ws.length:Int) * part<=floor then [] else caF part floor e least (halfO e 0 ws)++caF part floor e (least+2 ^ e) (halfO e 1 ws)
theorem ca_le {part floor:Int}:∀ (e:Nat) (least:Int) (ws:List Int),∀ p ∈ caF part floor e least ws,p.2<=(ws.length:Int)
 | 0,least,ws,p,hp=>by
  unfold caF at hp
  by_cases c:(ws.length:Int) * part<=floor
  ·rw [if_pos c] at hp;cases hp
  ·rw [if_neg c] at hp;rw [List.mem_singleton.mp hp];exact Int.le_refl _
 | e+1,least,ws,p,hp=>by
  unfold caF at hp
  by_cases c:(ws.length:Int) * part<=floor
  ·rw [if_pos c] at hp;cases hp
  ·rw [if_neg c] at hp
   have l0:=q134 (e:=e) (os:=ws) (w:=0)
   have l1:=q134 (e:=e) (os:=ws) (w:=1)
   rcases List.mem_append.mp hp with hp | hp
   ·have:=ca_le e _ _ p hp;omega
   ·have:=ca_le e _ _ p hp;omega
theorem q406 {part floor:Int} (hp:1<=part) (hf:0<=floor):∀ (e:Nat) (least:Int) (ws:List Int),caF part floor e least ws=(caF 1 0 e least ws).filter fun p=>decide (floor < p.2 * part):=by
 have mono:∀ {a b:Int},a<=b->a * part<=b * part:=fun h=>Int.mul_le_mul_of_nonneg_right h (by omega)
 have none_of:∀ (e:Nat) (least:Int) (ws:List Int),(ws.length:Int) * part<=floor->(caF 1 0 e least ws).filter (fun p=>decide (floor < p.2 * part))=[]:=fun e least ws c=>by
  rw [List.filter_eq_nil_iff]
  intro p h
  have:=mono (ca_le e least ws p h)
  simp
  omega
 have pos:∀ {n:Nat},¬ (n:Int) * part<=floor -> ¬ (n:Int) * 1<=0:=fun {n} c z=>c (by
  have:n=0:=by omega
  rw [this]
  simp
  exact hf)
 intro e
 induction e with
 | zero=>
  intro least ws
  by_cases c:(ws.length:Int) * part<=floor
  ·rw [none_of 0 least ws c]
   unfold caF
   rw [if_pos c]
  ·unfold caF
   rw [if_neg c,if_neg (pos c),List.filter_cons,if_pos (decide_eq_true (by show floor < (ws.length:Int) * part;omega)),List.filter_nil]
 | succ e ih=>
  intro least ws
  by_cases c:(ws.length:Int) * part<=floor
  ·rw [none_of (e+1) least ws c]
   unfold caF
   rw [if_pos c]
  ·unfold caF
   rw [if_neg c,if_neg (pos c),List.filter_append,ih,ih]
theorem q86 {e:Nat} {w x:Int} {ws:List Int} (h:InO (e+1) ws) (hw:w=0\/w=1) (h0:0<=x) (h1:x < 2 ^ e):(halfO e w ws).count x=ws.count (x+w * 2 ^ e):=by
 rw [List.count_eq_countP,List.count_eq_countP,q78]
 refine List.countP_congr fun o ho=>?_
 have hin:=h o ho
 have hp:=p2pos e
 rw [Bool.and_eq_true,beq_iff_eq,beq_iff_eq,beq_iff_eq]
 constructor
 ·rintro ⟨a,b⟩
  rw [<- b]
  exact (q119 hin.1 hin.2 a).symm
 ·intro a
  have e2:(2:Int) ^ (e+1)=2 * 2 ^ e:=by rw [Int.pow_succ];omega
  have hm:mk0 e o=w:=by
   unfold mk0
   rcases hw with rfl | rfl
   ·rw [if_pos (by omega)]
   ·rw [if_neg (by omega)]
  refine ⟨hm,?_⟩
  have:=q119 hin.1 hin.2 hm
  omega
theorem q407:∀ (e:Nat) (least:Int) (ws:List Int),InO e ws -> ∀ (w m:Int),(w,m) ∈ caF 1 0 e least ws ↔ (m=(ws.count (w - least):Nat)/\0 < m)
 | 0,least,ws,hin,w,m=>by
  have hz:∀ x ∈ ws,x=0:=fun x hx=>by
   have:=hin x hx
   simp at this
   omega
  unfold caF
  by_cases c:(ws.length:Int) * 1<=0
  ·rw [if_pos c]
   have:ws=[]:=List.eq_nil_of_length_eq_zero (by omega)
   subst this
   simp
   omega
  ·rw [if_neg c,List.mem_singleton]
   have call:ws.count 0=ws.length:=List.count_eq_length.mpr fun b hb=>(hz b hb).symm
   constructor
   ·intro z
    cases z
    rw [Int.sub_self,call]
    exact ⟨rfl,by omega⟩
   ·rintro ⟨h1,h2⟩
    have:(w - least) ∈ ws:=List.count_pos_iff.mp (by omega)
    have z:=hz _ this
    rw [z,call] at h1
    have:w=least:=by omega
    rw [this,h1]
 | e+1,least,ws,hin,w,m=>by
  have hp:=p2pos e
  have e2:(2:Int) ^ (e+1)=2 * 2 ^ e:=by rw [Int.pow_succ];omega
  unfold caF
  by_cases c:(ws.length:Int) * 1<=0
  ·rw [if_pos c]
   have:ws=[]:=List.eq_nil_of_length_eq_zero (by omega)
   subst this
   simp
   omega
  ·rw [if_neg c,List.mem_append,q407 e _ _ q46,q407 e _ _ q46]
   have rng:∀ {x:Int} {us:List Int},InO e us->0 < us.count x->0<=x/\x < 2 ^ e:=fun h h0=>h _ (List.count_pos_iff.mp h0)
   constructor
   ·rintro (⟨h1,h2⟩ | ⟨h1,h2⟩)
    ·have r:=rng q46 (show 0 < (halfO e 0 ws).count (w - least) by omega)
     rw [q86 hin (.inl rfl) r.1 r.2] at h1
     have:w - least+0 * 2 ^ e=w - least:=by omega
     rw [this] at h1
     exact ⟨h1,h2⟩
    ·have r:=rng q46 (show 0 < (halfO e 1 ws).count (w - (least+2 ^ e)) by omega)
     rw [q86 hin (.inr rfl) r.1 r.2] at h1
     have:w - (least+2 ^ e)+1 * 2 ^ e=w - least:=by omega
     rw [this] at h1
     exact ⟨h1,h2⟩
   ·rintro ⟨h1,h2⟩
    have r:=hin _ (List.count_pos_iff.mp (show 0 < ws.count (w - least) by omega))
    by_cases d:w - least < 2 ^ e
    ·refine .inl ⟨?_,h2⟩
     rw [q86 hin (.inl rfl) r.1 d]
     have:w - least+0 * 2 ^ e=w - least:=by omega
     rw [this]
     exact h1
    ·refine .inr ⟨?_,h2⟩
     rw [q86 hin (.inr rfl) (by omega) (by omega)]
     have:w - (least+2 ^ e)+1 * 2 ^ e=w - least:=by omega
     rw [this]
     exact h1
theorem q301 {e:Nat} {least:Int} {ws:List Int} (hin:InO e ws) {p:P2} (h:p ∈ caF 1 0 e least ws):least<=p.1/\p.1 < least+2 ^ e/\0 < p.2/\p.2=(ws.count (p.1 - least):Nat):=by
 obtain ⟨h1,h2⟩:=(q407 e least ws hin p.1 p.2).mp h
 have r:=hin _ (List.count_pos_iff.mp (show 0 < ws.count (p.1 - least) by omega))
 exact ⟨by omega,by omega,h2,h1⟩
theorem q333:∀ (e:Nat) (least:Int) (ws:List Int),InO e ws->(caF 1 0 e least ws).Pairwise fun p q=>p.1 < q.1
 | 0,least,ws,_=>by
  unfold caF
  by_cases c:(ws.length:Int) * 1<=0
  ·rw [if_pos c];exact .nil
  ·rw [if_neg c];simp
 | e+1,least,ws,hin=>by
  unfold caF
  by_cases c:(ws.length:Int) * 1<=0
  ·rw [if_pos c];exact .nil
  ·rw [if_neg c,List.pairwise_append]
   refine ⟨q333 e _ _ q46,q333 e _ _ q46,fun p hp q hq=>?_⟩
   have:=q301 q46 hp
   have:=q301 q46 hq
   omega
theorem q334 {e:Nat} (ws:List Int):(halfO e 0 ws).length+(halfO e 1 ws).length=ws.length:=by
 have:=cnt01 (e:=e) ws ws.length
 rw [Nat.min_self,List.take_of_length_le (by simp),q136,q136] at this
 exact this
noncomputable def sumM (ps:List P2):Int:=(ps.map fun p=>p.2).sum
theorem q660:∀ (e:Nat) (least:Int) (ws:List Int),sumM (caF 1 0 e least ws)=(ws.length:Int)
 | 0,least,ws=>by
  unfold caF
  by_cases c:(ws.length:Int) * 1<=0
  ·rw [if_pos c];show (0:Int)=_;omega
  ·rw [if_neg c];show (ws.length:Int)+0=_;omega
 | e+1,least,ws=>by
  unfold caF
  by_cases c:(ws.length:Int) * 1<=0
  ·rw [if_pos c];show (0:Int)=_;omega
  ·rw [if_neg c]
   have h1:=q660 e least (halfO e 0 ws)
   have h2:=q660 e (least+2 ^ e) (halfO e 1 ws)
   have h3:=q334 (e:=e) ws
   unfold sumM at h1 h2 ⊢
   rw [List.map_append,List.sum_append,h1,h2]
   omega
noncomputable def bstep (b:Option P2) (p:P2):Option P2:=match b with
 | none=>some p
 | some q=>if p.2 > q.2 then some p else some q
noncomputable def bst (ps:List P2):Option P2:=ps.foldl bstep none
theorem few {part W:Int} (hp:1<=part) (hW:0<=W):∀ (ps:List P2),(∀ p ∈ ps,W < p.2 * part)->((ps.length:Int) * (W+1)<=sumM ps * part)
 | [],_=>by simp [sumM]
 | p::ps,h=>by
  have ih:=few hp hW ps fun q hq=>h q (List.mem_cons_of_mem _ hq)
  have h0:=h p List.mem_cons_self
  unfold sumM at ih ⊢
  rw [List.map_cons,List.sum_cons,List.length_cons,Int.add_mul]
  have:((ps.length+1:Nat):Int) * (W+1)=(ps.length:Int) * (W+1)+(W+1):=by
   rw [Int.natCast_add,Int.add_mul];simp
  rw [this]
  omega
noncomputable def stS (p:Int × Int) (t:Int):Int × Int:=(if t=1 then p.1+p.2 / 2 else p.1,p.2 / 2)
noncomputable def spanS (low:Int) (L:Nat) (ws:List Int):Int × Int:=ws.foldl stS (low,2 ^ L)
theorem q335 (e:Nat):(2:Int) ^ (e+1) / 2=2 ^ e:=by rw [Int.pow_succ];omega
theorem q661 {α:Type} {l:List α} {i:Nat} {x:α} (h:l[i]? = some x):l.take (i+1)=l.take i++[x]:=by rw [List.take_add_one,h];rfl
theorem ints_get {ws:List Int} {i:Nat} (h:(ws.map V.int)[i]? = some x):∃ t,ws[i]? = some t/\x = .int t:=by
 rw [List.getElem?_map] at h
 cases e:ws[i]? with
 | none=>rw [e] at h;cases h
 | some t=>rw [e] at h;exact ⟨t,rfl,(Option.some.inj h).symm⟩
theorem q408 {α β:Type} {f:β->α->β} {b:β} {l:List α} {i:Nat} {x:α} (h:l[i]? = some x):(l.take (i+1)).foldl f b=f ((l.take i).foldl f b) x:=by
 rw [q661 h,List.foldl_append];rfl
inductive sp_span_of (K:Fg) (vs:List V) (H:Hp) (Q:VK) (E:XK):Prop
 | mk (b wy:Addr) (low:Int) (L:Nat) (ws:List Int) (_:vs=[.ref b,.ref wy]) (_:SqT K H b [.int low,.int (L:Int)]) (_:L<=40) (_:SqT K H wy (ws.map V.int)) (_:∀ p,H p=none->Q (.ref p) (upd H p (.tup [.int (spanS low L ws).1,.int ((spanS low L ws).1+(spanS low L ws).2 - 1)]))):sp_span_of K vs H Q E
theorem q302 (z:Bz K mg cA cB cC cD cG):Cal P w K mg base 2 "span_of" ["bounds", "way"] (sp_span_of K):=by
 have sc:=q549
 refine z.d_span_of.cal fun f fd F=>F.k sc fun _ _ _ s H _ Q _ hr h=>?_
 obtain ⟨b,wy,low,L,ws,rfl,hb,hL,hw,q⟩:=h
 refine ⟨_,(q12 (pst 2 sc.nd (pix q29 (pr 0) q13))
 (q12 (pst 3 sc.nd (pe_fn (q44 z) hr.m (by rfl) (q10 (pix q29 (pr 0) q13) q11)))
 (q12 (q66 PassesOwn.never rfl (q354 (pr 1)) (pgn 4 sc.nd)
 (q12 (pst 3 sc.nd (pe_op q70 (pr 3) q13))
 (q15 (ps_if (q23 op_eq (pr 4) q13 (q19 _))
 (q15 (pst 2 sc.nd (pe_op q40 (pr 2) (pr 3))))
 q21))))
 (q15 (q18 (q28 (q10 (pr 2) (q10 (pe_op q146 (pe_op q40 (pr 2) (pr 3)) q13) q11)))))))),?_⟩
 refine ⟨_,_,hb,rfl,_,_,hb,rfl,L,rfl,hL,?_⟩
 refine ⟨wy,rfl,⟨_,hw⟩,q431 (K:=K) (a:=wy) (xs:=ws.map V.int) (fun i σ H2=>∃ v:Option V,σ=[some (.ref b),some (.ref wy),some (.int ((ws.take i).foldl stS (low,2 ^ L)).1),some (.int ((ws.take i).foldl stS (low,2 ^ L)).2),v]/\H2=H)
  ⟨none,rfl,rfl⟩ (fun i σ H2 _ ⟨_,_,e⟩=>by rw [e];exact hw) ?_ ?_⟩
 ·rintro i x σ H2 hi ⟨v,rfl,rfl⟩
  obtain ⟨t,ht,rfl⟩:=ints_get hi
  refine ⟨_,_,rfl,rfl,⟨by decide,by decide⟩,?_⟩
  refine ⟨rfl,?_⟩
  refine ite2 (fun c=>?_) (fun c=>?_)
  ·have c':t=1:=V.int.inj (of_decide_eq_true c)
   refine ⟨some (.int t),?_,rfl⟩
   rw [q408 ht]
   unfold stS
   rw [if_pos c']
   rfl
  ·have c':¬ t=1:=fun z=>c (by rw [z];exact decide_eq_true rfl)
   refine ⟨some (.int t),?_,rfl⟩
   rw [q408 ht]
   unfold stS
   rw [if_neg c']
   rfl
 ·rintro σ H2 ⟨v,rfl,rfl⟩
  refine ⟨szb rfl,fun p hp=>?_⟩
  have e:ws.take (ws.map V.int).length=ws:=by rw [List.length_map];exact List.take_length
  have q':=q p hp
  unfold spanS at q'
  rw [<- e] at q'
  exact q'
theorem q409 (s:Same H H1) (hD:H D=none) (o:HO):Same H (upd H1 D o):=fun b u q=>by rw [q31 (q27 q hD)];exact s b u q
noncomputable def btw (least lo hi:Int):Int->Bool:=fun o=>decide (lo<=least+o/\least+o<=hi)
def AllAt {α:Type} (R:Hp->V->α->Prop) (H:Hp) (xs:List V) (ps:List α):Prop:=xs.length=ps.length /\ ∀ (j:Nat) (x:V) (p:α),xs[j]? = some x->ps[j]? = some p->R H x p
section
variable {α:Type} {R:Hp->V->α->Prop} {H H':Hp} {xs ys:List V} {ps qs:List α}
theorem AllAt.imp (h:AllAt R H xs ps) (f:∀ x p,R H x p->R H' x p):AllAt R H' xs ps:=⟨h.1,fun j x p h1 h2=>f x p (h.2 j x p h1 h2)⟩
theorem AllAt.nil:AllAt R H [] []:=⟨rfl,fun j x p h1 _=>by simp at h1⟩
theorem AllAt.snoc (h:AllAt R H xs ps) (hx:R H x p):AllAt R H (xs++[x]) (ps++[p]):=by
 refine ⟨by rw [List.length_append,List.length_append,h.1] <;> rfl,fun j y k h1 h2=>?_⟩
 have hl:=h.1
 rcases q83 h1 with ⟨a1,a2⟩ | ⟨a1,a2⟩
 ·rcases q83 h2 with ⟨b1,b2⟩ | ⟨b1,b2⟩
  ·exact h.2 j y k a2 b2
  ·omega
 ·rcases q83 h2 with ⟨b1,b2⟩ | ⟨b1,b2⟩
  ·omega
  ·rw [a2,b2];exact hx
theorem AllAt.get (h:AllAt R H xs ps) {j:Nat} (hx:xs[j]? = some x):∃ p,ps[j]? = some p/\R H x p:=by
 have hj:j < ps.length:=by rw [<- h.1];exact (List.getElem?_eq_some_iff.mp hx).1
 exact ⟨ps[j],List.getElem?_eq_getElem hj,h.2 j x ps[j] hx (List.getElem?_eq_getElem hj)⟩
theorem AllAt.app (h:AllAt R H xs ps) (k:AllAt R H ys qs):AllAt R H (xs++ys) (ps++qs):=by
 refine ⟨by rw [List.length_append,List.length_append,h.1,k.1],fun j y p h1 h2=>?_⟩
 by_cases c:j < xs.length
 ·rw [List.getElem?_append_left c] at h1
  rw [List.getElem?_append_left (by rw [<- h.1];exact c)] at h2
  exact h.2 j y p h1 h2
 ·rw [List.getElem?_append_right (by omega)] at h1
  rw [List.getElem?_append_right (by rw [<- h.1];omega),<- h.1] at h2
  exact k.2 _ y p h1 h2
end
def PsR (H:Hp) (v:V) (p:P2):Prop:=∃ a,v = .ref a/\H a=some (.tup [.int p.1,.int p.2])
theorem PsR.tk (k:TKeep H H') (h:PsR H v p):PsR H' v p:=by
 obtain ⟨a,e,h1⟩:=h
 exact ⟨a,e,(k _ _).1 h1⟩
theorem ps_tk (h:AllAt PsR H xs ps) (k:TKeep H H'):AllAt PsR H' xs ps:=h.imp fun _ _ z=>z.tk k
theorem q137 (h:AllAt PsR H xs ps) (s:Same H H'):AllAt PsR H' xs ps:=ps_tk h (.same s)
theorem ca_len {part floor:Int} (hp:1<=part) (hf:0<=floor) {e:Nat} {least:Int} {ws:List Int} (hin:InO e ws):(caF part floor e least ws).length<=ws.length:=by
 rw [q406 hp hf]
 refine Nat.le_trans (List.length_filter_le _ _) ?_
 have h:=few (part:=1) (W:=0) (by decide) (by decide) (caF 1 0 e least ws) (fun p hp=>by have:=(q301 hin hp).2.2.1;omega)
 rw [q660] at h
 omega
inductive sp_filled (K:Fg) (vs:List V) (H:Hp) (Q:VK) (E:XK):Prop
 | mk (ga:Addr) (xs:List V) (L:Nat) (gs:List G3) (_:vs=[.ref ga]) (_:SqL K H ga xs) (_:GatAt H L xs gs) (_:gs.length<=1000) (_:∀ (H':Hp) (D:Addr) (ys:List V),Same H H'->H' D=some (.lst ys)->H D=none->GatAt H' L ys (fillG gs)->Q (.ref D) H'):sp_filled K vs H Q E
theorem q174 (z:Bz K mg cA cB cC cD cG):Cal P w K mg base 1 "filled" ["gathering"] (sp_filled K):=by
 have sc:=q646
 refine z.d_filled.cal fun f fd F=>F.k sc fun _ _ _ s H _ Q _ hr h=>?_
 obtain ⟨ga,xs,L,gs,rfl,hga,hg,hl,q⟩:=h
 refine ⟨_,(q15 (q18 (q71 (cl:=[]) (cn:=[]) (N:=[]) (fr:=[]) (sc0:=q17 q323) rfl (q50 (pr 0)) (fun C s₂ H₂ fp=>(pr 0)) (fun C s₂ H₂ fp=>(q23 om_lt (pix (q152 (K:=K) rfl) (pr 0) q13) (pix (q152 (K:=K) rfl) (pr 0) q13) (q19 _))) (by with_unfolding_all rfl) trivial rfl rfl rfl cok rfl))),?_⟩
 have hxl:=hg.1
 refine ⟨ga,rfl,⟨_,hga⟩,fun D hD=>?_⟩
 refine q127 (K:=K) (xs:=xs) (sz (by omega)) (fun i ys H2=>H2=upd H D (.lst ys)/\ys.length<=i/\GatAt H L ys (fillG (gs.take i))) ⟨rfl,Nat.le_refl _,GatAt.nil _ _⟩ (fun i ys H2 ⟨e,_⟩=>by rw [e];exact (q16 hD _).seq hga)
  (fun i ys H2 ⟨e,e2,_⟩=>⟨by rw [e];exact q14,e2⟩) ?_ ?_
 ·rintro i x ys H2 hx ⟨rfl,e2,e3⟩
  have hi:i < gs.length:=by rw [<- hxl];exact (List.getElem?_eq_some_iff.mp hx).1
  have gi:gs[i]? = some gs[i]:=List.getElem?_eq_getElem hi
  generalize gs[i]=g at gi
  have hsx:=hg.2 i x g hx gi
  obtain ⟨t,u,rfl,ht,hu⟩:=hsx
  have ht':SqT K (upd H D (.lst ys)) t [u,.int (g.2.1:Int),.int (g.2.2:Int)]:=SqT.of (q16 hD _ _ _ ht)
  refine ⟨_,_,ht',rfl,_,_,ht',rfl,?_⟩
  have et:fillG (gs.take (i+1))=fillG (gs.take i)++fillG [g]:=by
   unfold fillG
   rw [List.take_add_one,gi,List.filter_append]
   rfl
  refine ite2 (fun c=>?_) (fun c=>?_)
  ·have c':=of_decide_eq_true c
   have ef:fillG [g]=[g]:=by
    unfold fillG
    rw [List.filter_cons,if_pos (decide_eq_true (by omega))]
    rfl
   refine ⟨q14,by rw [q182],by rw [List.length_append];simp;omega,?_⟩
   rw [et,ef]
   exact e3.snoc ⟨t,u,rfl,ht,hu⟩
  ·have c':¬ (g.2.1:Int) < g.2.2:=fun z=>c (decide_eq_true z)
   have ef:fillG [g]=[]:=by
    unfold fillG
    rw [List.filter_cons,if_neg (by simp;omega)]
    rfl
   refine ⟨_,by omega,rfl,by omega,rfl,by omega,?_⟩
   rw [et,ef,List.append_nil]
   exact e3
 ·rintro ys H2 ⟨rfl,e2,e3⟩
  rw [hxl,List.take_length] at e3
  exact q _ D ys (q16 hD _) q14 hD (e3.same (q16 hD _))
noncomputable def wayW:Nat->Int->List Int
 | 0,_=>[]
 | e+1,o=>if o < 2 ^ e then 0::wayW e o else 1::wayW e (o - 2 ^ e)
theorem q114 {e:Nat} {o:Int} (h:o < 2 ^ e):wayW (e+1) o=0::wayW e o:=by
 show (if o < 2 ^ e then _ else _)=_
 rw [if_pos h]
theorem q115 {e:Nat} {o:Int} (h:¬ o < 2 ^ e):wayW (e+1) o=1::wayW e (o - 2 ^ e):=by
 show (if o < 2 ^ e then _ else _)=_
 rw [if_neg h]
theorem pow2 (e:Nat):(2:Int) ^ (e+1)=2 ^ e+2 ^ e:=by rw [Int.pow_succ];omega
theorem q97:∀ (e:Nat) (o:Int),(wayW e o).length=e
 | 0,_=>rfl
 | e+1,o=>by
  by_cases h:o < 2 ^ e
  ·rw [q114 h,List.length_cons,q97 e]
  ·rw [q115 h,List.length_cons,q97 e]
theorem q155:∀ (e:Nat) (o:Int),∀ m ∈ wayW e o,m=0\/m=1
 | 0,_,m,hm=>by cases hm
 | e+1,o,m,hm=>by
  by_cases h:o < 2 ^ e
  ·rw [q114 h] at hm
   rcases List.mem_cons.mp hm with z | z
   ·exact .inl z
   ·exact q155 e _ m z
  ·rw [q115 h] at hm
   rcases List.mem_cons.mp hm with z | z
   ·exact .inr z
   ·exact q155 e _ m z
theorem where_in {low n:Int} {L:Nat}:q260 low L n = "within" ↔ (low<=n/\n<=low+2 ^ L - 1):=by
 unfold q260
 by_cases h:n < low
 ·rw [if_pos h]
  exact ⟨fun z=>absurd z (by decide),fun z=>by omega⟩
 ·rw [if_neg h]
  by_cases h2:low+2 ^ L - 1 < n
  ·rw [if_pos h2]
   exact ⟨fun z=>absurd z (by decide),fun z=>by omega⟩
  ·rw [if_neg h2]
   exact ⟨fun _=>by omega,fun _=>rfl⟩
noncomputable def mlF:Nat->List Int->List Int->Int
 | _,[],_=>0
 | 0,_::_,_=>0
 | e+1,w::ws,us=>(if w=1 then ((halfO e 0 us).length:Int) else 0)+mlF e ws (halfO e w us)
theorem q662:∀ (e:Nat) (o:Int) (us:List Int),0<=o->o < 2 ^ e->InO e us->mlF e (wayW e o) us=(us.countP fun x=>decide (x < o):Nat)
 | 0,o,us,h0,h1,hin=>by
  have:us.countP (fun x=>decide (x < o))=0:=List.countP_eq_zero.mpr fun x hx=>by
   have:=hin x hx
   simp at *
   omega
  rw [this]
  rfl
 | e+1,o,us,h0,h1,hin=>by
  have p:=pow2 e
  have hp:=p2pos e
  by_cases c:o < 2 ^ e
  ·rw [q114 c,mlF,if_neg (by decide),q662 e o _ h0 c q46,q78,Int.zero_add]
   congr 1
   refine List.countP_congr fun x hx=>?_
   have hx':=hin x hx
   rw [Bool.and_eq_true,beq_iff_eq,decide_eq_true_eq,decide_eq_true_eq]
   constructor
   ·rintro ⟨a,b⟩
    have:=q119 hx'.1 hx'.2 a
    omega
   ·intro a
    have hm:mk0 e x=0:=by unfold mk0;rw [if_pos (by omega)]
    have:=q119 hx'.1 hx'.2 hm
    exact ⟨hm,by omega⟩
  ·rw [q115 c,mlF,if_pos rfl,q662 e (o - 2 ^ e) _ (by omega) (by omega) q46,q78]
   have l0:(halfO e 0 us).length=us.countP fun x=>mk0 e x == 0:=by
    unfold halfO
    rw [List.length_map,List.countP_eq_length_filter]
   rw [l0]
   have key:∀ us:List Int,(∀ x ∈ us,0<=x/\x < (2:Int) ^ (e+1))->(us.countP fun x=>mk0 e x == 0)+(us.countP fun x=>(mk0 e x == 1) && decide (x % 2 ^ e < o - 2 ^ e))=us.countP fun x=>decide (x < o):=by
    intro us
    induction us with
    | nil=>intro _;rfl
    | cons x us ih=>
     intro h
     have ih':=ih fun y hy=>h y (List.mem_cons_of_mem _ hy)
     have hx':=h x List.mem_cons_self
     rw [List.countP_cons,List.countP_cons,List.countP_cons,<- ih']
     rcases mk0b e x with m | m
     ·have hxl:x < 2 ^ e:=by
       unfold mk0 at m
       by_cases z:x < 2 ^ e
       ·exact z
       ·rw [if_neg z] at m;omega
      rw [m]
      simp [show x < o by omega]
      omega
     ·have:=q119 hx'.1 hx'.2 m
      have hxg:¬ x < 2 ^ e:=by
       unfold mk0 at m
       intro z
       rw [if_pos z] at m;omega
      rw [m]
      by_cases z:x < o
      ·have z2:x % 2 ^ e < o - 2 ^ e:=by omega
       simp [z,z2]
       omega
      ·have z2:¬ x % 2 ^ e < o - 2 ^ e:=by omega
       simp [z,z2]
   have:=key us hin
   omega
inductive sp_way_of (K:Fg) (vs:List V) (H:Hp) (Q:VK) (E:XK):Prop
 | mk (b:Addr) (low num:Int) (L:Nat) (_:vs=[.ref b,.int num]) (_:SqT K H b [.int low,.int (L:Int)]) (_:L<=40) (_:(low<=num/\num<=low+2 ^ L - 1)) (_:∀ t H',Same H H'->TupF H' t ((wayW L (num - low)).map V.int)->Q (.ref t) H'):sp_way_of K vs H Q E
inductive sp_many_lesser (K:Fg) (vs:List V) (H:Hp) (Q:VK) (E:XK):Prop
 | mk (ga wy:Addr) (xs:List V) (L:Nat) (o:Int) (gs:List G3) (_:vs=[.ref ga,.ref wy]) (_:SqL K H ga xs) (_:GatAt H L xs gs) (_:(∀ g ∈ gs,GoodS L g)) (_:gs.length<=100) (_:SqT K H wy ((wayW L o).map V.int)) (_:0<=o) (_:o < 2 ^ L) (_:∀ H',Same H H'->Q (.int ((Wh gs).countP fun x=>decide (x < o):Nat)) H'):sp_many_lesser K vs H Q E
inductive sp_below (K:Fg) (vs:List V) (H:Hp) (Q:VK) (E:XK):Prop
 | mk (b ga:Addr) (xs:List V) (low num:Int) (L:Nat) (gs:List G3) (_:vs=[.ref b,.ref ga,.int num]) (_:SqT K H b [.int low,.int (L:Int)]) (_:L<=40) (_:SqL K H ga xs) (_:GatAt H L xs gs) (_:(∀ g ∈ gs,GoodS L g)) (_:gs.length<=100) (_:∀ H',Same H H'->Q (.int ((Wh gs).countP fun x=>decide (x < num - low):Nat)) H'):sp_below K vs H Q E
inductive sp_between (K:Fg) (vs:List V) (H:Hp) (Q:VK) (E:XK):Prop
 | mk (b ga:Addr) (xs:List V) (low lo hi:Int) (L:Nat) (gs:List G3) (_:vs=[.ref b,.ref ga,.int lo,.int hi]) (_:SqT K H b [.int low,.int (L:Int)]) (_:L<=40) (_:SqL K H ga xs) (_:GatAt H L xs gs) (_:(∀ g ∈ gs,GoodS L g)) (_:gs.length<=100) (_:∀ H',Same H H'->Q (.int ((Wh gs).countP (btw low lo hi):Nat)) H'):sp_between K vs H Q E
theorem q262 (z:Bz K mg cA cB cC cD cG):Cal P w K mg base 4 "way_of" pn16 (sp_way_of K):=by
 have sc:=q643
 refine z.d_way_of.cal fun f fd F=>F.k sc fun _ _ _ s H _ Q _ hr h=>?_
 obtain ⟨b,low,num,L,rfl,hb,hL,c',q⟩:=h
 refine ⟨_,(q12 (ps_if (q26 op_ne (pe_fn (q329 z) hr.m (by rfl) (q10 (pv 0) (q10 (pv 1) q11))) q42 (q19 _))
 (q15 q63)
 q21)
 (q12 (pst 2 sc.nd (pix q32 (pv 0) q13))
 (q12 (pst 3 sc.nd (pe_fn (q44 z) hr.m (by rfl) (q10 (pix q32 (pv 0) q13) q11)))
 (q12 (pst 4 sc.nd (q36 q11))
 (q12 (q66 PassesOwn.never rfl (q52 rfl z.range_ (q10 (pix q32 (pv 0) q13) q11)) (pgn 5 sc.nd)
 (q12 (pst 3 sc.nd (pe_op q70 (pv 3) q13))
 (q15 (ps_if (q26 op_lt (pv 1) (pe_op q73 (pv 2) (pv 3)) (q19 _))
 (q15 (q98 (pe_bm PySem.F.plainAttrs_list PySem.F.slot_list_append PySem.F.type_list_append q69 (pv 4) (q10 q13 q11))))
 (q12 (q98 (pe_bm PySem.F.plainAttrs_list PySem.F.slot_list_append PySem.F.type_list_append q69 (pv 4) (q10 q13 q11)))
 (q15 (pst 2 sc.nd (pe_op q73 (pv 2) (pv 3)))))))))
 (q15 (q18 (q68 q91 (by rfl) z.tuple_ q139 (q10 (pv 4) q11))))))))),?_⟩
 refine ⟨_,rfl,_,rfl,b,low,num,L,rfl,hb,hL,rfl,_,rfl,?_⟩
 refine ite2 (fun c=>?_) (fun c=>?_)
 ·rw [where_in.mpr c',decide_eq_true rfl] at c
  cases c
 ·skip
  refine ⟨_,rfl,b,_,_,_,rfl,rfl,hb,rfl,_,rfl,b,_,_,_,rfl,rfl,hb,rfl,L,rfl,hL,szb rfl,fun wy hwy=>?_⟩
  have hb2:∀ o,SqT K (upd H wy o) b [.int low,.int (L:Int)]:=fun o=>(q16 hwy o).seqT hb
  refine ⟨_,rfl,b,_,_,_,rfl,rfl,hb2 _,rfl,(L:Int),rfl,by omega,by omega,q61 (n:=L) (fun i σ H2=>∃ (le:Int) (ws:List Int) (v:Option V),σ=[some (.ref b),some (.int num),some (.int le),some (.int (2 ^ (L - i))),some (.ref wy),v] /\
   H2=upd H wy (.lst (ws.map V.int))/\ws.length=i/\0<=num - le/\num - le < 2 ^ (L - i)/\wayW L (num - low)=ws++wayW (L - i) (num - le)) ⟨low,[],none,rfl,rfl,rfl,by omega,by show num - low < 2 ^ L;omega,rfl⟩ ?_ ?_⟩
  ·rintro i σ H2 hi ⟨le,ws,v,rfl,rfl,hl,h0,h1,hw⟩
   obtain ⟨e,he⟩:∃ e,L - i=e+1:=⟨L - i - 1,by omega⟩
   have he2:L - (i+1)=e:=by omega
   have p:=pow2 e
   have ph:=q335 e
   rw [he] at h1 hw ⊢
   refine ⟨_,rfl,_,_,rfl,rfl,⟨by decide,by decide⟩,?_⟩
   refine ⟨_,rfl,_,rfl,_,rfl,_,_,rfl,rfl,_,_,rfl,rfl,_,rfl,?_⟩
   rw [ph,he2]
   refine ite2 (fun c=>?_) (fun c=>?_)
   ·have c2:num < le+2 ^ e:=of_decide_eq_true c
    rw [q114 (show num - le < 2 ^ e by omega)] at hw
    refine ⟨_,rfl,.inl ⟨rfl,_,SqL.of q14⟩,wy,_,_,rfl,rfl,q14,?_,?_⟩
    ·rw [List.length_map];exact Nat.lt_of_le_of_lt (show ws.length<=1000 by omega) (q54 (Nat.le_refl _))
    ·exact ⟨le,ws++[0],some (.int (0+(i:Int))),congrArg (fun q:Int=>[some (V.ref b),some (V.int num),some (V.int le),some (V.int q),some (V.ref wy),some (V.int (0+(i:Int)))]) ph,by rw [q182,List.map_append] <;> rfl,by rw [List.length_append,hl] <;> rfl,h0,by omega,by rw [hw,List.append_assoc] <;> rfl⟩
   ·have c2:¬ num < le+2 ^ e:=fun z=>c (decide_eq_true z)
    rw [q115 (show ¬ num - le < 2 ^ e by omega)] at hw
    refine ⟨_,rfl,.inl ⟨rfl,_,SqL.of q14⟩,wy,_,_,rfl,rfl,q14,?_,?_⟩
    ·rw [List.length_map];exact Nat.lt_of_le_of_lt (show ws.length<=1000 by omega) (q54 (Nat.le_refl _))
    ·refine ⟨_,rfl,_,rfl,_,_,rfl,rfl,le+2 ^ e,ws++[1],some (.int (0+(i:Int))),congrArg (fun q:Int=>[some (V.ref b),some (V.int num),some (V.int (le+q)),some (V.int q),some (V.ref wy),some (V.int (0+(i:Int)))]) ph,by rw [q182,List.map_append] <;> rfl,by rw [List.length_append,hl] <;> rfl,by omega,by omega,?_⟩
     have e2:num - (le+2 ^ e)=num - le - 2 ^ e:=by omega
     rw [hw,e2,List.append_assoc]
     rfl
  ·rintro σ H2 ⟨le,ws,v,rfl,rfl,hl,h0,h1,hw⟩
   rw [Nat.sub_self] at hw
   have hw2:wayW L (num - low)=ws:=by rw [hw];exact List.append_nil ws
   refine ⟨_,rfl,wy,_,rfl,SqL.of q14,fun t H' s' ht=>?_⟩
   exact q t _ ((q16 hwy _).trans s') (by rw [hw2];exact ht)
theorem q101 (z:Bz K mg cA cB cC cD cG):Cal P w K mg base 4 "many_lesser" pn17 (sp_many_lesser K):=by
 have sc:=q274
 refine z.d_many_lesser.cal fun f fd F=>F.k sc fun _ _ _ s H _ Q _ hr h=>?_
 obtain ⟨ga,wy,xs,L,o,gs,rfl,hga,hg,hgd,hl,hwy,h0,h1,q⟩:=h
 refine ⟨_,(q12 (pst 2 sc.nd q13)
 (q12 (pst 3 sc.nd (pr 0))
 (q12 (q66 PassesOwn.never rfl (q354 (pr 1)) (pgn 4 sc.nd)
 (q12 (ps_if (q23 op_eq (pr 4) q13 (q19 _))
 (q15 (pst 2 sc.nd (pe_op q40 (pr 2) (pe_fn (q49 z) hr.m (by rfl) (q10 (pe_fn (q170 z) hr.m (by rfl) (q10 (pr 3) (q10 (q28 (q10 q13 q11)) q11))) q11)))))
 q21)
 (q15 (pst 3 sc.nd (pe_fn (q170 z) hr.m (by rfl) (q10 (pr 3) (q10 (q28 (q10 (pr 4) q11)) q11)))))))
 (q15 (q18 (pr 2)))))),?_⟩
 rw [<- q662 L o (Wh gs) h0 h1 (W_in hgd)] at q
 have hwl:=q97 L o
 have hw01:=q155 L o
 generalize wayW L o=ws at *
 refine ⟨wy,rfl,⟨_,hwy⟩,q431 (K:=K) (a:=wy) (xs:=ws.map V.int) (fun i σ H2=>∃ (m:Int) (pa:Addr) (zs:List V) (gs':List G3) (v4:Option V),σ=[some (.ref ga),some (.ref wy),some (.int m),some (.ref pa),v4]/\Same H H2/\SqL K H2 pa zs/\GatAt H2 (L - i) zs gs'/\(∀ g ∈ gs',GoodS (L - i) g)/\gs'.length<=100/\i<=ws.length/\mlF L ws (Wh gs)=m+mlF (L - i) (ws.drop i) (Wh gs'))
  ⟨0,ga,xs,gs,none,rfl,Same.refl H,hga,hg,hgd,hl,Nat.zero_le _,by rw [List.drop_zero,Int.zero_add];rfl⟩ (fun i σ H2 _ ⟨_,_,_,_,_,_,s2,_⟩=>s2.seqT hwy) ?_ ?_⟩
 ·rintro i x σ H2 hi ⟨m,pa,zs,gs',v4,rfl,s2,hpa,hg',hgd',hl',hil,hm⟩
  obtain ⟨wv,hwv,rfl⟩:∃ t,ws[i]? = some t/\x = .int t:=by
   rw [List.getElem?_map] at hi
   cases e:ws[i]? with
   | none=>rw [e] at hi;cases hi
   | some m=>rw [e] at hi;exact ⟨m,rfl,(Option.some.inj hi).symm⟩
  have hil2:i < ws.length:=(List.getElem?_eq_some_iff.mp hwv).1
  have hv01:=hw01 wv (List.mem_of_getElem? hwv)
  obtain ⟨e,he⟩:∃ e,L - i=e+1:=⟨L - i - 1,by omega⟩
  have he2:L - (i+1)=e:=by omega
  rw [he] at hg' hgd' hm
  rw [q402 hwv,mlF] at hm
  have el:∀ w:Int,gs'.map (ledS (e+1) [w])=gs'.map (led1 e w):=fun w=>List.map_congr_left fun g _=>by rw [q80,q65]
  have good1:∀ w,∀ g ∈ gs'.map (led1 e w),GoodS e g:=fun w g hg=>by
   obtain ⟨g',hg',rfl⟩:=List.mem_map.mp hg
   exact q135 (hgd' g' hg')
  have step:∀ (H3:Hp),Same H2 H3 -> ∀ (m':Int),mlF L ws (Wh gs)=m'+mlF e (ws.drop (i+1)) (halfO e wv (Wh gs'))->True:=fun _ _ _ _=>trivial
  refine ⟨rfl,?_⟩
  rcases hv01 with rfl | rfl
  ·refine ite2 (fun c=>absurd (V.int.inj (of_decide_eq_true c)) (by decide)) (fun _=>?_)
   rw [if_neg (by decide),Int.zero_add] at hm
   refine ⟨szb rfl,fun w1 hw1=>?_⟩
   have s3:=q16 hw1 (.tup [V.int 0])
   have hw1':upd H2 w1 (.tup [V.int 0]) w1=some (.tup [V.int 0]):=q14
   generalize upd H2 w1 (.tup [V.int 0])=H3 at *
   refine ⟨pa,w1,zs,e+1,[0],gs',rfl,s3.seq hpa,hg'.same s3,hgd',by omega,SqT.of hw1',by simp,(fun x hx=>by rw [List.mem_singleton.mp hx];exact .inl rfl),fun H4 D4 z4 s4 hD4 hD4n hg4=>?_⟩
   rw [el] at hg4
   exact ⟨m,D4,z4,_,_,rfl,s2.trans (s3.trans s4),SqL.of hD4,by rw [he2];exact hg4,by rw [he2];exact good1 0,by rw [List.length_map];exact hl',by omega,by rw [he2,W_led hgd'];exact hm⟩
  ·refine ite2 (fun _=>?_) (fun c=>absurd (decide_eq_true rfl) c)
   rw [if_pos rfl] at hm
   refine ⟨szb rfl,fun w0 hw0=>?_⟩
   have s3:=q16 hw0 (.tup [V.int 0])
   have hw0':upd H2 w0 (.tup [V.int 0]) w0=some (.tup [V.int 0]):=q14
   generalize upd H2 w0 (.tup [V.int 0])=H3 at *
   refine ⟨pa,w0,zs,e+1,[0],gs',rfl,s3.seq hpa,hg'.same s3,hgd',by omega,SqT.of hw0',by simp,(fun x hx=>by rw [List.mem_singleton.mp hx];exact .inl rfl),fun H4 D4 z4 s4 hD4 hD4n hg4=>?_⟩
   rw [el] at hg4
   refine ⟨D4,z4,e,_,rfl,SqL.of hD4,hg4,by rw [List.length_map];omega,fun H5 s5=>?_⟩
   have s25:=(s3.trans s4).trans s5
   refine ⟨szb rfl,fun w1 hw1=>?_⟩
   have s6:=q16 hw1 (.tup [V.int 1])
   have hw1':upd H5 w1 (.tup [V.int 1]) w1=some (.tup [V.int 1]):=q14
   generalize upd H5 w1 (.tup [V.int 1])=H6 at *
   have s26:=s25.trans s6
   refine ⟨pa,w1,zs,e+1,[1],gs',rfl,s26.seq hpa,hg'.same s26,hgd',by omega,SqT.of hw1',by simp,(fun x hx=>by rw [List.mem_singleton.mp hx];exact .inr rfl),fun H7 D7 z7 s7 hD7 hD7n hg7=>?_⟩
   rw [el] at hg7
   refine ⟨_,D7,z7,_,_,rfl,s2.trans (s26.trans s7),SqL.of hD7,by rw [he2];exact hg7,by rw [he2];exact good1 1,by rw [List.length_map];exact hl',by omega,?_⟩
   rw [he2,W_led hgd',q113 (good1 0),W_led hgd',hm]
   omega
 ·rintro σ H2 ⟨m,pa,zs,gs',v4,rfl,s2,hpa,hg',hgd',hl',hil,hm⟩
  rw [List.length_map,List.drop_length] at hm
  have e0:mlF (L - ws.length) [] (Wh gs')=0:=by cases L - ws.length <;> rfl
  rw [e0,Int.add_zero] at hm
  rw [hm] at q
  exact q H2 s2
theorem q515 (z:Bz K mg cA cB cC cD cG):Cal P w K mg base 5 "below" pn2 (sp_below K):=by
 have sc:=sc_below
 refine z.d_below.cal fun f fd F=>F.k sc fun _ _ _ s H _ Q _ hr h=>?_
 obtain ⟨b,ga,xs,low,num,L,gs,rfl,hb,hL,hga,hg,hgd,hl,q⟩:=h
 refine ⟨_,(q12 (pst 3 sc.nd (pe_fn (q329 z) hr.m (by rfl) (q10 (pr 0) (q10 (pr 2) q11))))
 (q12 (ps_if (q23 op_eq (pr 3) q42 (q19 _))
 (q15 (q18 q13))
 q21)
 (q12 (ps_if (q23 op_eq (pr 3) q42 (q19 _))
 (q15 (q18 (pe_fn (q49 z) hr.m (by rfl) (q10 (pr 1) q11))))
 q21)
 (q15 (q18 (pe_fn (q101 z) hr.m (by rfl) (q10 (pr 1) (q10 (pe_fn (q262 z) hr.m (by rfl) (q10 (pr 0) (q10 (pr 2) q11))) q11)))))))),?_⟩
 have hin:=W_in hgd
 have hp:=p2pos L
 refine ⟨b,low,num,L,rfl,hb,hL,?_⟩
 unfold q260
 by_cases c1:num < low
 ·rw [if_pos c1]
  refine ⟨rfl,ite2 (fun _=>?_) (fun c=>absurd (decide_eq_true rfl) c)⟩
  have e0:(Wh gs).countP (fun x=>decide (x < num - low))=0:=List.countP_eq_zero.mpr fun x hx=>by
   have:=hin x hx
   simp
   omega
  rw [e0] at q
  exact q H (Same.refl H)
 rw [if_neg c1]
 by_cases c2:low+2 ^ L - 1 < num
 ·rw [if_pos c2]
  refine ⟨rfl,ite2 (fun c=>absurd (of_decide_eq_true c) (by decide)) (fun _=>?_)⟩
  refine ⟨rfl,ite2 (fun _=>?_) (fun c=>absurd (decide_eq_true rfl) c)⟩
  have e0:(Wh gs).countP (fun x=>decide (x < num - low))=(Wh gs).length:=List.countP_eq_length.mpr fun x hx=>by
   have:=hin x hx
   exact decide_eq_true (by omega)
  rw [e0] at q
  refine ⟨ga,xs,L,gs,rfl,hga,hg,by omega,fun H1 s1=>?_⟩
  rw [q113 hgd]
  exact q H1 s1
 rw [if_neg c2]
 refine ⟨rfl,ite2 (fun c=>absurd (of_decide_eq_true c) (by decide)) (fun _=>?_)⟩
 refine ⟨rfl,ite2 (fun c=>absurd (of_decide_eq_true c) (by decide)) (fun _=>?_)⟩
 refine ⟨b,low,num,L,rfl,hb,hL,⟨by omega,by omega⟩,fun t H1 s1 ht=>?_⟩
 exact ⟨ga,t,xs,L,num - low,gs,rfl,s1.seq hga,hg.same s1,hgd,hl,ht.sq,by omega,by omega,fun H2 s2=>q H2 (s1.trans s2)⟩
theorem q219:∀ (e:Nat) (l o:Int),0<=o->o < 2 ^ e->(wayW e o).foldl stS (l,2 ^ e)=(l+o,1)
 | 0,l,o,h0,h1=>by
  have e1:o=0:=by
   have z:(2:Int) ^ 0=1:=rfl
   omega
  rw [e1,Int.add_zero]
  rfl
 | e+1,l,o,h0,h1=>by
  have p:=pow2 e
  have q:=q335 e
  by_cases h:o < 2 ^ e
  ·rw [q114 h,List.foldl_cons]
   have z:stS (l,2 ^ (e+1)) 0=(l,2 ^ e):=by unfold stS;rw [if_neg (by decide)];simp only [q]
   rw [z]
   exact q219 e l o h0 h
  ·rw [q115 h,List.foldl_cons]
   have z:stS (l,2 ^ (e+1)) 1=(l+2 ^ e,2 ^ e):=by unfold stS;rw [if_pos rfl];simp only [q]
   rw [z,q219 e (l+2 ^ e) (o - 2 ^ e) (by omega) (by omega)]
   congr 1
   omega
noncomputable def kth:Nat->List Int->Nat->Int
 | 0,_,_=>0
 | e+1,us,k=>if k < (halfO e 0 us).length then kth e (halfO e 0 us) k else 2 ^ e+kth e (halfO e 1 us) (k - (halfO e 0 us).length)
theorem q663 {e:Nat} {k:Nat} (h:k < (halfO e 0 us).length):kth (e+1) us k=kth e (halfO e 0 us) k:=by rw [kth,if_pos h]
theorem q664 {e:Nat} {k:Nat} (h:¬ k < (halfO e 0 us).length):kth (e+1) us k=2 ^ e+kth e (halfO e 1 us) (k - (halfO e 0 us).length):=by rw [kth,if_neg h]
theorem q116:∀ (e:Nat) (us:List Int) (k:Nat),0<=kth e us k/\kth e us k < 2 ^ e
 | 0,us,k=>⟨Int.le_refl _,(by decide:(0:Int) < 2 ^ 0)⟩
 | e+1,us,k=>by
  have hp:=pow2 e
  have h2:=p2pos e
  by_cases c:k < (halfO e 0 us).length
  ·rw [q663 c]
   have:=q116 e (halfO e 0 us) k
   omega
  ·rw [q664 c]
   have:=q116 e (halfO e 1 us) (k - (halfO e 0 us).length)
   omega
theorem wayW_lo {e:Nat} {k:Nat} (h:k < (halfO e 0 us).length):wayW (e+1) (kth (e+1) us k)=0::wayW e (kth e (halfO e 0 us) k):=by
 rw [q663 h]
 exact q114 (q116 e _ k).2
theorem wayW_hi {e:Nat} {k:Nat} (h:¬ k < (halfO e 0 us).length):wayW (e+1) (kth (e+1) us k)=1::wayW e (kth e (halfO e 1 us) (k - (halfO e 0 us).length)):=by
 rw [q664 h,q115 (by have:=(q116 e (halfO e 1 us) (k - (halfO e 0 us).length)).1;omega)]
 have:2 ^ e+kth e (halfO e 1 us) (k - (halfO e 0 us).length) - 2 ^ e=kth e (halfO e 1 us) (k - (halfO e 0 us).length):=by omega
 rw [this]
theorem q142 {e:Nat} {us:List Int} (hin:InO (e+1) us) (o:Int):(o<=2 ^ e->us.countP (fun x=>decide (x < o))=(halfO e 0 us).countP (fun x=>decide (x < o))) /\
  (2 ^ e<=o->us.countP (fun x=>decide (x < o))=(halfO e 0 us).length+(halfO e 1 us).countP (fun x=>decide (x < o - 2 ^ e))):=by
 have l0:(halfO e 0 us).length=us.countP fun x=>mk0 e x == 0:=by
  unfold halfO
  rw [List.length_map,List.countP_eq_length_filter]
 rw [l0,q78,q78]
 clear l0
 induction us with
 | nil=>exact ⟨fun _=>rfl,fun _=>rfl⟩
 | cons x us ih=>
  obtain ⟨i1,i2⟩:=ih fun y hy=>hin y (List.mem_cons_of_mem _ hy)
  have hx:=hin x List.mem_cons_self
  rw [List.countP_cons,List.countP_cons,List.countP_cons,List.countP_cons]
  rcases mk0b e x with m | m
  ·have hm:=q119 hx.1 hx.2 m
   have hxl:x < 2 ^ e:=by
    unfold mk0 at m
    by_cases z:x < 2 ^ e
    ·exact z
    ·rw [if_neg z] at m;omega
   have e1:x % 2 ^ e=x:=by omega
   rw [m,e1]
   refine ⟨fun h=>?_,fun h=>?_⟩
   ·rw [i1 h];simp
   ·rw [i2 h]
    have:x < o:=by omega
    simp [this]
    omega
  ·have hm:=q119 hx.1 hx.2 m
   have hxg:¬ x < 2 ^ e:=by
    unfold mk0 at m
    intro z
    rw [if_pos z] at m;omega
   rw [m]
   refine ⟨fun h=>?_,fun h=>?_⟩
   ·rw [i1 h]
    have:¬ x < o:=by omega
    simp [this]
   ·rw [i2 h]
    by_cases z:x < o
    ·have z2:x % 2 ^ e < o - 2 ^ e:=by omega
     simp [z,z2]
     omega
    ·have z2:¬ x % 2 ^ e < o - 2 ^ e:=by omega
     simp [z,z2]
noncomputable abbrev ltC (us:List Int) (o:Int):Nat:=us.countP fun x=>decide (x < o)
theorem q263:∀ (e:Nat) (us:List Int) (k:Nat),InO e us->k < us.length->ltC us (kth e us k)<=k/\k < ltC us (kth e us k+1)
 | 0,us,k,hin,hk=>by
  have h0:us.countP (fun x=>decide (x < (0:Int)))=0:=List.countP_eq_zero.mpr fun x hx=>by have:=hin x hx;simp;omega
  have h1:us.countP (fun x=>decide (x < (0:Int)+1))=us.length:=List.countP_eq_length.mpr fun x hx=>by have:=hin x hx;simp at this;exact decide_eq_true (by omega)
  show us.countP (fun x=>decide (x < (0:Int)))<=k/\k < us.countP (fun x=>decide (x < (0:Int)+1))
  omega
 | e+1,us,k,hin,hk=>by
  have hs:=q334 (e:=e) us
  by_cases c:k < (halfO e 0 us).length
  ·rw [q663 c]
   have r:=q116 e (halfO e 0 us) k
   obtain ⟨i1,i2⟩:=q263 e (halfO e 0 us) k q46 c
   have e1:=(q142 hin (kth e (halfO e 0 us) k)).1 (by omega)
   have e2:=(q142 hin (kth e (halfO e 0 us) k+1)).1 (by omega)
   unfold ltC at *
   rw [e1,e2]
   exact ⟨i1,i2⟩
  ·rw [q664 c]
   have r:=q116 e (halfO e 1 us) (k - (halfO e 0 us).length)
   obtain ⟨i1,i2⟩:=q263 e (halfO e 1 us) (k - (halfO e 0 us).length) q46 (by omega)
   have e1:=(q142 hin (2 ^ e+kth e (halfO e 1 us) (k - (halfO e 0 us).length))).2 (by omega)
   have e2:=(q142 hin (2 ^ e+kth e (halfO e 1 us) (k - (halfO e 0 us).length)+1)).2 (by omega)
   unfold ltC at *
   rw [e1,e2]
   have a1:2 ^ e+kth e (halfO e 1 us) (k - (halfO e 0 us).length) - 2 ^ e=kth e (halfO e 1 us) (k - (halfO e 0 us).length):=by omega
   have a2:2 ^ e+kth e (halfO e 1 us) (k - (halfO e 0 us).length)+1 - 2 ^ e=kth e (halfO e 1 us) (k - (halfO e 0 us).length)+1:=by omega
   rw [a1,a2]
   omega
theorem q220 {a b:Int} (h:a<=b):ltC us a<=ltC us b:=List.countP_mono_left fun x _ hx=>decide_eq_true (by have:=of_decide_eq_true hx;omega)
theorem q336 (us:List Int) (o:Int):ltC us (o+1)=ltC us o+us.count o:=by
 unfold ltC
 rw [List.count_eq_countP]
 induction us with
 | nil=>rfl
 | cons x us ih=>
  rw [List.countP_cons,List.countP_cons,List.countP_cons,ih]
  by_cases c1:x < o
  ·have c2:x < o+1:=by omega
   have c3:¬ x=o:=by omega
   simp only [decide_eq_true c1,decide_eq_true c2,if_true,show (x == o)=false from beq_eq_false_iff_ne.mpr c3]
   simp
   omega
  ·by_cases c3:x=o
   ·have c2:x < o+1:=by omega
    simp only [decide_eq_false c1,decide_eq_true c2,show (x == o)=true from beq_iff_eq.mpr c3]
    simp
    omega
   ·have c2:¬ x < o+1:=by omega
    simp [c1,c2,c3]
noncomputable def sumF:Nat->Int->List Int->Nat->Int
 | 0,least,_,k=>least * (k:Int)
 | e+1,least,us,k=>sumF e least (halfO e 0 us) (min k (halfO e 0 us).length)+sumF e (least+2 ^ e) (halfO e 1 us) (k - min k (halfO e 0 us).length)
theorem q175:∀ (L:Nat) (o:Int) (gs:List G3),0<=o->o < 2 ^ L->(∀ g ∈ gs,GoodS L g)->manyG (gs.map (ledS L (wayW L o)))=((Wh gs).count o:Nat)
 | 0,o,gs,h0,h1,hg=>by
  have e0:gs.map (ledS 0 (wayW 0 o))=gs:=by
   have:∀ g ∈ gs,ledS 0 (wayW 0 o) g=id g:=fun g _=>q65 0 g
   rw [List.map_congr_left this,List.map_id]
  rw [e0,q113 hg]
  have ho:o=0:=by have:(2:Int) ^ 0=1:=rfl;omega
  have hin:=W_in hg
  rw [ho,List.count_eq_length.mpr fun b hb=>by have:=hin b hb;simp at this;omega]
 | e+1,o,gs,h0,h1,hg=>by
  have hp:=pow2 e
  have good1:∀ w,∀ g ∈ gs.map (led1 e w),GoodS e g:=fun w g hg'=>by
   obtain ⟨g',hg2,rfl⟩:=List.mem_map.mp hg'
   exact q135 (hg g' hg2)
  have em:∀ (w:Int) (ws:List Int),gs.map (ledS (e+1) (w::ws))=(gs.map (led1 e w)).map (ledS e ws):=fun w ws=>by
   rw [List.map_map]
   exact List.map_congr_left fun g _=>q80 e w ws g
  by_cases c:o < 2 ^ e
  ·rw [q114 c,em,q175 e o _ h0 c (good1 0),W_led hg,q86 (W_in hg) (.inl rfl) h0 c]
   have:o+0 * 2 ^ e=o:=by omega
   rw [this]
  ·rw [q115 c,em,q175 e (o - 2 ^ e) _ (by omega) (by omega) (good1 1),W_led hg,q86 (W_in hg) (.inr rfl) (by omega) (by omega)]
   have:o - 2 ^ e+1 * 2 ^ e=o:=by omega
   rw [this]
noncomputable def stp (L:Nat) (low:Int) (us:List Int):List P2:=caF 1 0 L low us
theorem q565 {ss:List P2} (hs:ss.Pairwise fun p q=>p.1 < q.1) {p:P2} (hp:p ∈ ss) (hf:f p=true) (hl:∀ q ∈ ss,f q=true->p.1<=q.1):ss.find? f=some p:=by
 induction ss with
 | nil=>cases hp
 | cons x ss ih=>
  rw [List.find?_cons]
  cases hx:f x with
  | true=>
   rcases List.mem_cons.mp hp with rfl | hp'
   ·rfl
   ·have h1:=(List.pairwise_cons.mp hs).1 p hp'
    have h2:=hl x List.mem_cons_self hx
    omega
  | false=>
   rcases List.mem_cons.mp hp with rfl | hp'
   ·rw [hf] at hx;cases hx
   ·exact ih (List.pairwise_cons.mp hs).2 hp' fun q hq=>hl q (List.mem_cons_of_mem _ hq)
theorem ltC_le (us:List Int) (o:Int):ltC us o<=us.length:=List.countP_le_length
theorem up_find {L:Nat} {low num:Int} {us:List Int} (hin:InO L us) :
  (ltC us (num+1 - low)=us.length->(stp L low us).find? (fun q=>decide (num < q.1))=none) /\
  (ltC us (num+1 - low) ≠ us.length->(stp L low us).find? (fun q=>decide (num < q.1))=some ((low+kth L us (ltC us (num+1 - low)),((us.count (kth L us (ltC us (num+1 - low))):Nat):Int)):P2)):=by
 have hle:=ltC_le us (num+1 - low)
 constructor
 ·intro h
  rw [List.find?_eq_none]
  intro q hq hf
  have r:=q301 hin hq
  have hm:q.1 - low ∈ us:=List.count_pos_iff.mp (by omega)
  have:=List.countP_eq_length.mp h _ hm
  have:=of_decide_eq_true this
  have:=of_decide_eq_true hf
  omega
 ·intro h
  have hk:ltC us (num+1 - low) < us.length:=by omega
  obtain ⟨c1,c2⟩:=q263 L us _ hin hk
  have r:=q116 L us (ltC us (num+1 - low))
  generalize hko:kth L us (ltC us (num+1 - low))=o at *
  have hge:num+1 - low<=o:=by
   apply Classical.byContradiction
   intro c
   have:=q220 (us:=us) (show o+1<=num+1 - low by omega)
   omega
  rw [q336] at c2
  have hcnt:0 < us.count o:=by
   have:=q220 (us:=us) hge
   omega
  refine q565 (f:=fun q=>decide (num < q.1)) (q333 L low us hin) ((q407 L low us hin _ _).mpr ⟨by rw [show low+o - low=o by omega],by omega⟩) (decide_eq_true (by show num < low+o;omega)) (fun q hq hf=>?_)
  show low+o<=q.1
  have rq:=q301 hin hq
  have hf':=of_decide_eq_true hf
  apply Classical.byContradiction
  intro c
  have h1:=q220 (us:=us) (show num+1 - low<=q.1 - low by omega)
  have h2:=q220 (us:=us) (show q.1 - low+1<=o by omega)
  rw [q336] at h2
  have:0 < us.count (q.1 - low):=by omega
  omega
abbrev q176:Nat:=1
abbrev q410:Nat:=40
inductive spe_lifted (u0:Fg) (e:Nat) (vs:List V) (H:Hp) (Q:VK) (E:XK):Prop
 | mk (v:V) (wy:Addr) (k i:Nat) (L:Nat) (os ws:List Int) (_:vs=[v,.ref wy,.int (k:Int)]) (_:q25 H v (growO L os)) (_:TupF H wy (ws.map V.int)) (_:ws.length=e) (_:e<=L) (_:B01 ws) (_:InO L os) (_:(spots L os ws)[k]? = some i) (_:∀ H',Same H H'->Q (.int (i:Int)) H'):spe_lifted u0 e vs H Q E
def q665 (K:Fg):Sp:=fun vs H Q E=>∃ e,e<=q410/\spe_lifted K e vs H Q E
theorem q337 (w:Int) (ws:List Int):cutV ((w::ws).map V.int) (some 1) none=ws.map V.int:=by
 unfold cutV
 have e1:HT.sIx ((w::ws).map V.int).length 0 (some 1)=1:=by
  rw [List.length_map,List.length_cons]
  simp [HT.sIx]
  try omega
 rw [e1,HT.q691,List.map_cons,List.drop_succ_cons,List.drop_zero,List.length_cons,Nat.add_sub_cancel]
 exact List.take_length
inductive sp_number_at (K:Fg) (vs:List V) (H:Hp) (Q:VK) (E:XK):Prop
 | mk (b:Addr) (v:V) (i:Nat) (o low:Int) (L:Nat) (os:List Int) (_:vs=[.ref b,v,.int (i:Int)]) (_:SqT K H b [.int low,.int (L:Int)]) (_:L<=40) (_:q25 H v (growO L os)) (_:InO L os) (_:os[i]? = some o) (_:∀ H',Same H H'->Q (.int (low+o)) H'):sp_number_at K vs H Q E
noncomputable def muN:St->Nat:=fun σ=>match σ[4]? with
 | some (some (V.int m))=>m.toNat
 | _=>0
inductive sp_way_of_nth (K:Fg) (vs:List V) (H:Hp) (Q:VK) (E:XK):Prop
 | mk (ga:Addr) (xs:List V) (L k:Nat) (gs:List G3) (_:vs=[.int (L:Int),.ref ga,.int (k:Int)]) (_:L<=40) (_:H ga=some (.lst xs)) (_:GatAt H L xs gs) (_:(∀ g ∈ gs,GoodS L g)) (_:gs.length<=100) (_:(Wh gs).length<=900) (_:k < (Wh gs).length) (_:∀ t H',Same H H'->TupF H' t ((wayW L (kth L (Wh gs) k)).map V.int)->Q (.ref t) H'):sp_way_of_nth K vs H Q E
inductive sp_counted_nth (K:Fg) (vs:List V) (H:Hp) (Q:VK) (E:XK):Prop
 | mk (b ga:Addr) (xs:List V) (low:Int) (L k:Nat) (gs:List G3) (_:vs=[.ref b,.ref ga,.int (k:Int)]) (_:SqT K H b [.int low,.int (L:Int)]) (_:L<=40) (_:H ga=some (.lst xs)) (_:GatAt H L xs gs) (_:(∀ g ∈ gs,GoodS L g)) (_:gs.length<=100) (_:(Wh gs).length<=900) (_:k < (Wh gs).length) (_:∀ v H',Same H H'->PsR H' v (low+kth L (Wh gs) k,(((Wh gs).count (kth L (Wh gs) k):Nat):Int))->Q v H'):sp_counted_nth K vs H Q E
def NxV (H:Hp) (v:V):Option P2->Prop
 | none=>v = .non
 | some p=>PsR H v p
inductive sp_next_up (K:Fg) (vs:List V) (H:Hp) (Q:VK) (E:XK):Prop
 | mk (b ga:Addr) (xs:List V) (low num:Int) (L:Nat) (gs:List G3) (_:vs=[.ref b,.ref ga,.int num]) (_:SqT K H b [.int low,.int (L:Int)]) (_:L<=40) (_:H ga=some (.lst xs)) (_:GatAt H L xs gs) (_:(∀ g ∈ gs,GoodS L g)) (_:gs.length<=100) (_:(Wh gs).length<=900) (_:∀ v H',Same H H'->NxV H' v ((stp L low (Wh gs)).find? fun q=>decide (num < q.1))->Q v H'):sp_next_up K vs H Q E
inductive sp_next_down (K:Fg) (vs:List V) (H:Hp) (Q:VK) (E:XK):Prop
 | mk (b ga:Addr) (xs:List V) (low num:Int) (L:Nat) (gs:List G3) (_:vs=[.ref b,.ref ga,.int num]) (_:SqT K H b [.int low,.int (L:Int)]) (_:L<=40) (_:H ga=some (.lst xs)) (_:GatAt H L xs gs) (_:(∀ g ∈ gs,GoodS L g)) (_:gs.length<=100) (_:(Wh gs).length<=900) (_:∀ v H',Same H H'->NxV H' v ((stp L low (Wh gs)).reverse.find? fun q=>decide (q.1 < num))->Q v H'):sp_next_down K vs H Q E
inductive spe_sum_from (K:Fg) (e:Nat) (vs:List V) (H:Hp) (Q:VK) (E:XK):Prop
 | mk (least:Int) (pa:Addr) (xs:List V) (k:Nat) (gs:List G3) (_:vs=[.int least,.int (2 ^ e),.ref pa,.int (k:Int)]) (_:SqL K H pa xs) (_:GatAt H e xs gs) (_:(∀ g ∈ gs,GoodS e g)) (_:gs.length<=100) (_:k<=900) (_:∀ H',Same H H'->Q (.int (sumF e least (Wh gs) k)) H'):spe_sum_from K e vs H Q E
inductive sp_sum_of_least (K:Fg) (vs:List V) (H:Hp) (Q:VK) (E:XK):Prop
 | mk (b ga:Addr) (xs:List V) (low:Int) (L k:Nat) (gs:List G3) (_:vs=[.ref b,.ref ga,.int (k:Int)]) (_:SqT K H b [.int low,.int (L:Int)]) (_:L<=40) (_:SqL K H ga xs) (_:GatAt H L xs gs) (_:(∀ g ∈ gs,GoodS L g)) (_:gs.length<=100) (_:(Wh gs).length<=900) (_:k<=(Wh gs).length) (_:∀ H',Same H H'->Q (.int (sumF L low (Wh gs) k)) H'):sp_sum_of_least K vs H Q E
theorem q666 (z:Bz K mg cA cB cC cD cG):Cal P w K mg base 42 "lifted" pn10 (q665 K):=by
 have sc:=q647
 refine z.d_lifted.recur (k:=q176) (sp:=spe_lifted K) q410 fun e hen c_lifted f fd F=>F.k sc fun _ _ _ s H _ Q _ hr h=>?_
 obtain ⟨v,wy,k,i,L,os,ws,rfl,ht,hw,hwl,heL,h01,hin,hi,q⟩:=h
 refine ⟨_,(q12 (ps_if (q26 op_eq (pln z.len_ (q10 (pv 1) q11)) q13 (q19 _))
 (q12 (ps_if (PW.pt (pw_or (q26 op_lt (pv 2) q13 (q19 _)) (q88 (q26 op_ge (pv 2) (pe_fn (q75 z) (hr.mono (Nat.le_trans (by decide:1<=q176) (Nat.le_add_left _ _))) (by rfl) (q10 (pv 0) q11)) (q19 _)))))
 (q15 q63)
 q21)
 (q15 (q18 (pv 2))))
 q21)
 (q12 (pst 3 sc.nd (pe_fn c_lifted (hr.mono (Nat.le_refl _)) (by rfl) (q10 (pe_fn (q76 z) (hr.mono (Nat.le_trans (by decide:1<=q176) (Nat.le_add_left _ _))) (by rfl) (q10 (pv 0) (q10 (pix q32 (pv 1) q13) q11))) (q10 (q45 q126 (pv 1) (q51 q13) q60) (q10 (pv 2) q11)))))
 (q15 (q18 (pe_fn (q454 z) (hr.mono (Nat.le_trans (by decide:1<=q176) (Nat.le_add_left _ _))) (by rfl) (q10 (pix q32 (pv 0) q13) (q10 (pix q32 (pv 1) q13) (q10 (pv 3) q11)))))))),?_⟩
 refine ⟨_,rfl,wy,_,rfl,.inr hw.sq,rfl,_,rfl,?_⟩
 cases ws with
 | nil=>
  refine ite2 (fun _=>?_) (fun c=>absurd (decide_eq_true rfl) c)
  rw [q453] at hi
  have hk:k < os.length:=by
   have:=(List.getElem?_eq_some_iff.mp hi).1
   rwa [List.length_range] at this
  rw [List.getElem?_range hk] at hi
  cases hi
  refine ⟨_,rfl,_,_,rfl,rfl,_,rfl,?_⟩
  refine ite2 (fun c=>absurd (of_decide_eq_true c) (by omega)) (fun _=>?_)
  refine ⟨_,rfl,_,rfl,v,_,rfl,ht,_,_,rfl,rfl,_,rfl,?_⟩
  rw [q299]
  refine ite2 (fun c=>absurd (of_decide_eq_true c) (by omega)) (fun _=>?_)
  exact ⟨_,rfl,q H (Same.refl H)⟩
 | cons w0 ws=>
  refine ite2 (fun c=>?_) (fun _=>?_)
  ·exfalso
   have:=V.int.inj (of_decide_eq_true c)
   rw [List.length_map,List.length_cons] at this
   omega
  obtain ⟨e',rfl⟩:∃ e',e=e'+1:=⟨ws.length,by rw [<- hwl];rfl⟩
  obtain ⟨L',rfl⟩:∃ L',L=L'+1:=⟨L - 1,by omega⟩
  have hw0:w0=0\/w0=1:=h01 w0 (List.mem_cons_self ..)
  have h01':B01 ws:=fun m hm=>h01 m (List.mem_cons_of_mem _ hm)
  have hwl':ws.length=e':=by rw [List.length_cons] at hwl;omega
  have h0at:atI ((w0::ws).map V.int) 0=some (.int w0):=by
   show atI _ ((0:Nat):Int)=_
   exact q39 rfl
  have hdn:=q564 (w:=w0) (ws:=ws) hin k
  rw [hi] at hdn
  cases hi2:(spots L' (halfO L' w0 os) ws)[k]? with
  | none=>rw [hi2,Option.bind_none] at hdn;cases hdn
  | some i2=>
   rw [hi2,Option.bind_some] at hdn
   refine ⟨_,rfl,_,rfl,wy,_,_,_,rfl,rfl,hw.sq,h0at,v,_,w0,rfl,ht,hw0,fun u hu=>?_⟩
   rw [q194 hin hw0] at hu
   refine ⟨_,rfl,1,rfl,wy,_,rfl,hw,fun w2 H1 s1 hw2=>⟨_,rfl,?_⟩⟩
   rw [q337] at hw2
   refine ⟨u,w2,k,i2,L',halfO L' w0 os,ws,rfl,hu.same s1,hw2,hwl',by omega,h01',q46,hi2,fun H2 s2=>?_⟩
   have s02:=s1.trans s2
   have hne:os ≠ []:=fun z=>by
    rw [z] at hi2
    have e0:halfO L' w0 []=[]:=rfl
    rw [e0,q656] at hi2
    simp at hi2
   have ht2:=ht.same s02
   rw [q77 hne] at ht2
   obtain ⟨a,m,x,y,rfl,ha,hm,_,_⟩:=ht2
   exact ⟨_,rfl,a,_,_,_,rfl,rfl,SqT.of ha,rfl,_,rfl,wy,_,_,_,rfl,rfl,(hw.same s02).sq,h0at,_,rfl,m,os.map (mk0 L'),w0,(i2:Int),i,rfl,hm.sq,hdn.symm,fun H3 s3=>q H3 (s02.trans s3)⟩
theorem q206 (z:Bz K mg cA cB cC cD cG):Cal P w K mg base 3 "number_at" pn15 (sp_number_at K):=by
 have sc:=q383
 refine z.d_number_at.cal fun f fd F=>F.k sc fun _ _ _ s H _ Q _ hr h=>?_
 obtain ⟨b,v,i,o,low,L,os,rfl,hb,hL,ht,hin,gi,q⟩:=h
 refine ⟨_,(q12 (ps_if (PW.pt (pw_or (q26 op_lt (pv 2) q13 (q19 _)) (q88 (q26 op_ge (pv 2) (pe_fn (q75 z) hr.m (by rfl) (q10 (pv 1) q11)) (q19 _)))))
 (q15 q63)
 q21)
 (q12 (pst 3 sc.nd (pix q32 (pv 0) q13))
 (q12 (pst 4 sc.nd (pe_fn (q44 z) hr.m (by rfl) (q10 (pix q32 (pv 0) q13) q11)))
 (q12 (pst 5 sc.nd (pv 1))
 (q12 (pst 6 sc.nd (pv 2))
 (q12 (q310 PassesOwn.never (q26 op_eq (pix q32 (pv 5) q13) q42 (q19 _))
 (q12 (pst 4 sc.nd (pe_op q70 (pv 4) q13))
 (q12 (pst 7 sc.nd (pix q32 (pix q32 (pv 5) q13) (pv 6)))
 (q12 (pst 6 sc.nd (pe_fn (q169 z) hr.m (by rfl) (q10 (pix q32 (pv 5) q13) (q10 (pv 7) (q10 (pv 6) q11)))))
 (q12 (pst 3 sc.nd (pe_op q73 (pv 3) (pe_op q89 (pv 7) (pv 4))))
 (q15 (pst 5 sc.nd (pe_fn (q76 z) hr.m (by rfl) (q10 (pv 5) (q10 (pv 7) q11))))))))))
 (q15 (q18 (pv 3))))))))),?_⟩
 have hi:i < os.length:=(List.getElem?_eq_some_iff.mp gi).1
 refine ⟨_,rfl,_,_,rfl,rfl,_,rfl,?_⟩
 refine ite2 (fun c=>absurd (of_decide_eq_true c) (by omega)) (fun _=>?_)
 refine ⟨_,rfl,_,rfl,v,_,rfl,ht,_,_,rfl,rfl,_,rfl,?_⟩
 rw [q299]
 refine ite2 (fun c=>absurd (of_decide_eq_true c) (by omega)) (fun _=>?_)
 refine ⟨_,rfl,b,_,_,_,rfl,rfl,hb,rfl,_,rfl,b,_,_,_,rfl,rfl,hb,rfl,L,rfl,hL,_,rfl,_,rfl,?_⟩
 refine q311 (fun σ H2=>∃ (e:Nat) (ls:Int) (u:V) (j:Nat) (ms:List Int) (o':Int) (mv:Option V),σ=[some (.ref b),some v,some (.int (i:Int)),some (.int ls),some (.int (2 ^ e)),some u,some (.int (j:Int)),mv]/\e<=40/\Same H H2/\q25 H2 u (growO e ms)/\InO e ms/\ms[j]? = some o'/\ls+o'=low+o) (fun σ _=>muN σ)
  ⟨L,low,v,i,os,o,none,rfl,hL,Same.refl H,ht,hin,gi,rfl⟩ ?_ ?_
 ·rintro σ H2 ⟨e,ls,u,j,ms,o',mv,rfl,he,s2,ht2,hin2,gj,hlo⟩
  have hne:ms ≠ []:=fun z=>by rw [z] at gj;simp at gj
  have ho':=hin2 o' (List.mem_of_getElem? gj)
  cases e with
  | zero=>
   rw [q193 hne] at ht2
   obtain ⟨a,rfl,ha⟩:=ht2
   refine ⟨_,rfl,a,_,_,_,rfl,rfl,SqT.of ha,rfl,rfl,_,rfl,?_⟩
   refine ite2 (fun c=>absurd (of_decide_eq_true c) (by decide)) (fun c=>?_)
   have e1:ls=low+o:=by
    have:(2:Int) ^ 0=1:=rfl
    omega
   refine ⟨_,rfl,?_⟩
   rw [e1]
   exact q H2 s2
  | succ e=>
   have ht2':=ht2
   rw [q77 hne] at ht2
   obtain ⟨a,m,x,y,rfl,ha,hm,hx,hy⟩:=id ht2
   refine ⟨_,rfl,a,_,_,_,rfl,rfl,SqT.of ha,rfl,rfl,_,rfl,?_⟩
   refine ite2 (fun c=>?_) (fun c=>absurd (decide_eq_true rfl) c)
   refine ⟨_,rfl,_,_,rfl,rfl,⟨by decide,by decide⟩,?_⟩
   dsimp only
   rw [q335]
   have gk:((ms.map (mk0 e)).map V.int)[j]? = some (.int (mk0 e o')):=by rw [List.getElem?_map,List.getElem?_map,gj];rfl
   have hk:=mk0b e o'
   refine ⟨_,rfl,a,_,_,_,rfl,rfl,SqT.of ha,rfl,_,rfl,m,_,_,_,rfl,rfl,hm.sq,q39 gk,?_⟩
   refine ⟨_,rfl,a,_,_,_,rfl,rfl,SqT.of ha,rfl,_,rfl,_,rfl,m,ms.map (mk0 e),_,j,rfl,hm,fun H3 s3=>?_⟩
   refine ⟨_,rfl,_,rfl,_,rfl,_,_,rfl,rfl,.inl ⟨by omega,by omega⟩,_,_,rfl,rfl,?_⟩
   refine ⟨_,rfl,_,rfl,_,_,_,rfl,ht2'.same s3,hk,fun u' hu'=>?_⟩
   rw [q194 hin2 hk] at hu'
   have hh:=half_at gj (rfl:mk0 e o'=mk0 e o')
   rw [<- cnt_take] at hh
   have mm:=q119 ho'.1 ho'.2 (rfl:mk0 e o'=mk0 e o')
   refine ⟨⟨e,ls+mk0 e o' * 2 ^ e,u',_,_,_,_,rfl,by omega,s2.trans s3,hu',q46,hh,by omega⟩,?_⟩
   show ((2:Int) ^ e).toNat < ((2:Int) ^ (e+1)).toNat
   have:=p2pos e
   have:=pow2 e
   omega
 ·rintro σ H2 Q1 Q2 hq ⟨_,e0,p,xs,i,v,e1,e2,e3,e4,e5,k,e6,h⟩
  exact ⟨_,e0,p,xs,i,v,e1,e2,e3,e4,e5,k,e6,hq _ _ h⟩
theorem q177 (z:Bz K mg cA cB cC cD cG):Cal P w K mg base 4 "way_of_nth" ["levels", "gathering", "k"] (sp_way_of_nth K):=by
 have sc:=q324
 refine z.d_way_of_nth.cal fun f fd F=>F.k sc fun _ _ _ s H _ Q _ hr h=>?_
 obtain ⟨ga,xs,L,k,gs,rfl,hL,hga,hg,hgd,hl,hw9,hk,q⟩:=h
 refine ⟨_,(q12 (pst 3 sc.nd (q36 q11))
 (q12 (pst 4 sc.nd (pv 1))
 (q12 (pst 5 sc.nd (pv 2))
 (q12 (q66 PassesOwn.never rfl (q52 rfl z.range_ (q10 (pv 0) q11)) (pgn 6 sc.nd)
 (q12 (pst 7 sc.nd (pe_fn (q49 z) hr.m (by rfl) (q10 (pe_fn (q170 z) hr.m (by rfl) (q10 (pv 4) (q10 (q28 (q10 q13 q11)) q11))) q11)))
 (q12 (pst 8 sc.nd (q309 (q26 op_lt (pv 5) (pv 7) (q19 _)) q13 q13))
 (q12 (pst 5 sc.nd (pe_op q81 (pv 5) (pe_op q89 (pv 8) (pv 7))))
 (q12 (pst 4 sc.nd (pe_fn (q170 z) hr.m (by rfl) (q10 (pv 4) (q10 (q28 (q10 (pv 8) q11)) q11))))
 (q15 (q98 (pe_bm PySem.F.plainAttrs_list PySem.F.slot_list_append PySem.F.type_list_append q69 (pv 3) (q10 (pv 8) q11)))))))))
 (q15 (q18 (q68 q91 (by rfl) z.tuple_ q139 (q10 (pv 3) q11)))))))),?_⟩
 refine ⟨szb rfl,fun wl hwl=>?_⟩
 have s1:=q16 hwl (.lst [])
 have hwl1:=@q14 H wl (.lst [])
 generalize upd H wl (.lst [])=H1 at *
 have hgw:ga ≠ wl:=fun z=>by rw [z,hwl] at hga;cases hga
 refine ⟨_,rfl,_,rfl,_,rfl,(L:Int),rfl,by omega,by omega,q61 (n:=L) (fun i σ H2=>∃ (pa:Addr) (zs:List V) (gs':List G3) (k':Nat) (ws:List Int) (v6 v7 v8:Option V),σ=[some (.int (L:Int)),some (.ref ga),some (.int (k:Int)),some (.ref wl),some (.ref pa),some (.int (k':Int)),v6,v7,v8]/\Same H H2/\H2 wl=some (.lst (ws.map V.int))/\ws.length=i/\H2 pa=some (.lst zs)/\GatAt H2 (L - i) zs gs'/\(∀ g ∈ gs',GoodS (L - i) g)/\gs'.length<=100/\(Wh gs').length<=900/\k' < (Wh gs').length/\pa ≠ wl /\
   wayW L (kth L (Wh gs) k)=ws++wayW (L - i) (kth (L - i) (Wh gs') k')) ⟨ga,xs,gs,k,[],none,none,none,rfl,s1,hwl1,rfl,s1 _ _ hga,hg.same s1,hgd,hl,hw9,hk,hgw,rfl⟩ ?_ ?_⟩
 ·rintro i σ H2 hi ⟨pa,zs,gs',k',ws,v6,v7,v8,rfl,s2,hwl2,hwsl,hpa,hg',hgd',hl',hw9',hk',hpw,hway⟩
  obtain ⟨e,he⟩:∃ e,L - i=e+1:=⟨L - i - 1,by omega⟩
  have he2:L - (i+1)=e:=by omega
  rw [he] at hg' hgd' hway
  have el:∀ w:Int,gs'.map (ledS (e+1) [w])=gs'.map (led1 e w):=fun w=>List.map_congr_left fun g _=>by rw [q80,q65]
  have good1:∀ w,∀ g ∈ gs'.map (led1 e w),GoodS e g:=fun w g hg=>by
   obtain ⟨g',hg',rfl⟩:=List.mem_map.mp hg
   exact q135 (hgd' g' hg')
  have hsum:=q334 (e:=e) (Wh gs')
  have lenH:∀ w:Int,(halfO e w (Wh gs')).length<=900:=fun w=>Nat.le_trans q134 hw9'
  refine ⟨_,rfl,szb rfl,fun w0 hw0=>?_⟩
  have s3:=q16 hw0 (.tup [V.int 0])
  have hw0':upd H2 w0 (.tup [V.int 0]) w0=some (.tup [V.int 0]):=q14
  generalize upd H2 w0 (.tup [V.int 0])=H3 at *
  refine ⟨pa,w0,zs,e+1,[0],gs',rfl,SqL.of (s3 _ _ hpa),hg'.same s3,hgd',by omega,SqT.of hw0',by simp,(fun x hx=>by rw [List.mem_singleton.mp hx];exact .inl rfl),fun H4 D4 z4 s4 hD4 hD4n hg4=>?_⟩
  rw [el] at hg4
  refine ⟨D4,z4,e,_,rfl,SqL.of hD4,hg4,by rw [List.length_map];omega,fun H5 s5=>?_⟩
  rw [q113 (good1 0),W_led hgd']
  have s25:=(s3.trans s4).trans s5
  refine ⟨_,rfl,_,rfl,_,_,rfl,rfl,_,rfl,?_⟩
  refine ite2 (fun c=>?_) (fun c=>?_)
  ·have c':k' < (halfO e 0 (Wh gs')).length:=by have:=of_decide_eq_true c;omega
   rw [wayW_lo c'] at hway
   refine ⟨_,rfl,_,rfl,_,rfl,_,_,rfl,rfl,.inl ⟨by decide,by decide⟩,_,_,rfl,rfl,?_⟩
   refine ⟨_,rfl,_,rfl,szb rfl,fun w1 hw1=>?_⟩
   have s6:=q16 hw1 (.tup [V.int 0])
   have hw1':upd H5 w1 (.tup [V.int 0]) w1=some (.tup [V.int 0]):=q14
   generalize upd H5 w1 (.tup [V.int 0])=H6 at *
   have s26:=s25.trans s6
   refine ⟨pa,w1,zs,e+1,[0],gs',rfl,SqL.of (s26 _ _ hpa),hg'.same s26,hgd',by omega,SqT.of hw1',by simp,(fun x hx=>by rw [List.mem_singleton.mp hx];exact .inl rfl),fun H7 D7 z7 s7 hD7 hD7n hg7=>?_⟩
   rw [el] at hg7
   have s27:=s26.trans s7
   have hwl7:=s27 _ _ hwl2
   have hD7w:D7 ≠ wl:=fun z=>by rw [z,s26 _ _ hwl2] at hD7n;cases hD7n
   refine ⟨_,rfl,.inl ⟨rfl,_,SqL.of hwl7⟩,_,rfl,wl,_,_,rfl,rfl,hwl7,by rw [List.length_map];exact q54 (by omega),?_⟩
   have tk:TKeep H7 (upd H7 wl (.lst (ws.map V.int++[V.int 0]))):=.set hwl7
   refine ⟨D7,z7,gs'.map (led1 e 0),k',ws++[0],some (V.int (0+(i:Int))),some (V.int ((halfO e 0 (Wh gs')).length:Nat)),some (V.int 0),?_,q409 (s2.trans s27) hwl _,by rw [q14,List.map_append];rfl,by rw [List.length_append,hwsl];rfl,by rw [q31 hD7w];exact hD7,by rw [he2];exact hg7.tk tk,by rw [he2];exact good1 0,by rw [List.length_map];exact hl',by rw [W_led hgd'];exact lenH 0,by rw [W_led hgd'];exact c',hD7w,?_⟩
   ·have:(k':Int) - 0 * ((halfO e 0 (Wh gs')).length:Nat)=(k':Int):=by omega
    exact congrArg (fun q:Int=>[some (V.int (L:Int)),some (V.ref ga),some (V.int (k:Int)),some (V.ref wl),some (V.ref D7),some (V.int q),some (V.int (0+(i:Int))),some (V.int ((halfO e 0 (Wh gs')).length:Nat)),some (V.int 0)]) this
   ·rw [hway,he2,W_led hgd',List.append_assoc];rfl
  ·have c':¬ k' < (halfO e 0 (Wh gs')).length:=fun z=>c (decide_eq_true (by omega))
   rw [wayW_hi c'] at hway
   refine ⟨_,rfl,_,rfl,_,rfl,_,_,rfl,rfl,.inl ⟨by decide,by decide⟩,_,_,rfl,rfl,?_⟩
   refine ⟨_,rfl,_,rfl,szb rfl,fun w1 hw1=>?_⟩
   have s6:=q16 hw1 (.tup [V.int 1])
   have hw1':upd H5 w1 (.tup [V.int 1]) w1=some (.tup [V.int 1]):=q14
   generalize upd H5 w1 (.tup [V.int 1])=H6 at *
   have s26:=s25.trans s6
   refine ⟨pa,w1,zs,e+1,[1],gs',rfl,SqL.of (s26 _ _ hpa),hg'.same s26,hgd',by omega,SqT.of hw1',by simp,(fun x hx=>by rw [List.mem_singleton.mp hx];exact .inr rfl),fun H7 D7 z7 s7 hD7 hD7n hg7=>?_⟩
   rw [el] at hg7
   have s27:=s26.trans s7
   have hwl7:=s27 _ _ hwl2
   have hD7w:D7 ≠ wl:=fun z=>by rw [z,s26 _ _ hwl2] at hD7n;cases hD7n
   refine ⟨_,rfl,.inl ⟨rfl,_,SqL.of hwl7⟩,_,rfl,wl,_,_,rfl,rfl,hwl7,by rw [List.length_map];exact q54 (by omega),?_⟩
   have tk:TKeep H7 (upd H7 wl (.lst (ws.map V.int++[V.int 1]))):=.set hwl7
   refine ⟨D7,z7,gs'.map (led1 e 1),k' - (halfO e 0 (Wh gs')).length,ws++[1],some (V.int (0+(i:Int))),some (V.int ((halfO e 0 (Wh gs')).length:Nat)),some (V.int 1),?_,q409 (s2.trans s27) hwl _,by rw [q14,List.map_append];rfl,by rw [List.length_append,hwsl];rfl,by rw [q31 hD7w];exact hD7,by rw [he2];exact hg7.tk tk,by rw [he2];exact good1 1,by rw [List.length_map];exact hl',by rw [W_led hgd'];exact lenH 1,by rw [W_led hgd'];omega,hD7w,?_⟩
   ·have:(k':Int) - 1 * ((halfO e 0 (Wh gs')).length:Nat)=((k' - (halfO e 0 (Wh gs')).length:Nat):Int):=by omega
    exact congrArg (fun q:Int=>[some (V.int (L:Int)),some (V.ref ga),some (V.int (k:Int)),some (V.ref wl),some (V.ref D7),some (V.int q),some (V.int (0+(i:Int))),some (V.int ((halfO e 0 (Wh gs')).length:Nat)),some (V.int 1)]) this
   ·rw [hway,he2,W_led hgd',List.append_assoc];rfl
 ·rintro σ H2 ⟨pa,zs,gs',k',ws,v6,v7,v8,rfl,s2,hwl2,hwsl,hpa,hg',hgd',hl',hw9',hk',hpw,hway⟩
  rw [Nat.sub_self] at hway
  have hw2:wayW L (kth L (Wh gs) k)=ws:=by rw [hway];exact List.append_nil ws
  rw [hw2] at q
  exact ⟨_,rfl,wl,_,rfl,SqL.of hwl2,fun t H' s' ht=>q t H' (s2.trans s') ht⟩
theorem q279 (z:Bz K mg cA cB cC cD cG):Cal P w K mg base 5 "counted_nth" pn6 (sp_counted_nth K):=by
 have sc:=q275
 refine z.d_counted_nth.cal fun f fd F=>F.k sc fun _ _ _ s H _ Q _ hr h=>?_
 obtain ⟨b,ga,xs,low,L,k,gs,rfl,hb,hL,hga,hg,hgd,hl,hw9,hk,q⟩:=h
 refine ⟨_,(q12 (pst 3 sc.nd (pe_fn (q177 z) hr.m (by rfl) (q10 (pix q29 (pr 0) q13) (q10 (pr 1) (q10 (pr 2) q11)))))
 (q15 (q18 (q28 (q10 (pix q29 (pe_fn (q302 z) hr.m (by rfl) (q10 (pr 0) (q10 (pr 3) q11))) q13) (q10 (pe_fn (q49 z) hr.m (by rfl) (q10 (pe_fn (q170 z) hr.m (by rfl) (q10 (pr 1) (q10 (pr 3) q11))) q11)) q11)))))),?_⟩
 have r:=q116 L (Wh gs) k
 refine ⟨_,_,hb,rfl,ga,xs,L,k,gs,rfl,hL,hga,hg,hgd,hl,hw9,hk,fun t H1 s1 ht=>?_⟩
 generalize kth L (Wh gs) k=o at *
 refine ⟨b,t,low,L,wayW L o,rfl,s1.seqT hb,hL,ht.sq,fun p hp=>?_⟩
 have hsp:spanS low L (wayW L o)=(low+o,1):=q219 L low o r.1 r.2
 rw [hsp]
 have s2:=q16 hp (.tup [V.int (low+o),.int (low+o+1 - 1)])
 have hp2:=@q14 H1 p (.tup [V.int (low+o),.int (low+o+1 - 1)])
 try dsimp only
 generalize upd H1 p (.tup [V.int (low+o),.int (low+o+1 - 1)])=H2 at *
 have s02:=s1.trans s2
 refine ⟨_,_,SqT.of hp2,rfl,?_⟩
 refine ⟨ga,t,xs,L,wayW L o,gs,rfl,SqL.of (s02 _ _ hga),hg.same s02,hgd,by omega,(ht.same s2).sq,by rw [q97];exact Nat.le_refl _,q155 L o,fun H3 D3 z3 s3 hD3 _ hg3=>?_⟩
 refine ⟨D3,z3,_,_,rfl,SqL.of hD3,hg3,by rw [List.length_map];omega,fun H4 s4=>?_⟩
 rw [q175 L o gs r.1 r.2 hgd]
 exact ⟨szb rfl,fun v hv=>q _ _ (((s02.trans s3).trans s4).trans (q16 hv _)) ⟨v,rfl,q14⟩⟩
theorem q566 (z:Bz K mg cA cB cC cD cG):Cal P w K mg base 6 "next_up" pn2 (sp_next_up K):=by
 have sc:=q558
 refine z.d_next_up.cal fun f fd F=>F.k sc fun _ _ _ s H _ Q _ hr h=>?_
 obtain ⟨b,ga,xs,low,num,L,gs,rfl,hb,hL,hga,hg,hgd,hl,hw9,q⟩:=h
 refine ⟨_,(q12 (pst 3 sc.nd (pe_fn (q515 z) hr.m (by rfl) (q10 (pr 0) (q10 (pr 1) (q10 (pe_op q40 (pr 2) q13) q11)))))
 (q12 (ps_if (q23 op_eq (pr 3) (pe_fn (q49 z) hr.m (by rfl) (q10 (pr 1) q11)) (q19 _))
 (q15 (q18 q58))
 q21)
 (q15 (q18 (pe_fn (q279 z) hr.m (by rfl) (q10 (pr 0) (q10 (pr 1) (q10 (pr 3) q11)))))))),?_⟩
 obtain ⟨u1,u2⟩:=up_find (L:=L) (low:=low) (num:=num) (W_in hgd)
 have hle:=ltC_le (Wh gs) (num+1 - low)
 refine ⟨b,ga,xs,low,num+1,L,gs,rfl,hb,hL,SqL.of hga,hg,hgd,hl,fun H1 s1=>?_⟩
 change ∀ v H',Same H H'->NxV H' v _->Q v H' at q
 refine ⟨ga,xs,L,gs,rfl,SqL.of (s1 _ _ hga),hg.same s1,by omega,fun H2 s2=>?_⟩
 rw [q113 hgd]
 refine ⟨rfl,?_⟩
 by_cases c:ltC (Wh gs) (num+1 - low)=(Wh gs).length
 ·rw [u1 c] at q
  refine ite2 (fun _=>q .non H2 (s1.trans s2) rfl) (fun c2=>absurd (decide_eq_true (by show V.int ((ltC (Wh gs) (num+1 - low):Nat):Int)=_;rw [c])) c2)
 ·rw [u2 c] at q
  refine ite2 (fun c2=>absurd (by have:=V.int.inj (of_decide_eq_true c2);unfold ltC;omega) c) (fun _=>?_)
  have s02:=s1.trans s2
  exact ⟨b,ga,xs,low,L,ltC (Wh gs) (num+1 - low),gs,rfl,s02.seqT hb,hL,s02 _ _ hga,hg.same s02,hgd,hl,hw9,by omega,fun v H3 s3 hv=>q v H3 (s02.trans s3) hv⟩
theorem q455:∀ (L:Nat) (o x:Int),0<=o->o < 2 ^ L->0<=x->x < 2 ^ L->inW L x (wayW L o)=decide (x=o)
 | 0,o,x,h0,h1,h2,h3=>by
  have:(2:Int) ^ 0=1:=rfl
  rw [decide_eq_true (by omega)]
  rfl
 | e+1,o,x,h0,h1,h2,h3=>by
  have p:=pow2 e
  have hp:=p2pos e
  by_cases c:o < 2 ^ e
  ·rw [q114 c,q218 ⟨h2,h3⟩]
   rcases mk0b e x with m | m
   ·have mm:=q119 h2 h3 m
    have r0:=Int.emod_nonneg x (show (2:Int) ^ e ≠ 0 by omega)
    have r1:=Int.emod_lt_of_pos x hp
    rw [m,q455 e o (x % 2 ^ e) h0 c r0 r1]
    have:x % 2 ^ e=x:=by omega
    rw [this]
    rfl
   ·have mm:=q119 h2 h3 m
    have r0:=Int.emod_nonneg x (show (2:Int) ^ e ≠ 0 by omega)
    rw [m,decide_eq_false (by omega)]
    rfl
  ·rw [q115 c,q218 ⟨h2,h3⟩]
   have r0:=Int.emod_nonneg x (show (2:Int) ^ e ≠ 0 by omega)
   have r1:=Int.emod_lt_of_pos x hp
   rcases mk0b e x with m | m
   ·have mm:=q119 h2 h3 m
    rw [m,decide_eq_false (by omega)]
    rfl
   ·have mm:=q119 h2 h3 m
    rw [m,q455 e (o - 2 ^ e) (x % 2 ^ e) (by omega) (by omega) r0 r1]
    by_cases z:x=o
    ·rw [decide_eq_true z,decide_eq_true (by omega)]
     rfl
    ·rw [decide_eq_false z,decide_eq_false (by omega)]
     rfl
theorem C_sel2 {os:List Int} {s t:Nat} (h:s<=t):(os.take s).countP q+(sel (os,s,t)).countP q=(os.take t).countP q:=by
 have e:os.take t=os.take s++sel (os,s,t):=by
  unfold sel
  have:=(List.take_append_drop s (os.take t)).symm
  rw [List.take_take,Nat.min_eq_left h] at this
  exact this
 rw [e,List.countP_append]
theorem q667 (g:G3):Wh [g]=sel g:=by unfold Wh;rw [List.flatMap_cons,List.flatMap_nil,List.append_nil]
theorem cnt_q (us:List Int) (o:Int):us.count o=us.countP fun x=>decide (x=o):=by
 rw [List.count_eq_countP]
 refine List.countP_congr fun x _=>?_
 rw [beq_iff_eq,decide_eq_true_eq]
theorem lift_at {L:Nat} {g:G3} {o:Int} {left:Nat} (hg:GoodS L g) (h0:0<=o) (h1:o < 2 ^ L) (hl:left < (sel g).count o) :
  ∃ i,(spots L g.1 (wayW L o))[(ledS L (wayW L o) g).2.1+left]? = some i/\g.2.1<=i/\i < g.2.2/\g.1[i]? = some o/\(sel (g.1,g.2.1,i)).count o=left:=by
 obtain ⟨os,s,t⟩:=g
 obtain ⟨hin,hst,htl,_⟩:=hg
 change s<=t at hst
 change t<=os.length at htl
 have hq:∀ x ∈ os,inW L x (wayW L o)=decide (x=o):=fun x hx=>q455 L o x h0 h1 (hin x hx).1 (hin x hx).2
 have hs:spots L os (wayW L o)=idxs (fun x=>decide (x=o)) os:=q300 hq
 have hcc:∀ k,(os.take k).countP (fun x=>inW L x (wayW L o))=(os.take k).countP fun x=>decide (x=o):=fun k=>List.countP_congr fun x hx=>by rw [hq x (List.mem_of_mem_take hx)]
 have hled:(ledS L (wayW L o) (os,s,t)).2.1=(os.take s).countP fun x=>decide (x=o):=by
  rcases q514 L (wayW L o) os s t (by rw [q97];exact Nat.le_refl _) hin with e | e | e
  ·rw [e];exact hcc s
  ·omega
  ·omega
 rw [cnt_q] at hl
 have c1:=C_sel2 (q:=fun x=>decide (x=o)) (os:=os) hst
 have c2:=q171 (q:=fun x=>decide (x=o)) os htl
 rw [List.take_of_length_le (Nat.le_refl os.length)] at c2
 have hlen:(idxs (fun x=>decide (x=o)) os).length=os.countP fun x=>decide (x=o):=by
  have:=congrArg List.length (q404 (p:=fun x=>decide (x=o)) os)
  rw [List.length_map] at this
  rw [this,List.countP_eq_length_filter]
 have hk:(os.take s).countP (fun x=>decide (x=o))+left < (idxs (fun x=>decide (x=o)) os).length:=by omega
 obtain ⟨i,hi⟩:∃ i,(idxs (fun x=>decide (x=o)) os)[(os.take s).countP (fun x=>decide (x=o))+left]? = some i:=⟨_,List.getElem?_eq_getElem hk⟩
 obtain ⟨o',k1,k2,k3⟩:=q332 os _ i hi
 have eo:o'=o:=of_decide_eq_true k2
 subst eo
 have hsi:s<=i:=by
  apply Classical.byContradiction
  intro c
  have m:=q171 (q:=fun x=>decide (x=o')) os (show i+1<=s by omega)
  rw [cnt_step k1 k2] at m
  omega
 have hit:i < t:=by
  apply Classical.byContradiction
  intro c
  have m:=q171 (q:=fun x=>decide (x=o')) os (show t<=i by omega)
  omega
 refine ⟨i,?_,hsi,hit,k1,?_⟩
 ·show (spots L os (wayW L o'))[(ledS L (wayW L o') (os,s,t)).2.1+left]? = some i
  rw [hs,hled]
  exact hi
 ·show (sel (os,s,i)).count o'=left
  rw [cnt_q]
  have c3:=C_sel2 (q:=fun x=>decide (x=o')) (os:=os) hsi
  omega
def Thing (gs:List G3) (o:Int) (num j pl:Nat):Prop:=∃ g,gs[j]? = some g/\g.2.1<=pl/\pl < g.2.2/\g.1[pl]? = some o/\num=(Wh (gs.take j++[(g.1,g.2.1,pl)])).count o
theorem Wh_take {gs:List G3} {j:Nat} (h:gs[j]? = some g):Wh (gs.take (j+1))=Wh (gs.take j)++sel g:=by
 rw [List.take_add_one,h]
 show Wh (gs.take j++[g])=_
 rw [W_app,q667]
theorem cutTake {xs:List V} {j:Nat}:cutV xs none (some (j:Int))=xs.take j:=by
 unfold cutV
 rw [HT.q692,HT.q691,List.drop_zero,Nat.sub_zero]
 by_cases h:j<=xs.length
 ·rw [Nat.min_eq_left h]
 ·rw [Nat.min_eq_right (by omega),List.take_length,List.take_of_length_le (by omega)]
theorem q668 {L:Nat} (h:GatAt H L xs gs) (k:GatAt H L ys hs):GatAt H L (xs++ys) (gs++hs):=by
 have h':AllAt (fun H v g=>StrAt H L v g) H xs gs:=h
 have k':AllAt (fun H v g=>StrAt H L v g) H ys hs:=k
 exact h'.app k'
theorem gat_take {L:Nat} {xs:List V} {gs:List G3} (h:GatAt H L xs gs) (j:Nat):GatAt H L (xs.take j) (gs.take j):=by
 refine ⟨by rw [List.length_take,List.length_take,h.1],fun i x g h1 h2=>?_⟩
 have hi:i < j:=by
  have:=(List.getElem?_eq_some_iff.mp h1).1
  rw [List.length_take] at this
  omega
 rw [List.getElem?_take_of_lt hi] at h1 h2
 exact h.2 i x g h1 h2
theorem q456 {L:Nat} (h:StrAt H L v g):GatAt H L [v] [g]:=(GatAt.nil H L).snoc h
inductive sp_nth_alike (u0:Fg) (vs:List V) (H:Hp) (Q:VK) (E:XK):Prop
 | mk (ga wy:Addr) (xs:List V) (L num:Nat) (o:Int) (gs:List G3) (_:vs=[.ref ga,.ref wy,.int (num:Int)]) (_:L<=40) (_:H ga=some (.lst xs)) (_:GatAt H L xs gs) (_:(∀ g ∈ gs,GoodS L g)) (_:gs.length<=100) (_:TupF H wy ((wayW L o).map V.int)) (_:0<=o) (_:o < 2 ^ L) (_:num < (Wh gs).count o) (_:∀ (p:Addr) (j pl:Nat) (H':Hp),Same H H'->H' p=some (.tup [.int (j:Int),.int (pl:Int)])->Thing gs o num j pl->Q (.ref p) H'):sp_nth_alike u0 vs H Q E
inductive sp_nth_least (K:Fg) (vs:List V) (H:Hp) (Q:VK) (E:XK):Prop
 | mk (b ga:Addr) (xs:List V) (low:Int) (L k:Nat) (gs:List G3) (_:vs=[.ref b,.ref ga,.int (k:Int)]) (_:SqT K H b [.int low,.int (L:Int)]) (_:L<=40) (_:H ga=some (.lst xs)) (_:GatAt H L xs gs) (_:(∀ g ∈ gs,GoodS L g)) (_:gs.length<=100) (_:(Wh gs).length<=900) (_:k < (Wh gs).length) (_:∀ (p:Addr) (j pl:Nat) (H':Hp),Same H H'->SqT K H' p [.int (low+kth L (Wh gs) k),.int (j:Int),.int (pl:Int)]->Thing gs (kth L (Wh gs) k) (k - ltC (Wh gs) (kth L (Wh gs) k)) j pl->Q (.ref p) H'):sp_nth_least K vs H Q E
inductive sp_rank_of (K:Fg) (vs:List V) (H:Hp) (Q:VK) (E:XK):Prop
 | mk (b ga:Addr) (xs:List V) (low o:Int) (L j pl:Nat) (gs:List G3) (g:G3) (_:vs=[.ref b,.ref ga,.int (j:Int),.int (pl:Int)]) (_:SqT K H b [.int low,.int (L:Int)]) (_:L<=40) (_:H ga=some (.lst xs)) (_:GatAt H L xs gs) (_:(∀ g ∈ gs,GoodS L g)) (_:gs.length<=90) (_:gs[j]? = some g) (_:g.2.1<=pl) (_:pl < g.2.2) (_:g.1[pl]? = some o) (_:∀ H',Same H H'->Q (.int (((ltC (Wh gs) o:Nat):Int)+(((Wh (gs.take j++[(g.1,g.2.1,pl)])).count o:Nat):Int))) H'):sp_rank_of K vs H Q E
noncomputable def muJ (n:Nat):St->Nat:=fun σ=>match σ[5]? with
 | some (some (V.int m))=>n - m.toNat
 | _=>0
theorem q411 (z:Bz K mg cA cB cC cD cG):Cal P w K mg base 43 "nth_alike" ["gathering", "way", "number"] (sp_nth_alike K):=by
 have sc:=q387
 refine z.d_nth_alike.cal fun f fd F=>F.k sc fun _ _ _ s H _ Q _ hr h=>?_
 obtain ⟨ga,wy,xs,L,num,o,gs,rfl,hL,hga,hg,hgd,hl,hwy,h0,h1,hnum,q⟩:=h
 refine ⟨_,(q12 (pst 3 sc.nd (pe_fn (q170 z) hr.m (by rfl) (q10 (pv 0) (q10 (pv 1) q11))))
 (q12 (pst 4 sc.nd (pv 2))
 (q12 (pst 5 sc.nd q13)
 (q12 (q310 PassesOwn.never (q26 op_ge (pv 4) (pe_fn (q49 z) hr.m (by rfl) (q10 (q36 (q10 (pix q47 (pv 3) (pv 5)) q11)) q11)) (q19 _))
 (q12 (pst 4 sc.nd (pe_op q81 (pv 4) (pe_fn (q49 z) hr.m (by rfl) (q10 (q36 (q10 (pix q47 (pv 3) (pv 5)) q11)) q11))))
 (q15 (pst 5 sc.nd (pe_op q73 (pv 5) q13)))))
 (q15 (q18 (q28 (q10 (pv 5) (q10 (pe_fn (q666 z) hr.m (by rfl) (q10 (pix q32 (pix q47 (pv 0) (pv 5)) q13) (q10 (pv 1) (q10 (pe_op q73 (pix q32 (pix q47 (pv 3) (pv 5)) q13) (pv 4)) q11)))) q11))))))))),?_⟩
 have hwl:=q97 L o
 refine ⟨_,rfl,_,rfl,ga,wy,xs,L,wayW L o,gs,rfl,SqL.of hga,hg,hgd,by omega,hwy.sq,by omega,q155 L o,fun H1 D zs s1 hD _ hg1=>?_⟩
 rw [hwl,Nat.sub_self] at hg1
 have one:∀ g ∈ gs,manyG [ledS L (wayW L o) g]=((sel g).count o:Nat):=fun g hgm=>by
  have:=q175 L o [g] h0 h1 (fun x hx=>by rw [List.mem_singleton.mp hx];exact hgd g hgm)
  rw [q667] at this
  exact this
 have hjlt:∀ (j left:Nat),left+(Wh (gs.take j)).count o=num->j < gs.length:=fun j left e=>by
  apply Classical.byContradiction
  intro c
  rw [List.take_of_length_le (by omega)] at e
  omega
 refine ⟨_,rfl,?_⟩
 have at1:∀ j:Nat,j < gs.length -> ∃ g z t t' u u',gs[j]? = some g/\zs[j]? = some z/\z=V.ref t'/\H1 t'=some (.tup [u',.int ((ledS L (wayW L o) g).2.1:Int),.int ((ledS L (wayW L o) g).2.2:Int)])/\StrAt H1 0 z (ledS L (wayW L o) g)/\xs[j]? = some (V.ref t)/\H t=some (.tup [u,.int (g.2.1:Int),.int (g.2.2:Int)])/\q25 H u (growO L g.1):=by
  intro j hj
  have gj:gs[j]? = some gs[j]:=List.getElem?_eq_getElem hj
  have hjz:j < zs.length:=by rw [hg1.1,List.length_map];exact hj
  have hjx:j < xs.length:=by rw [hg.1];exact hj
  have gz:=List.getElem?_eq_getElem hjz
  have gx:=List.getElem?_eq_getElem hjx
  have hstr:=hg1.2 j _ _ gz (by rw [List.getElem?_map,gj];rfl)
  obtain ⟨t',u',e1,e2,e3⟩:=id hstr
  obtain ⟨t,u,f1,f2,f3⟩:=hg.2 j _ _ gx gj
  rw [f1] at gx
  exact ⟨_,_,t,t',u,u',gj,gz,e1,e2,hstr,gx,f2,f3⟩
 refine q311 (fun σ H2=>∃ (left j:Nat),σ=[some (.ref ga),some (.ref wy),some (.int (num:Int)),some (.ref D),some (.int (left:Int)),some (.int (j:Int))]/\Same H1 H2/\left+(Wh (gs.take j)).count o=num) (fun σ _=>muJ gs.length σ)
  ⟨num,0,rfl,Same.refl _,rfl⟩ ?_ ?_
 ·rintro σ H2 ⟨left,j,rfl,s2,hinv⟩
  have hj:=hjlt j left hinv
  obtain ⟨g,z,t,t',u,u',gj,gz,e1,e2,hstr,gx,f2,f3⟩:=at1 j hj
  have hgm:=List.mem_of_getElem? gj
  have hwt:=Wh_take gj
  refine ⟨_,rfl,_,rfl,_,rfl,D,_,_,_,rfl,rfl,SqL.of (s2 _ _ hD),q39 gz,szb rfl,fun l1 hl1=>?_⟩
  have s3:=q16 hl1 (.lst [z])
  have hl1':upd H2 l1 (.lst [z]) l1=some (.lst [z]):=q14
  generalize upd H2 l1 (.lst [z])=H3 at *
  have s13:=s2.trans s3
  refine ⟨l1,[z],0,[ledS L (wayW L o) g],rfl,SqL.of hl1',q456 (hstr.tk (.same s13)),by simp,fun H4 s4=>?_⟩
  rw [one g hgm]
  refine ⟨_,_,rfl,rfl,_,rfl,?_⟩
  have s14:=s13.trans s4
  refine ite2 (fun c=>?_) (fun c=>?_)
  ·have c':(sel g).count o<=left:=by have:=of_decide_eq_true c;omega
   refine ⟨_,rfl,_,rfl,_,rfl,D,_,_,_,rfl,rfl,SqL.of (s14 _ _ hD),q39 gz,szb rfl,fun l2 hl2=>?_⟩
   have s5:=q16 hl2 (.lst [z])
   have hl2':upd H4 l2 (.lst [z]) l2=some (.lst [z]):=q14
   generalize upd H4 l2 (.lst [z])=H5 at *
   have s15:=s14.trans s5
   refine ⟨l2,[z],0,[ledS L (wayW L o) g],rfl,SqL.of hl2',q456 (hstr.tk (.same s15)),by simp,fun H6 s6=>?_⟩
   rw [one g hgm]
   refine ⟨_,_,rfl,rfl,_,rfl,_,_,rfl,rfl,⟨left - (sel g).count o,j+1,?_,s15.trans s6,?_⟩,?_⟩
   ·have a1:(left:Int) - ((sel g).count o:Nat)=((left - (sel g).count o:Nat):Int):=by omega
    have a2:(j:Int)+1=((j+1:Nat):Int):=by omega
    show [some (V.ref ga),some (V.ref wy),some (V.int (num:Int)),some (V.ref D),some (V.int ((left:Int) - ((sel g).count o:Nat))),some (V.int ((j:Int)+1))]=_
    rw [a1,a2]
   ·rw [hwt,List.count_append];omega
   ·show gs.length - ((j:Int)+1).toNat < gs.length - ((j:Int)).toNat
    omega
  ·have c':left < (sel g).count o:=by
    apply Classical.byContradiction
    intro z2
    exact c (decide_eq_true (by omega))
   obtain ⟨i,k1,k2,k3,k4,k5⟩:=lift_at (hgd g hgm) h0 h1 c'
   have s04:=s1.trans s14
   refine ⟨_,rfl,_,rfl,_,rfl,ga,_,_,_,rfl,rfl,SqL.of (s04 _ _ hga),q39 gx,t,_,_,_,rfl,rfl,SqT.of (s04 _ _ f2),rfl,_,rfl,_,rfl,_,rfl,D,_,_,_,rfl,rfl,SqL.of (s14 _ _ hD),q39 gz,?_⟩
   rw [e1]
   refine ⟨t',_,_,_,rfl,rfl,SqT.of (s14 _ _ e2),rfl,_,rfl,_,_,rfl,rfl,?_⟩
   refine ⟨L,hL,u,wy,(ledS L (wayW L o) g).2.1+left,i,L,g.1,wayW L o,?_,f3.same s04,hwy.same s04,hwl,Nat.le_refl _,q155 L o,(hgd g hgm).1,k1,fun H5 s5=>⟨szb rfl,fun p hp=>?_⟩⟩
   ·exact congrArg (fun q:Int=>[u,V.ref wy,V.int q]) (show ((ledS L (wayW L o) g).2.1:Int)+(left:Int)=(((ledS L (wayW L o) g).2.1+left:Nat):Int) by omega)
   refine q p j i _ ((s04.trans s5).trans (q16 hp _)) q14 ⟨g,gj,k2,k3,k4,?_⟩
   rw [W_app,q667,List.count_append,k5]
   omega
 ·rintro σ H2 Q1 Q2 hq ⟨_,e0,_,e1,_,e2,a,us,i,v,f1,f2,f3,f4,g0,g⟩
  refine ⟨_,e0,_,e1,_,e2,a,us,i,v,f1,f2,f3,f4,g0,fun p hp=>?_⟩
  obtain ⟨ga',xs',L',gs',h1,h2,h3,h4,h5⟩:=g p hp
  refine ⟨ga',xs',L',gs',h1,h2,h3,h4,fun H' s'=>?_⟩
  obtain ⟨i',j',w1,w2,k,w3,w4⟩:=h5 H' s'
  exact ⟨i',j',w1,w2,k,w3,hq _ _ w4⟩
theorem q412 (z:Bz K mg cA cB cC cD cG):Cal P w K mg base 44 "nth_least" pn6 (sp_nth_least K):=by
 have sc:=q386
 refine z.d_nth_least.cal fun f fd F=>F.k sc fun _ _ _ s H _ Q _ hr h=>?_
 obtain ⟨b,ga,xs,low,L,k,gs,rfl,hb,hL,hga,hg,hgd,hl,hw9,hk,q⟩:=h
 refine ⟨_,(q12 (ps_if (PW.pt (pw_or (q26 op_lt (pv 2) q13 (q19 _)) (q88 (q26 op_ge (pv 2) (pe_fn (q49 z) hr.m (by rfl) (q10 (pv 1) q11)) (q19 _)))))
 (q15 q63)
 q21)
 (q12 (pst 3 sc.nd (pe_fn (q177 z) hr.m (by rfl) (q10 (pix q32 (pv 0) q13) (q10 (pv 1) (q10 (pv 2) q11)))))
 (q12 (pst 4 sc.nd (pe_op q81 (pv 2) (pe_fn (q101 z) hr.m (by rfl) (q10 (pv 1) (q10 (pv 3) q11)))))
 (q15 (q18 (pe_op op_catU (q28 (q10 (pix q32 (pe_fn (q302 z) hr.m (by rfl) (q10 (pv 0) (q10 (pv 3) q11))) q13) q11)) (pe_fn (q411 z) hr.m (by rfl) (q10 (pv 1) (q10 (pv 3) (q10 (pv 4) q11)))))))))),?_⟩
 have r:=q116 L (Wh gs) k
 obtain ⟨c1,c2⟩:=q263 L (Wh gs) k (W_in hgd) hk
 rw [q336] at c2
 refine ⟨_,rfl,_,_,rfl,rfl,_,rfl,?_⟩
 refine ite2 (fun c=>absurd (of_decide_eq_true c) (by omega)) (fun _=>?_)
 refine ⟨_,rfl,_,rfl,ga,xs,L,gs,rfl,SqL.of hga,hg,by omega,fun H1 s1=>?_⟩
 rw [q113 hgd]
 refine ⟨_,_,rfl,rfl,_,rfl,?_⟩
 refine ite2 (fun c=>absurd (of_decide_eq_true c) (by omega)) (fun _=>?_)
 refine ⟨_,rfl,b,_,_,_,rfl,rfl,s1.seqT hb,rfl,_,rfl,_,rfl,ga,xs,L,k,gs,rfl,hL,s1 _ _ hga,hg.same s1,hgd,hl,hw9,hk,fun t H2 s2 ht=>?_⟩
 have s02:=s1.trans s2
 generalize kth L (Wh gs) k=o at *
 refine ⟨_,rfl,_,rfl,_,rfl,ga,t,xs,L,o,gs,rfl,SqL.of (s02 _ _ hga),hg.same s02,hgd,hl,ht.sq,r.1,r.2,fun H3 s3=>⟨_,_,rfl,rfl,?_⟩⟩
 have s03:=s02.trans s3
 refine ⟨_,rfl,_,rfl,b,t,low,L,wayW L o,rfl,s03.seqT hb,hL,(ht.same s3).sq,fun p hp=>?_⟩
 have hsp:spanS low L (wayW L o)=(low+o,1):=q219 L low o r.1 r.2
 rw [hsp]
 have s4:=q16 hp (.tup [V.int (low+o),.int (low+o+1 - 1)])
 have hp4:=@q14 H3 p (.tup [V.int (low+o),.int (low+o+1 - 1)])
 dsimp only
 generalize upd H3 p (.tup [V.int (low+o),.int (low+o+1 - 1)])=H4 at *
 refine ⟨p,_,_,_,rfl,rfl,SqT.of hp4,rfl,szb rfl,fun p1 hp1=>?_⟩
 have s5:=q16 hp1 (.tup [V.int (low+o)])
 have hp5:=@q14 H4 p1 (.tup [V.int (low+o)])
 generalize upd H4 p1 (.tup [V.int (low+o)])=H5 at *
 have s05:=(s03.trans s4).trans s5
 refine ⟨_,rfl,_,rfl,_,rfl,ga,t,xs,L,k - ltC (Wh gs) o,o,gs,?_,hL,s05 _ _ hga,hg.same s05,hgd,hl,(((ht.same s3).same s4).same s5),r.1,r.2,by omega,fun p2 j pl H6 s6 hp2 hth=>?_⟩
 ·exact congrArg (fun q:Int=>[V.ref ga,V.ref t,V.int q]) (show (k:Int) - ((ltC (Wh gs) o:Nat):Int)=((k - ltC (Wh gs) o:Nat):Int) by omega)
 refine ⟨p1,p2,_,_,rfl,rfl,SqT.of (s6 _ _ hp5),SqT.of hp2,szb rfl,fun p3 H7 s7 h3 _=>?_⟩
 exact q p3 j pl H7 ((s05.trans s6).trans s7) h3 hth
theorem q567 (z:Bz K mg cA cB cC cD cG):Cal P w K mg base 5 "rank_of" pn18 (sp_rank_of K):=by
 have sc:=q557
 refine z.d_rank_of.cal fun f fd F=>F.k sc fun _ _ _ s H _ Q _ hr h=>?_
 obtain ⟨b,ga,xs,low,o,L,j,pl,gs,g,rfl,hb,hL,hga,hg,hgd,hl,gj,hs,ht,ho,q⟩:=h
 refine ⟨_,(q12 (ps_if (PW.pt (pw_or (q26 op_lt (pv 2) q13 (q19 _)) (q88 (q26 op_ge (pv 2) (pln z.len_ (q10 (pv 1) q11)) (q19 _)))))
 (q15 q63)
 q21)
 (q12 (pst 4 sc.nd (pix q47 (pv 1) (pv 2)))
 (q12 (ps_if (PW.pt (pw_or (q26 op_lt (pv 3) (pix q32 (pv 4) q13) (q19 _)) (q88 (q26 op_ge (pv 3) (pix q32 (pv 4) q13) (q19 _)))))
 (q15 q63)
 q21)
 (q12 (pst 5 sc.nd (pe_fn (q262 z) hr.m (by rfl) (q10 (pv 0) (q10 (pe_fn (q206 z) hr.m (by rfl) (q10 (pv 0) (q10 (pix q32 (pv 4) q13) (q10 (pv 3) q11)))) q11))))
 (q12 (pst 6 sc.nd (pe_op q158 (q45 q124 (pv 1) q60 (q51 (pv 2))) (q36 (q10 (q28 (q10 (pix q32 (pv 4) q13) (q10 (pix q32 (pv 4) q13) (q10 (pv 3) q11)))) q11))))
 (q15 (q18 (pe_op q73 (pe_fn (q101 z) hr.m (by rfl) (q10 (pv 1) (q10 (pv 5) q11))) (pe_fn (q49 z) hr.m (by rfl) (q10 (pe_fn (q170 z) hr.m (by rfl) (q10 (pv 6) (q10 (pv 5) q11))) q11)))))))))),?_⟩
 have hj:j < gs.length:=(List.getElem?_eq_some_iff.mp gj).1
 have hjx:j < xs.length:=by rw [hg.1];exact hj
 have gx:=List.getElem?_eq_getElem hjx
 obtain ⟨t,u,e1,e2,e3⟩:=hg.2 j _ _ gx gj
 rw [e1] at gx
 have hgg:=hgd g (List.mem_of_getElem? gj)
 have hin:=hgg.1 o (List.mem_of_getElem? ho)
 have htt:SqT K H t [u,.int (g.2.1:Int),.int (g.2.2:Int)]:=SqT.of e2
 refine ⟨_,rfl,_,_,rfl,rfl,_,rfl,?_⟩
 refine ite2 (fun c=>absurd (of_decide_eq_true c) (by omega)) (fun _=>?_)
 refine ⟨_,rfl,_,rfl,ga,_,rfl,.inl (SqL.of hga),_,_,rfl,rfl,_,rfl,?_⟩
 refine ite2 (fun c=>absurd (of_decide_eq_true c) (by omega)) (fun _=>?_)
 refine ⟨_,rfl,_,rfl,ga,_,_,_,rfl,rfl,SqL.of hga,q39 gx,?_⟩
 refine ⟨_,rfl,_,rfl,t,_,_,_,rfl,rfl,htt,rfl,_,_,rfl,rfl,_,rfl,?_⟩
 refine ite2 (fun c=>absurd (of_decide_eq_true c) (by omega)) (fun _=>?_)
 refine ⟨_,rfl,_,rfl,t,_,_,_,rfl,rfl,htt,rfl,_,_,rfl,rfl,_,rfl,?_⟩
 refine ite2 (fun c=>absurd (of_decide_eq_true c) (by omega)) (fun _=>?_)
 refine ⟨_,rfl,_,rfl,_,rfl,t,_,_,_,rfl,rfl,htt,rfl,_,rfl,b,u,pl,o,low,L,g.1,rfl,hb,hL,e3,hgg.1,ho,fun H1 s1=>?_⟩
 refine ⟨b,low,low+o,L,rfl,s1.seqT hb,hL,⟨by omega,by omega⟩,fun wy H2 s2 hwy=>?_⟩
 have ew:low+o - low=o:=by omega
 rw [ew] at hwy
 have s02:=s1.trans s2
 have htt2:SqT K H2 t [u,.int (g.2.1:Int),.int (g.2.2:Int)]:=SqT.of (s02 _ _ e2)
 refine ⟨_,rfl,_,rfl,_,rfl,ga,_,rfl,SqL.of (s02 _ _ hga),fun S hS=>?_⟩
 rw [cutTake]
 have s3:=q16 hS (.lst (xs.take j))
 have hS3:=@q14 H2 S (.lst (xs.take j))
 generalize upd H2 S (.lst (xs.take j))=H3 at *
 have s03:=s02.trans s3
 refine ⟨_,rfl,t,_,_,_,rfl,rfl,s3.seqT htt2,rfl,_,rfl,t,_,_,_,rfl,rfl,s3.seqT htt2,rfl,_,rfl,szb rfl,fun t2 ht2=>?_⟩
 have s4:=q16 ht2 (.tup [u,.int (g.2.1:Int),.int (pl:Int)])
 have ht4:=@q14 H3 t2 (.tup [u,.int (g.2.1:Int),.int (pl:Int)])
 generalize upd H3 t2 (.tup [u,.int (g.2.1:Int),.int (pl:Int)])=H4 at *
 refine ⟨szb rfl,fun l5 hl5=>?_⟩
 have s5:=q16 hl5 (.lst [V.ref t2])
 have hl5':upd H4 l5 (.lst [V.ref t2]) l5=some (.lst [V.ref t2]):=q14
 generalize upd H4 l5 (.lst [V.ref t2])=H5 at *
 have s35:=s4.trans s5
 refine ⟨S,l5,_,_,rfl,rfl,s35 _ _ hS3,hl5',sz (by rw [List.length_take];simp;omega),fun bf hbf=>?_⟩
 have s6:=q16 hbf (.lst (xs.take j++[V.ref t2]))
 have hbf6:=@q14 H5 bf (.lst (xs.take j++[V.ref t2]))
 generalize upd H5 bf (.lst (xs.take j++[V.ref t2]))=H6 at *
 have s06:=(s03.trans s35).trans s6
 have hG6:GatAt H6 L (xs.take j++[V.ref t2]) (gs.take j++[(g.1,g.2.1,pl)]):=q668 ((gat_take hg j).same s06) (q456 ⟨t2,u,rfl,(s5.trans s6) _ _ ht4,e3.same s06⟩)
 have hgd6:∀ x ∈ gs.take j++[(g.1,g.2.1,pl)],GoodS L x:=fun x hx=>by
  rcases List.mem_append.mp hx with hx | hx
  ·exact hgd x (List.mem_of_mem_take hx)
  ·rw [List.mem_singleton.mp hx]
   exact ⟨hgg.1,hs,by have:=hgg.2.2.1;show pl<=g.1.length;omega,hgg.2.2.2⟩
 have hlen6:(gs.take j++[(g.1,g.2.1,pl)]).length<=100:=by rw [List.length_append,List.length_take];simp;omega
 have hwy6:=((hwy.same s3).same s35).same s6
 refine ⟨_,rfl,_,rfl,ga,wy,xs,L,o,gs,rfl,SqL.of (s06 _ _ hga),hg.same s06,hgd,by omega,hwy6.sq,hin.1,hin.2,fun H7 s7=>?_⟩
 refine ⟨_,rfl,_,rfl,bf,wy,_,L,wayW L o,_,rfl,SqL.of (s7 _ _ hbf6),hG6.same s7,hgd6,by omega,(hwy6.same s7).sq,by rw [q97];exact Nat.le_refl _,q155 L o,fun H8 D8 z8 s8 hD8 _ hg8=>?_⟩
 refine ⟨D8,z8,_,_,rfl,SqL.of hD8,hg8,by rw [List.length_map];omega,fun H9 s9=>⟨_,_,rfl,rfl,?_⟩⟩
 rw [q175 L o _ hin.1 hin.2 hgd6]
 exact q H9 (((s06.trans s7).trans s8).trans s9)
theorem pr_alk {p:P2} (ha:SqT K H a [.int p.1,.int p.2]) (hb:SqT K H b [.int p.1,.int p.2]):Alk K H 2 (.ref a) (.ref b):=by
 refine .tup ha hb rfl fun i x y g1 g2=>?_
 match i,g1,g2 with
 | 0,g1,g2=>cases g1;cases g2;exact .flat rfl
 | 1,g1,g2=>cases g1;cases g2;exact .flat rfl
theorem ps_alk (ha:SqL K H a xs) (hb:SqL K H b ys) (hx:AllAt PsR H xs ps) (hy:AllAt PsR H ys ps):Alk K H 3 (.ref a) (.ref b):=by
 refine .lst ha hb (hx.1.trans hy.1.symm) fun j x y h1 h2=>?_
 obtain ⟨p,hp,t,rfl,e1⟩:=hx.get h1
 obtain ⟨t',rfl,f1⟩:=hy.2 j y p h2 hp
 exact pr_alk (SqT.of e1) (SqT.of f1)
abbrev q41:Nat:=3
abbrev q120:Nat:=40
inductive spe_counted_above (K:Fg) (e:Nat) (vs:List V) (H:Hp) (Q:VK) (E:XK):Prop
 | mk (least part floor:Int) (pa:Addr) (xs:List V) (gs:List G3) (_:vs=[.int least,.int (2 ^ e),.ref pa,.int part,.int floor]) (_:SqL K H pa xs) (_:GatAt H e xs gs) (_:(∀ g ∈ gs,GoodS e g)) (_:gs.length<=100) (_:(Wh gs).length<=900) (_:1<=part) (_:0<=floor) (_:∀ (H':Hp) (D:Addr) (ys:List V),Same H H'->H' D=some (.lst ys)->H D=none->AllAt PsR H' ys (caF part floor e least (Wh gs))->Q (.ref D) H'):spe_counted_above K e vs H Q E
def q212 (K:Fg):Sp:=fun vs H Q E=>∃ e,e<=q120/\spe_counted_above K e vs H Q E
inductive sp_worths_in (K:Fg) (vs:List V) (H:Hp) (Q:VK) (E:XK):Prop
 | mk (b ga:Addr) (xs:List V) (low:Int) (L:Nat) (gs:List G3) (_:vs=[.ref b,.ref ga]) (_:SqT K H b [.int low,.int (L:Int)]) (_:L<=40) (_:SqL K H ga xs) (_:GatAt H L xs gs) (_:(∀ g ∈ gs,GoodS L g)) (_:gs.length<=100) (_:(Wh gs).length<=900) (_:∀ (H':Hp) (D:Addr) (ys:List V),Same H H'->H' D=some (.lst ys)->H D=none->AllAt PsR H' ys (caF 1 0 L low (Wh gs))->Q (.ref D) H'):sp_worths_in K vs H Q E
inductive sp_often (K:Fg) (vs:List V) (H:Hp) (Q:VK) (E:XK):Prop
 | mk (b ga:Addr) (xs:List V) (low part:Int) (L:Nat) (gs:List G3) (_:vs=[.ref b,.ref ga,.int part]) (_:SqT K H b [.int low,.int (L:Int)]) (_:L<=40) (_:SqL K H ga xs) (_:GatAt H L xs gs) (_:(∀ g ∈ gs,GoodS L g)) (_:gs.length<=100) (_:(Wh gs).length<=900) (_:1<=part) (_:∀ (H':Hp) (D:Addr) (ys:List V),Same H H'->H' D=some (.lst ys)->H D=none->AllAt PsR H' ys (caF part ((Wh gs).length:Nat) L low (Wh gs))->Q (.ref D) H'):sp_often K vs H Q E
def BstV (H:Hp) (v:V):Option P2->Prop
 | none=>v = .non
 | some p=>PsR H v p
inductive sp_most (K:Fg) (vs:List V) (H:Hp) (Q:VK) (E:XK):Prop
 | mk (b ga:Addr) (xs:List V) (low:Int) (L:Nat) (gs:List G3) (_:vs=[.ref b,.ref ga]) (_:SqT K H b [.int low,.int (L:Int)]) (_:L<=40) (_:SqL K H ga xs) (_:GatAt H L xs gs) (_:(∀ g ∈ gs,GoodS L g)) (_:gs.length<=100) (_:(Wh gs).length<=900) (_:∀ (H':Hp) (v:V),Same H H'->BstV H' v (bst (caF 1 0 L low (Wh gs)))->Q v H'):sp_most K vs H Q E
theorem q121 (z:Bz K mg cA cB cC cD cG):Cal P w K mg base 44 "counted_above" pn14 (q212 K):=by
 have sc:=q210
 refine z.d_counted_above.recur (k:=q41) (sp:=spe_counted_above K) q120 fun e hen c_counted_above f fd F=>F.k sc fun _ _ _ s H _ Q _ hr h=>?_
 obtain ⟨least,part,floor,pa,xs,gs,rfl,hpa,hg,hgd,hl,hw,hp1,hf0,q⟩:=h
 refine ⟨_,(q12 (pst 5 sc.nd (pe_fn (q49 z) (hr.mono (Nat.le_trans (by decide:1<=q41) (Nat.le_add_left _ _))) (by rfl) (q10 (pr 2) q11)))
 (q12 (ps_if (q23 om_le (pe_op q89 (pr 5) (pr 3)) (pr 4) (q19 _))
 (q15 (q18 (q36 q11)))
 q21)
 (q12 (ps_if (q23 op_eq (pr 1) q13 (q19 _))
 (q15 (q18 (q36 (q10 (q28 (q10 (pr 0) (q10 (pr 5) q11))) q11))))
 q21)
 (q12 (pst 6 sc.nd (pe_op q70 (pr 1) q13))
 (q12 (pst 7 sc.nd (pe_fn c_counted_above (hr.mono (Nat.le_refl _)) (by rfl) (q10 (pr 0) (q10 (pr 6) (q10 (pe_fn (q174 z) (hr.mono (Nat.le_trans (by decide:1<=q41) (Nat.le_add_left _ _))) (by rfl) (q10 (pe_fn (q170 z) (hr.mono (Nat.le_trans (by decide:3<=q41) (Nat.le_add_left _ _))) (by rfl) (q10 (pr 2) (q10 (q28 (q10 q13 q11)) q11))) q11)) (q10 (pr 3) (q10 (pr 4) q11)))))))
 (q12 (pst 8 sc.nd (pe_fn c_counted_above (hr.mono (Nat.le_refl _)) (by rfl) (q10 (pe_op q40 (pr 0) (pr 6)) (q10 (pr 6) (q10 (pe_fn (q174 z) (hr.mono (Nat.le_trans (by decide:1<=q41) (Nat.le_add_left _ _))) (by rfl) (q10 (pe_fn (q170 z) (hr.mono (Nat.le_trans (by decide:3<=q41) (Nat.le_add_left _ _))) (by rfl) (q10 (pr 2) (q10 (q28 (q10 q13 q11)) q11))) q11)) (q10 (pr 3) (q10 (pr 4) q11)))))))
 (q15 (q18 (pe_op q158 (pr 7) (pr 8)))))))))),?_⟩
 have hin:=W_in hgd
 have hcl:=ca_len (part:=part) (floor:=floor) (least:=least) hp1 hf0 hin
 refine ⟨pa,xs,e,gs,rfl,hpa,hg,by omega,fun H1 s1=>?_⟩
 rw [q113 hgd]
 refine ⟨_,_,rfl,rfl,.inl ⟨by omega,by omega⟩,?_⟩
 refine ite2 (fun c=>?_) (fun c=>?_)
 ·have c':=of_decide_eq_true c
  have e0:caF part floor e least (Wh gs)=[]:=by
   cases e <;> (unfold caF;rw [if_pos c'])
  rw [e0] at q
  exact ⟨szb rfl,fun D hD=>q _ D [] (s1.trans (q16 hD _)) q14 (s1.free hD) AllAt.nil⟩
 have c':¬ ((Wh gs).length:Int) * part<=floor:=fun z=>c (decide_eq_true z)
 refine ⟨rfl,?_⟩
 cases e with
 | zero=>
  refine ite2 (fun _=>?_) (fun c=>absurd (decide_eq_true rfl) c)
  have e0:caF part floor 0 least (Wh gs)=[(least,(((Wh gs).length:Nat):Int))]:=by unfold caF;rw [if_neg c']
  rw [e0] at q
  refine ⟨szb rfl,fun t ht=>⟨szb rfl,fun D hD=>?_⟩⟩
  have s2:=q16 ht (.tup [.int least,.int ((Wh gs).length:Nat)])
  have s3:=q16 hD (.lst [.ref t])
  refine q _ D [.ref t] ((s1.trans s2).trans s3) q14 ((s1.trans s2).free hD) ⟨rfl,fun j x p h1 h2=>?_⟩
  match j,h1,h2 with
  | 0,h1,h2=>cases h1;cases h2;exact ⟨t,rfl,s3 _ _ q14⟩
  | j+1,h1,h2=>simp at h1
 | succ e=>
  have hp2:=p2pos e
  have e2:(2:Int) ^ (e+1)=2 * 2 ^ e:=by rw [Int.pow_succ];omega
  refine ite2 (fun c=>absurd (V.int.inj (of_decide_eq_true c)) (by omega)) (fun _=>?_)
  have hh:(2:Int) ^ (e+1) / 2=2 ^ e:=by rw [Int.pow_succ];exact Int.mul_ediv_cancel _ (by decide)
  refine ⟨_,_,rfl,rfl,⟨by decide,by decide⟩,?_⟩
  try dsimp only
  rw [hh]
  have e0:caF part floor (e+1) least (Wh gs)=caF part floor e least (halfO e 0 (Wh gs))++caF part floor e (least+2 ^ e) (halfO e 1 (Wh gs)):=by rw [caF,if_neg c']
  rw [e0] at q hcl
  have good1:∀ w,∀ g ∈ gs.map (led1 e w),GoodS e g:=fun w g hg=>by
   obtain ⟨g',hg',rfl⟩:=List.mem_map.mp hg
   exact q135 (hgd g' hg')
  have el:∀ w:Int,gs.map (ledS (e+1) [w])=gs.map (led1 e w):=fun w=>List.map_congr_left fun g _=>by rw [q80,q65]
  have e1l:e+1 - [(0:Int)].length=e:=rfl
  have lenH:∀ w:Int,(halfO e w (Wh gs)).length<=900:=fun w=>Nat.le_trans q134 hw
  refine ⟨szb rfl,fun w0 hw0=>?_⟩
  have s2:=q16 hw0 (.tup [V.int 0])
  have hw0':upd H1 w0 (.tup [V.int 0]) w0=some (.tup [V.int 0]):=q14
  generalize upd H1 w0 (.tup [V.int 0])=H2 at *
  have s02:=s1.trans s2
  refine ⟨pa,w0,xs,e+1,[0],gs,rfl,s02.seq hpa,hg.same s02,hgd,by omega,SqT.of hw0',by simp,(fun x hx=>by rw [List.mem_singleton.mp hx];exact .inl rfl),fun H3 D3 z3 s3 hD3 hD3n hg3=>?_⟩
  rw [el] at hg3
  have hg3':GatAt H3 e z3 (gs.map (led1 e 0)):=hg3
  refine ⟨D3,z3,e,_,rfl,SqL.of hD3,hg3',by rw [List.length_map];omega,fun H4 D4 z4 s4 hD4 hD4n hg4=>?_⟩
  refine ⟨least,part,floor,D4,z4,fillG (gs.map (led1 e 0)),rfl,SqL.of hD4,hg4,q173 (good1 0),?_,by rw [q172,W_led hgd];exact lenH 0,hp1,hf0,fun H5 D5 z5 s5 hD5 hD5n hp5=>?_⟩
  ·exact Nat.le_trans (List.length_filter_le _ _) (by rw [List.length_map];exact hl)
  rw [q172,W_led hgd] at hp5
  have s05:=((s02.trans s3).trans s4).trans s5
  refine ⟨szb rfl,fun w1 hw1=>?_⟩
  have s6:=q16 hw1 (.tup [V.int 1])
  have hw1':upd H5 w1 (.tup [V.int 1]) w1=some (.tup [V.int 1]):=q14
  generalize upd H5 w1 (.tup [V.int 1])=H6 at *
  have s06:=s05.trans s6
  refine ⟨pa,w1,xs,e+1,[1],gs,rfl,s06.seq hpa,hg.same s06,hgd,by omega,SqT.of hw1',by simp,(fun x hx=>by rw [List.mem_singleton.mp hx];exact .inr rfl),fun H7 D7 z7 s7 hD7 hD7n hg7=>?_⟩
  rw [el] at hg7
  have hg7':GatAt H7 e z7 (gs.map (led1 e 1)):=hg7
  refine ⟨D7,z7,e,_,rfl,SqL.of hD7,hg7',by rw [List.length_map];omega,fun H8 D8 z8 s8 hD8 hD8n hg8=>?_⟩
  refine ⟨least+2 ^ e,part,floor,D8,z8,fillG (gs.map (led1 e 1)),rfl,SqL.of hD8,hg8,q173 (good1 1),?_,by rw [q172,W_led hgd];exact lenH 1,hp1,hf0,fun H9 D9 z9 s9 hD9 hD9n hp9=>?_⟩
  ·exact Nat.le_trans (List.length_filter_le _ _) (by rw [List.length_map];exact hl)
  rw [q172,W_led hgd] at hp9
  have s59:=((s6.trans s7).trans s8).trans s9
  have hD59:=s59 _ _ hD5
  have hp59:=q137 hp5 s59
  refine ⟨D5,D9,z5,z9,rfl,rfl,hD59,hD9,sz (by rw [hp5.1,hp9.1,<- List.length_append];omega),fun D hD=>?_⟩
  exact q _ D _ ((s05.trans s59).trans (q16 hD _)) q14 ((s05.trans s59).free hD) (q137 (hp59.app hp9) (q16 hD _))
theorem q413 (z:Bz K mg cA cB cC cD cG):Cal P w K mg base 45 "worths_in" pn11 (sp_worths_in K):=by
 have sc:=q388
 refine z.d_worths_in.cal fun f fd F=>F.k sc fun _ _ _ s H _ Q _ hr h=>?_
 obtain ⟨b,ga,xs,low,L,gs,rfl,hb,hL,hga,hg,hgd,hl,hw,q⟩:=h
 refine ⟨_,(q15 (q18 (pe_fn (q121 z) hr.m (by rfl) (q10 (pix q29 (pr 0) q13) (q10 (pe_fn (q44 z) hr.m (by rfl) (q10 (pix q29 (pr 0) q13) q11)) (q10 (pe_fn (q174 z) hr.m (by rfl) (q10 (pr 1) q11)) (q10 q13 (q10 q13 q11)))))))),?_⟩
 refine ⟨_,_,hb,rfl,_,_,hb,rfl,L,rfl,hL,ga,xs,L,gs,rfl,hga,hg,by omega,fun H1 D1 z1 s1 hD1 hD1n hg1=>?_⟩
 refine ⟨L,hL,low,1,0,D1,z1,fillG gs,rfl,SqL.of hD1,hg1,q173 hgd,Nat.le_trans (List.length_filter_le _ _) hl,by rw [q172];exact hw,by decide,by decide,fun H2 D2 z2 s2 hD2 hD2n hp2=>?_⟩
 rw [q172] at hp2
 exact q H2 D2 z2 (s1.trans s2) hD2 (s1.free hD2n) hp2
theorem ok_often (z:Bz K mg cA cB cC cD cG):Cal P w K mg base 45 "often" ["bounds", "gathering", "part"] (sp_often K):=by
 have sc:=sc_often
 refine z.d_often.cal fun f fd F=>F.k sc fun _ _ _ s H _ Q _ hr h=>?_
 obtain ⟨b,ga,xs,low,part,L,gs,rfl,hb,hL,hga,hg,hgd,hl,hw,hp,q⟩:=h
 refine ⟨_,(q15 (q18 (pe_fn (q121 z) hr.m (by rfl) (q10 (pix q29 (pr 0) q13) (q10 (pe_fn (q44 z) hr.m (by rfl) (q10 (pix q29 (pr 0) q13) q11)) (q10 (pe_fn (q174 z) hr.m (by rfl) (q10 (pr 1) q11)) (q10 (pr 2) (q10 (pe_fn (q49 z) hr.m (by rfl) (q10 (pr 1) q11)) q11)))))))),?_⟩
 refine ⟨_,_,hb,rfl,_,_,hb,rfl,L,rfl,hL,ga,xs,L,gs,rfl,hga,hg,by omega,fun H1 D1 z1 s1 hD1 hD1n hg1=>?_⟩
 refine ⟨ga,xs,L,gs,rfl,s1.seq hga,hg.same s1,by omega,fun H1' s1'=>?_⟩
 rw [q113 hgd]
 refine ⟨L,hL,low,part,_,D1,z1,fillG gs,rfl,SqL.of (s1' _ _ hD1),hg1.same s1',q173 hgd,Nat.le_trans (List.length_filter_le _ _) hl,by rw [q172];exact hw,hp,by omega,fun H2 D2 z2 s2 hD2 hD2n hp2=>?_⟩
 rw [q172] at hp2
 exact q H2 D2 z2 ((s1.trans s1').trans s2) hD2 ((s1.trans s1').free hD2n) hp2
theorem ok_most (z:Bz K mg cA cB cC cD cG):Cal P w K mg base 46 "most" pn11 (sp_most K):=by
 have sc:=sc_most
 refine z.d_most.cal fun f fd F=>F.k sc fun _ _ _ s H _ Q _ hr h=>?_
 obtain ⟨b,ga,xs,low,L,gs,rfl,hb,hL,hga,hg,hgd,hl,hw,q⟩:=h
 refine ⟨_,(q12 (pst 2 sc.nd q58)
 (q12 (q66 PassesOwn.never rfl (q50 (pe_fn (q413 z) hr.m (by rfl) (q10 (pv 0) (q10 (pv 1) q11)))) (pgn 3 sc.nd)
 (q15 (ps_if (PW.pt (pw_or (q26 q123 (pv 2) q58 (q19 _)) (q88 (q26 op_gt (pix q32 (pv 3) q13) (pix q32 (pv 2) q13) (q19 _)))))
 (q15 (pst 2 sc.nd (pv 3)))
 q21)))
 (q15 (q18 (pv 2))))),?_⟩
 refine ⟨_,rfl,_,rfl,b,ga,xs,low,L,gs,rfl,hb,hL,hga,hg,hgd,hl,hw,fun H1 D1 z1 s1 hD1 hD1n hp1=>?_⟩
 generalize caF 1 0 L low (Wh gs)=ps at *
 refine ⟨D1,rfl,⟨_,SqL.of hD1⟩,q215 (K:=K) (a:=D1) (xs:=z1) (fun j σ H2=>∃ (bv:V) (v3:Option V),σ=[some (.ref b),some (.ref ga),some bv,v3]/\H2=H1/\BstV H1 bv ((ps.take j).foldl bstep none)) ⟨.non,none,rfl,rfl,rfl⟩ (fun j σ H2 _ ⟨_,_,_,e,_⟩=>by rw [e];exact SqL.of hD1) ?_ ?_⟩
 ·rintro j x σ H2 hx ⟨bv,v3,rfl,rfl,hbv⟩
  obtain ⟨p,gp,hpx⟩:=hp1.get hx
  have et:(ps.take (j+1)).foldl bstep none=bstep ((ps.take j).foldl bstep none) p:=by
   rw [List.take_add_one,gp,List.foldl_append]
   rfl
  generalize (ps.take j).foldl bstep none=bo at *
  refine ⟨_,rfl,rfl,_,rfl,?_⟩
  cases bo with
  | none=>
   cases (show bv = .non from hbv)
   refine ite2 (fun _=>?_) (fun c=>absurd rfl c)
   refine ⟨_,rfl,x,_,rfl,rfl,?_⟩
   rw [et]
   exact hpx
  | some q0=>
   obtain ⟨ab,rfl,hab⟩:=hbv
   obtain ⟨ap,rfl,hap⟩:=hpx
   refine ite2 (fun c=>absurd (of_decide_eq_true c) (by intro z;cases z)) (fun _=>?_)
   refine ⟨_,rfl,ap,_,_,_,rfl,rfl,SqT.of hap,rfl,_,rfl,ab,_,_,_,rfl,rfl,SqT.of hab,rfl,_,_,rfl,rfl,_,rfl,?_⟩
   refine ite2 (fun c=>?_) (fun c=>?_)
   ·refine ⟨_,rfl,_,_,rfl,rfl,?_⟩
    rw [et]
    show BstV H2 _ (if p.2 > q0.2 then some p else some q0)
    rw [if_pos (of_decide_eq_true c)]
    exact ⟨ap,rfl,hap⟩
   ·refine ⟨_,_,rfl,rfl,?_⟩
    rw [et]
    show BstV H2 _ (if p.2 > q0.2 then some p else some q0)
    rw [if_neg (fun z=>c (decide_eq_true z))]
    exact ⟨ab,rfl,hab⟩
 ·rintro σ H2 ⟨bv,v3,rfl,rfl,hbv⟩
  rw [hp1.1,List.take_length] at hbv
  exact ⟨_,rfl,q _ bv s1 hbv⟩
def Scr (K:Fg) (H:Hp) (a:Addr) (xs:List V):Prop:=
 (∃ o,H a=some (.frz o (.lst xs))) \/
  ∃ (o:Obj) (its:Array Value) (n:Nat),K.lookup a=some o/\o.cls = .type "list" /\ o.dict=none/\o.data = .seq its n/\its.size<=sizeLine/\Vals xs its.toList
theorem Scr.sq (h:Scr K H a xs):SqL K H a xs:=by
 rcases h with h | h
 ·exact .inl (.inr h)
 ·exact .inr h
theorem Scr.of (h:SqL K H a xs) (o:Only H):Scr K H a xs:=by
 rcases h with (h | h) | h
 ·rcases o a with z | ⟨ob,ys,z⟩
  ·rw [z] at h;cases h
  ·rw [z] at h;cases h
 ·exact .inl h
 ·exact .inr h
theorem Scr.same (h:Scr K H a xs) (s:Same H H'):Scr K H' a xs:=by
 rcases h with ⟨o,h⟩ | h
 ·exact .inl ⟨o,s _ _ h⟩
 ·exact .inr h
theorem Scr.keep (h:Scr K H a xs) (k:Keep p H H') (e:H p=some (.lst ys)):Scr K H' a xs:=by
 rcases h with ⟨ob,h⟩ | h
 ·exact .inl ⟨ob,k _ _ (ne_of h e (by intro z;cases z)) h⟩
 ·exact .inr h
def PenM (H:Hp) (pen:Addr):Prop:=∃ (c:Int) (b:Bool) (n:Int),H pen=some (.lst [.int c,.bl b,.int n])
theorem PenM.same (p:PenM H pen) (s:Same H H'):PenM H' pen:=by
 obtain ⟨c,b,n,h⟩:=p
 exact ⟨c,b,n,s _ _ h⟩
theorem PenM.new (p:PenM H pen) (h:H q=none) (o:HO):PenM (upd H q o) pen:=p.same (q16 h o)
theorem PenM.at (p:PenM H pen):∃ xs,H pen=some (.lst xs):=by
 obtain ⟨c,b,n,h⟩:=p
 exact ⟨_,h⟩
theorem PenM.ne (p:PenM H pen) (h:H b=some (.tup xs)):b ≠ pen:=by
 obtain ⟨ys,e⟩:=p.at
 exact ne_of h e (by intro z;cases z)
theorem PenM.fresh (p:PenM H pen) (h:H b=none):b ≠ pen:=by
 obtain ⟨ys,e⟩:=p.at
 exact Ne.symm (q27 e h)
theorem PenM.other (p:PenM H pen) (hq:q ≠ pen) (o:HO):PenM (upd H q o) pen:=by
 obtain ⟨c,b,n,e⟩:=p
 exact ⟨c,b,n,by rw [q31 (Ne.symm hq)];exact e⟩
theorem PenM.keep (p:PenM H pen) (hq:q ≠ pen) (k:Keep q H H'):PenM H' pen:=by
 obtain ⟨c,b,n,e⟩:=p
 exact ⟨c,b,n,k _ _ (Ne.symm hq) e⟩
theorem PenM.tk (p:PenM H pen) (k:Keep pen H H'):TKeep H H':=by
 obtain ⟨xs,e⟩:=p.at
 exact TKeep.keep k e
theorem PenM.free (p:PenM H' pen) (k:Keep pen H H') (h:H' l=none):H l=none:=by
 obtain ⟨xs,e⟩:=p.at
 exact k.free h e
theorem PenM.scr (p:PenM H pen) (k:Keep pen H H') (h:Scr K H a xs):Scr K H' a xs:=by
 obtain ⟨ys,e⟩:=p.at
 exact h.keep k e
inductive sp__law_pen (K:Fg) (vs:List V) (H:Hp) (Q:VK) (E:XK):Prop
 | mk (a:Addr) (ns:List Int) (k:Int) (_:vs=[.ref a,.int k]) (_:SqL K H a (ns.map V.int)) (_:ns.length<=63) (_:0<=k) (_:k < 1000) (_:∀ (p:Addr) (H':Hp),H p=none->Same H H'->PenM H' p->Q (.ref p) H'):sp__law_pen K vs H Q E
inductive sp__law_mixed (u0:Fg) (vs:List V) (H:Hp) (Q:VK) (E:XK):Prop
 | mk (pen:Addr) (_:vs=[.ref pen]) (_:PenM H pen) (_:∀ (v:Int) (H':Hp),Keep pen H H'->PenM H' pen->0<=v->Q (.int v) H'):sp__law_mixed u0 vs H Q E
inductive sp__law_take (u0:Fg) (vs:List V) (H:Hp) (Q:VK) (E:XK):Prop
 | mk (pen:Addr) (size:Int) (_:vs=[.ref pen,.int size]) (_:PenM H pen) (_:0 < size) (_:size < 10 ^ 60) (_:∀ (v:Int) (H':Hp),Keep pen H H'->PenM H' pen->0<=v->v < size->Q (.int v) H'):sp__law_take u0 vs H Q E
inductive sp__law_bounds (u0:Fg) (vs:List V) (H:Hp) (Q:VK) (E:XK):Prop
 | mk (pen:Addr) (_:vs=[.ref pen]) (_:PenM H pen) (_:∀ (b:Addr) (low:Int) (L:Nat) (H':Hp),Keep pen H H'->PenM H' pen->H' b=some (.tup [.int low,.int (L:Int)])->L<=40 -> -(10 ^ 40) < low->low < 10 ^ 40->Q (.ref b) H'):sp__law_bounds u0 vs H Q E
inductive sp__law_row (u0:Fg) (vs:List V) (H:Hp) (Q:VK) (E:XK):Prop
 | mk (pen b:Addr) (low g:Int) (L:Nat) (_:vs=[.ref pen,.ref b,.int g]) (_:PenM H pen) (_:H b=some (.tup [.int low,.int (L:Int)])) (_:L<=40) (_:0<=g) (_:g<=60) (_:∀ (r:Addr) (ns:List Int) (H':Hp),Keep pen H H'->PenM H' pen->H' r=some (.lst (ns.map V.int))->H r=none->(ns.length:Int)<=g->Wths low L ns->Q (.ref r) H'):sp__law_row u0 vs H Q E
def muT:St->Nat:=fun σ=>match σ[3]? with
 | some (some (V.int m))=>m.toNat
 | _=>0
theorem q117 (z:Bz K mg cA cB cC cD cG):Cal P w K mg base 1 "_law_pen" ["_law_script", "_law_k"] (sp__law_pen K):=by
 have sc:=q446
 refine z.d__law_pen.cal fun f fd F=>F.k sc fun _ _ _ s H _ Q _ hr h=>?_
 obtain ⟨a,ns,k,rfl,hS,h63,h0,hk,q⟩:=h
 refine ⟨_,(q12 (pst 2 sc.nd (pe_op q73 (pe_op q89 q13 (pv 1)) q13))
 (q12 (ps_if (q26 op_lt (pv 1) (pln z.len_ (q10 (pv 0) q11)) (q19 _))
 (q15 (pst 2 sc.nd (pix q47 (pv 0) (pv 1))))
 (q15 (ps_if (q26 op_gt (pln z.len_ (q10 (pv 0) q11)) q13 (q19 _))
 (q15 (pst 2 sc.nd (pe_op q73 (pv 2) (pe_op q199 (pix q47 (pv 0) (pe_op q199 (pv 1) (pln z.len_ (q10 (pv 0) q11)))) (pe_op q227 q13 q13)))))
 q21)))
 (q15 (q18 (q36 (q10 (pv 2) (q10 (q184 op_ge (pv 2) (pe_op q227 q13 q13) (q19 _)) (q10 q13 q11)))))))),?_⟩
 have hl:(ns.map V.int).length=ns.length:=List.length_map _
 refine ⟨_,rfl,_,_,rfl,rfl,.inl ⟨by decide,by decide⟩,_,_,rfl,rfl,?_⟩
 refine ⟨_,rfl,_,rfl,a,_,rfl,.inl hS,_,_,rfl,rfl,_,rfl,?_⟩
 refine ite2 (fun c=>?_) (fun c=>?_)
 ·have c':k < (((ns.map V.int).length:Nat):Int):=of_decide_eq_true c
  rw [hl] at c'
  obtain ⟨v,_,hv⟩:=q140 h0 c'
  refine ⟨_,rfl,_,rfl,a,_,_,_,rfl,rfl,hS,hv,?_⟩
  exact ⟨_,rfl,_,rfl,_,_,rfl,rfl,⟨by decide,by decide,by decide⟩,_,_,rfl,rfl,szb rfl,fun p hp=>q p _ hp (q16 hp _) ⟨_,_,_,q14⟩⟩
 ·refine ⟨_,rfl,a,_,rfl,.inl hS,_,_,rfl,rfl,_,rfl,?_⟩
  refine ite2 (fun c2=>?_) (fun c2=>?_)
  ·have c2':(0:Int) < (((ns.map V.int).length:Nat):Int):=of_decide_eq_true c2
   have m0:0<=k % (((ns.map V.int).length:Nat):Int):=Int.emod_nonneg _ (by omega)
   have m1:k % (((ns.map V.int).length:Nat):Int) < (((ns.map V.int).length:Nat):Int):=Int.emod_lt_of_pos _ c2'
   obtain ⟨v,_,hv⟩:=q140 (l:=ns) m0 (by rw [hl] at m1 ⊢;exact m1)
   refine ⟨_,rfl,_,rfl,_,rfl,_,rfl,a,_,rfl,.inl hS,_,_,rfl,rfl,c2',a,_,_,_,rfl,rfl,hS,hv,_,_,rfl,rfl,⟨by decide,by decide,by decide⟩,_,_,rfl,rfl,(by show (0:Int) < 10 ^ 15;decide),_,_,rfl,rfl,?_⟩
   exact ⟨_,rfl,_,rfl,_,_,rfl,rfl,⟨by decide,by decide,by decide⟩,_,_,rfl,rfl,szb rfl,fun p hp=>q p _ hp (q16 hp _) ⟨_,_,_,q14⟩⟩
  ·exact ⟨_,rfl,_,rfl,_,_,rfl,rfl,⟨by decide,by decide,by decide⟩,_,_,rfl,rfl,szb rfl,fun p hp=>q p _ hp (q16 hp _) ⟨_,_,_,q14⟩⟩
theorem q178 (z:Bz K mg cA cB cC cD cG):Cal P w K mg base 1 "_law_mixed" pn20 (sp__law_mixed K):=by
 have sc:=q325
 refine z.d__law_mixed.cal fun f fd F=>F.k sc fun _ _ _ s H _ Q _ hr h=>?_
 obtain ⟨pen,rfl,⟨c,b,n,hp⟩,q⟩:=h
 refine ⟨_,(q12 (q226 (pe_op q40 (pix q56 (pr 0) q13) q13) (pg_sub (pr 0) q13 set_list))
 (q12 (pst 1 sc.nd (pe_op q199 (pe_op q89 (pe_op q40 (pe_op q199 (pix q56 (pr 0) q13) q13) (pe_op q89 q13 (pix q56 (pr 0) q13))) q13) q13))
 (q12 (pst 1 sc.nd (pe_op q199 (pe_op q89 (pe_op q40 (pr 1) (pe_op q89 q13 (pix q56 (pr 0) q13))) (pe_op q40 (pr 1) q13)) q13))
 (q15 (q18 (pe_op q70 (pr 1) q13)))))),?_⟩
 refine ⟨_,_,SqL.of hp,rfl,pen,_,_,2,rfl,rfl,hp,rfl,?_⟩
 refine ⟨_,_,SqL.of q14,rfl,_,_,rfl,rfl,(by show (0:Int) < 2147483647;decide),_,_,SqL.of q14,rfl,_,_,rfl,rfl,.inl ⟨by decide,by decide⟩,_,_,rfl,rfl,.inr ⟨by decide,by decide⟩,_,_,rfl,rfl,(by show (0:Int) < 2147483629;decide),?_⟩
 refine ⟨_,_,SqL.of q14,rfl,_,_,rfl,rfl,.inl ⟨by decide,by decide⟩,_,_,rfl,rfl,.inr ⟨by omega,by omega⟩,_,_,rfl,rfl,(by show (0:Int) < 2147483587;decide),?_⟩
 refine ⟨_,_,rfl,rfl,⟨by decide,by decide⟩,?_⟩
 exact q _ _ (Keep.set pen H _) ⟨_,_,_,q14⟩ (Int.ediv_nonneg (Int.emod_nonneg _ (by decide)) (by decide))
theorem q22 (z:Bz K mg cA cB cC cD cG):Cal P w K mg base 2 "_law_take" ["_law_pen_here", "_law_size"] (sp__law_take K):=by
 have sc:=q389
 refine z.d__law_take.cal fun f fd F=>F.k sc fun _ _ _ s H _ Q _ hr h=>?_
 obtain ⟨pen,size,rfl,P0,s0,s1,q⟩:=h
 refine ⟨_,(q12 (ps_if (q353 (pix q47 (pv 0) q13))
 (q12 (pst 2 sc.nd (pe_op q199 (pix q47 (pv 0) q13) (pv 1)))
 (q12 (q226 (pe_op q70 (pix q47 (pv 0) q13) (pv 1)) (pg_sub (pv 0) q13 set_list))
 (q15 (q18 (pv 2)))))
 q21)
 (q12 (pst 2 sc.nd (pe_fn (q178 z) hr.m (by rfl) (q10 (pv 0) q11)))
 (q12 (pst 3 sc.nd (pv 1))
 (q12 (q310 PassesOwn.never (q26 op_gt (pv 3) (pe_op q227 q13 q13) (q19 _))
 (q12 (pst 2 sc.nd (pe_op q73 (pe_op q89 (pv 2) q13) (pe_fn (q178 z) hr.m (by rfl) (q10 (pv 0) q11))))
 (q15 (pst 3 sc.nd (pe_op q70 (pv 3) (pe_op q227 q13 q13))))))
 (q15 (q18 (pe_op q199 (pv 2) (pv 1)))))))),?_⟩
 obtain ⟨c,b,n,hp⟩:=id P0
 refine ⟨_,rfl,pen,_,_,_,rfl,rfl,SqL.of hp,rfl,b,rfl,?_⟩
 refine ite2 (fun _=>?_) (fun _=>?_)
 ·refine ⟨_,rfl,pen,_,_,_,rfl,rfl,SqL.of hp,rfl,_,rfl,_,_,rfl,rfl,s0,?_⟩
  refine ⟨_,rfl,pen,_,_,_,rfl,rfl,SqL.of hp,rfl,_,rfl,_,_,rfl,rfl,⟨s0,s1⟩,_,rfl,pen,_,_,0,rfl,rfl,hp,rfl,_,rfl,?_⟩
  exact q _ _ (Keep.set pen H _) ⟨_,_,_,q14⟩ (Int.emod_nonneg _ (by omega)) (Int.emod_lt_of_pos _ s0)
 ·refine ⟨_,rfl,pen,rfl,P0,fun v H1 k1 P1 v0=>?_⟩
  refine ⟨_,rfl,?_⟩
  refine q311 (fun σ H2=>∃ (f wd:Int),σ=[some (.ref pen),some (.int size),some (.int f),some (.int wd)]/\Keep pen H H2/\PenM H2 pen) (fun σ _=>muT σ) ⟨v,size,rfl,k1,P1⟩ ?_ ?_
  ·rintro σ H2 ⟨f,wd,rfl,k2,P2⟩
   refine ⟨_,rfl,_,_,rfl,rfl,⟨by decide,by decide,by decide⟩,_,_,rfl,rfl,_,rfl,?_⟩
   refine ite2 (fun c2=>?_) (fun c2=>?_)
   ·have c2':(10:Int) ^ 8 < wd:=of_decide_eq_true c2
    refine ⟨_,rfl,_,_,rfl,rfl,.inr ⟨by decide,by decide⟩,_,rfl,pen,rfl,P2,fun v3 H3 k3 P3 _=>⟨_,_,rfl,rfl,?_⟩⟩
    refine ⟨_,rfl,_,_,rfl,rfl,⟨by decide,by decide,by decide⟩,_,_,rfl,rfl,⟨by decide,by decide⟩,⟨_,_,rfl,k2.trans k3,P3⟩,?_⟩
    show (wd / (10:Int) ^ 8).toNat < wd.toNat
    omega
   ·refine ⟨_,rfl,_,rfl,_,_,rfl,rfl,s0,?_⟩
    exact q _ _ k2 P2 (Int.emod_nonneg _ (by omega)) (Int.emod_lt_of_pos _ s0)
  ·rintro σ H2 Q1 Q2 hq ⟨_,e0,i,j,e1,e2,e3,i2,j2,e4,e5,k,e6,h⟩
   exact ⟨_,e0,i,j,e1,e2,e3,i2,j2,e4,e5,k,e6,hq _ _ h⟩
theorem q280 (z:Bz K mg cA cB cC cD cG):Cal P w K mg base 3 "_law_bounds" pn20 (sp__law_bounds K):=by
 have sc:=q276
 refine z.d__law_bounds.cal fun f fd F=>F.k sc fun _ _ _ s H _ Q _ hr h=>?_
 obtain ⟨pen,rfl,P0,q⟩:=h
 refine ⟨_,(q12 (pst 1 sc.nd (pix q47 (q36 (q10 q13 (q10 q13 (q10 q13 (q10 q13 (q10 q13 (q10 q13 (q10 q13 (q10 q13 q11))))))))) (pe_fn (q22 z) hr.m (by rfl) (q10 (pv 0) (q10 q13 q11)))))
 (q12 (pst 2 sc.nd (pe_fn (q22 z) hr.m (by rfl) (q10 (pv 0) (q10 q13 q11))))
 (q12 (pst 3 sc.nd (pe_fn (q22 z) hr.m (by rfl) (q10 (pv 0) (q10 (pix q47 (q36 (q10 q13 (q10 q13 (q10 q13 (q10 (pe_op q81 (pe_op q89 q13 (pe_op q227 q13 q13)) q13) q11))))) (pv 2)) q11))))
 (q15 (q18 (q28 (q10 (pix q47 (q36 (q10 q13 (q10 (pe_op q81 q13 (pv 3)) (q10 (pe_op q81 (pe_op q81 (pe_op q227 q13 q13) q13) (pv 3)) (q10 (pe_op q73 (pe_op q81 (pv 3) (pe_op q227 q13 q13)) q13) q11))))) (pv 2)) (q10 (pv 1) q11)))))))),?_⟩
 refine ⟨szb rfl,fun p hp=>?_⟩
 refine ⟨_,rfl,pen,8,rfl,P0.new hp _,by decide,by decide,fun v1 H1 k1 P1 a1 b1=>?_⟩
 obtain ⟨L',hm,hv⟩:=q140 (l:=[0,1,2,3,4,5,8,40]) a1 b1
 have hL:0<=L'/\L'<=40:=by
  simp only [List.mem_cons,List.not_mem_nil,or_false] at hm
  omega
 obtain ⟨L,rfl⟩:=Int.eq_ofNat_of_zero_le hL.1
 have hL2:L<=40:=by omega
 refine ⟨p,_,_,_,rfl,rfl,SqL.of (k1 _ _ (P0.fresh hp) q14),hv,?_⟩
 refine ⟨_,rfl,pen,4,rfl,P1,by decide,by decide,fun v2 H2 k2 P2 a2 b2=>?_⟩
 have k02:Keep pen H H2:=(Keep.new hp _).trans (k1.trans k2)
 obtain ⟨S,hS,S0,S1,hlow⟩:∃ S:Int,atI [V.int 1,.int 20,.int 9,.int (2 * 10 ^ (40:Int).toNat - 1)] v2=some (.int S)/\0 < S/\S < 10 ^ 60 /\ ∀ x:Int,0<=x->x < S ->
   ∃ y:Int,atI [V.int 0,.int (0 - x),.int (10 ^ (40:Int).toNat - 1 - x),.int (x - 10 ^ (40:Int).toNat+1)] v2=some (.int y) /\ -(10 ^ 40) < y/\y < 10 ^ 40:=by
  have h4:v2=0\/v2=1\/v2=2\/v2=3:=by omega
  rcases h4 with rfl | rfl | rfl | rfl
  ·exact ⟨1,rfl,by decide,by decide,fun x _ _=>⟨0,rfl,by decide,by decide⟩⟩
  ·exact ⟨20,rfl,by decide,by decide,fun x _ _=>⟨_,rfl,by omega,by omega⟩⟩
  ·refine ⟨9,rfl,by decide,by decide,fun x _ _=>⟨_,rfl,?_,?_⟩⟩
   ·show -(10 ^ 40) < (10:Int) ^ 40 - 1 - x
    omega
   ·show (10:Int) ^ 40 - 1 - x < 10 ^ 40
    omega
  ·refine ⟨_,rfl,by decide,by decide,fun x x0 x1=>⟨_,rfl,?_,?_⟩⟩
   ·show -(10 ^ 40) < x - (10:Int) ^ 40+1
    omega
   ·show x - (10:Int) ^ 40+1 < 10 ^ 40
    have x1':x < 2 * (10:Int) ^ 40 - 1:=x1
    omega
 refine ⟨_,rfl,_,_,rfl,rfl,⟨by decide,by decide,by decide⟩,_,_,rfl,rfl,.inl ⟨by decide,by decide⟩,_,_,rfl,rfl,szb rfl,fun p2 hp2=>?_⟩
 refine ⟨_,rfl,p2,_,_,_,rfl,rfl,SqL.of q14,hS,pen,_,rfl,P2.new hp2 _,S0,S1,fun v3 H3 k3 P3 a3 b3=>?_⟩
 obtain ⟨y,hy,y0,y1⟩:=hlow v3 a3 b3
 refine ⟨_,rfl,_,_,rfl,rfl,_,_,rfl,rfl,⟨by decide,by decide,by decide⟩,_,_,rfl,rfl,_,rfl,_,_,rfl,rfl,_,rfl,_,_,rfl,rfl,⟨by decide,by decide,by decide⟩,_,_,rfl,rfl,_,_,rfl,rfl,szb rfl,fun p3 hp3=>?_⟩
 refine ⟨_,rfl,p3,_,_,_,rfl,rfl,SqL.of q14,hy,_,rfl,szb rfl,fun b hb=>?_⟩
 exact q b y L _ (k02.trans ((Keep.new hp2 _).trans (k3.trans ((Keep.new hp3 _).trans (Keep.new hb _))))) ((P3.new hp3 _).new hb _) q14 hL2 y0 y1
theorem q264 (z:Bz K mg cA cB cC cD cG):Cal P w K mg base 3 "_law_row" pn8 (sp__law_row K):=by
 have sc:=q447
 refine z.d__law_row.cal fun f fd F=>F.k sc fun _ _ _ s H _ Q _ hr h=>?_
 obtain ⟨pen,b,low,g,L,rfl,P0,hb,hL,g0,g1,q⟩:=h
 refine ⟨_,(q12 (q226 (pv 1) (q225 rfl (q35 (pgn 3 sc.nd) (q35 (pgn 4 sc.nd) q122))))
 (q12 (pst 5 sc.nd (pe_op q355 q13 (pv 4)))
 (q12 (pst 6 sc.nd (pe_fn (q22 z) hr.m (by rfl) (q10 (pv 0) (q10 q13 q11))))
 (q12 (q532 (i:=7) (cl:=[("_law_size", s.heap.objs.size+1+1),("_law_pen_here", s.heap.objs.size+1+0)]) (cn:=["_law_size", "_law_pen_here"]) (N:=["_law_pen_here", "_law_size"]) (fr:=[0,5]) (sc0:=q17 q192) sc.nd rfl (Or.inl rfl) rfl (q52 rfl z.range_ (q10 q13 q11)) (fun C s₂ H₂ fp=>(pe_fn (q22 z) hr.m (by rfl) (q10 (pv 1) (q10 (pv 2) q11)))) (by with_unfolding_all rfl) ⟨by with_unfolding_all rfl,by with_unfolding_all rfl,trivial⟩ rfl rfl rfl cok rfl (by with_unfolding_all rfl) (.inl rfl))
 (q12 (pst 8 sc.nd (q36 q11))
 (q12 (q66 PassesOwn.never rfl (q52 rfl z.range_ (q10 (pe_fn (q22 z) hr.m (by rfl) (q10 (pv 0) (q10 (pe_op q73 (pv 2) q13) q11))) q11)) (pgn 9 sc.nd)
 (q12 (pst 10 sc.nd (pe_fn (q22 z) hr.m (by rfl) (q10 (pv 0) (q10 (pix q47 (q36 (q10 (pv 5) (q10 (pv 5) (q10 q13 (q10 (q67 (q590 rfl) (by rfl) z.min_ bt_min (q10 (pv 5) (q10 q13 q11))) q11))))) (pv 6)) q11))))
 (q12 (ps_if (q26 op_eq (pv 6) q13 (q19 _))
 (q15 (pst 10 sc.nd (pix q47 (pv 7) (pv 10))))
 q21)
 (q12 (ps_if (q26 op_eq (pv 6) q13 (q19 _))
 (q15 (pst 10 sc.nd (pe_op q199 (pe_op q73 (pix q47 (pv 7) q13) (pv 10)) (pv 5))))
 q21)
 (q15 (q98 (pe_bm PySem.F.plainAttrs_list PySem.F.slot_list_append PySem.F.type_list_append q69 (pv 8) (q10 (pe_op q73 (pv 3) (pv 10)) q11))))))))
 (q15 (q18 (pv 8))))))))),?_⟩
 have hp:=p2pos L
 have hq:=p2le hL
 refine ⟨_,rfl,b,_,rfl,SqT.of hb,rfl,_,_,rfl,_,_,rfl,rfl,?_⟩
 refine ⟨_,rfl,_,_,rfl,rfl,⟨by omega,by omega,by decide⟩,?_⟩
 dsimp only
 rw [q365]
 refine ⟨_,rfl,pen,4,rfl,P0,by decide,by decide,fun wv H1 k1 P1 w0 w1=>?_⟩
 refine ⟨3,rfl,by decide,by decide,fun D hD=>?_⟩
 have hD0:H D=none:=P1.free k1 hD
 have hDp:D ≠ pen:=P1.fresh hD
 refine q186 (n:=3) (sz (by decide)) (fun j ys H6=>∃ fs:List Int,ys=fs.map V.int/\fs.length=j/\(∀ x ∈ fs,0<=x/\x < (2:Int) ^ L)/\H6 D=some (.lst ys)/\Keep pen H H6/\PenM H6 pen)
  ⟨[],rfl,rfl,fun x hx=>absurd hx (by simp),q14,k1.own hD0,P1.new hD _⟩ (fun j ys H6 ⟨fs,e1,e2,_,e3,_⟩=>⟨e3,by rw [e1,List.length_map];exact e2⟩) ?_ ?_
 ·rintro j ys H6 hj ⟨fs,e1,e2,e4,e3,k6,P6⟩
  refine ⟨_,rfl,_,rfl,pen,_,rfl,P6,hp,by omega,fun u3 H7 k7 P7 z0 z1=>?_⟩
  have e3':H7 D=some (.lst ys):=k7 _ _ hDp e3
  refine ⟨e3',fs++[u3],by rw [List.map_append,e1] <;> rfl,by rw [List.length_append,e2] <;> rfl,fun x hx=>?_,q14,(k6.trans k7).own hD0,P7.other hDp _⟩
  rcases List.mem_append.mp hx with h' | h'
  ·exact e4 x h'
  ·cases List.mem_singleton.mp h'
   exact ⟨z0,z1⟩
 ·rintro ys H6 ⟨fs,e1,e2,e4,e3,k6,P6⟩
  rw [e1] at e3
  refine ⟨szb rfl,fun r hr=>?_⟩
  have hr0:H r=none:=P6.free k6 hr
  have hrD:D ≠ r:=q27 e3 hr
  have hrp:r ≠ pen:=P6.fresh hr
  have P7:PenM (upd H6 r (.lst [])) pen:=P6.new hr _
  refine ⟨_,rfl,_,rfl,_,_,rfl,rfl,pen,_,rfl,P7,by omega,by omega,fun m H7 k7 P7 m0 m1=>⟨m,rfl,by omega,by omega,q61 (n:=m.toNat) (fun i σ H8=>∃ (ns:List Int) (v9 v10:Option V),σ=[some (.ref pen),some (.ref b),some (.int g),some (.int low),some (.int (L:Int)),some (.int (2 ^ L)),some (.int wv),some (.ref D),some (.ref r),v9,v10]/\H8 r=some (.lst (ns.map V.int))/\ns.length=i/\Wths low L ns /\
   H8 D=some (.lst (fs.map V.int))/\Keep pen H H8/\PenM H8 pen) ⟨[],_,_,rfl,k7 _ _ hrp q14,rfl,fun x hx=>absurd hx (by simp),k7 _ _ hDp (by rw [q31 hrD];exact e3),(k6.own hr0).trans k7,P7⟩ ?_ ?_⟩⟩
  ·rintro i σ H8 hi ⟨ns,v9,v10,rfl,hr8,hl8,hw8,hD8,k8,P8⟩
   obtain ⟨S,hS,S0,S1,S2,S3⟩:∃ S:Int,atI [V.int (2 ^ L),.int (2 ^ L),.int 3,.int (if (5:Int) < 2 ^ L then 5 else 2 ^ L)] wv=some (.int S)/\0 < S/\S < 10 ^ 60/\(wv=2->S=3)/\(wv ≠ 2->S<=2 ^ L):=by
    have h4:wv=0\/wv=1\/wv=2\/wv=3:=by omega
    rcases h4 with rfl | rfl | rfl | rfl
    ·exact ⟨_,rfl,hp,by omega,fun z=>absurd z (by decide),fun _=>Int.le_refl _⟩
    ·exact ⟨_,rfl,hp,by omega,fun z=>absurd z (by decide),fun _=>Int.le_refl _⟩
    ·exact ⟨3,rfl,by decide,by decide,fun _=>rfl,fun z=>absurd rfl z⟩
    ·refine ⟨_,rfl,?_,?_,fun z=>absurd z (by decide),fun _=>?_⟩
     ·split <;> omega
     ·split <;> omega
     ·split <;> omega
   have fin:∀ (y:Int) (v:Option V) (H9:Hp),0<=y->y < 2 ^ L->Keep pen H8 H9->PenM H9 pen->H9 r=some (.lst (ns.map V.int))/\(ns.map V.int).length < sizeLine /\
     ∃ (ns':List Int) (v9' v10':Option V),[some (V.ref pen),some (.ref b),some (.int g),some (.int low),some (.int (L:Int)),some (.int (2 ^ L)),some (.int wv),some (.ref D),some (.ref r),some (.int (0+(i:Int))),v]=[some (V.ref pen),some (.ref b),some (.int g),some (.int low),some (.int (L:Int)),some (.int (2 ^ L)),some (.int wv),some (.ref D),some (.ref r),v9',v10'] /\
      (upd H9 r (.lst (ns.map V.int++[.int (low+y)]))) r=some (.lst (ns'.map V.int))/\ns'.length=i+1/\Wths low L ns'/\(upd H9 r (.lst (ns.map V.int++[.int (low+y)]))) D=some (.lst (fs.map V.int))/\Keep pen H (upd H9 r (.lst (ns.map V.int++[.int (low+y)])))/\PenM (upd H9 r (.lst (ns.map V.int++[.int (low+y)]))) pen:=by
    intro y v H9 y0 y1 k9 P9
    have hr9:=k9 _ _ hrp hr8
    have hD9:=k9 _ _ hDp hD8
    refine ⟨hr9,by rw [List.length_map,hl8];exact q54 (by omega),ns++[low+y],_,_,rfl,?_,by rw [List.length_append,hl8] <;> rfl,hw8.snoc (by omega) (by omega),by rw [q31 hrD];exact hD9,(k8.trans k9).own hr0,P9.other hrp _⟩
    rw [q14,List.map_append]
    rfl
   refine ⟨_,rfl,_,rfl,_,rfl,_,rfl,_,_,rfl,szb rfl,fun p2 hp2=>?_⟩
   refine ⟨_,rfl,p2,_,_,_,rfl,rfl,SqL.of q14,hS,pen,_,rfl,P8.new hp2 _,S0,S1,fun u H9 k9 P9 u0 u1=>?_⟩
   have k89:Keep pen H8 H9:=(Keep.new hp2 _).trans k9
   refine ⟨_,rfl,rfl,_,rfl,?_⟩
   refine ite2 (fun c=>?_) (fun c=>?_)
   ·have c':wv=2:=V.int.inj (of_decide_eq_true c)
    have e3S:=S2 c'
    obtain ⟨fv,hm,hv⟩:=q140 (l:=fs) (i:=u) u0 (by omega)
    obtain ⟨y0,y1⟩:=e4 fv hm
    refine ⟨_,rfl,_,rfl,D,_,_,_,rfl,rfl,SqL.of (k89 _ _ hDp hD8),hv,?_⟩
    refine ⟨_,rfl,rfl,_,rfl,?_⟩
    refine ite2 (fun c3=>?_) (fun c3=>?_)
    ·have c3':wv=3:=V.int.inj (of_decide_eq_true c3)
     omega
    ·obtain ⟨f1,f2,f3⟩:=fin fv (some (.int fv)) H9 y0 y1 k89 P9
     exact ⟨_,rfl,.inl ⟨rfl,_,SqL.of f1⟩,_,rfl,_,rfl,_,_,rfl,rfl,r,_,_,rfl,rfl,f1,f2,f3⟩
   ·have c':wv ≠ 2:=fun z=>c (decide_eq_true (by rw [z]))
    have e3S:=S3 c'
    refine ⟨_,rfl,rfl,_,rfl,?_⟩
    refine ite2 (fun c3=>?_) (fun c3=>?_)
    ·obtain ⟨f0,hm,hv⟩:=q140 (l:=fs) (i:=0) (by omega) (by omega)
     have b0:0<=(f0+u) % (2:Int) ^ L:=Int.emod_nonneg _ (by omega)
     have b1:(f0+u) % (2:Int) ^ L < 2 ^ L:=Int.emod_lt_of_pos _ hp
     refine ⟨_,rfl,D,_,_,_,rfl,rfl,SqL.of (k89 _ _ hDp hD8),hv,_,rfl,_,_,rfl,rfl,_,rfl,_,_,rfl,rfl,hp,?_⟩
     obtain ⟨f1,f2,f3⟩:=fin ((f0+u) % (2:Int) ^ L) (some (.int ((f0+u) % (2:Int) ^ L))) H9 b0 b1 k89 P9
     exact ⟨_,rfl,.inl ⟨rfl,_,SqL.of f1⟩,_,rfl,_,rfl,_,_,rfl,rfl,r,_,_,rfl,rfl,f1,f2,f3⟩
    ·obtain ⟨f1,f2,f3⟩:=fin u (some (.int u)) H9 u0 (by omega) k89 P9
     exact ⟨_,rfl,.inl ⟨rfl,_,SqL.of f1⟩,_,rfl,_,rfl,_,_,rfl,rfl,r,_,_,rfl,rfl,f1,f2,f3⟩
  ·rintro σ H8 ⟨ns,v9,v10,rfl,hr8,hl8,hw8,hD8,k8,P8⟩
   exact ⟨_,rfl,q r ns _ k8 P8 hr8 hr0 (by omega) hw8⟩
noncomputable def mkOf (mid n:Int):Int:=if n < mid then 0 else 1
theorem mk01 (mid n:Int):mkOf mid n=0\/mkOf mid n=1:=by
 unfold mkOf
 split
 ·exact .inl rfl
 ·exact .inr rfl
theorem q338 {mid n:Int} (h:n < mid):mkOf mid n=0:=if_pos h
theorem q339 {mid n:Int} (h:¬ n < mid):mkOf mid n=1:=if_neg h
def loI (mid:Int):Int->Bool:=fun n=>decide (n < mid)
def hiI (mid:Int):Int->Bool:=fun n=>decide (mid<=n)
theorem cnt_lo {mid:Int} (l:List Int):(l.map (mkOf mid)).count 0=l.countP (loI mid):=by
 induction l with
 | nil=>rfl
 | cons n l ih=>
  rw [List.map_cons,List.count_cons,List.countP_cons,ih]
  unfold mkOf loI
  by_cases c:n < mid
  ·simp [c]
  ·simp [c]
theorem cnt_hi {mid:Int} (l:List Int):(l.map (mkOf mid)).count 1=l.countP (hiI mid):=by
 induction l with
 | nil=>rfl
 | cons n l ih=>
  rw [List.map_cons,List.count_cons,List.countP_cons,ih]
  unfold mkOf hiI
  by_cases c:n < mid
  ·have c2:¬ mid<=n:=by omega
   simp [c,c2]
  ·have c2:mid<=n:=by omega
   simp [c,c2]
theorem Wths.lower {low:Int} {e:Nat} {ns:List Int} (h:Wths low (e+1) ns):Wths low e (ns.filter (loI (low+2 ^ e))):=fun x hx=>by
 obtain ⟨h1,h2⟩:=List.mem_filter.mp hx
 exact ⟨(h x h1).1,of_decide_eq_true h2⟩
theorem Wths.upper {low:Int} {e:Nat} {ns:List Int} (h:Wths low (e+1) ns):Wths (low+2 ^ e) e (ns.filter (hiI (low+2 ^ e))):=fun x hx=>by
 obtain ⟨h1,h2⟩:=List.mem_filter.mp hx
 have:=(h x h1).2
 rw [p2succ] at this
 exact ⟨of_decide_eq_true h2,by omega⟩
theorem q34 {low:Int} {e:Nat} {ns:List Int} (h:ns ≠ []):grow low (e+1) ns = .part (ns.map (mkOf (low+2 ^ e))) (grow low e (ns.filter (loI (low+2 ^ e)))) (grow (low+2 ^ e) e (ns.filter (hiI (low+2 ^ e)))):=q93 h
theorem q457 (low:Int) (e:Nat) (ns:List Int):q133 (grow low (e+1) ns) 0=grow low e (ns.filter (loI (low+2 ^ e))):=by
 by_cases h:ns=[]
 ·rw [h,q33,List.filter_nil,q33];rfl
 ·rw [q34 h];rfl
theorem q458 (low:Int) (e:Nat) (ns:List Int):q133 (grow low (e+1) ns) 1=grow (low+2 ^ e) e (ns.filter (hiI (low+2 ^ e))):=by
 by_cases h:ns=[]
 ·rw [h,q33,List.filter_nil,q33];rfl
 ·rw [q34 h];rfl
theorem q143 (p:Int->Bool) (ns:List Int) (pl:Nat):ns.filter p=(ns.take pl).filter p++(ns.drop pl).filter p:=by
 rw [<- List.filter_append,List.take_append_drop]
theorem q265 (p:Int->Bool) (ns:List Int) (pl:Nat):(ns.filter p).take ((ns.take pl).countP p)=(ns.take pl).filter p:=by
 rw [q143 p ns pl,List.countP_eq_length_filter]
 exact List.take_left
theorem q179 (p:Int->Bool) (ns:List Int) (pl:Nat):(ns.filter p).drop ((ns.take pl).countP p)=(ns.drop pl).filter p:=by
 rw [q143 p ns pl,List.countP_eq_length_filter]
 exact List.drop_left
noncomputable def insAt (ns:List Int) (pl:Nat) (x:Int):List Int:=ns.take pl++x::ns.drop pl
theorem ins_ne (ns:List Int) (pl:Nat) (x:Int):insAt ns pl x ≠ []:=by unfold insAt;simp
theorem q459 (ns:List Int) (pl:Nat) (x:Int):(insAt ns pl x).length=ns.length+1:=by
 unfold insAt
 rw [List.length_append,List.length_cons,List.length_take,List.length_drop]
 omega
theorem ins_map (f:Int->Int) (ns:List Int) (pl:Nat) (x:Int):(insAt ns pl x).map f=(ns.map f).take pl++f x::(ns.map f).drop pl:=by
 unfold insAt
 rw [List.map_append,List.map_cons,List.map_take,List.map_drop]
theorem ins_in {ns:List Int} {pl:Nat} {x:Int} (h:p x=true):(insAt ns pl x).filter p=insAt (ns.filter p) ((ns.take pl).countP p) x:=by
 unfold insAt
 rw [q265,q179,List.filter_append,List.filter_cons,if_pos h]
theorem q669 {ns:List Int} {pl:Nat} {x:Int} (h:¬ p x=true):(insAt ns pl x).filter p=ns.filter p:=by
 unfold insAt
 rw [List.filter_append,List.filter_cons,if_neg h,<- q143]
theorem ins_wths {low:Int} {L:Nat} {pl:Nat} {x:Int} (h:Wths low L ns) (h0:low<=x) (h1:x < low+2 ^ L):Wths low L (insAt ns pl x):=fun y hy=>by
 unfold insAt at hy
 rcases List.mem_append.mp hy with z | z
 ·exact h y (List.mem_of_mem_take z)
 ·rcases List.mem_cons.mp z with z | z
  ·rw [z];exact ⟨h0,h1⟩
  ·exact h y (List.mem_of_mem_drop z)
noncomputable def hlf (mid mk:Int):Int->Bool:=if mk=0 then loI mid else hiI mid
noncomputable def lowOf (low:Int) (e:Nat) (mk:Int):Int:=if mk=0 then low else low+2 ^ e
theorem q266 {low mk:Int} {e:Nat} {ns:List Int} (h:mk=0\/mk=1):q133 (grow low (e+1) ns) mk=grow (lowOf low e mk) e (ns.filter (hlf (low+2 ^ e) mk)):=by
 rcases h with rfl | rfl
 ·exact q457 low e ns
 ·exact q458 low e ns
theorem q221 {mid mk:Int} {ns:List Int} {pl:Nat} (h:mk=0\/mk=1):((ns.map (mkOf mid)).take pl).count mk=(ns.take pl).countP (hlf mid mk):=by
 rw [<- List.map_take]
 rcases h with rfl | rfl
 ·exact cnt_lo _
 ·exact cnt_hi _
theorem hlf_self (mid x:Int):hlf mid (mkOf mid x) x=true:=by
 by_cases c:x < mid
 ·rw [q338 c];exact decide_eq_true c
 ·rw [q339 c];exact decide_eq_true (by omega)
theorem Wths.half {low mk:Int} {e:Nat} {ns:List Int} (h:Wths low (e+1) ns) (hk:mk=0\/mk=1):Wths (lowOf low e mk) e (ns.filter (hlf (low+2 ^ e) mk)):=by
 rcases hk with rfl | rfl
 ·exact h.lower
 ·exact h.upper
theorem grow_ins (low:Int) (e:Nat) (ns:List Int) (pl:Nat) (x mk:Int) (hk:mkOf (low+2 ^ e) x=mk):grow low (e+1) (insAt ns pl x) =
  .part ((ns.map (mkOf (low+2 ^ e))).take pl++mk::(ns.map (mkOf (low+2 ^ e))).drop pl)
   (if mk=0 then grow (lowOf low e mk) e (insAt (ns.filter (hlf (low+2 ^ e) mk)) ((ns.take pl).countP (hlf (low+2 ^ e) mk)) x) else q133 (grow low (e+1) ns) 0)
   (if mk=0 then q133 (grow low (e+1) ns) 1 else grow (lowOf low e mk) e (insAt (ns.filter (hlf (low+2 ^ e) mk)) ((ns.take pl).countP (hlf (low+2 ^ e) mk)) x)):=by
 rw [q34 (ins_ne ns pl x),ins_map,hk]
 by_cases c:x < low+2 ^ e
 ·rw [q338 c] at hk
  subst hk
  rw [if_pos rfl,if_pos rfl,q458,ins_in (p:=loI _) (decide_eq_true c),q669 (p:=hiI _) (by intro z;have:=of_decide_eq_true z;omega)]
  rfl
 ·rw [q339 c] at hk
  subst hk
  rw [if_neg (by decide),if_neg (by decide),q457,ins_in (p:=hiI _) (decide_eq_true (by omega)),q669 (p:=loI _) (by intro z;exact c (of_decide_eq_true z))]
  rfl
theorem way_half {low num:Int} {e:Nat} (h0:low<=num) (h1:num < low+2 ^ (e+1)):wayW (e+1) (num - low)=mkOf (low+2 ^ e) num::wayW e (num - lowOf low e (mkOf (low+2 ^ e) num)) /\
  lowOf low e (mkOf (low+2 ^ e) num)<=num/\num < lowOf low e (mkOf (low+2 ^ e) num)+2 ^ e:=by
 have hp:=pow2 e
 by_cases c:num < low+2 ^ e
 ·rw [q338 c,q114 (show num - low < 2 ^ e by omega)]
  exact ⟨rfl,h0,c⟩
 ·rw [q339 c,q115 (show ¬ num - low < 2 ^ e by omega)]
  refine ⟨?_,?_,?_⟩
  ·show 1::wayW e (num - low - 2 ^ e)=1::wayW e (num - (low+2 ^ e))
   rw [show num - low - 2 ^ e=num - (low+2 ^ e) by omega]
  ·show low+2 ^ e<=num
   omega
  ·show num < low+2 ^ e+2 ^ e
   omega
noncomputable def delAt (ns:List Int) (pl:Nat):List Int:=ns.take pl++ns.drop (pl+1)
theorem q340 {ns:List Int} {pl:Nat} (h:pl < ns.length):(delAt ns pl).length+1=ns.length:=by
 unfold delAt
 rw [List.length_append,List.length_take,List.length_drop]
 omega
theorem del_map (f:Int->Int) (ns:List Int) (pl:Nat):(delAt ns pl).map f=(ns.map f).take pl++(ns.map f).drop (pl+1):=by
 unfold delAt
 rw [List.map_append,List.map_take,List.map_drop]
theorem q341 {ns:List Int} {pl:Nat} {x:Int} (h:ns[pl]? = some x):ns.drop pl=x::ns.drop (pl+1):=by
 obtain ⟨h1,h2⟩:=List.getElem?_eq_some_iff.mp h
 rw [<- h2]
 exact List.drop_eq_getElem_cons h1
theorem del_in {ns:List Int} {pl:Nat} {x:Int} (hx:ns[pl]? = some x) (h:p x=true):(delAt ns pl).filter p=delAt (ns.filter p) ((ns.take pl).countP p):=by
 have e:=q179 p ns pl
 rw [q341 hx,List.filter_cons,if_pos h] at e
 have e2:(ns.filter p).drop ((ns.take pl).countP p+1)=(ns.drop (pl+1)).filter p:=by simpa [List.drop_drop,Nat.add_comm] using congrArg (List.drop 1) e
 unfold delAt
 rw [q265,List.filter_append,e2]
theorem q670 {ns:List Int} {pl:Nat} {x:Int} (hx:ns[pl]? = some x) (h:¬ p x=true):(delAt ns pl).filter p=ns.filter p:=by
 have e:=q143 p ns pl
 rw [q341 hx,List.filter_cons,if_neg h] at e
 unfold delAt
 rw [List.filter_append,e]
theorem del_wths {low:Int} {L:Nat} {pl:Nat} (h:Wths low L ns):Wths low L (delAt ns pl):=fun y hy=>by
 unfold delAt at hy
 rcases List.mem_append.mp hy with z | z
 ·exact h y (List.mem_of_mem_take z)
 ·exact h y (List.mem_of_mem_drop z)
theorem filt_get {ns:List Int} {pl:Nat} {x:Int} (hx:ns[pl]? = some x) (h:p x=true):(ns.filter p)[(ns.take pl).countP p]? = some x:=by
 have e:=q179 p ns pl
 rw [q341 hx,List.filter_cons,if_pos h] at e
 have z:=congrArg (fun l=>l[0]?) e
 simpa [List.getElem?_drop] using z
theorem grow_del {low:Int} {e:Nat} {ns:List Int} {pl:Nat} {x mk:Int} (hx:ns[pl]? = some x) (h2:delAt ns pl ≠ []) (hk:mkOf (low+2 ^ e) x=mk):grow low (e+1) (delAt ns pl) =
  .part ((ns.map (mkOf (low+2 ^ e))).take pl++(ns.map (mkOf (low+2 ^ e))).drop (pl+1))
   (if mk=0 then grow (lowOf low e mk) e (delAt (ns.filter (hlf (low+2 ^ e) mk)) ((ns.take pl).countP (hlf (low+2 ^ e) mk))) else q133 (grow low (e+1) ns) 0)
   (if mk=0 then q133 (grow low (e+1) ns) 1 else grow (lowOf low e mk) e (delAt (ns.filter (hlf (low+2 ^ e) mk)) ((ns.take pl).countP (hlf (low+2 ^ e) mk)))):=by
 rw [q34 h2,del_map]
 by_cases c:x < low+2 ^ e
 ·rw [q338 c] at hk
  subst hk
  rw [if_pos rfl,if_pos rfl,q458,del_in (p:=loI _) hx (decide_eq_true c),q670 (p:=hiI _) hx (by intro z;have:=of_decide_eq_true z;omega)]
  rfl
 ·rw [q339 c] at hk
  subst hk
  rw [if_neg (by decide),if_neg (by decide),q457,del_in (p:=hiI _) hx (decide_eq_true (by omega)),q670 (p:=loI _) hx (by intro z;exact c (of_decide_eq_true z))]
  rfl
theorem ins_del {ns:List Int} {pl:Nat} {x:Int} (h:pl < ns.length):insAt (delAt ns pl) pl x=ns.take pl++x::ns.drop (pl+1):=by
 have e1:(ns.take pl).length=pl:=by rw [List.length_take];omega
 unfold insAt delAt
 rw [List.take_append_of_le_length (by omega),List.drop_append_of_le_length (by omega),List.take_of_length_le (by omega),List.drop_of_length_le (by omega)]
 rfl
theorem q144 (ms:List Int) (k:Nat):cutV (ms.map V.int) (some (k:Int)) none=(ms.drop k).map V.int:=by
 unfold cutV
 rw [HT.q692,HT.q691,List.map_drop]
 by_cases h:k<=(ms.map V.int).length
 ·rw [Nat.min_eq_left h]
  exact List.take_of_length_le (by rw [List.length_drop];exact Nat.le_refl _)
 ·have h':(ms.map V.int).length<=k:=by omega
  rw [Nat.min_eq_right h',List.drop_of_length_le h',List.drop_of_length_le (Nat.le_refl _)]
  exact List.take_nil
inductive sp_merged (K:Fg) (vs:List V) (H:Hp) (Q:VK) (E:XK):Prop
 | mk (m lo hi:Addr) (mid:Int) (ns:List Int) (_:vs=[.ref m,.ref lo,.ref hi]) (_:SqT K H m ((ns.map (mkOf mid)).map V.int)) (_:H lo=some (.lst ((ns.filter fun n=>decide (n < mid)).map V.int))) (_:H hi=some (.lst ((ns.filter fun n=>decide (mid<=n)).map V.int))) (_:ns.length<=1000) (_:∀ (H':Hp) (D:Addr),Same H H'->H' D=some (.lst (ns.map V.int))->H D=none->Q (.ref D) H'):sp_merged K vs H Q E
inductive spe_row_from (K:Fg) (e:Nat) (vs:List V) (H:Hp) (Q:VK) (E:XK):Prop
 | mk (least:Int) (v:V) (ns:List Int) (_:vs=[.int least,.int (2 ^ e),v]) (_:q25 H v (grow least e ns)) (_:ns.length<=1000) (_:Wths least e ns) (_:∀ (H':Hp) (D:Addr),Same H H'->H' D=some (.lst (ns.map V.int))->H D=none->Q (.ref D) H'):spe_row_from K e vs H Q E
inductive sp_row_of (K:Fg) (vs:List V) (H:Hp) (Q:VK) (E:XK):Prop
 | mk (b:Addr) (v:V) (low:Int) (L:Nat) (ns:List Int) (_:vs=[.ref b,v]) (_:SqT K H b [.int low,.int (L:Int)]) (_:L<=40) (_:q25 H v (grow low L ns)) (_:ns.length<=1000) (_:Wths low L ns) (_:∀ (H':Hp) (D:Addr),Same H H'->H' D=some (.lst (ns.map V.int))->H D=none->Q (.ref D) H'):sp_row_of K vs H Q E
theorem q87 (d:Int):∀ (e:Nat) (low:Int) (ns:List Int),grow (low+d) e (ns.map fun n=>n+d)=grow low e ns
 | 0,low,ns=>by
  by_cases h:ns=[]
  ·rw [h];rfl
  ·rw [q30 h,q30 (by simpa using h),List.length_map]
 | e+1,low,ns=>by
  by_cases h:ns=[]
  ·rw [h];rfl
  ·have h2:(ns.map fun n=>n+d) ≠ []:=by simpa using h
   rw [q34 h,q34 h2]
   have e1:(ns.map fun n=>n+d).map (mkOf (low+d+2 ^ e))=ns.map (mkOf (low+2 ^ e)):=by
    rw [List.map_map]
    refine List.map_congr_left fun n _=>?_
    show (if n+d < low+d+2 ^ e then (0:Int) else 1)=if n < low+2 ^ e then 0 else 1
    by_cases c:n < low+2 ^ e
    ·rw [if_pos c,if_pos (by omega)]
    ·rw [if_neg c,if_neg (by omega)]
   have e2:(ns.map fun n=>n+d).filter (loI (low+d+2 ^ e))=(ns.filter (loI (low+2 ^ e))).map fun n=>n+d:=by
    rw [List.filter_map]
    congr 1
    refine List.filter_congr fun n _=>?_
    show decide (n+d < low+d+2 ^ e)=decide (n < low+2 ^ e)
    by_cases c:n < low+2 ^ e
    ·rw [decide_eq_true c,decide_eq_true (by omega)]
    ·rw [decide_eq_false c,decide_eq_false (by omega)]
   have e3:(ns.map fun n=>n+d).filter (hiI (low+d+2 ^ e))=(ns.filter (hiI (low+2 ^ e))).map fun n=>n+d:=by
    rw [List.filter_map]
    congr 1
    refine List.filter_congr fun n _=>?_
    show decide (low+d+2 ^ e<=n+d)=decide (low+2 ^ e<=n)
    by_cases c:low+2 ^ e<=n
    ·rw [decide_eq_true c,decide_eq_true (by omega)]
    ·rw [decide_eq_false c,decide_eq_false (by omega)]
   rw [e1,e2,e3,q87 d e,show low+d+2 ^ e=(low+2 ^ e)+d by omega,q87 d e]
noncomputable def flp (low:Int) (e:Nat) (n:Int):Int:=2 * low+2 ^ e - 1 - n
theorem flp_mk (low:Int) (e:Nat) (ns:List Int):(ns.map (flp low (e+1))).map (mkOf (low+2 ^ e))=(ns.map (mkOf (low+2 ^ e))).map fun m=>1 - m:=by
 rw [List.map_map,List.map_map]
 refine List.map_congr_left fun n _=>?_
 show (if flp low (e+1) n < low+2 ^ e then (0:Int) else 1)=1 - if n < low+2 ^ e then 0 else 1
 unfold flp
 have p:(2:Int) ^ (e+1)=2 * 2 ^ e:=by rw [Int.pow_succ];omega
 by_cases c:n < low+2 ^ e
 ·rw [if_pos c,if_neg (by omega)];rfl
 ·rw [if_neg c,if_pos (by omega)];rfl
theorem flp_lo (low:Int) (e:Nat) (ns:List Int):grow low e ((ns.map (flp low (e+1))).filter (loI (low+2 ^ e)))=grow (low+2 ^ e) e ((ns.filter (hiI (low+2 ^ e))).map (flp (low+2 ^ e) e)):=by
 have p:(2:Int) ^ (e+1)=2 * 2 ^ e:=by rw [Int.pow_succ];omega
 rw [<- q87 (2 ^ e) e low]
 congr 1
 rw [List.filter_map,List.map_map]
 have e1:ns.filter (loI (low+2 ^ e) ∘ flp low (e+1))=ns.filter (hiI (low+2 ^ e)):=List.filter_congr fun n _=>by
  show decide (flp low (e+1) n < low+2 ^ e)=decide (low+2 ^ e<=n)
  unfold flp
  by_cases c:low+2 ^ e<=n
  ·rw [decide_eq_true c,decide_eq_true (by omega)]
  ·rw [decide_eq_false c,decide_eq_false (by omega)]
 rw [e1]
 refine List.map_congr_left fun n _=>?_
 show flp low (e+1) n+2 ^ e=flp (low+2 ^ e) e n
 unfold flp
 omega
theorem flp_hi (low:Int) (e:Nat) (ns:List Int):grow (low+2 ^ e) e ((ns.map (flp low (e+1))).filter (hiI (low+2 ^ e)))=grow low e ((ns.filter (loI (low+2 ^ e))).map (flp low e)):=by
 have p:(2:Int) ^ (e+1)=2 * 2 ^ e:=by rw [Int.pow_succ];omega
 rw [<- q87 (2 ^ e) e low]
 congr 1
 rw [List.filter_map,List.map_map]
 have e1:ns.filter (hiI (low+2 ^ e) ∘ flp low (e+1))=ns.filter (loI (low+2 ^ e)):=List.filter_congr fun n _=>by
  show decide (low+2 ^ e<=flp low (e+1) n)=decide (n < low+2 ^ e)
  unfold flp
  by_cases c:n < low+2 ^ e
  ·rw [decide_eq_true c,decide_eq_true (by omega)]
  ·rw [decide_eq_false c,decide_eq_false (by omega)]
 rw [e1]
 refine List.map_congr_left fun n _=>?_
 show flp low (e+1) n=flp low e n+2 ^ e
 unfold flp
 omega
theorem q197:∀ (e:Nat) (os:List Int),growO e os=grow 0 e os
 | 0,os=>rfl
 | e+1,os=>by
  by_cases h:os=[]
  ·rw [h,q105,q33]
  ·rw [q77 h,q93 h,q197 e,q197 e]
   have z:(0:Int)+2 ^ e=2 ^ e:=Int.zero_add _
   rw [z]
   have e2:=q87 (2 ^ e) e 0 ((os.filter fun o=>decide ((2:Int) ^ e<=o)).map fun o=>o - 2 ^ e)
   rw [List.map_map,z] at e2
   have e3:((os.filter fun o=>decide ((2:Int) ^ e<=o)).map ((fun n=>n+2 ^ e) ∘ fun o=>o - 2 ^ e))=os.filter fun o=>decide ((2:Int) ^ e<=o):=by
    rw [show ((fun n:Int=>n+2 ^ e) ∘ fun o=>o - 2 ^ e)=id from funext fun o=>by show o - 2 ^ e+2 ^ e=o;omega,List.map_id]
   rw [e3] at e2
   rw [<- e2]
   rfl
theorem q222 (low:Int) (e:Nat) (ns:List Int):grow low e ns=growO e (ns.map fun n=>n - low):=by
 rw [q197,<- q87 low e 0,List.map_map,Int.zero_add]
 congr 1
 rw [show ((fun n:Int=>n+low) ∘ fun n=>n - low)=id from funext fun o=>by show o - low+low=o;omega,List.map_id]
theorem off_mk (low:Int) (e:Nat) (ns:List Int):(ns.map fun n=>n - low).map (mk0 e)=ns.map (mkOf (low+2 ^ e)):=by
 rw [List.map_map]
 refine List.map_congr_left fun n _=>?_
 show (if n - low < 2 ^ e then (0:Int) else 1)=if n < low+2 ^ e then 0 else 1
 by_cases c:n < low+2 ^ e
 ·rw [if_pos c,if_pos (by omega)]
 ·rw [if_neg c,if_neg (by omega)]
theorem q671 {low:Int} {e:Nat} {ns:List Int} (h:Wths low e ns):InO e (ns.map fun n=>n - low):=fun o ho=>by
 obtain ⟨n,hn,rfl⟩:=List.mem_map.mp ho
 have:=h n hn
 omega
theorem half_off {low mk:Int} {e:Nat} {ns:List Int} (hw:Wths low (e+1) ns) (hmk:mk=0\/mk=1):halfO e mk (ns.map fun n=>n - low)=(ns.filter (hlf (low+2 ^ e) mk)).map fun n=>n - lowOf low e mk:=by
 have p:(2:Int) ^ (e+1)=2 * 2 ^ e:=by rw [Int.pow_succ];omega
 unfold halfO
 rw [List.filter_map,List.map_map]
 have e1:ns.filter ((fun o=>mk0 e o == mk) ∘ fun n=>n - low)=ns.filter (hlf (low+2 ^ e) mk):=List.filter_congr fun n hn=>by
  show ((if n - low < 2 ^ e then (0:Int) else 1) == mk)=hlf (low+2 ^ e) mk n
  rcases hmk with rfl | rfl
  ·show _=decide (n < low+2 ^ e)
   by_cases c:n < low+2 ^ e
   ·rw [if_pos (by omega),decide_eq_true c];rfl
   ·rw [if_neg (by omega),decide_eq_false c];rfl
  ·show _=decide (low+2 ^ e<=n)
   by_cases c:low+2 ^ e<=n
   ·rw [if_neg (by omega),decide_eq_true c];rfl
   ·rw [if_pos (by omega),decide_eq_false c];rfl
 rw [e1]
 refine List.map_congr_left fun n hn=>?_
 obtain ⟨hn,hf⟩:=List.mem_filter.mp hn
 have hwn:=hw n hn
 show (n - low) % 2 ^ e=n - lowOf low e mk
 have hp:=p2pos e
 rcases hmk with rfl | rfl
 ·have c:n < low+2 ^ e:=of_decide_eq_true hf
  show _=n - low
  exact Int.emod_eq_of_lt (by omega) (by omega)
 ·have c:low+2 ^ e<=n:=of_decide_eq_true hf
  show _=n - (low+2 ^ e)
  rw [<- Int.sub_emod_right,Int.emod_eq_of_lt (by omega) (by omega)]
  omega
theorem q672 {st en:Nat} {low mk:Int} {e:Nat} {ns:List Int} (hs:H sa=some (.tup [v,.int (st:Int),.int (en:Int)])) (hwy:SqT K H wy [.int mk]) (hmk:mk=0\/mk=1)
  (ht:q25 H v (grow low (e+1) ns)) (hw:Wths low (e+1) ns) (h1:st<=en) (h2:en<=ns.length) (hl:ns.length<=300)
  (q:∀ (p:Addr) (u:V) (H':Hp),Same H H'->H' p=some (.tup [u,.int ((ns.take st).countP (hlf (low+2 ^ e) mk):Nat),.int ((ns.take en).countP (hlf (low+2 ^ e) mk):Nat)])->q25 H' u (grow (lowOf low e mk) e (ns.filter (hlf (low+2 ^ e) mk)))->Q (.ref p) H') (E) :
  q148 K [.ref sa,.ref wy] H Q E:=by
 refine ⟨.ref sa,wy,e+1,[mk],(ns.map fun n=>n - low,st,en),rfl,⟨sa,v,rfl,hs,by rw [<- q222];exact ht⟩,⟨q671 hw,h1,by rw [List.length_map];exact h2,by rw [List.length_map];exact hl⟩,hwy,by simp,fun m hm=>by rw [List.mem_singleton.mp hm];exact hmk,fun H' v' s' hv'=>?_⟩
 obtain ⟨p,u,rfl,hp,hu⟩:=hv'
 rw [q80,q65] at hp hu
 have c:∀ k:Nat,(((ns.map fun n=>n - low).map (mk0 e)).take k).count mk=(ns.take k).countP (hlf (low+2 ^ e) mk):=fun k=>by rw [off_mk,q221 hmk]
 refine q p u H' s' ?_ ?_
 ·rw [<- c,<- c]
  exact hp
 ·rw [q222,<- half_off hw hmk]
  exact hu
noncomputable def segI (ns:List Int) (st en:Nat):List Int:=(ns.take en).drop st
theorem q460 {ns:List Int} {st en:Nat} (h:en<=ns.length):(segI ns st en).length=en - st:=by
 unfold segI
 rw [List.length_drop,List.length_take]
 omega
theorem seg_map (f:Int->Int) (ns:List Int) (st en:Nat):(segI ns st en).map f=((ns.map f).take en).drop st:=by
 unfold segI
 rw [List.map_drop,List.map_take]
theorem take_le {ns:List Int} {st en:Nat} (h:st<=en):(ns.take en).take st=ns.take st:=by
 rw [List.take_take,Nat.min_eq_left h]
theorem q303 (p:Int->Bool) {ns:List Int} {st en:Nat} (h:st<=en):(segI ns st en).filter p=segI (ns.filter p) ((ns.take st).countP p) ((ns.take en).countP p):=by
 have e:=q179 p (ns.take en) st
 rw [take_le h] at e
 unfold segI
 rw [q265,e]
theorem cnt_le (p:Int->Bool) (ns:List Int) (en:Nat):(ns.take en).countP p<=(ns.filter p).length:=by
 rw [<- List.countP_eq_length_filter]
 exact List.Sublist.countP_le (List.take_sublist _ _)
theorem q223 {low:Int} {e:Nat} (h:q25 H .non (grow low e ns)):ns=[]:=by
 by_cases z:ns=[]
 ·exact z
 ·cases e with
  | zero=>rw [q30 z] at h;obtain ⟨a,e1,_⟩:=h;cases e1
  | succ e=>rw [q34 z] at h;obtain ⟨a,m,x,y,e1,_⟩:=h;cases e1
theorem q673 (ms:List Int) (st en:Nat) (h:st<=en) (h2:en<=ms.length):cutV (ms.map V.int) (some (st:Int)) (some (en:Int))=((ms.take en).drop st).map V.int:=by
 unfold cutV
 rw [HT.q692,HT.q692,List.length_map,Nat.min_eq_left h2,Nat.min_eq_left (Nat.le_trans h h2),List.map_drop,List.map_take,List.drop_take]
abbrev q198:Nat:=2
abbrev q304:Nat:=40
inductive spe_cut_out (K:Fg) (e:Nat) (vs:List V) (H:Hp) (Q:VK) (E:XK):Prop
 | mk (sa:Addr) (v:V) (st en:Nat) (low:Int) (ns:List Int) (_:vs=[.ref sa]) (_:H sa=some (.tup [v,.int (st:Int),.int (en:Int)])) (_:q25 H v (grow low e ns)) (_:Wths low e ns) (_:st<=en) (_:en<=ns.length) (_:ns.length<=300) (_:∀ (u:V) (H':Hp),Same H H'->q25 H' u (grow low e (segI ns st en))->Q u H'):spe_cut_out K e vs H Q E
def q568 (K:Fg):Sp:=fun vs H Q E=>∃ e,e<=q304/\spe_cut_out K e vs H Q E
abbrev q674:Nat:=0
abbrev q414:Nat:=40
inductive spe_joined (u0:Fg) (e:Nat) (vs:List V) (H:Hp) (Q:VK) (E:XK):Prop
 | mk (v w:V) (low:Int) (ns ms:List Int) (_:vs=[v,w]) (_:q25 H v (grow low e ns)) (_:q25 H w (grow low e ms)) (_:ns.length<=450) (_:ms.length<=450) (_:∀ (u:V) (H':Hp),Same H H'->q25 H' u (grow low e (ns++ms))->Q u H'):spe_joined u0 e vs H Q E
def q675 (K:Fg):Sp:=fun vs H Q E=>∃ e,e<=q414/\spe_joined K e vs H Q E
theorem q569 (z:Bz K mg cA cB cC cD cG):Cal P w K mg base 43 "cut_out_joins" ["stretch"] (q568 K):=by
 have sc:=q555
 refine z.d_cut_out.recur (k:=q198) (sp:=spe_cut_out K) q304 fun e hen c_cut_out f fd F=>F.k sc fun _ _ _ s H _ Q _ hr h=>?_
 obtain ⟨sa,v,st,en,low,ns,rfl,hs,ht,hw,h1,h2,hl,q⟩:=h
 have hsq:SqT K H sa [v,.int (st:Int),.int (en:Int)]:=SqT.of hs
 refine ⟨_,(q12 (pst 1 sc.nd (pix q32 (pv 0) q13))
 (q12 (pst 2 sc.nd (pix q32 (pv 0) q13))
 (q12 (pst 3 sc.nd (pix q32 (pv 0) q13))
 (q12 (ps_if (q26 op_eq (pv 2) (pv 3) (q19 _))
 (q15 (q18 q58))
 q21)
 (q12 (ps_if (q26 op_eq (pix q32 (pv 1) q13) q42 (q19 _))
 (q15 (q18 (q28 (q10 q42 (q10 (pe_op q81 (pv 3) (pv 2)) q11)))))
 q21)
 (q12 (pst 4 sc.nd (pe_fn c_cut_out (hr.mono (Nat.le_refl _)) (by rfl) (q10 (pe_fn (q100 z) (hr.mono (Nat.le_trans (by decide:2<=q198) (Nat.le_add_left _ _))) (by rfl) (q10 (pv 0) (q10 (q28 (q10 q13 q11)) q11))) q11)))
 (q12 (pst 5 sc.nd (pe_fn c_cut_out (hr.mono (Nat.le_refl _)) (by rfl) (q10 (pe_fn (q100 z) (hr.mono (Nat.le_trans (by decide:2<=q198) (Nat.le_add_left _ _))) (by rfl) (q10 (pv 0) (q10 (q28 (q10 q13 q11)) q11))) q11)))
 (q15 (q18 (q28 (q10 q42 (q10 (q45 q126 (pix q32 (pv 1) q13) (q51 (pv 2)) (q51 (pv 3))) (q10 (pv 4) (q10 (pv 5) q11)))))))))))))),?_⟩
 refine ⟨_,rfl,sa,_,_,_,rfl,rfl,hsq,rfl,?_⟩
 refine ⟨_,rfl,sa,_,_,_,rfl,rfl,hsq,rfl,?_⟩
 refine ⟨_,rfl,sa,_,_,_,rfl,rfl,hsq,rfl,?_⟩
 have hsl:=q460 (st:=st) h2
 refine ⟨_,rfl,_,rfl,rfl,_,rfl,?_⟩
 refine ite2 (fun c=>?_) (fun c=>?_)
 ·have c':(st:Int)=(en:Int):=V.int.inj (of_decide_eq_true c)
  have e0:segI ns st en=[]:=List.eq_nil_of_length_eq_zero (by omega)
  refine q .non H (Same.refl H) ?_
  rw [e0,q33]
  rfl
 ·have c':st ≠ en:=fun z=>c (decide_eq_true (by rw [z]))
  have hne:ns ≠ []:=fun z=>by rw [z,List.length_nil] at h2;omega
  have hsne:segI ns st en ≠ []:=fun z=>by rw [z,List.length_nil] at hsl;omega
  cases e with
  | zero=>
   have ht1:=ht
   rw [q30 hne] at ht1
   obtain ⟨a,rfl,ha⟩:=ht1
   refine ⟨_,rfl,a,_,_,_,rfl,rfl,SqT.of ha,rfl,rfl,_,rfl,?_⟩
   refine ite2 (fun c=>?_) (fun c=>absurd (decide_eq_true rfl) c)
   refine ⟨_,rfl,_,rfl,_,_,rfl,rfl,szb rfl,fun p hp=>q _ _ (q16 hp _) ?_⟩
   rw [q30 hsne]
   refine ⟨p,rfl,?_⟩
   rw [q14,hsl,show ((en - st:Nat):Int)=(en:Int) - (st:Int) by omega]
  | succ e=>
   have ht1:=ht
   rw [q34 hne] at ht1
   obtain ⟨a,m,xl,xr,hv,ha,hm,_,_⟩:=ht1
   have hseg:grow low (e+1) (segI ns st en) = .part (((ns.map (mkOf (low+2 ^ e))).take en).drop st) (grow (lowOf low e 0) e (segI (ns.filter (hlf (low+2 ^ e) 0)) ((ns.take st).countP (hlf (low+2 ^ e) 0)) ((ns.take en).countP (hlf (low+2 ^ e) 0)))) (grow (lowOf low e 1) e (segI (ns.filter (hlf (low+2 ^ e) 1)) ((ns.take st).countP (hlf (low+2 ^ e) 1)) ((ns.take en).countP (hlf (low+2 ^ e) 1)))):=by
    rw [q34 hsne,seg_map,<- q303 _ h1,<- q303 _ h1]
    rfl
   rw [hseg] at q
   refine ⟨_,rfl,a,_,_,_,(by rw [hv]),rfl,SqT.of ha,rfl,rfl,_,rfl,?_⟩
   refine ite2 (fun c=>absurd (of_decide_eq_true c) (by decide)) (fun c=>?_)
   refine ⟨_,rfl,szb rfl,fun w0 hw0=>?_⟩
   have s1:=q16 hw0 (.tup [.int 0])
   refine q672 (s1 _ _ hs) (SqT.of q14) (.inl rfl) (ht.same s1) hw h1 h2 hl (fun p2 u2 H2 s2 hp2 hu2=>?_) E0
   refine ⟨p2,u2,_,_,lowOf low e 0,_,rfl,hp2,hu2,Wths.half hw (.inl rfl),q171 _ h1,cnt_le _ _ _,Nat.le_trans (List.length_filter_le _ _) hl,fun u3 H3 s3 hu3=>?_⟩
   have s03:Same H H3:=s1.trans (s2.trans s3)
   refine ⟨_,rfl,szb rfl,fun w4 hw4=>?_⟩
   have s4:=q16 hw4 (.tup [.int 1])
   have s04:=s03.trans s4
   refine q672 (s04 _ _ hs) (SqT.of q14) (.inr rfl) (ht.same s04) hw h1 h2 hl (fun p5 u5 H5 s5 hp5 hu5=>?_) E0
   refine ⟨p5,u5,_,_,lowOf low e 1,_,rfl,hp5,hu5,Wths.half hw (.inr rfl),q171 _ h1,cnt_le _ _ _,Nat.le_trans (List.length_filter_le _ _) hl,fun u6 H6 s6 hu6=>?_⟩
   have s46:Same H3 H6:=s4.trans (s5.trans s6)
   have s06:=s03.trans s46
   refine ⟨_,rfl,a,_,_,_,(by rw [hv]),rfl,SqT.of (s06 _ _ ha),rfl,_,rfl,_,rfl,_,rfl,_,rfl,m,_,rfl,hm.same s06,fun p7 H7 s7 h7=>?_⟩
   rw [q673 _ _ _ h1 (by rw [List.length_map];exact h2)] at h7
   refine ⟨_,rfl,_,rfl,szb rfl,fun p hp=>q _ _ (s06.trans (s7.trans (q16 hp _))) ?_⟩
   have s8:=q16 hp (.tup [.str "part", .ref p7,u3,u6])
   have s37:Same H3 H7:=s46.trans s7
   exact ⟨p,p7,u3,u6,rfl,q14,h7.same s8,(hu3.same s37).same s8,(hu6.same s7).same s8⟩
theorem q676 (z:Bz K mg cA cB cC cD cG):Cal P w K mg base 41 "joined_joins" ["one", "other"] (q675 K):=by
 have sc:=q648
 refine z.d_joined.recur (k:=q674) (sp:=spe_joined K) q414 fun e hen c_joined f fd F=>F.k sc fun _ _ _ s H _ Q _ hr h=>?_
 obtain ⟨v,w,low,ns,ms,rfl,hv,hw,hl,hl2,q⟩:=h
 refine ⟨_,(q12 (ps_if (q23 q123 (pr 0) q58 (q19 _))
 (q15 (q18 (pr 1)))
 q21)
 (q12 (ps_if (q23 q123 (pr 1) q58 (q19 _))
 (q15 (q18 (pr 0)))
 q21)
 (q12 (ps_if (q23 op_eq (pix q29 (pr 0) q13) q42 (q19 _))
 (q15 (q18 (q28 (q10 q42 (q10 (pe_op q40 (pix q29 (pr 0) q13) (pix q29 (pr 1) q13)) q11)))))
 q21)
 (q15 (q18 (q28 (q10 q42 (q10 (pe_op q320 (pix q29 (pr 0) q13) (pix q29 (pr 1) q13)) (q10 (pe_fn c_joined (hr.mono (Nat.le_refl _)) (by rfl) (q10 (pix q29 (pr 0) q13) (q10 (pix q29 (pr 1) q13) q11))) (q10 (pe_fn c_joined (hr.mono (Nat.le_refl _)) (by rfl) (q10 (pix q29 (pr 0) q13) (q10 (pix q29 (pr 1) q13) q11))) q11)))))))))),?_⟩
 by_cases hn:ns=[]
 ·subst hn
  rw [q33] at hv
  have hv':v = .non:=hv
  subst hv'
  refine ⟨rfl,?_⟩
  refine ite2 (fun c=>?_) (fun c=>absurd (decide_eq_true rfl) c)
  exact q w H (Same.refl H) hw
 ·have hvn:v ≠ .non:=fun z=>by rw [z] at hv;exact hn (q223 hv)
  refine ⟨rfl,?_⟩
  refine ite2 (fun c=>absurd (of_decide_eq_true c) hvn) (fun _=>?_)
  by_cases hm:ms=[]
  ·subst hm
   rw [q33] at hw
   have hw':w = .non:=hw
   subst hw'
   refine ⟨rfl,?_⟩
   refine ite2 (fun c=>?_) (fun c=>absurd (decide_eq_true rfl) c)
   exact q v H (Same.refl H) (by rw [List.append_nil];exact hv)
  ·have hwn:w ≠ .non:=fun z=>by rw [z] at hw;exact hm (q223 hw)
   have hnm:ns++ms ≠ []:=fun z=>hn (List.append_eq_nil_iff.mp z).1
   refine ⟨rfl,?_⟩
   refine ite2 (fun c=>absurd (of_decide_eq_true c) hwn) (fun _=>?_)
   cases e with
   | zero=>
    rw [q30 hn] at hv
    rw [q30 hm] at hw
    obtain ⟨a,rfl,ha⟩:=hv
    obtain ⟨b,rfl,hb⟩:=hw
    refine ⟨_,_,SqT.of ha,rfl,rfl,?_⟩
    refine ite2 (fun c=>?_) (fun c=>absurd (decide_eq_true rfl) c)
    refine ⟨_,_,SqT.of ha,rfl,_,_,SqT.of hb,rfl,szb rfl,fun p hp=>q _ _ (q16 hp _) ?_⟩
    rw [q30 hnm]
    refine ⟨p,rfl,?_⟩
    rw [q14,List.length_append,Int.natCast_add]
   | succ e=>
    rw [q34 hn] at hv
    rw [q34 hm] at hw
    rw [q34 hnm,List.map_append,List.filter_append,List.filter_append] at q
    obtain ⟨a,m1,x1,y1,rfl,ha,hm1,hx1,hy1⟩:=hv
    obtain ⟨b,m2,x2,y2,rfl,hb,hm2,hx2,hy2⟩:=hw
    refine ⟨_,_,SqT.of ha,rfl,rfl,?_⟩
    refine ite2 (fun c=>absurd (of_decide_eq_true c) (by decide)) (fun c=>?_)
    refine ⟨_,_,SqT.of ha,rfl,_,_,SqT.of hb,rfl,m1,m2,_,_,rfl,rfl,hm1,hm2,sz (by simp only [List.length_map];omega),fun p3 H3 s3 h3=>?_⟩
    rw [<- List.map_append] at h3
    have ha3:=s3 _ _ ha
    have hb3:=s3 _ _ hb
    refine ⟨_,_,SqT.of ha3,rfl,_,_,SqT.of hb3,rfl,x1,x2,low,_,_,rfl,hx1.same s3,hx2.same s3,Nat.le_trans (List.length_filter_le _ _) hl,Nat.le_trans (List.length_filter_le _ _) hl2,fun u4 H4 s4 hu4=>?_⟩
    have s34:=s3.trans s4
    refine ⟨_,_,SqT.of (s34 _ _ ha),rfl,_,_,SqT.of (s34 _ _ hb),rfl,y1,y2,low+2 ^ e,_,_,rfl,hy1.same s34,hy2.same s34,Nat.le_trans (List.length_filter_le _ _) hl,Nat.le_trans (List.length_filter_le _ _) hl2,fun u5 H5 s5 hu5=>⟨szb rfl,fun p hp=>q _ _ (s34.trans (s5.trans (q16 hp _))) ?_⟩⟩
    have s6:=q16 hp (.tup [.str "part", .ref p3,u4,u5])
    exact ⟨p,p3,u4,u5,rfl,q14,((h3.same s4).same s5).same s6,(hu4.same s5).same s6,hu5.same s6⟩
abbrev q677:Nat:=0
abbrev q415:Nat:=40
inductive spe_turned (u0:Fg) (e:Nat) (vs:List V) (H:Hp) (Q:VK) (E:XK):Prop
 | mk (v:V) (low:Int) (ns:List Int) (_:vs=[v]) (_:q25 H v (grow low e ns)) (_:ns.length<=900) (_:∀ (u:V) (H':Hp),Same H H'->q25 H' u (grow low e ns.reverse)->Q u H'):spe_turned u0 e vs H Q E
def q678 (K:Fg):Sp:=fun vs H Q E=>∃ e,e<=q415/\spe_turned K e vs H Q E
abbrev q570:Nat:=0
abbrev q305:Nat:=40
inductive spe_flipped (u0:Fg) (e:Nat) (vs:List V) (H:Hp) (Q:VK) (E:XK):Prop
 | mk (v:V) (low:Int) (ns:List Int) (_:vs=[v]) (_:q25 H v (grow low e ns)) (_:ns.length<=900) (_:∀ (u:V) (H':Hp),Same H H'->q25 H' u (grow low e (ns.map (flp low e)))->Q u H'):spe_flipped u0 e vs H Q E
def q571 (K:Fg):Sp:=fun vs H Q E=>∃ e,e<=q305/\spe_flipped K e vs H Q E
theorem q679 (z:Bz K mg cA cB cC cD cG):Cal P w K mg base 41 "turned_joins" ["tree"] (q678 K):=by
 have sc:=q649
 refine z.d_turned.recur (k:=q677) (sp:=spe_turned K) q415 fun e hen c_turned f fd F=>F.k sc fun _ _ _ s H _ Q _ hr h=>?_
 obtain ⟨v,low,ns,rfl,hv,hl,q⟩:=h
 refine ⟨_,(q12 (ps_if (PW.pt (pw_or (q23 q123 (pr 0) q58 (q19 _)) (q88 (q23 op_eq (pix q29 (pr 0) q13) q42 (q19 _)))))
 (q15 (q18 (pr 0)))
 q21)
 (q15 (q18 (q28 (q10 q42 (q10 (q634 rfl (K:=K) rfl (by rfl) z.tuple_ (by rfl) z.reversed_ (q10 (pix q29 (pr 0) q13) q11)) (q10 (pe_fn c_turned (hr.mono (Nat.le_refl _)) (by rfl) (q10 (pix q29 (pr 0) q13) q11)) (q10 (pe_fn c_turned (hr.mono (Nat.le_refl _)) (by rfl) (q10 (pix q29 (pr 0) q13) q11)) q11)))))))),?_⟩
 refine ⟨rfl,?_⟩
 by_cases hn:ns=[]
 ·subst hn
  rw [q33] at hv
  have hv':v = .non:=hv
  subst hv'
  refine ite2 (fun c=>?_) (fun c=>absurd (decide_eq_true rfl) c)
  exact q _ H (Same.refl H) (by rw [List.reverse_nil,q33];exact hv)
 have hvn:v ≠ .non:=fun z=>by rw [z] at hv;exact hn (q223 hv)
 refine ite2 (fun c=>absurd (of_decide_eq_true c) hvn) (fun _=>?_)
 have hrn:ns.reverse ≠ []:=by simpa using hn
 cases e with
 | zero=>
  have hv0:=hv
  rw [q30 hn] at hv
  obtain ⟨a,rfl,ha⟩:=hv
  refine ⟨_,_,SqT.of ha,rfl,rfl,?_⟩
  refine ite2 (fun c=>?_) (fun c=>absurd (decide_eq_true rfl) c)
  refine q _ H (Same.refl H) ?_
  rw [q30 hrn,List.length_reverse,<- q30 hn (low:=low)]
  exact hv0
 | succ e=>
  rw [q34 hn] at hv
  rw [q34 hrn,List.map_reverse,List.filter_reverse,List.filter_reverse] at q
  obtain ⟨a,m,x,y,rfl,ha,hm,hx,hy⟩:=hv
  refine ⟨_,_,SqT.of ha,rfl,rfl,?_⟩
  refine ite2 (fun c=>absurd (of_decide_eq_true c) (by decide)) (fun c=>?_)
  refine ⟨_,_,SqT.of ha,rfl,m,_,rfl,hm.sq,by simp only [List.length_map];omega,fun p3 H3 s3 h3=>?_⟩
  rw [<- List.map_reverse] at h3
  refine ⟨_,_,SqT.of (s3 _ _ ha),rfl,x,low,_,rfl,hx.same s3,Nat.le_trans (List.length_filter_le _ _) hl,fun u4 H4 s4 hu4=>?_⟩
  have s34:=s3.trans s4
  refine ⟨_,_,SqT.of (s34 _ _ ha),rfl,y,low+2 ^ e,_,rfl,hy.same s34,Nat.le_trans (List.length_filter_le _ _) hl,fun u5 H5 s5 hu5=>⟨szb rfl,fun p hp=>q _ _ (s34.trans (s5.trans (q16 hp _))) ?_⟩⟩
  have s6:=q16 hp (.tup [.str "part", .ref p3,u4,u5])
  exact ⟨p,p3,u4,u5,rfl,q14,((h3.same s4).same s5).same s6,(hu4.same s5).same s6,hu5.same s6⟩
theorem q572 (z:Bz K mg cA cB cC cD cG):Cal P w K mg base 41 "flipped_joins" ["tree"] (q571 K):=by
 have sc:=q556
 refine z.d_flipped.recur (k:=q570) (sp:=spe_flipped K) q305 fun e hen c_flipped f fd F=>F.k sc fun _ _ _ s H _ Q _ hr h=>?_
 obtain ⟨v,low,ns,rfl,hv,hl,q⟩:=h
 refine ⟨_,(q12 (ps_if (PW.pt (pw_or (q23 q123 (pr 0) q58 (q19 _)) (q88 (q23 op_eq (pix q29 (pr 0) q13) q42 (q19 _)))))
 (q15 (q18 (pr 0)))
 q21)
 (q15 (q18 (q28 (q10 q42 (q10 (q68 q91 (by rfl) z.tuple_ q139 (q10 (q109 (cl:=[]) (cn:=[]) (N:=[]) (fr:=[]) (sc0:=q17 q250) rfl (q354 (pix q29 (pr 0) q13)) (fun C s₂ H₂ fp=>(pe_op q146 q13 (pr 0))) (by with_unfolding_all rfl) trivial rfl rfl rfl cok rfl) q11)) (q10 (pe_fn c_flipped (hr.mono (Nat.le_refl _)) (by rfl) (q10 (pix q29 (pr 0) q13) q11)) (q10 (pe_fn c_flipped (hr.mono (Nat.le_refl _)) (by rfl) (q10 (pix q29 (pr 0) q13) q11)) q11)))))))),?_⟩
 refine ⟨rfl,?_⟩
 by_cases hn:ns=[]
 ·subst hn
  rw [q33] at hv
  have hv':v = .non:=hv
  subst hv'
  refine ite2 (fun c=>?_) (fun c=>absurd (decide_eq_true rfl) c)
  exact q _ H (Same.refl H) (by rw [List.map_nil,q33];exact hv)
 have hvn:v ≠ .non:=fun z=>by rw [z] at hv;exact hn (q223 hv)
 refine ite2 (fun c=>absurd (of_decide_eq_true c) hvn) (fun _=>?_)
 have hrn:ns.map (flp low e) ≠ []:=by simpa using hn
 cases e with
 | zero=>
  have hv0:=hv
  rw [q30 hn] at hv
  obtain ⟨a,rfl,ha⟩:=hv
  refine ⟨_,_,SqT.of ha,rfl,rfl,?_⟩
  refine ite2 (fun c=>?_) (fun c=>absurd (decide_eq_true rfl) c)
  refine q _ H (Same.refl H) ?_
  rw [q30 hrn,List.length_map,<- q30 hn (low:=low)]
  exact hv0
 | succ e=>
  rw [q34 hn] at hv
  rw [q34 hrn,flp_mk,flp_lo,flp_hi] at q
  obtain ⟨a,m,x,y,rfl,ha,hm,hx,hy⟩:=hv
  refine ⟨_,_,SqT.of ha,rfl,rfl,?_⟩
  refine ite2 (fun c=>absurd (of_decide_eq_true c) (by decide)) (fun c=>?_)
  refine ⟨_,_,SqT.of ha,rfl,m,rfl,⟨_,hm.sq⟩,fun D hD=>?_⟩
  refine comp_tup (xs:=(ns.map (mkOf (low+2 ^ e))).map V.int) (sz (by simp only [List.length_map];omega)) (fun k ds H2=>H2 D=some (.lst ds)/\ds.length=k/\Same H H2/\ds=(((ns.map (mkOf (low+2 ^ e))).take k).map fun m=>1 - m).map V.int) ⟨q14,rfl,q16 hD _,rfl⟩ (fun k ds H2 ⟨_,_,s2,_⟩=>(hm.same s2).sq) (fun k ds H2 ⟨e1,e2,_,_⟩=>⟨e1,e2⟩) ?_ ?_
  ·rintro k x0 ds H2 hk ⟨e1,e2,s2,e4⟩
   obtain ⟨z,hz,rfl⟩:∃ z,(ns.map (mkOf (low+2 ^ e)))[k]? = some z/\x0 = .int z:=by
    rw [List.getElem?_map] at hk
    cases eq:(ns.map (mkOf (low+2 ^ e)))[k]? with
    | none=>rw [eq] at hk;cases hk
    | some z=>rw [eq] at hk;exact ⟨z,rfl,(Option.some.inj hk).symm⟩
   refine ⟨e1,q14,by rw [List.length_append,e2] <;> rfl,Same.own s2 hD,?_⟩
   rw [List.take_add_one,hz,e4]
   simp
  rintro ds H2 ⟨e1,e2,s2,e4⟩
  rw [List.length_map,List.take_length] at e4
  subst e4
  refine ⟨D,_,rfl,SqL.of e1,fun p3 H3 s3' h3=>?_⟩
  have s3:=s2.trans s3'
  refine ⟨_,_,SqT.of (s3 _ _ ha),rfl,y,low+2 ^ e,_,rfl,hy.same s3,Nat.le_trans (List.length_filter_le _ _) hl,fun u4 H4 s4 hu4=>?_⟩
  have s34:=s3.trans s4
  refine ⟨_,_,SqT.of (s34 _ _ ha),rfl,x,low,_,rfl,hx.same s34,Nat.le_trans (List.length_filter_le _ _) hl,fun u5 H5 s5 hu5=>⟨szb rfl,fun p hp=>q _ _ (s34.trans (s5.trans (q16 hp _))) ?_⟩⟩
  have s6:=q16 hp (.tup [.str "part", .ref p3,u4,u5])
  exact ⟨p,p3,u4,u5,rfl,q14,((h3.same s4).same s5).same s6,(hu4.same s5).same s6,hu5.same s6⟩
inductive sp_with_half (u0:Fg) (vs:List V) (H:Hp) (Q:VK) (E:XK):Prop
 | mk (m:Addr) (ms:List Int) (v:V) (t:Tr) (mk:Int) (u:V) (t':Tr) (_:vs=[.ref m,v,.int mk,u]) (_:TupF H m (ms.map V.int)) (_:q25 H v t) (_:(mk=0\/mk=1)) (_:q25 H u t') (_:∀ (p:Addr) (H':Hp),Same H H'->q25 H' (.ref p) (.part ms (if mk=0 then t' else q133 t 0) (if mk=0 then q133 t 1 else t'))->Q (.ref p) H'):sp_with_half u0 vs H Q E
abbrev q94:Nat:=2
abbrev q267:Nat:=40
inductive spe_with_way (u0:Fg) (e:Nat) (vs:List V) (H:Hp) (Q:VK) (E:XK):Prop
 | mk (v:V) (wy:Addr) (pl:Nat) (low num:Int) (ns:List Int) (_:vs=[v,.ref wy,.int (pl:Int)]) (_:q25 H v (grow low e ns)) (_:TupF H wy ((wayW e (num - low)).map V.int)) (_:low<=num) (_:num < low+2 ^ e) (_:ns.length<=900) (_:∀ (u:V) (H':Hp),Same H H'->q25 H' u (grow low e (insAt ns pl num))->Q u H'):spe_with_way u0 e vs H Q E
def q461 (K:Fg):Sp:=fun vs H Q E=>∃ e,e<=q267/\spe_with_way K e vs H Q E
inductive sp_put_in (K:Fg) (vs:List V) (H:Hp) (Q:VK) (E:XK):Prop
 | mk (b:Addr) (v:V) (pl:Nat) (low num:Int) (L:Nat) (ns:List Int) (_:vs=[.ref b,v,.int (pl:Int),.int num]) (_:SqT K H b [.int low,.int (L:Int)]) (_:L<=40) (_:q25 H v (grow low L ns)) (_:pl<=ns.length) (_:ns.length<=900) (_:low<=num) (_:num < low+2 ^ L) (_:∀ (u:V) (H':Hp),Same H H'->q25 H' u (grow low L (insAt ns pl num))->Q u H'):sp_put_in K vs H Q E
theorem q207 (z:Bz K mg cA cB cC cD cG):Cal P w K mg base 2 "with_half" ["marks", "tree", "turn", "half"] (sp_with_half K):=by
 have sc:=q384
 refine z.d_with_half.cal fun f fd F=>F.k sc fun _ _ _ s H _ Q _ hr h=>?_
 obtain ⟨m,ms,v,t,mk,u,t',rfl,hm,ht,hmk,hu,q⟩:=h
 refine ⟨_,(q12 (ps_if (q23 op_eq (pr 2) q13 (q19 _))
 (q15 (q18 (q28 (q10 q42 (q10 (pr 0) (q10 (pr 3) (q10 (pe_fn (q76 z) hr.m (by rfl) (q10 (pr 1) (q10 q13 q11))) q11)))))))
 q21)
 (q15 (q18 (q28 (q10 q42 (q10 (pr 0) (q10 (pe_fn (q76 z) hr.m (by rfl) (q10 (pr 1) (q10 q13 q11))) (q10 (pr 3) q11)))))))),?_⟩
 refine ⟨rfl,?_⟩
 rcases hmk with rfl | rfl
 ·refine ite2 (fun c=>?_) (fun c=>absurd (decide_eq_true rfl) c)
  refine ⟨v,t,1,rfl,ht,.inr rfl,fun x hx=>⟨szb rfl,fun p hp=>q p _ (q16 hp _) ?_⟩⟩
  have s1:=q16 hp (.tup [.str "part", .ref m,u,x])
  exact ⟨p,m,u,x,rfl,q14,hm.same s1,hu.same s1,hx.same s1⟩
 ·refine ite2 (fun c=>absurd (of_decide_eq_true c) (by decide)) (fun c=>?_)
  refine ⟨v,t,0,rfl,ht,.inl rfl,fun x hx=>⟨szb rfl,fun p hp=>q p _ (q16 hp _) ?_⟩⟩
  have s1:=q16 hp (.tup [.str "part", .ref m,x,u])
  exact ⟨p,m,x,u,rfl,q14,hm.same s1,hx.same s1,hu.same s1⟩
theorem q462 (z:Bz K mg cA cB cC cD cG):Cal P w K mg base 43 "with_way" pn10 (q461 K):=by
 have sc:=q445
 refine z.d_with_way.recur (k:=q94) (sp:=spe_with_way K) q267 fun e hen c_with_way f fd F=>F.k sc fun _ _ _ s H _ Q _ hr h=>?_
 obtain ⟨v,wy,pl,low,num,ns,rfl,ht,hw,n0,n1,hl,q⟩:=h
 refine ⟨_,(q12 (ps_if (q26 op_eq (pln z.len_ (q10 (pv 1) q11)) q13 (q19 _))
 (q15 (q18 (q28 (q10 q42 (q10 (pe_op q73 (pe_fn (q75 z) (hr.mono (Nat.le_trans (by decide:1<=q94) (Nat.le_add_left _ _))) (by rfl) (q10 (pv 0) q11)) q13) q11)))))
 q21)
 (q12 (pst 3 sc.nd (pix q32 (pv 1) q13))
 (q12 (pst 4 sc.nd (q309 (q26 q123 (pv 0) q58 (q19 _)) (q617 q11) (pix q32 (pv 0) q13)))
 (q12 (pst 5 sc.nd (pe_fn c_with_way (hr.mono (Nat.le_refl _)) (by rfl) (q10 (pe_fn (q76 z) (hr.mono (Nat.le_trans (by decide:1<=q94) (Nat.le_add_left _ _))) (by rfl) (q10 (pv 0) (q10 (pv 3) q11))) (q10 (q45 q126 (pv 1) (q51 q13) q60) (q10 (pe_fn (q169 z) (hr.mono (Nat.le_trans (by decide:1<=q94) (Nat.le_add_left _ _))) (by rfl) (q10 (pv 4) (q10 (pv 3) (q10 (pv 2) q11)))) q11)))))
 (q15 (q18 (pe_fn (q207 z) (hr.mono (Nat.le_trans (by decide:2<=q94) (Nat.le_add_left _ _))) (by rfl) (q10 (pe_op q320 (pe_op q320 (q45 q126 (pv 4) q60 (q51 (pv 2))) (q617 (q10 (pv 3) q11))) (q45 q126 (pv 4) (q51 (pv 2)) q60)) (q10 (pv 0) (q10 (pv 3) (q10 (pv 5) q11))))))))))),?_⟩
 refine ⟨_,rfl,wy,_,rfl,.inr hw.sq,rfl,_,rfl,?_⟩
 cases e with
 | zero=>
  refine ite2 (fun c=>?_) (fun c=>absurd (decide_eq_true rfl) c)
  refine ⟨_,rfl,v,_,rfl,ht,_,_,rfl,rfl,szb rfl,fun p hp=>q _ _ (q16 hp _) ?_⟩
  rw [q30 (ins_ne ns pl num),q459]
  refine ⟨p,rfl,?_⟩
  rw [q14,q104]
  rfl
 | succ e=>
  obtain ⟨hwy,l0,l1⟩:=way_half n0 n1
  rw [hwy] at hw
  rw [grow_ins low e ns pl num _ rfl] at q
  have hmk:=mk01 (low+2 ^ e) num
  refine ite2 (fun c=>?_) (fun _=>?_)
  ·exfalso
   have:=V.int.inj (of_decide_eq_true c)
   rw [List.length_map,q97] at this
   omega
  generalize mkOf (low+2 ^ e) num=mk at *
  have h0at:atI ((mk::wayW e (num - lowOf low e mk)).map V.int) 0=some (.int mk):=by
   show atI _ ((0:Nat):Int)=_
   exact q39 rfl
  refine ⟨_,rfl,wy,_,_,_,rfl,rfl,hw.sq,h0at,?_⟩
  by_cases hns:ns=[]
  ·have hv:v = .non:=by
    rw [hns,q33] at ht
    exact ht
   subst hv
   refine ⟨_,rfl,rfl,_,rfl,?_⟩
   refine ite2 (fun c=>?_) (fun c=>absurd (decide_eq_true rfl) c)
   refine ⟨szb rfl,fun m H1 s1 hm0=>?_⟩
   have hm:TupF H1 m ((ns.map (mkOf (low+2 ^ e))).map V.int):=by rw [hns];exact hm0
   generalize V.non=v at *
   have ht1:=ht.same s1
   refine ⟨_,rfl,_,rfl,v,_,mk,rfl,ht1,hmk,fun h hh=>?_⟩
   rw [q266 hmk] at hh
   refine ⟨_,rfl,1,rfl,wy,_,rfl,hw.same s1,fun w2 H2 s2 hw2=>?_⟩
   rw [q337] at hw2
   have hm2:=hm.same s2
   refine ⟨_,rfl,_,rfl,_,rfl,m,ns.map (mkOf (low+2 ^ e)),mk,pl,rfl,hm2,fun H3 s3=>?_⟩
   refine ⟨h,w2,(ns.take pl).countP (hlf (low+2 ^ e) mk),lowOf low e mk,num,ns.filter (hlf (low+2 ^ e) mk),by rw [q221 hmk] <;> rfl,(hh.same s2).same s3,hw2.same s3,l0,l1,Nat.le_trans (List.length_filter_le _ _) hl,fun u H4 s4 hu=>?_⟩
   have hm4:=(hm2.same s3).same s4
   refine ⟨_,rfl,_,rfl,_,rfl,m,_,rfl,hm4,fun p5 H5 s5 h5=>?_⟩
   rw [q112] at h5
   refine ⟨_,rfl,szb rfl,fun p6 H6 s6 h6=>?_⟩
   refine ⟨p5,p6,_,_,rfl,rfl,h5.same s6,h6,sz (by simp only [List.length_map,List.length_take,List.length_cons,List.length_nil];omega),fun p7 H7 s7 h7=>?_⟩
   have hm7:=((hm4.same s5).same s6).same s7
   refine ⟨_,rfl,_,rfl,_,rfl,m,_,rfl,hm7,fun p8 H8 s8 h8=>?_⟩
   rw [q144] at h8
   refine ⟨p7,p8,_,_,rfl,rfl,h7.same s8,h8,sz (by simp only [List.length_append,List.length_map,List.length_take,List.length_drop,List.length_cons,List.length_nil];omega),fun p9 H9 s9 h9=>?_⟩
   have s49:Same H4 H9:=s5.trans (s6.trans (s7.trans (s8.trans s9)))
   have s09:Same H H9:=s1.trans (s2.trans (s3.trans (s4.trans s49)))
   have h9':TupF H9 p9 (((ns.map (mkOf (low+2 ^ e))).take pl++mk::(ns.map (mkOf (low+2 ^ e))).drop pl).map V.int):=by simpa using h9
   exact ⟨_,rfl,_,rfl,_,rfl,p9,_,v,_,mk,u,_,rfl,h9',ht.same s09,hmk,hu.same s49,fun p H10 s10 h10=>q _ _ (s09.trans s10) h10⟩
  ·have ht1:=ht
   rw [q34 hns] at ht1
   obtain ⟨a,m,x,y,hv,ha,hm,_,_⟩:=ht1
   subst hv
   refine ⟨_,rfl,rfl,_,rfl,?_⟩
   refine ite2 (fun c=>absurd (of_decide_eq_true c) (by intro z;cases z)) (fun c=>?_)
   refine ⟨_,rfl,a,_,_,_,rfl,rfl,SqT.of ha,rfl,?_⟩
   have s1:=Same.refl H
   clear ha
   generalize V.ref a=v at *
   have ht1:=ht.same s1
   refine ⟨_,rfl,_,rfl,v,_,mk,rfl,ht1,hmk,fun h hh=>?_⟩
   rw [q266 hmk] at hh
   refine ⟨_,rfl,1,rfl,wy,_,rfl,hw.same s1,fun w2 H2 s2 hw2=>?_⟩
   rw [q337] at hw2
   have hm2:=hm.same s2
   refine ⟨_,rfl,_,rfl,_,rfl,m,ns.map (mkOf (low+2 ^ e)),mk,pl,rfl,hm2,fun H3 s3=>?_⟩
   refine ⟨h,w2,(ns.take pl).countP (hlf (low+2 ^ e) mk),lowOf low e mk,num,ns.filter (hlf (low+2 ^ e) mk),by rw [q221 hmk] <;> rfl,(hh.same s2).same s3,hw2.same s3,l0,l1,Nat.le_trans (List.length_filter_le _ _) hl,fun u H4 s4 hu=>?_⟩
   have hm4:=(hm2.same s3).same s4
   refine ⟨_,rfl,_,rfl,_,rfl,m,_,rfl,hm4,fun p5 H5 s5 h5=>?_⟩
   rw [q112] at h5
   refine ⟨_,rfl,szb rfl,fun p6 H6 s6 h6=>?_⟩
   refine ⟨p5,p6,_,_,rfl,rfl,h5.same s6,h6,sz (by simp only [List.length_map,List.length_take,List.length_cons,List.length_nil];omega),fun p7 H7 s7 h7=>?_⟩
   have hm7:=((hm4.same s5).same s6).same s7
   refine ⟨_,rfl,_,rfl,_,rfl,m,_,rfl,hm7,fun p8 H8 s8 h8=>?_⟩
   rw [q144] at h8
   refine ⟨p7,p8,_,_,rfl,rfl,h7.same s8,h8,sz (by simp only [List.length_append,List.length_map,List.length_take,List.length_drop,List.length_cons,List.length_nil];omega),fun p9 H9 s9 h9=>?_⟩
   have s49:Same H4 H9:=s5.trans (s6.trans (s7.trans (s8.trans s9)))
   have s09:Same H H9:=s1.trans (s2.trans (s3.trans (s4.trans s49)))
   have h9':TupF H9 p9 (((ns.map (mkOf (low+2 ^ e))).take pl++mk::(ns.map (mkOf (low+2 ^ e))).drop pl).map V.int):=by simpa using h9
   exact ⟨_,rfl,_,rfl,_,rfl,p9,_,v,_,mk,u,_,rfl,h9',ht.same s09,hmk,hu.same s49,fun p H10 s10 h10=>q _ _ (s09.trans s10) h10⟩
theorem q416 (z:Bz K mg cA cB cC cD cG):Cal P w K mg base 44 "put_in_changes" pn19 (sp_put_in K):=by
 have sc:=q644
 refine z.d_put_in.cal fun f fd F=>F.k sc fun _ _ _ s H _ Q _ hr h=>?_
 obtain ⟨b,v,pl,low,num,L,ns,rfl,hb,hL,ht,hpl,hl,n0,n1,q⟩:=h
 refine ⟨_,(q12 (ps_if (PW.pt (pw_or (q26 op_lt (pv 2) q13 (q19 _)) (q88 (q26 op_gt (pv 2) (pe_fn (q75 z) hr.m (by rfl) (q10 (pv 1) q11)) (q19 _)))))
 (q15 q63)
 q21)
 (q15 (q18 (pe_fn (q462 z) hr.m (by rfl) (q10 (pv 1) (q10 (pe_fn (q262 z) hr.m (by rfl) (q10 (pv 0) (q10 (pv 3) q11))) (q10 (pv 2) q11))))))),?_⟩
 refine ⟨_,rfl,_,_,rfl,rfl,_,rfl,?_⟩
 refine ite2 (fun c=>absurd (of_decide_eq_true c) (by omega)) (fun _=>?_)
 refine ⟨_,rfl,_,rfl,v,_,rfl,ht,_,_,rfl,rfl,_,rfl,?_⟩
 rw [q104]
 refine ite2 (fun c=>absurd (of_decide_eq_true c) (by omega)) (fun _=>?_)
 exact ⟨_,rfl,_,rfl,_,rfl,b,low,num,L,rfl,hb,hL,⟨n0,by omega⟩,fun t H1 s1 ht1=>⟨_,rfl,L,hL,v,t,pl,low,num,ns,rfl,ht.same s1,ht1,n0,n1,hl,fun u H2 s2 hu=>q u H2 (s1.trans s2) hu⟩⟩
abbrev q106:Nat:=2
abbrev q306:Nat:=40
inductive spe_without (u0:Fg) (e:Nat) (vs:List V) (H:Hp) (Q:VK) (E:XK):Prop
 | mk (v:V) (pl:Nat) (low x:Int) (ns:List Int) (_:vs=[v,.int (pl:Int)]) (_:q25 H v (grow low e ns)) (_:ns[pl]? = some x) (_:ns.length<=900) (_:∀ (u:V) (H':Hp),Same H H'->q25 H' u (grow low e (delAt ns pl))->Q u H'):spe_without u0 e vs H Q E
def q573 (K:Fg):Sp:=fun vs H Q E=>∃ e,e<=q306/\spe_without K e vs H Q E
inductive sp_taken_out (K:Fg) (vs:List V) (H:Hp) (Q:VK) (E:XK):Prop
 | mk (b:Addr) (v:V) (pl:Nat) (low x:Int) (L:Nat) (ns:List Int) (_:vs=[.ref b,v,.int (pl:Int)]) (_:SqT K H b [.int low,.int (L:Int)]) (_:L<=40) (_:q25 H v (grow low L ns)) (_:Wths low L ns) (_:ns[pl]? = some x) (_:ns.length<=900) (_:∀ (p:Addr) (u:V) (H':Hp),Same H H'->H' p=some (.tup [u,.int x])->q25 H' u (grow low L (delAt ns pl))->Q (.ref p) H'):sp_taken_out K vs H Q E
theorem q574 (z:Bz K mg cA cB cC cD cG):Cal P w K mg base 43 "without" ["tree", "place"] (q573 K):=by
 have sc:=q553
 refine z.d_without.recur (k:=q106) (sp:=spe_without K) q306 fun e hen c_without f fd F=>F.k sc fun _ _ _ s H _ Q _ hr h=>?_
 obtain ⟨v,pl,low,x,ns,rfl,ht,hx,hl,q⟩:=h
 refine ⟨_,(q12 (ps_if (q26 op_eq (pe_fn (q75 z) (hr.mono (Nat.le_trans (by decide:1<=q106) (Nat.le_add_left _ _))) (by rfl) (q10 (pv 0) q11)) q13 (q19 _))
 (q15 (q18 q58))
 q21)
 (q12 (ps_if (q26 op_eq (pix q32 (pv 0) q13) q42 (q19 _))
 (q15 (q18 (q28 (q10 q42 (q10 (pe_op q81 (pix q32 (pv 0) q13) q13) q11)))))
 q21)
 (q12 (pst 2 sc.nd (pix q32 (pv 0) q13))
 (q12 (pst 3 sc.nd (pix q32 (pv 2) (pv 1)))
 (q12 (pst 4 sc.nd (pe_fn c_without (hr.mono (Nat.le_refl _)) (by rfl) (q10 (pe_fn (q76 z) (hr.mono (Nat.le_trans (by decide:1<=q106) (Nat.le_add_left _ _))) (by rfl) (q10 (pv 0) (q10 (pv 3) q11))) (q10 (pe_fn (q169 z) (hr.mono (Nat.le_trans (by decide:1<=q106) (Nat.le_add_left _ _))) (by rfl) (q10 (pv 2) (q10 (pv 3) (q10 (pv 1) q11)))) q11))))
 (q15 (q18 (pe_fn (q207 z) (hr.mono (Nat.le_trans (by decide:2<=q106) (Nat.le_add_left _ _))) (by rfl) (q10 (pe_op q320 (q45 q126 (pv 2) q60 (q51 (pv 1))) (q45 q126 (pv 2) (q51 (pe_op q73 (pv 1) q13)) q60)) (q10 (pv 0) (q10 (pv 3) (q10 (pv 4) q11)))))))))))),?_⟩
 have hpl:pl < ns.length:=(List.getElem?_eq_some_iff.mp hx).1
 have hdl:=q340 hpl
 have hne:ns ≠ []:=fun z=>by rw [z] at hpl;exact absurd hpl (Nat.not_lt_zero _)
 refine ⟨_,rfl,v,_,rfl,ht,rfl,_,rfl,?_⟩
 rw [q104]
 refine ite2 (fun c=>?_) (fun c=>?_)
 ·have c':((ns.length:Nat):Int)=1:=V.int.inj (of_decide_eq_true c)
  have e0:delAt ns pl=[]:=List.eq_nil_of_length_eq_zero (by omega)
  refine q .non H (Same.refl H) ?_
  rw [e0,q33]
  rfl
 ·have c':ns.length ≠ 1:=fun z=>c (decide_eq_true (by rw [z];rfl))
  have hdne:delAt ns pl ≠ []:=fun z=>by rw [z,List.length_nil] at hdl;omega
  cases e with
  | zero=>
   have ht1:=ht
   rw [q30 hne] at ht1
   obtain ⟨a,rfl,ha⟩:=ht1
   refine ⟨_,rfl,a,_,_,_,rfl,rfl,SqT.of ha,rfl,rfl,_,rfl,?_⟩
   refine ite2 (fun c=>?_) (fun c=>absurd (decide_eq_true rfl) c)
   refine ⟨_,rfl,a,_,_,_,rfl,rfl,SqT.of ha,rfl,_,_,rfl,rfl,szb rfl,fun p hp=>q _ _ (q16 hp _) ?_⟩
   rw [q30 hdne]
   refine ⟨p,rfl,?_⟩
   rw [q14,show ((delAt ns pl).length:Int)=(ns.length:Int) - 1 by omega]
  | succ e=>
   have ht1:=ht
   rw [q34 hne] at ht1
   obtain ⟨a,m,xl,xr,rfl,ha,hm,_,_⟩:=ht1
   have gk:((ns.map (mkOf (low+2 ^ e))).map V.int)[pl]? = some (.int (mkOf (low+2 ^ e) x)):=by rw [List.getElem?_map,List.getElem?_map,hx];rfl
   have hmk:=mk01 (low+2 ^ e) x
   have hself:=hlf_self (low+2 ^ e) x
   rw [grow_del hx hdne rfl] at q
   generalize mkOf (low+2 ^ e) x=mk at *
   refine ⟨_,rfl,a,_,_,_,rfl,rfl,SqT.of ha,rfl,rfl,_,rfl,?_⟩
   refine ite2 (fun c=>absurd (of_decide_eq_true c) (by decide)) (fun c=>?_)
   refine ⟨_,rfl,a,_,_,_,rfl,rfl,SqT.of ha,rfl,?_⟩
   refine ⟨_,rfl,_,rfl,m,_,_,_,rfl,rfl,hm.sq,q39 gk,?_⟩
   refine ⟨_,rfl,_,rfl,_,_,mk,rfl,ht,hmk,fun h hh=>?_⟩
   rw [q266 hmk] at hh
   refine ⟨_,rfl,_,rfl,_,rfl,m,ns.map (mkOf (low+2 ^ e)),mk,pl,rfl,hm,fun H1 s1=>?_⟩
   refine ⟨h,(ns.take pl).countP (hlf (low+2 ^ e) mk),lowOf low e mk,x,ns.filter (hlf (low+2 ^ e) mk),by rw [q221 hmk] <;> rfl,hh.same s1,filt_get hx hself,Nat.le_trans (List.length_filter_le _ _) hl,fun u H2 s2 hu=>?_⟩
   have hm2:=(hm.same s1).same s2
   refine ⟨_,rfl,_,rfl,_,rfl,m,_,rfl,hm2,fun p3 H3 s3 h3=>?_⟩
   rw [q112] at h3
   refine ⟨_,rfl,_,rfl,_,_,rfl,rfl,_,rfl,m,_,rfl,hm2.same s3,fun p4 H4 s4 h4=>?_⟩
   have h4':TupF H4 p4 (((ns.map (mkOf (low+2 ^ e))).drop (pl+1)).map V.int):=by rw [<- q144];exact h4
   refine ⟨p3,p4,_,_,rfl,rfl,h3.same s4,h4',sz (by simp only [List.length_map,List.length_take,List.length_drop];omega),fun p5 H5 s5 h5=>?_⟩
   have s25:Same H2 H5:=s3.trans (s4.trans s5)
   have s05:Same H H5:=s1.trans (s2.trans s25)
   rw [<- List.map_append] at h5
   exact ⟨_,rfl,_,rfl,_,rfl,p5,_,_,_,mk,u,_,rfl,h5,ht.same s05,hmk,hu.same s25,fun p H6 s6 h6=>q _ _ (s05.trans s6) h6⟩
theorem q208 (z:Bz K mg cA cB cC cD cG):Cal P w K mg base 44 "taken_out_changes" pn15 (sp_taken_out K):=by
 have sc:=q385
 refine z.d_taken_out.cal fun f fd F=>F.k sc fun _ _ _ s H _ Q _ hr h=>?_
 obtain ⟨b,v,pl,low,x,L,ns,rfl,hb,hL,ht,hw,hx,hl,q⟩:=h
 refine ⟨_,(q12 (pst 3 sc.nd (pe_fn (q206 z) hr.m (by rfl) (q10 (pr 0) (q10 (pr 1) (q10 (pr 2) q11)))))
 (q15 (q18 (q28 (q10 (pe_fn (q574 z) hr.m (by rfl) (q10 (pr 1) (q10 (pr 2) q11))) (q10 (pr 3) q11)))))),?_⟩
 refine ⟨b,v,pl,x - low,low,L,ns.map fun n=>n - low,rfl,hb,hL,by rw [<- q222];exact ht,q671 hw,by rw [List.getElem?_map,hx];rfl,fun H1 s1=>?_⟩
 rw [show low+(x - low)=x by omega]
 refine ⟨L,hL,v,pl,low,x,ns,rfl,ht.same s1,hx,hl,fun u H2 s2 hu=>⟨szb rfl,fun p hp=>?_⟩⟩
 exact q p u _ (s1.trans (s2.trans (q16 hp _))) q14 (hu.same (q16 hp _))
inductive sp_set_at (K:Fg) (vs:List V) (H:Hp) (Q:VK) (E:XK):Prop
 | mk (b:Addr) (v:V) (pl:Nat) (low x num:Int) (L:Nat) (ns:List Int) (_:vs=[.ref b,v,.int (pl:Int),.int num]) (_:SqT K H b [.int low,.int (L:Int)]) (_:L<=40) (_:q25 H v (grow low L ns)) (_:Wths low L ns) (_:ns[pl]? = some x) (_:ns.length<=900) (_:low<=num) (_:num < low+2 ^ L) (_:∀ (u:V) (H':Hp),Same H H'->q25 H' u (grow low L (ns.take pl++num::ns.drop (pl+1)))->Q u H'):sp_set_at K vs H Q E
theorem q680 (z:Bz K mg cA cB cC cD cG):Cal P w K mg base 45 "set_at_changes" pn19 (sp_set_at K):=by
 have sc:=q645
 refine z.d_set_at.cal fun f fd F=>F.k sc fun _ _ _ s H _ Q _ hr h=>?_
 obtain ⟨b,v,pl,low,x,num,L,ns,rfl,hb,hL,ht,hw,hx,hl,n0,n1,q⟩:=h
 refine ⟨_,(q15 (q18 (pe_fn (q416 z) hr.m (by rfl) (q10 (pr 0) (q10 (pix q29 (pe_fn (q208 z) hr.m (by rfl) (q10 (pr 0) (q10 (pr 1) (q10 (pr 2) q11)))) q13) (q10 (pr 2) (q10 (pr 3) q11))))))),?_⟩
 have hpl:pl < ns.length:=(List.getElem?_eq_some_iff.mp hx).1
 have hdl:=q340 hpl
 rw [<- ins_del hpl] at q
 refine ⟨b,v,pl,low,x,L,ns,rfl,hb,hL,ht,hw,hx,hl,fun p u H1 s1 hp hu=>?_⟩
 exact ⟨_,_,SqT.of hp,rfl,b,u,pl,low,num,L,delAt ns pl,rfl,s1.seqT hb,hL,hu,by omega,by omega,n0,n1,fun u2 H2 s2 hu2=>q u2 H2 (s1.trans s2) hu2⟩
def LeafV (v:V):Prop:=v = .non\/(∃ n,v = .int n) \/ ∃ y,v = .str y
def PlnAt (K:Fg) (H:Hp):Nat->V->Prop
 | 0,v=>LeafV v
 | e+1,v=>LeafV v \/ ∃ a xs,v = .ref a/\SqT K H a xs/\xs.length<=1000 /\ ∀ x ∈ xs,PlnAt K H e x
theorem q180 {K:Fg} {H:Hp} {v:V} (h:LeafV v):∀ e,PlnAt K H e v
 | 0=>h
 | _+1=>.inl h
theorem PlnAt.same {K:Fg} {H H':Hp} (s:Same H H'):∀ {e:Nat} {v:V},PlnAt K H e v->PlnAt K H' e v
 | 0,_,h=>h
 | _+1,_,.inl h=>.inl h
 | _+1,_,.inr ⟨a,xs,e1,h1,h2,h3⟩=>.inr ⟨a,xs,e1,s.seqT h1,h2,fun x hx=>(h3 x hx).same s⟩
theorem pln_ints {ms:List Int} (hm:SqT K H m (ms.map V.int)) (hl:ms.length<=1000) (e:Nat):PlnAt K H (e+1) (.ref m):=
 .inr ⟨m,_,rfl,hm,by rw [List.length_map];exact hl,fun x hx=>by
  obtain ⟨n,_,rfl⟩:=List.mem_map.mp hx
  exact q180 (.inr (.inl ⟨n,rfl⟩)) e⟩
theorem q342:∀ (t:Tr) (v:V) (e:Nat),q25 H v t->t.deep+2<=e->Tr.fit 1000 t->PlnAt K H e v
 | .non,v,e,h,_,_=>q180 (.inl h) e
 | .many n,v,0,h,hd,_=>absurd hd (by omega)
 | .many n,v,e+1,⟨a,e1,h⟩,hd,_=>.inr ⟨a,_,e1,SqT.of h,(by decide:2<=1000),fun x hx=>by
  simp only [List.mem_cons,List.not_mem_nil,or_false] at hx
  rcases hx with rfl | rfl
  ·exact q180 (.inr (.inr ⟨_,rfl⟩)) e
  ·exact q180 (.inr (.inl ⟨_,rfl⟩)) e⟩
 | .part ms l r,v,0,h,hd,_=>absurd hd (by omega)
 | .part ms l r,v,1,h,hd,_=>absurd hd (by omega)
 | .part ms l r,v,e+2,⟨a,m,x,y,e1,h,hm,hl,hr⟩,hd,hf=>.inr ⟨a,_,e1,SqT.of h,(by decide:4<=1000),fun z hz=>by
  have hd':max l.deep r.deep+1+2<=e+2:=hd
  simp only [List.mem_cons,List.not_mem_nil,or_false] at hz
  rcases hz with rfl | rfl | rfl | rfl
  ·exact q180 (.inr (.inr ⟨_,rfl⟩)) _
  ·exact pln_ints hm.sq hf.1 e
  ·exact q342 l _ _ hl (by omega) hf.2.1
  ·exact q342 r _ _ hr (by omega) hf.2.2⟩
abbrev q343:Nat:=0
abbrev q181:Nat:=43
inductive spe__law_plain (K:Fg) (e:Nat) (vs:List V) (H:Hp) (Q:VK) (E:XK):Prop
 | mk (v:V) (_:vs=[v]) (_:PlnAt K H e v) (_:∀ H',Same H H'->Q (.bl true) H'):spe__law_plain K e vs H Q E
def q344 (K:Fg):Sp:=fun vs H Q E=>∃ e,e<=q181/\spe__law_plain K e vs H Q E
inductive sp__law_is (K:Fg) (vs:List V) (H:Hp) (Q:VK) (E:XK):Prop
 | mk (v:V) (b r:Addr) (low:Int) (L:Nat) (ns:List Int) (_:vs=[v,.ref b,.ref r]) (_:SqT K H b [.int low,.int (L:Int)]) (_:L<=40) (_:SqL K H r (ns.map V.int)) (_:ns.length<=1000) (_:q25 H v (grow low L ns)) (_:∀ H',Same H H'->Q (.bl true) H'):sp__law_is K vs H Q E
theorem q345 (z:Bz K mg cA cB cC cD cG):Cal P w K mg base 44 "_law_plain" ["_law_thing"] (q344 K):=by
 have sc:=q326
 refine z.d__law_plain.recur (k:=q343) (sp:=spe__law_plain K) q181 fun e hen c__law_plain f fd F=>F.k sc fun _ _ _ s H _ Q _ hr h=>?_
 obtain ⟨v,rfl,hv,q⟩:=h
 refine ⟨_,(q12 (ps_if (q353 (q67 (q487 (K:=K) rfl) (by rfl) z.isinstance_ q108 (q10 (pv 0) (q10 (q308 (v:=.ty "tuple") (u:=.type "tuple") (by rfl) z.tuple_ q139 rfl) q11))))
 (q15 (q18 (q184 op_eq (pln z.len_ (q10 (q71 (cl:=[]) (cn:=[]) (N:=[]) (fr:=[]) (sc0:=q17 q131) rfl (q354 (pv 0)) (fun C s₂ H₂ fp=>(pv 0)) (fun C s₂ H₂ fp=>(q472 (q353 (pe_fn c__law_plain (hr.mono (Nat.le_refl _)) (by rfl) (q10 (pv 0) q11))))) (by with_unfolding_all rfl) trivial rfl rfl rfl cok rfl) q11)) q13 (q19 _))))
 q21)
 (q15 (q18 (pe_or (q184 q123 (pv 0) q58 (q19 _)) (q582 (pe_and (q67 (q619 (K:=K) rfl) (by rfl) z.isinstance_ q108 (q10 (pv 0) (q10 (q28 (q10 (q308 (v:=.ty "int") (u:=.type "int") (by rfl) z.int_ bt_int rfl) (q10 (q308 (v:=.ty "str") (u:=.type "str") (by rfl) z.str_ bt_str rfl) q11))) q11))) (q582 (pe_not (q67 (q487 (K:=K) rfl) (by rfl) z.isinstance_ q108 (q10 (pv 0) (q10 (q308 (v:=.ty "bool") (u:=.type "bool") (by rfl) z.bool_ bt_bool rfl) q11))))))))))),?_⟩
 have hcase:LeafV v \/ ∃ e' a xs,e=e'+1/\v = .ref a/\SqT K H a xs/\xs.length<=1000 /\ ∀ x ∈ xs,PlnAt K H e' x:=by
  cases e with
  | zero=>exact .inl hv
  | succ e=>
   rcases hv with h | ⟨a,xs,h⟩
   ·exact .inl h
   ·exact .inr ⟨e,a,xs,rfl,h⟩
 rcases hcase with (rfl | ⟨n,rfl⟩ | ⟨y,rfl⟩) | ⟨e',a,xs,rfl,rfl,ha,hl,hx⟩
 ·refine ⟨_,rfl,_,_,_,_,rfl,.inl .non,q271,_,rfl,iteF ?_⟩
  refine ⟨_,rfl,rfl,_,rfl,?_⟩
  exact ite2 (fun c=>q H (Same.refl H)) (fun c=>absurd (decide_eq_true rfl) c)
 ·refine ⟨_,rfl,_,_,_,_,rfl,.inl (.int _),q316,_,rfl,iteF ?_⟩
  refine ⟨_,rfl,rfl,_,rfl,?_⟩
  refine ite2 (fun c=>absurd (of_decide_eq_true c) (by intro z;cases z)) (fun c=>?_)
  refine ⟨_,rfl,szb rfl,fun p hp=>⟨_,p,rfl,.inl ⟨_,rfl⟩,SqT.of q14,_,rfl,iteT ?_⟩⟩
  exact ⟨_,rfl,_,_,_,_,rfl,.inl (.int _),q362,false,rfl,q _ (q16 hp _)⟩
 ·refine ⟨_,rfl,_,_,_,_,rfl,.inl (.str _),q317,_,rfl,iteF ?_⟩
  refine ⟨_,rfl,rfl,_,rfl,?_⟩
  refine ite2 (fun c=>absurd (of_decide_eq_true c) (by intro z;cases z)) (fun c=>?_)
  refine ⟨_,rfl,szb rfl,fun p hp=>⟨_,p,rfl,.inr ⟨_,rfl⟩,SqT.of q14,_,rfl,iteT ?_⟩⟩
  exact ⟨_,rfl,_,_,_,_,rfl,.inl (.str _),q366,false,rfl,q _ (q16 hp _)⟩
 ·refine ⟨_,rfl,_,_,_,_,rfl,.inr ⟨a,xs,rfl,ha,rfl⟩,q237,_,rfl,iteT ?_⟩
  refine ⟨_,rfl,a,rfl,⟨_,ha⟩,fun D hD=>?_⟩
  refine q437 (xs:=xs) (sz hl) (fun i ys H2=>ys=[]/\Same H H2/\H2 D=some (.lst [])) ⟨rfl,q16 hD _,q14⟩ (fun i ys H2 ⟨_,s2,_⟩=>s2.seqT ha) (fun i ys H2 ⟨e1,_,h2⟩=>⟨by rw [e1];exact h2,by rw [e1];exact Nat.zero_le _⟩) ?_ ?_
  ·rintro i x ys H2 hi ⟨rfl,s2,h2⟩
   have hlt:i < xs.length:=(List.getElem?_eq_some_iff.mp hi).1
   exact ⟨_,rfl,x,rfl,(hx x (List.mem_of_getElem? hi)).same s2,fun H3 s3=>⟨true,rfl,iteF ⟨xs.length - (i+1),by omega,rfl,hlt,rfl,s2.trans s3,s3 _ _ h2⟩⟩⟩
  ·rintro ys H2 ⟨rfl,s2,h2⟩
   refine ⟨D,[],rfl,.inl (SqL.of h2),rfl,?_⟩
   have e0:decide (V.int (([]:List V).length:Int)=V.int 0)=true:=decide_eq_true rfl
   rw [e0]
   exact q H2 s2
theorem q575 (z:Bz K mg cA cB cC cD cG):Cal P w K mg base 45 "_law_is" pn9 (sp__law_is K):=by
 have sc:=q559
 refine z.d__law_is.cal fun f fd F=>F.k sc fun _ _ _ s H _ Q _ hr h=>?_
 obtain ⟨v,b,r,low,L,ns,rfl,hb,hL,hr1,hl,ht,q⟩:=h
 refine ⟨_,(q15 (q18 (pe_and (pe_fn (q345 z) hr.m (by rfl) (q10 (pr 0) q11)) (q582 (q184 (op_eqTr hr.units) (pr 0) (pe_fn (q399 z) hr.m (by rfl) (q10 (pix q29 (pr 1) q13) (q10 (pix q29 (pr 1) q13) (q10 (pr 2) q11)))) (q19 _)))))),?_⟩
 have hd:=q261 L low ns
 refine ⟨42,by decide,v,rfl,q342 _ _ _ ht (by omega) (q330 L low ns hl),fun H1 s1=>⟨true,rfl,iteT ?_⟩⟩
 have hb1:=s1.seqT hb
 refine ⟨_,_,hb1,rfl,_,_,hb1,rfl,L,hL,low,r,ns,rfl,s1.seq hr1,hl,fun H2 u s2 hu=>?_⟩
 exact ⟨_,(ht.same s1).same s2,hu,by omega,q H2 (s1.trans s2)⟩
inductive sp__law_worth (u0:Fg) (vs:List V) (H:Hp) (Q:VK) (E:XK):Prop
 | mk (pen b r:Addr) (low:Int) (L:Nat) (ns:List Int) (_:vs=[.ref pen,.ref b,.ref r]) (_:PenM H pen) (_:H b=some (.tup [.int low,.int (L:Int)])) (_:L<=40) (_:H r=some (.lst (ns.map V.int))) (_:r ≠ pen) (_:ns.length<=1000) (_:Wths low L ns) (_:∀ (y:Int) (H':Hp),Keep pen H H'->PenM H' pen->low<=y->y < low+2 ^ L->Q (.int y) H'):sp__law_worth u0 vs H Q E
theorem q346 (z:Bz K mg cA cB cC cD cG):Cal P w K mg base 3 "_law_worth" pn7 (sp__law_worth K):=by
 have sc:=q327
 refine z.d__law_worth.cal fun f fd F=>F.k sc fun _ _ _ s H _ Q _ hr h=>?_
 obtain ⟨pen,b,r,low,L,ns,rfl,P0,hb,hL,hr0,hrp,hl,hw,q⟩:=h
 refine ⟨_,(q12 (pst 3 sc.nd (pe_op q40 (pix q29 (pr 1) q13) (pe_fn (q22 z) hr.m (by rfl) (q10 (pr 0) (q10 (pe_op q355 q13 (pix q29 (pr 1) q13)) q11)))))
 (q12 (pst 4 sc.nd (pe_fn (q22 z) hr.m (by rfl) (q10 (pr 0) (q10 (pe_op q89 q13 (pe_op q40 (pln z.len_ (q10 (pr 2) q11)) q13)) q11))))
 (q12 (ps_if (q23 om_lt (pr 4) (pln z.len_ (q10 (pr 2) q11)) (q19 _))
 (q15 (q18 (pix q56 (pr 2) (pr 4))))
 q21)
 (q15 (q18 (pr 3)))))),?_⟩
 have hp:=p2pos L
 have hq:=p2le hL
 have hlm:(ns.map V.int).length=ns.length:=List.length_map _
 refine ⟨_,_,SqT.of hb,rfl,_,_,SqT.of hb,rfl,_,_,rfl,rfl,⟨by omega,by omega,by decide⟩,?_⟩
 try dsimp only
 rw [q365]
 refine ⟨pen,_,rfl,P0,hp,by omega,fun u1 H1 k1 P1 a1 b1=>?_⟩
 have hr1:=k1 _ _ hrp hr0
 refine ⟨r,_,rfl,.inl (SqL.of hr1),_,_,rfl,rfl,.inl ⟨by decide,by decide⟩,pen,_,rfl,P1,by rw [hlm];omega,by rw [hlm];omega,fun u2 H2 k2 P2 a2 b2=>?_⟩
 have hr2:=k2 _ _ hrp hr1
 refine ⟨r,_,rfl,.inl (SqL.of hr2),?_⟩
 refine ite2 (fun c=>?_) (fun c=>?_)
 ·have c':u2 < (((ns.map V.int).length:Nat):Int):=of_decide_eq_true c
  rw [hlm] at c'
  obtain ⟨y,hy,hv⟩:=q140 (l:=ns) a2 c'
  exact ⟨_,_,SqL.of hr2,hv,q y _ (k1.trans k2) P2 (hw y hy).1 (hw y hy).2⟩
 ·exact q _ _ (k1.trans k2) P2 (by omega) (by omega)
structure Mks (C:Addr) (H:Hp) (x ka b:Addr) (low:Int) (L:Nat) (rs cs:LL):Prop where
 o:∃ dx,H x=some (.ins C dx [("bounds", .ref b),("kept", .ref ka)])
 hb:H b=some (.tup [.int low,.int (L:Int)])
 hL:L<=40
 len:cs.length=rs.length
 few:rs.length<=100
 hk:∃ es:List V,H ka=some (.lst es)/\es.length=rs.length /\ ∀ (j:Nat) (r c:List Int),rs[j]? = some r->cs[j]? = some c ->
  ∃ (p a:Addr) (v:V),es[j]? = some (.ref p)/\H p=some (.tup [v,.ref a])/\q25 H v (grow low L r)/\H a=some (.tup (c.map V.int))
 ok:∀ r ∈ rs,Wths low L r/\r.length<=200
theorem Mks.keep {low:Int} {L:Nat} (M:Mks C H x ka b low L rs cs) (k:Keep p H H') (e:H p=some (.lst ys)) (n:ka ≠ p):Mks C H' x ka b low L rs cs:=by
 obtain ⟨dx,hx⟩:=M.o
 obtain ⟨es,h1,h2,h3⟩:=M.hk
 have tk:TKeep H H':=.keep k e
 refine ⟨⟨dx,k _ _ (ne_of hx e (by intro z;cases z)) hx⟩,(tk _ _).1 M.hb,M.hL,M.len,M.few,⟨es,k _ _ n h1,h2,fun j r c hr hc=>?_⟩,M.ok⟩
 obtain ⟨p',a,v,e1,e2,e3,e4⟩:=h3 j r c hr hc
 exact ⟨p',a,v,e1,(tk _ _).1 e2,e3.tk tk,(tk _ _).1 e4⟩
theorem Mks.same {low:Int} {L:Nat} (M:Mks C H x ka b low L rs cs) (s:Same H H'):Mks C H' x ka b low L rs cs:=by
 obtain ⟨dx,hx⟩:=M.o
 obtain ⟨es,h1,h2,h3⟩:=M.hk
 have tk:TKeep H H':=.same s
 refine ⟨⟨dx,s _ _ hx⟩,s _ _ M.hb,M.hL,M.len,M.few,⟨es,s _ _ h1,h2,fun j r c hr hc=>?_⟩,M.ok⟩
 obtain ⟨p',a,v,e1,e2,e3,e4⟩:=h3 j r c hr hc
 exact ⟨p',a,v,e1,s _ _ e2,e3.tk tk,s _ _ e4⟩
theorem Mks.snoc {low:Int} {L:Nat} {rs:LL} {r c:List Int} (M:Mks C H x ka b low L rs cs) (hes:H ka=some (.lst es)) (k:Keep ka H H') (hp:H' p=some (.tup [v,.ref a]))
  (hv:q25 H v (grow low L r)) (ha:H a=some (.tup (c.map V.int))) (hw:Wths low L r) (hl:r.length<=200) (hn:rs.length<=99) (h':H' ka=some (.lst (es++[.ref p]))):Mks C H' x ka b low L (rs++[r]) (cs++[c]):=by
 obtain ⟨dx,hx⟩:=M.o
 obtain ⟨es',h1,h2,h3⟩:=M.hk
 obtain rfl:es'=es:=by rw [hes] at h1;injection h1 with h1;injection h1 with h1;exact h1.symm
 have tk:TKeep H H':=.keep k hes
 have hlen:=M.len
 refine ⟨⟨dx,k _ _ (ne_of hx hes (by intro z;cases z)) hx⟩,(tk _ _).1 M.hb,M.hL,by rw [List.length_append,List.length_append,M.len];rfl,by rw [List.length_append];show rs.length+1<=100;omega,⟨_,h',by rw [List.length_append,List.length_append,h2];rfl,fun j r1 c1 hr hc=>?_⟩,fun r1 h1=>?_⟩
 ·by_cases hj:j < rs.length
  ·rw [List.getElem?_append_left hj] at hr
   rw [List.getElem?_append_left (by omega)] at hc
   obtain ⟨p',a',v',e1,e2,e3,e4⟩:=h3 j r1 c1 hr hc
   exact ⟨p',a',v',by rw [List.getElem?_append_left (by omega)];exact e1,(tk _ _).1 e2,e3.tk tk,(tk _ _).1 e4⟩
  ·have hj':j=rs.length:=by
    have:=(List.getElem?_eq_some_iff.mp hr).1
    rw [List.length_append] at this
    have t2:j < rs.length+1:=this
    omega
   subst hj'
   rw [List.getElem?_append_right (Nat.le_refl _),Nat.sub_self] at hr
   rw [List.getElem?_append_right (by omega),show rs.length - cs.length=0 by omega] at hc
   obtain rfl:r=r1:=Option.some.inj hr
   obtain rfl:c=c1:=Option.some.inj hc
   exact ⟨p,a,v,by rw [List.getElem?_append_right (by omega),show rs.length - es'.length=0 by omega];rfl,hp,hv.tk tk,(tk _ _).1 ha⟩
 ·rcases List.mem_append.mp h1 with h | h
  ·exact M.ok _ h
  ·obtain rfl:r1=r:=by simpa using h
   exact ⟨hw,hl⟩
def Made (C:Addr) (H:Hp) (x ka b:Addr) (low:Int) (L:Nat) (rs cs:LL) (r c:List Int) (Q:VK):Prop:=
 ∀ H':Hp,Keep ka H H'->Mks C H' x ka b low L (rs++[r]) (cs++[c])->Q (.int (rs.length:Int)) H'
theorem Made.of {low:Int} {L:Nat} (q:Made C H x ka b low L rs cs r c Q) (s:Same H H1):Made C H1 x ka b low L rs cs r c Q:=
 fun H' k M=>q H' ((Keep.same s).trans k) M
inductive sp_not_too_many (u0:Fg) (vs:List V) (H:Hp) (Q:VK) (E:XK):Prop
 | mk (v:V) (t:Tr) (_:vs=[v]) (_:q25 H v t) (_:q512 t<=1000) (_:Q v H):sp_not_too_many u0 vs H Q E
inductive sp_M_keep (u0:Fg) (C:Addr) (vs:List V) (H:Hp) (Q:VK) (E:XK):Prop
 | mk (x ka b a:Addr) (v:V) (low:Int) (L:Nat) (rs cs:LL) (r c:List Int) (_:vs=[.ref x,v,.ref a]) (_:Mks C H x ka b low L rs cs) (_:q25 H v (grow low L r)) (_:H a=some (.tup (c.map V.int))) (_:Wths low L r) (_:r.length<=200) (_:rs.length<=99) (_:Made C H x ka b low L rs cs r c Q):sp_M_keep u0 C vs H Q E
inductive sp_I_Makes (u0:Fg) (C:Addr) (vs:List V) (H:Hp) (Q:VK) (E:XK):Prop
 | mk (x b dx:Addr) (low:Int) (L:Nat) (_:vs=[.ref x,.ref b]) (_:H x=some (.ins C dx [])) (_:H b=some (.tup [.int low,.int (L:Int)])) (_:L<=40) (_:∀ (ka:Addr) (H':Hp),H ka=none->Keep x H H'->Mks C H' x ka b low L [[]] [[]]->Q .non H'):sp_I_Makes u0 C vs H Q E
inductive sp_M_found (u0:Fg) (C:Addr) (vs:List V) (H:Hp) (Q:VK) (E:XK):Prop
 | mk (x ka b:Addr) (j:Nat) (low:Int) (L:Nat) (rs cs:LL) (r c:List Int) (_:vs=[.ref x,.int (j:Int)]) (_:Mks C H x ka b low L rs cs) (_:rs[j]? = some r) (_:cs[j]? = some c) (_:∀ (p a:Addr) (v:V),H p=some (.tup [v,.ref a])->q25 H v (grow low L r)->H a=some (.tup (c.map V.int))->Q (.ref p) H):sp_M_found u0 C vs H Q E
inductive sp_M_tree (u0:Fg) (C:Addr) (vs:List V) (H:Hp) (Q:VK) (E:XK):Prop
 | mk (x ka b:Addr) (j:Nat) (low:Int) (L:Nat) (rs cs:LL) (r:List Int) (_:vs=[.ref x,.int (j:Int)]) (_:Mks C H x ka b low L rs cs) (_:rs[j]? = some r) (_:∀ v:V,q25 H v (grow low L r)->Q v H):sp_M_tree u0 C vs H Q E
inductive sp_M_stretch (u0:Fg) (C:Addr) (vs:List V) (H:Hp) (Q:VK) (E:XK):Prop
 | mk (x ka b:Addr) (j st en:Nat) (low:Int) (L:Nat) (rs cs:LL) (r:List Int) (_:vs=[.ref x,.int (j:Int),.int (st:Int),.int (en:Int)]) (_:Mks C H x ka b low L rs cs) (_:rs[j]? = some r) (_:st<=en) (_:en<=r.length) (_:∀ (p:Addr) (v:V) (H':Hp),Same H H'->q25 H' v (grow low L r)->H' p=some (.tup [v,.int (st:Int),.int (en:Int)])->Q (.ref p) H'):sp_M_stretch u0 C vs H Q E
inductive sp_M_of_row (K:Fg) (C:Addr) (vs:List V) (H:Hp) (Q:VK) (E:XK):Prop
 | mk (x ka b l:Addr) (low:Int) (L:Nat) (rs cs:LL) (r:List Int) (_:vs=[.ref x,.ref l]) (_:Mks C H x ka b low L rs cs) (_:SqL K H l (r.map V.int)) (_:Wths low L r) (_:r.length<=200) (_:rs.length<=99) (_:Made C H x ka b low L rs cs r [] Q):sp_M_of_row K C vs H Q E
inductive sp_M_put_in (u0:Fg) (C:Addr) (vs:List V) (H:Hp) (Q:VK) (E:XK):Prop
 | mk (x ka b:Addr) (j pl:Nat) (low num:Int) (L:Nat) (rs cs:LL) (r:List Int) (_:vs=[.ref x,.int (j:Int),.int (pl:Int),.int num]) (_:Mks C H x ka b low L rs cs) (_:rs[j]? = some r) (_:pl<=r.length) (_:low<=num) (_:num < low+2 ^ L) (_:r.length<=199) (_:rs.length<=99) (_:Made C H x ka b low L rs cs (insAt r pl num) [(j:Int)] Q):sp_M_put_in u0 C vs H Q E
inductive sp_M_taken_out (u0:Fg) (C:Addr) (vs:List V) (H:Hp) (Q:VK) (E:XK):Prop
 | mk (x ka b:Addr) (j pl:Nat) (low n:Int) (L:Nat) (rs cs:LL) (r:List Int) (_:vs=[.ref x,.int (j:Int),.int (pl:Int)]) (_:Mks C H x ka b low L rs cs) (_:rs[j]? = some r) (_:r[pl]? = some n) (_:rs.length<=99) (_:Made C H x ka b low L rs cs (delAt r pl) [(j:Int)] Q):sp_M_taken_out u0 C vs H Q E
inductive sp_M_set_at (u0:Fg) (C:Addr) (vs:List V) (H:Hp) (Q:VK) (E:XK):Prop
 | mk (x ka b:Addr) (j pl:Nat) (low n num:Int) (L:Nat) (rs cs:LL) (r:List Int) (_:vs=[.ref x,.int (j:Int),.int (pl:Int),.int num]) (_:Mks C H x ka b low L rs cs) (_:rs[j]? = some r) (_:r[pl]? = some n) (_:low<=num) (_:num < low+2 ^ L) (_:rs.length<=99) (_:Made C H x ka b low L rs cs (r.take pl++num::r.drop (pl+1)) [(j:Int)] Q):sp_M_set_at u0 C vs H Q E
inductive sp_M_cut_out (u0:Fg) (C:Addr) (vs:List V) (H:Hp) (Q:VK) (E:XK):Prop
 | mk (x ka b:Addr) (j st en:Nat) (low:Int) (L:Nat) (rs cs:LL) (r:List Int) (_:vs=[.ref x,.int (j:Int),.int (st:Int),.int (en:Int)]) (_:Mks C H x ka b low L rs cs) (_:rs[j]? = some r) (_:st<=en) (_:en<=r.length) (_:rs.length<=99) (_:Made C H x ka b low L rs cs (segI r st en) [(j:Int)] Q):sp_M_cut_out u0 C vs H Q E
inductive sp_M_joined (u0:Fg) (C:Addr) (vs:List V) (H:Hp) (Q:VK) (E:XK):Prop
 | mk (x ka b:Addr) (i j:Nat) (low:Int) (L:Nat) (rs cs:LL) (r t:List Int) (_:vs=[.ref x,.int (i:Int),.int (j:Int)]) (_:Mks C H x ka b low L rs cs) (_:rs[i]? = some r) (_:rs[j]? = some t) (_:r.length+t.length<=200) (_:rs.length<=99) (_:Made C H x ka b low L rs cs (r++t) [(i:Int),(j:Int)] Q):sp_M_joined u0 C vs H Q E
inductive sp_M_turned (u0:Fg) (C:Addr) (vs:List V) (H:Hp) (Q:VK) (E:XK):Prop
 | mk (x ka b:Addr) (j:Nat) (low:Int) (L:Nat) (rs cs:LL) (r:List Int) (_:vs=[.ref x,.int (j:Int)]) (_:Mks C H x ka b low L rs cs) (_:rs[j]? = some r) (_:rs.length<=99) (_:Made C H x ka b low L rs cs r.reverse [(j:Int)] Q):sp_M_turned u0 C vs H Q E
inductive sp_M_flipped (u0:Fg) (C:Addr) (vs:List V) (H:Hp) (Q:VK) (E:XK):Prop
 | mk (x ka b:Addr) (j:Nat) (low:Int) (L:Nat) (rs cs:LL) (r:List Int) (_:vs=[.ref x,.int (j:Int)]) (_:Mks C H x ka b low L rs cs) (_:rs[j]? = some r) (_:rs.length<=99) (_:Made C H x ka b low L rs cs (r.map (flp low L)) [(j:Int)] Q):sp_M_flipped u0 C vs H Q E
inductive sp_M_many (u0:Fg) (C:Addr) (vs:List V) (H:Hp) (Q:VK) (E:XK):Prop
 | mk (x ka b:Addr) (low:Int) (L:Nat) (rs cs:LL) (_:vs=[.ref x]) (_:Mks C H x ka b low L rs cs) (_:Q (.int (rs.length:Int)) H):sp_M_many u0 C vs H Q E
inductive sp_M_row (u0:Fg) (C:Addr) (vs:List V) (H:Hp) (Q:VK) (E:XK):Prop
 | mk (x ka b:Addr) (j:Nat) (low:Int) (L:Nat) (rs cs:LL) (r:List Int) (_:vs=[.ref x,.int (j:Int)]) (_:Mks C H x ka b low L rs cs) (_:rs[j]? = some r) (_:∀ (H':Hp) (D:Addr),Same H H'->H' D=some (.lst (r.map V.int))->H D=none->Q (.ref D) H'):sp_M_row u0 C vs H Q E
inductive sp_M_came_of (u0:Fg) (C:Addr) (vs:List V) (H:Hp) (Q:VK) (E:XK):Prop
 | mk (x ka b:Addr) (j:Nat) (low:Int) (L:Nat) (rs cs:LL) (c:List Int) (_:vs=[.ref x,.int (j:Int)]) (_:Mks C H x ka b low L rs cs) (_:cs[j]? = some c) (_:∀ (H':Hp) (D:Addr),Same H H'->H' D=some (.lst (c.map V.int))->H D=none->Q (.ref D) H'):sp_M_came_of u0 C vs H Q E
theorem Mks.row {low:Int} {L j:Nat} (M:Mks C H x ka b low L rs cs) (h:rs[j]? = some r):∃ c,cs[j]? = some c:=by
 have:=(List.getElem?_eq_some_iff.mp h).1
 have:=M.len
 exact ⟨cs[j]'(by omega),List.getElem?_eq_getElem _⟩
theorem Mks.cam {low:Int} {L j:Nat} (M:Mks C H x ka b low L rs cs) (h:cs[j]? = some c):∃ r,rs[j]? = some r:=by
 have:=(List.getElem?_eq_some_iff.mp h).1
 have:=M.len
 exact ⟨rs[j]'(by omega),List.getElem?_eq_getElem _⟩
theorem Mks.sz {low:Int} {L j:Nat} {r:List Int} (M:Mks C H x ka b low L rs cs) (h:rs[j]? = some r):Wths low L r/\r.length<=200:=M.ok r (List.mem_of_getElem? h)
theorem q138 (z:Bz K mg cA cB cC cD cG):Cal P w K mg base 2 "not_too_many" ["tree"] (sp_not_too_many K):=by
 have sc:=q259
 refine z.d_not_too_many.cal fun f fd F=>F.k sc fun _ _ _ s H _ Q _ hr h=>?_
 obtain ⟨v,t,rfl,ht,hs,q⟩:=h
 refine ⟨_,(q12 (ps_if (q26 op_gt (pe_fn (q75 z) hr.m (by rfl) (q10 (pv 0) q11)) q13 (q19 _))
 (q15 q63)
 q21)
 (q15 (q18 (pv 0)))),?_⟩
 refine ⟨_,rfl,v,t,rfl,ht,_,_,rfl,rfl,_,rfl,?_⟩
 refine ite2 (fun c=>absurd (of_decide_eq_true c) (by omega)) (fun _=>?_)
 exact ⟨_,rfl,q⟩
theorem q72 (z:Bz K mg cA cB cC cD cG):MCal P w K mg base 1 cG "keep" ["self", "tree", "sources"] (sp_M_keep K cG):=by
 have sc:=q652
 refine z.d_M_keep.cal z.o_Makes fun f fd F=>F.k sc fun _ _ _ s H _ Q _ hr h=>?_
 obtain ⟨x,ka,b,a,v,low,L,rs,cs,r,c,rfl,M,hv,ha,hw,hl,hn,q⟩:=h
 refine ⟨_,(q12 (q98 (pe_bm PySem.F.plainAttrs_list PySem.F.slot_list_append PySem.F.type_list_append q69 (q157 (pv 0) rfl) (q10 (q28 (q10 (pv 1) (q10 (pv 2) q11))) q11)))
 (q15 (q18 (pe_op q81 (pln z.len_ (q10 (q157 (pv 0) rfl) q11)) q13)))),?_⟩
 obtain ⟨dx,hx⟩:=M.o
 obtain ⟨es,hes,hel,_⟩:=M.hk
 refine ⟨_,rfl,x,_,dx,_,_,rfl,hx,z.o_Makes,z.nK,rfl,.inl ⟨rfl,_,SqL.of hes⟩,_,rfl,_,rfl,szb rfl,fun p hp=>?_⟩
 obtain ⟨H1,gz,s1,e1⟩:=nwH hp (.tup [v,.ref a])
 rw [gz]
 have hes1:=s1 _ _ hes
 refine ⟨ka,es,_,rfl,rfl,hes1,by rw [hel];exact q54 (by omega),?_⟩
 have k2:Keep ka H (upd H1 ka (.lst (es++[.ref p]))):=(Keep.same s1).trans (Keep.set ka H1 _)
 have e2:=@q14 H1 ka (.lst (es++[.ref p]))
 have e3:upd H1 ka (.lst (es++[.ref p])) p=some (.tup [v,.ref a]):=(TKeep.set hes1 _ _).1 e1
 generalize upd H1 ka (.lst (es++[.ref p]))=H2 at *
 have M2:=M.snoc hes k2 e3 hv ha hw hl hn e2
 obtain ⟨dx2,hx2⟩:=M2.o
 refine ⟨_,rfl,x,_,dx2,_,_,rfl,hx2,z.o_Makes,z.nK,rfl,ka,_,rfl,.inl (SqL.of e2),_,_,rfl,rfl,?_⟩
 have en:(((es++[V.ref p]).length:Nat):Int) - 1=(rs.length:Int):=by rw [List.length_append,hel];show ((rs.length+1:Nat):Int) - 1=_;omega
 show Q (.int ((((es++[V.ref p]).length:Nat):Int) - 1)) H2
 rw [en]
 exact q _ k2 M2
theorem q576 (z:Bz K mg cA cB cC cD cG):ICal P w K mg base 2 cG ["self", "bounds"] (sp_I_Makes K cG):=by
 have sc:=q560
 refine z.d_I_Makes.cal fun f fd F=>F.k sc fun _ _ _ s H _ Q _ hr h=>?_
 obtain ⟨x,b,dx,low,L,rfl,hx,hb,hL,q⟩:=h
 refine ⟨_,(q12 (ps_fld (pv 0) (pv 1) rfl)
 (q12 (ps_fld (pv 0) (q36 q11) rfl)
 (q15 (q98 (q37 (q72 z) hr.m (pv 0) (q10 q58 (q10 (q28 q11) q11))))))),?_⟩
 refine ⟨_,rfl,_,rfl,x,_,dx,_,rfl,hx,z.o_Makes,z.nB,by decide,?_⟩
 have hbx:b ≠ x:=ne_of hb hx (by intro z;cases z)
 have k1:Keep x H (upd H x (.ins cG dx (putF "bounds" (.ref b) []))):=Keep.set x H _
 have e1:upd H x (.ins cG dx (putF "bounds" (.ref b) [])) x=some (.ins cG dx [("bounds", .ref b)]):=q14
 generalize upd H x (.ins cG dx (putF "bounds" (.ref b) []))=H1 at *
 refine ⟨szb rfl,fun ka hka=>?_⟩
 have hka0:H ka=none:=by
  cases e:H ka with
  | none=>rfl
  | some o=>
   exfalso
   by_cases hkx:ka=x
   ·rw [hkx,e1] at hka;cases hka
   ·rw [k1 _ _ hkx e] at hka;cases hka
 obtain ⟨H2,gz,s2,e2⟩:=nwH hka (.lst [])
 rw [gz]
 refine ⟨_,rfl,x,_,dx,_,rfl,s2 _ _ e1,z.o_Makes,z.nK,by show 1 < 1000;decide,?_⟩
 have hkx:ka ≠ x:=fun h=>by rw [h,e1] at hka;cases hka
 have k3:Keep x H2 (upd H2 x (.ins cG dx (putF "kept" (.ref ka) [("bounds", .ref b)]))):=Keep.set x H2 _
 have e3:upd H2 x (.ins cG dx (putF "kept" (.ref ka) [("bounds", .ref b)])) x=some (.ins cG dx [("bounds", .ref b),("kept", .ref ka)]):=q14
 generalize upd H2 x (.ins cG dx (putF "kept" (.ref ka) [("bounds", .ref b)]))=H3 at *
 refine ⟨_,rfl,x,dx,_,rfl,e3,rfl,szb rfl,fun p hp=>?_⟩
 obtain ⟨H4,gz,s4,e4⟩:=nwH hp (.tup [])
 rw [gz]
 have k13:Keep x H H3:=k1.trans ((Keep.same s2).trans k3)
 have M:Mks cG H4 x ka b low L [] []:=⟨⟨dx,s4 _ _ e3⟩,s4 _ _ (k13 _ _ hbx hb),hL,rfl,by decide,⟨[],s4 _ _ (k3 _ _ hkx e2),rfl,fun j r c g=>by cases g⟩,fun r g=>by cases g⟩
 refine ⟨x,ka,b,p,.non,low,L,[],[],[],[],rfl,M,by rw [q33];rfl,e4,(fun _ h=>by cases h),by decide,by decide,fun H5 k5 M5=>?_⟩
 refine q ka H5 hka0 ?_ M5
 intro c o hc hco
 refine k5 c o ?_ (s4 _ _ (k13 _ _ hc hco))
 intro hck
 rw [hck,hka0] at hco
 cases hco
theorem q307 (z:Bz K mg cA cB cC cD cG):MCal P w K mg base 1 cG "found" pn0 (sp_M_found K cG):=by
 have sc:=q561
 refine z.d_M_found.cal z.o_Makes fun f fd F=>F.k sc fun _ _ _ s H _ Q _ hr h=>?_
 obtain ⟨x,ka,b,j,low,L,rs,cs,r,c,rfl,M,g,hc,q⟩:=h
 refine ⟨_,(q12 (ps_if (PW.pt (pw_or (q26 op_lt (pv 1) q13 (q19 _)) (q88 (q26 op_ge (pv 1) (pln z.len_ (q10 (q157 (pv 0) rfl) q11)) (q19 _)))))
 (q15 q63)
 q21)
 (q15 (q18 (pix q47 (q157 (pv 0) rfl) (pv 1))))),?_⟩
 obtain ⟨dx,hx⟩:=M.o
 obtain ⟨es,hes,hel,hE⟩:=M.hk
 obtain ⟨p,a,v,e1,e2,e3,e4⟩:=hE j r c g hc
 have hj:=(List.getElem?_eq_some_iff.mp g).1
 refine ⟨_,rfl,_,_,rfl,rfl,_,rfl,?_⟩
 refine ite2 (fun c=>absurd (of_decide_eq_true c) (by omega)) (fun _=>?_)
 refine ⟨_,rfl,_,rfl,x,_,dx,_,_,rfl,hx,z.o_Makes,z.nK,rfl,ka,_,rfl,.inl (SqL.of hes),_,_,rfl,rfl,_,rfl,?_⟩
 refine ite2 (fun c=>absurd (of_decide_eq_true c) (by omega)) (fun _=>?_)
 exact ⟨_,rfl,x,_,dx,_,_,rfl,hx,z.o_Makes,z.nK,rfl,_,rfl,ka,_,_,_,rfl,rfl,SqL.of hes,q39 e1,q p a v e2 e3 e4⟩
theorem q62 (z:Bz K mg cA cB cC cD cG):MCal P w K mg base 2 cG "tree" pn0 (sp_M_tree K cG):=by
 have sc:=q651
 refine z.d_M_tree.cal z.o_Makes fun f fd F=>F.k sc fun _ _ _ s H _ Q _ hr h=>?_
 obtain ⟨x,ka,b,j,low,L,rs,cs,r,rfl,M,g,q⟩:=h
 refine ⟨_,(q15 (q18 (pix q32 (q37 (q307 z) hr.m (pv 0) (q10 (pv 1) q11)) q13))),?_⟩
 obtain ⟨dx,hx⟩:=M.o
 obtain ⟨c,hc⟩:=M.row g
 exact ⟨_,rfl,x,dx,_,rfl,hx,rfl,_,rfl,x,ka,b,j,low,L,rs,cs,r,c,rfl,M,g,hc,fun p a v e1 e2 _=>⟨p,_,_,_,rfl,rfl,SqT.of e1,rfl,q v e2⟩⟩
theorem q417 (z:Bz K mg cA cB cC cD cG):MCal P w K mg base 3 cG "stretch" pn3 (sp_M_stretch K cG):=by
 have sc:=q396
 refine z.d_M_stretch.cal z.o_Makes fun f fd F=>F.k sc fun _ _ _ s H _ Q _ hr h=>?_
 obtain ⟨x,ka,b,j,st,en,low,L,rs,cs,r,rfl,M,g,h1,h2,q⟩:=h
 refine ⟨_,(q12 (pst 4 sc.nd (q37 (q62 z) hr.m (pv 0) (q10 (pv 1) q11)))
 (q12 (ps_if (q472 (q618 op_le op_le op_le q13 (pv 2) (pv 3) (pe_fn (q75 z) hr.m (by rfl) (q10 (pv 4) q11))))
 (q15 q63)
 q21)
 (q15 (q18 (q28 (q10 (pv 4) (q10 (pv 2) (q10 (pv 3) q11)))))))),?_⟩
 obtain ⟨dx,hx⟩:=M.o
 refine ⟨_,rfl,x,dx,_,rfl,hx,rfl,_,rfl,x,ka,b,j,low,L,rs,cs,r,rfl,M,g,fun v hv=>?_⟩
 refine ⟨_,rfl,_,_,rfl,rfl,_,rfl,?_⟩
 refine ite2 (fun _=>?_) (fun c=>absurd (decide_eq_true (by omega)) c)
 refine ⟨_,rfl,_,_,rfl,rfl,_,rfl,?_⟩
 refine ite2 (fun _=>?_) (fun c=>absurd (decide_eq_true (by omega)) c)
 refine ⟨_,rfl,v,_,rfl,hv,_,_,rfl,rfl,?_⟩
 rw [q104]
 refine ⟨_,rfl,?_⟩
 refine iteNS (by omega) ?_
 refine ⟨_,rfl,_,rfl,_,rfl,szb rfl,fun p hp=>?_⟩
 have s1:=q16 hp (.tup [v,.int (st:Int),.int (en:Int)])
 exact q p v _ s1 (hv.same s1) q14
theorem q268 (z:Bz K mg cA cB cC cD cG):MCal P w K mg base 43 cG "of_row" ["self", "row"] (sp_M_of_row K cG):=by
 have sc:=q448
 refine z.d_M_of_row.cal z.o_Makes fun f fd F=>F.k sc fun _ _ _ s H _ Q _ hr h=>?_
 obtain ⟨x,ka,b,l,low,L,rs,cs,r,rfl,M,hl,hw,hn,hm,q⟩:=h
 refine ⟨_,(q15 (q18 (q37 (q72 z) hr.m (pv 0) (q10 (pe_fn (q562 z) hr.m (by rfl) (q10 (q157 (pv 0) rfl) (q10 (pv 1) q11))) (q10 (q28 q11) q11))))),?_⟩
 obtain ⟨dx,hx⟩:=M.o
 refine ⟨_,rfl,x,dx,_,rfl,hx,rfl,_,rfl,x,_,dx,_,_,rfl,hx,z.o_Makes,z.nB,rfl,_,rfl,b,l,low,L,r,rfl,SqT.of M.hb,M.hL,hl,by omega,hw,fun H1 v s1 hv=>?_⟩
 refine ⟨szb rfl,fun p hp=>?_⟩
 obtain ⟨H2,gz,s2,e2⟩:=nwH hp (.tup [])
 rw [gz]
 have s12:=s1.trans s2
 exact ⟨x,ka,b,p,v,low,L,rs,cs,r,[],rfl,M.same s12,hv.same s2,e2,hw,hn,hm,q.of s12⟩
theorem q463 (z:Bz K mg cA cB cC cD cG):MCal P w K mg base 45 cG "put_in" pn1 (sp_M_put_in K cG):=by
 have sc:=q449
 refine z.d_M_put_in.cal z.o_Makes fun f fd F=>F.k sc fun _ _ _ s H _ Q _ hr h=>?_
 obtain ⟨x,ka,b,j,pl,low,num,L,rs,cs,r,rfl,M,g,hpl,n0,n1,hl,hn,q⟩:=h
 refine ⟨_,(q12 (pst 4 sc.nd (pe_fn (q416 z) hr.m (by rfl) (q10 (q157 (pv 0) rfl) (q10 (q37 (q62 z) hr.m (pv 0) (q10 (pv 1) q11)) (q10 (pv 2) (q10 (pv 3) q11))))))
 (q15 (q18 (q37 (q72 z) hr.m (pv 0) (q10 (pe_fn (q138 z) hr.m (by rfl) (q10 (pv 4) q11)) (q10 (q28 (q10 (pv 1) q11)) q11)))))),?_⟩
 obtain ⟨dx,hx⟩:=M.o
 obtain ⟨hw,_⟩:=M.sz g
 refine ⟨_,rfl,x,_,dx,_,_,rfl,hx,z.o_Makes,z.nB,rfl,_,rfl,x,dx,_,rfl,hx,rfl,_,rfl,x,ka,b,j,low,L,rs,cs,r,rfl,M,g,fun v hv=>?_⟩
 refine ⟨_,rfl,_,rfl,b,v,pl,low,num,L,r,rfl,SqT.of M.hb,M.hL,hv,hpl,by omega,n0,n1,fun u H1 s1 hu=>?_⟩
 have hil:=q459 r pl num
 refine ⟨_,rfl,x,dx,_,rfl,s1 _ _ hx,rfl,_,rfl,u,_,rfl,hu,by rw [q104];omega,_,rfl,szb rfl,fun p hp=>?_⟩
 obtain ⟨H2,gz,s2,e2⟩:=nwH hp (.tup [.int (j:Int)])
 rw [gz]
 have s12:=s1.trans s2
 exact ⟨x,ka,b,p,u,low,L,rs,cs,_,[(j:Int)],rfl,M.same s12,hu.same s2,e2,ins_wths hw n0 n1,by omega,hn,q.of s12⟩
theorem flp_in {low:Int} {e:Nat} {ns:List Int} (h:Wths low e ns):Wths low e (ns.map (flp low e)):=fun x hx=>by
 obtain ⟨n,hn,rfl⟩:=List.mem_map.mp hx
 have:=h n hn
 unfold flp
 omega
theorem rev_in {low:Int} {e:Nat} {ns:List Int} (h:Wths low e ns):Wths low e ns.reverse:=fun x hx=>h x (List.mem_reverse.mp hx)
theorem seg_in {low:Int} {e:Nat} {st en:Nat} (h:Wths low e ns):Wths low e (segI ns st en):=fun x hx=>h x (List.mem_of_mem_take (List.mem_of_mem_drop hx))
theorem app_in {low:Int} {e:Nat} (h:Wths low e ns) (h':Wths low e ms):Wths low e (ns++ms):=fun x hx=>(List.mem_append.mp hx).elim (h x) (h' x)
theorem set_in {low num:Int} {e pl:Nat} {ns:List Int} (h:Wths low e ns) (h0:low<=num) (h1:num < low+2 ^ e):Wths low e (ns.take pl++num::ns.drop (pl+1)):=fun x hx=>by
 rcases List.mem_append.mp hx with hx | hx
 ·exact h x (List.mem_of_mem_take hx)
 rcases List.mem_cons.mp hx with rfl | hx
 ·exact ⟨h0,h1⟩
 ·exact h x (List.mem_of_mem_drop hx)
theorem q681 {num:Int} {pl:Nat} {ns:List Int} (h:pl < ns.length):(ns.take pl++num::ns.drop (pl+1)).length=ns.length:=by
 rw [List.length_append,List.length_cons,List.length_take,List.length_drop]
 omega
theorem q281 (z:Bz K mg cA cB cC cD cG):MCal P w K mg base 45 cG "taken_out" ["self", "make", "place"] (sp_M_taken_out K cG):=by
 have sc:=q278
 refine z.d_M_taken_out.cal z.o_Makes fun f fd F=>F.k sc fun _ _ _ s H _ Q _ hr h=>?_
 obtain ⟨x,ka,b,j,pl,low,n,L,rs,cs,r,rfl,M,g,gn,hn,q⟩:=h
 refine ⟨_,(q12 (pst 3 sc.nd (pe_fn (q208 z) hr.m (by rfl) (q10 (q157 (pv 0) rfl) (q10 (q37 (q62 z) hr.m (pv 0) (q10 (pv 1) q11)) (q10 (pv 2) q11)))))
 (q15 (q18 (q37 (q72 z) hr.m (pv 0) (q10 (pix q32 (pv 3) q13) (q10 (q28 (q10 (pv 1) q11)) q11)))))),?_⟩
 obtain ⟨dx,hx⟩:=M.o
 obtain ⟨hw,hl⟩:=M.sz g
 have hpl:=(List.getElem?_eq_some_iff.mp gn).1
 refine ⟨_,rfl,x,_,dx,_,_,rfl,hx,z.o_Makes,z.nB,rfl,_,rfl,x,dx,_,rfl,hx,rfl,_,rfl,x,ka,b,j,low,L,rs,cs,r,rfl,M,g,fun v hv=>?_⟩
 refine ⟨_,rfl,b,v,pl,low,n,L,r,rfl,SqT.of M.hb,M.hL,hv,hw,gn,by omega,fun p1 u H1 s1 e1 hu=>?_⟩
 have hdl:=q340 hpl
 refine ⟨_,rfl,x,dx,_,rfl,s1 _ _ hx,rfl,_,rfl,p1,_,_,_,rfl,rfl,SqT.of e1,rfl,_,rfl,szb rfl,fun p hp=>?_⟩
 obtain ⟨H2,gz,s2,e2⟩:=nwH hp (.tup [.int (j:Int)])
 rw [gz]
 have s12:=s1.trans s2
 exact ⟨x,ka,b,p,u,low,L,rs,cs,_,[(j:Int)],rfl,M.same s12,hu.same s2,e2,del_wths hw,by omega,hn,q.of s12⟩
theorem q464 (z:Bz K mg cA cB cC cD cG):MCal P w K mg base 46 cG "set_at" pn1 (sp_M_set_at K cG):=by
 have sc:=q450
 refine z.d_M_set_at.cal z.o_Makes fun f fd F=>F.k sc fun _ _ _ s H _ Q _ hr h=>?_
 obtain ⟨x,ka,b,j,pl,low,n,num,L,rs,cs,r,rfl,M,g,gn,n0,n1,hn,q⟩:=h
 refine ⟨_,(q15 (q18 (q37 (q72 z) hr.m (pv 0) (q10 (pe_fn (q680 z) hr.m (by rfl) (q10 (q157 (pv 0) rfl) (q10 (q37 (q62 z) hr.m (pv 0) (q10 (pv 1) q11)) (q10 (pv 2) (q10 (pv 3) q11))))) (q10 (q28 (q10 (pv 1) q11)) q11))))),?_⟩
 obtain ⟨dx,hx⟩:=M.o
 obtain ⟨hw,hl⟩:=M.sz g
 have hpl:=(List.getElem?_eq_some_iff.mp gn).1
 refine ⟨_,rfl,x,dx,_,rfl,hx,rfl,_,rfl,x,_,dx,_,_,rfl,hx,z.o_Makes,z.nB,rfl,_,rfl,x,dx,_,rfl,hx,rfl,_,rfl,x,ka,b,j,low,L,rs,cs,r,rfl,M,g,fun v hv=>?_⟩
 refine ⟨_,rfl,_,rfl,b,v,pl,low,n,num,L,r,rfl,SqT.of M.hb,M.hL,hv,hw,gn,by omega,n0,n1,fun u H1 s1 hu=>?_⟩
 have hsl:=q681 (num:=num) hpl
 refine ⟨_,rfl,szb rfl,fun p hp=>?_⟩
 obtain ⟨H2,gz,s2,e2⟩:=nwH hp (.tup [.int (j:Int)])
 rw [gz]
 have s12:=s1.trans s2
 exact ⟨x,ka,b,p,u,low,L,rs,cs,_,[(j:Int)],rfl,M.same s12,hu.same s2,e2,set_in hw n0 n1,by omega,hn,q.of s12⟩
theorem q418 (z:Bz K mg cA cB cC cD cG):MCal P w K mg base 44 cG "cut_out" pn3 (sp_M_cut_out K cG):=by
 have sc:=q393
 refine z.d_M_cut_out.cal z.o_Makes fun f fd F=>F.k sc fun _ _ _ s H _ Q _ hr h=>?_
 obtain ⟨x,ka,b,j,st,en,low,L,rs,cs,r,rfl,M,g,h1,h2,hn,q⟩:=h
 refine ⟨_,(q15 (q18 (q37 (q72 z) hr.m (pv 0) (q10 (pe_fn (q569 z) hr.m (by rfl) (q10 (q37 (q417 z) hr.m (pv 0) (q10 (pv 1) (q10 (pv 2) (q10 (pv 3) q11)))) q11)) (q10 (q28 (q10 (pv 1) q11)) q11))))),?_⟩
 obtain ⟨dx,hx⟩:=M.o
 obtain ⟨hw,hl⟩:=M.sz g
 refine ⟨_,rfl,x,dx,_,rfl,hx,rfl,_,rfl,x,dx,_,rfl,hx,rfl,_,rfl,_,rfl,_,rfl,x,ka,b,j,st,en,low,L,rs,cs,r,rfl,M,g,h1,h2,fun p1 v H1 s1 hv e1=>?_⟩
 refine ⟨L,M.hL,p1,v,st,en,low,r,rfl,e1,hv,hw,h1,h2,by omega,fun u H2 s2 hu=>?_⟩
 have hsl:=q460 (st:=st) h2
 refine ⟨_,rfl,szb rfl,fun p hp=>?_⟩
 obtain ⟨H3,gz,s3,e3⟩:=nwH hp (.tup [.int (j:Int)])
 rw [gz]
 have s13:=s1.trans (s2.trans s3)
 exact ⟨x,ka,b,p,u,low,L,rs,cs,_,[(j:Int)],rfl,M.same s13,hu.same s3,e3,seg_in hw,by omega,hn,q.of s13⟩
theorem q465 (z:Bz K mg cA cB cC cD cG):MCal P w K mg base 44 cG "joined" ["self", "one", "other"] (sp_M_joined K cG):=by
 have sc:=q451
 refine z.d_M_joined.cal z.o_Makes fun f fd F=>F.k sc fun _ _ _ s H _ Q _ hr h=>?_
 obtain ⟨x,ka,b,i,j,low,L,rs,cs,r,t,rfl,M,g,g',hrt,hn,q⟩:=h
 refine ⟨_,(q12 (pst 3 sc.nd (pe_fn (q676 z) hr.m (by rfl) (q10 (q37 (q62 z) hr.m (pv 0) (q10 (pv 1) q11)) (q10 (q37 (q62 z) hr.m (pv 0) (q10 (pv 2) q11)) q11))))
 (q15 (q18 (q37 (q72 z) hr.m (pv 0) (q10 (pe_fn (q138 z) hr.m (by rfl) (q10 (pv 3) q11)) (q10 (q28 (q10 (pv 1) (q10 (pv 2) q11))) q11)))))),?_⟩
 obtain ⟨dx,hx⟩:=M.o
 obtain ⟨hw,hl⟩:=M.sz g
 obtain ⟨hw',hl'⟩:=M.sz g'
 refine ⟨_,rfl,x,dx,_,rfl,hx,rfl,_,rfl,x,ka,b,i,low,L,rs,cs,r,rfl,M,g,fun v hv=>?_⟩
 refine ⟨_,rfl,x,dx,_,rfl,hx,rfl,_,rfl,x,ka,b,j,low,L,rs,cs,t,rfl,M,g',fun v' hv'=>?_⟩
 refine ⟨L,M.hL,v,v',low,r,t,rfl,hv,hv',by omega,by omega,fun u H1 s1 hu=>?_⟩
 have hal:(r++t).length=r.length+t.length:=List.length_append
 refine ⟨_,rfl,x,dx,_,rfl,s1 _ _ hx,rfl,_,rfl,u,_,rfl,hu,by rw [q104];omega,_,rfl,_,rfl,szb rfl,fun p hp=>?_⟩
 obtain ⟨H2,gz,s2,e2⟩:=nwH hp (.tup [.int (i:Int),.int (j:Int)])
 rw [gz]
 have s12:=s1.trans s2
 exact ⟨x,ka,b,p,u,low,L,rs,cs,_,[(i:Int),(j:Int)],rfl,M.same s12,hu.same s2,e2,app_in hw hw',by omega,hn,q.of s12⟩
theorem q269 (z:Bz K mg cA cB cC cD cG):MCal P w K mg base 43 cG "turned" pn0 (sp_M_turned K cG):=by
 have sc:=q452
 refine z.d_M_turned.cal z.o_Makes fun f fd F=>F.k sc fun _ _ _ s H _ Q _ hr h=>?_
 obtain ⟨x,ka,b,j,low,L,rs,cs,r,rfl,M,g,hn,q⟩:=h
 refine ⟨_,(q15 (q18 (q37 (q72 z) hr.m (pv 0) (q10 (pe_fn (q679 z) hr.m (by rfl) (q10 (q37 (q62 z) hr.m (pv 0) (q10 (pv 1) q11)) q11)) (q10 (q28 (q10 (pv 1) q11)) q11))))),?_⟩
 obtain ⟨dx,hx⟩:=M.o
 obtain ⟨hw,hl⟩:=M.sz g
 refine ⟨_,rfl,x,dx,_,rfl,hx,rfl,_,rfl,x,dx,_,rfl,hx,rfl,_,rfl,x,ka,b,j,low,L,rs,cs,r,rfl,M,g,fun v hv=>?_⟩
 refine ⟨L,M.hL,v,low,r,rfl,hv,by omega,fun u H1 s1 hu=>?_⟩
 refine ⟨_,rfl,szb rfl,fun p hp=>?_⟩
 obtain ⟨H2,gz,s2,e2⟩:=nwH hp (.tup [.int (j:Int)])
 rw [gz]
 have s12:=s1.trans s2
 exact ⟨x,ka,b,p,u,low,L,rs,cs,_,[(j:Int)],rfl,M.same s12,hu.same s2,e2,rev_in hw,by rw [List.length_reverse];omega,hn,q.of s12⟩
theorem q419 (z:Bz K mg cA cB cC cD cG):MCal P w K mg base 43 cG "flipped" pn0 (sp_M_flipped K cG):=by
 have sc:=q394
 refine z.d_M_flipped.cal z.o_Makes fun f fd F=>F.k sc fun _ _ _ s H _ Q _ hr h=>?_
 obtain ⟨x,ka,b,j,low,L,rs,cs,r,rfl,M,g,hn,q⟩:=h
 refine ⟨_,(q15 (q18 (q37 (q72 z) hr.m (pv 0) (q10 (pe_fn (q572 z) hr.m (by rfl) (q10 (q37 (q62 z) hr.m (pv 0) (q10 (pv 1) q11)) q11)) (q10 (q28 (q10 (pv 1) q11)) q11))))),?_⟩
 obtain ⟨dx,hx⟩:=M.o
 obtain ⟨hw,hl⟩:=M.sz g
 refine ⟨_,rfl,x,dx,_,rfl,hx,rfl,_,rfl,x,dx,_,rfl,hx,rfl,_,rfl,x,ka,b,j,low,L,rs,cs,r,rfl,M,g,fun v hv=>?_⟩
 refine ⟨L,M.hL,v,low,r,rfl,hv,by omega,fun u H1 s1 hu=>?_⟩
 refine ⟨_,rfl,szb rfl,fun p hp=>?_⟩
 obtain ⟨H2,gz,s2,e2⟩:=nwH hp (.tup [.int (j:Int)])
 rw [gz]
 have s12:=s1.trans s2
 exact ⟨x,ka,b,p,u,low,L,rs,cs,_,[(j:Int)],rfl,M.same s12,hu.same s2,e2,flp_in hw,by rw [List.length_map];omega,hn,q.of s12⟩
theorem q420 (z:Bz K mg cA cB cC cD cG):MCal P w K mg base 1 cG "many" ["self"] (sp_M_many K cG):=by
 have sc:=q650
 refine z.d_M_many.cal z.o_Makes fun f fd F=>F.k sc fun _ _ _ s H _ Q _ hr h=>?_
 obtain ⟨x,ka,b,low,L,rs,cs,rfl,M,q⟩:=h
 refine ⟨_,(q15 (q18 (pln z.len_ (q10 (q157 (pv 0) rfl) q11)))),?_⟩
 obtain ⟨dx,hx⟩:=M.o
 obtain ⟨es,hes,hel,_⟩:=M.hk
 refine ⟨_,rfl,x,_,dx,_,_,rfl,hx,z.o_Makes,z.nK,rfl,ka,_,rfl,.inl (SqL.of hes),?_⟩
 rw [hel]
 exact q
theorem q421 (z:Bz K mg cA cB cC cD cG):MCal P w K mg base 2 cG "came_of" pn0 (sp_M_came_of K cG):=by
 have sc:=q395
 refine z.d_M_came_of.cal z.o_Makes fun f fd F=>F.k sc fun _ _ _ s H _ Q _ hr h=>?_
 obtain ⟨x,ka,b,j,low,L,rs,cs,c,rfl,M,g,q⟩:=h
 refine ⟨_,(q15 (q18 (q68 q125 (by rfl) z.list_ q433 (q10 (pix q32 (q37 (q307 z) hr.m (pv 0) (q10 (pv 1) q11)) q13) q11)))),?_⟩
 obtain ⟨dx,hx⟩:=M.o
 obtain ⟨r,g'⟩:=M.cam g
 exact ⟨_,rfl,x,dx,_,rfl,hx,rfl,_,rfl,x,ka,b,j,low,L,rs,cs,r,c,rfl,M,g',g,fun p a v e1 e2 e3=>⟨p,_,_,_,rfl,rfl,SqT.of e1,rfl,a,_,rfl,.inr (SqT.of e3),fun D hD=>q _ D (q16 hD _) q14 hD⟩⟩
def RwsAt (H:Hp) (rl:Addr) (rs:LL):Prop:=∃ ras:List Addr,H rl=some (.lst (ras.map V.ref))/\ras.length=rs.length /\ ∀ (j:Nat) (r:List Int),rs[j]? = some r -> ∃ ra,ras[j]? = some ra/\H ra=some (.lst (r.map V.int))
def Kp2 (p q:Addr) (H H':Hp):Prop:=∀ a o,a ≠ p->a ≠ q->H a=some o->H' a=some o
theorem q516 {l:List Addr} (P:PenM H pen) (h:H rl=some (.lst (l.map V.ref))):rl ≠ pen:=by
 obtain ⟨c,b,n,hp⟩:=P
 refine ne_of h hp ?_
 intro e
 cases l with
 | nil=>cases e
 | cons a l=>simp at e
theorem q422 {l:List Int} (P:PenM H pen) (h:H ra=some (.lst (l.map V.int))):ra ≠ pen:=by
 obtain ⟨c,b,n,hp⟩:=P
 refine ne_of h hp ?_
 intro e
 match l,e with
 | [],e=>cases e
 | [_],e=>simp at e
 | a::d::l,e=>simp at e
theorem Mks.first {low:Int} {L:Nat} {rs:LL} (M:Mks C H x ka b low L rs cs) (h:0 < rs.length):∃ (p:Addr) (es:List V),H ka=some (.lst (.ref p::es)):=by
 obtain ⟨es,e1,e2,e3⟩:=M.hk
 have:=M.len
 obtain ⟨p,a,v,q1,_⟩:=e3 0 _ _ (List.getElem?_eq_getElem h) (List.getElem?_eq_getElem (by omega))
 cases es with
 | nil=>cases q1
 | cons u es=>
  obtain rfl:u = .ref p:=Option.some.inj q1
  exact ⟨p,es,e1⟩
theorem Mks.pen {C:Addr} {H:Hp} {x ka b pen:Addr} {low:Int} {L:Nat} {rs cs:LL} (M:Mks C H x ka b low L rs cs) (h:0 < rs.length) (P:PenM H pen):ka ≠ pen:=by
 obtain ⟨p,es,e⟩:=M.first h
 obtain ⟨c,b,n,hp⟩:=P
 exact ne_of e hp (by intro z;cases z)
theorem Mks.ra {C:Addr} {H:Hp} {x ka b ra:Addr} {low:Int} {L:Nat} {rs cs:LL} {l:List Int} (M:Mks C H x ka b low L rs cs) (h:0 < rs.length) (hr:H ra=some (.lst (l.map V.int))):ra ≠ ka:=by
 obtain ⟨p,es,e⟩:=M.first h
 refine ne_of hr e ?_
 intro z
 cases l with
 | nil=>cases z
 | cons a l=>simp at z
abbrev T3:=Nat × Nat × Nat
def TAt (H:Hp) (x:V) (t:T3):Prop:=∃ p,x = .ref p/\H p=some (.tup [.int (t.1:Int),.int (t.2.1:Int),.int (t.2.2:Int)])
def TsAt (H:Hp) (xs:List V) (ts:List T3):Prop:=xs.length=ts.length /\ ∀ (j:Nat) (x:V) (t:T3),xs[j]? = some x->ts[j]? = some t->TAt H x t
theorem TAt.tk (h:TAt H x t) (k:TKeep H H'):TAt H' x t:=by
 obtain ⟨p,e,h⟩:=h
 exact ⟨p,e,(k _ _).1 h⟩
theorem TsAt.tk (h:TsAt H xs ts) (k:TKeep H H'):TsAt H' xs ts:=⟨h.1,fun j x t h1 h2=>(h.2 j x t h1 h2).tk k⟩
theorem TsAt.snoc (h:TsAt H xs ts) (hx:TAt H x t):TsAt H (xs++[x]) (ts++[t]):=by
 refine ⟨by rw [List.length_append,List.length_append,h.1] <;> rfl,fun j y k h1 h2=>?_⟩
 have hl:=h.1
 rcases q83 h1 with ⟨a1,a2⟩ | ⟨a1,a2⟩
 ·rcases q83 h2 with ⟨b1,b2⟩ | ⟨b1,b2⟩
  ·exact h.2 j y k a2 b2
  ·omega
 ·rcases q83 h2 with ⟨b1,b2⟩ | ⟨b1,b2⟩
  ·omega
  ·rw [a2,b2];exact hx
def TsOk (nss:LL) (ts:List T3):Prop:=∀ t ∈ ts,∃ ns,nss[t.1]? = some ns/\t.2.1<=t.2.2/\t.2.2<=ns.length
theorem RwsAt.kp (R:RwsAt H rl rs) (P:PenM H pen) (k:Keep pen H G):RwsAt G rl rs:=by
 obtain ⟨ras,h1,h2,h3⟩:=R
 refine ⟨ras,k _ _ (q516 P h1) h1,h2,fun j r g=>?_⟩
 obtain ⟨ra,g1,g2⟩:=h3 j r g
 exact ⟨ra,g1,k _ _ (q422 P g2) g2⟩
theorem two_of {ms fs:List Int} {n:Int} (hp:ms.Perm fs) (ho:ms.Pairwise (· <= ·)) (hl:fs.length=2) (hf:∀ x ∈ fs,0<=x/\x < n):∃ a b:Nat,ms=[(a:Int),(b:Int)]/\a<=b/\(b:Int) < n:=by
 have l2:ms.length=2:=by rw [hp.length_eq,hl]
 match ms,l2 with
 | [x,y],_=>
  have hx:=hf x (hp.mem_iff.mp (by simp))
  have hy:=hf y (hp.mem_iff.mp (by simp))
  have:x<=y:=by simpa using ho
  exact ⟨x.toNat,y.toNat,by rw [show ((x.toNat:Nat):Int)=x by omega,show ((y.toNat:Nat):Int)=y by omega],by omega,by omega⟩
inductive sp__law_some (u0:Fg) (vs:List V) (H:Hp) (Q:VK) (E:XK):Prop
 | mk (pen rl:Addr) (lg:Int) (rs:LL) (_:vs=[.ref pen,.ref rl,.int lg]) (_:PenM H pen) (_:RwsAt H rl rs) (_:0 < rs.length) (_:rs.length<=100) (_:(∀ r ∈ rs,r.length<=100)) (_:1<=lg) (_:lg<=8) (_:∀ (D:Addr) (ys:List V) (ts:List T3) (H':Hp),Keep pen H H'->PenM H' pen->H' D=some (.lst ys)->H D=none->TsAt H' ys ts->TsOk rs ts->0 < ts.length->ts.length<=8->Q (.ref D) H'):sp__law_some u0 vs H Q E
theorem q423 (z:Bz K mg cA cB cC cD cG):Cal P w K mg base 3 "_law_some" pn12 (sp__law_some K):=by
 have sc:=q391
 refine z.d__law_some.cal fun f fd F=>F.k sc fun _ _ _ s H _ Q _ hr h=>?_
 obtain ⟨pen,rl,lg,rs,rfl,P0,R0,hn0,hn1,hr100,g0,g1,q⟩:=h
 refine ⟨_,(q12 (pst 3 sc.nd (q36 q11))
 (q12 (q66 PassesOwn.never rfl (q52 rfl z.range_ (q10 (pe_op q40 q13 (pe_fn (q22 z) hr.m (by rfl) (q10 (pr 0) (q10 (pr 2) q11)))) q11)) (pgn 4 sc.nd)
 (q12 (pst 5 sc.nd (pe_fn (q22 z) hr.m (by rfl) (q10 (pr 0) (q10 (pln z.len_ (q10 (pr 1) q11)) q11))))
 (q12 (pst 6 sc.nd (pe_op q40 (pln z.len_ (q10 (pix q56 (pr 1) (pr 5)) q11)) q13))
 (q12 (q226 (q67 q364 (by rfl) z.sorted_ q236 (q10 (q109 (cl:=[("_law_size", s.heap.objs.size+1+1),("_law_pen_here", s.heap.objs.size+1+0)]) (cn:=["_law_size", "_law_pen_here"]) (N:=["_law_pen_here", "_law_size"]) (fr:=[0,6]) (sc0:=q17 q153) rfl (q52 rfl z.range_ (q10 q13 q11)) (fun C s₂ H₂ fp=>(pe_fn (q22 z) hr.m (by rfl) (q10 (pr 1) (q10 (pr 2) q11)))) (by with_unfolding_all rfl) ⟨by with_unfolding_all rfl,by with_unfolding_all rfl,trivial⟩ rfl rfl rfl cok rfl) q11)) (pg_lstT rfl (q35 (pgn 7 sc.nd) (q35 (pgn 8 sc.nd) q122))))
 (q12 (q322 (ps_if (q23 op_eq (pe_fn (q22 z) hr.m (by rfl) (q10 (pr 0) (q10 q13 q11))) q13 (q19 _))
 (q15 (ps_par (i:=7) (j:=8) rfl sc.nd rfl rfl (by decide) rfl rfl (q10 q13 (q10 (pe_op q146 (pr 6) q13) q11)) (by with_unfolding_all rfl)))
 q21))
 (q15 (q98 (pe_bm PySem.F.plainAttrs_list PySem.F.slot_list_append PySem.F.type_list_append q69 (pr 3) (q10 (q28 (q10 (pr 5) (q10 (pr 7) (q10 (pr 8) q11)))) q11)))))))))
 (q15 (q18 (pr 3))))),?_⟩
 refine q24 fun N_ y_=>?_
 refine ⟨szb rfl,fun D hD=>?_⟩
 have nD:D ≠ pen:=P0.fresh hD
 obtain ⟨H1,e1,s1,hD1⟩:=nwH hD (.lst [])
 rw [e1]
 have P1:=P0.same s1
 refine y_ _ _ (q24 fun N_ y_=>?_)
 refine ⟨pen,lg,rfl,P1,by omega,by omega,fun v H2 k2 P2 v0 v1=>?_⟩
 have k02:=(Keep.same s1).trans k2
 refine ⟨1+v,rfl,by omega,by omega,q61 (n:=(1+v).toNat) (fun i σ G=>∃ (a4 a5 a6 a7 a8:Option V) (ys:List V) (ts:List T3),σ=[some (.ref pen),some (.ref rl),some (.int lg),some (.ref D),a4,a5,a6,a7,a8]/\Keep pen H G/\PenM G pen/\G D=some (.lst ys)/\TsAt G ys ts/\TsOk rs ts/\ts.length=i)
  ⟨_,_,_,_,_,[],[],rfl,k02,P2,k2 _ _ nD hD1,⟨rfl,fun j x t h _=>by simp at h⟩,fun t ht=>absurd ht (by simp),rfl⟩ ?_ ?_⟩
 ·rintro i σ G hi ⟨a4,a5,a6,a7,a8,ys,ts,rfl,kG,PG,hDG,hT,hok,htl⟩
  obtain ⟨ras,hrl,hral,hrE⟩:=R0.kp P0 kG
  have hlm:(ras.map V.ref).length=rs.length:=by rw [List.length_map];exact hral
  refine q24 fun N_ y_=>?_
  refine ⟨rl,_,rfl,.inl (SqL.of hrl),pen,_,rfl,PG,by rw [hlm];omega,by rw [hlm];omega,fun mv G1 k1 P1 m0 m1=>?_⟩
  rw [hlm] at m1
  obtain ⟨m,rfl⟩:=Int.eq_ofNat_of_zero_le m0
  have gm:rs[m]? = some (rs[m]'(by omega)):=List.getElem?_eq_getElem _
  generalize rs[m]'(by omega)=r at gm
  have hl100:=hr100 r (List.mem_of_getElem? gm)
  obtain ⟨ra,gra,hra⟩:=hrE m r gm
  have hrl1:=k1 _ _ (q516 PG hrl) hrl
  have hra1:=k1 _ _ (q422 PG hra) hra
  refine y_ _ _ (q24 fun N_ y_=>?_)
  refine ⟨_,_,SqL.of hrl1,q39 (by rw [List.getElem?_map,gra];rfl),ra,_,rfl,.inl (SqL.of hra1),?_⟩
  rw [List.length_map]
  have k01:=kG.trans k1
  have hD1':=k1 _ _ nD hDG
  refine y_ _ _ (q24 fun N_ y_=>?_)
  refine ⟨2,rfl,by decide,by decide,fun D3 hD3=>?_⟩
  have n3p:D3 ≠ pen:=P1.fresh hD3
  have n3D:D ≠ D3:=q27 hD1' hD3
  have hD30:H D3=none:=P1.free k01 hD3
  refine q186 (n:=2) (szb rfl) (fun j us G=>∃ fs:List Int,us=fs.map V.int/\fs.length=j/\(∀ x ∈ fs,0<=x/\x < (r.length:Int)+1)/\G D3=some (.lst us)/\Keep pen H G/\PenM G pen/\G D=some (.lst ys)/\TKeep G1 G)
   ⟨[],rfl,rfl,fun x hx=>absurd hx (by simp),q14,k01.own hD30,P1.new hD3 _,by rw [q31 n3D];exact hD1',.same (q16 hD3 _)⟩ (fun j us G ⟨fs,e1,e2,_,e3,_⟩=>⟨e3,by rw [e1,List.length_map];exact e2⟩) ?_ ?_
  ·rintro j us G4 hj ⟨fs,rfl,hfl,hfb,h3,k4,P4,hD4,tk4⟩
   refine ⟨pen,_,rfl,P4,by omega,by omega,fun x G5 k5 P5 x0 x1=>?_⟩
   have h35:=k5 _ _ n3p h3
   obtain ⟨pc,hpc⟩:=P4.at
   refine ⟨h35,fs++[x],by rw [List.map_append];rfl,by rw [List.length_append,hfl];rfl,fun y hy=>?_,q14,(k4.trans k5).own hD30,P5.other n3p _,by rw [q31 n3D];exact k5 _ _ nD hD4,(tk4.trans (.keep k5 hpc)).trans (.set h35)⟩
   rcases List.mem_append.mp hy with h | h
   ·exact hfb y h
   ·rw [List.mem_singleton.mp h]
    exact ⟨x0,x1⟩
  rintro us G4 ⟨fs,rfl,hfl,hfb,h3,k4,P4,hD4,tk4⟩
  refine ⟨D3,fs,rfl,SqL.of h3,by omega,fun l ms hl hpm hord=>?_⟩
  obtain ⟨st,en,rfl,hse,hen⟩:=two_of hpm hord hfl hfb
  obtain ⟨G5,e5,s5,h5⟩:=nwH hl (.lst ([(st:Int),(en:Int)].map V.int))
  rw [e5]
  refine ⟨l,_,rfl,SqL.of h5,rfl,_,_,rfl,_,_,rfl,rfl,?_⟩
  have kA:=k4.trans (Keep.same s5)
  have PA:=P4.same s5
  have hDA:=s5 _ _ hD4
  have tkA:=tk4.trans (.same s5)
  obtain ⟨pc,hpc⟩:=PG.at
  have tkG:TKeep G G5:=TKeep.trans (.keep k1 hpc) tkA
  refine y_ _ _ (q24 fun N_ y_=>?_)
  refine ⟨fun σ G6=>∃ (st en:Nat),σ=[some (.ref pen),some (.ref rl),some (.int lg),some (.ref D),some (.int (0+i)),some (.int (m:Int)),some (.int ((r.length:Int)+1)),some (.int (st:Int)),some (.int (en:Int))]/\st<=en/\en<=r.length/\Keep pen H G6/\PenM G6 pen/\G6 D=some (.lst ys)/\TKeep G G6,?_,?_⟩
  ·obtain ⟨pc5,hpc5⟩:=PA.at
   refine ⟨pen,3,rfl,PA,by decide,by decide,fun x G6 k6 P6 _ _=>⟨rfl,ite2 (fun _=>?_) (fun _=>⟨st,en,rfl,hse,by omega,kA.trans k6,P6,k6 _ _ nD hDA,tkG.trans (.keep k6 hpc5)⟩)⟩⟩
   exact ⟨_,_,rfl,0,r.length,by dsimp only;rw [show ((r.length:Int)+1 - 1)=(r.length:Int) by omega];rfl,Nat.zero_le _,Nat.le_refl _,kA.trans k6,P6,k6 _ _ nD hDA,tkG.trans (.keep k6 hpc5)⟩
  ·rintro σ G6 ⟨st,en,rfl,hse,hen,k6,P6,hD6,tk6⟩
   refine y_ _ _ ?_
   refine ⟨.inl ⟨rfl,_,SqL.of hD6⟩,szb rfl,fun t ht=>?_⟩
   obtain ⟨G7,e7,s7,h7⟩:=nwH ht (.tup [.int (m:Int),.int (st:Int),.int (en:Int)])
   rw [e7]
   have hD7:=s7 _ _ hD6
   have hyl:=hT.1
   refine ⟨D,ys,_,rfl,rfl,hD7,q54 (by omega),?_⟩
   have tk7:=(tk6.trans (.same s7)).trans (.set hD7 (zs:=ys++[.ref t]))
   refine ⟨_,_,_,_,_,ys++[.ref t],ts++[(m,st,en)],rfl,(k6.trans (Keep.same s7)).own hD,(P6.same s7).other nD _,q14,(hT.tk tk7).snoc ⟨t,rfl,(TKeep.set hD7 _ _).1 h7⟩,fun u hu=>?_,by rw [List.length_append,htl];rfl⟩
   rcases List.mem_append.mp hu with h | h
   ·exact hok u h
   ·rw [List.mem_singleton.mp h]
    exact ⟨r,gm,hse,hen⟩
 ·rintro σ G ⟨a4,a5,a6,a7,a8,ys,ts,rfl,kG,PG,hDG,hT,hok,htl⟩
  refine y_ _ _ ?_
  exact q D ys ts G kG PG hDG hD hT hok (by omega) (by omega)
theorem q424 (k:TKeep H H') (h:SqT K H a xs):SqT K H' a xs:=by
 rcases h with (h | ⟨o,h⟩) | h
 ·exact .inl (.inl ((k _ _).1 h))
 ·exact .inl (.inr ⟨o,(k _ _).2 o h⟩)
 ·exact .inr h
theorem q95 {K:Fg} {H H':Hp} (k:TKeep H H'):∀ {zs:List V} {vs:List TS.I3},Paired (q79 K H) zs vs->Paired (q79 K H') zs vs
 | _,_,.nil=>.nil
 | _,_,.cons ⟨a,e,h⟩ t=>.cons ⟨a,e,q424 k h⟩ (q95 k t)
theorem q347 {K:Fg} {H:Hp}:∀ {zs zs':List V} {vs vs':List TS.I3},Paired (q79 K H) zs vs->Paired (q79 K H) zs' vs'->Paired (q79 K H) (zs++zs') (vs++vs')
 | _,_,_,_,.nil,h=>h
 | _,_,_,_,.cons a t,h=>.cons a (q347 t h)
theorem q145 {K:Fg} {H:Hp}:∀ {zs:List V} {vs:List TS.I3},Paired (q79 K H) zs vs->zs.length=vs.length
 | _,_,.nil=>rfl
 | _,_,.cons _ t=>by rw [List.length_cons,List.length_cons,q145 t]
noncomputable def thR (row:List Int) (j st:Int) (b n:Nat):List TS.I3:=(List.range n).map fun k=>(row.getD (b+k) 0,j,st+(k:Int))
theorem q348 (row:List Int) (j st:Int) (b n:Nat):thR row j st b (n+1)=thR row j st b n++[(row.getD (b+n) 0,j,st+(n:Int))]:=by
 unfold thR
 rw [List.range_succ,List.map_append]
 rfl
noncomputable def thF (nss:LL):Nat->List T3->List TS.I3
 | _,[]=>[]
 | j,t::r=>thR ((nss[t.1]?).getD []) (j:Int) (t.2.1:Int) t.2.1 (t.2.2 - t.2.1)++thF nss (j+1) r
theorem q517 (nss:LL) (t:T3):∀ (l:List T3) (j:Nat),thF nss j (l++[t])=thF nss j l++thR ((nss[t.1]?).getD []) ((j+l.length:Nat):Int) (t.2.1:Int) t.2.1 (t.2.2 - t.2.1)
 | [],j=>by
  show _++[]=[]++_
  rw [List.append_nil,List.nil_append]
  rfl
 | x::l,j=>by
  show _++thF nss (j+1) (l++[t])=(_++thF nss (j+1) l)++_
  rw [q517 nss t l (j+1),List.append_assoc,List.length_cons,show j+1+l.length=j+(l.length+1) by omega]
theorem thR_len (row:List Int) (j st:Int) (b n:Nat):(thR row j st b n).length=n:=by unfold thR;rw [List.length_map,List.length_range]
theorem q466:∀ (ts:List T3) (j:Nat),TsOk nss ts->(∀ ns ∈ nss,ns.length<=100)->(thF nss j ts).length<=100 * ts.length
 | [],j,_,_=>by simp [thF]
 | t::r,j,h,hn=>by
  have ih:=q466 r (j+1) (fun u hu=>h u (List.mem_cons_of_mem _ hu)) hn
  obtain ⟨ns,h1,h2,h3⟩:=h t (List.mem_cons_self ..)
  have:=hn ns (List.mem_of_getElem? h1)
  show List.length (_++_)<=_
  rw [List.length_append,thR_len,List.length_cons]
  omega
theorem q682 {row:List Int} {j st:Int} {b e:Nat} (h:e<=row.length):(thR row j st b (e - b)).map (·.1)=(row.take e).drop b:=by
 apply List.ext_getElem?
 intro k
 unfold thR
 rw [List.map_map,List.getElem?_map,List.getElem?_drop,List.getElem?_take]
 by_cases c:k < e - b
 ·rw [List.getElem?_range c,if_pos (by omega)]
  have hk:b+k < row.length:=by omega
  show some (row.getD (b+k) 0)=_
  simp [List.getD_eq_getElem?_getD,hk]
 ·rw [List.getElem?_eq_none (by rw [List.length_range];omega),if_neg (by omega)]
  rfl
noncomputable def gOf (low:Int) (nss:LL) (t:T3):G3:=(((nss[t.1]?).getD []).map fun n=>n - low,t.2.1,t.2.2)
theorem q467 (low:Int):∀ (ts:List T3) (j:Nat),TsOk nss ts->(thF nss j ts).map (·.1)=(Wh (ts.map (gOf low nss))).map fun o=>low+o
 | [],j,_=>rfl
 | t::r,j,h=>by
  have ih:=q467 low r (j+1) fun u hu=>h u (List.mem_cons_of_mem _ hu)
  obtain ⟨ns,h1,h2,h3⟩:=h t (List.mem_cons_self ..)
  show List.map _ (_++_)=_
  rw [List.map_append,ih,h1,Option.getD_some,q682 h3]
  unfold Wh
  rw [List.map_cons,List.flatMap_cons,List.map_append]
  congr 1
  unfold sel gOf
  rw [h1,Option.getD_some,List.map_drop,List.map_take,List.map_map]
  have e:((fun o=>low+o) ∘ fun n=>n - low)=(id:Int->Int):=by
   funext n
   show low+(n - low)=n
   omega
  rw [e,List.map_id]
inductive sp__law_things (K:Fg) (vs:List V) (H:Hp) (Q:VK) (E:XK):Prop
 | mk (ra sa:Addr) (ys:List V) (nss:LL) (ts:List T3) (_:vs=[.ref ra,.ref sa]) (_:RwsAt H ra nss) (_:(∀ ns ∈ nss,ns.length<=100)) (_:SqL K H sa ys) (_:TsAt H ys ts) (_:TsOk nss ts) (_:ts.length<=8) (_:∀ (l:Addr) (zs:List V) (vs:List TS.I3) (H':Hp),Same H H'->H' l=some (.lst zs)->H l=none->Paired (q79 K H') zs vs->vs.Perm (thF nss 0 ts)->(vs.Pairwise fun x y=>TS.lex3 y x=false)->Q (.ref l) H'):sp__law_things K vs H Q E
theorem q282 (z:Bz K mg cA cB cC cD cG):Cal P w K mg base 1 "_law_things" ["_law_rows", "_law_some_here"] (sp__law_things K):=by
 have sc:=q277
 refine z.d__law_things.cal fun f fd F=>F.k sc fun _ _ _ s H _ Q _ hr h=>?_
 obtain ⟨ra,sa,ys,nss,ts,rfl,⟨ras,hra,hrl,hrE⟩,hn60,hsa,hT,hok,htl,q⟩:=h
 refine ⟨_,(q12 (pst 2 sc.nd (q36 q11))
 (q12 (q66 PassesOwn.never rfl (q52 rfl z.range_ (q10 (pln z.len_ (q10 (pv 1) q11)) q11)) (pgn 3 sc.nd)
 (q12 (q226 (pix q47 (pv 1) (pv 3)) (q225 rfl (q35 (pgn 4 sc.nd) (q35 (pgn 5 sc.nd) (q35 (pgn 6 sc.nd) q122)))))
 (q15 (q98 (pe_bm PySem.F.plainAttrs_list PySem.F.slot_list_extend PySem.F.type_list_extend q601 (pv 2) (q10 (q109 (cl:=[("_law_rows", s.heap.objs.size+1+0),("_law_make", s.heap.objs.size+1+2),("_law_j", s.heap.objs.size+1+1)]) (cn:=["_law_rows", "_law_make", "_law_j"]) (N:=["_law_j", "_law_make", "_law_rows"]) (fr:=[3,4,0]) (sc0:=q17 q111) rfl (q584 rfl z.range_ (q10 (pv 5) (q10 (pv 6) q11))) (fun C s₂ H₂ fp=>(q28 (q10 (pix (q481 (K:=K) rfl) (pix (q481 (K:=K) rfl) (pv 3) (pv 2)) (pv 0)) (q10 (pv 1) (q10 (pv 0) q11))))) (by with_unfolding_all rfl) ⟨by with_unfolding_all rfl,by with_unfolding_all rfl,by with_unfolding_all rfl,trivial⟩ rfl rfl rfl cok rfl) q11))))))
 (q15 (q18 (q67 (q368 (K:=K) rfl) (by rfl) z.sorted_ q236 (q10 (pv 2) q11)))))),?_⟩
 refine q24 fun N_ y_=>?_
 refine ⟨szb rfl,fun D hD=>?_⟩
 have s1:=q16 hD (.lst [])
 refine y_ _ _ (q24 fun N_ y_=>?_)
 refine ⟨_,rfl,sa,_,rfl,.inl (s1.seq hsa),_,rfl,by omega,by have:=hT.1;omega,q61 (n:=ys.length) (fun i σ H2=>∃ (zs:List V) (v3 v4 v5 v6:Option V),σ=[some (.ref ra),some (.ref sa),some (.ref D),v3,v4,v5,v6]/\Same H H2/\H2 D=some (.lst zs)/\Paired (q79 K H2) zs (thF nss 0 (ts.take i)))
  ⟨[],_,_,_,_,rfl,s1,q14,.nil⟩ ?_ ?_⟩
 ·rintro i σ H2 hi ⟨zs,v3,v4,v5,v6,rfl,s2,hD2,hz2⟩
  have hyl:i < ys.length:=hi
  have hi:i < ts.length:=by rw [<- hT.1];exact hyl
  have gi:ts[i]? = some ts[i]:=List.getElem?_eq_getElem hi
  generalize ts[i]=t at gi
  have gy:ys[i]? = some ys[i]:=List.getElem?_eq_getElem hyl
  generalize ys[i]=y at gy
  obtain ⟨p,rfl,hp⟩:=hT.2 i y t gy gi
  obtain ⟨ns,n1,n2,n3⟩:=hok t (List.mem_of_getElem? gi)
  have hnl:=hn60 ns (List.mem_of_getElem? n1)
  obtain ⟨r,gr,hr1⟩:=hrE t.1 ns n1
  have gx:(ras.map V.ref)[t.1]? = some (.ref r):=by rw [List.getElem?_map,gr];rfl
  have hok2:TsOk nss (ts.take i):=fun u hu=>hok u (List.mem_of_mem_take hu)
  have hzl:zs.length<=100 * i:=by
   rw [q145 hz2]
   refine Nat.le_trans (q466 (ts.take i) 0 hok2 hn60) ?_
   rw [List.length_take]
   exact Nat.mul_le_mul_left _ (Nat.min_le_left _ _)
  refine q24 fun N_ y_=>?_
  refine ⟨_,rfl,_,rfl,sa,_,_,_,rfl,rfl,s2.seq hsa,(by rw [Int.zero_add];exact q39 gy),p,_,rfl,SqT.of (s2 _ _ hp),rfl,_,_,rfl,_,_,rfl,_,_,rfl,rfl,?_⟩
  refine y_ _ _ ?_
  refine ⟨_,rfl,.inl ⟨rfl,_,SqL.of hD2⟩,_,rfl,_,rfl,(t.2.1:Int),(t.2.2:Int),rfl,⟨by omega,by omega,by omega,by omega⟩,fun D3 hD3=>?_⟩
  have en:((t.2.2:Int) - (t.2.1:Int)).toNat=t.2.2 - t.2.1:=by omega
  rw [en]
  refine q186 (lo:=(t.2.1:Int)) (n:=t.2.2 - t.2.1) (sz (by omega)) (fun k us H3=>us.length=k/\Same H2 H3/\H3 D3=some (.lst us)/\Paired (q79 K H3) us (thR ns (0+(i:Int)) (t.2.1:Int) t.2.1 k))
   ⟨rfl,q16 hD3 _,q14,.nil⟩ (fun k us H3 ⟨e1,_,e3,_⟩=>⟨e3,e1⟩) ?_ ?_
  ·rintro k us H3 hk ⟨e1,s3,e3,hp3⟩
   have s03:=s2.trans s3
   have hrow:atI (ns.map V.int) ((t.2.1:Int)+(k:Int))=some (.int (ns.getD (t.2.1+k) 0)):=by
    have hb:t.2.1+k < ns.length:=by omega
    show atI _ ((t.2.1+k:Nat):Int)=_
    refine q39 ?_
    rw [List.getElem?_map,List.getElem?_eq_getElem hb]
    simp [List.getD_eq_getElem?_getD,hb]
   refine ⟨_,rfl,_,rfl,ra,_,_,_,rfl,rfl,SqL.of (s03 _ _ hra),q39 gx,_,rfl,r,_,_,_,rfl,rfl,SqL.of (s03 _ _ hr1),hrow,_,rfl,_,rfl,szb rfl,fun p4 hp4=>?_⟩
   have s4:=q16 hp4 (.tup [.int (ns.getD (t.2.1+k) 0),.int (0+(i:Int)),.int ((t.2.1:Int)+(k:Int))])
   have e4:=s4 _ _ e3
   have tk:TKeep (upd H3 p4 (.tup [.int (ns.getD (t.2.1+k) 0),.int (0+(i:Int)),.int ((t.2.1:Int)+(k:Int))])) (upd (upd H3 p4 (.tup [.int (ns.getD (t.2.1+k) 0),.int (0+(i:Int)),.int ((t.2.1:Int)+(k:Int))])) D3 (.lst (us++[.ref p4]))):=TKeep.set e4
   refine ⟨e4,by rw [List.length_append,e1] <;> rfl,Same.own (s3.trans s4) hD3,q14,?_⟩
   rw [q348]
   exact q347 (q95 tk (q95 (.same s4) hp3)) (.cons ⟨p4,rfl,q424 tk (SqT.of q14)⟩ .nil)
  ·rintro us H3 ⟨e1,s3,e3,hp3⟩
   have hD3':=s3 _ _ hD2
   refine ⟨D,D3,_,_,rfl,rfl,hD3',e3,sz (by omega),?_⟩
   have tk:TKeep H3 (upd H3 D (.lst (zs++us))):=TKeep.set hD3'
   refine ⟨zs++us,_,_,_,_,rfl,Same.own (s2.trans s3) hD,q14,?_⟩
   have et:ts.take (i+1)=ts.take i++[t]:=by rw [List.take_add_one,gi];rfl
   rw [et,q517,n1,Option.getD_some,List.length_take,Nat.min_eq_left (Nat.le_of_lt hi),Nat.zero_add]
   rw [Int.zero_add] at hp3
   exact q347 (q95 tk (q95 (.same s3) hz2)) (q95 tk hp3)
 ·rintro σ H2 ⟨zs,v3,v4,v5,v6,rfl,s2,hD2,hz2⟩
  rw [hT.1,List.take_length] at hz2
  refine y_ _ _ ?_
  refine ⟨_,rfl,D,zs,_,rfl,SqL.of hD2,hz2,fun l us vs hl hpm hpr hsrt=>?_⟩
  have s3:=q16 hl (.lst us)
  have hl0:H l=none:=by
   cases e:H l with
   | none=>rfl
   | some o=>have z:=s2 _ _ e;rw [hl] at z;cases z
  refine q l us vs _ (s2.trans s3) q14 hl0 (q95 (.same s3) hpr) ?_ hsrt
  have z:=hpm.map Prod.snd
  rw [List.map_snd_zip (by rw [q145 hpr];exact Nat.le_refl _),List.map_snd_zip (by rw [q145 hz2];exact Nat.le_refl _)] at z
  exact z
noncomputable def f2 (p:TS.I2):Key × V:=(Sum.inl p.1,.int p.2)
theorem val_f2 (ks:List TS.I2) (w:Int):valV (ks.map f2) (Sum.inl w)=(ks.find? fun p=>decide (p.1=w)).map fun p=>V.int p.2:=by
 unfold valV
 rw [List.find?_map,Option.map_map]
 have e:((fun kv:Key × V=>decide (kv.1=(Sum.inl w:Key))) ∘ f2)=fun p:TS.I2=>decide (p.1=w):=by
  funext p
  show decide ((Sum.inl p.1:Key)=Sum.inl w)=decide (p.1=w)
  by_cases c:p.1=w
  ·rw [decide_eq_true c,decide_eq_true (by rw [c])]
  ·rw [decide_eq_false c,decide_eq_false (fun z=>c (Sum.inl.inj z))]
 rw [e]
 rfl
noncomputable def addK (ks:List TS.I2) (w m:Int):List TS.I2:=if (ks.any fun p=>decide (p.1=w))=true then ks.map (fun p=>if p.1=w then (p.1,m) else p) else ks++[(w,m)]
theorem put_f2 (ks:List TS.I2) (w m:Int):putK (ks.map f2) (Sum.inl w) (.int m)=(addK ks w m).map f2:=by
 unfold putK addK
 have e:((ks.map f2).any fun kv=>decide (kv.1=(Sum.inl w:Key)))=ks.any fun p=>decide (p.1=w):=by
  rw [List.any_map]
  congr 1
  funext p
  show decide ((Sum.inl p.1:Key)=Sum.inl w)=decide (p.1=w)
  by_cases c:p.1=w
  ·rw [decide_eq_true c,decide_eq_true (by rw [c])]
  ·rw [decide_eq_false c,decide_eq_false (fun z=>c (Sum.inl.inj z))]
 rw [e]
 by_cases c:(ks.any fun p=>decide (p.1=w))=true
 ·rw [if_pos c,if_pos c,List.map_map,List.map_map]
  refine List.map_congr_left fun p _=>?_
  show (if (Sum.inl p.1:Key)=Sum.inl w then ((Sum.inl p.1:Key),V.int m) else f2 p)=f2 (if p.1=w then (p.1,m) else p)
  by_cases d:p.1=w
  ·rw [if_pos (by rw [d]),if_pos d];rfl
  ·rw [if_neg (fun z=>d (Sum.inl.inj z)),if_neg d]
 ·rw [if_neg c,if_neg c,List.map_append]
  rfl
def CntOf (ks:List TS.I2) (ws:List Int):Prop:=(ks.map (·.1)).Nodup/\(∀ w m,(w,m) ∈ ks ↔ (m=((ws.count w:Nat):Int)/\0 < m))/\ks.length<=ws.length
theorem cnt_nil:CntOf [] []:=⟨List.nodup_nil,fun w m=>⟨fun h=>absurd h (by simp),fun ⟨h1,h2⟩=>by simp at h1;omega⟩,Nat.le_refl _⟩
theorem q518 {ks:List TS.I2} {ws:List Int} (h:CntOf ks ws) (w:Int):((ks.find? fun p=>decide (p.1=w)).map fun p=>V.int p.2).getD (.int 0) = .int ((ws.count w:Nat):Int):=by
 cases e:ks.find? fun p=>decide (p.1=w) with
 | none=>
  show V.int 0=_
  have n:=List.find?_eq_none.mp e
  have z:ws.count w=0:=by
   apply Classical.byContradiction
   intro c
   have hm:=(h.2.1 w ((ws.count w:Nat):Int)).mpr ⟨rfl,by omega⟩
   exact n _ hm (decide_eq_true rfl)
  rw [z]
  rfl
 | some p=>
  have hm:=List.mem_of_find?_eq_some e
  have hz:=List.find?_some e
  have hw:p.1=w:=of_decide_eq_true hz
  obtain ⟨w',m⟩:=p
  cases hw
  show V.int m=_
  rw [((h.2.1 w' m).mp hm).1]
theorem cnt_add {ws:List Int} (h:CntOf ks ws) (w:Int):CntOf (addK ks w (((ws.count w:Nat):Int)+1)) (ws++[w]):=by
 obtain ⟨h1,h2,h3⟩:=h
 have hc:∀ x,(ws++[w]).count x=ws.count x+if x=w then 1 else 0:=fun x=>by
  rw [List.count_append]
  congr 1
  by_cases c:x=w
  ·subst c;simp
  ·rw [if_neg c,List.count_eq_zero];simpa using c
 unfold addK
 by_cases c:(ks.any fun p=>decide (p.1=w))=true
 ·rw [if_pos c]
  refine ⟨?_,fun x m=>?_,?_⟩
  ·rw [List.map_map]
   have e:((fun x:TS.I2=>x.1) ∘ fun p:TS.I2=>if p.1=w then (p.1,((ws.count w:Nat):Int)+1) else p)=fun p=>p.1:=by
    funext p
    show (if p.1=w then (p.1,((ws.count w:Nat):Int)+1) else p).1=p.1
    by_cases d:p.1=w
    ·rw [if_pos d]
    ·rw [if_neg d]
   rw [e]
   exact h1
  ·rw [List.mem_map,hc]
   constructor
   ·rintro ⟨p,hp,e⟩
    by_cases d:p.1=w
    ·rw [if_pos d] at e
     cases e
     rw [if_pos d,d]
     omega
    ·rw [if_neg d] at e
     subst e
     have d':¬ x=w:=d
     rw [if_neg d']
     exact (h2 x m).mp hp
   ·rintro ⟨e1,e2⟩
    by_cases d:x=w
    ·subst d
     rw [if_pos rfl] at e1
     obtain ⟨p,hp,hd⟩:=List.any_eq_true.mp c
     have hd:=of_decide_eq_true hd
     exact ⟨p,hp,by rw [if_pos hd,hd];exact Prod.ext rfl (by show _=m;omega)⟩
    ·rw [if_neg d] at e1
     exact ⟨(x,m),(h2 x m).mpr ⟨e1,e2⟩,if_neg d⟩
  ·rw [List.length_map,List.length_append]
   exact Nat.le_trans h3 (Nat.le_add_right _ _)
 ·rw [if_neg c]
  have hn:∀ p ∈ ks,p.1 ≠ w:=fun p hp z=>c (List.any_eq_true.mpr ⟨p,hp,decide_eq_true z⟩)
  have z:ws.count w=0:=by
   apply Classical.byContradiction
   intro q
   exact hn _ ((h2 w ((ws.count w:Nat):Int)).mpr ⟨rfl,by omega⟩) rfl
  refine ⟨?_,fun x m=>?_,by rw [List.length_append,List.length_append];exact Nat.add_le_add_right h3 1⟩
  ·rw [List.map_append]
   refine List.nodup_append.mpr ⟨h1,by simp,fun x hx y hy e=>?_⟩
   obtain ⟨p,hp,rfl⟩:=List.mem_map.mp hx
   have:y=w:=by simpa using hy
   exact hn p hp (by rw [e,this])
  ·rw [List.mem_append,hc,h2 x m]
   constructor
   ·rintro (⟨e1,e2⟩ | e)
    ·have d:¬ x=w:=fun d=>by subst d;omega
     rw [if_neg d]
     exact ⟨e1,e2⟩
    ·cases List.mem_singleton.mp e
     rw [if_pos rfl,z]
     exact ⟨rfl,by decide⟩
   ·rintro ⟨e1,e2⟩
    by_cases d:x=w
    ·subst d
     rw [if_pos rfl,z] at e1
     refine .inr (List.mem_singleton.mpr (Prod.ext rfl ?_))
     show m=_
     rw [z]
     exact e1
    ·rw [if_neg d] at e1
     exact .inl ⟨e1,e2⟩
theorem eq_mem:∀ {a b:List P2},a.Pairwise (fun p q=>p.1 < q.1)->b.Pairwise (fun p q=>p.1 < q.1)->(∀ p,p ∈ a ↔ p ∈ b)->a=b
 | [],[],_,_,_=>rfl
 | [],y::b,_,_,h=>absurd ((h y).mpr List.mem_cons_self) (by simp)
 | x::a,[],_,_,h=>absurd ((h x).mp List.mem_cons_self) (by simp)
 | x::a,y::b,ha,hb,h=>by
  obtain ⟨a1,a2⟩:=List.pairwise_cons.mp ha
  obtain ⟨b1,b2⟩:=List.pairwise_cons.mp hb
  have e:x=y:=by
   rcases List.mem_cons.mp ((h x).mp List.mem_cons_self) with e | hx
   ·exact e
   ·rcases List.mem_cons.mp ((h y).mpr List.mem_cons_self) with e | hy
    ·exact e.symm
    ·have:=b1 x hx
     have:=a1 y hy
     omega
  subst e
  refine congrArg (x :: ·) (eq_mem a2 b2 fun p=>⟨fun hp=>?_,fun hp=>?_⟩)
  ·rcases List.mem_cons.mp ((h p).mp (List.mem_cons_of_mem _ hp)) with e | hx
   ·have:=a1 p hp
    rw [e] at this
    omega
   ·exact hx
  ·rcases List.mem_cons.mp ((h p).mpr (List.mem_cons_of_mem _ hp)) with e | hx
   ·have:=b1 p hp
    rw [e] at this
    omega
   ·exact hx
theorem cnt_one {ws us:List Int} {low n:Int} (h:ws.Perm (us.map fun o=>low+o)):ws.count n=us.count (n - low):=by
 rw [h.count_eq,List.count_eq_countP,List.countP_map,List.count_eq_countP]
 refine List.countP_congr fun o _=>?_
 show (low+o == n)=true ↔ (o == n - low)=true
 rw [beq_iff_eq,beq_iff_eq]
 omega
theorem q349:∀ {zs:List V} {vs:List TS.I3},Paired (q79 K H) zs vs -> ∀ {j:Nat} {x:V},zs[j]? = some x -> ∃ t,vs[j]? = some t/\q79 K H x t
 | _,_,.nil,j,x,h=>by simp at h
 | _,_,.cons a _,0,x,h=>by cases h;exact ⟨_,rfl,a⟩
 | _,_,.cons _ t,j+1,x,h=>q349 t (j:=j) (by simpa using h)
inductive sp__law_manys (K:Fg) (vs:List V) (H:Hp) (Q:VK) (E:XK):Prop
 | mk (D:Addr) (zs:List V) (ts:List TS.I3) (_:vs=[.ref D]) (_:SqL K H D zs) (_:Paired (q79 K H) zs ts) (_:ts.length<=900) (_:∀ (H':Hp) (l:Addr) (ys:List V) (ps:List P2),Same H H'->H' l=some (.lst ys)->H l=none->AllAt PsR H' ys ps->(ps.Pairwise fun p q=>p.1 < q.1)->(∀ w m,(w,m) ∈ ps ↔ (m=(((ts.map (·.1)).count w:Nat):Int)/\0 < m))->Q (.ref l) H'):sp__law_manys K vs H Q E
theorem q350 (z:Bz K mg cA cB cC cD cG):Cal P w K mg base 1 "_law_manys" ["_law_things_here"] (sp__law_manys K):=by
 have sc:=q328
 refine z.d__law_manys.cal fun f fd F=>F.k sc fun _ _ _ s H _ Q _ hr h=>?_
 obtain ⟨D,zs,ts,rfl,hD,hT,hl,q⟩:=h
 refine ⟨_,(q12 (pst 1 sc.nd pe_dnewK)
 (q12 (q66 PassesOwn.never rfl (q50 (pr 0)) (q225 rfl (q35 (pgn 2 sc.nd) (q35 (pgn 3 sc.nd) (q35 (pgn 4 sc.nd) q122))))
 (q15 (ps_dput (Nat.lt_of_le_of_lt (Nat.add_le_add_left (by decide) _) hr.units) (pr 1) (pr 2) (pe_op q40 (pe_dget2 (Nat.lt_of_le_of_lt (Nat.add_le_add_left (by decide) _) hr.units) (pr 1) (pr 2) q13 ⟨rfl,rfl,rfl,rfl⟩) q13) rfl)))
 (q15 (q18 (q109 (cl:=[("_law_found", s.heap.objs.size+1+0)]) (cn:=["_law_found"]) (N:=["_law_found"]) (fr:=[1]) (sc0:=q17 q132) rfl (q50 (q67 (q371 rfl) (by rfl) z.sorted_ q236 (q10 (pr 1) q11))) (fun C s₂ H₂ fp=>(q28 (q10 (pr 0) (q10 (pe_dget (Nat.lt_of_le_of_lt (Nat.add_le_add_left (by decide) _) hr.units) (pr 1) (pr 0) (by intro _ _;rfl)) q11)))) (by with_unfolding_all rfl) ⟨by with_unfolding_all rfl,trivial⟩ rfl rfl rfl cok rfl))))),?_⟩
 refine fun d hd=>?_
 have s1:=q16 hd (.dK [])
 have hzl:=q145 hT
 refine ⟨D,rfl,⟨_,s1.seq hD⟩,q215 (K:=K) (a:=D) (xs:=zs) (fun j σ G=>∃ (ks:List TS.I2) (v2 v3 v4:Option V),σ=[some (.ref D),some (.ref d),v2,v3,v4]/\Same H G/\G d=some (.dK (ks.map f2))/\CntOf ks ((ts.map (·.1)).take j)) ⟨[],_,_,_,rfl,s1,q14,cnt_nil⟩ (fun j σ G _ ⟨_,_,_,_,_,s,_⟩=>s.seq hD) ?_ ?_⟩
 ·rintro j x σ G hj ⟨ks,v2,v3,v4,rfl,sG,hdG,hc⟩
  obtain ⟨⟨y,y2,y3⟩,hy,p,rfl,hp⟩:=q349 hT hj
  have hy1:(ts.map (·.1))[j]? = some y:=by rw [List.getElem?_map,hy];rfl
  refine ⟨p,_,rfl,q424 (.same sG) hp,rfl,_,_,rfl,_,_,rfl,_,_,rfl,rfl,?_⟩
  refine ⟨d,rfl,.inl ⟨_,.inl hdG⟩,_,DGet.k (k:=Sum.inl y) hdG,?_⟩
  rw [val_f2,q518 hc]
  refine ⟨d,_,rfl,DPut.k (k:=Sum.inl y) hdG ?_,?_⟩
  ·rw [List.length_map]
   have:=hc.2.2
   rw [List.length_take,List.length_map] at this
   exact q54 (by omega)
  ·refine ⟨addK ks y (((((ts.map (·.1)).take j).count y:Nat):Int)+1),_,_,_,rfl,Same.own sG hd,?_,?_⟩
   ·rw [q14]
    exact congrArg (fun z=>some (HO.dK z)) (put_f2 _ _ _)
   ·rw [List.take_add_one,hy1]
    exact cnt_add hc y
 ·rintro σ G ⟨ks,v2,v3,v4,rfl,sG,hdG,hc⟩
  rw [hzl,<- List.length_map (f:=(·.1)),List.take_length] at hc
  refine ⟨d,ks,rfl,hdG,hc.1,fun l ms hl0 hpm hord=>?_⟩
  obtain ⟨G1,e1,s2,hl1⟩:=nwH hl0 (.lst (ms.map V.int))
  rw [e1]
  have hd1:=s2 _ _ hdG
  have hml:ms.length<=900:=by
   have:=hc.2.2
   rw [hpm.length_eq,List.length_map]
   rw [List.length_map] at this
   omega
  have hmem:∀ y ∈ ms,valV (ks.map f2) (Sum.inl y)=some (.int (((ts.map (·.1)).count y:Nat):Int))/\0 < (((ts.map (·.1)).count y:Nat):Int):=fun y hy=>by
   obtain ⟨⟨k,m⟩,hm,rfl⟩:=List.mem_map.mp (hpm.mem_iff.mp hy)
   obtain ⟨h1,h2⟩:=(hc.2.1 k m).mp hm
   refine ⟨?_,by rw [<- h1];exact h2⟩
   have hg:=q518 hc k
   rw [val_f2]
   cases ef:ks.find? fun p=>decide (p.1=k) with
   | none=>exact absurd (decide_eq_true rfl) (List.find?_eq_none.mp ef _ hm)
   | some p=>
    rw [ef] at hg
    exact congrArg some hg
  refine ⟨l,rfl,⟨_,SqL.of hl1⟩,fun D3 hD3=>?_⟩
  refine q187 (K:=K) (xs:=ms.map V.int) (sz (by rw [List.length_map];omega)) (fun i ys G=>ys.length=i/\Same G1 G/\G D3=some (.lst ys)/\AllAt PsR G ys ((ms.take i).map fun y=>(y,(((ts.map (·.1)).count y:Nat):Int))))
   ⟨rfl,q16 hD3 _,q14,AllAt.nil⟩ (fun i ys G ⟨_,s,_⟩=>SqL.of (s _ _ hl1)) (fun i ys G ⟨e1,_,e3,_⟩=>⟨e3,e1⟩) ?_ ?_
  ·rintro i x ys G2 hx ⟨f1,f2',f3,f4⟩
   rw [List.getElem?_map] at hx
   cases ey:ms[i]? with
   | none=>rw [ey] at hx;cases hx
   | some y=>
    rw [ey] at hx
    obtain rfl:V.int y=x:=Option.some.inj hx
    refine ⟨d,_,rfl,by rw [<- (hmem y (List.mem_of_getElem? ey)).1];exact DGet.k (k:=Sum.inl y) (f2' _ _ hd1),szb rfl,fun t4 ht4=>?_⟩
    obtain ⟨G3,e3,s3,h3⟩:=nwH ht4 (.tup [.int y,.int (((ts.map (·.1)).count y:Nat):Int)])
    rw [e3]
    have f3':=s3 _ _ f3
    have tk:TKeep G3 (upd G3 D3 (.lst (ys++[.ref t4]))):=TKeep.set f3'
    refine ⟨f3',by rw [List.length_append,f1];rfl,Same.own (f2'.trans s3) hD3,q14,?_⟩
    rw [List.take_add_one,ey,List.map_append]
    exact (ps_tk (q137 f4 s3) tk).snoc (PsR.tk tk ⟨t4,rfl,h3⟩)
  ·rintro ys G2 ⟨f1,f2',f3,f4⟩
   rw [List.length_map,List.take_length] at f4
   have s02:=sG.trans (s2.trans f2')
   refine q G2 D3 ys _ s02 f3 ((sG.trans s2).free hD3) f4 ?_ fun x m=>?_
   ·rw [List.pairwise_map]
    exact hord
   ·rw [List.mem_map,<- hc.2.1 x m]
    constructor
    ·rintro ⟨y,hy,e⟩
     cases e
     exact (hc.2.1 _ _).mpr ⟨rfl,(hmem _ hy).2⟩
    ·intro hm
     have hx:=hpm.mem_iff.mpr (List.mem_map_of_mem (f:=(·.1)) hm)
     exact ⟨x,hx,by rw [<- ((hc.2.1 x m).mp hm).1]⟩
inductive sp__law_deed (u0:Fg) (C:Addr) (vs:List V) (H:Hp) (Q:VK) (E:XK):Prop
 | mk (pen b rl x ka:Addr) (low:Int) (L:Nat) (rs cs:LL) (N:Nat) (_:vs=[.ref pen,.ref b,.ref rl,.ref x]) (_:PenM H pen) (_:RwsAt H rl rs) (_:Mks C H x ka b low L rs cs) (_:0 < rs.length) (_:rs.length<=99) (_:(∀ r ∈ rs,r.length<=N)) (_:60<=N) (_:N<=90) (_:-(10 ^ 40) < low) (_:low < 10 ^ 40) (_:rl ≠ ka) (_:∀ (p ra ca:Addr) (r c:List Int) (H':Hp),H' p=some (.tup [.int (rs.length:Int),.ref ra,.ref ca])->H' ra=some (.lst (r.map V.int))->H' ca=some (.lst (c.map V.int))->r.length<=N+1->c.length<=10->Mks C H' x ka b low L (rs++[r]) (cs++[c])->Kp2 pen ka H H'->Q (.ref p) H'):sp__law_deed u0 C vs H Q E
theorem q425 (z:Bz K mg cA cB cC cD cG):Cal P w K mg base 47 "_law_deed" pn4 (sp__law_deed K cG):=by
 have sc:=q392
 refine z.d__law_deed.cal fun f fd F=>F.k sc fun _ _ _ s H _ Q _ hr h=>?_
 obtain ⟨pen,b,rl,x,ka,low,L,rs,cs,N,rfl,P0,R0,M0,hne,hn,hN,hN1,hN2,lo0,lo1,hrk,q⟩:=h
 refine ⟨_,(q12 (pst 4 sc.nd (pe_fn (q22 z) hr.m (by rfl) (q10 (pr 0) (q10 (pln z.len_ (q10 (pr 2) q11)) q11))))
 (q12 (pst 5 sc.nd (pix q56 (pr 2) (pr 4)))
 (q12 (pst 6 sc.nd (pe_fn (q22 z) hr.m (by rfl) (q10 (pr 0) (q10 q13 q11))))
 (q12 (pst 7 sc.nd (pe_fn (q22 z) hr.m (by rfl) (q10 (pr 0) (q10 (pe_op q40 (pln z.len_ (q10 (pr 5) q11)) q13) q11))))
 (q12 (pst 8 sc.nd (pe_fn (q346 z) hr.m (by rfl) (q10 (pr 0) (q10 (pr 1) (q10 (pr 5) q11)))))
 (q12 (pst 9 sc.nd (pe_fn (q22 z) hr.m (by rfl) (q10 (pr 0) (q10 (pln z.len_ (q10 (pr 2) q11)) q11))))
 (q12 (q322 (ps_if (PW.pt (q581 (q23 op_eq (pr 6) q13 (q19 _)) (q430 (q23 om_lt (pe_op q40 (pln z.len_ (q10 (pr 5) q11)) (pln z.len_ (q10 (pix q56 (pr 2) (pr 9)) q11))) q13 (q19 _)))))
 (q15 (q18 (q28 (q10 (q37 (q465 z) hr.m (pr 3) (q10 (pr 4) (q10 (pr 9) q11))) (q10 (pe_op q158 (pr 5) (pix q56 (pr 2) (pr 9))) (q10 (q36 (q10 (pr 4) (q10 (pr 9) q11))) q11))))))
 q21))
 (q12 (q322 (ps_if (PW.pt (q581 (q23 op_eq (pr 6) q13 (q19 _)) (q430 (q23 om_lt (pr 7) (pln z.len_ (q10 (pr 5) q11)) (q19 _)))))
 (q15 (q18 (q28 (q10 (q37 (q281 z) hr.m (pr 3) (q10 (pr 4) (q10 (pr 7) q11))) (q10 (pe_op q158 (q45 q124 (pr 5) q60 (q51 (pr 7))) (q45 q124 (pr 5) (q51 (pe_op q40 (pr 7) q13)) q60)) (q10 (q36 (q10 (pr 4) q11)) q11))))))
 q21))
 (q12 (q322 (ps_if (PW.pt (q581 (q23 op_eq (pr 6) q13 (q19 _)) (q430 (q23 om_lt (pr 7) (pln z.len_ (q10 (pr 5) q11)) (q19 _)))))
 (q15 (q18 (q28 (q10 (q37 (q464 z) hr.m (pr 3) (q10 (pr 4) (q10 (pr 7) (q10 (pr 8) q11)))) (q10 (pe_op q158 (pe_op q158 (q45 q124 (pr 5) q60 (q51 (pr 7))) (q36 (q10 (pr 8) q11))) (q45 q124 (pr 5) (q51 (pe_op q40 (pr 7) q13)) q60)) (q10 (q36 (q10 (pr 4) q11)) q11))))))
 q21))
 (q12 (ps_if (q23 op_eq (pr 6) q13 (q19 _))
 (q15 (q18 (q28 (q10 (q37 (q418 z) hr.m (pr 3) (q10 (pr 4) (q10 (pe_op q70 (pr 7) q13) (q10 (pr 7) q11)))) (q10 (q45 q124 (pr 5) (q51 (pe_op q70 (pr 7) q13)) (q51 (pr 7))) (q10 (q36 (q10 (pr 4) q11)) q11))))))
 q21)
 (q12 (ps_if (q23 op_eq (pr 6) q13 (q19 _))
 (q15 (q18 (q28 (q10 (q37 (q269 z) hr.m (pr 3) (q10 (pr 4) q11)) (q10 (pe_rev (pr 5)) (q10 (q36 (q10 (pr 4) q11)) q11))))))
 q21)
 (q12 (ps_if (q23 op_eq (pr 6) q13 (q19 _))
 (q12 (pst 10 sc.nd (pe_op q146 (pe_op q40 (pe_op q89 q13 (pix q29 (pr 1) q13)) (pe_op q355 q13 (pix q29 (pr 1) q13))) q13))
 (q15 (q18 (q28 (q10 (q37 (q419 z) hr.m (pr 3) (q10 (pr 4) q11)) (q10 (q109 (cl:=[("_law_both", s.heap.objs.size+1+0)]) (cn:=["_law_both"]) (N:=["_law_both"]) (fr:=[10]) (sc0:=q17 q154) rfl (q50 (pr 5)) (fun C s₂ H₂ fp=>(pe_op q146 (pr 1) (pr 0))) (by with_unfolding_all rfl) ⟨by with_unfolding_all rfl,trivial⟩ rfl rfl rfl cok rfl) (q10 (q36 (q10 (pr 4) q11)) q11)))))))
 q21)
 (q12 (ps_if (q23 op_eq (pr 6) q13 (q19 _))
 (q12 (pst 5 sc.nd (pe_fn (q264 z) hr.m (by rfl) (q10 (pr 0) (q10 (pr 1) (q10 q13 q11)))))
 (q15 (q18 (q28 (q10 (q37 (q268 z) hr.m (pr 3) (q10 (q68 q125 (by rfl) z.list_ q433 (q10 (pr 5) q11)) q11)) (q10 (pr 5) (q10 (q36 q11) q11)))))))
 q21)
 (q15 (q18 (q28 (q10 (q37 (q463 z) hr.m (pr 3) (q10 (pr 4) (q10 (pr 7) (q10 (pr 8) q11)))) (q10 (pe_op q158 (pe_op q158 (q45 q124 (pr 5) q60 (q51 (pr 7))) (q36 (q10 (pr 8) q11))) (q45 q124 (pr 5) (q51 (pr 7)) q60)) (q10 (q36 (q10 (pr 4) q11)) q11))))))))))))))))))),?_⟩
 dsimp only [cxK]
 obtain ⟨ras,hrl,hras,hrE⟩:=R0
 have hlen:(ras.map V.ref).length=rs.length:=by rw [List.length_map];exact hras
 have hrlp:=q516 P0 hrl
 have hkp:=M0.pen hne P0
 obtain ⟨pc,hpc⟩:=P0.at
 have hL:=M0.hL
 have hp2:=p2pos L
 have hq2:=p2le hL
 refine q24 fun N_ y_=>?_
 refine ⟨rl,_,rfl,.inl (SqL.of hrl),pen,_,rfl,P0,by rw [hlen];omega,by rw [hlen];omega,fun mv H1 k1 P1 m0 m1=>?_⟩
 rw [hlen] at m1
 obtain ⟨m,rfl⟩:=Int.eq_ofNat_of_zero_le m0
 obtain ⟨r,g⟩:∃ r,rs[m]? = some r:=⟨rs[m]'(by omega),List.getElem?_eq_getElem _⟩
 obtain ⟨ra,gra,hra⟩:=hrE m r g
 have hrap:=q422 P0 hra
 have hlr:=hN r (List.mem_of_getElem? g)
 have hw:=(M0.sz g).1
 have hlm:(r.map V.int).length=r.length:=List.length_map _
 refine y_ _ _ (q24 fun N_ y_=>?_)
 refine ⟨_,_,SqL.of (k1 _ _ hrlp hrl),q39 (by rw [List.getElem?_map,gra];rfl),?_⟩
 refine y_ _ _ (q24 fun N_ y_=>?_)
 refine ⟨pen,8,rfl,P1,by decide,by decide,fun wv H2 k2 P2 w0 w1=>?_⟩
 have k02:=k1.trans k2
 refine y_ _ _ (q24 fun N_ y_=>?_)
 refine ⟨ra,_,rfl,.inl (SqL.of (k02 _ _ hrap hra)),pen,_,rfl,P2,by omega,by rw [hlm];omega,fun pv H3 k3 P3 p0 p1=>?_⟩
 rw [hlm] at p1
 obtain ⟨pl,rfl⟩:=Int.eq_ofNat_of_zero_le p0
 have k03:=k02.trans k3
 have hbp:=P0.ne M0.hb
 refine y_ _ _ (q24 fun N_ y_=>?_)
 refine ⟨pen,b,ra,low,L,r,rfl,P3,k03 _ _ hbp M0.hb,hL,k03 _ _ hrap hra,hrap,by omega,hw,fun y H4 k4 P4 y0 y1=>?_⟩
 have k04:=k03.trans k4
 refine y_ _ _ (q24 fun N_ y_=>?_)
 refine ⟨rl,_,rfl,.inl (SqL.of (k04 _ _ hrlp hrl)),pen,_,rfl,P4,by rw [hlen];omega,by rw [hlen];omega,fun ov H5 k5 P5 o0 o1=>?_⟩
 rw [hlen] at o1
 obtain ⟨o,rfl⟩:=Int.eq_ofNat_of_zero_le o0
 have k05:=k04.trans k5
 have M5:=M0.keep k05 hpc hkp
 have hra5:=k05 _ _ hrap hra
 have hrl5:=k05 _ _ hrlp hrl
 have hrak:=M5.ra hne hra5
 have hplr:pl<=r.length:=by omega
 obtain ⟨dx,hx⟩:=M5.o
 obtain ⟨t,g'⟩:∃ t,rs[o]? = some t:=⟨rs[o]'(by omega),List.getElem?_eq_getElem _⟩
 obtain ⟨ta,gta,hta⟩:=hrE o t g'
 have hta5:=k05 _ _ (q422 P0 hta) hta
 have htak:=M5.ra hne hta5
 have hlt:=hN t (List.mem_of_getElem? g')
 have hlm':(t.map V.int).length=t.length:=List.length_map _
 have got:(ras.map V.ref)[o]? = some (.ref ta):=by rw [List.getElem?_map,gta];rfl
 clear k1 k2 k3 k4 k5 k02 k03 k04 P1 P2 P3 P4
 have fin:∀ (G0 G1 G2:Hp) (ra':Addr) (r' c':List Int),Keep pen H G0->Keep ka G0 G1->Mks cG G1 x ka b low L (rs++[r']) (cs++[c'])->Same G1 G2->G2 ra'=some (.lst (r'.map V.int))->r'.length<=N+1->c'.length<=10 ->
   ∀ u,G2 u=none -> ∀ p,upd G2 u (.lst (c'.map V.int)) p=none->Q (.ref p) (upd (upd G2 u (.lst (c'.map V.int))) p (.tup [.int (rs.length:Int),.ref ra',.ref u])):=by
  intro G0 G1 G2 ra' r' c' k0 kk MM ss e1 e2 e3 u hu p hp
  have t1:=q16 hu (.lst (c'.map V.int))
  have t2:Same (upd G2 u (.lst (c'.map V.int))) (upd (upd G2 u (.lst (c'.map V.int))) p (.tup [.int (rs.length:Int),.ref ra',.ref u])):=q16 hp _
  have t12:=t1.trans t2
  refine q p ra' u r' c' _ q14 (t12 _ _ e1) (t2 _ _ q14) e2 e3 (MM.same (ss.trans t12)) ?_
  intro a o n1 n2 h
  exact (ss.trans t12) _ _ (kk _ _ n2 (k0 _ _ n1 h))
 have one:([(m:Int)]:List Int).length<=10:=by show 1<=10;decide
 refine y_ _ _ (q24 fun N_ y_=>?_)
 refine ⟨fun σ' G=>σ'=[some (.ref pen),some (.ref b),some (.ref rl),some (.ref x),some (.int (m:Int)),some (.ref ra),some (.int wv),some (.int (pl:Int)),some (.int y),some (.int (o:Int)),none]/\H5=G,?_,?_⟩
 ·refine ⟨rfl,ite2 (fun c2=>?_) (fun c2=>⟨rfl,rfl⟩)⟩
  refine ⟨ra,_,rfl,.inl (SqL.of hra5),_,_,SqL.of hrl5,q39 got,ta,_,rfl,.inl (SqL.of hta5),?_⟩
  rw [hlm,hlm']
  refine ite2 (fun c3=>?_) (fun c3=>⟨rfl,rfl⟩)
  have hsum:=of_decide_eq_true c3
  refine ⟨x,dx,_,rfl,hx,rfl,x,ka,b,m,o,low,L,rs,cs,r,t,rfl,M5,g,g',by omega,hn,fun G1 kk MM=>?_⟩
  refine ⟨_,_,SqL.of (kk _ _ hrk hrl5),q39 got,ra,ta,_,_,rfl,rfl,kk _ _ hrak hra5,kk _ _ htak hta5,sz (by simp only [List.length_append,List.length_map];omega),fun q5 hq5=>?_⟩
  rw [<- List.map_append]
  have t6:=q16 hq5 (.lst ((r++t).map V.int))
  exact ⟨szb rfl,fun u hu=>⟨szb rfl,fun p hp=>fin H5 G1 _ q5 (r++t) [(m:Int),(o:Int)] k05 kk MM t6 q14 (by rw [List.length_append];omega) (by show 2<=10;decide) u hu p hp⟩⟩
 rintro σ' G ⟨rfl,rfl⟩
 refine y_ _ _ (q24 fun N_ y_=>?_)
 refine ⟨fun σ' G=>σ'=[some (.ref pen),some (.ref b),some (.ref rl),some (.ref x),some (.int (m:Int)),some (.ref ra),some (.int wv),some (.int (pl:Int)),some (.int y),some (.int (o:Int)),none]/\H5=G,?_,?_⟩
 ·refine ⟨rfl,ite2 (fun c2=>?_) (fun c2=>⟨rfl,rfl⟩)⟩
  refine ⟨ra,_,rfl,.inl (SqL.of hra5),?_⟩
  rw [hlm]
  refine ite2 (fun c3=>?_) (fun c3=>⟨rfl,rfl⟩)
  have hpl':pl < r.length:=by have:=of_decide_eq_true c3;omega
  refine ⟨x,dx,_,rfl,hx,rfl,x,ka,b,m,pl,low,_,L,rs,cs,r,rfl,M5,g,List.getElem?_eq_getElem hpl',hn,fun G1 kk MM=>?_⟩
  have e0:=kk _ _ hrak hra5
  refine ⟨_,rfl,ra,_,rfl,SqL.of e0,fun q1 hq1=>?_⟩
  rw [q112]
  obtain ⟨G6,e6,t6,h6⟩:=nwH hq1 (.lst ((r.take pl).map V.int))
  rw [e6]
  refine ⟨_,rfl,ra,_,rfl,SqL.of (t6 _ _ e0),fun q4 hq4=>?_⟩
  rw [show ((pl:Int)+1)=((pl+1:Nat):Int) by omega,q144]
  obtain ⟨G9,e9,t9,h9⟩:=nwH hq4 (.lst ((r.drop (pl+1)).map V.int))
  rw [e9]
  refine ⟨q1,q4,_,_,rfl,rfl,t9 _ _ h6,h9,sz (by simp only [List.length_append,List.length_map,List.length_take,List.length_drop];omega),fun q5 hq5=>?_⟩
  rw [show (r.take pl).map V.int++(r.drop (pl+1)).map V.int=(delAt r pl).map V.int by unfold delAt;simp]
  have hil:=q340 hpl'
  exact ⟨szb rfl,fun u hu=>⟨szb rfl,fun p hp=>fin H5 G1 _ q5 _ [(m:Int)] k05 kk MM (t6.trans (t9.trans (q16 hq5 _))) q14 (by omega) one u hu p hp⟩⟩
 rintro σ' G ⟨rfl,rfl⟩
 refine y_ _ _ (q24 fun N_ y_=>?_)
 refine ⟨fun σ' G=>σ'=[some (.ref pen),some (.ref b),some (.ref rl),some (.ref x),some (.int (m:Int)),some (.ref ra),some (.int wv),some (.int (pl:Int)),some (.int y),some (.int (o:Int)),none]/\H5=G,?_,?_⟩
 ·refine ⟨rfl,ite2 (fun c2=>?_) (fun c2=>⟨rfl,rfl⟩)⟩
  refine ⟨ra,_,rfl,.inl (SqL.of hra5),?_⟩
  rw [hlm]
  refine ite2 (fun c3=>?_) (fun c3=>⟨rfl,rfl⟩)
  have hpl':pl < r.length:=by have:=of_decide_eq_true c3;omega
  refine ⟨x,dx,_,rfl,hx,rfl,x,ka,b,m,pl,low,_,y,L,rs,cs,r,rfl,M5,g,List.getElem?_eq_getElem hpl',y0,y1,hn,fun G1 kk MM=>?_⟩
  have e0:=kk _ _ hrak hra5
  refine ⟨_,rfl,ra,_,rfl,SqL.of e0,fun q1 hq1=>?_⟩
  rw [q112]
  obtain ⟨G6,e6,t6,h6⟩:=nwH hq1 (.lst ((r.take pl).map V.int))
  rw [e6]
  refine ⟨szb rfl,fun q2 hq2=>?_⟩
  obtain ⟨G7,e7,t7,h7⟩:=nwH hq2 (.lst [.int y])
  rw [e7]
  refine ⟨q1,q2,_,_,rfl,rfl,t7 _ _ h6,h7,sz (by simp only [List.length_map,List.length_take,List.length_cons,List.length_nil];omega),fun q3 hq3=>?_⟩
  obtain ⟨G8,e8,t8,h8⟩:=nwH hq3 (.lst ((r.take pl).map V.int++[.int y]))
  rw [e8]
  have t58:Same G1 G8:=t6.trans (t7.trans t8)
  refine ⟨_,rfl,ra,_,rfl,SqL.of (t58 _ _ e0),fun q4 hq4=>?_⟩
  rw [show ((pl:Int)+1)=((pl+1:Nat):Int) by omega,q144]
  obtain ⟨G9,e9,t9,h9⟩:=nwH hq4 (.lst ((r.drop (pl+1)).map V.int))
  rw [e9]
  refine ⟨q3,q4,_,_,rfl,rfl,t9 _ _ h8,h9,sz (by simp only [List.length_append,List.length_map,List.length_take,List.length_drop,List.length_cons,List.length_nil];omega),fun q5 hq5=>?_⟩
  have hil:=q681 (num:=y) hpl'
  rw [show (r.take pl).map V.int++[.int y]++(r.drop (pl+1)).map V.int=(r.take pl++y::r.drop (pl+1)).map V.int by simp]
  exact ⟨szb rfl,fun u hu=>⟨szb rfl,fun p hp=>fin H5 G1 _ q5 _ [(m:Int)] k05 kk MM (t58.trans (t9.trans (q16 hq5 _))) q14 (by omega) one u hu p hp⟩⟩
 rintro σ' G ⟨rfl,rfl⟩
 refine y_ _ _ (q24 fun N_ y_=>?_)
 refine ⟨rfl,ite2 (fun c4=>?_) (fun c4=>?_)⟩
 ·have h3:(pl:Int) / 3=((pl / 3:Nat):Int):=by omega
  refine ⟨x,dx,_,rfl,hx,rfl,_,_,rfl,rfl,⟨by decide,by decide⟩,x,ka,b,m,pl / 3,pl,low,L,rs,cs,r,congrArg (fun z=>[V.ref x,V.int (m:Int),V.int z,V.int (pl:Int)]) h3,M5,g,by omega,hplr,hn,fun G1 kk MM=>?_⟩
  have e0:=kk _ _ hrak hra5
  refine ⟨_,_,rfl,rfl,⟨by decide,by decide⟩,_,rfl,_,rfl,ra,_,rfl,SqL.of e0,fun q1 hq1=>?_⟩
  rw [h3,q673 _ _ _ (by omega) hplr]
  have hsl:=q460 (st:=pl / 3) hplr
  exact ⟨szb rfl,fun u hu=>⟨szb rfl,fun p hp=>fin H5 G1 _ q1 (segI r (pl / 3) pl) [(m:Int)] k05 kk MM (q16 hq1 _) q14 (by omega) one u hu p hp⟩⟩
 refine y_ _ _ (q24 fun N_ y_=>?_)
 refine ⟨rfl,ite2 (fun c6=>?_) (fun c6=>?_)⟩
 ·refine ⟨x,dx,_,rfl,hx,rfl,x,ka,b,m,low,L,rs,cs,r,rfl,M5,g,hn,fun G1 kk MM=>?_⟩
  refine ⟨ra,_,rfl,SqL.of (kk _ _ hrak hra5),fun q5 hq5=>?_⟩
  rw [<- List.map_reverse]
  exact ⟨szb rfl,fun u hu=>⟨szb rfl,fun p hp=>fin H5 G1 _ q5 r.reverse [(m:Int)] k05 kk MM (q16 hq5 _) q14 (by rw [List.length_reverse];omega) one u hu p hp⟩⟩
 refine y_ _ _ (q24 fun N_ y_=>?_)
 refine ⟨rfl,ite2 (fun c7=>?_) (fun c7=>?_)⟩
 ·have hb5:=M5.hb
  refine q24 fun N_ y_=>?_
  refine ⟨_,_,SqT.of hb5,rfl,_,_,rfl,rfl,.inl ⟨by decide,by decide⟩,_,_,SqT.of hb5,rfl,_,_,rfl,rfl,⟨by omega,by omega,by decide⟩,?_⟩
  dsimp only
  rw [q365]
  refine y_ _ _ ?_
  refine ⟨x,dx,_,rfl,hx,rfl,x,ka,b,m,low,L,rs,cs,r,rfl,M5,g,hn,fun G1 kk MM=>?_⟩
  refine ⟨ra,rfl,⟨_,SqL.of (kk _ _ hrak hra5)⟩,fun D hD=>?_⟩
  refine q240 (g:=fun n=>V.int (flp low L n)) (SqL.of (kk _ _ hrak hra5)) hD (sz (by omega)) (fun n _ G5 Q1 _ q1=>q1) ?_
  rw [show (r.map fun n=>V.int (flp low L n))=(r.map (flp low L)).map V.int by rw [List.map_map];rfl]
  exact ⟨szb rfl,fun u hu=>⟨szb rfl,fun p hp=>fin H5 G1 _ D (r.map (flp low L)) [(m:Int)] k05 kk MM (q16 hD _) q14 (by rw [List.length_map];omega) one u hu p hp⟩⟩
 refine y_ _ _ (q24 fun N_ y_=>?_)
 refine ⟨rfl,ite2 (fun c8=>?_) (fun c8=>?_)⟩
 ·refine ⟨pen,b,low,8,L,rfl,P5,M5.hb,hL,by decide,by decide,fun rn ns H8 k8 P8 hrn hrn0 hnl hnw=>?_⟩
  have M8:=M5.keep k8 P5.at.choose_spec (M5.pen hne P5)
  have hrnk:rn ≠ ka:=M8.ra hne hrn
  obtain ⟨dx,hx⟩:=M8.o
  refine ⟨x,dx,_,rfl,hx,rfl,rn,_,rfl,.inl (SqL.of hrn),fun hh hhn=>?_⟩
  obtain ⟨H9,e9,s9,h9⟩:=nwH hhn (.lst (ns.map V.int))
  rw [e9]
  refine ⟨x,ka,b,hh,low,L,rs,cs,ns,rfl,M8.same s9,SqL.of h9,hnw,by omega,hn,fun G1 kk MM=>?_⟩
  exact ⟨szb rfl,fun u hu=>⟨szb rfl,fun p hp=>fin H9 G1 _ rn ns [] ((k05.trans k8).trans (Keep.same s9)) kk MM (Same.refl _) (kk _ _ hrnk (s9 _ _ hrn)) (by omega) (by decide) u hu p hp⟩⟩
 refine y_ _ _ ?_
 refine ⟨x,dx,_,rfl,hx,rfl,x,ka,b,m,pl,low,y,L,rs,cs,r,rfl,M5,g,hplr,y0,y1,by omega,hn,fun G1 kk MM=>?_⟩
 have e0:=kk _ _ hrak hra5
 refine ⟨_,rfl,ra,_,rfl,SqL.of e0,fun q1 hq1=>?_⟩
 rw [q112]
 obtain ⟨G6,e6,t6,h6⟩:=nwH hq1 (.lst ((r.take pl).map V.int))
 rw [e6]
 refine ⟨szb rfl,fun q2 hq2=>?_⟩
 obtain ⟨G7,e7,t7,h7⟩:=nwH hq2 (.lst [.int y])
 rw [e7]
 refine ⟨q1,q2,_,_,rfl,rfl,t7 _ _ h6,h7,sz (by simp only [List.length_map,List.length_take,List.length_cons,List.length_nil];omega),fun q3 hq3=>?_⟩
 obtain ⟨G8,e8,t8,h8⟩:=nwH hq3 (.lst ((r.take pl).map V.int++[.int y]))
 rw [e8]
 have t58:Same G1 G8:=t6.trans (t7.trans t8)
 refine ⟨_,rfl,ra,_,rfl,SqL.of (t58 _ _ e0),fun q4 hq4=>?_⟩
 rw [q144]
 obtain ⟨G9,e9,t9,h9⟩:=nwH hq4 (.lst ((r.drop pl).map V.int))
 rw [e9]
 refine ⟨q3,q4,_,_,rfl,rfl,t9 _ _ h8,h9,sz (by simp only [List.length_append,List.length_map,List.length_take,List.length_drop,List.length_cons,List.length_nil];omega),fun q5 hq5=>?_⟩
 rw [show (r.take pl).map V.int++[.int y]++(r.drop pl).map V.int=(insAt r pl y).map V.int by unfold insAt;simp]
 have hil:=q459 r pl y
 exact ⟨szb rfl,fun u hu=>⟨szb rfl,fun p hp=>fin H5 G1 _ q5 _ [(m:Int)] k05 kk MM (t58.trans (t9.trans (q16 hq5 _))) q14 (by omega) one u hu p hp⟩⟩
theorem q683 {vs:List TS.I3} (hs:vs.Pairwise fun x y=>TS.lex3 y x=false) (hn:vs.Nodup) {k:Nat} (h:vs[k]? = some v):vs.countP (fun x=>TS.lex3 x v)=k:=by
 obtain ⟨hk,hx⟩:=List.getElem?_eq_some_iff.mp h
 have e:vs=vs.take k++v::vs.drop (k+1):=by rw [<- hx,<- List.drop_eq_getElem_cons hk,List.take_append_drop]
 have hlk:(vs.take k).length=k:=by rw [List.length_take];omega
 rw [e] at hs hn
 obtain ⟨_,h2,h3⟩:=List.pairwise_append.mp hs
 have h4:=(List.pairwise_cons.mp h2).1
 obtain ⟨_,_,n3⟩:=List.pairwise_append.mp hn
 rw [e,List.countP_append]
 have z:(v::vs.drop (k+1)).countP (fun x=>TS.lex3 x v)=0:=List.countP_eq_zero.mpr fun b hb=>by
  rw [Bool.not_eq_true]
  rcases List.mem_cons.mp hb with rfl | hb
  ·rw [TS.q190];omega
  ·exact h4 b hb
 have y:(vs.take k).countP (fun x=>TS.lex3 x v)=(vs.take k).length:=List.countP_eq_length.mpr fun b hb=>by
  have u1:=h3 b hb v List.mem_cons_self
  have u2:b ≠ v:=n3 b hb v List.mem_cons_self
  cases c:TS.lex3 b v with
  | true=>rfl
  | false=>
   exfalso
   rw [TS.q190] at u1 c
   apply u2
   obtain ⟨b1,b2,b3⟩:=b
   obtain ⟨v1,v2,v3⟩:=v
   simp only [Prod.mk.injEq] at u1 c ⊢
   omega
 rw [z,y]
 omega
theorem q468 {j st:Int} {b n:Nat} {x:TS.I3} (h:x ∈ thR row j st b n):x.2.1=j:=by
 unfold thR at h
 obtain ⟨k,_,rfl⟩:=List.mem_map.mp h
 rfl
theorem q426 (row:List Int) (j st:Int) (b:Nat):∀ n,(thR row j st b n).Nodup
 | 0=>List.nodup_nil
 | n+1=>by
  rw [q348]
  refine List.nodup_append.mpr ⟨q426 row j st b n,by simp,fun x hx y hy z=>?_⟩
  subst z
  cases List.mem_singleton.mp hy
  unfold thR at hx
  obtain ⟨k,hk,e⟩:=List.mem_map.mp hx
  have:=List.mem_range.mp hk
  have e3:=congrArg (fun t:TS.I3=>t.2.2) e
  simp only at e3
  omega
theorem q469:∀ (ts:List T3) (j:Nat) (x:TS.I3),x ∈ thF nss j ts->(j:Int)<=x.2.1
 | [],_,x,h=>by simp [thF] at h
 | t::r,j,x,h=>by
  rcases List.mem_append.mp h with z | z
  ·have:=q468 z
   omega
  ·have:=q469 r (j+1) x z
   omega
theorem q270 (nss:LL):∀ (ts:List T3) (j:Nat),(thF nss j ts).Nodup
 | [],_=>List.nodup_nil
 | t::r,j=>List.nodup_append.mpr ⟨q426 _ _ _ _ _,q270 nss r (j+1),fun x hx y hy z=>by
   subst z
   have:=q468 hx
   have:=q469 r (j+1) x hy
   omega⟩
theorem q684 (row:List Int) (j st:Int) (b m:Nat):∀ d,∃ l,thR row j st b (m+d)=thR row j st b m++l /\ ∀ x ∈ l,st+(m:Int)<=x.2.2/\x.2.1=j
 | 0=>⟨[],by rw [List.append_nil];rfl,fun x hx=>absurd hx (by simp)⟩
 | d+1=>by
  obtain ⟨l,e,hl⟩:=q684 row j st b m d
  refine ⟨l++[(row.getD (b+(m+d)) 0,j,st+((m+d:Nat):Int))],by rw [<- Nat.add_assoc,q348,e,List.append_assoc],fun x hx=>?_⟩
  rcases List.mem_append.mp hx with z | z
  ·exact hl x z
  ·cases List.mem_singleton.mp z
   exact ⟨by simp only;omega,rfl⟩
theorem q351 {low:Int} {ns:List Int} {b e:Nat}:(sel (ns.map (fun n=>n - low),b,e)).countP (fun x=>p (low+x))=((ns.take e).drop b).countP p:=by
 unfold sel
 simp only
 rw [<- List.map_take,<- List.map_drop,List.countP_map]
 refine List.countP_congr fun n _=>?_
 show p (low+(n - low))=true ↔ _
 rw [show low+(n - low)=n by omega]
theorem q470 {row:List Int} {j st:Int} {b e:Nat} (h:e<=row.length):(thR row j st b (e - b)).countP (fun x=>p x.1)=((row.take e).drop b).countP p:=by
 rw [<- q682 (row:=row) (j:=j) (st:=st) h,List.countP_map]
 rfl
theorem q685 {low:Int} {us:List Int} {o:Int}:(us.countP fun x=>decide (x < o))=us.countP (fun x=>(fun n:Int=>decide (n < low+o)) (low+x)):=List.countP_congr fun x _=>by
 simp only [decide_eq_true_eq]
 omega
theorem eq_cnt {low:Int} {us:List Int} {o:Int}:us.count o=us.countP (fun x=>(fun n:Int=>decide (n=low+o)) (low+x)):=by
 rw [List.count_eq_countP]
 refine List.countP_congr fun x _=>?_
 simp only [decide_eq_true_eq,beq_iff_eq]
 omega
theorem q209 (us:List Int) (o:Int):(us.countP fun n=>decide (n<=o))=(us.countP fun n=>decide (n < o))+us.countP fun n=>decide (n=o):=by
 induction us with
 | nil=>rfl
 | cons u us ih=>
  rw [List.countP_cons,List.countP_cons,List.countP_cons,ih]
  by_cases a:u < o
  ·have h1:u<=o:=by omega
   have h2:¬ u=o:=by omega
   simp [a,h1,h2];omega
  ·by_cases c:u=o
   ·subst c;simp;omega
   ·have h1:¬ u<=o:=by omega
    simp [a,c,h1]
theorem thF_gt {low o:Int} {J pl:Int}:∀ (ts:List T3) (j:Nat),TsOk nss ts->J < (j:Int)->(thF nss j ts).countP (fun x=>TS.lex3 x (low+o,J,pl))=ltC (Wh (ts.map (gOf low nss))) o:=fun ts j hok hj=>by
 have e:(thF nss j ts).countP (fun x=>TS.lex3 x (low+o,J,pl))=(thF nss j ts).countP (fun x=>(fun n:Int=>decide (n < low+o)) x.1):=List.countP_congr fun x hx=>by
  have:=q469 ts j x hx
  simp only [decide_eq_true_eq]
  rw [TS.q625]
  simp only
  omega
 rw [e]
 show _=List.countP (fun x=>decide (x < o)) _
 rw [q685 (low:=low)]
 have z:=congrArg (List.countP fun n:Int=>decide (n < low+o)) (q467 low ts j hok)
 rw [List.countP_map,List.countP_map] at z
 exact z
theorem q352 {low o:Int} {pl:Nat}:∀ (ts:List T3) (j J:Nat) (g:G3),TsOk nss ts->(ts.map (gOf low nss))[J]? = some g->g.2.1<=pl->pl < g.2.2 ->
  (thF nss j ts).countP (fun x=>TS.lex3 x (low+o,((j+J:Nat):Int),(pl:Int)))=ltC (Wh (ts.map (gOf low nss))) o+(Wh ((ts.map (gOf low nss)).take J++[(g.1,g.2.1,pl)])).count o
 | [],_,_,_,_,h,_,_=>by simp at h
 | t::r,j,0,g,hok,h,h1,h2=>by
  obtain ⟨ns,n1,n2,n3⟩:=hok t (List.mem_cons_self ..)
  cases Option.some.inj h
  have hr:=thF_gt (low:=low) (o:=o) (J:=((j+0:Nat):Int)) (pl:=(pl:Int)) r (j+1) (fun u hu=>hok u (List.mem_cons_of_mem _ hu)) (by omega)
  show List.countP _ (_++_)=_
  rw [List.countP_append,hr,n1,Option.getD_some]
  unfold gOf at h1 h2
  simp only at h1 h2
  obtain ⟨l,e,hl⟩:=q684 ns (j:Int) (t.2.1:Int) t.2.1 (pl - t.2.1) (t.2.2 - t.2.1 - (pl - t.2.1))
  rw [show pl - t.2.1+(t.2.2 - t.2.1 - (pl - t.2.1))=t.2.2 - t.2.1 by omega] at e
  have a1:=q470 (row:=ns) (j:=(j:Int)) (st:=(t.2.1:Int)) (b:=t.2.1) (e:=t.2.2) (p:=fun n=>decide (n < low+o)) n3
  have a2:=q470 (row:=ns) (j:=(j:Int)) (st:=(t.2.1:Int)) (b:=t.2.1) (e:=pl) (p:=fun n=>decide (n=low+o)) (by omega)
  rw [e] at a1 ⊢
  rw [List.countP_append] at a1 ⊢
  have b1:(thR ns (j:Int) (t.2.1:Int) t.2.1 (pl - t.2.1)).countP (fun x=>TS.lex3 x (low+o,((j+0:Nat):Int),(pl:Int)))=(thR ns (j:Int) (t.2.1:Int) t.2.1 (pl - t.2.1)).countP (fun x=>(fun n:Int=>decide (n<=low+o)) x.1):=List.countP_congr fun x hx=>by
   unfold thR at hx
   obtain ⟨k,hk,rfl⟩:=List.mem_map.mp hx
   have:=List.mem_range.mp hk
   simp only [decide_eq_true_eq]
   rw [TS.q625]
   simp only
   omega
  have b2:l.countP (fun x=>TS.lex3 x (low+o,((j+0:Nat):Int),(pl:Int)))=l.countP (fun x=>(fun n:Int=>decide (n < low+o)) x.1):=List.countP_congr fun x hx=>by
   have:=hl x hx
   simp only [decide_eq_true_eq]
   rw [TS.q625]
   simp only
   omega
  have b3:=q209 ((thR ns (j:Int) (t.2.1:Int) t.2.1 (pl - t.2.1)).map (·.1)) (low+o)
  rw [List.countP_map,List.countP_map,List.countP_map] at b3
  have b4:ltC (Wh ((t::r).map (gOf low nss))) o=(sel (gOf low nss t)).countP (fun x=>(fun n:Int=>decide (n < low+o)) (low+x))+ltC (Wh (r.map (gOf low nss))) o:=by
   rw [List.map_cons]
   unfold Wh
   rw [List.flatMap_cons]
   show List.countP _ _=_
   rw [List.countP_append,q685 (low:=low)]
  have b5:(Wh (((t::r).map (gOf low nss)).take 0++[((gOf low nss t).1,(gOf low nss t).2.1,pl)])).count o=(sel (ns.map (fun n=>n - low),t.2.1,pl)).countP (fun x=>(fun n:Int=>decide (n=low+o)) (low+x)):=by
   rw [List.take_zero,List.nil_append]
   unfold Wh gOf
   rw [List.flatMap_cons,List.flatMap_nil,List.append_nil,n1,Option.getD_some,eq_cnt (low:=low)]
  have b6:sel (gOf low nss t)=sel (ns.map (fun n=>n - low),t.2.1,t.2.2):=by unfold gOf;rw [n1,Option.getD_some]
  rw [b4,b5,b6,q351 (p:=fun n:Int=>decide (n < low+o)),q351 (p:=fun n:Int=>decide (n=low+o)),<- a1,<- a2,b1,b2]
  have c:∀ (p:Int->Bool) (q:List TS.I3),q.countP (p ∘ fun x:TS.I3=>x.1)=q.countP fun x=>p x.1:=fun p q=>rfl
  rw [c,c,c] at b3
  simp only at b3 ⊢
  omega
 | t::r,j,J+1,g,hok,h,h1,h2=>by
  obtain ⟨ns,n1,n2,n3⟩:=hok t (List.mem_cons_self ..)
  rw [List.map_cons,List.getElem?_cons_succ] at h
  have ih:=q352 (o:=o) r (j+1) J g (fun u hu=>hok u (List.mem_cons_of_mem _ hu)) h h1 h2
  rw [show j+1+J=j+(J+1) by omega] at ih
  show List.countP _ (_++_)=_
  rw [List.countP_append,ih,n1,Option.getD_some]
  have a1:=q470 (row:=ns) (j:=(j:Int)) (st:=(t.2.1:Int)) (b:=t.2.1) (e:=t.2.2) (p:=fun n=>decide (n<=low+o)) n3
  have b1:(thR ns (j:Int) (t.2.1:Int) t.2.1 (t.2.2 - t.2.1)).countP (fun x=>TS.lex3 x (low+o,((j+(J+1):Nat):Int),(pl:Int)))=(thR ns (j:Int) (t.2.1:Int) t.2.1 (t.2.2 - t.2.1)).countP (fun x=>(fun n:Int=>decide (n<=low+o)) x.1):=List.countP_congr fun x hx=>by
   have:=q468 hx
   simp only [decide_eq_true_eq]
   rw [TS.q625]
   simp only
   omega
  rw [b1,a1,q209]
  have b6:sel (gOf low nss t)=sel (ns.map (fun n=>n - low),t.2.1,t.2.2):=by unfold gOf;rw [n1,Option.getD_some]
  have b4:ltC (Wh ((t::r).map (gOf low nss))) o=((ns.take t.2.2).drop t.2.1).countP (fun n:Int=>decide (n < low+o))+ltC (Wh (r.map (gOf low nss))) o:=by
   rw [List.map_cons]
   unfold Wh
   rw [List.flatMap_cons]
   show List.countP _ _=_
   rw [List.countP_append,q685 (low:=low),b6,q351 (p:=fun n:Int=>decide (n < low+o))]
  have b5:(Wh (((t::r).map (gOf low nss)).take (J+1)++[(g.1,g.2.1,pl)])).count o=((ns.take t.2.2).drop t.2.1).countP (fun n:Int=>decide (n=low+o))+(Wh ((r.map (gOf low nss)).take J++[(g.1,g.2.1,pl)])).count o:=by
   rw [List.map_cons,List.take_succ_cons,List.cons_append]
   unfold Wh
   rw [List.flatMap_cons,List.count_append,eq_cnt (low:=low) (us:=sel (gOf low nss t)),b6,q351 (p:=fun n:Int=>decide (n=low+o))]
  rw [b4,b5]
  omega
theorem th_at {low:Int} {ts:List T3}:∀ (j:Nat),TsOk nss ts->x ∈ thF nss j ts -> ∃ (J pl:Nat) (g:G3) (o:Int),x=(low+o,((j+J:Nat):Int),(pl:Int))/\(ts.map (gOf low nss))[J]? = some g/\g.2.1<=pl/\pl < g.2.2/\g.1[pl]? = some o:=by
 induction ts with
 | nil=>intro j _ h;simp [thF] at h
 | cons t r ih=>
  intro j hok h
  obtain ⟨ns,n1,n2,n3⟩:=hok t (List.mem_cons_self ..)
  rcases List.mem_append.mp h with z | z
  ·rw [n1,Option.getD_some] at z
   unfold thR at z
   obtain ⟨k,hk,rfl⟩:=List.mem_map.mp z
   have hk:=List.mem_range.mp hk
   have hb:t.2.1+k < ns.length:=by omega
   refine ⟨0,t.2.1+k,gOf low nss t,ns[t.2.1+k] - low,?_,rfl,?_,?_,?_⟩
   ·rw [List.getD_eq_getElem?_getD,List.getElem?_eq_getElem hb,Option.getD_some]
    simp only [Prod.mk.injEq]
    omega
   ·show t.2.1<=_
    omega
   ·show _ < t.2.2
    omega
   ·unfold gOf
    simp only
    rw [n1,Option.getD_some,List.getElem?_map,List.getElem?_eq_getElem hb]
    rfl
  ·obtain ⟨J,pl,g,o,e,hJ,h1,h2,h3⟩:=ih (j+1) (fun u hu=>hok u (List.mem_cons_of_mem _ hu)) z
   refine ⟨J+1,pl,g,o,by rw [e,show j+1+J=j+(J+1) by omega],?_,h1,h2,h3⟩
   rw [List.map_cons,List.getElem?_cons_succ]
   exact hJ
theorem th_mem {low:Int} {o:Int} {pl:Nat}:∀ (ts:List T3) (j J:Nat) (g:G3),TsOk nss ts->(ts.map (gOf low nss))[J]? = some g->g.2.1<=pl->pl < g.2.2->g.1[pl]? = some o->(low+o,((j+J:Nat):Int),(pl:Int)) ∈ thF nss j ts
 | [],_,_,_,_,h,_,_,_=>by simp at h
 | t::r,j,0,g,hok,h,h1,h2,h3=>by
  obtain ⟨ns,n1,n2,n3⟩:=hok t (List.mem_cons_self ..)
  cases Option.some.inj h
  refine List.mem_append_left _ ?_
  unfold gOf at h1 h2 h3
  simp only at h1 h2 h3
  rw [n1,Option.getD_some] at h3 ⊢
  unfold thR
  refine List.mem_map.mpr ⟨pl - t.2.1,List.mem_range.mpr (by omega),?_⟩
  rw [List.getElem?_map] at h3
  rw [show t.2.1+(pl - t.2.1)=pl by omega,List.getD_eq_getElem?_getD]
  cases e:ns[pl]? with
  | none=>rw [e] at h3;cases h3
  | some n=>
   rw [e] at h3
   have h3:n - low=o:=Option.some.inj h3
   simp only [Option.getD_some,Prod.mk.injEq]
   omega
 | t::r,j,J+1,g,hok,h,h1,h2,h3=>by
  rw [List.map_cons,List.getElem?_cons_succ] at h
  have ih:=th_mem r (j+1) J g (fun u hu=>hok u (List.mem_cons_of_mem _ hu)) h h1 h2 h3
  rw [show j+1+J=j+(J+1) by omega] at ih
  exact List.mem_append_right _ ih
theorem tr_alk {x y z:Int} (ha:SqT K H a [.int x,.int y,.int z]) (hb:SqT K H b [.int x,.int y,.int z]):Alk K H 2 (.ref a) (.ref b):=by
 refine .tup ha hb rfl fun i u v g1 g2=>?_
 match i,g1,g2 with
 | 0,g1,g2=>cases g1;cases g2;exact .flat rfl
 | 1,g1,g2=>cases g1;cases g2;exact .flat rfl
 | 2,g1,g2=>cases g1;cases g2;exact .flat rfl
theorem bst_eq {K:Fg} {H:Hp} {x y:V} {Q:Prop}:∀ {o:Option P2},BstV H x o->BstV H y o->Q->(x = .non/\y = .non/\Q) \/ ∃ (n:Nat) (a b:Addr),x = .ref a/\y = .ref b/\Alk K H n (.ref a) (.ref b)/\n<=60/\Q
 | none,h,h',q=>.inl ⟨h,h',q⟩
 | some p,⟨a,ea,ha⟩,⟨b,eb,hb⟩,q=>.inr ⟨2,a,b,ea,eb,pr_alk (SqT.of ha) (SqT.of hb),by decide,q⟩
theorem gOf_gd {low:Int} {L:Nat} {ts:List T3} (hW:∀ ns ∈ nss,Wths low L ns/\ns.length<=100) (hok:TsOk nss ts):∀ g ∈ ts.map (gOf low nss),GoodS L g:=fun g hg=>by
 obtain ⟨t,ht,rfl⟩:=List.mem_map.mp hg
 obtain ⟨ns,h1,h2,h3⟩:=hok t ht
 obtain ⟨hw,hl⟩:=hW ns (List.mem_of_getElem? h1)
 unfold gOf
 rw [h1,Option.getD_some]
 exact ⟨q671 hw,h2,by rw [List.length_map];exact h3,by rw [List.length_map];omega⟩
theorem ifB {b:Bool} {A C:Prop} (hb:b=false) (h:C):if b=true then A else C:=by
 rw [hb]
 exact h
theorem nde {α:Type} [DecidableEq α] {x y:α} (h:x=y):(!decide (x=y))=false:=by
 rw [decide_eq_true h]
 rfl
theorem ord_nth {low:Int} {L:Nat} {ts:List T3} {vs:List TS.I3} {k j pl:Nat} (hok:TsOk nss ts) (hgd:∀ g ∈ ts.map (gOf low nss),GoodS L g) (hpm:vs.Perm (thF nss 0 ts)) (hord:vs.Pairwise fun x y=>TS.lex3 y x=false) (hk:k < (Wh (ts.map (gOf low nss))).length)
  (h:Thing (ts.map (gOf low nss)) (kth L (Wh (ts.map (gOf low nss))) k) (k - ltC (Wh (ts.map (gOf low nss))) (kth L (Wh (ts.map (gOf low nss))) k)) j pl):vs[k]? = some (low+kth L (Wh (ts.map (gOf low nss))) k,(j:Int),(pl:Int)):=by
 obtain ⟨g,gj,h1,h2,h3,h4⟩:=h
 have c1:=(q263 L (Wh (ts.map (gOf low nss))) k (W_in hgd) hk).1
 have hm:=th_mem ts 0 j g hok gj h1 h2 h3
 rw [Nat.zero_add] at hm
 obtain ⟨k',hk'⟩:=List.mem_iff_getElem?.mp (hpm.mem_iff.mpr hm)
 have hx:=q683 hord (hpm.nodup_iff.mpr (q270 nss ts 0)) hk'
 rw [hpm.countP_eq] at hx
 have hr:=q352 (low:=low) (o:=kth L (Wh (ts.map (gOf low nss))) k) ts 0 j g hok gj h1 h2
 rw [Nat.zero_add] at hr
 have:k'=k:=by omega
 rw [this] at hk'
 exact hk'
theorem ord_rank {low:Int} {ts:List T3} {vs:List TS.I3} {k:Nat} (hok:TsOk nss ts) (hpm:vs.Perm (thF nss 0 ts)) (hord:vs.Pairwise fun x y=>TS.lex3 y x=false) (hk:vs[k]? = some v):∃ (J pl:Nat) (g:G3) (o:Int),v=(low+o,(J:Int),(pl:Int))/\(ts.map (gOf low nss))[J]? = some g/\g.2.1<=pl/\pl < g.2.2/\g.1[pl]? = some o /\
  ((ltC (Wh (ts.map (gOf low nss))) o:Nat):Int)+(((Wh ((ts.map (gOf low nss)).take J++[(g.1,g.2.1,pl)])).count o:Nat):Int)=(k:Int):=by
 obtain ⟨J,pl,g,o,e,hJ,h1,h2,h3⟩:=th_at (low:=low) 0 hok (hpm.mem_iff.mp (List.mem_of_getElem? hk))
 rw [Nat.zero_add] at e
 refine ⟨J,pl,g,o,e,hJ,h1,h2,h3,?_⟩
 have hx:=q683 hord (hpm.nodup_iff.mpr (q270 nss ts 0)) hk
 rw [hpm.countP_eq,e] at hx
 have hr:=q352 (low:=low) (o:=o) ts 0 J g hok hJ h1 h2
 rw [Nat.zero_add] at hr
 omega
theorem q427 {α:Type} {p:α->Bool}:∀ l:List α,(l.filter p).head? = l.find? p
 | []=>rfl
 | a::l=>by
  rw [List.filter_cons,List.find?_cons]
  cases h:p a with
  | true=>rw [if_pos rfl];rfl
  | false=>rw [if_neg (by decide)];exact q427 l
structure An (K:Fg) (pen b gl l ol:Addr) (low:Int) (L:Nat) (gv zs os:List V) (gs:List G3) (vs:List TS.I3) (ps:List P2) (G:Hp):Prop where
 pn:PenM G pen
 hb:G b=some (.tup [.int low,.int (L:Int)])
 hg:G gl=some (.lst gv)
 ga:GatAt G L gv gs
 hl:G l=some (.lst zs)
 ht:Paired (q79 K G) zs vs
 ho:G ol=some (.lst os)
 hq:AllAt PsR G os ps
 n1:gl ≠ pen
 n2:l ≠ pen
 n3:ol ≠ pen
section
variable {K:Fg} {pen b gl l ol:Addr} {low:Int} {L:Nat} {gv zs os:List V} {gs:List G3} {vs:List TS.I3} {ps:List P2} {G G':Hp}
theorem An.same (x:An K pen b gl l ol low L gv zs os gs vs ps G) (s:Same G G'):An K pen b gl l ol low L gv zs os gs vs ps G':=
 ⟨x.pn.same s,s _ _ x.hb,s _ _ x.hg,x.ga.same s,s _ _ x.hl,q95 (.same s) x.ht,s _ _ x.ho,q137 x.hq s,x.n1,x.n2,x.n3⟩
theorem An.pk (x:An K pen b gl l ol low L gv zs os gs vs ps G) (k:Keep pen G G') (p:PenM G' pen):An K pen b gl l ol low L gv zs os gs vs ps G':=
 have tk:=x.pn.tk k
 ⟨p,(tk _ _).1 x.hb,k _ _ x.n1 x.hg,x.ga.tk tk,k _ _ x.n2 x.hl,q95 tk x.ht,k _ _ x.n3 x.ho,ps_tk x.hq tk,x.n1,x.n2,x.n3⟩
end
inductive sp__law_answered (u0:Fg) (C:Addr) (vs:List V) (H:Hp) (Q:VK) (E:XK):Prop
 | mk (pen b rl x ka:Addr) (low:Int) (L:Nat) (rs ms cs:LL) (_:vs=[.ref pen,.ref b,.ref x,.ref rl]) (_:PenM H pen) (_:RwsAt H rl rs) (_:Mks C H x ka b low L ms cs) (_:0 < ms.length) (_:(∀ (j:Nat) (r:List Int),rs[j]? = some r->ms[j]? = some r)) (_:0 < rs.length) (_:rs.length<=99) (_:(∀ r ∈ rs,r.length<=100)) (_:∀ H':Hp,Keep pen H H'->PenM H' pen->Q (.bl true) H'):sp__law_answered u0 C vs H Q E
theorem q213 (z:Bz K mg cA cB cC cD cG):Cal P w K mg base 47 "_law_answered" pn5 (sp__law_answered K cG):=by
 have sc:=q211
 refine z.d__law_answered.cal fun f fd F=>F.k sc fun _ _ _ s H _ Q _ hr h=>?_
 obtain ⟨pen,b,rl,x,ka,low,L,rs,ms,cs,rfl,P0,R0,M0,hm0,hpre,hn0,hn1,hr100,q⟩:=h
 refine ⟨_,(q12 (pst 4 sc.nd (pe_fn (q423 z) hr.m (by rfl) (q10 (pr 0) (q10 (pr 3) (q10 (pix q56 (q36 (q10 q13 (q10 q13 (q10 q13 q11)))) (pe_fn (q22 z) hr.m (by rfl) (q10 (pr 0) (q10 q13 q11)))) q11)))))
 (q12 (pst 5 sc.nd (pe_fn (q282 z) hr.m (by rfl) (q10 (pr 3) (q10 (pr 4) q11))))
 (q12 (q436 (i:=6) (x := "_law_make") (cl:=[("_law_makes", s.heap.objs.size+1+0)]) (cn:=["_law_makes"]) (TN:=["_law_start", "_law_end"]) (N:=["_law_makes"]) (fr:=[2]) (sc0:=q17 q48) sc.nd rfl (Or.inl rfl) rfl (q50 (pr 4)) (fun C s₂ H₂ fp=>(q28 (q10 (q37 (q62 z) hr.m (pr 3) (q10 (pr 0) q11)) (q10 (pr 1) (q10 (pr 2) q11))))) (fun C s₂ H₂ fp=>q607) (fun C s₂ H₂ fp=>(pg_tupK (K:=K) (n:=3) rfl rfl (q35 (q183 (i:=0) (show (["_law_make", "_law_start", "_law_end", "_law_makes"]:List Str).Nodup by decide +kernel) rfl (Or.inl rfl)) (q35 (q183 (i:=1) (show (["_law_make", "_law_start", "_law_end", "_law_makes"]:List Str).Nodup by decide +kernel) rfl (Or.inl rfl)) (q35 (q183 (i:=2) (show (["_law_make", "_law_start", "_law_end", "_law_makes"]:List Str).Nodup by decide +kernel) rfl (Or.inl rfl)) q122))))) (by with_unfolding_all rfl) ⟨by with_unfolding_all rfl,trivial⟩ rfl rfl rfl ⟨by decide +kernel,by decide +kernel,by decide +kernel,by decide +kernel⟩ rfl (by with_unfolding_all rfl) (.inl rfl))
 (q12 (pst 7 sc.nd (pe_fn (q350 z) hr.m (by rfl) (q10 (pr 5) q11)))
 (q12 (q66 PassesOwn.never rfl (q636 rfl z.range_ (q10 q13 (q10 (pln z.len_ (q10 (pr 5) q11)) (q10 (pe_op q40 q13 (pe_op q70 (pln z.len_ (q10 (pr 5) q11)) q13)) q11)))) (pgn 8 sc.nd)
 (q12 (q226 (pix q56 (pr 5) (pr 8)) (q225 rfl (q35 (pgn 9 sc.nd) (q35 (pgn 10 sc.nd) (q35 (pgn 11 sc.nd) q122)))))
 (q15 (ps_if (PW.pt (pw_or (q23 (q319 hr.units) (pe_fn (q412 z) hr.m (by rfl) (q10 (pr 1) (q10 (pr 6) (q10 (pr 8) q11)))) (pix q56 (pr 5) (pr 8)) (q19 _)) (q88 (q23 op_ne (pe_fn (q567 z) hr.m (by rfl) (q10 (pr 1) (q10 (pr 6) (q10 (pr 10) (q10 (pr 11) q11))))) (pr 8) (q19 _)))))
 (q15 (q18 pe_bl))
 q21))))
 (q12 (pst 12 sc.nd (pe_op q146 (pe_op q40 (pe_op q40 (pix q29 (pr 1) q13) (pe_fn (q22 z) hr.m (by rfl) (q10 (pr 0) (q10 (pe_op q355 q13 (pix q29 (pr 1) q13)) q11)))) (pe_fn (q22 z) hr.m (by rfl) (q10 (pr 0) (q10 q13 q11)))) q13))
 (q12 (ps_if (q23 op_ne (pe_fn (q515 z) hr.m (by rfl) (q10 (pr 1) (q10 (pr 6) (q10 (pr 12) q11)))) (pln z.len_ (q10 (q71 (cl:=[("_law_number", s.heap.objs.size+1+2)]) (cn:=["_law_number"]) (N:=["_law_number"]) (fr:=[12]) (sc0:=q17 q48) rfl (q50 (pr 5)) (fun C s₂ H₂ fp=>(pr 0)) (fun C s₂ H₂ fp=>(q23 om_lt (pix (q152 (K:=K) rfl) (pr 0) q13) (pr 1) (q19 _))) (by with_unfolding_all rfl) ⟨by with_unfolding_all rfl,trivial⟩ rfl rfl rfl cok rfl) q11)) (q19 _))
 (q15 (q18 pe_bl))
 q21)
 (q12 (pst 13 sc.nd (pe_op q158 (q71 (cl:=[("_law_number", s.heap.objs.size+1+2)]) (cn:=["_law_number"]) (N:=["_law_number"]) (fr:=[12]) (sc0:=q17 q48) rfl (q50 (pr 7)) (fun C s₂ H₂ fp=>(pr 0)) (fun C s₂ H₂ fp=>(q23 om_gt (pix (q152 (K:=K) rfl) (pr 0) q13) (pr 1) (q19 _))) (by with_unfolding_all rfl) ⟨by with_unfolding_all rfl,trivial⟩ rfl rfl rfl cok rfl) (q36 (q10 q58 q11))))
 (q12 (ps_if (q23 (op_neOpt hr.units) (pe_fn (q566 z) hr.m (by rfl) (q10 (pr 1) (q10 (pr 6) (q10 (pr 12) q11)))) (pix q56 (pr 13) q13) (q19 _))
 (q15 (q18 pe_bl))
 q21)
 (q12 (pst 14 sc.nd (pe_op q40 q13 (pe_fn (q22 z) hr.m (by rfl) (q10 (pr 0) (q10 q13 q11)))))
 (q12 (ps_if (q23 (q319 hr.units) (pe_fn (ok_often z) hr.m (by rfl) (q10 (pr 1) (q10 (pr 6) (q10 (pr 14) q11)))) (q71 (cl:=[("_law_things_here", s.heap.objs.size+1+1),("_law_part", s.heap.objs.size+1+3)]) (cn:=["_law_things_here", "_law_part"]) (N:=["_law_part", "_law_things_here"]) (fr:=[14,5]) (sc0:=q17 q48) rfl (q50 (pr 7)) (fun C s₂ H₂ fp=>(pr 0)) (fun C s₂ H₂ fp=>(q23 om_gt (pe_op q89 (pix (q152 (K:=K) rfl) (pr 0) q13) (pr 1)) (q67 (q613 (K:=K) rfl) (by rfl) z.len_ bt_len (q10 (pr 2) q11)) (q19 _))) (by with_unfolding_all rfl) ⟨by with_unfolding_all rfl,by with_unfolding_all rfl,trivial⟩ rfl rfl rfl cok rfl) (q19 _))
 (q15 (q18 pe_bl))
 q21)
 (q12 (pst 15 sc.nd q58)
 (q12 (q66 PassesOwn.never rfl (q50 (pr 7)) (pgn 16 sc.nd)
 (q15 (ps_if (PW.pt (pw_or (q23 q123 (pr 15) q58 (q19 _)) (q88 (q23 om_gt (pix q29 (pr 16) q13) (pix q29 (pr 15) q13) (q19 _)))))
 (q15 (pst 15 sc.nd (pr 16)))
 q21)))
 (q15 (q18 (q184 (op_eqOpt hr.units) (pe_fn (ok_most z) hr.m (by rfl) (q10 (pr 1) (q10 (pr 6) q11))) (pr 15) (q19 _))))))))))))))))),?_⟩
 dsimp only [cxK]
 have hL:=M0.hL
 have hp2:=p2pos L
 have hq2:=p2le hL
 have hkp:=M0.pen hm0 P0
 obtain ⟨pc,hpc⟩:=P0.at
 have hW:∀ r ∈ rs,Wths low L r/\r.length<=100:=fun r hr=>by
  obtain ⟨j,hj⟩:=List.mem_iff_getElem?.mp hr
  exact ⟨(M0.sz (hpre j r hj)).1,hr100 r hr⟩
 refine q24 fun N1 y1=>?_
 refine ⟨szb rfl,fun l0 hl0=>?_⟩
 obtain ⟨H1,e1,s1,h1⟩:=nwH hl0 (.lst [.int 2,.int 3,.int 8])
 rw [e1]
 have n0:l0 ≠ pen:=P0.fresh hl0
 refine ⟨pen,3,rfl,P0.same s1,by decide,by decide,fun v H2 k2 P2 v0 v1=>?_⟩
 have k02:=(Keep.same s1).trans k2
 obtain ⟨lg,hlg,g0,g1⟩:∃ lg:Int,atI [V.int 2,.int 3,.int 8] v=some (.int lg)/\1<=lg/\lg<=8:=by
  obtain ⟨n,rfl⟩:=Int.eq_ofNat_of_zero_le v0
  match n,v1 with
  | 0,_=>exact ⟨2,rfl,by decide,by decide⟩
  | 1,_=>exact ⟨3,rfl,by decide,by decide⟩
  | 2,_=>exact ⟨8,rfl,by decide,by decide⟩
  | n+3,h=>omega
 refine ⟨_,_,SqL.of (k2 _ _ n0 h1),hlg,pen,rl,lg,rs,rfl,P2,R0.kp P0 k02,hn0,by omega,hr100,g0,g1,fun D ys ts H3 k3 P3 hD hD0 hT hok ht0 ht8=>?_⟩
 have k03:=k02.trans k3
 have R3:=R0.kp P0 k03
 refine y1 _ _ (q24 fun N2 y2=>?_)
 refine ⟨rl,D,ys,rs,ts,rfl,R3,hr100,SqL.of hD,hT,hok,ht8,fun l zs vs H4 s4 hl hl4 hpr hpm hord=>?_⟩
 have hgd:=gOf_gd hW hok
 have M4:=(M0.keep k03 hpc hkp).same s4
 have hD4:=s4 _ _ hD
 have hT4:=hT.tk (.same s4)
 have hyl:=hT.1
 obtain ⟨dx,hx⟩:=M4.o
 refine y2 _ _ (q24 fun N3 y3=>?_)
 refine ⟨D,rfl,⟨_,SqL.of hD4⟩,fun gl hgl=>?_⟩
 refine q539 (K:=K) (xs:=ys) (sz (by omega)) (fun i us G=>us.length=i/\Same H4 G/\G gl=some (.lst us)/\GatAt G L us ((ts.take i).map (gOf low rs))) ⟨rfl,q16 hgl _,q14,GatAt.nil _ _⟩ (fun i us G ⟨_,e,_⟩=>SqL.of (e _ _ hD4)) (fun i us G ⟨e1,_,e3,_⟩=>⟨e3,Nat.le_of_eq e1⟩) ?_ ?_
 ·rintro i y us G hy ⟨f1,f2,f3,f4⟩ vs3 hvs3
  have hi:i < ts.length:=by rw [<- hyl];exact (List.getElem?_eq_some_iff.mp hy).1
  have gi:ts[i]? = some ts[i]:=List.getElem?_eq_getElem hi
  generalize ts[i]=t at gi
  obtain ⟨p,rfl,hp⟩:=hT4.2 i y t hy gi
  obtain ⟨r,n1,n2,n3⟩:=hok t (List.mem_of_getElem? gi)
  match vs3,hvs3 with
  | [x0,x1,x2],_=>
   refine ⟨p,_,rfl,SqT.of (f2 _ _ hp),rfl,_,_,rfl,_,_,rfl,_,_,rfl,rfl,⟨[_,_,_],rfl,rfl⟩,iteT ?_⟩
   refine ⟨x,dx,_,rfl,f2 _ _ hx,rfl,x,ka,b,t.1,low,L,ms,cs,r,rfl,M4.same f2,hpre _ _ n1,fun v hv=>⟨szb rfl,fun tp htp=>?_⟩⟩
   obtain ⟨G1,e1,t1,g1⟩:=nwH htp (.tup [v,.int (t.2.1:Int),.int (t.2.2:Int)])
   rw [e1]
   have f3':=t1 _ _ f3
   have tk:TKeep G1 (upd G1 gl (.lst (us++[.ref tp]))):=TKeep.set f3'
   refine ⟨f3',by rw [List.length_append,f1];rfl,Same.own (f2.trans t1) hgl,q14,?_⟩
   rw [List.take_add_one,gi,Option.toList_some,List.map_append]
   refine q668 ((f4.same t1).tk tk) ⟨rfl,fun j y g h1 h2=>?_⟩
   match j,h1,h2 with
   | 0,h1,h2=>
    cases h1;cases h2
    rw [q222] at hv
    refine StrAt.tk ⟨tp,v,rfl,g1,?_⟩ tk
    show q25 G1 v (growO L (((rs[t.1]?).getD []).map fun n=>n - low))
    rw [n1]
    exact hv.same t1
 rintro gv H5 ⟨_,s5,hg5,ga5⟩
 rw [hyl,List.take_length] at ga5
 have hl5:=s5 _ _ hl
 have ht5:=q95 (.same s5) hpr
 have hvl:vs.length<=800:=by
  have:=q466 ts 0 hok hr100
  rw [hpm.length_eq]
  omega
 have hzl:=q145 hpr
 refine y3 _ _ (q24 fun N4 y4=>?_)
 refine ⟨l,zs,vs,rfl,SqL.of hl5,ht5,by omega,fun H6 ol os ps s6 ho ho0 hps hst hmm=>?_⟩
 have hws:(vs.map (·.1)).Perm ((Wh (ts.map (gOf low rs))).map fun o=>low+o):=by
  rw [<- q467 low ts 0 hok]
  exact hpm.map _
 have hnth:=fun k j pl=>ord_nth (k:=k) (j:=j) (pl:=pl) hok hgd hpm hord
 have hrnk:=fun k v=>ord_rank (low:=low) (k:=k) (v:=v) hok hpm hord
 have hgl8:(ts.map (gOf low rs)).length<=8:=by rw [List.length_map];exact ht8
 generalize ts.map (gOf low rs)=gs at *
 have hin:=W_in hgd
 have hwu:(Wh gs).length=vs.length:=by
  have:=hws.length_eq
  rw [List.length_map,List.length_map] at this
  omega
 have eps:ps=caF 1 0 L low (Wh gs):=eq_mem hst (q333 L low (Wh gs) hin) fun ⟨x,m⟩=>by
  rw [hmm x m,q407 L low (Wh gs) hin x m,cnt_one hws]
 have P4:=P3.same s4
 have P5:=P4.same s5
 have X6:An K pen b gl l ol low L gv zs os gs vs ps H6:=⟨P5.same s6,s6 _ _ (s5 _ _ (s4 _ _ (k03 _ _ (P0.ne M0.hb) M0.hb))),s6 _ _ hg5,ga5.same s6,s6 _ _ hl5,q95 (.same s6) ht5,ho,hps,P4.fresh hgl,P3.fresh hl4,P5.fresh ho0⟩
 have K6:Keep pen H H6:=k03.trans (Keep.same ((s4.trans s5).trans s6))
 clear hps ho ho0 hmm hst ht5 hl5 hg5 ga5 s6 s5 s4 hx dx hT4 hD4 hT hD M4 hpm hord hpr hl hl4 hgl R3 k3 P3 P4 P5 k02 k03 k2 P2 s1 h1 e1 hlg
 have hpl:os.length=ps.length:=X6.hq.1
 have hpl2:ps.length<=800:=by
  rw [eps]
  have:=ca_len (part:=1) (floor:=0) (by decide) (by decide) (least:=low) hin
  omega
 refine y4 _ _ (q24 fun N5 y5=>?_)
 refine ⟨l,_,rfl,.inl (SqL.of X6.hl),l,_,rfl,.inl (SqL.of X6.hl),_,_,rfl,rfl,⟨by decide,by decide⟩,0,_,_,rfl,⟨by decide,by decide,by omega,by omega,by omega,by omega⟩,
  q548 (fun i σ G=>∃ (a8 a9 a10 a11:Option V),σ=[some (.ref pen),some (.ref b),some (.ref x),some (.ref rl),some (.ref D),some (.ref l),some (.ref gl),some (.ref ol),a8,a9,a10,a11,none,none,none,none,none]/\Same H6 G) ⟨_,_,_,_,rfl,Same.refl _⟩ ?_ ?_⟩
 ·rintro i σ G hi ⟨a8,a9,a10,a11,rfl,sG⟩
  have hlt:=rngN_lt (by omega) hi
  have hnn:0<=(i:Int) * (1+((zs.length:Nat):Int) / 12):=Int.mul_nonneg (by omega) (by omega)
  obtain ⟨k,hk⟩:=Int.eq_ofNat_of_zero_le (show 0<=0+(i:Int) * (1+((zs.length:Nat):Int) / 12) by omega)
  dsimp only at hlt ⊢
  rw [hk] at hlt ⊢
  have XG:=X6.same sG
  have hkz:k < zs.length:=by omega
  have gz:zs[k]? = some zs[k]:=List.getElem?_eq_getElem hkz
  generalize zs[k]=z at gz
  obtain ⟨tv,gv',p,rfl,hp⟩:=q349 XG.ht gz
  obtain ⟨J,pl,g,o,rfl,hJ,j1,j2,j3,hrk⟩:=hrnk k tv gv'
  refine ⟨_,_,SqL.of XG.hl,q39 gz,p,_,rfl,hp,rfl,_,_,rfl,_,_,rfl,_,_,rfl,rfl,?_⟩
  refine ⟨b,gl,gv,low,L,k,gs,rfl,SqT.of XG.hb,hL,XG.hg,XG.ga,hgd,by omega,by omega,by omega,fun p1 j1' pl1 G1 s1 hp1 hth=>?_⟩
  have X1:=XG.same s1
  have e2:=hnth k j1' pl1 (by omega) hth
  rw [gv'] at e2
  obtain ⟨ea,eb⟩:=Prod.mk.inj (Option.some.inj e2)
  obtain ⟨eb,ec⟩:=Prod.mk.inj eb
  rw [<- ea,<- eb,<- ec] at hp1
  refine ⟨_,_,SqL.of X1.hl,q39 gz,2,p1,p,rfl,rfl,tr_alk hp1 (q424 (.same s1) hp),by decide,ifB rfl ?_⟩
  refine ⟨b,gl,gv,low,o,L,J,pl,gs,g,rfl,SqT.of X1.hb,hL,X1.hg,X1.ga,hgd,by omega,hJ,j1,j2,j3,fun G2 s2=>⟨rfl,ifB (nde (congrArg V.int hrk)) ⟨_,_,_,_,rfl,(sG.trans s1).trans s2⟩⟩⟩
 rintro σ G ⟨a8,a9,a10,a11,rfl,sG⟩
 have XG:=X6.same sG
 have KG:=K6.trans (Keep.same sG)
 clear X6 K6 sG hnth hrnk
 refine y5 _ _ (q24 fun N6 y6=>?_)
 refine ⟨_,_,SqT.of XG.hb,rfl,_,_,SqT.of XG.hb,rfl,_,_,rfl,rfl,⟨by omega,by omega,by decide⟩,?_⟩
 dsimp only
 rw [q365]
 refine ⟨pen,2 ^ L,rfl,XG.pn,hp2,by omega,fun x1 G1 k1 P1 _ _=>?_⟩
 refine ⟨pen,3,rfl,P1,by decide,by decide,fun x2 G2 k2 P2 _ _=>?_⟩
 have X2:=(XG.pk k1 P1).pk k2 P2
 have K2:=(KG.trans k1).trans k2
 clear XG KG k1 k2 P1 P2
 obtain ⟨nu,hnu⟩:∃ nu,nu=low+x1+x2 - 1:=⟨_,rfl⟩
 show N6 (List.set _ 12 (some (.int (low+x1+x2 - 1)))) G2
 rw [<- hnu]
 refine y6 _ _ (q24 fun N7 y7=>?_)
 refine ⟨b,gl,gv,low,nu,L,gs,rfl,SqT.of X2.hb,hL,SqL.of X2.hg,X2.ga,hgd,by omega,fun G3 s3=>?_⟩
 have X3:=X2.same s3
 refine ⟨l,rfl,⟨_,SqL.of X3.hl⟩,fun Dc hDc=>?_⟩
 refine q127 (K:=K) (xs:=zs) (sz (by omega)) (fun i ys G=>ys.length=(vs.take i).countP (fun t=>decide (t.1 < nu))/\Same G3 G/\G Dc=some (.lst ys)/\ys.length<=i) ⟨rfl,q16 hDc _,q14,Nat.le_refl _⟩ (fun i ys G ⟨_,s,_⟩=>SqL.of (s _ _ X3.hl)) (fun i ys G ⟨_,_,e,h⟩=>⟨e,h⟩) ?_ ?_
 ·rintro i z ys G hz ⟨f1,f2,f3,f4⟩
  obtain ⟨tv,gt,p,rfl,hp⟩:=q349 X3.ht hz
  have hi:=(List.getElem?_eq_some_iff.mp hz).1
  refine ⟨_,_,q424 (.same f2) hp,rfl,ite2 (fun c=>⟨f3,?_,Same.own f2 hDc,q14,by rw [List.length_append];exact Nat.succ_le_succ f4⟩) (fun c=>⟨zs.length - (i+1),by omega,rfl,hi,?_,f2,f3,by omega⟩)⟩
  ·rw [List.take_add_one,gt,Option.toList_some,List.countP_append,List.length_append,f1,List.countP_cons,if_pos c]
   rfl
  ·rw [List.take_add_one,gt,Option.toList_some,List.countP_append,f1,List.countP_cons,if_neg c]
   rfl
 rintro ys G4 ⟨f1,f2,f3,_⟩
 rw [hzl,List.take_length] at f1
 have X4:=X3.same f2
 refine ⟨Dc,_,rfl,.inl (SqL.of f3),rfl,ifB (nde ?_) ?_⟩
 ·have h1:=hws.countP_eq (fun n=>decide (n < nu))
  rw [List.countP_map,List.countP_map] at h1
  rw [f1]
  refine congrArg (fun n:Nat=>V.int n) (Eq.trans (List.countP_congr fun o _=>?_) h1.symm)
  show decide (o < nu - low)=true ↔ decide (low+o < nu)=true
  rw [decide_eq_true_eq,decide_eq_true_eq]
  omega
 have K4:=(K2.trans (Keep.same s3)).trans (Keep.same f2)
 clear f1 f2 f3 X3 X2 s3 K2 hDc
 have cmp:∀ (pr:P2->Bool) {G4:Hp} {D':Addr} {R:Hp->Prop} {Tt:V->Hp->(Bool->Hp->Prop)->Prop} {Te:V->Hp->(V->Hp->Prop)->Prop},An K pen b gl l ol low L gv zs os gs vs ps G4->G4 D'=none->(∀ (pa:Addr) (p:P2) (G:Hp) (Q:Bool->Hp->Prop),Same G4 G->p ∈ ps->G pa=some (.tup [.int p.1,.int p.2])->Q (pr p) G->Tt (.ref pa) G Q)->(∀ v G (Q:V->Hp->Prop),Q v G->Te v G Q)->(∀ ys G,Same G4 G->G D'=some (.lst ys)->AllAt PsR G ys (ps.filter pr)->R G)->_:=fun pr {G4 D' R Tt Te} X4 hD' hT hE hR=>
  q127 (K:=K) (a:=ol) (xs:=os) (Tt:=Tt) (Te:=Te) (D:=D') (H1:=G4) (R:=R) (sz (by omega)) (fun i ys G=>Same G4 G/\G D'=some (.lst ys)/\ys.length<=i/\AllAt PsR G ys ((ps.take i).filter pr)) ⟨q16 hD' _,q14,Nat.le_refl _,AllAt.nil⟩ (fun i ys G ⟨s,_⟩=>SqL.of (s _ _ X4.ho)) (fun i ys G ⟨_,e,h,_⟩=>⟨e,h⟩) (by
   rintro i z ys G hz ⟨f2,f3,f4,f5⟩
   obtain ⟨p,gp,pa,rfl,hp⟩:=(q137 X4.hq f2).get hz
   have hi:=(List.getElem?_eq_some_iff.mp hz).1
   refine hT pa p G _ f2 (List.mem_of_getElem? gp) hp (ite2 (fun c=>hE _ _ _ ⟨f3,Same.own f2 hD',q14,by rw [List.length_append];exact Nat.succ_le_succ f4,?_⟩) (fun c=>⟨os.length - (i+1),by omega,rfl,hi,f2,f3,by omega,?_⟩))
   ·rw [List.take_add_one,gp,Option.toList_some,List.filter_append,List.filter_cons,if_pos c]
    exact (ps_tk f5 (.set f3)).snoc (PsR.tk (.set f3) ⟨pa,rfl,hp⟩)
   ·rw [List.take_add_one,gp,Option.toList_some,List.filter_append,List.filter_cons,if_neg c,List.filter_nil,List.append_nil]
    exact f5) (by
   rintro ys G ⟨f2,f3,_,f5⟩
   rw [hpl,List.take_length] at f5
   exact hR ys G f2 f3 f5)
 refine y7 _ _ (q24 fun N8 y8=>?_)
 refine ⟨ol,rfl,⟨_,SqL.of X4.ho⟩,fun Da hDa=>cmp (fun p=>decide (nu < p.1)) X4 hDa (fun pa p G Q _ _ hp q=>⟨_,_,SqT.of hp,rfl,q⟩) (fun v G Q q=>q) fun ys G5 s5 hDa5 hys=>?_⟩
 refine ⟨szb rfl,fun n0 hn0=>?_⟩
 obtain ⟨G6,e6,s6,h6⟩:=nwH hn0 (.lst [.non])
 rw [e6]
 have hyl2:ys.length<=800:=by
  rw [hys.1]
  have:=List.length_filter_le (fun p:P2=>decide (nu < p.1)) ps
  omega
 refine ⟨Da,n0,ys,_,rfl,rfl,s6 _ _ hDa5,h6,sz (by show ys.length+1<=1000;omega),fun qa hqa=>?_⟩
 obtain ⟨G7,e7,s7,h7⟩:=nwH hqa (.lst (ys++[.non]))
 rw [e7]
 have s47:=(s5.trans s6).trans s7
 have X7:=X4.same s47
 have hys7:=q137 hys (s6.trans s7)
 have K7:=K4.trans (Keep.same s47)
 clear hDa hys hDa5 X4 K4 s5 s6 s7 s47 h6 hn0 hqa
 refine y8 _ _ (q24 fun N9 y9=>?_)
 refine ⟨b,gl,gv,low,nu,L,gs,rfl,SqT.of X7.hb,hL,X7.hg,X7.ga,hgd,by omega,by omega,fun v8 G8 s8 hv8=>?_⟩
 have X8:=X7.same s8
 have e8:stp L low (Wh gs)=ps:=eps.symm
 rw [e8,<- q427] at hv8
 have hys8:=q137 hys7 s8
 obtain ⟨w8,ha8,hw8⟩:∃ w8,atI (ys++[V.non]) 0=some w8/\BstV G8 w8 ((ps.filter fun p=>decide (nu < p.1)).head?):=by
  cases hf:ps.filter fun p=>decide (nu < p.1) with
  | nil=>
   rw [hf] at hys8
   obtain rfl:ys=[]:=List.eq_nil_of_length_eq_zero hys8.1
   exact ⟨.non,rfl,rfl⟩
  | cons p0 pr=>
   rw [hf] at hys8
   cases ys with
   | nil=>exact absurd hys8.1 (by simp)
   | cons y0 yr=>exact ⟨y0,(q39 rfl:atI (y0::yr++[V.non]) ((0:Nat):Int)=some y0),hys8.2 0 y0 p0 rfl rfl⟩
 refine ⟨_,_,SqL.of (s8 _ _ h7),ha8,bst_eq (o:=(ps.filter fun p=>decide (nu < p.1)).head?) ?_ hw8 (ifB rfl ?_)⟩
 ·cases ho:(ps.filter fun p=>decide (nu < p.1)).head? with
  | none=>rw [ho] at hv8;exact hv8
  | some p=>rw [ho] at hv8;exact hv8
 clear hw8 ha8 hys8 hv8 hys7 h7 hyl2
 refine y9 _ _ (q24 fun N10 y10=>?_)
 refine ⟨pen,5,rfl,X8.pn,by decide,by decide,fun x3 G9 k9 P9 x30 x31=>?_⟩
 have X9:=X8.pk k9 P9
 have K9:=(K7.trans (Keep.same s8)).trans k9
 clear X8 X7 K7 s8 k9 P9
 obtain ⟨pt,hpt⟩:∃ pt,pt=1+x3:=⟨_,rfl⟩
 show N10 (List.set _ 14 (some (.int (1+x3)))) G9
 rw [<- hpt]
 refine y10 _ _ (q24 fun N11 y11=>?_)
 refine ⟨b,gl,gv,low,pt,L,gs,rfl,SqT.of X9.hb,hL,SqL.of X9.hg,X9.ga,hgd,by omega,by omega,by omega,fun Ga Do yo sa ha _ hpa=>?_⟩
 have Xa:=X9.same sa
 rw [q406 (by omega) (by omega),<- eps] at hpa
 refine ⟨ol,rfl,⟨_,SqL.of Xa.ho⟩,fun Dp hDp=>cmp (fun p=>decide (((Wh gs).length:Int) < p.2 * pt)) Xa hDp (fun pa p G Q sG hm hp q=>?_) (fun v G Q q=>q) fun yp Gb sb hDp' hyp=>?_⟩
 ·have hc:=(q301 hin (by rw [<- eps];exact hm)).2.2
  have hcl:(Wh gs).count (p.1 - low)<=(Wh gs).length:=List.count_le_length
  refine ⟨_,_,SqT.of hp,rfl,_,_,rfl,rfl,.inl ⟨by omega,by omega⟩,l,_,rfl,.inl (SqL.of (sG _ _ Xa.hl)),?_⟩
  rw [hzl,<- hwu]
  exact q
 refine ⟨3,Do,Dp,rfl,rfl,ps_alk (SqL.of (sb _ _ ha)) (SqL.of hDp') (q137 hpa sb) hyp,by decide,ifB rfl ?_⟩
 have Xb:=Xa.same sb
 have Kb:=(K9.trans (Keep.same sa)).trans (Keep.same sb)
 clear hyp hDp' hpa ha Xa X9 K9 sa sb hDp cmp
 refine y11 _ _ (q24 fun N12 y12=>?_)
 refine y12 _ _ (q24 fun N13 y13=>?_)
 refine ⟨ol,rfl,⟨_,SqL.of Xb.ho⟩,q215 (K:=K) (a:=ol) (xs:=os) (fun j σ G=>∃ (bv:V) (a16:Option V),σ=[some (.ref pen),some (.ref b),some (.ref x),some (.ref rl),some (.ref D),some (.ref l),some (.ref gl),some (.ref ol),a8,a9,a10,a11,some (.int nu),some (.ref qa),some (.int pt),some bv,a16]/\G=Gb/\BstV Gb bv ((ps.take j).foldl bstep none)) ⟨.non,none,rfl,rfl,rfl⟩ (fun j σ G _ ⟨_,_,_,e,_⟩=>by rw [e];exact SqL.of Xb.ho) ?_ ?_⟩
 ·rintro j z σ G hz ⟨bv,a16,rfl,rfl,hbv⟩
  obtain ⟨p,gp,hpx⟩:=Xb.hq.get hz
  have et:(ps.take (j+1)).foldl bstep none=bstep ((ps.take j).foldl bstep none) p:=by
   rw [List.take_add_one,gp,List.foldl_append]
   rfl
  generalize (ps.take j).foldl bstep none=bo at *
  refine ⟨rfl,?_⟩
  cases bo with
  | none=>
   cases (show bv = .non from hbv)
   refine ite2 (fun _=>⟨z,_,rfl,rfl,?_⟩) (fun c=>absurd rfl c)
   rw [et]
   exact hpx
  | some q0=>
   obtain ⟨ab,rfl,hab⟩:=hbv
   obtain ⟨ap,rfl,hap⟩:=hpx
   refine ite2 (fun c=>absurd (of_decide_eq_true c) (by intro z;cases z)) (fun _=>?_)
   refine ⟨_,_,SqT.of hap,rfl,_,_,SqT.of hab,rfl,ite2 (fun c=>⟨_,_,rfl,rfl,?_⟩) (fun c=>⟨_,_,rfl,rfl,?_⟩)⟩
   ·rw [et]
    show BstV _ _ (if p.2 > q0.2 then some p else some q0)
    rw [if_pos (of_decide_eq_true c)]
    exact ⟨ap,rfl,hap⟩
   ·rw [et]
    show BstV _ _ (if p.2 > q0.2 then some p else some q0)
    rw [if_neg (fun z=>c (decide_eq_true z))]
    exact ⟨ab,rfl,hab⟩
 rintro σ G ⟨bv,a16,rfl,rfl,hbv⟩
 rw [hpl,List.take_length] at hbv
 refine y13 _ _ ?_
 refine ⟨b,gl,gv,low,L,gs,rfl,SqT.of Xb.hb,hL,SqL.of Xb.hg,Xb.ga,hgd,by omega,by omega,fun Gc vc sc' hvc=>?_⟩
 rw [<- eps] at hvc
 have hbv':BstV Gc bv (bst ps):=by
  cases ho:ps.foldl bstep none with
  | none=>rw [ho] at hbv;show BstV Gc bv (ps.foldl bstep none);rw [ho];exact hbv
  | some p=>rw [ho] at hbv;show BstV Gc bv (ps.foldl bstep none);rw [ho];exact PsR.tk (.same sc') hbv
 exact bst_eq hvc hbv' (q _ (Kb.trans (Keep.same sc')) (Xb.pn.same sc'))
def RefL (H:Hp) (k:Addr):Prop:=∃ (p:Addr) (es:List V),H k=some (.lst (.ref p::es))
theorem RefL.ints {l:List Int} (h:RefL H k) (e:H a=some (.lst (l.map V.int))):a ≠ k:=by
 obtain ⟨p,es,h⟩:=h
 refine ne_of e h ?_
 intro z
 cases l with
 | nil=>cases z
 | cons a l=>simp at z
theorem RefL.of {rs:LL} (h:RwsAt H l rs) (hn:0 < rs.length):RefL H l:=by
 obtain ⟨ras,e1,e2,_⟩:=h
 cases ras with
 | nil=>exact absurd e2 (by show ¬ 0=rs.length;omega)
 | cons p es=>exact ⟨p,es.map V.ref,e1⟩
theorem RwsAt.same (h:RwsAt H l rs) (s:Same H H'):RwsAt H' l rs:=by
 obtain ⟨ras,e1,e2,e3⟩:=h
 refine ⟨ras,s _ _ e1,e2,fun j r g=>?_⟩
 obtain ⟨ra,g1,g2⟩:=e3 j r g
 exact ⟨ra,g1,s _ _ g2⟩
theorem RwsAt.snoc {rs:LL} {r:List Int} {ras:List Addr} (h:RwsAt H l rs) (e:H l=some (.lst (ras.map V.ref))) (hr:H ra=some (.lst (r.map V.int))) (hn:0 < rs.length) (k:Keep l H H') (h':H' l=some (.lst (ras.map V.ref++[.ref ra]))):RwsAt H' l (rs++[r]):=by
 have R:=RefL.of h hn
 obtain ⟨ras',e1,e2,e3⟩:=h
 have he:ras'=ras:=by
  rw [e] at e1
  have:=HO.lst.inj (Option.some.inj e1)
  exact (List.map_inj_right (fun a b h=>by injection h)).mp this.symm
 subst he
 refine ⟨ras'++[ra],by rw [List.map_append];exact h',by rw [List.length_append,List.length_append,e2];rfl,fun j r1 g=>?_⟩
 by_cases hj:j < rs.length
 ·rw [List.getElem?_append_left hj] at g
  obtain ⟨ra1,g1,g2⟩:=e3 j r1 g
  exact ⟨ra1,by rw [List.getElem?_append_left (by omega)];exact g1,k _ _ (R.ints g2) g2⟩
 ·have hj':j=rs.length:=by
   have:=(List.getElem?_eq_some_iff.mp g).1
   rw [List.length_append] at this
   have t2:j < rs.length+1:=this
   omega
  subst hj'
  rw [List.getElem?_append_right (Nat.le_refl _),Nat.sub_self] at g
  obtain rfl:r=r1:=Option.some.inj g
  exact ⟨ra,by rw [List.getElem?_append_right (by omega),show rs.length - ras'.length=0 by omega];rfl,k _ _ (R.ints hr) hr⟩
theorem RwsAt.k2 {low:Int} {L:Nat} {ms:LL} (h:RwsAt H l rs) (P:PenM H dd) (M:Mks C H x ka b low L ms ds) (hn:0 < ms.length) (n:l ≠ ka) (k:Kp2 dd ka H H'):RwsAt H' l rs:=by
 obtain ⟨ras,e1,e2,e3⟩:=h
 refine ⟨ras,k _ _ (q516 P e1) n e1,e2,fun j r g=>?_⟩
 obtain ⟨ra,g1,g2⟩:=e3 j r g
 exact ⟨ra,g1,k _ _ (q422 P g2) (M.ra hn g2) g2⟩
theorem RwsAt.st (h:RwsAt H l rs) (k:Keep q H H') (R:RefL H q) (n:l ≠ q):RwsAt H' l rs:=by
 obtain ⟨ras,e1,e2,e3⟩:=h
 refine ⟨ras,k _ _ n e1,e2,fun j r g=>?_⟩
 obtain ⟨ra,g1,g2⟩:=e3 j r g
 exact ⟨ra,g1,k _ _ (R.ints g2) g2⟩
theorem Scr.k2 (h:Scr K H a xs) (e1:H dd=some (.lst ys)) (e2:H ka=some (.lst zs)) (k:Kp2 dd ka H H'):Scr K H' a xs:=by
 rcases h with ⟨o,h⟩ | h
 ·exact .inl ⟨o,k _ _ (ne_of h e1 (by intro z;cases z)) (ne_of h e2 (by intro z;cases z)) h⟩
 ·exact .inr h
theorem q519 {r t:List Int} (h:H l=some (.lst [.ref a,.ref b])) (h1:H a=some (.lst (r.map V.int))) (h2:H b=some (.lst (t.map V.int))):RwsAt H l [r,t]:=⟨[a,b],h,rfl,fun j q g=>by
 match j,g with
 | 0,g=>cases g;exact ⟨a,rfl,h1⟩
 | 1,g=>cases g;exact ⟨b,rfl,h2⟩⟩
structure Lw (K:Fg) (C a:Addr) (scs:List Int) (b x ka rl cl:Addr) (low:Int) (L:Nat) (rs cs ms ds:LL) (G:Hp):Prop where
 sc:Scr K G a (scs.map V.int)
 mm:Mks C G x ka b low L ms ds
 ro:RwsAt G rl rs
 co:RwsAt G cl cs
 n1:rl ≠ ka
 n2:cl ≠ ka
 n3:rl ≠ cl
 le:rs.length=cs.length
 pr:∀ (j:Nat) (r:List Int),rs[j]? = some r->ms[j]? = some r
 pc:∀ (j:Nat) (r:List Int),cs[j]? = some r->ds[j]? = some r
 p2:2<=rs.length
section
variable {K:Fg} {C a b x ka rl cl:Addr} {scs:List Int} {low:Int} {L:Nat} {rs cs ms ds:LL} {G G':Hp}
theorem Lw.po (X:Lw K C a scs b x ka rl cl low L rs cs ms ds G):0 < ms.length:=by
 have h:=X.p2
 have:=(List.getElem?_eq_some_iff.mp (X.pr 0 _ (List.getElem?_eq_getElem (by omega)))).1
 omega
theorem Lw.same (X:Lw K C a scs b x ka rl cl low L rs cs ms ds G) (s:Same G G'):Lw K C a scs b x ka rl cl low L rs cs ms ds G':=
 ⟨X.sc.same s,X.mm.same s,X.ro.same s,X.co.same s,X.n1,X.n2,X.n3,X.le,X.pr,X.pc,X.p2⟩
theorem Lw.pk (X:Lw K C a scs b x ka rl cl low L rs cs ms ds G) (P:PenM G dd) (k:Keep dd G G'):Lw K C a scs b x ka rl cl low L rs cs ms ds G':=by
 obtain ⟨pc,hpc⟩:=P.at
 exact ⟨P.scr k X.sc,X.mm.keep k hpc (X.mm.pen X.po P),X.ro.kp P k,X.co.kp P k,X.n1,X.n2,X.n3,X.le,X.pr,X.pc,X.p2⟩
theorem Lw.mk2 (X:Lw K C a scs b x ka rl cl low L rs cs ms ds G) (P:PenM G dd) (k:Kp2 dd ka G G') (M:Mks C G' x ka b low L (ms++ms') (ds++ds')):Lw K C a scs b x ka rl cl low L rs cs (ms++ms') (ds++ds') G':=by
 obtain ⟨pc,hpc⟩:=P.at
 obtain ⟨q,es,hes⟩:=X.mm.first X.po
 refine ⟨X.sc.k2 hpc hes k,M,X.ro.k2 P X.mm X.po X.n1 k,X.co.k2 P X.mm X.po X.n2 k,X.n1,X.n2,X.n3,X.le,fun j r g=>?_,fun j r g=>?_,X.p2⟩
 ·have h:=X.pr j r g
  rw [List.getElem?_append_left (List.getElem?_eq_some_iff.mp h).1]
  exact h
 ·have h:=X.pc j r g
  rw [List.getElem?_append_left (List.getElem?_eq_some_iff.mp h).1]
  exact h
theorem Lw.mk1 (X:Lw K C a scs b x ka rl cl low L rs cs ms ds G) (k:Keep ka G G') (M:Mks C G' x ka b low L (ms++ms') (ds++ds')):Lw K C a scs b x ka rl cl low L rs cs (ms++ms') (ds++ds') G':=by
 obtain ⟨q,es,hes⟩:=X.mm.first X.po
 have R:RefL G ka:=⟨q,es,hes⟩
 refine ⟨?_,M,X.ro.st k R X.n1,X.co.st k R X.n2,X.n1,X.n2,X.n3,X.le,fun j r g=>?_,fun j r g=>?_,X.p2⟩
 ·exact X.sc.keep k hes
 ·have h:=X.pr j r g
  rw [List.getElem?_append_left (List.getElem?_eq_some_iff.mp h).1]
  exact h
 ·have h:=X.pc j r g
  rw [List.getElem?_append_left (List.getElem?_eq_some_iff.mp h).1]
  exact h
end
abbrev k_law:Nat:=60
abbrev sp_law (K:Fg):Sp:=spLaw K
theorem ok_law (z:Bz K mg cA cB cC cD cG):∀ (f:Addr) (fd:FuncData),Fun K "law" "law" s_law f fd->FnOk P w K mg base CX0 k_law f fd ["_law_script"] (sp_law K):=by
 have sc:=sc_law
 intro f fd F
 refine F.ok sc (fun _ _ _ _ ⟨_,_,e,_⟩=>by rw [e];rfl) fun _ _ _ s H _ Q _ hr h=>?_
 obtain ⟨a,scs,rfl,hS,h63,hO,q⟩:=h
 refine ⟨_,(q12 (pst 1 sc.nd (pe_fn (q117 z) hr.m (by rfl) (q10 (pr 0) (q10 q13 q11))))
 (q12 (pst 2 sc.nd (pe_fn (q280 z) hr.m (by rfl) (q10 (pr 1) q11)))
 (q12 (pst 3 sc.nd (pe_mk (q576 z) hr.m (by rfl) z.m_Makes (q10 (pr 2) q11)))
 (q12 (pst 4 sc.nd (q36 (q10 (q36 q11) (q10 (pe_fn (q264 z) hr.m (by rfl) (q10 (pe_fn (q117 z) hr.m (by rfl) (q10 (pr 0) (q10 q13 q11))) (q10 (pr 2) (q10 (pix q56 (q36 (q10 q13 (q10 q13 (q10 q13 (q10 q13 q11))))) (pe_fn (q22 z) hr.m (by rfl) (q10 (pr 1) (q10 q13 q11)))) q11)))) q11))))
 (q12 (pst 5 sc.nd (q36 (q10 (q36 q11) (q10 (q36 q11) q11))))
 (q12 (ps_if (q23 op_ne (q37 (q268 z) hr.m (pr 3) (q10 (q68 q125 (by rfl) z.list_ q433 (q10 (pix q56 (pr 4) q13) q11)) q11)) q13 (q19 _))
 (q15 (q18 pe_bl))
 q21)
 (q12 (q66 PassesOwn.never rfl (q52 rfl z.range_ (q10 (pe_fn (q22 z) hr.m (by rfl) (q10 (pr 1) (q10 q13 q11))) q11)) (pgn 6 sc.nd)
 (q12 (q226 (pe_fn (q425 z) hr.m (by rfl) (q10 (pe_fn (q117 z) hr.m (by rfl) (q10 (pr 0) (q10 (pe_op q40 q13 (pr 6)) q11))) (q10 (pr 2) (q10 (pr 4) (q10 (pr 3) q11))))) (q225 rfl (q35 (pgn 7 sc.nd) (q35 (pgn 8 sc.nd) (q35 (pgn 9 sc.nd) q122)))))
 (q12 (q98 (pe_bm PySem.F.plainAttrs_list PySem.F.slot_list_append PySem.F.type_list_append q69 (pr 4) (q10 (pr 8) q11)))
 (q12 (q98 (pe_bm PySem.F.plainAttrs_list PySem.F.slot_list_append PySem.F.type_list_append q69 (pr 5) (q10 (pr 9) q11)))
 (q15 (ps_if (PW.pt (pw_or (q23 op_ne (pr 7) (pe_op q146 (pln z.len_ (q10 (pr 4) q11)) q13) (q19 _)) (q88 (q23 op_ne (q637 (q420 z) hr.m (pr 3)) (pln z.len_ (q10 (pr 4) q11)) (q19 _)))))
 (q15 (q18 pe_bl))
 q21))))))
 (q12 (q66 PassesOwn.never rfl (q52 rfl z.range_ (q10 q13 q11)) (pgn 10 sc.nd)
 (q12 (q66 PassesOwn.never rfl (q52 rfl z.range_ (q10 (pln z.len_ (q10 (pr 4) q11)) q11)) (pgn 11 sc.nd)
 (q15 (ps_if (PW.pt (pw_or (q472 (q353 (pe_fn (q575 z) hr.m (by rfl) (q10 (q37 (q62 z) hr.m (pr 3) (q10 (pr 11) q11)) (q10 (pr 2) (q10 (pix q56 (pr 4) (pr 11)) q11)))))) (q88 (q23 (op_neL hr.units) (q37 (q421 z) hr.m (pr 3) (q10 (pr 11) q11)) (pix q56 (pr 5) (pr 11)) (q19 _)))))
 (q15 (q18 pe_bl))
 q21)))
 (q12 (q66 PassesOwn.never rfl (q52 rfl z.range_ (q10 q13 q11)) (pgn 6 sc.nd)
 (q15 (ps_if (q472 (q353 (pe_fn (q213 z) hr.m (by rfl) (q10 (pe_fn (q117 z) hr.m (by rfl) (q10 (pr 0) (q10 (pe_op q40 (pe_op q40 q13 (pe_op q89 q13 (pr 10))) (pr 6)) q11))) (q10 (pr 2) (q10 (pr 3) (q10 (pr 4) q11)))))))
 (q15 (q18 pe_bl))
 q21)))
 (q15 (ps_if (q23 op_ne (q37 (q269 z) hr.m (pr 3) (q10 (pe_op q146 (q637 (q420 z) hr.m (pr 3)) q13) q11)) (pe_op q40 (pln z.len_ (q10 (pr 4) q11)) (pr 10)) (q19 _))
 (q15 (q18 pe_bl))
 q21)))))
 (q15 (q18 pe_bl)))))))))),?_⟩
 dsimp only [cxK]
 have S0:Scr K H a (scs.map V.int):=Scr.of hS hO
 refine q24 fun N_ y_=>?_
 refine ⟨a,scs,0,rfl,hS,h63,by decide,by decide,fun pen H1 hpen s1 P1=>?_⟩
 have S1:=S0.same s1
 refine y_ _ _ (q24 fun N_ y_=>?_)
 refine ⟨pen,rfl,P1,fun b low L H2 k2 P2 hb hL lo0 lo1=>?_⟩
 have S2:=P1.scr k2 S1
 refine y_ _ _ (q24 fun N_ y_=>?_)
 refine fun x dx hx hdx hne=>?_
 have s2:Same H2 (upd (upd H2 dx (.own x)) x (.ins cG dx [])):=(q16 hdx _).trans (q16 (by rw [q31 (Ne.symm hne)];exact hx) _)
 refine ⟨x,b,dx,low,L,rfl,q14,s2 _ _ hb,hL,fun ka H3 hka kx M3=>⟨rfl,?_⟩⟩
 have s3:Same H2 H3:=fun c o hc=>kx _ _ (q27 hc hx) (s2 _ _ hc)
 have nkp:ka ≠ pen:=P2.fresh (s2.free hka)
 have P3:=P2.same s3
 have S3:=S2.same s3
 have hb3:=s3 _ _ hb
 clear s2 kx hka hx hdx hne s1 k2 P1 P2 S0 S1 S2 hS hO hb hpen
 refine y_ _ _ (q24 fun N_ y_=>?_)
 refine ⟨szb rfl,fun e0 he0=>?_⟩
 obtain ⟨H4,e4,s4,h4⟩:=nwH he0 (.lst [])
 rw [e4]
 refine ⟨a,scs,1,rfl,(S3.same s4).sq,h63,by decide,by decide,fun pn H5 hpn s5 P5=>?_⟩
 refine ⟨szb rfl,fun l4 hl4=>?_⟩
 obtain ⟨H6,e6,s6,h6⟩:=nwH hl4 (.lst [.int 8,.int 8,.int 8,.int 30])
 rw [e6]
 have s36:=(s4.trans s5).trans s6
 have P6:=P3.same s36
 have n4p:l4 ≠ pen:=(P3.same (s4.trans s5)).fresh hl4
 refine ⟨pen,4,rfl,P6,by decide,by decide,fun v H7 k7 P7 v0 v1=>?_⟩
 obtain ⟨gv,hgv,g0,g1⟩:∃ gv:Int,atI [V.int 8,.int 8,.int 8,.int 30] v=some (.int gv)/\0<=gv/\gv<=60:=by
  obtain ⟨n,rfl⟩:=Int.eq_ofNat_of_zero_le v0
  match n,v1 with
  | 0,_=>exact ⟨8,rfl,by decide,by decide⟩
  | 1,_=>exact ⟨8,rfl,by decide,by decide⟩
  | 2,_=>exact ⟨8,rfl,by decide,by decide⟩
  | 3,_=>exact ⟨30,rfl,by decide,by decide⟩
  | n+4,h=>omega
 have npp:pn ≠ pen:=(P3.same s4).fresh hpn
 have P5':PenM H7 pn:=(P5.same s6).keep (Ne.symm npp) k7
 refine ⟨_,_,SqL.of (k7 _ _ n4p h6),hgv,?_⟩
 refine ⟨pn,b,low,gv,L,rfl,P5',k7 _ _ (P6.ne (s36 _ _ hb3)) (s36 _ _ hb3),hL,g0,g1,fun rn ns H8 k8 P8 hrn hrn0 hnl hnw=>?_⟩
 have M4:=M3.same s4
 obtain ⟨qk,es,hes⟩:=M4.first (by decide)
 have nkn:ka ≠ pn:=q27 hes hpn
 obtain ⟨pc6,hpc6⟩:=P6.at
 obtain ⟨pc7,hpc7⟩:=P5'.at
 have M8:=(((M4.same s5).same s6).keep k7 hpc6 nkp).keep k8 hpc7 nkn
 have S8:=P5'.scr k8 (P6.scr k7 (S3.same s36))
 have P8p:=P7.keep npp k8
 have he8:=k8 _ _ (q27 h4 hpn) (k7 _ _ (P3.fresh he0) (s6 _ _ (s5 _ _ h4)))
 have hl60:ns.length<=60:=by omega
 clear M3 M4 hes nkn hpc6 hpc7 P3 P5 P5' P6 P7 P8 S3 s3 s4 s5 s6 s36 k7 k8 h4 h6 he0 hl4 hpn npp n4p hb3 hgv g0 g1 hnl e4 e6
 refine ⟨szb rfl,fun rl hrl=>?_⟩
 obtain ⟨H9,e9,s9,h9⟩:=nwH hrl (.lst [.ref e0,.ref rn])
 rw [e9]
 refine y_ _ _ (q24 fun N_ y_=>?_)
 refine ⟨szb rfl,fun c0 hc0=>?_⟩
 obtain ⟨HA,eA,sA,hA⟩:=nwH hc0 (.lst [])
 rw [eA]
 refine ⟨szb rfl,fun c1 hc1=>?_⟩
 obtain ⟨HB,eB,sB,hB⟩:=nwH hc1 (.lst [])
 rw [eB]
 refine ⟨szb rfl,fun cl hcl=>?_⟩
 obtain ⟨HC,eC,sC,hC⟩:=nwH hcl (.lst [.ref c0,.ref c1])
 rw [eC]
 have s9C:=(sA.trans sB).trans sC
 have s8C:=s9.trans s9C
 have RC:RwsAt HC rl [[],ns]:=q519 (r:=[]) (s9C _ _ h9) (s8C _ _ he8) (s8C _ _ hrn)
 have CC:RwsAt HC cl [[],[]]:=q519 (r:=[]) (t:=[]) hC ((sB.trans sC) _ _ hA) (sC _ _ hB)
 have MC:=M8.same s8C
 have PC:=P8p.same s8C
 have SC:=S8.same s8C
 obtain ⟨q8,es8,hes8⟩:=M8.first (by decide)
 have nrk:rl ≠ ka:=Ne.symm (q27 hes8 hrl)
 have nck:cl ≠ ka:=Ne.symm (q27 ((s9.trans (sA.trans sB)) _ _ hes8) hcl)
 have nrc:rl ≠ cl:=q27 ((sA.trans sB) _ _ h9) hcl
 have hlC:=s9C _ _ h9
 have hnC:=s8C _ _ hrn
 clear hes8 M8 P8p S8 he8 hrn h9 hA hB hC s9 sA sB sC s9C s8C hrl hc0 hc1 hcl e9 eA eB eC
 obtain ⟨dx,hx⟩:=MC.o
 refine y_ _ _ (q24 fun N_ y_=>?_)
 refine ⟨x,dx,_,rfl,hx,rfl,_,_,SqL.of hlC,rfl,rn,_,rfl,.inl (SqL.of hnC),fun hh hhn=>?_⟩
 obtain ⟨HD,eD,sD,hD⟩:=nwH hhn (.lst (ns.map V.int))
 rw [eD]
 obtain ⟨q8,es8,hes8⟩:=MC.first (by decide)
 refine ⟨x,ka,b,hh,low,L,[[]],[[]],ns,rfl,MC.same sD,SqL.of hD,hnw,by omega,by decide,fun HE kE ME=>⟨rfl,ifB rfl ?_⟩⟩
 have RK:RefL HD ka:=⟨q8,es8,sD _ _ hes8⟩
 have XE:Lw K cG a scs b x ka rl cl low L [[],ns] [[],[]] [[],ns] [[],[]] HE:=⟨(SC.same sD).keep kE (sD _ _ hes8),ME,(RC.same sD).st kE RK nrk,(CC.same sD).st kE RK nck,nrk,nck,nrc,rfl,fun _ _ h=>h,fun _ _ h=>h,(by decide:2<=2)⟩
 have PE:PenM HE pen:=(PC.same sD).keep nkp kE
 clear RK hes8 hD sD hhn eD hx hlC hnC RC CC MC PC SC kE ME dx hnw
 refine y_ _ _ (q24 fun N_ y_=>?_)
 refine ⟨pen,11,rfl,PE,by decide,by decide,fun n G k1 P1 n0 n1=>?_⟩
 have XG:=XE.pk PE k1
 clear XE PE k1 P1
 refine ⟨n,rfl,by omega,by omega,q61 (n:=n.toNat) (fun i σ G=>∃ (rs cs:LL) (a6 a7 a8 a9:Option V),σ=[some (.ref a),some (.ref pen),some (.ref b),some (.ref x),some (.ref rl),some (.ref cl),a6,a7,a8,a9,none,none]/\Lw K cG a scs b x ka rl cl low L rs cs rs cs G/\rs.length=2+i /\ ∀ r ∈ rs,r.length<=60+i)
  ⟨_,_,_,_,_,_,rfl,XG,rfl,fun r hr=>?_⟩ ?_ ?_⟩
 ·rcases List.mem_cons.mp hr with rfl | hr
  ·exact Nat.zero_le _
  ·rw [List.mem_singleton.mp hr];exact hl60
 ·clear XG G
  rintro i σ G hi ⟨rs,cs,a6,a7,a8,a9,rfl,XG,hrl,hN⟩
  refine q24 fun N_ y_=>?_
  refine ⟨a,scs,_,rfl,XG.sc.sq,h63,by omega,by omega,fun dd G1 hdd t1 D1=>?_⟩
  have X1:=XG.same t1
  refine ⟨dd,b,rl,x,ka,low,L,rs,cs,60+i,rfl,D1,X1.ro,X1.mm,X1.po,by omega,hN,by omega,by omega,lo0,lo1,X1.n1,fun p ra ca r c G2 hp hra hca hrN hc10 M2 k2=>?_⟩
  have X2:=X1.mk2 D1 k2 M2
  refine ⟨p,_,rfl,SqT.of hp,rfl,_,_,rfl,_,_,rfl,_,_,rfl,rfl,?_⟩
  obtain ⟨ras,hrs,hrsl,_⟩:=id X2.ro
  obtain ⟨cas,hcs,hcsl,_⟩:=id X2.co
  have hle:=X2.le
  have RL:RefL G2 rl:=.of X2.ro (by omega)
  have CL:RefL G2 cl:=.of X2.co (by omega)
  refine y_ _ _ (q24 fun N_ y_=>?_)
  refine ⟨.inl ⟨rfl,_,SqL.of hrs⟩,rl,_,_,rfl,rfl,hrs,by rw [List.length_map];exact q54 (by omega),?_⟩
  have kr:Keep rl G2 (upd G2 rl (.lst (ras.map V.ref++[.ref ra]))):=Keep.set rl G2 _
  have hrs3:=@q14 G2 rl (.lst (ras.map V.ref++[.ref ra]))
  generalize upd G2 rl (.lst (ras.map V.ref++[.ref ra]))=G3 at *
  have R3:=X2.ro.snoc hrs hra (by omega) kr hrs3
  have C3:=X2.co.st kr RL (Ne.symm X2.n3)
  have M3:=X2.mm.keep kr hrs (Ne.symm X2.n1)
  have S3:=X2.sc.keep kr hrs
  have hca3:=kr _ _ (RL.ints hca) hca
  have hcs3:=kr _ _ (Ne.symm X2.n3) hcs
  refine y_ _ _ (q24 fun N_ y_=>?_)
  refine ⟨.inl ⟨rfl,_,SqL.of hcs3⟩,cl,_,_,rfl,rfl,hcs3,by rw [List.length_map];exact q54 (by omega),?_⟩
  have kc:Keep cl G3 (upd G3 cl (.lst (cas.map V.ref++[.ref ca]))):=Keep.set cl G3 _
  have hcs4:=@q14 G3 cl (.lst (cas.map V.ref++[.ref ca]))
  generalize upd G3 cl (.lst (cas.map V.ref++[.ref ca]))=G4 at *
  have CL3:RefL G3 cl:=.of C3 (by omega)
  have X4:Lw K cG a scs b x ka rl cl low L (rs++[r]) (cs++[c]) (rs++[r]) (cs++[c]) G4:=⟨S3.keep kc hcs3,M3.keep kc hcs3 (Ne.symm X2.n2),R3.st kc CL3 X2.n3,C3.snoc hcs3 hca3 (by omega) kc hcs4,X2.n1,X2.n2,X2.n3,by rw [List.length_append,List.length_append,hle];rfl,fun _ _ h=>h,fun _ _ h=>h,by rw [List.length_append];omega⟩
  have hrs4:=kc _ _ X2.n3 hrs3
  have hl1:(ras.map V.ref++[V.ref ra]).length=rs.length+1:=by rw [List.length_append,List.length_map,hrsl];rfl
  have hl2:(rs++[r]).length=rs.length+1:=List.length_append
  refine y_ _ _ ?_
  refine ⟨rl,_,rfl,.inl (SqL.of hrs4),?_⟩
  rw [hl1]
  refine ⟨rfl,ifB (nde (congrArg V.int (by omega))) ?_⟩
  obtain ⟨dx,hx⟩:=X4.mm.o
  refine ⟨x,dx,_,rfl,hx,rfl,x,ka,b,low,L,_,_,rfl,X4.mm,rl,_,rfl,.inl (SqL.of hrs4),?_⟩
  rw [hl1,hl2]
  refine ⟨rfl,ifB (nde rfl) ⟨_,_,_,_,_,_,rfl,X4,by rw [hl2];omega,fun r' hr'=>?_⟩⟩
  rcases List.mem_append.mp hr' with h | h
  ·have:=hN r' h;omega
  ·rw [List.mem_singleton.mp h];omega
 clear XG G
 rintro σ G ⟨rs,cs,a6,a7,a8,a9,rfl,XG,hrl,hN⟩
 have hr100:∀ r ∈ rs,r.length<=100:=fun r hr=>by have:=hN r hr;omega
 have hn11:rs.length<=13:=by omega
 clear hN hrl
 refine y_ _ _ (q24 fun N_ y_=>?_)
 refine ⟨2,rfl,by decide,by decide,q61 (n:=2) (fun i σ G=>∃ (ms ds:LL) (b6 b10 b11:Option V),σ=[some (.ref a),some (.ref pen),some (.ref b),some (.ref x),some (.ref rl),some (.ref cl),b6,a7,a8,a9,b10,b11]/\Lw K cG a scs b x ka rl cl low L rs cs ms ds G/\ms.length=rs.length+i) ⟨rs,cs,_,_,_,rfl,XG,rfl⟩ ?_ (fun σ G _=>y_ _ _ (q G))⟩
 clear XG G
 rintro i σ G hi ⟨ms,ds,b6,b10,b11,rfl,XG,hml⟩
 obtain ⟨ras,hrs,hrsl,hrE⟩:=id XG.ro
 obtain ⟨cas,hcs,hcsl,hcE⟩:=id XG.co
 have hle:=XG.le
 have hlm:(ras.map V.ref).length=rs.length:=by rw [List.length_map];exact hrsl
 refine q24 fun N_ y_=>?_
 refine ⟨rl,_,rfl,.inl (SqL.of hrs),_,rfl,by omega,by omega,q61 (n:=(ras.map V.ref).length) (fun j σ G'=>∃ b11:Option V,σ=[some (.ref a),some (.ref pen),some (.ref b),some (.ref x),some (.ref rl),some (.ref cl),b6,a7,a8,a9,some (.int (0+i)),b11]/\Same G G') ⟨_,rfl,Same.refl _⟩ ?_ ?_⟩
 ·rintro j σ G1 hj ⟨b11,rfl,s1⟩
  rw [hlm] at hj
  have X1:=XG.same s1
  obtain ⟨dx,hx⟩:=X1.mm.o
  have gj:rs[j]? = some (rs[j]'hj):=List.getElem?_eq_getElem hj
  generalize rs[j]'hj=r at gj
  have gc:cs[j]? = some (cs[j]'(by omega)):=List.getElem?_eq_getElem _
  generalize cs[j]'(by omega)=c at gc
  obtain ⟨ra,gra,hra⟩:=hrE j r gj
  obtain ⟨ca,gca,hca⟩:=hcE j c gc
  have hr:=hr100 r (List.mem_of_getElem? gj)
  rw [show (0:Int)+(j:Int)=(j:Int) by omega]
  refine ⟨x,dx,_,rfl,hx,rfl,x,ka,b,j,low,L,ms,ds,r,rfl,X1.mm,X1.pr j r gj,fun v hv=>?_⟩
  refine ⟨_,_,SqL.of (s1 _ _ hrs),q39 (by rw [List.getElem?_map,gra];rfl),v,b,ra,low,L,r,rfl,SqT.of X1.mm.hb,hL,SqL.of (s1 _ _ hra),by omega,hv,fun G2 s2=>⟨_,rfl,ifB rfl ?_⟩⟩
  have X2:=X1.same s2
  refine ⟨x,dx,_,rfl,s2 _ _ hx,rfl,x,ka,b,j,low,L,ms,ds,c,rfl,X2.mm,X2.pc j c gc,fun G3 D s3 hD _=>?_⟩
  have s13:=(s1.trans s2).trans s3
  exact ⟨_,_,SqL.of (s13 _ _ hcs),q39 (by rw [List.getElem?_map,gca];rfl),D,ca,c,c,rfl,rfl,SqL.of hD,SqL.of (s13 _ _ hca),ifB (nde rfl) ⟨_,rfl,s13⟩⟩
 rintro σ G1 ⟨b11',rfl,s1⟩
 have X1:=XG.same s1
 clear XG hrs hrE hcs hcE hrsl hcsl hlm s1
 refine y_ _ _ (q24 fun N_ y_=>?_)
 refine ⟨3,rfl,by decide,by decide,q61 (n:=3) (fun k σ G'=>∃ b6:Option V,σ=[some (.ref a),some (.ref pen),some (.ref b),some (.ref x),some (.ref rl),some (.ref cl),b6,a7,a8,a9,some (.int (0+i)),b11']/\Lw K cG a scs b x ka rl cl low L rs cs ms ds G') ⟨_,rfl,X1⟩ ?_ ?_⟩
 ·clear X1 G1
  rintro k σ G1 hk ⟨b6',rfl,X1⟩
  refine ⟨_,_,rfl,rfl,.inl ⟨by decide,by decide⟩,a,scs,_,rfl,X1.sc.sq,h63,by omega,by omega,fun dd G2 hdd t1 D1=>?_⟩
  have X2:=X1.same t1
  exact ⟨dd,b,rl,x,ka,low,L,rs,ms,ds,rfl,D1,X2.ro,X2.mm,X2.po,X2.pr,by have:=X2.p2;omega,by omega,hr100,fun G3 k3 P3=>⟨_,rfl,ifB rfl ⟨_,rfl,X2.pk D1 k3⟩⟩⟩
 clear X1 G1
 rintro σ G1 ⟨b6',rfl,X1⟩
 obtain ⟨dx,hx⟩:=X1.mm.o
 have h0:=X1.po
 obtain ⟨r,hr⟩:∃ r,ms[ms.length - 1]? = some r:=⟨ms[ms.length - 1]'(by omega),List.getElem?_eq_getElem _⟩
 refine y_ _ _ ?_
 refine ⟨x,dx,_,rfl,hx,rfl,x,dx,_,rfl,hx,rfl,x,ka,b,low,L,ms,ds,rfl,X1.mm,x,ka,b,ms.length - 1,low,L,ms,ds,r,congrArg (fun z=>[V.ref x,V.int z]) (by omega),X1.mm,hr,by omega,fun G2 k2 M2=>?_⟩
 have X2:=X1.mk1 k2 M2
 obtain ⟨ras,hrs,hrsl,_⟩:=id X2.ro
 refine ⟨rl,_,rfl,.inl (SqL.of hrs),rfl,ifB (nde (congrArg V.int (by rw [List.length_map];omega))) ⟨_,_,_,_,_,rfl,X2,by rw [List.length_append,hml];rfl⟩⟩
end My
open PySem PySem.W PyProof.Rows
set_option maxRecDepth 100000 in
set_option maxHeartbeats 0 in
theorem PySem.Challenge.cw_manyleast_k66_whole_any_makes_asked_holds : PySem.Challenge.rw_manyleast_k66_whole_any_makes_asked.Holds := by
 refine MyQ.hd ?_
 k_fill
 refine L2.walkL (k:=My.k_law) (l:=PySem.Challenge.rw_manyleast_k66_whole_any_makes_asked) ⟨rfl,by decide,by decide⟩ rfl rfl (fun w h Y=>PySem.W.kIn_of Y) ?F
 case F=>
  intro w mg fa h KX G hmg
  have d_law:L2.Def (L2.KOf KX) mg "law" My.s_law ["_law_script"]:=by
   dsimp only [L2.KOf]
   refine' L2.q694 KX G ?a ?l ?c ?k ?b
   (case a=>k_is);(case l=>k_is);(case c=>k_is);(case k=>k_is)
   (case b=>exact fun _ _ _ _ _ _ us hl=>match us,hl with | [_],_=>rfl)
  obtain ⟨cA,cB,cC,cD,cG,z⟩:∃ cA cB cC cD cG:Addr,My.Bz (L2.KOf KX) mg cA cB cC cD cG:=by
   dsimp only [L2.KOf]
   refine' ⟨_,_,_,_,_,⟨PySem.W.mg_none_of KX G ?z0,PySem.W.mg_none_of KX G ?z1,PySem.W.mg_none_of KX G ?z2,PySem.W.mg_none_of KX G ?z3,PySem.W.mg_none_of KX G ?z4,PySem.W.mg_none_of KX G ?z5,PySem.W.mg_none_of KX G ?z6,PySem.W.mg_none_of KX G ?z7,PySem.W.mg_none_of KX G ?z8,PySem.W.mg_none_of KX G ?z9,PySem.W.mg_none_of KX G ?z10,PySem.W.mg_none_of KX G ?z11,PySem.W.mg_none_of KX G ?z12,PySem.W.mg_none_of KX G ?z13,PySem.W.mg_of KX G ?m0,PySem.W.mg_of KX G ?m1,PySem.W.mg_of KX G ?m2,PySem.W.mg_of KX G ?m3,PySem.W.mg_of KX G ?m4,?y0_0,?y1_0,⟨?o0_0,?o0_1,?o0_2,?o0_3⟩,⟨_,_,⟨?my0_0,?my0_1,?my0_2,?my0_3⟩,L2.q687 ?ml0 ?mc0 ?mk0,?mb0⟩,⟨_,_,⟨?my1_0,?my1_1,?my1_2⟩,L2.q687 ?ml1 ?mc1 ?mk1,?mb1⟩,⟨_,_,⟨?my2_0,?my2_1,?my2_2⟩,L2.q687 ?ml2 ?mc2 ?mk2,?mb2⟩,⟨_,_,⟨?my3_0,?my3_1,?my3_2⟩,L2.q687 ?ml3 ?mc3 ?mk3,?mb3⟩,⟨_,_,⟨?my4_0,?my4_1,?my4_2⟩,L2.q687 ?ml4 ?mc4 ?mk4,?mb4⟩,⟨_,_,⟨?my5_0,?my5_1,?my5_2⟩,L2.q687 ?ml5 ?mc5 ?mk5,?mb5⟩,⟨_,_,⟨?my6_0,?my6_1,?my6_2⟩,L2.q687 ?ml6 ?mc6 ?mk6,?mb6⟩,⟨_,_,⟨?my7_0,?my7_1,?my7_2⟩,L2.q687 ?ml7 ?mc7 ?mk7,?mb7⟩,⟨_,_,⟨?my8_0,?my8_1,?my8_2⟩,L2.q687 ?ml8 ?mc8 ?mk8,?mb8⟩,⟨_,_,⟨?my9_0,?my9_1,?my9_2⟩,L2.q687 ?ml9 ?mc9 ?mk9,?mb9⟩,⟨_,_,⟨?my10_0,?my10_1,?my10_2⟩,L2.q687 ?ml10 ?mc10 ?mk10,?mb10⟩,⟨_,_,⟨?my11_0,?my11_1,?my11_2⟩,L2.q687 ?ml11 ?mc11 ?mk11,?mb11⟩,⟨_,_,⟨?my12_0,?my12_1,?my12_2⟩,L2.q687 ?ml12 ?mc12 ?mk12,?mb12⟩,⟨_,_,⟨?my13_0,?my13_1,?my13_2⟩,L2.q687 ?ml13 ?mc13 ?mk13,?mb13⟩,⟨_,_,⟨?my14_0,?my14_1,?my14_2⟩,L2.q687 ?ml14 ?mc14 ?mk14,?mb14⟩,L2.q694 KX G ?a0 ?l0 ?c0 ?k0 (fun _ _ _ _ _ _=>L2.mt1 fun _=>rfl),L2.q694 KX G ?a1 ?l1 ?c1 ?k1 (fun _ _ _ _ _ _=>L2.mt1 fun _=>rfl),L2.q694 KX G ?a2 ?l2 ?c2 ?k2 (fun _ _ _ _ _ _=>L2.mt2 fun _ _=>rfl),L2.q694 KX G ?a3 ?l3 ?c3 ?k3 (fun _ _ _ _ _ _=>L2.mt2 fun _ _=>rfl),L2.q694 KX G ?a4 ?l4 ?c4 ?k4 (fun _ _ _ _ _ _=>L2.mt2 fun _ _=>rfl),L2.q694 KX G ?a5 ?l5 ?c5 ?k5 (fun _ _ _ _ _ _=>L2.mt3 fun _ _ _=>rfl),L2.q694 KX G ?a6 ?l6 ?c6 ?k6 (fun _ _ _ _ _ _=>L2.mt3 fun _ _ _=>rfl),L2.q694 KX G ?a7 ?l7 ?c7 ?k7 (fun _ _ _ _ _ _=>L2.mt2 fun _ _=>rfl),L2.q694 KX G ?a8 ?l8 ?c8 ?k8 (fun _ _ _ _ _ _=>L2.mt3 fun _ _ _=>rfl),L2.q694 KX G ?a9 ?l9 ?c9 ?k9 (fun _ _ _ _ _ _=>L2.mt2 fun _ _=>rfl),L2.q694 KX G ?a10 ?l10 ?c10 ?k10 (fun _ _ _ _ _ _=>L2.mt1 fun _=>rfl),L2.q694 KX G ?a11 ?l11 ?c11 ?k11 (fun _ _ _ _ _ _=>L2.mt3 fun _ _ _=>rfl),L2.q693 KX G ?a12 ?l12 ?c12 ?k12 (fun _ _ _ _ _ _=>L2.mt4 fun _ _ _ _=>rfl),L2.q694 KX G ?a13 ?l13 ?c13 ?k13 (fun _ _ _ _ _ _=>L2.mt3 fun _ _ _=>rfl),L2.q694 KX G ?a14 ?l14 ?c14 ?k14 (fun _ _ _ _ _ _=>L2.mt4 fun _ _ _ _=>rfl),L2.q693 KX G ?a15 ?l15 ?c15 ?k15 (fun _ _ _ _ _ _=>L2.mt3 fun _ _ _=>rfl),L2.q694 KX G ?a16 ?l16 ?c16 ?k16 (fun _ _ _ _ _ _=>L2.mt2 fun _ _=>rfl),L2.q693 KX G ?a17 ?l17 ?c17 ?k17 (fun _ _ _ _ _ _=>L2.mt4 fun _ _ _ _=>rfl),L2.q694 KX G ?a18 ?l18 ?c18 ?k18 (fun _ _ _ _ _ _=>L2.mt1 fun _=>rfl),L2.q694 KX G ?a19 ?l19 ?c19 ?k19 (fun _ _ _ _ _ _=>L2.mt1 fun _=>rfl),L2.q694 KX G ?a20 ?l20 ?c20 ?k20 (fun _ _ _ _ _ _=>L2.mt2 fun _ _=>rfl),L2.q694 KX G ?a21 ?l21 ?c21 ?k21 (fun _ _ _ _ _ _=>L2.mt2 fun _ _=>rfl),L2.q694 KX G ?a22 ?l22 ?c22 ?k22 (fun _ _ _ _ _ _=>L2.mt3 fun _ _ _=>rfl),L2.q693 KX G ?a23 ?l23 ?c23 ?k23 (fun _ _ _ _ _ _=>L2.mt1 fun _=>rfl),L2.q693 KX G ?a24 ?l24 ?c24 ?k24 (fun _ _ _ _ _ _=>L2.mt2 fun _ _=>rfl),L2.q693 KX G ?a25 ?l25 ?c25 ?k25 (fun _ _ _ _ _ _=>L2.mt1 fun _=>rfl),L2.q693 KX G ?a26 ?l26 ?c26 ?k26 (fun _ _ _ _ _ _=>L2.mt1 fun _=>rfl),L2.q694 KX G ?a27 ?l27 ?c27 ?k27 (fun _ _ _ _ _ _=>L2.mt1 fun _=>rfl),L2.q694 KX G ?a28 ?l28 ?c28 ?k28 (fun _ _ _ _ _ _=>L2.mt3 fun _ _ _=>rfl),L2.q694 KX G ?a29 ?l29 ?c29 ?k29 (fun _ _ _ _ _ _=>L2.mt3 fun _ _ _=>rfl),L2.q694 KX G ?a30 ?l30 ?c30 ?k30 (fun _ _ _ _ _ _=>L2.mt3 fun _ _ _=>rfl),L2.q694 KX G ?a31 ?l31 ?c31 ?k31 (fun _ _ _ _ _ _=>L2.mt2 fun _ _=>rfl),L2.q694 KX G ?a32 ?l32 ?c32 ?k32 (fun _ _ _ _ _ _=>L2.mt4 fun _ _ _ _=>rfl),L2.q694 KX G ?a33 ?l33 ?c33 ?k33 (fun _ _ _ _ _ _=>L2.mt3 fun _ _ _=>rfl),L2.q694 KX G ?a34 ?l34 ?c34 ?k34 (fun _ _ _ _ _ _=>L2.mt2 fun _ _=>rfl),L2.q694 KX G ?a35 ?l35 ?c35 ?k35 (fun _ _ _ _ _ _=>L2.mt2 fun _ _=>rfl),L2.q694 KX G ?a36 ?l36 ?c36 ?k36 (fun _ _ _ _ _ _=>L2.mt3 fun _ _ _=>rfl),L2.q694 KX G ?a37 ?l37 ?c37 ?k37 (fun _ _ _ _ _ _=>L2.mt5 fun _ _ _ _ _=>rfl),L2.q694 KX G ?a38 ?l38 ?c38 ?k38 (fun _ _ _ _ _ _=>L2.mt3 fun _ _ _=>rfl),L2.q694 KX G ?a39 ?l39 ?c39 ?k39 (fun _ _ _ _ _ _=>L2.mt3 fun _ _ _=>rfl),L2.q694 KX G ?a40 ?l40 ?c40 ?k40 (fun _ _ _ _ _ _=>L2.mt2 fun _ _=>rfl),L2.q694 KX G ?a41 ?l41 ?c41 ?k41 (fun _ _ _ _ _ _=>L2.mt1 fun _=>rfl),L2.q694 KX G ?a42 ?l42 ?c42 ?k42 (fun _ _ _ _ _ _=>L2.mt2 fun _ _=>rfl),L2.q694 KX G ?a43 ?l43 ?c43 ?k43 (fun _ _ _ _ _ _=>L2.mt1 fun _=>rfl),L2.q694 KX G ?a44 ?l44 ?c44 ?k44 (fun _ _ _ _ _ _=>L2.mt3 fun _ _ _=>rfl),L2.q694 KX G ?a45 ?l45 ?c45 ?k45 (fun _ _ _ _ _ _=>L2.mt3 fun _ _ _=>rfl),L2.q694 KX G ?a46 ?l46 ?c46 ?k46 (fun _ _ _ _ _ _=>L2.mt1 fun _=>rfl),L2.q694 KX G ?a47 ?l47 ?c47 ?k47 (fun _ _ _ _ _ _=>L2.mt3 fun _ _ _=>rfl),L2.q694 KX G ?a48 ?l48 ?c48 ?k48 (fun _ _ _ _ _ _=>L2.mt3 fun _ _ _=>rfl),L2.q694 KX G ?a49 ?l49 ?c49 ?k49 (fun _ _ _ _ _ _=>L2.mt3 fun _ _ _=>rfl),L2.q694 KX G ?a50 ?l50 ?c50 ?k50 (fun _ _ _ _ _ _=>L2.mt2 fun _ _=>rfl),L2.q694 KX G ?a51 ?l51 ?c51 ?k51 (fun _ _ _ _ _ _=>L2.mt1 fun _=>rfl),L2.q694 KX G ?a52 ?l52 ?c52 ?k52 (fun _ _ _ _ _ _=>L2.mt4 fun _ _ _ _=>rfl),L2.q694 KX G ?a53 ?l53 ?c53 ?k53 (fun _ _ _ _ _ _=>L2.mt4 fun _ _ _ _=>rfl)⟩⟩
   (case z0=>k_is)
   (case z1=>k_is)
   (case z2=>k_is)
   (case z3=>k_is)
   (case z4=>k_is)
   (case z5=>k_is)
   (case z6=>k_is)
   (case z7=>k_is)
   (case z8=>k_is)
   (case z9=>k_is)
   (case z10=>k_is)
   (case z11=>k_is)
   (case z12=>k_is)
   (case z13=>k_is)
   (case m0=>k_is)
   (case m1=>k_is)
   (case m2=>k_is)
   (case m3=>k_is)
   (case m4=>k_is)
   (case y0_0=>first | k_is | kernel_rfl | (unfold L2.q200;first | k_is | kernel_rfl))
   (case y1_0=>first | k_is | kernel_rfl | (unfold L2.q200;first | k_is | kernel_rfl))
   (case o0_0=>first | k_is | kernel_rfl)
   (case o0_1=>first | k_is | kernel_rfl)
   (case o0_2=>first | k_is | kernel_rfl)
   (case o0_3=>first | k_is | kernel_rfl)
   (case my0_1=>first | k_is | kernel_rfl)
   (case my0_0=>first | k_is | kernel_rfl)
   (case my0_2=>first | k_is | kernel_rfl)
   (case my0_3=>first | k_is | kernel_rfl)
   (case ml0=>k_is);(case mc0=>k_is);(case mk0=>k_is)
   (case mb0=>exact L2.mt2 fun _ _=>rfl)
   (case my1_0=>first | k_is | kernel_rfl)
   (case my1_1=>first | k_is | kernel_rfl)
   (case my1_2=>first | k_is | kernel_rfl)
   (case ml1=>k_is);(case mc1=>k_is);(case mk1=>k_is)
   (case mb1=>exact L2.mt2 fun _ _=>rfl)
   (case my2_0=>first | k_is | kernel_rfl)
   (case my2_1=>first | k_is | kernel_rfl)
   (case my2_2=>first | k_is | kernel_rfl)
   (case ml2=>k_is);(case mc2=>k_is);(case mk2=>k_is)
   (case mb2=>exact L2.mt4 fun _ _ _ _=>rfl)
   (case my3_0=>first | k_is | kernel_rfl)
   (case my3_1=>first | k_is | kernel_rfl)
   (case my3_2=>first | k_is | kernel_rfl)
   (case ml3=>k_is);(case mc3=>k_is);(case mk3=>k_is)
   (case mb3=>exact L2.mt3 fun _ _ _=>rfl)
   (case my4_0=>first | k_is | kernel_rfl)
   (case my4_1=>first | k_is | kernel_rfl)
   (case my4_2=>first | k_is | kernel_rfl)
   (case ml4=>k_is);(case mc4=>k_is);(case mk4=>k_is)
   (case mb4=>exact L2.mt4 fun _ _ _ _=>rfl)
   (case my5_0=>first | k_is | kernel_rfl)
   (case my5_1=>first | k_is | kernel_rfl)
   (case my5_2=>first | k_is | kernel_rfl)
   (case ml5=>k_is);(case mc5=>k_is);(case mk5=>k_is)
   (case mb5=>exact L2.mt4 fun _ _ _ _=>rfl)
   (case my6_0=>first | k_is | kernel_rfl)
   (case my6_1=>first | k_is | kernel_rfl)
   (case my6_2=>first | k_is | kernel_rfl)
   (case ml6=>k_is);(case mc6=>k_is);(case mk6=>k_is)
   (case mb6=>exact L2.mt3 fun _ _ _=>rfl)
   (case my7_0=>first | k_is | kernel_rfl)
   (case my7_1=>first | k_is | kernel_rfl)
   (case my7_2=>first | k_is | kernel_rfl)
   (case ml7=>k_is);(case mc7=>k_is);(case mk7=>k_is)
   (case mb7=>exact L2.mt2 fun _ _=>rfl)
   (case my8_0=>first | k_is | kernel_rfl)
   (case my8_1=>first | k_is | kernel_rfl)
   (case my8_2=>first | k_is | kernel_rfl)
   (case ml8=>k_is);(case mc8=>k_is);(case mk8=>k_is)
   (case mb8=>exact L2.mt2 fun _ _=>rfl)
   (case my9_0=>first | k_is | kernel_rfl)
   (case my9_1=>first | k_is | kernel_rfl)
   (case my9_2=>first | k_is | kernel_rfl)
   (case ml9=>k_is);(case mc9=>k_is);(case mk9=>k_is)
   (case mb9=>exact L2.mt1 fun _=>rfl)
   (case my10_0=>first | k_is | kernel_rfl)
   (case my10_1=>first | k_is | kernel_rfl)
   (case my10_2=>first | k_is | kernel_rfl)
   (case ml10=>k_is);(case mc10=>k_is);(case mk10=>k_is)
   (case mb10=>exact L2.mt2 fun _ _=>rfl)
   (case my11_0=>first | k_is | kernel_rfl)
   (case my11_1=>first | k_is | kernel_rfl)
   (case my11_2=>first | k_is | kernel_rfl)
   (case ml11=>k_is);(case mc11=>k_is);(case mk11=>k_is)
   (case mb11=>exact L2.mt2 fun _ _=>rfl)
   (case my12_0=>first | k_is | kernel_rfl)
   (case my12_1=>first | k_is | kernel_rfl)
   (case my12_2=>first | k_is | kernel_rfl)
   (case ml12=>k_is);(case mc12=>k_is);(case mk12=>k_is)
   (case mb12=>exact L2.mt4 fun _ _ _ _=>rfl)
   (case my13_0=>first | k_is | kernel_rfl)
   (case my13_1=>first | k_is | kernel_rfl)
   (case my13_2=>first | k_is | kernel_rfl)
   (case ml13=>k_is);(case mc13=>k_is);(case mk13=>k_is)
   (case mb13=>exact L2.mt2 fun _ _=>rfl)
   (case my14_0=>first | k_is | kernel_rfl)
   (case my14_1=>first | k_is | kernel_rfl)
   (case my14_2=>first | k_is | kernel_rfl)
   (case ml14=>k_is);(case mc14=>k_is);(case mk14=>k_is)
   (case mb14=>exact L2.mt3 fun _ _ _=>rfl)
   (case a0 | l0 | c0 | k0=>k_is)
   (case a1 | l1 | c1 | k1=>k_is)
   (case a2 | l2 | c2 | k2=>k_is)
   (case a3 | l3 | c3 | k3=>k_is)
   (case a4 | l4 | c4 | k4=>k_is)
   (case a5 | l5 | c5 | k5=>k_is)
   (case a6 | l6 | c6 | k6=>k_is)
   (case a7 | l7 | c7 | k7=>k_is)
   (case a8 | l8 | c8 | k8=>k_is)
   (case a9 | l9 | c9 | k9=>k_is)
   (case a10 | l10 | c10 | k10=>k_is)
   (case a11 | l11 | c11 | k11=>k_is)
   (case a12 | l12 | c12 | k12=>k_is)
   (case a13 | l13 | c13 | k13=>k_is)
   (case a14 | l14 | c14 | k14=>k_is)
   (case a15 | l15 | c15 | k15=>k_is)
   (case a16 | l16 | c16 | k16=>k_is)
   (case a17 | l17 | c17 | k17=>k_is)
   (case a18 | l18 | c18 | k18=>k_is)
   (case a19 | l19 | c19 | k19=>k_is)
   (case a20 | l20 | c20 | k20=>k_is)
   (case a21 | l21 | c21 | k21=>k_is)
   (case a22 | l22 | c22 | k22=>k_is)
   (case a23 | l23 | c23 | k23=>k_is)
   (case a24 | l24 | c24 | k24=>k_is)
   (case a25 | l25 | c25 | k25=>k_is)
   (case a26 | l26 | c26 | k26=>k_is)
   (case a27 | l27 | c27 | k27=>k_is)
   (case a28 | l28 | c28 | k28=>k_is)
   (case a29 | l29 | c29 | k29=>k_is)
   (case a30 | l30 | c30 | k30=>k_is)
   (case a31 | l31 | c31 | k31=>k_is)
   (case a32 | l32 | c32 | k32=>k_is)
   (case a33 | l33 | c33 | k33=>k_is)
   (case a34 | l34 | c34 | k34=>k_is)
   (case a35 | l35 | c35 | k35=>k_is)
   (case a36 | l36 | c36 | k36=>k_is)
   (case a37 | l37 | c37 | k37=>k_is)
   (case a38 | l38 | c38 | k38=>k_is)
   (case a39 | l39 | c39 | k39=>k_is)
   (case a40 | l40 | c40 | k40=>k_is)
   (case a41 | l41 | c41 | k41=>k_is)
   (case a42 | l42 | c42 | k42=>k_is)
   (case a43 | l43 | c43 | k43=>k_is)
   (case a44 | l44 | c44 | k44=>k_is)
   (case a45 | l45 | c45 | k45=>k_is)
   (case a46 | l46 | c46 | k46=>k_is)
   (case a47 | l47 | c47 | k47=>k_is)
   (case a48 | l48 | c48 | k48=>k_is)
   (case a49 | l49 | c49 | k49=>k_is)
   (case a50 | l50 | c50 | k50=>k_is)
   (case a51 | l51 | c51 | k51=>k_is)
   (case a52 | l52 | c52 | k52=>k_is)
   (case a53 | l53 | c53 | k53=>k_is)
  exact L2.law_mk d_law (fun base=>My.ok_law (base:=base) z) hmg
#print axioms PySem.Challenge.cw_manyleast_k66_whole_any_makes_asked_holds
