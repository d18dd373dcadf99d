import PyProof.Rows.All
import Wide.All
import OpenK.AllK
import Wide.FinOn
import Lean
import PyProof.EqAt
import PyProof.EqKinds
import PyProof.TupleCall
import KE.KIntText
import PyProof.StrBlockI
import PyProof.StrBlockL
import PyProof.StrCalls
import PyProof.StrCalls2
import PyProof.FString
import PyProof.StrBlock
import PyProof.StrWalks
import PyProof.StrLawsTight
import KE.KTryMore
import KE.KRevSl
import KE.KRevIter
import PyProof.TupleOfGen
import KE.KUnpack
import KE.KTab
import KE.KTabLook
import PyProof.Rows.ZipGen
import PyProof.ZipIter
import PySem.Challenge.RW_manyleast_k68_whole_a_desk_told_by_funct
set_option Elab.async false
set_option linter.all false
set_option maxRecDepth 100000
set_option maxHeartbeats 4000000
theorem fnt : false ≠ true := Bool.noConfusion
namespace PySem.W.Fast
def tw7674292497303504648:=()
def tw18248866616017575366:=()
def tw11735612310794570464:=()
def tw4571165221459672837:=()
def tw16983156356766790175:=()
def tw13104098046294861810:=()
def tw18258970077237881918:=()
def tw6438393122667772956:=()
def tw12228974739430166879:=()
def tw9342542832230556222:=()
def tw1523242968541926974:=()
def tw17824111427969220343:=()
def tw13233655415451216845:=()
def tw10225461867600511715:=()
def tw3244074150262138881:=()
def tw13781150410561005929:=()
def tw7635268547522181321:=()
def tw13391320125262989307:=()
def tw12401275796415987596:=()
def tw810483277285803536:=()
def tw12855177813818858524:=()
def tw7704981422072863698:=()
def tw10674067043680467898:=()
def tw501569235251375289:=()
def tw17204108299387176123:=()
def tw17484554053451167843:=()
def tw16654145423276611312:=()
def tw152990792875885375:=()
def tw3672475915732655821:=()
def tw12763278506344184473:=()
def tw11887084620510147936:=()
def tw5124481294958198:=()
def tw17432069954942807944:=()
def tw12288507452661307721:=()
def tw13568375858837632903:=()
def tw1399397521353475343:=()
def tw10141419436907847325:=()
def tw6453942294095292029:=()
def tw1063014282124767434:=()
def tw14438423301838271214:=()
def tw8951087259668242868:=()
def tw3116776810345571231:=()
def tw9414846898499195226:=()
def tw13891473958442666456:=()
def tw13259977382368533591:=()
def tw5009314269842699072:=()
def tw10950791928766611314:=()
def tw6791428357768889347:=()
def tw5873479248482162293:=()
def tw8111278964053383961:=()
def tw5070310548233117411:=()
def tw15050823862007342304:=()
def tw6409026234321030885:=()
def tw3721733620583759314:=()
def tw17602089171715195962:=()
def tw3684624930378192191:=()
def tw17221772374719445664:=()
def tw7814172746864783220:=()
def tw6859104538401069904:=()
def tw14812091148204673768:=()
def tw18172507842498885816:=()
def tw10357370430969223565:=()
def tw8977401984734374190:=()
def tw10087428952194418003:=()
def tw1139895562594422838:=()
def tw6043418959649713492:=()
def tw15676042376486009716:=()
def tw2445216400498832926:=()
def tw10222546383708442458:=()
def tw11971250065921092945:=()
def tw5312454926514153913:=()
def tw14876170063832652688:=()
def tw13965862743891884663:=()
def tw11435692743058105209:=()
def tw6633215055434785361:=()
def tw508037691183021049:=()
def tw3115841035929434615:=()
def tw4413209752999012450:=()
def tw3405904579532638594:=()
def tw11231738744263300511:=()
def tw7033123226975928093:=()
def tw2566894050809082098:=()
def tw689096795711285700:=()
def tw14719118677521708062:=()
def tw6628119156497107250:=()
def tw17087917718816376580:=()
def tw16977670491168872780:=()
def tw10048816432922542669:=()
def tw17426951454982121832:=()
def tw8558953226883508286:=()
def tw7654607311794919399:=()
def tw16183503781704753106:=()
def tw14855452152118709819:=()
def tw15755722664435919614:=()
def tw8443575365071101161:=()
def tw14041416012762571144:=()
def tw5629544736467009421:=()
def tw1411659736387885424:=()
def tw4808950543253363581:=()
def tw7912642910817192086:=()
def tw3592108883931922519:=()
def tw10801037765198592330:=()
def tw15026383968613363534:=()
def tw10594273781823457193:=()
def tw6807679924032663122:=()
def tw4950589735927936166:=()
def tw11552851535942150449:=()
def tw9107689523670181856:=()
def tw13321819550387383296:=()
def tw322295246221327223:=()
def tw17154850816612461408:=()
def tw13335979412958188738:=()
def tw9942854486490610205:=()
def tw6885958272402144714:=()
def tw9076072592305284689:=()
def tw17891129725459621234:=()
def tw6968009936451361993:=()
def tw10154891707340096971:=()
def tw4429960525625888610:=()
def tw13102320603195050232:=()
def tw14916225686565035847:=()
def tw13767260738629300338:=()
def tw779944214124313554:=()
def tw14293001285050034306:=()
def tw18068323108987239918:=()
def tw14827502161262698560:=()
def tw17254346757230252408:=()
def tw15739421511342611067:=()
def tw5292012071361942795:=()
def tw8334500330391202222:=()
def tw15565584389326581863:=()
def tw1363473646964845656:=()
def tw16023561596762684905:=()
def tw16243105911518860428:=()
def tw8795766956512786128:=()
def tw8748405653820645442:=()
def tw6396469424642589518:=()
def tw17992922244592127328:=()
def tw4431118429425593007:=()
def tw11040623345498791470:=()
def tw15581976276910624063:=()
def tw14367794884817687454:=()
def tw12109578091334022303:=()
def tw17927209365911276747:=()
def tw12369536728580865824:=()
def tw12280885612751296352:=()
def tw3227468565237983797:=()
def tw15698701137761156408:=()
def tw9826760416998294385:=()
def tw18049821024795151761:=()
def tw12217934362449072246:=()
def tw1009135605508506968:=()
def tw8469631976431751410:=()
def tw17930153009436388624:=()
def tw6385607679943130810:=()
def tw2969379664283673930:=()
def tw1069839481671484912:=()
def tw8159205760508497542:=()
def tw18073099967072575201:=()
def tw3062168796765155075:=()
def tw301006041343888519:=()
def tw7720236633087662429:=()
def tw17819051917567742862:=()
def tw8952840872546439171:=()
def tw18037270916134986308:=()
def tw11231328734227982066:=()
def tw1012528319777143360:=()
def tw8054397706830345737:=()
def tw16266153115381851875:=()
def tw2176950028731537476:=()
def tw11111815515968247806:=()
def tw17630358853239650919:=()
def tw3377857553139622080:=()
def tw14813118412317030561:=()
def tw4925726569905774295:=()
def tw8477670951307206872:=()
def tw3672944898032029971:=()
def tw3251786441892902534:=()
def tw7680101059923337797:=()
def tw17059314371650493446:=()
def tw13207504287123180351:=()
def tw15870917572828541947:=()
def tw13047985150287756802:=()
def tw13479588002707102239:=()
def tw5997886195763570698:=()
def tw7881273887543728658:=()
def tw11270171831386580612:=()
def tw11154151836602594305:=()
def tw7705844590803021129:=()
def tw15348242531663402188:=()
def tw9217466166556058135:=()
def tw2048234374363380177:=()
def tw820828562345894460:=()
def tw12737375916335539817:=()
def tw5852682639967837176:=()
def tw700817654876334075:=()
def tw13602191207888941373:=()
def tw935973748777969203:=()
def tw2205725972480034407:=()
def tw6984473237516983410:=()
def tw3889580803373931684:=()
def tw15430456094236794606:=()
def tw5601044899776564042:=()
def tw18238567125629267890:=()
def tw11644469033646654793:=()
def tw18302063642845257522:=()
def tw7102833189965195840:=()
def tw4687392249615946387:=()
def tw6734392117757903469:=()
def tw6167347142152014151:=()
def tw5383274732768016231:=()
def tw8941703019076274443:=()
def tw13741008209235051298:=()
def tw14485869011961339283:=()
def tw18443185604178646013:=()
def tw13938566928870052902:=()
def tw5188951482470000806:=()
def tw13264165192970377661:=()
def tw17944970265626361695:=()
def tw2727200879516489240:=()
def tw15363934331804033145:=()
def tw16586445673651656187:=()
def tw9983086225577768694:=()
def tw2553001649391818298:=()
def tw4105137718982511729:=()
def tw8581326260025681489:=()
def tw2615959843942426295:=()
def tw13966456347038353127:=()
def tw9057703355865801191:=()
def tw11429476518676738080:=()
def tw612008121336243751:=()
def tw7567046548705499024:=()
def tw3452351148927849873:=()
def tw10376965538798919344:=()
def tw5843374686070458604:=()
def tw12456111746291119536:=()
def tw9981450086744940525:=()
def tw10205105782494824107:=()
def tw6785790206995848192:=()
def tw9942995334421685102:=()
def tw16769612348658819024:=()
def tw13047242598759443529:=()
def tw5726259014149857307:=()
def tw3223989944468558646:=()
def tw6189652597256753986:=()
def tw12026716509971077025:=()
def tw4495318095693314834:=()
def tw192009568422550426:=()
def tw11977646088073847918:=()
def tw4983928325486299255:=()
def tw491240914443097598:=()
def tw10926635696150222162:=()
def tw5285647739926372316:=()
def tw14815621092457149213:=()
def tw8932175759273126200:=()
def tw5232972988802340267:=()
def tw15431941967052958366:=()
def tw6733893054821508623:=()
def tw16611922359269605385:=()
def tw14094640584182287928:=()
def tw14008358311725641807:=()
def tw9323404185052208300:=()
def tw10568486456671398683:=()
def tw1978435785021192969:=()
def tw6772034670510668543:=()
def tw2207217210086020726:=()
def tw8368894303829769030:=()
def tw1340611242074686334:=()
def tw5905118507820526784:=()
def tw7169304282812285284:=()
def tw18024155805704515402:=()
def tw2450977443962013231:=()
def tw3835074828434319782:=()
def tw12151705910024032861:=()
def tw8875959035267395272:=()
def tw4730773430281765925:=()
def tw7882110577817051474:=()
def tw4117854834480361561:=()
def tw14067739428728556321:=()
def tw4604139818626484484:=()
def tw17963368263820307054:=()
def tw3211603252325097117:=()
def tw4066328193345442044:=()
def tw14147180011310292067:=()
def tw4428514896798540001:=()
def tw11052113646315473283:=()
def tw4624444373769603351:=()
def tw13284877575325649680:=()
def tw12994637759633299379:=()
def tw3072404116491829383:=()
def tw16925512303233833783:=()
def tw8671316591209415617:=()
def tw11328565233630366225:=()
def tw4230939364532708203:=()
def tw12783491063311021267:=()
def tw14676908826619030799:=()
def tw652038853030509935:=()
def tw3779777270214730931:=()
def tw10409003194638929243:=()
def tw4023331976060232868:=()
def tw3372637119799379252:=()
def tw11885624622457937270:=()
def tw4701975117800607314:=()
def tw17742567168078797843:=()
def tw11699809319675599399:=()
def tw11705138545887059525:=()
def tw5286027523610872905:=()
def tw10900662168622349674:=()
def tw1181491046014631046:=()
def tw14047800177945244427:=()
def tw10388913030401298273:=()
def tw15568258831191555420:=()
def tw14366585254422855137:=()
def tw13859944121474407216:=()
def tw18437741578303973484:=()
def tw8708007942213086548:=()
def tw12112156511666972985:=()
def tw7083966564876649157:=()
def tw15791378732498521703:=()
def tw3695023827613771029:=()
def tw1843966781438067908:=()
def tw18071904160951798097:=()
def tw8726686090494935559:=()
def tw12197262421536190755:=()
def tw4217844877387783379:=()
def tw15806108957148213010:=()
def tw13731138097183494419:=()
def tw5887128229681561205:=()
def tw4961258962502810436:=()
def tw10832747873455014894:=()
def tw760994333827443090:=()
def tw12184912256552312000:=()
def tw16625391248734187838:=()
def tw13939773330377455102:=()
def tw8667215590884245030:=()
def tw18109425805076668427:=()
def tw11218314562259379808:=()
def tw4815639213182940869:=()
def tw3298300010936634344:=()
def tw3355076853759758353:=()
def tw12200791725232319682:=()
def tw3984046339844578591:=()
def tw8963895112646091591:=()
def tw11881327016776672749:=()
def tw12070434114301544797:=()
end PySem.W.Fast
namespace MyQ
open PySem PySem.W PyProof.Rows
set_option maxRecDepth 100000 in
set_option maxHeartbeats 0 in
open_top hd for PySem.Challenge.rw_manyleast_k68_whole_a_desk_told_by_funct
end MyQ
set_option autoImplicit true
abbrev Fg := PySem.W.Frag
abbrev VS := PySem.Value -> PySem.Shared -> Prop
abbrev LL := List (List Int)
abbrev Mg := PySem.Str -> Option PySem.Value
namespace L2
open PySem PySem.Spec PyProof.Rows
abbrev Key := Sum Int Str
def keyIs : Key -> Value -> Bool
 | .inl k, v => Value.isInt k v
 | .inr x, v => Value.isStrOf x v
def keyH (w : World) : Key -> Int
 | .inl k => hashInt k
 | .inr x => hashStr w x
theorem q53 : ∀ {k : Key} {v : Value}, keyIs k v = true -> (∃ i t, k = Sum.inl i /\ v = Value.int i t) \/ (∃ x t, k = Sum.inr x /\ v = Value.str x t)
 | .inl i, v, h => by
  obtain ⟨t, e⟩ := Value.isInt_shape (k := i) (v := v) h
  exact .inl ⟨i, t, rfl, e⟩
 | .inr x, v, h => by
  obtain ⟨t, e⟩ := Value.isStrOf_shape (x := x) (v := v) h
  exact .inr ⟨x, t, rfl, e⟩
theorem key_ll (a b : Int) : decide ((Sum.inl a : Key) = Sum.inl b) = (a == b) := by
 by_cases e : a = b
 ·subst e; simp
 ·have h : ¬ (Sum.inl a : Key) = Sum.inl b := fun q => e (Sum.inl.inj q)
  rw [decide_eq_false h]
  exact (beq_eq_false_iff_ne.mpr e).symm
theorem key_rr (a b : Str) : decide ((Sum.inr a : Key) = Sum.inr b) = decide (a = b) := by
 by_cases e : a = b
 ·subst e; simp
 ·have h : ¬ (Sum.inr a : Key) = Sum.inr b := fun q => e (Sum.inr.inj q)
  rw [decide_eq_false h, decide_eq_false e]
theorem key_lr (a : Int) (b : Str) : decide ((Sum.inl a : Key) = Sum.inr b) = false := decide_eq_false (fun q => nomatch q)
theorem key_rl (a : Str) (b : Int) : decide ((Sum.inr a : Key) = Sum.inl b) = false := decide_eq_false (fun q => nomatch q)
def q586 (prog : Program) (w : World) : PySem.KeyKind prog w Key where
 is := keyIs
 hash := keyH w
 inj := fun v a b ha hb => by
  rcases q53 ha with ⟨i, t, rfl, rfl⟩ | ⟨x, t, rfl, rfl⟩
  ·rcases q53 hb with ⟨j, u, rfl, e⟩ | ⟨y, u, rfl, e⟩
   ·injection e with e1 _; rw [e1]
   ·exact nomatch e
  ·rcases q53 hb with ⟨j, u, rfl, e⟩ | ⟨y, u, rfl, e⟩
   ·exact nomatch e
   ·injection e with e1 _; rw [e1]
 byValue := fun k v h => by
  rcases q53 h with ⟨i, t, rfl, rfl⟩ | ⟨x, t, rfl, rfl⟩ <;> rfl
 pyHash := fun hv h => by
  rcases q53 hv with ⟨i, t, rfl, rfl⟩ | ⟨x, t, rfl, rfl⟩
  ·exact wpAny_pyHash_int h
  ·exact wpAny_pyHash_str h
 eqBool := fun hu hv h => by
  rcases q53 hu with ⟨i, t, rfl, rfl⟩ | ⟨x, t, rfl, rfl⟩
  ·rcases q53 hv with ⟨j, u, rfl, rfl⟩ | ⟨y, u, rfl, rfl⟩
   ·rw [key_ll] at h; exact wpAny_eqBool_int h
   ·rw [key_lr] at h; exact SeqAt.EqAt.int_str i t y u _ _ _ _ h
  ·rcases q53 hv with ⟨j, u, rfl, rfl⟩ | ⟨y, u, rfl, rfl⟩
   ·rw [key_rl] at h; exact SeqAt.EqAt.str_int x t j u _ _ _ _ h
   ·rw [key_rr] at h; exact wpAny_eqBool_str h
 «strs» := fun k x t v h => by
  rcases q53 h with ⟨i, u, rfl, e⟩ | ⟨y, u, rfl, e⟩
  ·exact nomatch e
  ·injection e with e1 _
   subst e1
   cases v <;> rfl
inductive V where
 | non | bl (b : Bool) | int (i : Int) | str (x : Str) | byt (b : Array UInt8) | flt (b : UInt64) | ref (a : Addr) | ty (n : String)
 deriving DecidableEq
def RelV : V -> Value -> Prop
 | .non, u => u = Value.none
 | .bl b, u => u = Value.bool b
 | .int i, u => ∃ t, u = Value.int i t
 | .str x, u => ∃ t, u = Value.str x t
 | .byt b, u => ∃ t, u = Value.bytes b t
 | .flt b, u => ∃ t, u = Value.float b t
 | .ref a, u => u = Value.ref a
 | .ty n, u => u = Value.type n
abbrev Vals : List V -> List Value -> Prop := Paired RelV
theorem Vals.length {xs : List V} {us : List Value} (r : Vals xs us) : xs.length = us.length := Paired.length r
theorem Vals.get : ∀ {xs : List V} {us : List Value} {i : Nat} {x : V}, Vals xs us -> xs[i]? = some x -> ∃ u, us[i]? = some u /\ RelV x u
 | _, _, _, _, .nil, e => by simp at e
 | _, _, 0, _, .cons r _, e => by simp at e; subst e; exact ⟨_, rfl, r⟩
 | _, _, i + 1, x, .cons _ t, e => by
  obtain ⟨u, h1, h2⟩ := Vals.get (i := i) (x := x) t (by simpa using e)
  exact ⟨u, by simpa using h1, h2⟩
theorem Vals.set {x : V} {u : Value} (r : RelV x u) : ∀ {xs : List V} {us : List Value} (i : Nat), Vals xs us -> Vals (xs.set i x) (us.set i u)
 | _, _, _, .nil => .nil
 | _, _, 0, .cons _ t => .cons r t
 | _, _, i + 1, .cons q t => .cons q (Vals.set r i t)
theorem Vals.append : ∀ {xs ys : List V} {us ws : List Value}, Vals xs us -> Vals ys ws -> Vals (xs ++ ys) (us ++ ws)
 | _, _, _, _, .nil, s => s
 | _, _, _, _, .cons r t, s => .cons r (Vals.append t s)
theorem Vals.take : ∀ {xs : List V} {us : List Value} (n : Nat), Vals xs us -> Vals (xs.take n) (us.take n)
 | _, _, 0, _ => .nil
 | _, _, _ + 1, .nil => .nil
 | _, _, n + 1, .cons r t => .cons r (Vals.take n t)
theorem Vals.drop : ∀ {xs : List V} {us : List Value} (n : Nat), Vals xs us -> Vals (xs.drop n) (us.drop n)
 | _, _, 0, r => r
 | _, _, _ + 1, .nil => .nil
 | _, _, n + 1, .cons _ t => Vals.drop n t
def RelO : Option V -> Option Value -> Prop
 | some v, some u => RelV v u
 | none, none => True
 | _, _ => False
def KV {κ : Type} : List (κ × V) -> List (κ × Value) -> Prop := Paired fun (p : κ × V) (q : κ × Value) => p.1 = q.1 /\ RelV p.2 q.2
def kV : Key -> V
 | .inl i => .int i
 | .inr x => .str x
inductive HO where
 | lst (xs : List V)
 | tup (xs : List V)
 | dK (kvs : List (Key × V)) | dT (kvs : List (List Key × V))
 | set (S : Int -> Bool) (n : Nat)
 | ins (C dx : Addr) (fs : List (Str × V))
 | own (x : Addr)
 | xd (fs : List (Str × V))
 | met (f x : Addr)
 | rng (lo hi : Int)
 | frz (o : Obj) (u : HO)
 | tbl (ps : Array Value)
 | ext (φ : Heap -> Prop)
abbrev Hp := Addr -> Option HO
def upd (H : Hp) (a : Addr) (o : HO) : Hp := fun b => if b = a then some o else H b
theorem q14 : upd H a o a = some o := by unfold upd; rw [if_pos rfl]
theorem q34 (h : b ≠ a) : upd H a o b = H b := by unfold upd; rw [if_neg h]
theorem q114 : upd (upd H a o) a u = upd H a u := by
 funext b; unfold upd; split <;> rfl
theorem ne_of {H : Hp} {a b : Addr} {o u : HO} (h : H a = some o) (h' : H b = some u) (d : o ≠ u) : a ≠ b := by
 intro e; subst e; rw [h] at h'; exact d (Option.some.inj h')
theorem q26 {H : Hp} {a b : Addr} {o : HO} (h : H a = some o) (h' : H b = none) : a ≠ b := by
 intro e; subst e; rw [h] at h'; cases h'
section
variable (P : Program) (w : World)
def ObjOk (H : Hp) (h : Heap) (a : Addr) : HO -> Prop
 | .lst xs => xs.length <= sizeLine /\ ∃ (its : List Value) (n : Nat), Vals xs its /\ h.get? a = some { cls := .type "list", data := .seq its.toArray n }
 | .tup xs => xs.length <= sizeLine /\ ∃ its : List Value, Vals xs its /\ IsTup h a its.toArray
 | .dK kvs => kvs.length <= sizeLine /\ (a == sysModules) = false /\ ∃ vs, KV kvs vs /\ h.DictOf (q586 P w) a vs
 | .dT kvs => kvs.length <= sizeLine /\ (a == sysModules) = false /\ ∃ xs : List (List Key × Addr × Value),
   Paired (fun (p : List Key × V) (q : List Key × Addr × Value) => p.1 = q.1 /\ H q.2.1 = some (.tup (p.1.map kV)) /\ RelV p.2 q.2.2) kvs xs /\
   ∃ o es ep, h.get? a = some o /\ o.ExactDict /\ o.data = .dict es ep /\ es.toList = xs.map (entryOfKey (tupleKind (q586 P w))) /\ (xs.map (·.1)).Nodup
 | .set S n => h.SetOf (intKind P w) a S n
 | .ins C dx fs => H dx = some (.own a) /\ fs.length <= 1000 /\ dx ≠ a /\ h.get? a = some (PySem.W.instObj C dx) /\
   ∃ mA, h.Ns1 dx mA /\ (∀ f, RelO (fs.lookup f) (mA f)) /\ PySem.Within mA (fs.map (·.1))
 | .own _ => ∃ o, h.get? a = some o
 | .xd fs => ∃ mA, h.Ns1 a mA /\ ∀ f, RelO (fs.lookup f) (mA f)
 | .rng lo hi => ∃ t u v, h.get? a = some { cls := .type "range", data := .fields #[.int lo t, .int hi u, .int 1 v] }
 | .frz o u => h.get? a = some o /\ ObjOk H h a u
 | .tbl ps => h.get? a = some { cls := .none, data := .fields ps }
 | .met f x => h.get? a = some (PySem.W.methodObj (.ref f) (.ref x))
 | .ext φ => φ h /\ (∃ o, h.get? a = some o) /\ ∀ h1 h2 : Heap, φ h1 -> (∀ o, h1.get? a = some o -> h2.get? a = some o) -> φ h2
def HOk (H : Hp) (h : Heap) : Prop := ∀ a o, H a = some o -> ObjOk P w H h a o
end
section
variable {P : Program} {w : World} {H H' : Hp} {h h' : Heap} {a : Addr} {o : HO}
theorem ObjOk.lt (x : ObjOk P w H h a o) : a < h.objs.size := by
 cases o with
 | lst xs => obtain ⟨_, _, _, _, e⟩ := x; exact Heap.lt_size e
 | tup xs => obtain ⟨_, _, _, p⟩ := x; exact p.lt
 | dK kvs => obtain ⟨_, _, _, _, o, _, _, e, _⟩ := x; exact Heap.lt_size e
 | dT kvs => obtain ⟨_, _, _, _, o, _, _, e, _⟩ := x; exact Heap.lt_size e
 | set S n => obtain ⟨o, _, _, _, e, _⟩ := x; exact Heap.lt_size e
 | ins C dx fs => obtain ⟨_, _, _, e, _⟩ := x; exact Heap.lt_size e
 | own y => obtain ⟨_, e⟩ := x; exact Heap.lt_size e
 | xd fs => obtain ⟨_, ⟨_, _, _, e, _⟩, _⟩ := x; exact Heap.lt_size e
 | rng lo hi => obtain ⟨_, _, _, e⟩ := x; exact Heap.lt_size e
 | frz ob u => obtain ⟨e, _⟩ := x; exact Heap.lt_size e
 | tbl ps => exact Heap.lt_size (show h.get? a = some _ from x)
 | met f y => exact Heap.lt_size (show h.get? a = some _ from x)
 | ext φ => obtain ⟨_, ⟨_, e⟩, _⟩ := x; exact Heap.lt_size e
theorem Paired.mapP {α β : Type} {F G : α -> β -> Prop} : ∀ {l₁ : List α} {l₂ : List β}, Paired F l₁ l₂ -> (∀ a b, F a b -> G a b) -> Paired G l₁ l₂
 | _, _, .nil, _ => .nil
 | _, _, .cons r t, f => .cons (f _ _ r) (Paired.mapP t f)
theorem ObjOk.stay (x : ObjOk P w H h a o) (k : ∀ b u, (b = a \/ H b = some (.own a)) -> h.get? b = some u -> h'.get? b = some u)
  (ho : ∀ b, H b = some (.own a) -> H' b = some (.own a)) (ht : ∀ b xs, H b = some (.tup xs) -> H' b = some (.tup xs)) : ObjOk P w H' h' a o := by
 induction o with
 | lst xs => obtain ⟨z, its, n, r, e⟩ := x; exact ⟨z, its, n, r, k _ _ (.inl rfl) e⟩
 | tup xs => obtain ⟨z, its, r, ob, e, c⟩ := x; exact ⟨z, its, r, ob, k _ _ (.inl rfl) e, c⟩
 | dK kvs => obtain ⟨z, y, vs, r, ob, es, ep, e, c⟩ := x; exact ⟨z, y, vs, r, ob, es, ep, k _ _ (.inl rfl) e, c⟩
 | dT kvs =>
  obtain ⟨z, y, xs, r, ob, es, ep, e, c⟩ := x
  exact ⟨z, y, xs, Paired.mapP r fun p q z => ⟨z.1, ht _ _ z.2.1, z.2.2⟩, ob, es, ep, k _ _ (.inl rfl) e, c⟩
 | set S n => obtain ⟨ob, es, ep, t, e, c⟩ := x; exact ⟨ob, es, ep, t, k _ _ (.inl rfl) e, c⟩
 | ins C dx fs =>
  obtain ⟨d, z, ne, e, mA, ⟨od, es, ep, e2, c⟩, r⟩ := x
  exact ⟨ho _ d, z, ne, k _ _ (.inl rfl) e, mA, ⟨od, es, ep, k _ _ (.inr d) e2, c⟩, r⟩
 | own y => obtain ⟨ob, e⟩ := x; exact ⟨ob, k _ _ (.inl rfl) e⟩
 | xd fs => obtain ⟨mA, ⟨od, es, ep, e, c⟩, r⟩ := x; exact ⟨mA, ⟨od, es, ep, k _ _ (.inl rfl) e, c⟩, r⟩
 | rng lo hi => obtain ⟨t, u, v, e⟩ := x; exact ⟨t, u, v, k _ _ (.inl rfl) e⟩
 | frz ob u ih => obtain ⟨e, q⟩ := x; exact ⟨k _ _ (.inl rfl) e, ih q⟩
 | tbl ps =>
  have e : h.get? a = some { cls := .none, data := .fields ps } := x
  show h'.get? a = some { cls := .none, data := .fields ps }
  exact k a _ (.inl rfl) e
 | met f y =>
  have e : h.get? a = some (PySem.W.methodObj (.ref f) (.ref y)) := x
  show h'.get? a = some (PySem.W.methodObj (.ref f) (.ref y))
  exact k a _ (.inl rfl) e
 | ext φ => obtain ⟨p, ⟨o, e⟩, st⟩ := x; exact ⟨st _ _ p fun o q => k _ _ (.inl rfl) q, ⟨o, k _ _ (.inl rfl) e⟩, st⟩
theorem HOk.lt (x : HOk P w H h) (e : H a = some o) : a < h.objs.size := (x a o e).lt
theorem HOk.fresh (x : HOk P w H h) (e : h.objs.size <= a) : H a = none := by
 cases q : H a with
 | none => rfl
 | some u => exact absurd (Nat.lt_of_lt_of_le (x.lt q) e) (Nat.lt_irrefl _)
theorem HOk.kept (x : HOk P w H h) (k : ∀ b u, h.get? b = some u -> h'.get? b = some u) : HOk P w H h' := fun a o e =>
 (x a o e).stay (fun b u _ q => k b u q) (fun _ q => q) fun _ _ q => q
theorem HOk.laid (x : HOk P w H h) (k : ∀ b u, h.get? b = some u -> h'.get? b = some u) (hp : h.objs.size <= a) (new : ObjOk P w (upd H a o) h' a o) : HOk P w (upd H a o) h' := fun b u e => by
 have hn := x.fresh hp
 by_cases hb : b = a
 ·subst hb; rw [q14] at e; cases e; exact new
 ·rw [q34 hb] at e
  exact (x b u e).stay (fun c v _ q => k c v q) (fun c q => by rw [q34 (q26 q hn)]; exact q) fun c xs q => by rw [q34 (q26 q hn)]; exact q
end
def Rd (H : Hp) (a : Addr) (u : HO) : Prop := H a = some u \/ ∃ o, H a = some (.frz o u)
theorem Rd.ok (r : Rd H a u) (x : HOk P w H h) : ObjOk P w H h a u := by
 rcases r with r | ⟨o, r⟩
 ·exact x a u r
 ·obtain ⟨_, q⟩ := x a _ r
  exact q
def Mut : Option HO -> Prop
 | some (.lst _) => True
 | some (.dK _) => True
 | some (.dT _) => True
 | some (.set _ _) => True
 | some (.ins _ _ _) => True
 | some (.ext _) => True
 | _ => False
section
variable {P : Program} {w : World} {H : Hp} {h h' : Heap} {x e : Addr} {o' : HO}
theorem HOk.write (ok : HOk P w H h) (mu : Mut (H x)) (he : e = x \/ H e = some (.own x)) (k : ∀ b u, b ≠ e -> h.get? b = some u -> h'.get? b = some u) (heo : ∃ u, h'.get? e = some u)
  (new : ObjOk P w (upd H x o') h' x o') : HOk P w (upd H x o') h' := fun b u q => by
 have nown : ∀ c y, H c = some (.own y) -> c ≠ x := fun c y r z => by subst z; rw [r] at mu; exact mu
 have ntup : ∀ c xs, H c = some (.tup xs) -> c ≠ x := fun c xs r z => by subst z; rw [r] at mu; exact mu
 by_cases hb : b = x
 ·subst hb; rw [q14] at q; cases q; exact new
 ·rw [q34 hb] at q
  by_cases hbe : b = e
  ·have q' : H b = some (.own x) := by
    rcases he with z | z
    ·exact absurd (hbe.trans z) hb
    ·rw [hbe]; exact z
   rw [q] at q'; cases q'
   obtain ⟨v, hv⟩ := heo
   exact ⟨v, by rw [hbe]; exact hv⟩
  ·refine (ok b u q).stay (fun c v hc r => k c v ?_ r) (fun c r => by rw [q34 (nown c b r)]; exact r) fun c xs r => by rw [q34 (ntup c xs r)]; exact r
   rcases hc with rfl | hc
   ·exact hbe
   ·rintro rfl
    rcases he with z | z
    ·exact nown c b hc z
    ·rw [hc] at z; cases z; exact hb rfl
end
structure Un (fs ex : List Addr) (H H' : Hp) (h h' : Heap) : Prop where
 keep : ∀ b o, h.get? b = some o -> H b = none -> b ∉ fs -> b ∉ ex -> h'.get? b = some o
 slot : ∀ b o, h.get? b = some o -> H b = none -> b ∈ fs -> b ∉ ex -> ∃ sl, h'.get? b = some { o with slots := sl }
 free : ∀ b o, h.get? b = some o -> H b = none -> b ∉ ex -> H' b = none
 there : ∀ b o, h.get? b = some o -> b ∉ ex -> ∃ o', h'.get? b = some o'
 tups : ∀ b xs, H b = some (.tup xs) -> H' b = some (.tup xs)
 frzs : ∀ b o u, H b = some (.frz o u) -> H' b = some (.frz o u)
 tbls : ∀ b ps, H b = some (.tbl ps) -> ∃ more, H' b = some (.tbl (ps ++ more))
section
variable {fs fs' ex ex' : List Addr} {H H1 H2 : Hp} {h h1 h2 h' : Heap} {a x e : Addr} {o : HO}
theorem Un.any (u : Un fs ex H H1 h h1) (q : h.get? b = some ob) (n : H b = none) (hx : b ∉ ex) : ∃ sl, h1.get? b = some { ob with slots := sl } := by
 by_cases hb : b ∈ fs
 ·exact u.slot b ob q n hb hx
 ·exact ⟨ob.slots, u.keep b ob q n hb hx⟩
theorem Un.kept (k : ∀ b u, h.get? b = some u -> h'.get? b = some u) : Un fs ex H H h h' :=
 ⟨fun b ob q _ _ _ => k b ob q, fun b ob q _ _ _ => ⟨ob.slots, k b ob q⟩, fun _ _ _ n _ => n, fun b ob q _ => ⟨ob, k b ob q⟩, fun _ _ q => q, fun _ _ _ q => q, fun _ ps q => ⟨#[], by rw [q]; simp⟩⟩
theorem Un.refl : Un fs ex H H h h := Un.kept fun _ _ q => q
theorem Un.laid (k : ∀ b u, h.get? b = some u -> h'.get? b = some u) (hp : h.objs.size <= a) (hn : H a = none) : Un fs ex H (upd H a o) h h' where
 keep := fun b u q _ _ _ => k b u q
 slot := fun b u q _ _ _ => ⟨u.slots, k b u q⟩
 free := fun b u q n _ => by rw [q34 (Nat.ne_of_lt (Nat.lt_of_lt_of_le (Heap.lt_size q) hp))]; exact n
 there := fun b u q _ => ⟨u, k b u q⟩
 tups := fun b xs q => by rw [q34 (q26 q hn)]; exact q
 frzs := fun b u xs q => by rw [q34 (q26 q hn)]; exact q
 tbls := fun b ps q => ⟨#[], by rw [q34 (q26 q hn), q]; simp⟩
theorem Un.write (mu : Mut (H x)) (he : e = x \/ H e = some (.own x)) (k : ∀ b u, b ≠ e -> h.get? b = some u -> h'.get? b = some u) (heo : ∃ u, h'.get? e = some u) : Un fs ex H (upd H x o) h h' := by
 have hx : ∀ b, H b = none -> b ≠ x := fun b n z => by subst z; rw [n] at mu; exact mu
 have hb : ∀ b, H b = none -> b ≠ e := fun b n z => by
  subst z
  rcases he with r | r
  ·exact hx b n r
  ·rw [n] at r; cases r
 have hm : ∀ b u, H b = some u -> ¬ Mut (some u) -> b ≠ x := fun b u q nm z => by subst z; rw [q] at mu; exact nm mu
 refine ⟨fun b u q n _ _ => k b u (hb b n) q, fun b u q n _ _ => ⟨u.slots, k b u (hb b n) q⟩, fun b u q n _ => by rw [q34 (hx b n)]; exact n, fun b u q _ => ?_,
  fun b xs q => by rw [q34 (hm b _ q fun z => z)]; exact q, fun b u xs q => by rw [q34 (hm b _ q fun z => z)]; exact q, fun b ps q => ⟨#[], by rw [q34 (hm b _ q fun z => z), q]; simp⟩⟩
 by_cases hbe : b = e
 ·subst hbe; exact heo
 ·exact ⟨u, k b u hbe q⟩
end
def trk (h : Heap) (H : Hp) : List Addr := (List.range h.objs.size).filter fun a => (H a).isSome
def hidT (h : Heap) (H : Hp) : Heap := PySem.W.hideAll h (trk h H)
theorem q587 (h : Heap) (H : Hp) : (hidT h H).objs.size = h.objs.size := PySem.W.hideAll_size _ _
theorem hidT_get {h : Heap} (e : h.get? b = some o) (n : H b = none) : (hidT h H).get? b = some o :=
 PySem.W.hideAll_get _ e fun hm => by
  have q : (H b).isSome = true := (List.mem_filter.mp hm).2
  rw [n] at q; simp at q
theorem of_hidT {h : Heap} (e : (hidT h H).get? b = some o) : h.get? b = some o /\ H b = none := by
 have e' : h.get? b = some o := PySem.W.of_hideAll (trk h H) e
 refine ⟨e', ?_⟩
 cases q : H b with
 | none => rfl
 | some x =>
  have hm : b ∈ trk h H := List.mem_filter.mpr ⟨List.mem_range.mpr (Heap.lt_size e'), by simp [q]⟩
  have z : (hidT h H).get? b = none := PySem.W.hideAll_none (trk h H) hm
  rw [z] at e; cases e
def allNews (g h : Heap) (L : Addr) : List (Addr × Obj) := (List.range h.objs.size).filterMap fun a => if a = L \/ (g.get? a).isSome = true then none else (h.get? a).map fun o => (a, o)
def rest (g h : Heap) (L d : Addr) : List (Addr × Obj) := (allNews g h L).filter fun p => decide (p.1 ≠ d)
structure Mod (K : Fg) (mg : Mg) (base : Heap) : Prop where
 kin : K.In base
 glob : base.Ns mainGlobals mg
 blt : ∃ mb, base.Ns builtinsNs mb /\ ∀ x : Str, x ≠ "__name__" -> mb x = bootBuiltins x
 nolimit : base.NoLimit
structure Cx where
 prog : Program
 w : World
 K : Fg
 mg : Mg
 base : Heap
 A : Around
 N : List Str
 s₀ : Shared
 H₀ : Hp
 env : Env
 outer : List Env
 stack : List Env
 ex : List Addr
 fn : Str -> Bool
 calm : Bool
 pn : List (Addr × Obj)
 xe : VS
variable {X : Cx}
def frs (l : List Env) : List Addr := l.filterMap (·.frame)
abbrev Cx.fs (X : Cx) : List Addr := frs X.outer
def Vis (sc : Scope) (x : Str) : Prop := sc.names.lookup x = some .local \/ sc.names.lookup x = some .cell \/ sc.names.lookup x = some .free
def Loc (sc : Scope) (x : Str) : Prop := sc.names.lookup x = some .local \/ sc.names.lookup x = some .cell
def Look (env : Env) (h : Heap) (m : Mg) (x : Str) (u : Value) : Prop :=
 (env.kindOf x = some .local /\ m x = some u) \/ ((env.kindOf x = some .cell \/ env.kindOf x = some .free) /\ ∃ c, env.cells.lookup x = some c /\ h.IsCell c (some u))
structure Cx.Ok (X : Cx) : Prop where
 mod : Mod X.K X.mg X.base
 kind : X.env.scope.kind = .function
 glob : X.env.globals = mainGlobals
 blt : X.env.builtins = builtinsNs
 above : X.s₀.heap.objs.size <= X.env.locals
 inj : ∀ x y c, X.env.cells.lookup x = some c -> X.env.cells.lookup y = some c -> x = y
 has : ∀ x, (X.env.kindOf x = some .cell \/ X.env.kindOf x = some .free) -> ∃ c, X.env.cells.lookup x = some c
 cab : ∀ x c, X.fn x = true -> X.env.cells.lookup x = some c -> X.s₀.heap.objs.size <= c
 hd : X.calm = true -> X.A.handled = none
 frames : X.A.frames = some X.stack
 stk : X.stack = X.outer \/ (X.stack = X.env :: X.outer /\ X.env.frame = some X.env.locals)
 exf : ∀ b ∈ X.ex, b ≠ X.env.locals /\ ∀ x c, X.env.cells.lookup x = some c -> c ≠ b
 bs : ∀ b o, X.base.get? b = some o -> X.s₀.heap.get? b = some o /\ X.H₀ b = none
 bsz : X.base.objs.size <= X.s₀.heap.objs.size
 noex : ∀ b o, X.base.get? b = some o -> b ∉ X.ex
 exfs : ∀ b ∈ X.ex, b ∉ X.fs
 funs : X.s₀.heap.FunFrames X.base X.outer
 frf : ∀ b ∈ X.fs, X.H₀ b = none
structure Inv (X : Cx) (pins : List (Addr × Obj)) (σ : List (Option V)) (H : Hp) (s : Shared) : Prop where
 ok : X.Ok
 os : s.os = X.s₀.os
 bare : AllBare s.gens
 base : Un X.fs X.ex X.H₀ H X.s₀.heap s.heap
 loc : ∃ m, s.heap.Ns X.env.locals m /\ ∀ (i : Nat) (x : Str) (v : V), X.N[i]? = some x -> σ[i]? = some (some v) -> Vis X.env.scope x -> ∃ u, RelV v u /\ Look X.env s.heap m x u
 cell : ∀ x c, X.env.cells.lookup x = some c -> ∃ v, s.heap.IsCell c v
 free : H X.env.locals = none
 freeC : ∀ x c, X.env.cells.lookup x = some c -> H c = none
 pin : ∀ p ∈ X.pn ++ pins, s.heap.get? p.1 = some p.2 /\ H p.1 = none /\ p.1 ≠ X.env.locals /\ p.1 ∉ X.fs /\ ∀ v, p.2.data ≠ .cell v
 hok : HOk X.prog X.w H s.heap
 len : σ.length = X.N.length
section
variable {pins : List (Addr × Obj)} {σ : List (Option V)} {H H' : Hp} {s : Shared} {h' : Heap}
theorem Cx.Ok.nofr (ok : X.Ok) (e : X.base.get? b = some o) : b ∉ X.fs := fun hb => by
 have := (ok.funs.mem hb).1
 rw [e] at this; cases this
theorem Inv.bs (I : Inv X pins σ H s) : ∀ b o, X.base.get? b = some o -> s.heap.get? b = some o /\ H b = none := fun b o e =>
 ⟨I.base.keep b o (I.ok.bs b o e).1 (I.ok.bs b o e).2 (I.ok.nofr e) (I.ok.noex b o e), I.base.free b o (I.ok.bs b o e).1 (I.ok.bs b o e).2 (I.ok.noex b o e)⟩
theorem Inv.bk (I : Inv X pins σ H s) : ∀ b o, X.base.get? b = some o -> s.heap.get? b = some o := fun b o e => (I.bs b o e).1
theorem Inv.mod (I : Inv X pins σ H s) : Mod X.K X.mg X.base := I.ok.mod
theorem Inv.kIn (I : Inv X pins σ H s) : X.K.In s.heap := I.ok.mod.kin.keeps I.bk
theorem Inv.lt (I : Inv X pins σ H s) : X.env.locals < s.heap.objs.size := let ⟨_, hn, _⟩ := I.loc; hn.lt
theorem Inv.sz (I : Inv X pins σ H s) : X.s₀.heap.objs.size <= s.heap.objs.size := Nat.le_trans I.ok.above (Nat.le_of_lt I.lt)
theorem Inv.nofs (I : Inv X pins σ H s) (h : s.heap.objs.size <= a) : a ∉ X.fs := fun hb => by
 obtain ⟨_, o, ho, _⟩ := I.ok.funs.mem hb
 exact absurd (Nat.lt_of_lt_of_le (Heap.lt_size ho) (Nat.le_trans I.sz h)) (Nat.lt_irrefl _)
theorem Inv.cne (I : Inv X pins σ H s) : ∀ x c, X.env.cells.lookup x = some c -> c ≠ X.env.locals := fun x c e z => by
 obtain ⟨v, o, ho, hd⟩ := I.cell x c e
 obtain ⟨m, ⟨o', es, ep, ho', hd', _⟩, _⟩ := I.loc
 rw [z, ho'] at ho; cases ho; rw [hd'] at hd; cases hd
theorem Inv.funs (I : Inv X pins σ H s) : s.heap.FunFrames X.base X.outer := by
 have all : ∀ (l : List Env), (∀ b ∈ frs l, b ∈ X.fs) -> X.s₀.heap.FunFrames X.base l -> s.heap.FunFrames X.base l := by
  intro l
  induction l with
  | nil => intro _ _; trivial
  | cons env r ih =>
   intro hs hl
   obtain ⟨hk, ⟨L, o, hf, hn, ho, hd⟩, hr⟩ := hl
   have hL : L ∈ X.fs := hs L (by unfold frs; rw [List.filterMap_cons, hf]; exact List.mem_cons_self)
   obtain ⟨sl, e⟩ := I.base.slot L o ho (I.ok.frf L hL) hL fun z => I.ok.exfs L z hL
   exact ⟨hk, ⟨L, _, hf, hn, e, hd⟩, ih (fun b hb => hs b (by unfold frs; rw [List.filterMap_cons, hf]; exact List.mem_cons_of_mem _ hb)) hr⟩
 exact all X.outer (fun _ hb => hb) I.ok.funs
theorem Inv.stack (I : Inv X pins σ H s) : s.heap.FunFrames X.base X.stack := by
 rcases I.ok.stk with e | ⟨e, hf⟩
 ·rw [e]; exact I.funs
 ·rw [e]
  obtain ⟨m, hn, _⟩ := I.loc
  refine .cons (by rw [I.ok.kind]; decide) hf hn ?_ I.funs
  exact Heap.get?_none_of_le (Nat.le_trans I.ok.bsz I.ok.above)
theorem Inv.stkSub (I : Inv X pins σ H s) : ∀ b ∈ frs X.stack, b ∈ X.env.locals :: X.fs := fun b hb => by
 rcases I.ok.stk with e | ⟨e, hf⟩
 ·rw [e] at hb; exact List.mem_cons_of_mem _ hb
 ·rw [e] at hb
  unfold frs at hb
  rw [List.filterMap_cons, hf] at hb
  exact hb
theorem Inv.stkFree (I : Inv X pins σ H s) : ∀ b ∈ frs X.stack, H b = none := fun b hb => by
 rcases List.mem_cons.mp (I.stkSub b hb) with e | hb
 ·rw [e]; exact I.free
 ·obtain ⟨_, o, ho, _⟩ := I.ok.funs.mem hb
  exact I.base.free b o ho (I.ok.frf b hb) fun z => I.ok.exfs b z hb
theorem Inv.step {g' : Array GenState} {t' : Nat} {d' : Drawn} {ch : List Addr} (I : Inv X pins σ H s)
  (hch : ∀ b ∈ ch, (b ∈ X.ex \/ X.s₀.heap.objs.size <= b) /\ b ≠ X.env.locals /\ (∀ x c, X.env.cells.lookup x = some c -> c ≠ b) /\ ∀ p ∈ X.pn ++ pins, p.1 ≠ b)
  (keep : ∀ b o, b ≠ X.env.locals -> b ∉ X.fs -> b ∉ ch -> s.heap.get? b = some o -> H b = none -> h'.get? b = some o)
  (slot : ∀ b o, b ≠ X.env.locals -> b ∈ X.fs -> b ∉ ch -> s.heap.get? b = some o -> H b = none -> ∃ sl, h'.get? b = some { o with slots := sl }) (free : ∀ b o, b ∉ ch -> s.heap.get? b = some o -> H b = none -> H' b = none)
  (there : ∀ b o, b ∉ ch -> s.heap.get? b = some o -> ∃ o', h'.get? b = some o')
  (tups : ∀ b xs, H b = some (.tup xs) -> H' b = some (.tup xs)) (frzs : ∀ b o u, H b = some (.frz o u) -> H' b = some (.frz o u)) (tbls : ∀ b ps, H b = some (.tbl ps) -> ∃ more, H' b = some (.tbl (ps ++ more)))
  (ns : ∀ m, s.heap.Ns X.env.locals m -> h'.Ns X.env.locals m) (hok : HOk X.prog X.w H' h') (hg : AllBare g') :
  Inv X pins σ H' { s with heap := h', gens := g', drawn := d', toks := t' } := by
 have neL : ∀ b o, X.s₀.heap.get? b = some o -> b ≠ X.env.locals := fun b o e => Nat.ne_of_lt (Nat.lt_of_lt_of_le (Heap.lt_size e) I.ok.above)
 have neC : ∀ b o, X.s₀.heap.get? b = some o -> b ∉ X.ex -> b ∉ ch := fun b o e hx hb => by
  rcases (hch b hb).1 with z | z
  ·exact hx z
  ·exact absurd (Nat.lt_of_lt_of_le (Heap.lt_size e) z) (Nat.lt_irrefl _)
 have cellK : ∀ x c, X.env.cells.lookup x = some c -> ∀ v, s.heap.IsCell c v -> h'.IsCell c v := fun x c e v ⟨o, ho, hd⟩ => by
  have nch : c ∉ ch := fun z => (hch c z).2.2.1 x c e rfl
  by_cases hc : c ∈ X.fs
  ·obtain ⟨sl, q⟩ := slot c o (I.cne x c e) hc nch ho (I.freeC x c e)
   exact ⟨_, q, hd⟩
  ·exact ⟨o, keep c o (I.cne x c e) hc nch ho (I.freeC x c e), hd⟩
 refine ⟨I.ok, I.os, hg, ⟨fun b o e n hb hx => ?_, fun b o e n hb hx => ?_, fun b o e n hx => ?_, fun b o e hx => ?_, fun b xs e => tups b xs (I.base.tups b xs e), fun b o xs e => frzs b o xs (I.base.frzs b o xs e), fun b ps e => ?_⟩, ?_, fun x c e => ?_, ?_, fun x c e => ?_, fun p hp => ?_, hok, I.len⟩
 ·exact keep b o (neL b o e) hb (neC b o e hx) (I.base.keep b o e n hb hx) (I.base.free b o e n hx)
 ·obtain ⟨sl, e1⟩ := I.base.slot b o e n hb hx
  obtain ⟨sl', e2⟩ := slot b _ (neL b o e) hb (neC b o e hx) e1 (I.base.free b o e n hx)
  exact ⟨sl', e2⟩
 ·obtain ⟨o', e1⟩ := I.base.there b o e hx
  exact free b o' (neC b o e hx) e1 (I.base.free b o e n hx)
 ·obtain ⟨o', e1⟩ := I.base.there b o e hx
  exact there b o' (neC b o e hx) e1
 ·obtain ⟨m1, e1⟩ := I.base.tbls b ps e
  obtain ⟨m2, e2⟩ := tbls b _ e1
  exact ⟨m1 ++ m2, by rw [e2, Array.append_assoc]⟩
 ·obtain ⟨m, hn, hl⟩ := I.loc
  refine ⟨m, ns m hn, fun i x v e1 e2 e3 => ?_⟩
  obtain ⟨u, r, l⟩ := hl i x v e1 e2 e3
  refine ⟨u, r, ?_⟩
  rcases l with l | ⟨k, c, e, z⟩
  ·exact .inl l
  ·exact .inr ⟨k, c, e, cellK x c e _ z⟩
 ·obtain ⟨v, z⟩ := I.cell x c e
  exact ⟨v, cellK x c e v z⟩
 ·obtain ⟨m, ⟨o, _, _, ho, _⟩, _⟩ := I.loc
  exact free _ o (fun z => (hch _ z).2.1 rfl) ho I.free
 ·obtain ⟨v, o, ho, hd⟩ := I.cell x c e
  exact free c o (fun z => (hch c z).2.2.1 x c e rfl) ho (I.freeC x c e)
 ·obtain ⟨e, n, ne, nf, d⟩ := I.pin p hp
  have nch : p.1 ∉ ch := fun z => (hch p.1 z).2.2.2 p hp rfl
  exact ⟨keep p.1 p.2 ne nf nch e n, free p.1 p.2 nch e n, ne, nf, d⟩
theorem Inv.un {t' : Nat} (I : Inv X pins σ H s) (u : Un X.fs [] H H' s.heap h') (hok : HOk X.prog X.w H' h') : Inv X pins σ H' { s with heap := h', toks := t' } := by
 obtain ⟨m, ⟨o, es, ep, ho, r⟩, _⟩ := id I.loc
 obtain ⟨sl, hL⟩ := u.any ho I.free (by simp)
 exact I.step (g' := s.gens) (d' := s.drawn) (ch := []) (fun _ z => nomatch z) (fun b o _ hb _ e n => u.keep b o e n hb (by simp)) (fun b o _ hb _ e n => u.slot b o e n hb (by simp)) (fun b o _ e n => u.free b o e n (by simp)) (fun b o _ e => u.there b o e (by simp)) u.tups u.frzs u.tbls (fun m' hm => by
  obtain ⟨o', es', ep', ho', r'⟩ := hm
  rw [ho] at ho'; cases ho'
  exact ⟨_, es', ep', hL, r'⟩) hok I.bare
theorem Inv.call {g' : Array GenState} {t' : Nat} {d' : Drawn} {ch : List Addr} (I : Inv X pins σ H s) (u : Un (frs X.stack) ch H H' s.heap h') (hok : HOk X.prog X.w H' h') (hg : AllBare g')
  (hch : ∀ b ∈ ch, (b ∈ X.ex \/ X.s₀.heap.objs.size <= b) /\ b ≠ X.env.locals /\ (∀ x c, X.env.cells.lookup x = some c -> c ≠ b) /\ ∀ p ∈ X.pn ++ pins, p.1 ≠ b) :
  Inv X pins σ H' { s with heap := h', gens := g', drawn := d', toks := t' } := by
 obtain ⟨m, ⟨o, es, ep, ho, r⟩, _⟩ := id I.loc
 obtain ⟨sl, hL⟩ := u.any ho I.free fun z => (hch _ z).2.1 rfl
 exact I.step (ch := ch) hch (fun b o hL hb hc e n => u.keep b o e n (fun z => (List.mem_cons.mp (I.stkSub b z)).elim hL hb) hc) (fun b o _ _ hc e n => u.any e n hc) (fun b o hc e n => u.free b o e n hc) (fun b o hc e => u.there b o e hc) u.tups u.frzs u.tbls (fun m' hm => by
  obtain ⟨o', es', ep', ho', r'⟩ := hm
  rw [ho] at ho'; cases ho'
  exact ⟨_, es', ep', hL, r'⟩) hok hg
theorem Inv.turned {t' : Nat} {it : Addr} (I : Inv X pins σ H s) (k : ∀ b o, b ≠ it -> s.heap.get? b = some o -> h'.get? b = some o) (hn : H it = none) (hL : it ≠ X.env.locals)
  (h1 : it ∈ X.ex \/ X.s₀.heap.objs.size <= it) (h2 : ∀ x c, X.env.cells.lookup x = some c -> c ≠ it) (h3 : ∀ p ∈ X.pn ++ pins, p.1 ≠ it) : Inv X pins σ H { s with heap := h', toks := t' } := by
 have nit : ∀ b u, H b = some u -> b ≠ it := fun b u e z => by rw [z, hn] at e; cases e
 refine I.step (g' := s.gens) (d' := s.drawn) (ch := [it]) (fun b hb => ?_) (fun b o _ _ hc e _ => k b o (fun z => hc (by simp [z])) e) (fun b o _ _ hc e _ => ⟨o.slots, k b o (fun z => hc (by simp [z])) e⟩) (fun _ _ _ _ n => n)
  (fun b o hc e => ⟨o, k b o (fun z => hc (by simp [z])) e⟩) (fun _ _ e => e) (fun _ _ _ e => e) (fun b ps e => ⟨#[], by rw [e]; simp⟩) (fun m hm => ?_) (fun b u e => ?_) I.bare
 ·have e : b = it := by simpa using hb
  subst e
  exact ⟨h1, hL, h2, h3⟩
 ·obtain ⟨o, es, ep, ho, r⟩ := hm
  exact ⟨o, es, ep, k _ o (Ne.symm hL) ho, r⟩
 ·refine (I.hok b u e).stay (fun c v hc q => k c v ?_ q) (fun _ q => q) fun _ _ q => q
  rcases hc with z | z
  ·rw [z]; exact nit b u e
  ·exact nit c _ z
theorem Inv.tok (I : Inv X pins σ H s) (t : Nat) : Inv X pins σ H { s with toks := t } := I.un (h' := s.heap) (t' := t) Un.refl I.hok
theorem Inv.kept {t' : Nat} (I : Inv X pins σ H s) (k : ∀ b u, s.heap.get? b = some u -> h'.get? b = some u) : Inv X pins σ H { s with heap := h', toks := t' } := I.un (Un.kept k) (I.hok.kept k)
theorem Inv.laid {t' : Nat} (I : Inv X pins σ H s) (k : ∀ b u, s.heap.get? b = some u -> h'.get? b = some u) (hp : s.heap.objs.size <= a) (new : ObjOk X.prog X.w (upd H a o) h' a o) :
  Inv X pins σ (upd H a o) { s with heap := h', toks := t' } := I.un (Un.laid k hp (I.hok.fresh hp)) (I.hok.laid k hp new)
theorem Inv.write {t' : Nat} (I : Inv X pins σ H s) (mu : Mut (H x)) (he : e = x \/ H e = some (.own x)) (k : ∀ b u, b ≠ e -> s.heap.get? b = some u -> h'.get? b = some u) (heo : ∃ u, h'.get? e = some u)
  (new : ObjOk X.prog X.w (upd H x o) h' x o) : Inv X pins σ (upd H x o) { s with heap := h', toks := t' } := I.un (Un.write mu he k heo) (I.hok.write mu he k heo new)
theorem Inv.pins_of (I : Inv X pins σ H s) (h : ∀ p ∈ pins', s.heap.get? p.1 = some p.2 /\ H p.1 = none /\ p.1 ≠ X.env.locals /\ p.1 ∉ X.fs /\ ∀ v, p.2.data ≠ .cell v) : Inv X pins' σ H s :=
 ⟨I.ok, I.os, I.bare, I.base, I.loc, I.cell, I.free, I.freeC, fun p hp => (List.mem_append.mp hp).elim (fun z => I.pin p (List.mem_append_left _ z)) (h p), I.hok, I.len⟩
theorem q485 {N : List Str} (hN : N.Nodup) {i j : Nat} (a : N[i]? = some x) (b : N[j]? = some x) : i = j := by
 obtain ⟨h1, e1⟩ := List.getElem?_eq_some_iff.mp a
 obtain ⟨h2, e2⟩ := List.getElem?_eq_some_iff.mp b
 exact (List.getElem_inj hN).mp (e1.trans e2.symm)
theorem q355 {M : Model} {A : Around} {E : VS} {i : Nat} (I : Inv X pins σ H s) (hN : X.N.Nodup) (hi : X.N[i]? = some x) (hx : Loc X.env.scope x) (r : RelV v u)
  (h : ∀ s', Inv X pins (σ.set i (some v)) H s' -> (∃ a, Heap.SameBut a s.heap s'.heap /\ (a = X.env.locals \/ X.env.cells.lookup x = some a)) -> Q () s') (hf : X.fn x = true \/ X.env.scope.names.lookup x = some .local := by first | exact .inl rfl | exact .inr rfl | assumption) : wpAny M A (storeName X.env x u) Q E s := by
 obtain ⟨m, hn, hl⟩ := id I.loc
 have hcls : (X.env.scope.kind == .class || (X.env.scope.kind == .module && X.env.locals != X.env.globals)) = false := by rw [I.ok.kind]; rfl
 have hiσ : i < σ.length := by rw [I.len]; exact (List.getElem?_eq_some_iff.mp hi).1
 have cne := I.cne
 have tracked : ∀ {a : Addr} {h' : Heap}, (∃ o, s.heap.get? a = some o /\ H a = none) -> Heap.SameBut a s.heap h' -> HOk X.prog X.w H h' := fun {a h'} ha hs b ob e => by
  obtain ⟨_, _, hfree⟩ := ha
  refine (I.hok b ob e).stay (fun c w' hc q => (hs.2 c ?_).trans q) (fun _ q => q) fun _ _ q => q
  rintro rfl
  rcases hc with rfl | hc
  ·rw [hfree] at e; cases e
  ·rw [hfree] at hc; cases hc
 rcases hx with hk | hk
 ·refine wpAny_storeName_local hk hn (fun h' hn' hs => ?_) hcls
  obtain ⟨oL, _, _, hoL, _⟩ := id hn
  refine h _ ⟨I.ok, I.os, I.bare, ⟨fun b o e n hb hx => ?_, fun b o e n hb hx => ?_, I.base.free, fun b o e hx => ?_, I.base.tups, I.base.frzs, I.base.tbls⟩, ⟨_, hn', fun j y v' e1 e2 e3 => ?_⟩, fun y c e => ?_, I.free, I.freeC, fun p hp => ?_, tracked ⟨oL, hoL, I.free⟩ hs, by simpa using I.len⟩ ⟨_, hs, .inl rfl⟩
  ·exact (hs.2 b (Nat.ne_of_lt (Nat.lt_of_lt_of_le (Heap.lt_size e) I.ok.above))).trans (I.base.keep b o e n hb hx)
  ·obtain ⟨sl, e1⟩ := I.base.slot b o e n hb hx
   exact ⟨sl, (hs.2 b (Nat.ne_of_lt (Nat.lt_of_lt_of_le (Heap.lt_size e) I.ok.above))).trans e1⟩
  ·obtain ⟨o', e1⟩ := I.base.there b o e hx
   exact ⟨o', (hs.2 b (Nat.ne_of_lt (Nat.lt_of_lt_of_le (Heap.lt_size e) I.ok.above))).trans e1⟩
  ·by_cases hj : j = i
   ·subst hj
    rw [hi] at e1; cases e1
    rw [List.getElem?_set_self hiσ] at e2
    cases e2
    exact ⟨u, r, .inl ⟨hk, by simp⟩⟩
   ·rw [List.getElem?_set_ne (Ne.symm hj)] at e2
    obtain ⟨u', r', q⟩ := hl j y v' e1 e2 e3
    refine ⟨u', r', ?_⟩
    rcases q with ⟨k, e⟩ | ⟨k, c, e, z⟩
    ·refine .inl ⟨k, ?_⟩
     have : y ≠ x := fun e => hj (q485 hN e1 (e ▸ hi))
     simp [this, e]
    ·exact .inr ⟨k, c, e, z.sameBut hs (cne y c e)⟩
  ·obtain ⟨w', z⟩ := I.cell y c e
   exact ⟨w', z.sameBut hs (cne y c e)⟩
  ·obtain ⟨e, n, ne, nf, d⟩ := I.pin p hp
   exact ⟨(hs.2 p.1 ne).trans e, n, ne, nf, d⟩
 ·have hfn : X.fn x = true := by
   rcases hf with z | z
   ·exact z
   ·rw [z] at hk; cases hk
  obtain ⟨c, hc⟩ := I.ok.has x (.inl hk)
  obtain ⟨w', z⟩ := I.cell x c hc
  refine wpAny_storeName_cell I.ok.kind hk hc z (fun h' hc' hs => ?_)
  obtain ⟨oc, hoc, hocd⟩ := id z
  refine h { s with heap := h' } ⟨I.ok, I.os, I.bare, ⟨fun b o e n hb hx => ?_, fun b o e n hb hx => ?_, I.base.free, fun b o e hx => ?_, I.base.tups, I.base.frzs, I.base.tbls⟩, ⟨m, hn.sameBut hs (Ne.symm (cne x c hc)), fun j y v' e1 e2 e3 => ?_⟩, fun y c' e => ?_, I.free, I.freeC, fun p hp => ?_, tracked ⟨oc, hoc, I.freeC x c hc⟩ hs, by simpa using I.len⟩ ⟨c, hs, .inr hc⟩
  ·exact (hs.2 b (Nat.ne_of_lt (Nat.lt_of_lt_of_le (Heap.lt_size e) (I.ok.cab x c hfn hc)))).trans (I.base.keep b o e n hb hx)
  ·obtain ⟨sl, e1⟩ := I.base.slot b o e n hb hx
   exact ⟨sl, (hs.2 b (Nat.ne_of_lt (Nat.lt_of_lt_of_le (Heap.lt_size e) (I.ok.cab x c hfn hc)))).trans e1⟩
  ·obtain ⟨o', e1⟩ := I.base.there b o e hx
   exact ⟨o', (hs.2 b (Nat.ne_of_lt (Nat.lt_of_lt_of_le (Heap.lt_size e) (I.ok.cab x c hfn hc)))).trans e1⟩
  ·by_cases hj : j = i
   ·subst hj
    rw [hi] at e1; cases e1
    rw [List.getElem?_set_self hiσ] at e2
    cases e2
    exact ⟨u, r, .inr ⟨.inl hk, c, hc, hc'⟩⟩
   ·rw [List.getElem?_set_ne (Ne.symm hj)] at e2
    obtain ⟨u', r', q⟩ := hl j y v' e1 e2 e3
    refine ⟨u', r', ?_⟩
    rcases q with q | ⟨k, c', e, z'⟩
    ·exact .inl q
    ·refine .inr ⟨k, c', e, z'.sameBut hs ?_⟩
     rintro rfl
     exact hj (q485 hN e1 (I.ok.inj _ _ _ e hc ▸ hi))
  ·by_cases hcc : c' = c
   ·subst hcc; exact ⟨_, hc'⟩
   ·obtain ⟨w2, z2⟩ := I.cell y c' e
    exact ⟨w2, z2.sameBut hs hcc⟩
  ·obtain ⟨e, n, ne, nf, d⟩ := I.pin p hp
   refine ⟨(hs.2 p.1 ?_).trans e, n, ne, nf, d⟩
   intro q
   rw [q, hoc] at e
   have q' : oc = p.2 := Option.some.inj e
   exact d w' (by rw [<- q']; exact hocd)
theorem q196 {M : Model} {A : Around} {E : VS} {i : Nat} (I : Inv X pins σ H s) (hN : X.N.Nodup) (hi : X.N[i]? = some x) (hx : Loc X.env.scope x) (r : RelV v u)
  (h : ∀ s', Inv X pins (σ.set i (some v)) H s' -> Q () s') (hf : X.fn x = true \/ X.env.scope.names.lookup x = some .local := by first | exact .inl rfl | exact .inr rfl | assumption) : wpAny M A (storeName X.env x u) Q E s :=
 q355 I hN hi hx r (fun s' I' _ => h s' I') hf
theorem Inv.call' {s' : Shared} (I : Inv X pins σ H s) (ho : s'.os = s.os) (u : Un (frs X.stack) ch H H' s.heap s'.heap) (hok : HOk X.prog X.w H' s'.heap) (hg : AllBare s'.gens)
  (hch : ∀ b ∈ ch, (b ∈ X.ex \/ X.s₀.heap.objs.size <= b) /\ b ≠ X.env.locals /\ (∀ x c, X.env.cells.lookup x = some c -> c ≠ b) /\ ∀ p ∈ X.pn ++ pins, p.1 ≠ b) : Inv X pins σ H' s' := by
 obtain ⟨h', g', d', t', o'⟩ := s'
 have e : o' = s.os := ho
 subst e
 exact I.call (g' := g') (t' := t') (d' := d') u hok hg hch
end
abbrev XK := Value -> Option Addr -> Hp -> Prop
abbrev St := List (Option V)
abbrev VK := V -> Hp -> Prop
abbrev TE := St -> Hp -> VK -> Prop
abbrev TT := St -> Hp -> (Bool -> Hp -> Prop) -> Prop
abbrev TA := St -> Hp -> (List V -> Hp -> Prop) -> Prop
structure Ends where
 nx : St -> Hp -> Prop
 rt : VK
 bk : St -> Hp -> Prop := fun _ _ => False
 ct : St -> Hp -> Prop := fun _ _ => False
abbrev TS := Ends -> St -> Hp -> Prop
def EP (X : Cx) (pins : List (Addr × Obj)) (σ : St) (Q : VK) (u : Value) (s' : Shared) : Prop := ∃ v H', Inv X pins σ H' s' /\ RelV v u /\ Q v H'
def TP (X : Cx) (pins : List (Addr × Obj)) (σ : St) (Q : Bool -> Hp -> Prop) (b : Bool) (s' : Shared) : Prop := ∃ H', Inv X pins σ H' s' /\ Q b H'
def AP (X : Cx) (pins : List (Addr × Obj)) (σ : St) (Q : List V -> Hp -> Prop) (us : List Value) (s' : Shared) : Prop := ∃ vs H', Inv X pins σ H' s' /\ Vals vs us /\ Q vs H'
def SP (X : Cx) (pins : List (Addr × Obj)) (D : Ends) (f : Flow) (s' : Shared) : Prop :=
 match f with
 | .next => ∃ σ' H', Inv X pins σ' H' s' /\ D.nx σ' H'
 | .brk => ∃ σ' H', Inv X pins σ' H' s' /\ D.bk σ' H'
 | .cont => ∃ σ' H', Inv X pins σ' H' s' /\ D.ct σ' H'
 | .ret u => ∃ v σ' H', Inv X pins σ' H' s' /\ RelV v u /\ D.rt v H'
def PE (X : Cx) (e : Expr) (t : TE) : Prop :=
 ∀ (pins : List (Addr × Obj)) (s : Shared) (σ : St) (H : Hp) (Q : VK), Inv X pins σ H s -> t σ H Q -> wpAny (model X.prog X.w) X.A (eval e X.env) (EP X pins σ Q) X.xe s
def PT (X : Cx) (e : Expr) (t : TT) : Prop :=
 ∀ (pins : List (Addr × Obj)) (s : Shared) (σ : St) (H : Hp) (Q : Bool -> Hp -> Prop), Inv X pins σ H s -> t σ H Q -> wpAny (model X.prog X.w) X.A (isTrue e X.env (eval e X.env)) (TP X pins σ Q) X.xe s
def PW (X : Cx) (e : Expr) (t : TT) : Prop :=
 ∀ (whole : Sem Value) (pins : List (Addr × Obj)) (s : Shared) (σ : St) (H : Hp) (Q : Bool -> Hp -> Prop), Inv X pins σ H s -> t σ H Q -> wpAny (model X.prog X.w) X.A (isTrue e X.env whole) (TP X pins σ Q) X.xe s
theorem PW.pt (h : PW X e t) : PT X e t := h _
def PA (X : Cx) (es : List Expr) (t : TA) : Prop :=
 ∀ (pos : Pos) (pins : List (Addr × Obj)) (s : Shared) (σ : St) (H : Hp) (Q : List V -> Hp -> Prop), Inv X pins σ H s -> t σ H Q -> wpAny (model X.prog X.w) X.A (spliced (backTo pos (starEach es X.env))) (AP X pins σ Q) X.xe s
def PS (X : Cx) (st : Stmt) (t : TS) : Prop :=
 ∀ (pins : List (Addr × Obj)) (s : Shared) (σ : St) (H : Hp) (D : Ends), Inv X pins σ H s -> t D σ H -> wpAny (model X.prog X.w) X.A (exec st X.env) (SP X pins D) X.xe s
def PSs (X : Cx) (st : List Stmt) (t : TS) : Prop :=
 ∀ (pins : List (Addr × Obj)) (s : Shared) (σ : St) (H : Hp) (D : Ends), Inv X pins σ H s -> t D σ H -> wpAny (model X.prog X.w) X.A (execs st X.env) (SP X pins D) X.xe s
theorem thn {α : Type} {t : Sem α} {Q Q' : α -> Shared -> Prop} {M : Model} {A : Around} {E : VS} {s : Shared} (h : wpAny M A t Q E s) (hQ : ∀ a s, Q a s -> Q' a s) : wpAny M A t Q' E s := wpAny_mono h hQ fun _ _ x => x
section
def tVar (i : Nat) : TE := fun σ H Q => ∃ v, σ[i]? = some (some v) /\ Q v H
def tC (v : V) : TE := fun _ H Q => Q v H
theorem pe_var {i : Nat} {pos : Pos} (hN : X.N[i]? = some x) (hv : Vis X.env.scope x) (hd : (x == ("__debug__" : Str)) = false := by decide) (hcd : (x == ("__classdict__" : Str)) = false := by decide) : PE X (.Name x pos) (tVar i) := by
 intro pins s σ H Q I h
 obtain ⟨v, e, h⟩ := h
 obtain ⟨m, hn, hl⟩ := I.loc
 obtain ⟨u, r, l⟩ := hl i x v hN e hv
 have fin : EP X pins σ Q u s := ⟨v, H, I, r, h⟩
 rcases l with ⟨hk, hm⟩ | ⟨hk, c, hc, hcell⟩
 ·exact wpAny_Name (wpAny_loadName_local I.ok.kind hk hn hm fin) hd
 ·rcases hk with hk | hk
  ·exact wpAny_Name (wpAny_loadName_cell I.ok.kind hk hc hcell fin) hd
  ·exact wpAny_Name (wpAny_loadName_free I.ok.kind hk hc hcell fin hcd) hd
theorem q13 {i j pos} : PE X (.Constant (.int i) j pos) (tC (.int i)) := fun _ _ _ H _ I h => wpAny_Constant_int ⟨.int i, H, I.tok _, ⟨_, rfl⟩, h⟩
theorem pe_bl {b j pos} : PE X (.Constant (.bool b) j pos) (tC (.bl b)) := fun _ _ _ H _ I h => Constant_bool ⟨.bl b, H, I, rfl, h⟩
theorem q62 {j pos} : PE X (.Constant .none j pos) (tC .non) := fun _ _ _ H _ I h => Constant_none ⟨.non, H, I, rfl, h⟩
theorem q22 {x j pos} : PE X (.Constant (.str x) j pos) (tC (.str x)) := fun _ _ _ H _ I h => Calls.Constant_str ⟨.str x, H, I.tok _, ⟨_, rfl⟩, h⟩
def Gl (X : Cx) (x : Str) : Prop := X.env.kindOf x = some .globalImplicit
theorem q435 {E : VS} {pos : Pos} (I : Inv X pins σ H s) (hg : Gl X x) (hm : X.mg x = some u) (h : Q u s)
  (hd : (x == ("__debug__" : Str)) = false := by decide) : wpAny (model X.prog X.w) X.A (eval (.Name x pos) X.env) Q E s :=
 Calls.Name_function_global I.ok.kind hg (Calls.loadGlobal_global (by rw [I.ok.glob]; exact I.mod.glob.keeps I.bk) hm h) hd
theorem q150 {E : VS} {pos : Pos} (I : Inv X pins σ H s) (hg : Gl X x) (hm : X.mg x = none) (hv : bootBuiltins x = some u) (h : Q u s)
  (hn : x ≠ "__name__" := by decide) (hd : (x == ("__debug__" : Str)) = false := by decide) : wpAny (model X.prog X.w) X.A (eval (.Name x pos) X.env) Q E s := by
 obtain ⟨mb, h1, h2⟩ := I.mod.blt
 exact Calls.Name_function_global I.ok.kind hg (Calls.loadGlobal_builtin (by rw [I.ok.glob]; exact I.mod.glob.keeps I.bk) hm (by rw [I.ok.blt]; exact h1.keeps I.bk) ((h2 x hn).trans hv) h) hd
theorem q436 {pos : Pos} (hg : Gl X x) (hm : X.mg x = some u) (r : RelV v u) (hd : (x == ("__debug__" : Str)) = false := by decide) : PE X (.Name x pos) (tC v) :=
 fun _ _ _ H _ I h => q435 I hg hm ⟨v, H, I, r, h⟩ hd
theorem q588 {pos : Pos} (hg : Gl X x) (hm : X.mg x = none) (hv : bootBuiltins x = some u) (r : RelV v u) (hn : x ≠ "__name__" := by decide) (hd : (x == ("__debug__" : Str)) = false := by decide) : PE X (.Name x pos) (tC v) :=
 fun _ _ _ H _ I h => q150 I hg hm hv ⟨v, H, I, r, h⟩ hn hd
variable {a b : Expr} {ta tb : TE} {pos : Pos}
def PC (X : Cx) (op : CmpOp) (a b : Expr) (t : TE) : Prop :=
 ∀ (pins : List (Addr × Obj)) (s : Shared) (σ : St) (H : Hp) (Q : VK), Inv X pins σ H s -> t σ H Q ->
  wpAny (model X.prog X.w) X.A (eval a X.env) (fun v s₁ => wpAny (model X.prog X.w) X.A (eval b X.env) (fun u s₂ => wpAny (model X.prog X.w) X.A (compareOp op v u) (EP X pins σ Q) X.xe s₂) X.xe s₁) X.xe s
def tB (t : TE) : TT := fun σ H Q => t σ H fun x H1 => ∃ c, x = .bl c /\ Q c H1
theorem q486 {e : Expr} (h : PE X e t) (he : ∀ whole, isTrue e X.env whole = (do let v <- whole; standAt e.pos; holding [v] (truthy v)) := by intro _; rfl) : PT X e (tB t) := by
 intro pins s σ H Q I hw
 refine isTrue_plain (thn (h pins s σ H _ I hw) fun v s1 ⟨x, H1, I1, r1, q1⟩ => ?_) (he _)
 obtain ⟨d, rfl, q⟩ := q1
 cases r1
 exact wpAny_truthy_bool ⟨H1, I1, q⟩
variable {tA tB' : TT} {rest : List Expr}
def tAnd (t u : TT) : TT := fun σ H Q => t σ H fun c H1 => if c = true then u σ H1 Q else Q false H1
def tOr (t u : TT) : TT := fun σ H Q => t σ H fun c H1 => if c = true then Q true H1 else u σ H1 Q
def tNot (t : TT) : TT := fun σ H Q => t σ H fun c H1 => Q (!c) H1
theorem q173 (ha : PT X a tA) : PW X (.BoolOp .And [a] pos) tA := by
 intro wh pins s σ H Q I h
 refine isTrue_and (thn (ha pins s σ H Q I h) fun c s1 e => ?_)
 cases c with
 | true => exact isTrue_and_nil e
 | false => exact e
theorem q80 (ha : PT X a tA) : PW X (.BoolOp .Or [a] pos) tA := by
 intro wh pins s σ H Q I h
 refine isTrue_or (thn (ha pins s σ H Q I h) fun c s1 e => ?_)
 cases c with
 | false => exact isTrue_or_nil e
 | true => exact e
theorem q271 (ha : PT X a tA) (hb : PW X (.BoolOp .And (b :: rest) pos) tB') : PW X (.BoolOp .And (a :: b :: rest) pos) (tAnd tA tB') := by
 intro wh pins s σ H Q I h
 refine isTrue_and (thn (ha pins s σ H _ I h) fun c s1 ⟨H1, I1, q1⟩ => ?_)
 cases c with
 | true => exact hb wh pins s1 σ H1 Q I1 q1
 | false => exact ⟨H1, I1, q1⟩
theorem pw_or (ha : PT X a tA) (hb : PW X (.BoolOp .Or (b :: rest) pos) tB') : PW X (.BoolOp .Or (a :: b :: rest) pos) (tOr tA tB') := by
 intro wh pins s σ H Q I h
 refine isTrue_or (thn (ha pins s σ H _ I h) fun c s1 ⟨H1, I1, q1⟩ => ?_)
 cases c with
 | true => exact ⟨H1, I1, q1⟩
 | false => exact hb wh pins s1 σ H1 Q I1 q1
theorem q356 (ha : PT X a tA) : PT X (.UnaryOp .Not a pos) (tNot tA) := by
 intro pins s σ H Q I h
 exact isTrue_not (ha pins s σ H (fun c H1 => Q (!c) H1) I h)
def tIf (t : TT) (ta tb : TE) : TE := fun σ H Q => t σ H fun c H1 => if c = true then ta σ H1 Q else tb σ H1 Q
theorem q93 (hc : PT X c tA) (ha : PE X a ta) (hb : PE X b tb) : PE X (.IfExp c a b pos) (tIf tA ta tb) := by
 intro pins s σ H Q I h
 refine wpAny_IfExp (thn (hc pins s σ H _ I h) fun d s1 ⟨H1, I1, q1⟩ => ?_)
 cases d with
 | true => exact ha pins s1 σ H1 Q I1 q1
 | false => exact hb pins s1 σ H1 Q I1 q1
end
def SqL (K : Fg) (H : Hp) (a : Addr) (xs : List V) : Prop :=
 Rd H a (.lst xs) \/
  ∃ (o : Obj) (its : Array Value) (n : Nat), K.lookup a = some o /\ o.cls = .type "list" /\ o.dict = none /\ o.data = .seq its n /\ its.size <= sizeLine /\ Vals xs its.toList
def SqT (K : Fg) (H : Hp) (a : Addr) (xs : List V) : Prop :=
 Rd H a (.tup xs) \/
  ∃ (o : Obj) (its : Array Value) (n : Nat), K.lookup a = some o /\ o.cls = .type "tuple" /\ o.data = .seq its n /\ its.size <= sizeLine /\ Vals xs its.toList
def absV : Value -> Option V
 | .none => some .non
 | .bool b => some (.bl b)
 | .int i _ => some (.int i)
 | .str x _ => some (.str x)
 | .bytes b _ => some (.byt b)
 | .float b _ => some (.flt b)
 | .ref a => some (.ref a)
 | .type n => some (.ty n)
 | _ => none
theorem RelV.abs (r : RelV x u) : absV u = some x := by
 cases x with
 | non => cases r; rfl
 | bl _ => cases r; rfl
 | int _ => obtain ⟨t, rfl⟩ := r; rfl
 | str _ => obtain ⟨t, rfl⟩ := r; rfl
 | byt _ => obtain ⟨t, rfl⟩ := r; rfl
 | flt _ => obtain ⟨t, rfl⟩ := r; rfl
 | ref _ => cases r; rfl
 | ty _ => cases r; rfl
theorem RelV.inj (r : RelV x u) (q : RelV y u) : x = y := Option.some.inj (r.abs.symm.trans q.abs)
theorem Vals.inj : ∀ {xs ys : List V} {us : List Value}, Vals xs us -> Vals ys us -> xs = ys
 | _, _, _, .nil, .nil => rfl
 | _, _, _, .cons r t, .cons r' t' => by rw [r.inj r', Vals.inj t t']
section
variable {pins : List (Addr × Obj)} {σ : St} {H : Hp} {s : Shared} {a : Addr} {xs ys : List V}
theorem SqL.of {K : Fg} (h : H a = some (.lst xs)) : SqL K H a xs := .inl (.inl h)
theorem SqT.of {K : Fg} (h : H a = some (.tup xs)) : SqT K H a xs := .inl (.inl h)
theorem Inv.list (I : Inv X pins σ H s) (h : SqL X.K H a xs) : ∃ its : List Value, Vals xs its /\ PlainL s.heap a its.toArray /\ xs.length <= sizeLine := by
 rcases h with h | ⟨o, its, n, hk, hc, hd, hs, hz, r⟩
 ·obtain ⟨z, its, n, r, e⟩ := h.ok I.hok
  exact ⟨its, r, ⟨_, n, e, rfl, rfl, rfl⟩, z⟩
 ·refine ⟨its.toList, r, ⟨o, n, I.kIn a o hk, hc, hd, by simpa using hs⟩, ?_⟩
  have e := r.length
  simp only [Array.length_toList] at e
  omega
theorem Inv.tuple (I : Inv X pins σ H s) (h : SqT X.K H a xs) : ∃ its : List Value, Vals xs its /\ IsTup s.heap a its.toArray /\ xs.length <= sizeLine := by
 rcases h with h | ⟨o, its, n, hk, hc, hs, hz, r⟩
 ·obtain ⟨z, its, r, p⟩ := h.ok I.hok
  exact ⟨its, r, p, z⟩
 ·refine ⟨its.toList, r, ⟨o, I.kIn a o hk, hc, n, by simpa using hs⟩, ?_⟩
  have e := r.length
  simp only [Array.length_toList] at e
  omega
theorem Inv.list_inj (I : Inv X pins σ H s) (h : SqL X.K H a xs) (h' : SqL X.K H a ys) : xs = ys := by
 obtain ⟨its, r, ⟨o, n, e, _, _, d⟩, _⟩ := I.list h
 obtain ⟨its', r', ⟨o', n', e', _, _, d'⟩, _⟩ := I.list h'
 rw [e] at e'; cases e'
 rw [d] at d'
 injection d' with d1 _
 have : its = its' := by simpa using congrArg Array.toList d1
 subst this
 exact r.inj r'
theorem Inv.tuple_inj (I : Inv X pins σ H s) (h : SqT X.K H a xs) (h' : SqT X.K H a ys) : xs = ys := by
 obtain ⟨its, r, ⟨o, e, _, n, d⟩, _⟩ := I.tuple h
 obtain ⟨its', r', ⟨o', e', _, n', d'⟩, _⟩ := I.tuple h'
 rw [e] at e'; cases e'
 rw [d] at d'
 injection d' with d1 _
 have : its = its' := by simpa using congrArg Array.toList d1
 subst this
 exact r.inj r'
end
abbrev Cx.wish (X : Cx) (E : VS) : Cx := { X with xe := E }
abbrev Cx.nox (X : Cx) : Cx := X.wish fun _ _ => False
theorem Cx.Ok.wish {X : Cx} (ok : X.Ok) (E : VS) : (X.wish E).Ok :=
 ⟨ok.mod, ok.kind, ok.glob, ok.blt, ok.above, ok.inj, ok.has, ok.cab, ok.hd, ok.frames, ok.stk, ok.exf, ok.bs, ok.bsz, ok.noex, ok.exfs, ok.funs, ok.frf⟩
theorem Cx.Ok.unwish {X : Cx} (ok : (X.wish E).Ok) : X.Ok :=
 ⟨ok.mod, ok.kind, ok.glob, ok.blt, ok.above, ok.inj, ok.has, ok.cab, ok.hd, ok.frames, ok.stk, ok.exf, ok.bs, ok.bsz, ok.noex, ok.exfs, ok.funs, ok.frf⟩
section
variable {pins : List (Addr × Obj)} {σ : St} {H : Hp} {s : Shared} {E : VS}
theorem Inv.wish (I : Inv X pins σ H s) (E : VS) : Inv (X.wish E) pins σ H s := ⟨I.ok.wish E, I.os, I.bare, I.base, I.loc, I.cell, I.free, I.freeC, I.pin, I.hok, I.len⟩
theorem Inv.unwish (I : Inv (X.wish E) pins σ H s) : Inv X pins σ H s := ⟨I.ok.unwish, I.os, I.bare, I.base, I.loc, I.cell, I.free, I.freeC, I.pin, I.hok, I.len⟩
theorem SP.unwish (h : SP (X.wish E) pins D f s') : SP X pins D f s' := by
 cases f with
 | next => obtain ⟨σ', H', I, q⟩ := h; exact ⟨σ', H', I.unwish, q⟩
 | brk => obtain ⟨σ', H', I, q⟩ := h; exact ⟨σ', H', I.unwish, q⟩
 | cont => obtain ⟨σ', H', I, q⟩ := h; exact ⟨σ', H', I.unwish, q⟩
 | ret u => obtain ⟨v, σ', H', I, r, q⟩ := h; exact ⟨v, σ', H', I.unwish, r, q⟩
theorem PSs.nox {st : List Stmt} {t : TS} (h : PSs X.nox st t) : PSs X st t := fun pins s σ H D I hw =>
 wpAny_mono (h pins s σ H D (I.wish _) hw) (fun _ _ q => q.unwish) fun _ _ z => False.elim z
end
section
variable {st : Stmt} {rest : List Stmt} {t u : TS} {e : Expr} {te : TE} {pos : Pos}
def tNext : TS := fun D σ H => D.nx σ H
def tSeq (t u : TS) : TS := fun D σ H => t { D with nx := u D } σ H
theorem q20 : PSs X [] tNext := fun _ _ σ H _ I h => wpAny_execs_nil ⟨σ, H, I, h⟩
theorem q12 (h1 : PS X st t) (h2 : PSs X rest u) : PSs X (st :: rest) (tSeq t u) := by
 intro pins s σ H D I h
 refine wpAny_execs_cons (thn (h1 pins s σ H { D with nx := u D } I h) fun f s1 q => ?_)
 cases f with
 | next =>
  obtain ⟨σ', H', I', q⟩ := q
  exact h2 pins s1 σ' H' D I' q
 | ret v => exact q
 | brk => exact q
 | cont => exact q
theorem q15 (h1 : PS X st t) : PSs X [st] t := by
 intro pins s σ H D I h
 refine wpAny_execs_cons (thn (h1 pins s σ H D I h) fun f s1 q => ?_)
 cases f with
 | next => exact wpAny_execs_nil q
 | ret v => exact q
 | brk => exact q
 | cont => exact q
theorem Inv.quiet (I : Inv X pins σ H s) : interactive X.env = false := by simp [interactive, I.ok.kind]
def tDrop (te : TE) : TS := fun D σ H => te σ H fun _ H1 => D.nx σ H1
theorem q73 (he : PE X e te) (hs : swapsWith e none pos.line X.env = pure false := by rfl) : PS X (.Expr e pos) (tDrop te) := by
 intro pins s σ H D I h
 exact wpAny_Expr_any (thn (he pins s σ H _ I h) fun v s1 ⟨x, H1, I1, r1, q1⟩ => ⟨σ, H1, I1, q1⟩) I.quiet hs
def tRet (te : TE) : TS := fun D σ H => te σ H D.rt
theorem q19 (he : PE X e te) : PS X (.Return (some e) pos) (tRet te) := by
 intro pins s σ H D I h
 exact wpAny_Return_some (thn (he pins s σ H _ I h) fun v s1 ⟨x, H1, I1, r1, q1⟩ => ⟨x, σ, H1, I1, r1, q1⟩)
def tIfS (c : TT) (t u : TS) : TS := fun D σ H => c σ H fun b H1 => if b = true then t D σ H1 else u D σ H1
theorem ps_if (hc : PT X c tc) (ha : PSs X a t) (hb : PSs X b u) : PS X (.If c a b pos) (tIfS tc t u) := by
 intro pins s σ H D I h
 refine wpAny_If (thn (hc pins s σ H _ I h) fun d s1 ⟨H1, I1, q1⟩ => ?_)
 cases d with
 | true => exact ha pins s1 σ H1 D I1 q1
 | false => exact hb pins s1 σ H1 D I1 q1
def tNever : TS := fun _ _ _ => False
theorem q36 : PS X st tNever := fun _ _ _ _ _ _ h => h.elim
end
abbrev TG := V -> St -> Hp -> (St -> Hp -> Prop) -> Prop
abbrev TGs := List V -> St -> Hp -> (St -> Hp -> Prop) -> Prop
def PG (X : Cx) (target : Expr) (t : TG) : Prop :=
 ∀ (pins : List (Addr × Obj)) (s : Shared) (σ : St) (H : Hp) (v : V) (u : Value) (Q : St -> Hp -> Prop), Inv X pins σ H s -> RelV v u -> t v σ H Q ->
  wpAny (model X.prog X.w) X.A (assign target X.env u) (fun _ s' => ∃ σ' H', Inv X pins σ' H' s' /\ Q σ' H') X.xe s
def PGs (X : Cx) (ts : List Expr) (t : TGs) : Prop :=
 ∀ (pins : List (Addr × Obj)) (s : Shared) (σ : St) (H : Hp) (vs : List V) (us : List Value) (Q : St -> Hp -> Prop), Inv X pins σ H s -> Vals vs us -> t vs σ H Q ->
  wpAny (model X.prog X.w) X.A (assignInOrder ((assignEach ts X.env).map (·.2)) us) (fun _ s' => ∃ σ' H', Inv X pins σ' H' s' /\ Q σ' H') X.xe s
abbrev TSet := V -> V -> V -> Hp -> (Hp -> Prop) -> Prop
def PSet (X : Cx) (t : TSet) : Prop :=
 ∀ (pins : List (Addr × Obj)) (s : Shared) (σ : St) (H : Hp) (o i v : V) (ov iv u : Value) (Q : Hp -> Prop), Inv X pins σ H s -> RelV o ov -> RelV i iv -> RelV v u -> t o i v H Q ->
  wpAny (model X.prog X.w) X.A (setItem ov iv u) (fun _ s' => ∃ H', Inv X pins σ H' s' /\ Q H') X.xe s
section
variable {pos : Pos}
def gName (i : Nat) : TG := fun v σ H Q => Q (σ.set i (some v)) H
theorem q143 {i : Nat} (hN : X.N.Nodup) (hi : X.N[i]? = some x) (hx : Loc X.env.scope x) (hf : X.fn x = true \/ X.env.scope.names.lookup x = some .local := by first | exact .inl rfl | exact .inr rfl | assumption) : PG X (.Name x pos) (gName i) := by
 intro pins s σ H v u Q I r h
 exact wpAny_assign_Name (q196 I hN hi hx r (fun s' I' => ⟨_, H, I', h⟩) hf)
def gNil : TGs := fun vs σ H Q => vs = [] /\ Q σ H
def gCons (t : TG) (u : TGs) : TGs := fun vs σ H Q => ∃ v r, vs = v :: r /\ t v σ H fun σ' H' => u r σ' H' Q
theorem q115 : PGs X [] gNil := by
 intro pins s σ H vs us Q I r h
 obtain ⟨e, h⟩ := h
 subst e
 cases r
 exact assignInOrder_nil ⟨σ, H, I, h⟩
theorem q52 (h1 : PG X e t) (h2 : PGs X es u)
  (hs : (assignEach (e :: es) X.env).map (·.2) = assign e X.env :: (assignEach es X.env).map (·.2) := by rfl) : PGs X (e :: es) (gCons t u) := by
 intro pins s σ H vs us Q I r h
 obtain ⟨v, vr, e1, h⟩ := h
 subst e1
 cases r with
 | cons r rr =>
  rw [hs]
  refine assignInOrder_cons (thn (h1 pins s σ H _ _ _ I r h) fun _ s1 ⟨σ1, H1, I1, q1⟩ => ?_)
  exact h2 pins s1 σ1 H1 _ _ Q I1 rr q1
def gTup (K : Fg) (n : Nat) (t : TGs) : TG := fun v σ H Q => ∃ a xs, v = .ref a /\ SqT K H a xs /\ xs.length = n /\ t xs σ H Q
theorem q206 {k : Nat} {n : Nat} (hc : X.calm = true) (h : PGs X es t)
  (hn : (assignEach es X.env).length = n := by rfl) (hst : (assignEach es X.env).findIdx? (·.1) = none := by rfl) : PG X (.Tuple es k pos) (gTup X.K n t) := by
 intro pins s σ H v u Q I r hw
 obtain ⟨a, xs, e1, hq, hl, hw⟩ := hw
 subst e1
 cases r
 obtain ⟨its, rv, ht, hz⟩ := I.tuple hq
 refine assign_Tuple_tuple (I.ok.hd hc) ht (by simp [hn, <- hl, rv.length]) hst fun h' hx => ?_
 have I1 : Inv X pins σ H { s with heap := h' } := I.kept (t' := s.toks) fun b o e => hx b o (Nat.ne_of_lt (Heap.lt_size e)) e
 exact h pins _ σ H xs _ Q I1 (by simpa using rv) hw
def gSub (to ti : TE) (t : TSet) : TG := fun v σ H Q => to σ H fun o H1 => ti σ H1 fun i H2 => t o i v H2 fun H3 => Q σ H3
theorem q589 (ho : PE X o to) (hi : PE X i ti) (hs : PSet X t)
  (ha : ∀ v, assign (.Subscript o i pos) X.env v = (do
   let ov <- holding [v] (eval o X.env)
   let iv <- holding [v, ov] (eval i X.env)
   standAt pos
   holding [v, ov, iv] (setItem ov iv v)
   release [v, ov, iv] []) := by intro _; rfl) : PG X (.Subscript o i pos) (gSub to ti t) := by
 intro pins s σ H v u Q I r h
 rw [ha]
 refine wpAny_bind (wpAny_holding (thn (ho pins s σ H _ I h) fun ov s1 ⟨x, H1, I1, r1, q1⟩ => ?_))
 refine wpAny_bind (wpAny_holding (thn (hi pins s1 σ H1 _ I1 q1) fun iv s2 ⟨y, H2, I2, r2, q2⟩ => ?_))
 refine wpAny_bind (wpAny_standAt (wpAny_bind (wpAny_holding (thn (hs pins s2 σ H2 x y v ov iv u _ I2 r1 r2 r q2) fun _ s3 ⟨H3, I3, q3⟩ => ?_))))
 exact wpAny_release ⟨σ, H3, I3, q3⟩
def tAsg (te : TE) (g : TG) : TS := fun D σ H => te σ H fun x H1 => g x σ H1 D.nx
theorem q272 (he : PE X e te) (hg : PG X tg g) (hs : swapsWithSole [tg] e pos.line X.env = pure false := by rfl) (hw : swappedStores [tg] e X.env = pure none := by rfl)
  (h1 : (assignEach [tg] X.env).map (·.2) = [assign tg X.env] := by rfl) : PS X (.Assign [tg] e pos) (tAsg te g) := by
 intro pins s σ H D I h
 refine wpAny_Assign_stores (thn (he pins s σ H _ I h) fun v s1 ⟨x, H1, I1, r1, q1⟩ => ?_) hs hw
 rw [h1]
 exact thn (hg pins s1 σ H1 x v _ I1 r1 q1) fun _ s2 q => q
theorem ps_set {i : Nat} (hN : X.N.Nodup) (hi : X.N[i]? = some x) (hx : Loc X.env.scope x) (he : PE X e te) (hs : swapsWith e (some (.Name x pos')) pos.line X.env = pure false := by rfl) (hf : X.fn x = true \/ X.env.scope.names.lookup x = some .local := by first | exact .inl rfl | exact .inr rfl | assumption) :
  PS X (.Assign [.Name x pos'] e pos) (tAsg te (gName i)) := by
 intro pins s σ H D I h
 refine wpAny_Assign_Name (thn (he pins s σ H _ I h) fun v s1 ⟨y, H1, I1, r1, q1⟩ => ?_) hs
 exact q196 I1 hN hi hx r1 (fun s2 I2 => ⟨_, H1, I2, q1⟩) hf
def tPar (i j : Nat) (ta : TA) : TS := fun D σ H => ta σ H fun vs H1 => ∃ v w, vs = [v, w] /\ D.nx ((σ.set i (some v)).set j (some w)) H1
theorem ps_par {i j : Nat} {kt k2 pt2} (hc : X.calm = true) (hN : X.N.Nodup) (hi : X.N[i]? = some x) (hj : X.N[j]? = some y) (hij : i ≠ j)
  (hx : X.env.scope.names.lookup x = some .local) (hy : X.env.scope.names.lookup y = some .local) (ha : PA X [a, b] ta)
  (hw : swappedStores [.Tuple [.Name x px, .Name y py] kt pt] (.Tuple [a, b] k2 pt2) X.env = pure (some [x, y]))
  (hs : swapsWithSole [.Tuple [.Name x px, .Name y py] kt pt] (.Tuple [a, b] k2 pt2) pos.line X.env = pure false := by rfl) :
  PS X (.Assign [.Tuple [.Name x px, .Name y py] kt pt] (.Tuple [a, b] k2 pt2) pos) (tPar i j ta) := by
 intro pins s σ H D I h
 rw [exec_Assign_arm]
 refine wpAny_bind (wpAny_standAt ?_)
 rw [hs]
 refine wpAny_bind (wpAny_pure ?_)
 rw [if_neg (by decide)]
 refine wpAny_bind (Tuple_ (thn (ha _ pins s σ H _ I h) fun us s1 ⟨vs, H1, I1, r1, q1⟩ => ?_))
 obtain ⟨v, w, e1, q1⟩ := q1
 subst e1
 obtain ⟨u1, u2, rfl, rv, rw'⟩ : ∃ u1 u2, us = [u1, u2] /\ RelV v u1 /\ RelV w u2 := by
  cases r1 with
  | cons p q =>
   cases q with
   | cons p' q' =>
    cases q'
    exact ⟨_, _, rfl, p, p'⟩
 refine wpAny_newObj_type ?_ (by show 2 <= sizeLine; decide)
 have I2 : Inv X pins σ H1 { s1 with heap := s1.heap.push { cls := .type "tuple", data := .seq [u1, u2].toArray } } := I1.kept (t' := s1.toks) fun b o e => Heap.get?_push_of_some _ e
 rw [hw]
 refine wpAny_bind (wpAny_pure ?_)
 show wpAny (model X.prog X.w) X.A (do rule "assign.swapped-stores"; let items <- unpackItems (.ref s1.heap.objs.size) 2 none; assignInOrder [fun v => bindName X.env y v, fun v => bindName X.env x v] items.reverse; pure Flow.next) _ _ _
 refine wpAny_bind (wpAny_rule (wpAny_bind (unpackItems_tuple (items := #[u1, u2]) (I.ok.hd hc) (IsTup.new s1.heap _) fun h' hx' => ?_)))
 have I3 := I2.kept (h' := h') (t' := s1.toks) fun b o e => hx' b o (Nat.ne_of_lt (Heap.lt_size e)) e
 show wpAny _ _ (assignInOrder [fun v => bindName X.env y v, fun v => bindName X.env x v] [u2, u1] >>= fun _ => pure Flow.next) _ _ _
 refine wpAny_bind (assignInOrder_cons (wpAny_bindName (q196 I3 hN hj (.inl hy) rw' (fun s2 I4 => ?_) (.inr hy))))
 refine assignInOrder_cons (wpAny_bindName (q196 I4 hN hi (.inl hx) rv (fun s3 I5 => assignInOrder_nil (wpAny_pure ?_)) (.inr hx)))
 rw [List.set_comm _ _ (Ne.symm hij)] at I5
 exact ⟨_, H1, I5, q1⟩
end
section
variable {pos : Pos}
def tWhile (c : TT) (tb : TS) : TS := fun D σ H => ∃ W : Nat -> St -> Hp -> Prop, (∃ m, W m σ H) /\ ∀ m σ H, W m σ H ->
 c σ H fun b H1 => if b = true then ∃ N : St -> Hp -> Prop, (∀ σ' H', N σ' H' -> ∃ m', m' < m /\ W m' σ' H') /\ tb { D with nx := N, ct := N, bk := D.nx } σ H1 else D.nx σ H1
theorem q487 (hp : PassesOwn (model X.prog X.w) X.A X.env X.xe) (hc : PT X c tc) (hb : PSs X body tb) : PS X (.While c body [] pos) (tWhile tc tb) := by
 intro pins s σ H D I h
 obtain ⟨W, ⟨m0, w0⟩, turn⟩ := h
 refine wpAny_While (codeAny_whileLoop (fun n s' => ∃ σ' H', Inv X pins σ' H' s' /\ W n σ' H') ?_ m0 ⟨σ, H, I, w0⟩)
 rintro n s1 ⟨σ1, H1, I1, w1⟩
 refine wpAny_passesOwn hp (thn (hc pins s1 σ1 H1 _ I1 (turn n σ1 H1 w1)) fun b s2 ⟨H2, I2, q2⟩ => ?_)
 cases b with
 | true =>
  obtain ⟨N, hN, q2⟩ := q2
  rw [if_pos rfl]
  refine wpAny_passesOwn hp (thn (hb pins s2 σ1 H2 _ I2 q2) fun f s3 q3 => ?_)
  cases f with
  | next =>
   obtain ⟨σ3, H3, I3, n3⟩ := q3
   obtain ⟨m', hm, w3⟩ := hN σ3 H3 n3
   exact ⟨m', hm, σ3, H3, I3, w3⟩
  | cont =>
   obtain ⟨σ3, H3, I3, n3⟩ := q3
   obtain ⟨m', hm, w3⟩ := hN σ3 H3 n3
   exact ⟨m', hm, σ3, H3, I3, w3⟩
  | brk => exact q3
  | ret v => exact q3
 | false =>
  rw [if_neg fnt]
  exact wpAny_execs_nil ⟨σ1, H2, I2, q2⟩
end
structure It where
 go : Nat -> Hp -> Prop
 yld : Nat -> Hp -> V -> Hp -> Prop
 stop : Nat -> Hp -> Prop
def FpOk (X : Cx) (pins : List (Addr × Obj)) (H : Hp) (b : Addr) : Prop :=
 H b = none /\ b ≠ X.env.locals /\ b ∉ X.fs /\ (b ∈ X.ex \/ X.s₀.heap.objs.size <= b) /\ (∀ x c, X.env.cells.lookup x = some c -> c ≠ b) /\ ∀ p ∈ X.pn ++ pins, p.1 ≠ b
theorem Inv.fpOk {s : Shared} (I : Inv X pins σ H s) (hb : s.heap.objs.size <= b) (hn : H' b = none) : FpOk X pins H' b := by
 refine ⟨hn, Nat.ne_of_gt (Nat.lt_of_lt_of_le I.lt hb), I.nofs hb, .inr (Nat.le_trans I.sz hb), fun x c e z => ?_, fun p hp z => ?_⟩
 ·obtain ⟨v, q⟩ := I.cell x c e
  exact absurd (Nat.lt_of_lt_of_le q.lt (by rw [z]; exact hb)) (Nat.lt_irrefl _)
 ·exact absurd (Nat.lt_of_lt_of_le (Heap.lt_size (I.pin p hp).1) (by rw [z]; exact hb)) (Nat.lt_irrefl _)
structure Turn (P : Program) (w : World) (K : Fg) (tg : Expr) (J : It) (fp : List Addr) (it : Addr) (tn : Nat -> Heap -> Prop) : Prop where
 mem : it ∈ fp
 obj : ∀ i h, tn i h -> ∀ b ∈ fp, ∃ o, h.get? b = some o /\ ∀ v, o.data ≠ .cell v
 keep : ∀ i h h', tn i h -> (∀ b ∈ fp, ∀ o, h.get? b = some o -> h'.get? b = some o) -> tn i h'
 item : ∀ (X : Cx), X.prog = P -> X.w = w -> X.K = K -> X.calm = true -> ∀ (i : Nat) (pins : List (Addr × Obj)) (s : Shared) (σ : St) (H : Hp) (E : VS), Inv X pins σ H s -> (∀ b ∈ fp, FpOk X pins H b) -> tn i s.heap -> J.go i H ->
  wpAny (model P w) X.A (pyNext (.ref it)) (fun r s1 => ∃ u, r = some u /\
   wpAny (model P w) X.A (letOwnedTupleGo tg (.ref it) u) (fun _ s2 => ∃ x H', Inv X pins σ H' s2 /\ RelV x u /\ J.yld i H x H' /\ tn (i + 1) s2.heap /\ ∀ b ∈ fp, H' b = none) E s1) E s
 done : ∀ (X : Cx), X.prog = P -> X.w = w -> X.K = K -> X.calm = true -> ∀ (i : Nat) (pins : List (Addr × Obj)) (s : Shared) (σ : St) (H : Hp) (E : VS), Inv X pins σ H s -> (∀ b ∈ fp, FpOk X pins H b) -> tn i s.heap -> J.stop i H ->
  wpAny (model P w) X.A (pyNext (.ref it)) (fun r s1 => r = none /\ Inv X pins σ H s1) E s
 self : ∀ (A : Around) (i : Nat) (s : Shared) (Q : VS) (E : VS), tn i s.heap -> Q (.ref it) s -> wpAny (model P w) A (pyIter (.ref it)) Q E s
abbrev TI := St -> Hp -> (It -> Hp -> Prop) -> Prop
def PIE (X : Cx) (pins : List (Addr × Obj)) (σ : St) (tg : Expr) (R : It -> Hp -> Prop) (itv : Value) (s2 : Shared) : Prop :=
 ∃ (it : Addr) (fp : List Addr) (tn : Nat -> Heap -> Prop) (J : It) (H' : Hp), itv = .ref it /\ Inv X pins σ H' s2 /\ Turn X.prog X.w X.K tg J fp it tn /\ tn 0 s2.heap /\ (∀ b ∈ fp, FpOk X pins H' b) /\ R J H'
def PI (X : Cx) (tg iter : Expr) (wi : TI) : Prop :=
 ∀ (pins : List (Addr × Obj)) (s : Shared) (σ : St) (H : Hp) (R : It -> Hp -> Prop), Inv X pins σ H s -> wi σ H R ->
  wpAny (model X.prog X.w) X.A (eval iter X.env) (fun v s1 => wpAny (model X.prog X.w) X.A (pyIter v) (PIE X pins σ tg R) X.xe s1) X.xe s
theorem go_of {s : Shared} {o : Obj} (ho : s.heap.get? it = some o) (hc : o.cls = .type n) (hd : o.data = .fields vs)
  (hn : ["enumerate", "zip", "dict_itemiterator", "dict_reverseitemiterator", "odict_iterator", "itertools.zip_longest", "itertools.pairwise"].contains n = false) (hQ : Q () s) : wpAny M A (letOwnedTupleGo tg (.ref it) u) Q E s := by
 unfold letOwnedTupleGo
 cases tg <;> first
  | exact wpAny_pure hQ
  | (cases u <;> first
    | exact wpAny_pure hQ
    | (refine wpAny_bind (wpAny_load ho ?_)
       rw [hc, hd]
       show wpAny M A (if (["enumerate", "zip", "dict_itemiterator", "dict_reverseitemiterator", "odict_iterator", "itertools.zip_longest", "itertools.pairwise"].contains n && vs[0]? == some (rawInt _)) = true then _ else _) Q E s
       rw [if_neg (by intro h; rw [hn, Bool.false_and] at h; cases h)]
       exact wpAny_pure hQ))
def Itl (K : Fg) (a : Addr) : It :=
 ⟨fun i H => ∃ xs x, SqL K H a xs /\ xs[i]? = some x, fun i H x H' => H' = H /\ ∀ xs, SqL K H a xs -> xs[i]? = some x, fun i H => ∃ xs, SqL K H a xs /\ xs.length <= i⟩
def Itt (K : Fg) (a : Addr) : It :=
 ⟨fun i H => ∃ xs x, SqT K H a xs /\ xs[i]? = some x, fun i H x H' => H' = H /\ ∀ xs, SqT K H a xs -> xs[i]? = some x, fun i H => ∃ xs, SqT K H a xs /\ xs.length <= i⟩
def Itr (lo : Int) (n : Nat) : It := ⟨fun i _ => i < n, fun i H x H' => H' = H /\ x = .int (lo + i), fun i _ => n <= i⟩
theorem q357 {P : Program} {w : World} {K : Fg} {tg : Expr} (a it : Addr) : Turn P w K tg (Itl K a) [it] it (fun i h => h.IsListIter it a i) where
 mem := by simp
 obj := fun i h st b hb => by
  have e : b = it := by simpa using hb
  subst e
  obtain ⟨o, e, c, d⟩ := st
  exact ⟨o, e, fun v z => by rw [d] at z; cases z⟩
 keep := fun i h h' st k => st.at fun o e => k it (by simp) o e
 item := by
  intro X hP hw hK hc i pins s σ H E I hf st hg
  subst hP hw hK
  obtain ⟨xs, x, hq, hx⟩ := hg
  obtain ⟨its, rv, p, hz⟩ := I.list hq
  obtain ⟨u, hu, ru⟩ := rv.get hx
  obtain ⟨f0, f1, f2, f3, f4, f5⟩ := hf it (by simp)
  refine wpAny_pyNext_list_item st p.isList (x := u) (by simpa using hu) fun h' st' sb => ?_
  have I1 : Inv X pins σ H { s with heap := h' } := I.turned (t' := s.toks) (fun b o hb e => (sb.2 b hb).trans e) f0 f1 f3 f4 f5
  obtain ⟨o, e, c, d⟩ := id st'
  exact ⟨u, rfl, go_of (s := { s with heap := h' }) e c d (by decide) ⟨x, H, I1, ru, ⟨rfl, fun ys hy => by rw [I.list_inj hy hq]; exact hx⟩, st', fun b hb => (hf b hb).1⟩⟩
 done := by
  intro X hP hw hK hc i pins s σ H E I hf st hg
  subst hP hw hK
  obtain ⟨xs, hq, hx⟩ := hg
  obtain ⟨its, rv, p, hz⟩ := I.list hq
  obtain ⟨f0, f1, f2, f3, f4, f5⟩ := hf it (by simp)
  have hl := rv.length
  exact wpAny_pyNext_list_end (I.ok.hd hc) st p.isList (by simp; omega) fun h' eb => ⟨rfl, I.turned (t' := s.toks) (fun b o hb e => eb b o hb e) f0 f1 f3 f4 f5⟩
 self := fun _ _ _ _ _ st h => wpAny_pyIter_listiter st h
theorem q273 {P : Program} {w : World} {K : Fg} {tg : Expr} (a it : Addr) : Turn P w K tg (Itt K a) [it] it (fun i h => h.IsTupleIter it a i) where
 mem := by simp
 obj := fun i h st b hb => by
  have e : b = it := by simpa using hb
  subst e
  obtain ⟨o, e, c, d⟩ := st
  exact ⟨o, e, fun v z => by rw [d] at z; cases z⟩
 keep := fun i h h' st k => st.at fun o e => k it (by simp) o e
 item := by
  intro X hP hw hK hc i pins s σ H E I hf st hg
  subst hP hw hK
  obtain ⟨xs, x, hq, hx⟩ := hg
  obtain ⟨its, rv, p, hz⟩ := I.tuple hq
  obtain ⟨u, hu, ru⟩ := rv.get hx
  obtain ⟨f0, f1, f2, f3, f4, f5⟩ := hf it (by simp)
  refine wpAny_pyNext_tuple_item st (show s.heap.IsTuple a its.toArray from p) (x := u) (by simpa using hu) fun h' st' sb => ?_
  have I1 : Inv X pins σ H { s with heap := h' } := I.turned (t' := s.toks) (fun b o hb e => (sb.2 b hb).trans e) f0 f1 f3 f4 f5
  obtain ⟨o, e, c, d⟩ := id st'
  exact ⟨u, rfl, go_of (s := { s with heap := h' }) e c d (by decide) ⟨x, H, I1, ru, ⟨rfl, fun ys hy => by rw [I.tuple_inj hy hq]; exact hx⟩, st', fun b hb => (hf b hb).1⟩⟩
 done := by
  intro X hP hw hK hc i pins s σ H E I hf st hg
  subst hP hw hK
  obtain ⟨xs, hq, hx⟩ := hg
  obtain ⟨its, rv, p, hz⟩ := I.tuple hq
  obtain ⟨f0, f1, f2, f3, f4, f5⟩ := hf it (by simp)
  have hl := rv.length
  exact wpAny_pyNext_tuple_end (I.ok.hd hc) st (show s.heap.IsTuple a its.toArray from p) (by simp; omega) fun h' eb => ⟨rfl, I.turned (t' := s.toks) (fun b o hb e => eb b o hb e) f0 f1 f3 f4 f5⟩
 self := fun _ _ _ _ _ st h => wpAny_pyIter_tupleiter st h
theorem q535 {P : Program} {w : World} {K : Fg} {tg : Expr} (it : Addr) (lo : Int) (n : Nat) : Turn P w K tg (Itr lo n) [it] it (fun i h => IsRangeIter h it (lo + (i : Nat) * 1) ((n : Int) - (i : Nat)) 1) where
 mem := by simp
 obj := fun i h st b hb => by
  have e : b = it := by simpa using hb
  subst e
  exact ⟨_, st, fun v z => by
   have z' : Data.fields _ = Data.cell v := z
   cases z'⟩
 keep := fun i h h' st k => k it (by simp) _ st
 item := by
  intro X hP hw hK hc i pins s σ H E I hf st hg
  subst hP hw hK
  obtain ⟨f0, f1, f2, f3, f4, f5⟩ := hf it (by simp)
  have W := Walks.range (prog := X.prog) (w := X.w) (I.ok.hd hc) it lo 1 n
  refine W.item i s _ _ hg st fun v h' tk hv st' kk => ?_
  obtain ⟨t, rfl⟩ := hv
  have I1 : Inv X pins σ H { s with heap := h', toks := tk } := I.turned (fun b o hb e => kk b o (by simpa using hb) e) f0 f1 f3 f4 f5
  refine ⟨_, rfl, go_of (s := { s with heap := h', toks := tk }) (n := "range_iterator") st' rfl rfl (by decide) ⟨.int (lo + i), H, I1, ⟨t, ?_⟩, ⟨rfl, rfl⟩, st', fun b hb => (hf b hb).1⟩⟩
  rw [Int.mul_one]
 done := by
  intro X hP hw hK hc i pins s σ H E I hf st hg
  subst hP hw hK
  obtain ⟨f0, f1, f2, f3, f4, f5⟩ := hf it (by simp)
  exact wpAny_pyNext_range_end (I.ok.hd hc) st (by have : n <= i := hg; omega) fun h' eb => ⟨rfl, I.turned (t' := s.toks) (fun b o hb e => eb b o hb e) f0 f1 f3 f4 f5⟩
 self := fun _ _ _ _ _ st h => wpAny_pyIter_rangeiter st h
section
variable {tg : Expr}
def iList (K : Fg) (tl : TE) : TI := fun σ H R => tl σ H fun x H1 => ∃ a, x = .ref a /\ (∃ xs, SqL K H1 a xs) /\ R (Itl K a) H1
def iTup (K : Fg) (tl : TE) : TI := fun σ H R => tl σ H fun x H1 => ∃ a, x = .ref a /\ (∃ xs, SqT K H1 a xs) /\ R (Itt K a) H1
theorem q46 {l : Expr} {tl : TE} (hl : PE X l tl) : PI X tg l (iList X.K tl) := by
 intro pins s σ H R I h
 refine thn (hl pins s σ H _ I h) fun v s1 ⟨x, H1, I1, r1, q1⟩ => ?_
 obtain ⟨a, e, ⟨xs, hq⟩, q⟩ := q1
 subst e
 cases r1
 obtain ⟨its, rv, p, hz⟩ := I1.list hq
 refine wpAny_pyIter_list p.isList ?_
 refine ⟨s1.heap.objs.size, [s1.heap.objs.size], _, _, H1, rfl, I1.kept (t' := s1.toks) fun b o e => Heap.get?_push_of_some _ e, q357 a _, ⟨_, Heap.get?_push_size _ rfl, rfl, rfl⟩, fun b hb => ?_, q⟩
 have e : b = s1.heap.objs.size := by simpa using hb
 subst e
 exact I1.fpOk (Nat.le_refl _) (I1.hok.fresh (Nat.le_refl _))
theorem q274 {l : Expr} {tl : TE} (hl : PE X l tl) : PI X tg l (iTup X.K tl) := by
 intro pins s σ H R I h
 refine thn (hl pins s σ H _ I h) fun v s1 ⟨x, H1, I1, r1, q1⟩ => ?_
 obtain ⟨a, e, ⟨xs, hq⟩, q⟩ := q1
 subst e
 cases r1
 obtain ⟨its, rv, p, hz⟩ := I1.tuple hq
 refine wpAny_pyIter_tuple (show s1.heap.IsTuple a its.toArray from p) ?_
 refine ⟨s1.heap.objs.size, [s1.heap.objs.size], _, _, H1, rfl, I1.kept (t' := s1.toks) fun b o e => Heap.get?_push_of_some _ e, q273 a _, ⟨_, Heap.get?_push_size _ rfl, rfl, rfl⟩, fun b hb => ?_, q⟩
 have e : b = s1.heap.objs.size := by simpa using hb
 subst e
 exact I1.fpOk (Nat.le_refl _) (I1.hok.fresh (Nat.le_refl _))
theorem q488 {s : Shared} {lo hi : Int} {t u v : Tok} {tk : Nat} (I : Inv X pins σ H s) (h1 : -(2 ^ 62) <= lo) (h2 : lo < 2 ^ 62) (h3 : -(2 ^ 62) <= hi) (h4 : hi < 2 ^ 62)
  (q : R (Itr lo (hi - lo).toNat) H) : wpAny (model X.prog X.w) X.A (pyIter (.ref s.heap.objs.size)) (PIE X pins σ tg R) E { s with heap := s.heap.push { cls := .type "range", data := .fields #[.int lo t, .int hi u, .int 1 v] }, toks := tk } := by
 refine wpAny_pyIter_range (IsRange.new ..) (small_one h1 h2 h3 h4) ?_
 have I1 : Inv X pins σ H { s with heap := s.heap.push { cls := .type "range", data := .fields #[.int lo t, .int hi u, .int 1 v] }, toks := tk } := I.kept fun b o e => Heap.get?_push_of_some _ e
 refine ⟨(s.heap.push { cls := .type "range", data := .fields #[.int lo t, .int hi u, .int 1 v] }).objs.size, [(s.heap.push { cls := .type "range", data := .fields #[.int lo t, .int hi u, .int 1 v] }).objs.size], _, _, H, rfl,
  I1.kept (t' := tk) fun b o e => Heap.get?_push_of_some _ e, q535 _ lo (hi - lo).toNat, ?_, fun b hb => ?_, q⟩
 ·have e1 : lo + ((0 : Nat) : Int) * 1 = lo := by simp
  have e2 : (((hi - lo).toNat : Nat) : Int) - ((0 : Nat) : Int) = Builtin.Range.rangeSize lo hi 1 := by rw [rangeSize_one]; split <;> omega
  show IsRangeIter _ _ (lo + ((0 : Nat) : Int) * 1) ((((hi - lo).toNat : Nat) : Int) - ((0 : Nat) : Int)) 1
  rw [e1, e2]
  exact Heap.get?_push_size _ rfl
 ·have e : b = (s.heap.push { cls := .type "range", data := .fields #[.int lo t, .int hi u, .int 1 v] }).objs.size := by simpa using hb
  subst e
  exact I1.fpOk (Nat.le_refl _) (I1.hok.fresh (Nat.le_refl _))
def iRng1 (ta : TA) : TI := fun σ H R => ta σ H fun vs H1 => ∃ j : Int, vs = [.int j] /\ -(2 ^ 62) <= j /\ j < 2 ^ 62 /\ R (Itr 0 j.toNat) H1
def iRng2 (ta : TA) : TI := fun σ H R => ta σ H fun vs H1 => ∃ i j : Int, vs = [.int i, .int j] /\ (-(2 ^ 62) <= i /\ i < 2 ^ 62 /\ -(2 ^ 62) <= j /\ j < 2 ^ 62) /\ R (Itr i (j - i).toNat) H1
theorem q86 {p pos : Pos} (hg : Gl X "range") (hm : X.mg "range" = none) (ha : PA X [a] ta) (hs : starEach [a] X.env = [(false, eval a X.env)] := by rfl) : PI X tg (.Call (.Name "range" p) [a] [] pos) (iRng1 ta) := by
 intro pins s σ H R I h
 refine Call_ (q150 I hg hm boot_range (PyProof.Rows.callWith_type1 (thn (ha pos pins s σ H _ I h) fun us s1 ⟨vs, H1, I1, r1, q1⟩ => ?_) hs rfl))
 obtain ⟨j, e, q1, q2, q⟩ := q1
 subst e
 cases r1 with
 | cons r rr =>
  cases rr
  obtain ⟨t, rfl⟩ := r
  exact call_range_1 (q488 I1 (by omega) (by omega) q1 q2 (by simpa using q))
theorem q590 {p pos : Pos} (hg : Gl X "range") (hm : X.mg "range" = none) (ha : PA X [a, b] ta) (hs : starEach [a, b] X.env = [(false, eval a X.env), (false, eval b X.env)] := by rfl) (hs2 : starEach [b] X.env = [(false, eval b X.env)] := by rfl) :
  PI X tg (.Call (.Name "range" p) [a, b] [] pos) (iRng2 ta) := by
 intro pins s σ H R I h
 refine Call_ (q150 I hg hm boot_range (PyProof.Rows.callWith_type1 (thn (ha pos pins s σ H _ I h) fun us s1 ⟨vs, H1, I1, r1, q1⟩ => ?_) (by rw [hs, hs2]) (by rw [hs2]; rfl)))
 obtain ⟨i, j, e, ⟨q1, q2, q3, q4⟩, q⟩ := q1
 subst e
 cases r1 with
 | cons r rr =>
  cases rr with
  | cons r' rr =>
   cases rr
   obtain ⟨t, rfl⟩ := r
   obtain ⟨t', rfl⟩ := r'
   exact call_range_2 (q488 I1 q1 q2 q3 q4 q)
def tFor (wi : TI) (g : TG) (tb : TS) : TS := fun D σ H => wi σ H fun J H1 => ∃ W : Nat -> Nat -> St -> Hp -> Prop, (∃ m, W 0 m σ H1) /\ ∀ i m σ H, W i m σ H ->
 (J.stop i H /\ D.nx σ H) \/ (J.go i H /\ ∃ N : St -> Hp -> Prop, (∀ σ' H', N σ' H' -> ∃ m', m' < m /\ W (i + 1) m' σ' H') /\ ∀ x H', J.yld i H x H' -> g x σ H' fun σ2 H2 => tb { D with nx := N, ct := N, bk := D.nx } σ2 H2)
def q489 (fp : List Addr) (h : Heap) : List (Addr × Obj) := fp.filterMap fun b => (h.get? b).map fun o => (b, o)
theorem q83 {h : Heap} (hb : b ∈ fp) (e : h.get? b = some o) : (b, o) ∈ q489 fp h := List.mem_filterMap.mpr ⟨b, hb, by rw [e]; rfl⟩
theorem q591 {h : Heap} {p : Addr × Obj} (hp : p ∈ q489 fp h) : p.1 ∈ fp /\ h.get? p.1 = some p.2 := by
 obtain ⟨b, hb, e⟩ := List.mem_filterMap.mp hp
 cases q : h.get? b with
 | none => rw [q] at e; cases e
 | some o =>
  rw [q] at e
  have e' : (b, o) = p := Option.some.inj e
  subst e'
  exact ⟨hb, q⟩
theorem Inv.pinned {s : Shared} (I : Inv X pins σ H s) (hf : ∀ b ∈ fp, FpOk X pins H b) (ho : ∀ b ∈ fp, ∃ o, s.heap.get? b = some o /\ ∀ v, o.data ≠ .cell v) : Inv X (pins ++ q489 fp s.heap) σ H s :=
 I.pins_of fun p hp => (List.mem_append.mp hp).elim (fun z => I.pin p (List.mem_append_right _ z)) fun z => by
  obtain ⟨hb, e⟩ := q591 z
  obtain ⟨f0, f1, f2, _⟩ := hf p.1 hb
  obtain ⟨o, e', d⟩ := ho p.1 hb
  rw [e] at e'; cases e'
  exact ⟨e, f0, f1, f2, d⟩
theorem Inv.unpinned (I : Inv X (pins ++ pl) σ H s) : Inv X pins σ H s := I.pins_of fun p hp => I.pin p (List.mem_append_right _ (List.mem_append_left _ hp))
theorem q81 {pos : Pos} (hp : PassesOwn (model X.prog X.w) X.A X.env X.xe) (hc : X.calm = true) (hi : PI X tg iter wi) (hg : PG X tg g) (hb : PSs X body tb)
  (hs : ∀ x, foldedSetIterable iter X.env x = pure x := by intro _; rfl) : PS X (.For tg iter body [] pos) (tFor wi g tb) := by
 intro pins s σ H D I h
 refine wpAny_For (thn (hi pins s σ H _ I h) fun v s1 h1 => thn h1 fun itv s2 h2 => ?_) hs
 obtain ⟨it, fp, tn, J, H2, e, I2, T, st2, f2, W, ⟨m0, w0⟩, turn⟩ := h2
 subst e
 have stat : ∀ {H' : Hp}, (∀ b ∈ fp, H' b = none) -> ∀ b ∈ fp, FpOk X pins H' b := fun hn b hb => ⟨hn b hb, (f2 b hb).2⟩
 refine codeAny_forLoop_any (fun n s' => ∃ i σ' H', Inv X pins σ' H' s' /\ tn i s'.heap /\ (∀ b ∈ fp, H' b = none) /\ W i n σ' H') ?_ m0 ⟨0, σ, H2, I2, st2, fun b hb => (f2 b hb).1, w0⟩
 rintro n s3 ⟨i, σ3, H3, I3, st3, fr3, w3⟩
 rcases turn i n σ3 H3 w3 with ⟨stop, qn⟩ | ⟨go, N, hN, step⟩
 ·refine wpAny_passesOwn hp (thn (T.done X rfl rfl rfl hc i pins s3 σ3 H3 X.xe I3 (stat fr3) st3 stop) fun r s4 ⟨hr, I4⟩ => ?_)
  subst hr
  exact wpAny_execs_nil ⟨σ3, H3, I4, qn⟩
 ·refine wpAny_passesOwn hp (thn (T.item X rfl rfl rfl hc i pins s3 σ3 H3 X.xe I3 (stat fr3) st3 go) fun r s4 ⟨u, hr, h4⟩ => ?_)
  subst hr
  refine wpAny_passesOwn hp (thn h4 fun _ s5 ⟨x, H5, I5, r5, y5, st5, fr5⟩ => ?_)
  have I5' := I5.pinned (stat fr5) (T.obj _ _ st5)
  refine wpAny_passesOwn hp (thn (hg _ s5 σ3 H5 x u _ I5' r5 (step x H5 y5)) fun _ s6 ⟨σ6, H6, I6, q6⟩ => ?_)
  refine wpAny_passesOwn hp (thn (hb _ s6 σ6 H6 _ I6 q6) fun f s7 q7 => ?_)
  have again : ∀ {σ7 : St} {H7 : Hp}, Inv X (pins ++ q489 fp s5.heap) σ7 H7 s7 -> N σ7 H7 -> ∃ m, m < n /\ ∃ i σ' H', Inv X pins σ' H' s7 /\ tn i s7.heap /\ (∀ b ∈ fp, H' b = none) /\ W i m σ' H' := fun {σ7 H7} I7 n7 => by
   obtain ⟨m', hm, w7⟩ := hN σ7 H7 n7
   refine ⟨m', hm, i + 1, σ7, H7, I7.unpinned, T.keep _ _ _ st5 fun b hb o e => (I7.pin (b, o) (List.mem_append_right _ (List.mem_append_right _ (q83 hb e)))).1, fun b hb => ?_, w7⟩
   obtain ⟨o, e, d⟩ := T.obj _ _ st5 b hb
   exact (I7.pin (b, o) (List.mem_append_right _ (List.mem_append_right _ (q83 hb e)))).2.1
  cases f with
  | next => obtain ⟨σ7, H7, I7, n7⟩ := q7; exact again I7 n7
  | cont => obtain ⟨σ7, H7, I7, n7⟩ := q7; exact again I7 n7
  | brk => obtain ⟨σ7, H7, I7, q7⟩ := q7; exact ⟨σ7, H7, I7.unpinned, q7⟩
  | ret v => obtain ⟨x7, σ7, H7, I7, r7, q7⟩ := q7; exact ⟨x7, σ7, H7, I7.unpinned, r7, q7⟩
end
theorem q306 {K : Fg} {a : Addr} {xs : List V} {g : TG} {tb : TS} {D : Ends} {σ : St} {H : Hp} (Pv : Nat -> St -> Hp -> Prop) (h0 : Pv 0 σ H) (hl : ∀ i σ H, i <= xs.length -> Pv i σ H -> SqL K H a xs)
  (hs : ∀ i x σ H, xs[i]? = some x -> Pv i σ H -> g x σ H fun σ2 H2 => tb { D with nx := Pv (i + 1), ct := Pv (i + 1), bk := D.nx } σ2 H2) (hd : ∀ σ H, Pv xs.length σ H -> D.nx σ H) :
  ∃ W : Nat -> Nat -> St -> Hp -> Prop, (∃ m, W 0 m σ H) /\ ∀ i m σ H, W i m σ H ->
   ((Itl K a).stop i H /\ D.nx σ H) \/ ((Itl K a).go i H /\ ∃ N : St -> Hp -> Prop, (∀ σ' H', N σ' H' -> ∃ m', m' < m /\ W (i + 1) m' σ' H') /\ ∀ x H', (Itl K a).yld i H x H' -> g x σ H' fun σ2 H2 => tb { D with nx := N, ct := N, bk := D.nx } σ2 H2) := by
 refine ⟨fun i m σ H => m = xs.length - i /\ i <= xs.length /\ Pv i σ H, ⟨xs.length, by simp, Nat.zero_le _, h0⟩, ?_⟩
 rintro i m σ H ⟨rfl, hi, p⟩
 have q := hl i σ H hi p
 by_cases hlt : i < xs.length
 ·refine .inr ⟨⟨xs, xs[i], q, by simp [hlt]⟩, Pv (i + 1), fun σ' H' p' => ⟨xs.length - (i + 1), by omega, rfl, hlt, p'⟩, fun x H' y => ?_⟩
  obtain ⟨e, y⟩ := y
  subst e
  exact hs i x σ _ (y xs q) p
 ·have e : i = xs.length := by omega
  subst e
  exact .inl ⟨⟨xs, q, Nat.le_refl _⟩, hd σ H p⟩
theorem q307 {K : Fg} {a : Addr} {xs : List V} {g : TG} {tb : TS} {D : Ends} {σ : St} {H : Hp} (Pv : Nat -> St -> Hp -> Prop) (h0 : Pv 0 σ H) (hl : ∀ i σ H, i <= xs.length -> Pv i σ H -> SqT K H a xs)
  (hs : ∀ i x σ H, xs[i]? = some x -> Pv i σ H -> g x σ H fun σ2 H2 => tb { D with nx := Pv (i + 1), ct := Pv (i + 1), bk := D.nx } σ2 H2) (hd : ∀ σ H, Pv xs.length σ H -> D.nx σ H) :
  ∃ W : Nat -> Nat -> St -> Hp -> Prop, (∃ m, W 0 m σ H) /\ ∀ i m σ H, W i m σ H ->
   ((Itt K a).stop i H /\ D.nx σ H) \/ ((Itt K a).go i H /\ ∃ N : St -> Hp -> Prop, (∀ σ' H', N σ' H' -> ∃ m', m' < m /\ W (i + 1) m' σ' H') /\ ∀ x H', (Itt K a).yld i H x H' -> g x σ H' fun σ2 H2 => tb { D with nx := N, ct := N, bk := D.nx } σ2 H2) := by
 refine ⟨fun i m σ H => m = xs.length - i /\ i <= xs.length /\ Pv i σ H, ⟨xs.length, by simp, Nat.zero_le _, h0⟩, ?_⟩
 rintro i m σ H ⟨rfl, hi, p⟩
 have q := hl i σ H hi p
 by_cases hlt : i < xs.length
 ·refine .inr ⟨⟨xs, xs[i], q, by simp [hlt]⟩, Pv (i + 1), fun σ' H' p' => ⟨xs.length - (i + 1), by omega, rfl, hlt, p'⟩, fun x H' y => ?_⟩
  obtain ⟨e, y⟩ := y
  subst e
  exact hs i x σ _ (y xs q) p
 ·have e : i = xs.length := by omega
  subst e
  exact .inl ⟨⟨xs, q, Nat.le_refl _⟩, hd σ H p⟩
theorem q87 {lo : Int} {n : Nat} {g : TG} {tb : TS} {D : Ends} {σ : St} {H : Hp} (Pv : Nat -> St -> Hp -> Prop) (h0 : Pv 0 σ H)
  (hs : ∀ i σ H, i < n -> Pv i σ H -> g (.int (lo + i)) σ H fun σ2 H2 => tb { D with nx := Pv (i + 1), ct := Pv (i + 1), bk := D.nx } σ2 H2) (hd : ∀ σ H, Pv n σ H -> D.nx σ H) :
  ∃ W : Nat -> Nat -> St -> Hp -> Prop, (∃ m, W 0 m σ H) /\ ∀ i m σ H, W i m σ H ->
   ((Itr lo n).stop i H /\ D.nx σ H) \/ ((Itr lo n).go i H /\ ∃ N : St -> Hp -> Prop, (∀ σ' H', N σ' H' -> ∃ m', m' < m /\ W (i + 1) m' σ' H') /\ ∀ x H', (Itr lo n).yld i H x H' -> g x σ H' fun σ2 H2 => tb { D with nx := N, ct := N, bk := D.nx } σ2 H2) := by
 refine ⟨fun i m σ H => m = n - i /\ i <= n /\ Pv i σ H, ⟨n, by simp, Nat.zero_le _, h0⟩, ?_⟩
 rintro i m σ H ⟨rfl, hi, p⟩
 by_cases hlt : i < n
 ·refine .inr ⟨hlt, Pv (i + 1), fun σ' H' p' => ⟨n - (i + 1), by omega, rfl, hlt, p'⟩, fun x H' y => ?_⟩
  obtain ⟨e, y⟩ := y
  subst e y
  exact hs i σ _ hlt p
 ·have e : i = n := by omega
  subst e
  exact .inl ⟨Nat.le_refl _, hd σ H p⟩
theorem q490 (Pv : St -> Hp -> Prop) (μ : St -> Hp -> Nat) (h0 : Pv σ H)
  (hs : ∀ σ H, Pv σ H -> c σ H fun b H1 => if b = true then tb { D with nx := fun σ' H' => Pv σ' H' /\ μ σ' H' < μ σ H, ct := fun σ' H' => Pv σ' H' /\ μ σ' H' < μ σ H, bk := D.nx } σ H1 else D.nx σ H1)
  (mono : ∀ σ H Q Q', (∀ b H1, Q b H1 -> Q' b H1) -> c σ H Q -> c σ H Q') : tWhile c tb D σ H := by
 refine ⟨fun m σ H => m = μ σ H /\ Pv σ H, ⟨_, rfl, h0⟩, ?_⟩
 rintro m σ H ⟨rfl, p⟩
 refine mono σ H _ _ (fun b H1 q => ?_) (hs σ H p)
 cases b with
 | true => exact ⟨_, fun σ' H' ⟨p', l⟩ => ⟨_, l, rfl, p'⟩, q⟩
 | false => exact q
abbrev R2 := V -> V -> Hp -> VK -> Prop
def OpR (X : Cx) (f : Value -> Value -> Sem Value) (r : R2) : Prop :=
 ∀ (pins : List (Addr × Obj)) (s : Shared) (σ : St) (H : Hp) (x y : V) (v u : Value) (Q : VK), Inv X pins σ H s -> RelV x v -> RelV y u -> r x y H Q ->
  wpAny (model X.prog X.w) X.A (f v u) (EP X pins σ Q) X.xe s
def UnR (X : Cx) (f : Value -> Sem Value) (r : V -> Hp -> VK -> Prop) : Prop :=
 ∀ (pins : List (Addr × Obj)) (s : Shared) (σ : St) (H : Hp) (x : V) (v : Value) (Q : VK), Inv X pins σ H s -> RelV x v -> r x H Q ->
  wpAny (model X.prog X.w) X.A (f v) (EP X pins σ Q) X.xe s
def CallR (X : Cx) (f : Value) (r : List V -> Hp -> VK -> Prop) : Prop :=
 ∀ (pins : List (Addr × Obj)) (s : Shared) (σ : St) (H : Hp) (xs : List V) (us : List Value) (Q : VK), Inv X pins σ H s -> Vals xs us -> r xs H Q ->
  wpAny (model X.prog X.w) X.A (call f us) (EP X pins σ Q) X.xe s
def tOp (r : R2) (ta tb : TE) : TE := fun σ H Q => ta σ H fun x H1 => tb σ H1 fun y H2 => r x y H2 Q
def tUn (r : V -> Hp -> VK -> Prop) (ta : TE) : TE := fun σ H Q => ta σ H fun x H1 => r x H1 Q
def rI (C : Int -> Int -> Prop) (g : Int -> Int -> V) : R2 := fun x y H Q => ∃ i j, x = .int i /\ y = .int j /\ C i j /\ Q (g i j) H
def rI0 (g : Int -> Int -> V) : R2 := fun x y H Q => ∃ i j, x = .int i /\ y = .int j /\ Q (g i j) H
def rU (g : Int -> V) : V -> Hp -> VK -> Prop := fun x H Q => ∃ i, x = .int i /\ Q (g i) H
section
variable {a b c : Expr} {ta tb tc : TE} {pos : Pos}
theorem binT (ha : PE X a ta) (hb : PE X b tb) {pins : List (Addr × Obj)} {s : Shared} {σ : St} {H : Hp} {R : V -> V -> Hp -> Prop} (I : Inv X pins σ H s)
  (h : ta σ H fun x H1 => tb σ H1 fun y H2 => R x y H2) {Q : VS} {f : Value -> Value -> Sem Value}
  (hf : ∀ v u s2 x y H2, Inv X pins σ H2 s2 -> RelV x v -> RelV y u -> R x y H2 -> wpAny (model X.prog X.w) X.A (f v u) Q X.xe s2) :
  wpAny (model X.prog X.w) X.A (eval a X.env) (fun v s₁ => wpAny (model X.prog X.w) X.A (eval b X.env) (fun u s₂ => wpAny (model X.prog X.w) X.A (f v u) Q X.xe s₂) X.xe s₁) X.xe s := by
 refine thn (ha pins s σ H _ I h) fun v s1 ⟨x, H1, I1, r1, q1⟩ => ?_
 refine thn (hb pins s1 σ H1 _ I1 q1) fun u s2 ⟨y, H2, I2, r2, q2⟩ => ?_
 exact hf v u s2 x y H2 I2 r1 r2 q2
theorem pe_op {op : Operator} {r : R2} (ho : OpR X (binaryOp op) r) (ha : PE X a ta) (hb : PE X b tb) : PE X (.BinOp a op b pos) (tOp r ta tb) := by
 intro pins s σ H Q I h
 exact wpAny_BinOp (binT ha hb I h fun v u s2 x y H2 I2 rx ry q => ho pins s2 σ H2 x y v u Q I2 rx ry q)
theorem pe_un (ho : UnR X (unaryOp op) r) (ha : PE X a ta) : PE X (.UnaryOp op a pos) (tUn r ta) := by
 intro pins s σ H Q I h
 exact UnaryOp_ (thn (ha pins s σ H _ I h) fun v s1 ⟨x, H1, I1, r1, q1⟩ => ho pins s1 σ H1 x v Q I1 r1 q1)
theorem opI {f : Value -> Value -> Sem Value} {C : Int -> Int -> Prop} {g : Int -> Int -> Int}
  (rule : ∀ (i j : Int) (t u : Tok) (s : Shared) (Q : VS) (E : VS), C i j -> Q (.int (g i j) s.toks) { s with toks := s.toks + 1 } -> wpAny (model X.prog X.w) X.A (f (.int i t) (.int j u)) Q E s) :
  OpR X f (rI C fun i j => .int (g i j)) := by
 intro pins s σ H x y v u Q I rx ry h
 obtain ⟨i, j, rfl, rfl, hc, q⟩ := h
 obtain ⟨t, rfl⟩ := rx
 obtain ⟨t', rfl⟩ := ry
 exact rule i j t t' s _ _ hc ⟨.int (g i j), H, I.tok _, ⟨_, rfl⟩, q⟩
theorem opI0 {f : Value -> Value -> Sem Value} {g : Int -> Int -> Int}
  (rule : ∀ (i j : Int) (t u : Tok) (s : Shared) (Q : VS) (E : VS), Q (.int (g i j) s.toks) { s with toks := s.toks + 1 } -> wpAny (model X.prog X.w) X.A (f (.int i t) (.int j u)) Q E s) :
  OpR X f (rI0 fun i j => .int (g i j)) := by
 intro pins s σ H x y v u Q I rx ry h
 obtain ⟨i, j, rfl, rfl, q⟩ := h
 obtain ⟨t, rfl⟩ := rx
 obtain ⟨t', rfl⟩ := ry
 exact rule i j t t' s _ _ ⟨.int (g i j), H, I.tok _, ⟨_, rfl⟩, q⟩
theorem opB0 {f : Value -> Value -> Sem Value} {g : Int -> Int -> Bool}
  (rule : ∀ (i j : Int) (t u : Tok) (s : Shared) (Q : VS) (E : VS), Q (.bool (g i j)) s -> wpAny (model X.prog X.w) X.A (f (.int i t) (.int j u)) Q E s) :
  OpR X f (rI0 fun i j => .bl (g i j)) := by
 intro pins s σ H x y v u Q I rx ry h
 obtain ⟨i, j, rfl, rfl, q⟩ := h
 obtain ⟨t, rfl⟩ := rx
 obtain ⟨t', rfl⟩ := ry
 exact rule i j t t' s _ _ ⟨.bl (g i j), H, I, rfl, q⟩
def CPow (i j : Int) : Prop := 0 <= j /\ j <= 1000000 /\ i.natAbs < 2 ^ 64
def CMul (i j : Int) : Prop := (-(2 ^ 64) < i /\ i < 2 ^ 64) \/ (-(2 ^ 64) < j /\ j < 2 ^ 64)
theorem CMul.ok {i j : Int} (h : CMul i j) : IntMulOk i j := by
 rcases h with ⟨h1, h2⟩ | ⟨h1, h2⟩
 ·exact .of_left (intBits_le_64 h1 h2)
 ·exact .of_right (intBits_le_64 h1 h2)
theorem q31 : OpR X (binaryOp .Add) (rI0 fun i j => .int (i + j)) := opI0 fun _ _ _ _ _ _ _ q => add_int q
theorem q51 : OpR X (binaryOp .Sub) (rI0 fun i j => .int (i - j)) := opI0 fun _ _ _ _ _ _ _ q => sub_int q
theorem q98 : OpR X (binaryOp .Mult) (rI CMul fun i j => .int (i * j)) := opI fun _ _ _ _ _ _ _ hc q => mul_int q hc.ok
theorem q134 : OpR X (binaryOp .Mod) (rI (fun _ j => 0 < j) fun i j => .int (i % j)) := opI fun i j _ _ _ _ _ hc q => by
 have h1 : (0 : Int) < j := hc
 exact mod_int' (by omega) (by rw [Int.fmod_eq_emod_of_nonneg i (by omega)]; exact q)
theorem q592 : OpR X (binaryOp .Pow) (rI CPow fun i j => .int (i ^ j.toNat)) := opI fun _ _ _ _ _ _ _ hc q => pow_int_small hc.1 hc.2.1 hc.2.2 q
theorem q275 : OpR X (binaryOp .LShift) (rI CPow fun i j => .int (i * 2 ^ j.toNat)) := opI fun _ _ _ _ _ _ _ hc q => lshift_int_small hc.1 hc.2.1 hc.2.2 q
theorem unI {f : Value -> Sem Value} {g : Int -> Int}
  (rule : ∀ (i : Int) (t : Tok) (s : Shared) (Q : VS) (E : VS), Q (.int (g i) s.toks) { s with toks := s.toks + 1 } -> wpAny (model X.prog X.w) X.A (f (.int i t)) Q E s) :
  UnR X f (rU fun i => .int (g i)) := by
 intro pins s σ H x v Q I rx h
 obtain ⟨i, rfl, q⟩ := h
 obtain ⟨t, rfl⟩ := rx
 exact rule i t s _ _ ⟨.int (g i), H, I.tok _, ⟨_, rfl⟩, q⟩
theorem q593 : UnR X (unaryOp .USub) (rU fun i => .int (-i)) := unI fun _ _ _ _ _ q => neg_int q
end
def scal : V -> V -> Bool
 | .non, .non => true | .non, .int _ => true | .int _, .non => true | .non, .bl _ => true | .bl _, .non => true | .non, .str _ => true | .str _, .non => true
 | .int _, .int _ => true | .bl _, .bl _ => true | .str _, .str _ => true | .byt _, .byt _ => true
 | .int _, .str _ => true | .str _, .int _ => true | .bl _, .str _ => true | .str _, .bl _ => true
 | _, _ => false
def rEq : R2 := fun x y H Q => scal x y = true /\ Q (.bl (decide (x = y))) H
def rNe : R2 := fun x y H Q => scal x y = true /\ Q (.bl (!decide (x = y))) H
theorem q594 {i j : Int} : decide (V.int i = V.int j) = (i == j) := by
 rw [Bool.eq_iff_iff]
 simp
theorem dec_bl {i j : Bool} : decide (V.bl i = V.bl j) = (i == j) := by
 rw [Bool.eq_iff_iff]
 simp
theorem q595 : decide (V.str i = V.str j) = (i == j) := by
 rw [Bool.eq_iff_iff]
 simp
theorem q596 {i j : Array UInt8} : decide (V.byt i = V.byt j) = (i.toList == j.toList) := by
 rw [Bool.eq_iff_iff]
 cases i
 cases j
 simp
section
variable {a b c : Expr} {ta tb tc : TE} {pos : Pos}
theorem q42 {k k' : Bool} (I : Inv X pins σ H s) (q : Q (.bl k) H) (e : k = k') : EP X pins σ Q (.bool k') s := by
 subst e
 exact ⟨.bl k, H, I, rfl, q⟩
theorem op_eq : OpR X (compareOp .Eq) rEq := by
 intro pins s σ H x y v u Q I rx ry h
 obtain ⟨hs, q⟩ := h
 cases x with
 | non =>
  cases rx
  cases y with
  | non => cases ry; exact PySem.EqNone.eq_none_none (q42 I q (by simp))
  | bl j => cases ry; exact PySem.EqNone.eq_none_bool (q42 I q (by simp))
  | int j => obtain ⟨t', rfl⟩ := ry; exact PySem.EqNone.eq_none_int (q42 I q (by simp))
  | str j => obtain ⟨t', rfl⟩ := ry; exact PySem.EqNone.eq_none_str (q42 I q (by simp))
  | _ => exact absurd (show false = true from hs) fnt
 | bl i =>
  cases rx
  cases y with
  | non => cases ry; exact PySem.EqNone.eq_bool_none (q42 I q (by simp))
  | bl j => cases ry; exact eq_bool (q42 I q dec_bl)
  | str j => obtain ⟨t', rfl⟩ := ry; exact PySem.EqMixed.eq_bool_str (q42 I q (by simp))
  | _ => exact absurd (show false = true from hs) fnt
 | int i =>
  obtain ⟨t, rfl⟩ := rx
  cases y with
  | non => cases ry; exact PySem.EqNone.eq_int_none (q42 I q (by simp))
  | int j => obtain ⟨t', rfl⟩ := ry; exact eq_int (q42 I q q594)
  | str j => obtain ⟨t', rfl⟩ := ry; exact PySem.EqMixed.eq_int_str (q42 I q (by simp))
  | _ => exact absurd (show false = true from hs) fnt
 | str i =>
  obtain ⟨t, rfl⟩ := rx
  cases y with
  | non => cases ry; exact PySem.EqNone.eq_str_none (q42 I q (by simp))
  | bl j => cases ry; exact PySem.EqMixed.eq_str_bool (q42 I q (by simp))
  | int j => obtain ⟨t', rfl⟩ := ry; exact PySem.EqMixed.eq_str_int (q42 I q (by simp))
  | str j => obtain ⟨t', rfl⟩ := ry; exact eq_str (q42 I q q595)
  | _ => exact absurd (show false = true from hs) fnt
 | byt i =>
  obtain ⟨t, rfl⟩ := rx
  cases y with
  | byt j => obtain ⟨t', rfl⟩ := ry; exact PySem.W.eq_bytes (q42 I q q596)
  | _ => exact absurd (show false = true from hs) fnt
 | _ => cases y <;> exact absurd (show false = true from hs) fnt
theorem op_ne : OpR X (compareOp .NotEq) rNe := by
 intro pins s σ H x y v u Q I rx ry h
 obtain ⟨hs, q⟩ := h
 cases x with
 | non =>
  cases rx
  cases y with
  | non => cases ry; exact PySem.EqNone.ne_none_none (q42 I q (by simp))
  | bl j => cases ry; exact PySem.EqNone.ne_none_bool (q42 I q (by simp))
  | int j => obtain ⟨t', rfl⟩ := ry; exact PySem.EqNone.ne_none_int (q42 I q (by simp))
  | str j => obtain ⟨t', rfl⟩ := ry; exact PySem.EqNone.ne_none_str (q42 I q (by simp))
  | _ => exact absurd (show false = true from hs) fnt
 | bl i =>
  cases rx
  cases y with
  | non => cases ry; exact PySem.EqNone.ne_bool_none (q42 I q (by simp))
  | bl j => cases ry; exact ne_bool (q42 I q (congrArg not dec_bl))
  | str j => obtain ⟨t', rfl⟩ := ry; exact PySem.EqMixed.ne_bool_str (q42 I q (by simp))
  | _ => exact absurd (show false = true from hs) fnt
 | int i =>
  obtain ⟨t, rfl⟩ := rx
  cases y with
  | non => cases ry; exact PySem.EqNone.ne_int_none (q42 I q (by simp))
  | int j => obtain ⟨t', rfl⟩ := ry; exact ne_int (q42 I q (congrArg not q594))
  | str j => obtain ⟨t', rfl⟩ := ry; exact PySem.EqMixed.ne_int_str (q42 I q (by simp))
  | _ => exact absurd (show false = true from hs) fnt
 | str i =>
  obtain ⟨t, rfl⟩ := rx
  cases y with
  | non => cases ry; exact PySem.EqNone.ne_str_none (q42 I q (by simp))
  | bl j => cases ry; exact PySem.EqMixed.ne_str_bool (q42 I q (by simp))
  | int j => obtain ⟨t', rfl⟩ := ry; exact PySem.EqMixed.ne_str_int (q42 I q (by simp))
  | str j => obtain ⟨t', rfl⟩ := ry; exact ne_str (q42 I q (congrArg not q595))
  | _ => exact absurd (show false = true from hs) fnt
 | byt i =>
  obtain ⟨t, rfl⟩ := rx
  cases y with
  | byt j => obtain ⟨t', rfl⟩ := ry; exact PySem.W.ne_bytes (q42 I q (congrArg not q596))
  | _ => exact absurd (show false = true from hs) fnt
 | _ => cases y <;> exact absurd (show false = true from hs) fnt
theorem op_lt : OpR X (compareOp .Lt) (rI0 fun i j => .bl (decide (i < j))) := opB0 fun _ _ _ _ _ _ _ q => lt_int q
theorem op_le : OpR X (compareOp .LtE) (rI0 fun i j => .bl (decide (i <= j))) := opB0 fun _ _ _ _ _ _ _ q => le_int q
theorem op_gt : OpR X (compareOp .Gt) (rI0 fun i j => .bl (decide (j < i))) := opB0 fun _ _ _ _ _ _ _ q => gt_int q
theorem op_ge : OpR X (compareOp .GtE) (rI0 fun i j => .bl (decide (j <= i))) := opB0 fun _ _ _ _ _ _ _ q => ge_int q
theorem q597 : OpR X (compareOp .In) (fun x y H Q => ∃ i j, x = .str i /\ y = .str j /\ Q (.bl (!(Builtin.Str.occurrences j i 0 j.length 1).isEmpty)) H) := by
 intro pins s σ H x y v u Q I rx ry h
 obtain ⟨i, j, rfl, rfl, q⟩ := h
 obtain ⟨t, rfl⟩ := rx
 obtain ⟨t', rfl⟩ := ry
 exact in_str (q42 I q rfl)
theorem q110 : OpR X (compareOp .Is) (fun x y H Q => y = .non /\ Q (.bl (decide (x = .non))) H) := by
 intro pins s σ H x y v u Q I rx ry h
 obtain ⟨rfl, q⟩ := h
 cases ry
 refine is_none_gen (q42 I q ?_)
 cases x <;> first
  | (cases rx; rfl)
  | (obtain ⟨t, rfl⟩ := rx; rfl)
theorem q21 (b : Expr) (h : op ≠ .In := by decide) (h2 : op ≠ .NotIn := by decide) : behindInMarks op b = false := by
 have e1 : (op == CmpOp.In) = false := by cases op <;> first | rfl | exact absurd rfl h
 have e2 : (op == CmpOp.NotIn) = false := by cases op <;> first | rfl | exact absurd rfl h2
 cases b <;> simp [behindInMarks, e1, e2]
theorem q308 {op : CmpOp} {r : R2} (ho : OpR X (compareOp op) r) (ha : PE X a ta) (hb : PE X b tb) (hm : behindInMarks op b = false) : PE X (.Compare a [op] [b] pos) (tOp r ta tb) := by
 intro pins s σ H Q I h
 exact wpAny_Compare1 (binT ha hb I h fun v u s2 x y H2 I2 rx ry q => ho pins s2 σ H2 x y v u Q I2 rx ry q) hm
def tTest (t : TE) : TT := fun σ H Q => t σ H fun x H' => ∃ k, x = .bl k /\ Q k H'
theorem q18 (ho : OpR X (compareOp op) r) (ha : PE X a ta) (hb : PE X b tb) (hm : behindInMarks op b = false) : PT X (.Compare a [op] [b] pos) (tTest (tOp r ta tb)) := by
 intro pins s σ H Q I h
 refine wpAny_isTrue_Compare1 (thn (ha pins s σ H _ I h) fun v s1 ⟨x, H1, I1, r1, q1⟩ => thn (hb pins s1 σ H1 _ I1 q1) fun u s2 ⟨y, H2, I2, r2, q2⟩ =>
  thn (ho pins s2 σ H2 x y v u _ I2 r1 r2 q2) fun c s3 ⟨z, H3, I3, r3, k, e, q3⟩ => ?_) hm
 subst e
 cases r3
 exact wpAny_truthy_bool ⟨H3, I3, q3⟩
def tChain (r r' : R2) (ta tb tc : TE) : TE := fun σ H Q => ta σ H fun x H1 => tb σ H1 fun y H2 => r x y H2 fun z H3 => ∃ k, z = .bl k /\
 (if k = true then tc σ H3 fun w' H4 => r' y w' H4 Q else Q (.bl false) H3)
theorem pt_chain (ho : OpR X (compareOp op) r) (ho' : OpR X (compareOp op') r') (ha : PE X a ta) (hb : PE X b tb) (hc : PE X c tc)
  (hm : lastMarks [op, op'] [b, c] = false := by with_unfolding_all rfl) : PT X (.Compare a [op, op'] [b, c] pos) (tTest (tChain r r' ta tb tc)) := by
 intro pins s σ H Q I h
 refine isTrue_chain (thn (ha pins s σ H _ I h) fun v s1 ⟨x, H1, I1, r1, q1⟩ => test_link (thn (hb pins s1 σ H1 _ I1 q1) fun u s2 ⟨y, H2, I2, r2, q2⟩ =>
  thn (ho pins s2 σ H2 x y v u _ I2 r1 r2 q2) fun d s3 ⟨z, H3, I3, r3, k, e, q3⟩ => ?_)) hm
 subst e
 cases r3
 refine wpAny_truthy_bool ?_
 cases k with
 | false =>
  obtain ⟨k', e', q'⟩ := q3
  cases e'
  exact ite_ff ⟨H3, I3, q'⟩
 | true =>
  refine ite_tt (test_last (thn (hc pins s3 σ H3 _ I3 q3) fun w' s4 ⟨z', H4, I4, r4, q4⟩ => thn (ho' pins s4 σ H4 y z' u w' _ I4 r2 r4 q4) fun d' s5 ⟨z2, H5, I5, r5, k2, e2, q5⟩ => ?_))
  subst e2
  cases r5
  exact wpAny_truthy_bool ⟨H5, I5, q5⟩
theorem q276 : (sizeLine : Nat) < 2 ^ 63 := by rw [sizeLine_eq]; decide
theorem q84 : OpR X (binaryOp .Add) (fun x y H Q => ∃ i j, x = .str i /\ y = .str j /\ i.length + j.length <= sizeLine /\ Q (.str (i ++ j)) H) := by
 intro pins s σ H x y v u Q I rx ry h
 obtain ⟨i, j, rfl, rfl, hz, q⟩ := h
 obtain ⟨t, rfl⟩ := rx
 obtain ⟨t', rfl⟩ := ry
 exact add_str (fun t' tk => ⟨.str (i ++ j), H, I.tok _, ⟨_, rfl⟩, q⟩) hz
theorem vals1 (r : Vals [x] us) : ∃ u, us = [u] /\ RelV x u := by
 cases r with
 | cons r1 r2 => cases r2; exact ⟨_, rfl, r1⟩
theorem vals2 (r : Vals [x, y] us) : ∃ u w', us = [u, w'] /\ RelV x u /\ RelV y w' := by
 cases r with
 | cons r1 r2 =>
  cases r2 with
  | cons r3 r4 => cases r4; exact ⟨_, _, rfl, r1, r3⟩
theorem q358 (hc : X.calm = true) : CallR X (.builtin "max") (fun xs H Q => ∃ i j, xs = [.int i, .int j] /\ Q (.int (if j > i then j else i)) H) := by
 intro pins s σ H xs us Q I r h
 obtain ⟨i, j, rfl, q⟩ := h
 obtain ⟨u, w', rfl, ⟨t, rfl⟩, ⟨t', rfl⟩⟩ := vals2 r
 refine max_two_ints (I.ok.hd hc) fun h' tk k => ⟨_, H, I.kept k, ?_, q⟩
 by_cases hj : j > i
 ·rw [if_pos hj, if_pos hj]; exact ⟨_, rfl⟩
 ·rw [if_neg hj, if_neg hj]; exact ⟨_, rfl⟩
theorem q598 (hc : X.calm = true) : CallR X (.builtin "min") (fun xs H Q => ∃ i j, xs = [.int i, .int j] /\ Q (.int (if j < i then j else i)) H) := by
 intro pins s σ H xs us Q I r h
 obtain ⟨i, j, rfl, q⟩ := h
 obtain ⟨u, w', rfl, ⟨t, rfl⟩, ⟨t', rfl⟩⟩ := vals2 r
 refine min_two_ints (I.ok.hd hc) fun h' tk k => ⟨_, H, I.kept k, ?_, q⟩
 by_cases hj : j < i
 ·rw [if_pos hj, if_pos hj]; exact ⟨_, rfl⟩
 ·rw [if_neg hj, if_neg hj]; exact ⟨_, rfl⟩
theorem q359 : CallR X (.type "int") (fun xs H Q => (∃ i, xs = [.int i] /\ Q (.int i) H) \/ ∃ k, xs = [.bl k] /\ Q (.int (if k then 1 else 0)) H) := by
 intro pins s σ H xs us Q I r h
 rcases h with ⟨i, rfl, q⟩ | ⟨k, rfl, q⟩
 ·obtain ⟨u, rfl, t, rfl⟩ := vals1 r
  exact call_int_int ⟨.int i, H, I, ⟨_, rfl⟩, q⟩
 ·obtain ⟨u, rfl, r1⟩ := vals1 r
  cases r1
  exact call_int_bool ⟨.int (if k then 1 else 0), H, I.tok _, ⟨_, rfl⟩, q⟩
theorem q37 : CallR X (.type "str") (fun xs H Q => ∃ i, xs = [.int i] /\ i.natAbs.log2 < 1920 /\ Q (.str (toString i)) H) := by
 intro pins s σ H xs us Q I r h
 obtain ⟨i, rfl, hz, q⟩ := h
 obtain ⟨u, rfl, t, rfl⟩ := vals1 r
 exact PySem.P.str_of_int hz ⟨.str _, H, I.tok _, ⟨_, rfl⟩, q⟩
end
structure ObjM (h : Heap) (x dx C : Addr) (mA : Mg) : Prop where
 obj : h.get? x = some (PySem.W.instObj C dx)
 ns : h.Ns1 dx mA
 ne : dx ≠ x
theorem q599 {h : Heap} (n : h.Ns1 dx mA) : ∃ od, h.get? dx = some od /\ ∀ name, PySem.W.lookIn name od = some (mA name) := by
 obtain ⟨o, es, ep, ho, hd, hk, _, hm⟩ := n
 refine ⟨o, ho, fun name => ?_⟩
 have e := hm name
 unfold nsFind findBy at e
 rw [<- Array.find?_toList] at e
 unfold PySem.W.lookIn
 rw [hd]
 dsimp only
 split
 ·rename_i y q
  rw [q] at e
  exact congrArg some e
 ·rename_i q
  rw [q] at e
  have a : es.toList.any (·.refKey) = false := by
   rw [List.any_eq_false]
   intro y hy
   obtain ⟨z, t, hkey⟩ := hk y (Array.mem_toList_iff.mp hy)
   simp [DictEntry.refKey, hkey]
  have a' : ¬ es.toList.any (·.refKey) = true := by rw [a]; exact fnt
  rw [if_neg a']
  exact congrArg some e
theorem ObjM.look (I : ObjM h x dx C mA) : ∃ od, PySem.W.InstAt h x (PySem.W.instObj C dx) C (some od) /\ ∀ name, PySem.W.lookIn name od = some (mA name) :=
 let ⟨od, ho, hl⟩ := q599 I.ns
 ⟨od, ⟨I.obj, rfl, rfl, ho⟩, hl⟩
section
variable {prog : Program} {w : World} {A : Around} {E : VS} {s : Shared} {K : Fg} {x dx C f : Addr} {mA : Mg} {name : Str} {v : Value}
theorem get_map {expr : Bool} (X : K.In s.heap) (I : ObjM s.heap x dx C mA) (hg : PySem.W.plainGet K C name = true) (hh : PySem.W.hasDictIn K C = true)
  (ha : PySem.W.findIn K (.ref C) name = some none) (hv : mA name = some v) (hv' : PySem.W.handedIn v = true) (h : Q v { s with toks := s.toks + 1 }) :
  wpAny (model prog w) A (getAttr (.ref x) name expr) Q E s := by
 obtain ⟨od, J, hl⟩ := I.look
 exact PySem.W.get_value X J (PySem.W.plainGet_of hg).1 (PySem.W.findObj_own hh ha rfl (by rw [hl, hv])) hv' h
theorem get_meth (X : K.In s.heap) (I : ObjM s.heap x dx C mA) (hg : PySem.W.plainGet K C name = true)
  (hf : PySem.W.findIn K (.ref C) name = some (some (.ref f))) (ht : PySem.W.isFn K (.ref f) = true) (hv : mA name = none) (h : Q (.ref f, [.ref x]) s) :
  wpAny (model prog w) A (getMethod (.ref x) name pl) Q E s := by
 obtain ⟨od, J, hl⟩ := I.look
 exact PySem.W.method_fn X J (PySem.W.plainGet_of hg).1 (PySem.W.plainGet_of hg).2 hf (beq_iff_eq.mp ht) (by show (PySem.W.lookIn name od).map (·.isSome) = some false; rw [hl, hv]; rfl) h
theorem set_map {ns : List Str} (X : K.In s.heap) (I : ObjM s.heap x dx C mA)
  (hs : PySem.W.findIn K (.ref C) "__setattr__" = some (some (.builtin "object.__setattr__"))) (hp : PySem.W.plainOver K C = true) (ht : PySem.W.takerIn K C name = some none) (hh : PySem.W.hasDictIn K C = true)
  (hw : PySem.Within mA ns) (hsz : ns.length <= sizeLine)
  (h : ∀ h', ObjM h' x dx C (fun y => if y = name then some v else mA y) -> Heap.SameBut dx s.heap h' -> Q () { s with heap := h', toks := s.toks + 2 }) :
  wpAny (model prog w) A (setAttr (.ref x) name v) Q E s := by
 obtain ⟨od, J, hl⟩ := I.look
 refine PySem.W.set_plain X J hs (PySem.W.osa_open (s := { s with toks := s.toks + 1 }) (r := none) X J hp ht fun b => ?_)
 obtain ⟨cd, hc, hd'⟩ := PySem.W.any_some hh
 have hx : s.heap.get? x = some ⟨.ref C, some dx, .plain, #[]⟩ := I.obj
 refine wpAny_bind (wpAny_pure (wpAny_bind (wpAny_bind (wpAny_loadPart hx (wpAny_bind (PySem.W.Looks.here (s := { s with toks := s.toks + 1 }) (PySem.W.looks_clsIn X hc) ?_))))))
 rw [hd']
 refine wpAny_pure (a := some dx) (wpAny_bind (wpAny_pure (wpAny_bind ?_)))
 refine wpAny_nsSet1 (s := { s with toks := s.toks + 1 }) I.ns fun h' hn2 hs2 => ?_
 obtain ⟨oD, esD, epD, hoD, hdD, hcD⟩ := hn2.count (PySem.Within.cons name v hw)
 refine wpAny_bind (wpAny_lookBehind hoD (by rw [hdD]; exact pastItsLine_dict (Nat.le_trans hcD (by rw [List.length_cons]; omega))) ?_)
 exact wpAny_pure (h _ ⟨(hs2.2 _ (Ne.symm I.ne)).trans I.obj, hn2, I.ne⟩ hs2)
theorem make_map (X : K.In s.heap) (hm : PySem.W.makesIn K C = true)
  (hi : PySem.W.findIn K (.ref C) "__init__" = some (some (.ref f))) (hf : PySem.W.typeIn K (.ref f) = some (.type "function"))
  (h : codeAny (model prog w) (A.under (.builtin "type.__call__" ⟨.ref C :: vs, kw⟩)) (.call (.ref f) ⟨.ref (s.heap.objs.size + 1) :: vs, kw⟩) (PySem.W.InitBack (s.heap.objs.size + 1) R)
   { s with heap := (s.heap.push PySem.W.emptyDict).push (PySem.W.instObj C s.heap.objs.size) }) :
  codeAny (model prog w) A (.call (.ref C) ⟨vs, kw⟩) R s := by
 obtain ⟨hh, g, d, t, os⟩ := s
 exact PySem.W.make_core (PySem.W.makes_of X hm) (PySem.W.looks_findIn X hi) (fun self => PySem.W.bind_fn X self hf) (.inl rfl) h
end
def putF (f : Str) (v : V) : List (Str × V) -> List (Str × V)
 | [] => [(f, v)]
 | (g, x) :: r => if g = f then (g, v) :: r else (g, x) :: putF f v r
theorem q207 (f g : Str) (v : V) : ∀ fs : List (Str × V), (putF f v fs).lookup g = if g = f then some v else fs.lookup g
 | [] => by
  show List.lookup g [(f, v)] = _
  by_cases h : g = f
  ·have hb : (g == f) = true := beq_iff_eq.mpr h
   simp only [List.lookup, hb, if_pos h]
  ·have hb : (g == f) = false := beq_eq_false_iff_ne.mpr h
   simp only [List.lookup, hb, if_neg h]
 | (k, x) :: r => by
  have ih := q207 f g v r
  rw [show putF f v ((k, x) :: r) = (if k = f then (k, v) :: r else (k, x) :: putF f v r) from rfl]
  by_cases hk : k = f
  ·rw [if_pos hk]
   by_cases h : g = k
   ·have hb : (g == k) = true := beq_iff_eq.mpr h
    simp only [List.lookup, hb, if_pos (h.trans hk)]
   ·have hb : (g == k) = false := beq_eq_false_iff_ne.mpr h
    simp only [List.lookup, hb, if_neg (fun e : g = f => h (e.trans hk.symm))]
  ·rw [if_neg hk]
   by_cases h : g = k
   ·have hb : (g == k) = true := beq_iff_eq.mpr h
    simp only [List.lookup, hb, if_neg (fun e : g = f => hk (h.symm.trans e))]
   ·have hb : (g == k) = false := beq_eq_false_iff_ne.mpr h
    simp only [List.lookup, hb]
    exact ih
theorem q208 (f : Str) (v : V) : ∀ fs : List (Str × V), f ∈ (putF f v fs).map (·.1) /\ ∀ g, g ∈ fs.map (·.1) -> g ∈ (putF f v fs).map (·.1)
 | [] => ⟨by simp [putF], fun g h => by simp at h⟩
 | (k, x) :: r => by
  obtain ⟨i1, i2⟩ := q208 f v r
  rw [show putF f v ((k, x) :: r) = (if k = f then (k, v) :: r else (k, x) :: putF f v r) from rfl]
  by_cases hk : k = f
  ·rw [if_pos hk]
   subst hk
   exact ⟨by simp, fun g h => by simpa using h⟩
  ·rw [if_neg hk]
   refine ⟨?_, fun g h => ?_⟩
   ·rw [List.map_cons]
    exact List.mem_cons_of_mem _ i1
   ·rw [List.map_cons] at h ⊢
    rcases List.mem_cons.mp h with e | e
    ·exact List.mem_cons.mpr (.inl e)
    ·exact List.mem_cons_of_mem _ (i2 g e)
theorem q209 (f : Str) (v : V) : ∀ fs : List (Str × V), (putF f v fs).length <= fs.length + 1
 | [] => by simp [putF]
 | (k, x) :: r => by
  have ih := q209 f v r
  rw [show putF f v ((k, x) :: r) = (if k = f then (k, v) :: r else (k, x) :: putF f v r) from rfl]
  by_cases hk : k = f
  ·rw [if_pos hk, List.length_cons, List.length_cons]; omega
  ·rw [if_neg hk, List.length_cons, List.length_cons]; omega
theorem RelO.some_of (r : RelO (some v) o) : ∃ u, o = some u /\ RelV v u := by
 cases o with
 | none => exact (show False from r).elim
 | some u => exact ⟨u, rfl, r⟩
theorem RelO.none_of (r : RelO none o) : o = none := by
 cases o with
 | none => rfl
 | some u => exact (show False from r).elim
theorem q600 (r : RelV v u) : PySem.W.handedIn u = true := by
 cases v with
 | non => cases (show u = Value.none from r); rfl
 | bl b => cases (show u = Value.bool b from r); rfl
 | int i => obtain ⟨t, e⟩ := (show ∃ t, u = Value.int i t from r); cases e; rfl
 | str x => obtain ⟨t, e⟩ := (show ∃ t, u = Value.str x t from r); cases e; rfl
 | byt b => obtain ⟨t, e⟩ := (show ∃ t, u = Value.bytes b t from r); cases e; rfl
 | flt b => obtain ⟨t, e⟩ := (show ∃ t, u = Value.float b t from r); cases e; rfl
 | ref a => cases (show u = Value.ref a from r); rfl
 | ty n => cases (show u = Value.type n from r); rfl
section
variable {P : Program} {w : World} {H H' : Hp} {h h' : Heap} {a C dx : Addr} {fs fs' : List (Str × V)}
theorem q309 (hok : HOk P w H h) (e : H a = some (.ins C dx fs)) : ∃ mA, ObjM h a dx C mA /\ (∀ f, RelO (fs.lookup f) (mA f)) /\ PySem.Within mA (fs.map (·.1)) /\ fs.length <= 1000 /\ H dx = some (.own a) := by
 obtain ⟨d, z, ne, ob, mA, n, r, q⟩ := (show ObjOk P w H h a (.ins C dx fs) from hok a _ e)
 exact ⟨mA, ⟨ob, n, ne⟩, r, q, z, d⟩
end
structure Cls (K : Fg) (C : Addr) : Prop where
 pg : PySem.W.plainGet K C Str.empty = true
 hd : PySem.W.hasDictIn K C = true
 po : PySem.W.plainOver K C = true
 sa : PySem.W.findIn K (.ref C) "__setattr__" = some (some (.builtin "object.__setattr__"))
theorem Cls.get {K : Fg} {C : Addr} (c : Cls K C) (f : Str) : PySem.W.plainGet K C f = true := c.pg
def q135 (K : Fg) (C : Addr) (f : Str) : Prop := PySem.W.findIn K (.ref C) f = some none
theorem q135.taker {K : Fg} {C : Addr} {f : Str} (n : q135 K C f) : PySem.W.takerIn K C f = some none := by
 unfold PySem.W.takerIn
 rw [show PySem.W.findIn K (.ref C) f = some none from n]
 rfl
structure Con (K : Fg) (C : Addr) (f : Str) (v : V) (u : Value) : Prop where
 at_ : PySem.W.findIn K (.ref C) f = some (some u)
 rel : RelV v u
 get : PySem.W.specialIn K u "__get__" = some none
 cp : PySem.W.copiedNames.contains f = false
structure Meth (K : Fg) (C : Addr) (m : Str) (f : Addr) : Prop where
 at_ : PySem.W.findIn K (.ref C) m = some (some (.ref f))
 fn : PySem.W.isFn K (.ref f) = true
 kp : PySem.W.keepIn K (.ref f) = true
section
variable {pins : List (Addr × Obj)} {σ : St} {H : Hp} {s : Shared} {a C dx : Addr} {fs : List (Str × V)} {f : Str} {v : V} {A : Around} {E : VS}
theorem q536 {b : Bool} (I : Inv X pins σ H s) (e : H a = some (.ins C dx fs)) (c : Cls X.K C) (n : q135 X.K C f) (l : fs.lookup f = some v)
  (h : ∀ u s', Inv X pins σ H s' -> RelV v u -> Q u s') : wpAny (model X.prog X.w) A (getAttr (.ref a) f b) Q E s := by
 obtain ⟨mA, O, r, _, _, _⟩ := q309 I.hok e
 obtain ⟨u, hu, ru⟩ := RelO.some_of (v := v) (o := mA f) (by rw [<- l]; exact r f)
 exact get_map I.kIn O (c.get f) c.hd n hu (q600 ru) (h u _ (I.tok _) ru)
theorem q537 (I : Inv X pins σ H s) (e : H a = some (.ins C dx fs)) (c : Cls X.K C) (k : Meth X.K C m g) (l : fs.lookup m = none)
  (h : Q (.ref g, [.ref a]) s) : wpAny (model X.prog X.w) A (getMethod (.ref a) m pl) Q E s := by
 obtain ⟨mA, O, r, _, _, _⟩ := q309 I.hok e
 have hn : mA m = none := RelO.none_of (by rw [<- l]; exact r m)
 exact get_meth I.kIn O (c.get m) k.at_ k.fn hn h
theorem q538 (I : Inv X pins σ H s) (e : H a = some (.ins C dx fs)) (c : Cls X.K C) (n : q135 X.K C f) (hl : fs.length < 1000) (ry : RelV y u)
  (h : ∀ s', Inv X pins σ (upd H a (.ins C dx (putF f y fs))) s' -> Q () s') : wpAny (model X.prog X.w) A (setAttr (.ref a) f u) Q E s := by
 obtain ⟨mA, O, r, wi, _, ho⟩ := q309 I.hok e
 have hz : (fs.map (·.1)).length <= sizeLine := by rw [List.length_map, sizeLine_eq]; omega
 refine set_map I.kIn O c.sa c.po n.taker c.hd wi hz fun h' O' sb => h _ ?_
 have hd : ∃ o, h'.get? dx = some o := let ⟨o, _, _, e', _⟩ := O'.ns; ⟨o, e'⟩
 refine I.write (x := a) (e := dx) (by rw [e]; exact True.intro) (.inr ho) (fun b q hb z => (sb.2 b hb).trans z) hd ?_
 refine ⟨by rw [q34 O.ne]; exact ho, ?_, O.ne, O'.obj, _, O'.ns, fun g => ?_, fun g hg => ?_⟩
 ·have := q209 f y fs; omega
 ·show RelO ((putF f y fs).lookup g) (if g = f then some u else mA g)
  rw [q207]
  by_cases q : g = f
  ·rw [if_pos q, if_pos q]; exact ry
  ·rw [if_neg q, if_neg q]; exact r g
 ·by_cases q : g = f
  ·rw [q]; exact (q208 f y fs).1
  ·refine (q208 f y fs).2 g (wi g fun z => hg ?_)
   show (if g = f then some u else mA g) = none
   rw [if_neg q]; exact z
theorem Inv.made (I : Inv X pins σ H s) : Inv X pins σ (upd (upd H s.heap.objs.size (.own (s.heap.objs.size + 1))) (s.heap.objs.size + 1) (.ins C s.heap.objs.size []))
  { s with heap := (s.heap.push PySem.W.emptyDict).push (PySem.W.instObj C s.heap.objs.size) } := by
 have e1 : (s.heap.push PySem.W.emptyDict).get? s.heap.objs.size = some PySem.W.emptyDict := Heap.get?_push_size s.heap rfl
 have e2 : ((s.heap.push PySem.W.emptyDict).push (PySem.W.instObj C s.heap.objs.size)).get? (s.heap.objs.size + 1) = some (PySem.W.instObj C s.heap.objs.size) := by
  have := Heap.get?_push_size (s.heap.push PySem.W.emptyDict) (o := PySem.W.instObj C s.heap.objs.size) rfl
  rwa [Heap.size_push] at this
 have e3 : (s.heap.push PySem.W.emptyDict).Ns s.heap.objs.size (fun _ => none) := ⟨PySem.W.emptyDict, #[], _, e1, rfl, (fun e he => absurd he (by simp)), fun _ => rfl⟩
 have I1 := I.laid (a := s.heap.objs.size) (o := .own (s.heap.objs.size + 1)) (h' := s.heap.push PySem.W.emptyDict) (t' := s.toks) (fun b u q => Heap.get?_push_of_some _ q) (Nat.le_refl _) ⟨_, e1⟩
 refine I1.laid (a := s.heap.objs.size + 1) (o := .ins C s.heap.objs.size []) (t' := s.toks) (fun b u q => Heap.get?_push_of_some _ q) (Nat.le_of_eq (Heap.size_push _ _)) ?_
 have ne : s.heap.objs.size ≠ s.heap.objs.size + 1 := Nat.ne_of_lt (Nat.lt_succ_self _)
 refine ⟨by rw [q34 ne, q14], Nat.zero_le _, ne, e2, fun _ => none, (Heap.Ns1.of_empty e3).at fun o q => Heap.get?_push_of_some _ q, fun _ => True.intro, fun y hy => absurd rfl hy⟩
theorem attr_of (hb : attributeBase e f env (eval e env) = eval e env)
  (h : wpAny (model prog w) A (eval e env) (fun o s₁ => wpAny (model prog w) A (getAttr o f true) Q E s₁) E s) : wpAny (model prog w) A (eval (.Attribute e f pos) env) Q E s :=
 Attribute_any_ h (by rw [arm_eval_Attribute, hb])
end
def tFld (K : Fg) (ta : TE) (f : Str) : TE := fun σ H Q => ta σ H fun x H1 => ∃ a C dx fs v, x = .ref a /\ H1 a = some (.ins C dx fs) /\ Cls K C /\ q135 K C f /\ fs.lookup f = some v /\ Q v H1
def sFld (K : Fg) (ta tv : TE) (f : Str) : TS := fun D σ H => tv σ H fun y H1 => ta σ H1 fun x H2 => ∃ a C dx fs, x = .ref a /\ H2 a = some (.ins C dx fs) /\ Cls K C /\ q135 K C f /\ fs.length < 1000 /\
 D.nx σ (upd H2 a (.ins C dx (putF f y fs)))
section
variable {o e value : Expr} {f : Str} {pos pos' tpos : Pos} {ta tv : TE}
theorem q68 (he : PE X e ta) (hb : attributeBase e f X.env (eval e X.env) = eval e X.env) : PE X (.Attribute e f pos) (tFld X.K ta f) := by
 intro pins s σ H Q I h
 refine attr_of hb (thn (he pins s σ H _ I h) fun u s1 ⟨x, H1, I1, rx, a, C, dx, fs, v, ex, ea, c, n, l, q⟩ => ?_)
 subst ex
 obtain rfl : u = Value.ref a := rx
 exact q536 I1 ea c n l fun u' s2 I2 ru => ⟨v, H1, I2, ru, q⟩
theorem q491 (ha : PE X o ta) (hv : PE X value tv) (hs : swapsWith value (some (.Attribute o f pos')) pos.line X.env = pure false) : PS X (.Assign [.Attribute o f pos'] value pos) (sFld X.K ta tv f) := by
 intro pins s σ H D I h
 refine plainObj_wpAny_Assign_Attribute (thn (hv pins s σ H _ I h) fun u s1 ⟨y, H1, I1, ry, q⟩ => thn (ha pins s1 σ H1 _ I1 q) fun ov s2 ⟨x, H2, I2, rx, a, C, dx, fs, ex, ea, c, n, l, q2⟩ => ?_) hs
 subst ex
 obtain rfl : ov = Value.ref a := rx
 exact q538 I2 ea c n l ry fun s3 I3 => ⟨σ, _, I3, q2⟩
end
section
variable {pins : List (Addr × Obj)} {σ : St} {H : Hp} {s : Shared} {A : Around} {E : VS} {Q : VS} {c : Value} {b : Bool}
inductive TyOf (K : Fg) (H : Hp) : V -> Value -> Prop where
 | non : TyOf K H .non (.type "NoneType")
 | bl (x : Bool) : TyOf K H (.bl x) (.type "bool")
 | int (i : Int) : TyOf K H (.int i) (.type "int")
 | str (x : Str) : TyOf K H (.str x) (.type "str")
 | flt (x : UInt64) : TyOf K H (.flt x) (.type "float")
 | lst {a : Addr} {xs : List V} (e : H a = some (.lst xs)) : TyOf K H (.ref a) (.type "list")
 | frz {a : Addr} {o : Obj} {xs : List V} (e : H a = some (.frz o (.lst xs))) : TyOf K H (.ref a) (.type "list")
 | tup {a : Addr} {xs : List V} (e : H a = some (.tup xs)) : TyOf K H (.ref a) (.type "tuple")
 | dK {a : Addr} {kvs : List (Key × V)} (e : H a = some (.dK kvs)) : TyOf K H (.ref a) (.type "dict")
 | dT {a : Addr} {kvs : List (List Key × V)} (e : H a = some (.dT kvs)) : TyOf K H (.ref a) (.type "dict")
 | ins {a C dx : Addr} {fs : List (Str × V)} (e : H a = some (.ins C dx fs)) (cl : Cls K C) (ha : PySem.W.findIn K (.ref C) "__class__" = some (some (.builtin "object.__class__")))
   (hn : PySem.W.specialIn K (.builtin "object.__class__") "__get__" = some (some (.builtin "getset_descriptor.__get__"))) (htk : PySem.W.takesIn K (.builtin "object.__class__") = some true)
   (hm : PySem.W.mroIn K C (.type "object") = some true) : TyOf K H (.ref a) (.ref C)
theorem q601 (I : Inv X pins σ H s) (rx : RelV x u) (ty : TyOf X.K H x t) (e : PySem.W.kitOne X.K t c = some b) (h : ∀ tk, Q (.bool b) { s with toks := tk }) :
  wpAny (model X.prog X.w) A (call (.builtin "isinstance") [u, c]) Q E s := by
 cases ty with
 | non => cases (show u = Value.none from rx); exact PySem.W.kia_one PySem.W.kitx_none I.kIn True.intro e (fun z => nomatch z) h
 | bl y => cases (show u = Value.bool y from rx); exact PySem.W.kia_one PySem.W.kitx_bool I.kIn True.intro e (fun z => nomatch z) h
 | int i => obtain ⟨t, q⟩ := (show ∃ t, u = Value.int i t from rx); cases q; exact PySem.W.kia_one PySem.W.kitx_int I.kIn True.intro e (fun z => nomatch z) h
 | str y => obtain ⟨t, q⟩ := (show ∃ t, u = Value.str y t from rx); cases q; exact PySem.W.kia_one PySem.W.kitx_str I.kIn True.intro e (fun z => nomatch z) h
 | flt y => obtain ⟨t, q⟩ := (show ∃ t, u = Value.float y t from rx); cases q; exact PySem.W.kia_one PySem.W.kitx_float I.kIn True.intro e (fun z => nomatch z) h
 | @lst a xs ea =>
  cases (show u = Value.ref a from rx)
  obtain ⟨_, _, n, _, h1⟩ := (show ObjOk X.prog X.w H s.heap a (.lst xs) from I.hok a _ ea)
  exact PySem.W.kia_one PySem.W.kitx_list I.kIn ⟨_, h1, rfl⟩ e (fun z => nomatch z) h
 | @frz a ob xs ea =>
  cases (show u = Value.ref a from rx)
  obtain ⟨_, _, _, n, _, h1⟩ := (show ObjOk X.prog X.w H s.heap a (.frz ob (.lst xs)) from I.hok a _ ea)
  exact PySem.W.kia_one PySem.W.kitx_list I.kIn ⟨_, h1, rfl⟩ e (fun z => nomatch z) h
 | @tup a xs ea =>
  cases (show u = Value.ref a from rx)
  obtain ⟨_, _, _, p⟩ := (show ObjOk X.prog X.w H s.heap a (.tup xs) from I.hok a _ ea)
  obtain ⟨o, h1, h2, _⟩ := p
  exact PySem.W.kia_one PySem.W.kitx_tuple I.kIn ⟨o, h1, h2⟩ e (fun z => nomatch z) h
 | @dK a kvs ea =>
  cases (show u = Value.ref a from rx)
  obtain ⟨_, _, vs, _, p⟩ := (show ObjOk X.prog X.w H s.heap a (.dK kvs) from I.hok a _ ea)
  obtain ⟨o, es, ep, h1, h2, _⟩ := p
  exact PySem.W.kia_one PySem.W.kitx_dict I.kIn ⟨o, h1, h2.1⟩ e (fun z => nomatch z) h
 | @dT a kvs ea =>
  cases (show u = Value.ref a from rx)
  obtain ⟨_, _, xs, _, o, es, ep, h1, h2, _⟩ := (show ObjOk X.prog X.w H s.heap a (.dT kvs) from I.hok a _ ea)
  exact PySem.W.kia_one PySem.W.kitx_dict I.kIn ⟨o, h1, h2.1⟩ e (fun z => nomatch z) h
 | @ins a C dx fs ea cl ha hn htk hm =>
  cases (show u = Value.ref a from rx)
  obtain ⟨mA, O, _⟩ := q309 I.hok ea
  obtain ⟨od, J, _⟩ := O.look
  exact PySem.W.kia_one (PySem.W.kitx_own (cl.get _) cl.hd ha hn htk hm) I.kIn J e (fun z => nomatch z) h
end
structure Room (k : Nat) (A : Around) : Prop where
 hd : A.handled = none
 dp : A.depth + 3 * k + 5 < recursionLimit
 un : A.units + 16 * k + 200 < cLine
theorem Room.mono {j k : Nat} (r : Room k A) (h : j <= k) : Room j A := ⟨r.hd, by have := r.dp; omega, by have := r.un; omega⟩
theorem Room.deeper {k : Nat} {A : Around} (r : Room (k + 1) A) (env : Env) : Room k (A.deeper env) :=
 ⟨r.hd, by have := r.dp; show A.depth + 1 + 3 * k + 5 < _; omega, by have := r.un; show A.units + 3 + 16 * k + 200 < _; omega⟩
theorem q539 {A : Around} : (A.under (.builtin "type.__call__" ⟨.ref C :: us, kw⟩)).depth = A.depth + 1 := by
 first | rfl | simp [Around.under, Code.weight, Code.isCreation, Code.isGuard, Code.isCaller, Code.frames, Code.isFrame, guardIds]
theorem q540 {A : Around} : (A.under (.builtin "type.__call__" ⟨.ref C :: us, kw⟩)).units = A.units + 1 := by
 first | rfl | simp [Around.under, Code.cUnits, Code.frames, Code.isFrame]
theorem Room.make {k : Nat} {A : Around} (r : Room (k + 1) A) (C : Addr) (us : List Value) (kw : List (Str × Value)) : Room k (A.under (.builtin "type.__call__" ⟨.ref C :: us, kw⟩)) :=
 ⟨r.hd, by have := r.dp; rw [q539]; omega, by have := r.un; rw [q540]; omega⟩
theorem Room.depth {k : Nat} {A : Around} (r : Room k A) : A.depth < recursionLimit := by have := r.dp; omega
theorem Room.units {k : Nat} {A : Around} (r : Room k A) : A.units + 64 < cLine := by have := r.un; omega
def tNil : TA := fun _ H Q => Q [] H
def tCons (ta : TE) (tr : TA) : TA := fun σ H Q => ta σ H fun x H1 => tr σ H1 fun xs H2 => Q (x :: xs) H2
section
variable {e : Expr} {es : List Expr} {te : TE} {t : TA} {pos : Pos}
theorem q11 : PA X [] tNil := fun _ _ _ _ H Q I h => Calls.spliced_nil ⟨[], H, I, .nil, h⟩
theorem q10 (ha : PE X e te) (hr : PA X es t) (hs : starEach (e :: es) X.env = (false, eval e X.env) :: starEach es X.env := by rfl) : PA X (e :: es) (tCons te t) := by
 intro pos pins s σ H Q I h
 rw [hs]
 show wpAny _ _ (spliced ((false, eval e X.env) :: backTo pos (starEach es X.env))) _ _ s
 refine Calls.spliced_cons (thn (ha pins s σ H _ I h) fun u s1 ⟨x, H1, I1, r1, q1⟩ => ?_)
 exact thn (hr pos pins s1 σ H1 _ I1 q1) fun us s2 ⟨xs, H2, I2, r2, q2⟩ => ⟨x :: xs, H2, I2, .cons r1 r2, q2⟩
def tTup (t : TA) : TE := fun σ H Q => t σ H fun xs H1 => xs.length <= sizeLine /\ ∀ p, H1 p = none -> Q (.ref p) (upd H1 p (.tup xs))
def tLst (t : TA) : TE := fun σ H Q => t σ H fun xs H1 => xs.length <= sizeLine /\ ∀ p, H1 p = none -> Q (.ref p) (upd H1 p (.lst xs))
theorem q27 {x1} (h : PA X es t) : PE X (.Tuple es x1 pos) (tTup t) := by
 intro pins s σ H Q I hq
 refine wpAny_Tuple_spliced (thn (h pos pins s σ H _ I hq) fun us s1 ⟨xs, H1, I1, r, z, q⟩ => ⟨by rw [<- r.length]; exact z, ?_⟩)
 have hf : H1 s1.heap.objs.size = none := I1.hok.fresh (Nat.le_refl _)
 refine ⟨.ref s1.heap.objs.size, upd H1 s1.heap.objs.size (.tup xs), I1.laid (t' := s1.toks) (fun b u e => Heap.get?_push_of_some _ e) (Nat.le_refl _) ?_, rfl, q _ hf⟩
 exact ⟨z, us, r, ⟨_, Heap.get?_push_size _ rfl, rfl, _, rfl⟩⟩
theorem q35 (h : PA X es t) : PE X (.List es pos) (tLst t) := by
 intro pins s σ H Q I hq
 refine wpAny_List_spliced (thn (h pos pins s σ H _ I hq) fun us s1 ⟨xs, H1, I1, r, z, q⟩ => ⟨by rw [<- r.length]; exact z, ?_⟩)
 have hf : H1 s1.heap.objs.size = none := I1.hok.fresh (Nat.le_refl _)
 refine ⟨.ref s1.heap.objs.size, upd H1 s1.heap.objs.size (.lst xs), I1.laid (t' := s1.toks) (fun b u e => Heap.get?_push_of_some _ e) (Nat.le_refl _) ?_, rfl, q _ hf⟩
 exact ⟨z, us, 0, r, Heap.get?_push_size _ rfl⟩
end
abbrev Sp := List V -> Hp -> VK -> XK -> Prop
abbrev CXT := List Env -> Hp -> Shared -> XK -> VS
structure Env0 (P : Program) (w : World) (K : Fg) (mg : Mg) (base : Heap) (A : Around) (outer : List Env) (s : Shared) (H : Hp) : Prop where
 frames : A.frames = some outer
 mod : Mod K mg base
 bs : ∀ b o, base.get? b = some o -> s.heap.get? b = some o /\ H b = none
 bsz : base.objs.size <= s.heap.objs.size
 funs : s.heap.FunFrames base outer
 frf : ∀ b ∈ frs outer, H b = none
 hok : HOk P w H s.heap
 bare : AllBare s.gens
def CE (outer : List Env) (P : Program) (w : World) (H : Hp) (s : Shared) (Q : VK) (u : Value) (s' : Shared) : Prop :=
 ∃ v H', s'.os = s.os /\ AllBare s'.gens /\ Un (frs outer) [] H H' s.heap s'.heap /\ HOk P w H' s'.heap /\ RelV v u /\ Q v H'
def CR (CX : CXT) (outer : List Env) (P : Program) (w : World) (H : Hp) (s : Shared) (Q : VK) (E : XK) (r : Result) (s' : Shared) : Prop :=
 match r with
 | .ok (.ret u) => CE outer P w H s Q u s'
 | .ok _ => False
 | .error e => CX outer H s E e s'
structure FnOk (P : Program) (w : World) (K : Fg) (mg : Mg) (base : Heap) (CX : CXT) (k : Nat) (f : Addr) (fd : FuncData) (ps : List Str) (sp : Sp) : Prop where
 len : ∀ vs H Q E, sp vs H Q E -> vs.length = ps.length
 run : ∀ (A : Around) (outer : List Env) (s : Shared) (H : Hp) (args : Args) (us : List Value) (vs : List V) (Q : VK) (E : XK), Room k A -> Env0 P w K mg base A outer s H -> BindsTo s fd args (ps.zip us) -> Vals vs us -> sp vs H Q E ->
  codeAny (model P w) A (.call (.ref f) args) (CR CX outer P w H s Q E) s
theorem FnOk.mono {P : Program} {w : World} {K : Fg} {mg : Mg} {base : Heap} {CX : CXT} {j k : Nat} {f : Addr} {fd : FuncData} {ps : List Str} {sp : Sp} (F : FnOk P w K mg base CX j f fd ps sp) (h : j <= k) :
  FnOk P w K mg base CX k f fd ps sp := ⟨F.len, fun A outer s H args us vs Q E hr => F.run A outer s H args us vs Q E (hr.mono h)⟩
theorem Env0.make {P : Program} {w : World} {K : Fg} {mg : Mg} {base : Heap} {A : Around} {outer : List Env} {s : Shared} {H : Hp} (e : Env0 P w K mg base A outer s H) (C : Addr) (us : List Value) (kw : List (Str × Value)) :
  Env0 P w K mg base (A.under (.builtin "type.__call__" ⟨.ref C :: us, kw⟩)) outer s H := ⟨by first | exact e.frames | (simpa [Around.under, Code.envs, Code.isFrame, pushEnvs] using e.frames), e.mod, e.bs, e.bsz, e.funs, e.frf, e.hok, e.bare⟩
section
variable {pins : List (Addr × Obj)} {σ : St} {H : Hp} {s s' : Shared}
theorem Inv.env0 (I : Inv X pins σ H s) : Env0 X.prog X.w X.K X.mg X.base X.A X.stack s H :=
 ⟨I.ok.frames, I.ok.mod, I.bs, Nat.le_trans I.ok.bsz I.sz, I.stack, I.stkFree, I.hok, I.bare⟩
theorem Inv.after (I : Inv X pins σ H s) (h : CE X.stack X.prog X.w H s Q u s') : EP X pins σ Q u s' := by
 obtain ⟨v, H', os, bare, un, hok, r, q⟩ := h
 obtain ⟨hh, g, d, t, os'⟩ := s'
 obtain rfl : os' = s.os := os
 exact ⟨v, H', I.call (h' := hh) (g' := g) (d' := d) (t' := t) (ch := []) un hok bare (fun b z => absurd z (by simp)), r, q⟩
end
def tCall (sp : Sp) (dvs : List V) (E : XK) (t : TA) : TE := fun σ H Q => t σ H fun vs H1 => sp (vs ++ dvs) H1 Q E
def tMeth (C : Addr) (m : Str) (sp : Sp) (dvs : List V) (E : XK) (ta : TE) (t : TA) : TE := fun σ H Q => ta σ H fun x H1 => ∃ a dx fs, x = .ref a /\ H1 a = some (.ins C dx fs) /\ fs.lookup m = none /\
 t σ H1 fun vs H2 => sp (x :: (vs ++ dvs)) H2 Q E
def tMake (C : Addr) (sp : Sp) (dvs : List V) (E : XK) (t : TA) : TE := fun σ H Q => t σ H fun vs H1 => ∀ x dx, H1 x = none -> H1 dx = none -> dx ≠ x ->
 sp (.ref x :: (vs ++ dvs)) (upd (upd H1 dx (.own x)) x (.ins C dx [])) (fun v H2 => v = .non /\ Q (.ref x) H2) E
def Binds (K : Fg) (fd : FuncData) (ps : List Str) (ds : List Value) : Prop :=
 ∀ (s : Shared) (us : List Value), K.In s.heap -> (us ++ ds).length = ps.length -> BindsTo s fd ⟨us, []⟩ (ps.zip (us ++ ds))
theorem Binds.all {K : Fg} {fd : FuncData} {ps : List Str} (h : ∀ us : List Value, us.length = ps.length -> bindArgs fd ⟨us, []⟩ = pure (ps.zip us)) : Binds K fd ps [] := fun s us _ hl => by
 rw [List.append_nil] at hl ⊢
 exact .of_eq (h us hl)
def q277 (CX : CXT) (X : Cx) (E : XK) : Prop := ∀ (pins : List (Addr × Obj)) (σ : St) (H : Hp) (s : Shared) (e : Value) (s' : Shared), Inv X pins σ H s -> CX X.stack H s E e s' -> X.xe e s'
section
variable {CX : CXT} {k : Nat} {f C : Addr} {fd : FuncData} {ps : List Str} {sp : Sp} {dvs : List V} {ds : List Value} {E : XK} {x m : Str} {p pos apos : Pos} {e o : Expr} {es : List Expr} {ta : TE} {t : TA}
theorem run_fn (F : FnOk X.prog X.w X.K X.mg X.base CX k f fd ps sp) (hr : Room k X.A) (hb : Binds X.K fd ps ds) (hd : Vals dvs ds) (hx : q277 CX X E)
  (I : Inv X pins σ H s) (r : Vals vs us) (h : sp (vs ++ dvs) H Q E) : wpAny (model X.prog X.w) X.A (call (.ref f) us) (EP X pins σ Q) X.xe s := by
 have r2 : Vals (vs ++ dvs) (us ++ ds) := r.append hd
 have hl : (us ++ ds).length = ps.length := by rw [<- r2.length]; exact F.len _ _ _ _ h
 refine wpAny_call (codeAny_mono (F.run X.A X.stack s H ⟨us, []⟩ (us ++ ds) (vs ++ dvs) Q E hr I.env0 (hb s us I.kIn hl) r2 h) fun r s' hq => ?_)
 cases r with
 | error e => exact hx pins σ H s e s' I hq
 | ok fl =>
  cases fl with
  | ret u => exact I.after hq
  | next => exact False.elim hq
  | brk => exact False.elim hq
  | cont => exact False.elim hq
theorem pe_call (F : FnOk X.prog X.w X.K X.mg X.base CX k f fd ps sp) (hr : Room k X.A) (hg : Gl X x) (hm : X.mg x = some (.ref f)) (hk : PySem.W.keepIn X.K (.ref f) = true) (hb : Binds X.K fd ps ds) (hd : Vals dvs ds) (hx : q277 CX X E)
  (ha : PA X (e :: es) t) (hdb : (x == ("__debug__" : Str)) = false := by decide) (he : starEach (e :: es) X.env = (false, eval e X.env) :: starEach es X.env := by rfl) (hpl : (backTo pos (starEach es X.env)).any (·.1) = false := by rfl) :
  PE X (.Call (.Name x p) (e :: es) [] pos) (tCall sp dvs E t) := by
 intro pins s σ H Q I h
 refine wpAny_Call_Name_kw (q435 I hg hm ?_ hdb)
 refine PySem.W.callWith_K (h₀ := X.base) I.ok.mod.kin hk (thn (ha pos pins s σ H _ I h) fun us s1 ⟨vs, H1, I1, r, q⟩ => ⟨I1.kIn, ?_⟩) he hpl
 exact run_fn F hr hb hd hx I1 r q
theorem pe_meth {pl : Sem Bool} (he : PE X o ta) (c : Cls X.K C) (hm : Meth X.K C m f) (F : FnOk X.prog X.w X.K X.mg X.base CX k f fd ps sp) (hr : Room k X.A) (hb : Binds X.K fd ps ds) (hd : Vals dvs ds) (hx : q277 CX X E) (ha : PA X (e :: es) t)
  (hst : starEach (e :: es) X.env = (false, eval e X.env) :: starEach es X.env := by rfl) (hpl : (backTo pos (starEach es X.env)).any (·.1) = false := by rfl)
  (ht : eval (.Call (.Attribute o m apos) (e :: es) [] pos) X.env = (do
   let ov <- eval o X.env
   standAt apos.atName
   let (f, first) <- holding [ov] (getMethod ov m pl)
   callWith pos f first (backTo pos (starEach (e :: es) X.env)) (backToKw pos (keywordEach [] X.env))) := by rfl) :
  PE X (.Call (.Attribute o m apos) (e :: es) [] pos) (tMeth C m sp dvs E ta t) := by
 intro pins s σ H Q I h
 refine PySem.W.methodCall_KW (pl := pl) (thn (he pins s σ H _ I h) fun u s1 ⟨x, H1, I1, rx, a, dx, fs, ex, ea, l, q⟩ => ?_) ht
 subst ex
 obtain rfl : u = Value.ref a := rx
 refine q537 I1 ea c hm l ?_
 refine PySem.W.callWith_K (first := [.ref a]) (h₀ := X.base) I.ok.mod.kin hm.kp (thn (ha pos pins s1 σ H1 _ I1 q) fun us s2 ⟨vs, H2, I2, r, q2⟩ => ⟨I2.kIn, ?_⟩) hst hpl
 exact run_fn (us := .ref a :: us) (vs := .ref a :: vs) F hr hb hd hx I2 (.cons rfl r) q2
structure Mk (K : Fg) (C f : Addr) : Prop where
 makes : PySem.W.makesIn K C = true
 init : PySem.W.findIn K (.ref C) "__init__" = some (some (.ref f))
 fn : PySem.W.isFn K (.ref f) = true
 kp : PySem.W.keepIn K (.ref C) = true
theorem run_make (M : Mk X.K C f) (F : FnOk X.prog X.w X.K X.mg X.base CX k f fd ps sp) (hr : Room (k + 1) X.A) (hb : Binds X.K fd ps ds) (hd : Vals dvs ds)
  (hx : q277 CX X E) (I : Inv X pins σ H s) (r : Vals vs us)
  (h : ∀ x dx, H x = none -> H dx = none -> dx ≠ x -> sp (.ref x :: (vs ++ dvs)) (upd (upd H dx (.own x)) x (.ins C dx [])) (fun v H2 => v = .non /\ Q (.ref x) H2) E) :
  wpAny (model X.prog X.w) X.A (call (.ref C) us) (EP X pins σ Q) X.xe s := by
 have hq := h (s.heap.objs.size + 1) s.heap.objs.size (I.hok.fresh (Nat.le_succ _)) (I.hok.fresh (Nat.le_refl _)) (Nat.ne_of_lt (Nat.lt_succ_self _))
 have I2 := Inv.made (C := C) I
 have r2 : Vals (V.ref (s.heap.objs.size + 1) :: (vs ++ dvs)) (Value.ref (s.heap.objs.size + 1) :: (us ++ ds)) := .cons rfl (r.append hd)
 have hl : (Value.ref (s.heap.objs.size + 1) :: us ++ ds).length = ps.length := by
  have e := r2.length
  rw [F.len _ _ _ _ hq] at e
  exact e.symm
 refine wpAny_call (make_map (f := f) I.kIn M.makes M.init (beq_iff_eq.mp M.fn) (codeAny_mono (F.run _ X.stack _ _ ⟨Value.ref (s.heap.objs.size + 1) :: us, []⟩ (Value.ref (s.heap.objs.size + 1) :: (us ++ ds)) _ _ E (hr.make C us [])
  (I2.env0.make C us []) (hb _ (Value.ref (s.heap.objs.size + 1) :: us) I2.kIn hl) r2 hq) fun r s' hq' => ?_))
 cases r with
 | error e => exact hx pins σ _ _ e s' I2 hq'
 | ok fl =>
  cases fl with
  | ret u =>
   obtain ⟨v, H', I3, rv, ev, q3⟩ := I2.after hq'
   subst ev
   exact ⟨rv, ⟨V.ref (s.heap.objs.size + 1), H', I3, rfl, q3⟩⟩
  | next => exact False.elim hq'
  | brk => exact False.elim hq'
  | cont => exact False.elim hq'
theorem pe_make (M : Mk X.K C f) (F : FnOk X.prog X.w X.K X.mg X.base CX k f fd ps sp) (hr : Room (k + 1) X.A) (hg : Gl X x) (hm : X.mg x = some (.ref C)) (hb : Binds X.K fd ps ds) (hd : Vals dvs ds) (hx : q277 CX X E)
  (ha : PA X (e :: es) t) (hdb : (x == ("__debug__" : Str)) = false := by decide) (he : starEach (e :: es) X.env = (false, eval e X.env) :: starEach es X.env := by rfl) (hpl : (backTo pos (starEach es X.env)).any (·.1) = false := by rfl) :
  PE X (.Call (.Name x p) (e :: es) [] pos) (tMake C sp dvs E t) := by
 intro pins s σ H Q I h
 refine wpAny_Call_Name_kw (q435 I hg hm ?_ hdb)
 refine PySem.W.callWith_K (h₀ := X.base) I.ok.mod.kin M.kp (thn (ha pos pins s σ H _ I h) fun us s1 ⟨vs, H1, I1, r, q⟩ => ⟨I1.kIn, ?_⟩) he hpl
 exact run_make M F hr hb hd hx I1 r q
end
section
variable {CX : CXT} {k : Nat} {f C : Addr} {fd : FuncData} {ps ks : List Str} {sp : Sp} {E : XK} {x m : Str} {p pos apos kpos : Pos} {e o : Expr} {es : List Expr} {kws : List Keyword} {te ta : TE} {t tk : TA} {nm : Option Str}
structure KBinds (K : Fg) (fd : FuncData) (ps ks : List Str) (g : List Value -> List Value -> List Value) (gV : List V -> List V -> List V) : Prop where
 to : ∀ (s : Shared) (us ws : List Value), K.In s.heap -> (g us ws).length = ps.length -> BindsTo s fd ⟨us, ks.zip ws⟩ (ps.zip (g us ws))
 rel : ∀ {vs : List V} {us : List Value} {zs : List V} {ws : List Value}, Vals vs us -> Vals zs ws -> Vals (gV vs zs) (g us ws)
variable {g : List Value -> List Value -> List Value} {gV : List V -> List V -> List V}
end
structure FnScope (N P : List Str) (sc : Scope) : Prop where
 kind : sc.kind = .function
 co : sc.isCoroutine = false
 gen : sc.isGenerator = false
 nd : N.Nodup
 pre : N.take P.length = P
 par : ∀ x ∈ P, sc.names.lookup x = some .local \/ sc.names.lookup x = some .cell
 nofree : ∀ y ∈ sc.names, y.2 ≠ .free
theorem q360 {kindOf : Str -> Option NameKind} {x : Str} : ∀ {binds : List (Str × Value)} {m : Mg}, (∀ v, (x, v) ∉ binds) -> bindL kindOf binds m x = m x
 | [], _, _ => rfl
 | (n, v) :: r, m, h => by
  unfold bindL
  rw [q360 fun w hw => h w (List.mem_cons_of_mem _ hw)]
  split
  ·have : x ≠ n := by rintro rfl; exact h v List.mem_cons_self
   simp [this]
  ·rfl
theorem q361 {kindOf : Str -> Option NameKind} {x : Str} : ∀ {binds : List (Str × Value)} {m : Mg}, (∀ v, (x, v) ∉ binds) -> bindC kindOf binds m x = m x
 | [], _, _ => rfl
 | (n, v) :: r, m, h => by
  unfold bindC
  rw [q361 fun w hw => h w (List.mem_cons_of_mem _ hw)]
  split
  ·rfl
  ·have : x ≠ n := by rintro rfl; exact h v List.mem_cons_self
   simp [this]
theorem q362 {kindOf : Str -> Option NameKind} {x : Str} {v : Value} : ∀ {P : List Str} {vs : List Value} {i : Nat} {m : Mg}, P.Nodup -> P[i]? = some x -> vs[i]? = some v -> kindOf x = some .local ->
  bindL kindOf (P.zip vs) m x = some v
 | [], _, _, _, _, h, _, _ => by simp at h
 | _ :: _, [], _, _, _, _, h, _ => by simp at h
 | p :: P, w :: vs, 0, m, nd, h1, h2, hk => by
  simp at h1 h2; subst h1; subst h2
  show bindL kindOf ((p, w) :: P.zip vs) m p = _
  unfold bindL
  rw [q360 fun v hv => (List.nodup_cons.mp nd).1 (List.of_mem_zip hv).1, if_pos hk]
  simp
 | p :: P, w :: vs, i + 1, m, nd, h1, h2, hk => by
  show bindL kindOf ((p, w) :: P.zip vs) m x = _
  unfold bindL
  exact q362 (i := i) (List.nodup_cons.mp nd).2 (by simpa using h1) (by simpa using h2) hk
theorem q363 {kindOf : Str -> Option NameKind} {x : Str} {v : Value} : ∀ {P : List Str} {vs : List Value} {i : Nat} {m : Mg}, P.Nodup -> P[i]? = some x -> vs[i]? = some v -> kindOf x ≠ some .local ->
  bindC kindOf (P.zip vs) m x = some v
 | [], _, _, _, _, h, _, _ => by simp at h
 | _ :: _, [], _, _, _, _, h, _ => by simp at h
 | p :: P, w :: vs, 0, m, nd, h1, h2, hk => by
  simp at h1 h2; subst h1; subst h2
  show bindC kindOf ((p, w) :: P.zip vs) m p = _
  unfold bindC
  rw [q361 fun v hv => (List.nodup_cons.mp nd).1 (List.of_mem_zip hv).1, if_neg hk]
  simp
 | p :: P, w :: vs, i + 1, m, nd, h1, h2, hk => by
  show bindC kindOf ((p, w) :: P.zip vs) m x = _
  unfold bindC
  exact q363 (i := i) (List.nodup_cons.mp nd).2 (by simpa using h1) (by simpa using h2) hk
def start (N : List Str) (vs : List V) : St := vs.map some ++ List.replicate (N.length - vs.length) none
def cxOf (CX : CXT) (P : Program) (w : World) (K : Fg) (mg : Mg) (base : Heap) (N : List Str) (qual : Str) (scope : Scope) (f : Addr) (cd : Value) (A : Around) (outer : List Env) (s : Shared) (H : Hp) (E : XK) : Cx where
 prog := P
 w := w
 K := K
 mg := mg
 base := base
 A := A.deeper (envOfC qual scope s.heap.objs.size f cd)
 N := N
 s₀ := s
 H₀ := H
 env := envOfC qual scope s.heap.objs.size f cd
 outer := outer
 stack := envOfC qual scope s.heap.objs.size f cd :: outer
 ex := []
 calm := true
 fn := fun _ => true
 pn := []
 xe := fun e s' => wpAny (model P w) (A.deeper (envOfC qual scope s.heap.objs.size f cd)) (leaving (envOfC qual scope s.heap.objs.size f cd) e) (fun _ s'' => CX outer H s E e s'') (fun e' s'' => CX outer H s E e' s'') s'
theorem q492 {sc : Scope} {n : Nat} (h : sc.names.lookup x = some .cell) : ∃ c, (cellsFrom n sc.names []).lookup x = some c := by
 have q := PySem.W.cellsFrom_some sc.names n [] (.inl h)
 exact Option.isSome_iff_exists.mp q
theorem q602 {CX : CXT} {P : Program} {w : World} {K : Fg} {mg : Mg} {base : Heap} {N ps : List Str} {qual : Str} {scope : Scope} {f : Addr} {cd : Value} {A : Around} {outer : List Env} {s s1 : Shared} {H : Hp} {E : XK} {us : List Value} {vs : List V}
  (S : FnScope N ps scope) (hd : A.handled = none) (e0 : Env0 P w K mg base A outer s H) (hl : vs.length = ps.length) (r : Vals vs us)
  (x : InCallC s s.heap.objs.size (bindL (envOfC qual scope s.heap.objs.size f cd).kindOf (ps.zip us) fun _ => none) (cellsFrom (s.heap.objs.size + 1) scope.names []) (bindC (envOfC qual scope s.heap.objs.size f cd).kindOf (ps.zip us) fun _ => none) s1) :
  Inv (cxOf CX P w K mg base N qual scope f cd A outer s H E) [] (start N vs) H s1 := by
 have hpl : ps.length <= N.length := by have := congrArg List.length S.pre; rw [List.length_take] at this; omega
 obtain ⟨h1, tk, rfl, hk⟩ := x.done
 have noA : ∀ b : Addr, b ∉ (cxOf CX P w K mg base N qual scope f cd A outer s H E).ex := fun b z => absurd (show b ∈ ([] : List Addr) from z) (by simp)
 refine ⟨⟨e0.mod, S.kind, rfl, rfl, Nat.le_refl _, fun y z c h1 h2 => ?_, fun y hy => ?_, fun y c _ h => ?_, fun _ => hd, Around.frames_deeper e0.frames, .inr ⟨rfl, rfl⟩, fun b z => absurd z (noA b), e0.bs, e0.bsz, fun b _ _ => noA b, fun b z => absurd z (noA b), e0.funs, e0.frf⟩,
  rfl, e0.bare, Un.kept hk, ⟨_, x.toInCall.ns, fun i y v h1 h2 h3 => ?_⟩, fun y c h => ⟨_, x.cell y c h⟩, e0.hok.fresh (Nat.le_refl _), fun y c h => ?_, fun p hp => absurd (show p ∈ ([] : List (Addr × Obj)) from hp) (by simp), e0.hok.kept hk, ?_⟩
 ·exact name_of_addr x.apart (PySem.mem_of_lookup h1) (PySem.mem_of_lookup h2)
 ·have hy : scope.names.lookup y = some .cell \/ scope.names.lookup y = some .free := hy
  rcases hy with hy | hy
  ·exact q492 hy
  ·exact absurd rfl (S.nofree _ (PySem.mem_of_lookup hy))
 ·exact Nat.le_of_lt (x.above y c (PySem.mem_of_lookup h))
 ·have hi : i < vs.length := by
   unfold start at h2
   by_cases hi : i < vs.length
   ·exact hi
   ·rw [List.getElem?_append_right (by simpa using hi)] at h2
    rw [List.getElem?_replicate] at h2
    split at h2 <;> cases h2
  have ha : vs[i]? = some v := by
   unfold start at h2
   rw [List.getElem?_append_left (by simpa using hi), List.getElem?_map] at h2
   cases e : vs[i]? with
   | none => rw [e] at h2; cases h2
   | some a => rw [e] at h2; cases h2; rfl
  obtain ⟨u, hu, rv⟩ := r.get ha
  have hp : ps[i]? = some y := by
   rw [<- S.pre, List.getElem?_take_of_lt (by omega)]; exact h1
  have ndP : ps.Nodup := by rw [<- S.pre]; exact S.nd.sublist (List.take_sublist _ _)
  refine ⟨u, rv, ?_⟩
  rcases S.par y (List.mem_of_getElem? hp) with k | k
  ·exact .inl ⟨k, q362 ndP hp hu k⟩
  ·obtain ⟨c, e⟩ := q492 (n := s.heap.objs.size + 1) k
   refine .inr ⟨.inl k, c, e, ?_⟩
   have q := x.cell y c e
   rw [q363 ndP hp hu (by show scope.names.lookup y ≠ _; rw [k]; decide)] at q
   exact q
 ·exact e0.hok.fresh (Nat.le_of_lt (x.above y c (PySem.mem_of_lookup h)))
 ·unfold start
  show _ = N.length
  rw [List.length_append, List.length_map, List.length_replicate]
  omega
theorem fn_of {CX : CXT} {P : Program} {w : World} {K : Fg} {mg : Mg} {base : Heap} {k : Nat} {f : Addr} {name qual : Str} {params : Arguments} {body : List Stmt} {scope : Scope} {dV kV doc pm cdv ct oc : Value} {an od : Option Addr}
  {osl : Array (Option Value)} {N ps : List Str} {sp : Sp} (lk : K.lookup f = some ⟨oc, od, .func (PySem.W.fnOf name qual params body scope dV kV doc pm an cdv ct), osl⟩) (hcd : PySem.W.codeIn K cdv qual = true) (S : FnScope N ps scope)
  (len : ∀ vs H Q E, sp vs H Q E -> vs.length = ps.length)
  (hbody : ∀ (A : Around) (outer : List Env) (s : Shared) (H : Hp) (vs : List V) (Q : VK) (E : XK), Room k (A.deeper (envOfC qual scope s.heap.objs.size f cdv)) -> sp vs H Q E ->
   ∃ t, PSs (cxOf CX P w K mg base N qual scope f cdv A outer s H E) body t /\ t { nx := fun _ H' => Q .non H', rt := Q } (start N vs) H) :
  FnOk P w K mg base CX (k + 1) f (PySem.W.fnOf name qual params body scope dV kV doc pm an cdv ct) ps sp := by
 refine ⟨len, fun A outer s H args us vs Q E hr e0 hb r hsp => ?_⟩
 have hl := len _ _ _ _ hsp
 have KX : K.In s.heap := e0.mod.kin.keeps fun b o e => (e0.bs b o e).1
 have lim : s.heap.NoLimit := e0.mod.nolimit.keeps fun b o e => (e0.bs b o e).1
 have hkind : ∀ y ∈ ps.zip us, scope.names.lookup y.1 = some .local \/ (scope.names.lookup y.1 = some .cell /\ ((cellsFrom (s.heap.objs.size + 1) scope.names []).lookup y.1).isSome = true) := fun ⟨n, v⟩ hy => by
  rcases S.par n (List.of_mem_zip hy).1 with q | q
  ·exact .inl q
  ·exact .inr ⟨q, PySem.W.cellsFrom_some _ _ _ (.inl q)⟩
 refine codeAny_call_function hr.depth (KX _ _ lk) rfl S.co S.gen rfl (PySem.W.codeRec_of KX hcd) (hb _ _ _ _ ?_)
 refine wpAny_newFunctionEnv_cells S.kind hkind fun env he s1 x => ?_
 subst he
 refine ⟨lim.keeps x.toInCall.keep, codeAny_func ?_⟩
 obtain ⟨t, ht, hq⟩ := hbody A outer s H vs Q E (hr.deeper _) hsp
 have I : Inv (cxOf CX P w K mg base N qual scope f cdv A outer s H E) [] (start N vs) H s1 := q602 S hr.hd e0 hl r x
 refine wpAny_mono (ht [] s1 (start N vs) H _ I hq) (fun fl s' hs => ?_) fun e s' hs => hs
 have fin : ∀ {σ' : St} {H' : Hp} {v : V} {u : Value}, Inv (cxOf CX P w K mg base N qual scope f cdv A outer s H E) [] σ' H' s' -> RelV v u -> Q v H' -> CE outer P w H s Q u s' :=
  fun {σ' H' v u} J rv q => ⟨v, H', J.os, J.bare, J.base, J.hok, rv, q⟩
 cases fl with
 | ret u =>
  obtain ⟨v, σ', H', J, rv, q⟩ := hs
  exact fin J rv q
 | next =>
  obtain ⟨σ', H', J, q⟩ := hs
  exact fin (v := V.non) (u := Value.none) J rfl q
 | brk =>
  obtain ⟨_, _, _, q⟩ := hs
  exact False.elim q
 | cont =>
  obtain ⟨_, _, _, q⟩ := hs
  exact False.elim q
section
variable {x : Str} {p pos : Pos} {e : Expr} {es : List Expr} {t : TA} {id T : String} {r : List V -> Hp -> VK -> Prop}
def tCB (r : List V -> Hp -> VK -> Prop) (t : TA) : TE := fun σ H Q => t σ H fun vs H1 => r vs H1 Q
theorem q76 (hc : CallR X (.builtin id) r) (hg : Gl X x) (hm : X.mg x = none) (hv : bootBuiltins x = some (.builtin id)) (ha : PA X (e :: es) t) (hn : x ≠ "__name__" := by decide) (hdb : (x == ("__debug__" : Str)) = false := by decide)
  (he : starEach (e :: es) X.env = (false, eval e X.env) :: starEach es X.env := by rfl) (hpl : (backTo pos (starEach es X.env)).any (·.1) = false := by rfl) : PE X (.Call (.Name x p) (e :: es) [] pos) (tCB r t) := by
 intro pins s σ H Q I h
 refine wpAny_Call_Name_kw (q150 I hg hm hv ?_ hn hdb)
 exact PyProof.Rows.callWith_builtin1 (thn (ha pos pins s σ H _ I h) fun us s1 ⟨vs, H1, I1, r1, q1⟩ => hc pins s1 σ H1 vs us Q I1 r1 q1) he hpl
theorem q32 (hc : CallR X (.type T) r) (hg : Gl X x) (hm : X.mg x = none) (hv : bootBuiltins x = some (.type T)) (ha : PA X (e :: es) t) (hn : x ≠ "__name__" := by decide) (hdb : (x == ("__debug__" : Str)) = false := by decide)
  (he : starEach (e :: es) X.env = (false, eval e X.env) :: starEach es X.env := by rfl) (hpl : (backTo pos (starEach es X.env)).any (·.1) = false := by rfl) : PE X (.Call (.Name x p) (e :: es) [] pos) (tCB r t) := by
 intro pins s σ H Q I h
 refine wpAny_Call_Name_kw (q150 I hg hm hv ?_ hn hdb)
 exact PyProof.Rows.callWith_type1 (thn (ha pos pins s σ H _ I h) fun us s1 ⟨vs, H1, I1, r1, q1⟩ => hc pins s1 σ H1 vs us Q I1 r1 q1) he hpl
end
end L2
namespace HT
set_option autoImplicit false
open PySem PyProof.Rows
section
open PySem.SeqAt
open PySem.AutoSeq1 (wpAny_loadPart')
open PySem.MeetsSeq PySem.MeetsSeq2 PySem.MeetsSeq3
end
section
variable {prog : Program} {w : World} {A : Around} {E : VS} {s : Shared}
def sIx (n d : Nat) : Option Int -> Nat
 | none => d
 | some v => if v < 0 then (v + (n : Int)).toNat else min v.toNat n
theorem q714 (n d : Nat) : sIx n d none = d := rfl
theorem q715 (n d k : Nat) : sIx n d (some (k : Int)) = min k n := by
 show (if (k : Int) < 0 then ((k : Int) + (n : Int)).toNat else min (k : Int).toNat n) = min k n
 rw [if_neg (by omega), Int.toNat_natCast]
theorem sIx_le (n d : Nat) (hd : d <= n) (o : Option Int) : sIx n d o <= n := by
 cases o with
 | none => exact hd
 | some v =>
  show (if v < 0 then (v + (n : Int)).toNat else min v.toNat n) <= n
  by_cases hv : v < 0
  ·rw [if_pos hv]; omega
  ·rw [if_neg hv]; exact Nat.min_le_right _ _
theorem q603 (v : Int) (n d : Nat) : (if v < 0 then max (v + (n : Int)) 0 else min v (n : Int)) = ((sIx n d (some v) : Nat) : Int) := by
 show (if v < 0 then max (v + (n : Int)) 0 else min v (n : Int)) = (((if v < 0 then (v + (n : Int)).toNat else min v.toNat n) : Nat) : Int)
 by_cases hv : v < 0
 ·simp only [if_pos hv]; omega
 ·simp only [if_neg hv]; omega
theorem q541 (lo hi : Option Int) (n : Nat) : Builtin.Slice.sliceAdjust lo hi 1 (n : Int) = (((sIx n 0 lo : Nat) : Int), ((sIx n n hi : Nat) : Int)) := by
 have h1 : ¬ ((1 : Int) < 0) := by omega
 unfold Builtin.Slice.sliceAdjust
 simp only [h1, if_false]
 refine Prod.ext ?_ ?_
 ·cases lo with
  | none => rfl
  | some v => exact q603 v n 0
 ·cases hi with
  | none => rfl
  | some v => exact q603 v n n
theorem q542 (i j : Nat) : Builtin.Slice.slicePlaces (i : Int) (j : Int) 1 = j - i := by
 unfold Builtin.Slice.slicePlaces
 have h1 : (1 : Int) > 0 := by omega
 simp only [h1, if_true, Int.ediv_one]
 split <;> omega
theorem q278 {v : Value} {o : Option Int} {Q : Option Int -> Shared -> Prop} (p : IsPart v o) (h : Q o s) : wpAny (model prog w) A (Builtin.Slice.slicePartIndex v) Q E s := by
 cases p with
 | none => exact slicePart_none h
 | int i t => exact slicePart_int h
theorem q111 {sl : Addr} {vl vu : Value} {lo hi : Option Int} {n : Nat} {Q : Int × Int × Nat -> Shared -> Prop} (hs : s.heap.IsSliceOf sl vl vu .none) (pl : IsPart vl lo) (pu : IsPart vu hi)
  (h : Q (((sIx n 0 lo : Nat) : Int), 1, sIx n n hi - sIx n 0 lo) s) : wpAny (model prog w) A (Builtin.Slice.sliceApplied (.ref sl) (pure (n : Int))) Q E s := by
 obtain ⟨os, hos, hcs, hds⟩ := id hs
 unfold Builtin.Slice.sliceApplied Builtin.Slice.sliceFields
 refine wpAny_bind (wpAny_bind (wpAny_field hos hds (x := vl) rfl (wpAny_bind (wpAny_field hos hds (x := vu) rfl (wpAny_bind (wpAny_field hos hds (x := .none) rfl (wpAny_pure ?_)))))))
 refine wpAny_bind (slicePart_none ?_)
 show wpAny _ _ (if ((1 : Int) == 0) = true then _ else _) _ _ s
 rw [if_neg (by decide)]
 refine wpAny_bind (q278 pl (wpAny_bind (q278 pu (wpAny_bind (wpAny_pure ?_)))))
 show wpAny _ _ (match Builtin.Slice.sliceAdjust lo hi 1 (n : Int) with | (lo, hi) => pure (lo, (1 : Int), Builtin.Slice.slicePlaces lo hi 1)) _ _ s
 rw [q541 lo hi n]
 show wpAny _ _ (pure (((sIx n 0 lo : Nat) : Int), (1 : Int), Builtin.Slice.slicePlaces ((sIx n 0 lo : Nat) : Int) ((sIx n n hi : Nat) : Int) 1)) _ _ s
 rw [q542]
 exact wpAny_pure h
theorem pick_gen (xs : Array Value) (i k : Nat) : ((List.range k).filterMap fun (m : Nat) => xs[((i : Int) + (m : Int) * 1).toNat]?).toArray = ((xs.toList.drop i).take k).toArray := by
 have e : (fun (m : Nat) => xs[((i : Int) + (m : Int) * 1).toNat]?) = fun m => xs[i + m]? := by
  funext m
  have : ((i : Int) + (m : Int) * 1).toNat = i + m := by omega
  rw [this]
 rw [e]
 have := pick_run xs i k
 rw [List.filterMap_map] at this
 have e2 : ((fun x => xs[x]?) ∘ fun x => i + x) = fun m => xs[i + m]? := rfl
 rw [e2] at this
 rw [this]
theorem q543 {t sl : Addr} {items : Array Value} {vl vu : Value} {lo hi : Option Int} {Q : VS} (ht : IsTup s.heap t items) (hs : s.heap.IsSliceOf sl vl vu .none) (pl : IsPart vl lo) (pu : IsPart vu hi)
  (hw : ¬ (sIx items.size 0 lo = 0 /\ sIx items.size items.size hi = items.size))
  (h : Q (.ref s.heap.objs.size) { s with heap := s.heap.push { cls := .type "tuple", data := .seq ((items.toList.drop (sIx items.size 0 lo)).take (sIx items.size items.size hi - sIx items.size 0 lo)).toArray } })
  (hsz : items.size <= sizeLine) : wpAny (model prog w) A (getItem (.ref t) (.ref sl)) Q E s := by
 have htake : sizeOk (.seq ((items.toList.drop (sIx items.size 0 lo)).take (sIx items.size items.size hi - sIx items.size 0 lo)).toArray) := by
  show ((items.toList.drop (sIx items.size 0 lo)).take (sIx items.size items.size hi - sIx items.size 0 lo)).toArray.size <= sizeLine
  rw [List.size_toArray, List.length_take, List.length_drop, Array.length_toList]
  omega
 have hj : sIx items.size items.size hi <= items.size := sIx_le _ _ (Nat.le_refl _) hi
 obtain ⟨os, hos, hcs, hds⟩ := id hs
 have hTs : s.TypeIs (.ref sl) "slice" := ⟨os, hos, hcs⟩
 unfold getItem
 try with_reducible refine wpAny_holding ?_
 first | refine wpAny_bind (wpAny_pure ?_) | skip
 refine wpAny_bind (wpAny_sequenceKey ht.typeIs (by decide) ?_)
 refine wpAny_bind (wpAny_callSpecial?_slot (name := Str.ofString "__getitem__") ht.typeIs PyProof.Rows.slot_tuple_getitem
  (wpAny_call_entry PyProof.Rows.slot_tuple_getitem ht.typeIs entry_tuple_getitem ?_ (args_tuple_getitem _ _)))
 show wpAny _ _ (Builtin.Tuple.tupleItemsOf (.ref t) >>= _) _ _ s
 refine wpAny_bind (tupleItemsOf_ ht ?_)
 refine wpAny_bind (wpAny_typeOf hTs ?_)
 rw [if_pos (by decide)]
 refine wpAny_bind (q111 hs pl pu ?_)
 have hno : ¬ ((((sIx items.size 0 lo : Nat) : Int) == 0 && (1 : Int) == 1 && (sIx items.size items.size hi - sIx items.size 0 lo) == items.size) = true) := by
  intro q
  rw [Bool.and_eq_true, Bool.and_eq_true] at q
  have q1 : ((sIx items.size 0 lo : Nat) : Int) = 0 := eq_of_beq q.1.1
  have q2 : sIx items.size items.size hi - sIx items.size 0 lo = items.size := eq_of_beq q.2
  exact hw ⟨by omega, by omega⟩
 show wpAny _ _ (if (((sIx items.size 0 lo : Nat) : Int) == 0 && (1 : Int) == 1 && (sIx items.size items.size hi - sIx items.size 0 lo) == items.size) = true then _ else _) _ _ s
 rw [if_neg hno, pick_gen]
 first
  | exact wpAny_bind (m := Builtin.Tuple.tupleExact _) (wpAny_newObj_type (wpAny_pure ⟨_, rfl, wpAny_pure h⟩) htake)
  | exact wpAny_bind (m := Builtin.Tuple.tupleExact _) (wpAny_newObj_type (wpAny_bind (wpAny_pure (wpAny_pure ⟨_, rfl, wpAny_pure h⟩))) htake)
  | exact wpAny_bind (wpAny_bind (m := Builtin.Tuple.tupleExact _) (wpAny_newObj_type (wpAny_pure (wpAny_pure ⟨_, rfl, wpAny_pure h⟩)) htake))
  | exact wpAny_bind (wpAny_bind (m := Builtin.Tuple.tupleExact _) (wpAny_newObj_type (wpAny_pure ⟨_, rfl, wpAny_pure h⟩) htake))
end
end HT
namespace L2
open PySem PySem.Spec PyProof.Rows
variable {X : Cx}
abbrev TO := St -> Hp -> (Option Int -> Hp -> Prop) -> Prop
def PO (X : Cx) (e : Option Expr) (t : TO) : Prop :=
 ∀ (pins : List (Addr × Obj)) (s : Shared) (σ : St) (H : Hp) (Q : Option Int -> Hp -> Prop), Inv X pins σ H s -> t σ H Q ->
  wpAny (model X.prog X.w) X.A (evalPart e X.env) (fun u s' => ∃ o H', Inv X pins σ H' s' /\ IsPart u o /\ Q o H') X.xe s
def tNoPart : TO := fun _ H Q => Q none H
def tPart (t : TE) : TO := fun σ H Q => t σ H fun x H1 => ∃ i, x = .int i /\ Q (some i) H1
theorem q99 {ns : List Int} : ∀ {us : List Value}, Vals (ns.map V.int) us -> IntsAre us ns := by
 induction ns with
 | nil => intro us r; rw [List.map_nil] at r; cases r; exact .nil
 | cons n ns ih =>
  intro us r
  rw [List.map_cons] at r
  cases r with
  | cons r1 r2 =>
   obtain ⟨t, e⟩ := r1
   subst e
   exact .cons n t (ih r2)
section
variable {e : Expr} {te : TE} {lo hi : Option Expr} {tl th : TO} {pos p2 : Pos}
theorem q54 : PO X none tNoPart := by
 intro pins s σ H Q I h
 rw [evalPart_none]
 exact wpAny_pure ⟨none, H, I, .none, h⟩
theorem q47 (h : PE X e te) : PO X (some e) (tPart te) := by
 intro pins s σ H Q I hw
 rw [evalPart_some]
 refine thn (h pins s σ H _ I hw) fun u s1 ⟨x, H1, I1, r1, q1⟩ => ?_
 obtain ⟨i, rfl, q⟩ := q1
 obtain ⟨t, rfl⟩ := r1
 exact ⟨some i, H1, I1, .int i t, q⟩
def SlR (X : Cx) (r : V -> Option Int -> Option Int -> Hp -> VK -> Prop) : Prop :=
 ∀ (pins : List (Addr × Obj)) (s : Shared) (σ : St) (H : Hp) (x : V) (v vl vu : Value) (lo hi : Option Int) (sl : Addr) (Q : VK), Inv X pins σ H s -> RelV x v -> s.heap.IsSliceOf sl vl vu .none -> IsPart vl lo -> IsPart vu hi -> r x lo hi H Q ->
  ∃ T id, typeLookup (.type T) "__getitem__" = pure (some (.builtin id)) /\ s.TypeIs v T /\ wpAny (model X.prog X.w) X.A (getItem v (.ref sl)) (EP X pins σ Q) X.xe s
def tSl (r : V -> Option Int -> Option Int -> Hp -> VK -> Prop) (te : TE) (tl th : TO) : TE := fun σ H Q => te σ H fun x H1 => tl σ H1 fun l H2 => th σ H2 fun u H3 => r x l u H3 Q
theorem q40 (hr : SlR X r) (he : PE X e te) (hl : PO X lo tl) (hu : PO X hi th) : PE X (.Subscript e (.Slice lo hi none p2) pos) (tSl r te tl th) := by
 intro pins s σ H Q I h
 refine Subscript_ (thn (he pins s σ H _ I h) fun v s1 ⟨x, H1, I1, r1, q1⟩ => ?_)
 refine wpAny_Slice (thn (hl pins s1 σ H1 _ I1 q1) fun vl s2 ⟨l, H2, I2, pl, q2⟩ => thn (hu pins s2 σ H2 _ I2 q2) fun vu s3 ⟨u, H3, I3, pu, q3⟩ => ?_)
 rw [evalPart_none]
 refine wpAny_pure ?_
 have I4 : Inv X pins σ H3 { s3 with heap := s3.heap.push { cls := .type "slice", data := .fields #[vl, vu, .none] } } := I3.kept (t' := s3.toks) fun b ob q => Heap.get?_push_of_some _ q
 obtain ⟨T, id, hT, ht, hg⟩ := hr pins { s3 with heap := s3.heap.push { cls := .type "slice", data := .fields #[vl, vu, .none] } } σ H3 x v vl vu l u s3.heap.objs.size Q I4 r1 (Heap.IsSliceOf.new ..) pl pu q3
 show wpAny (model X.prog X.w) X.A (subscriptTail e (.Slice lo hi none p2) v (.ref s3.heap.objs.size)) (EP X pins σ Q) X.xe { s3 with heap := s3.heap.push { cls := .type "slice", data := .fields #[vl, vu, .none] } }
 exact tail_any (ops := [.ref s3.heap.objs.size, v]) ht hT hg (by with_unfolding_all rfl)
def cutV (xs : List V) (lo hi : Option Int) : List V := (xs.drop (HT.sIx xs.length 0 lo)).take (HT.sIx xs.length xs.length hi - HT.sIx xs.length 0 lo)
theorem q210 (xs : List V) (lo hi : Option Int) : (cutV xs lo hi).length <= xs.length := by
 unfold cutV
 rw [List.length_take, List.length_drop]
 omega
theorem Vals.nil_iff (r : Vals xs us) : us = [] ↔ xs = [] := by
 cases r with
 | nil => simp
 | cons _ _ => simp
end
def ixN (n : Nat) (i : Int) : Option Nat := if 0 <= i then (if i < n then some i.toNat else none) else if -(n : Int) <= i then some (i + n).toNat else none
def atI {α : Type} (xs : List α) (i : Int) : Option α := (ixN xs.length i).bind fun j => xs[j]?
theorem q604 {n : Nat} {i : Int} {j : Nat} (h : ixN n i = some j) : seqIndex? i n = some j /\ j < n /\ -(n : Int) <= i /\ i < n := by
 unfold ixN at h
 by_cases h0 : 0 <= i
 ·rw [if_pos h0] at h
  by_cases h1 : i < n
  ·rw [if_pos h1] at h
   have e : i.toNat = j := Option.some.inj h
   exact ⟨by rw [seqIndex_of h0 h1, e], by omega, by omega, h1⟩
  ·rw [if_neg h1] at h; cases h
 ·rw [if_neg h0] at h
  by_cases h1 : -(n : Int) <= i
  ·rw [if_pos h1] at h
   have e : (i + n).toNat = j := Option.some.inj h
   exact ⟨by rw [seqIndex_neg (by omega) h1, e], by omega, h1, by omega⟩
  ·rw [if_neg h1] at h; cases h
theorem q437 {α : Type} {xs : List α} {i : Int} {v : α} (h : atI xs i = some v) : ∃ j, seqIndex? i xs.length = some j /\ xs[j]? = some v /\ j < xs.length /\ -(xs.length : Int) <= i /\ i < xs.length := by
 unfold atI at h
 cases e : ixN xs.length i with
 | none => rw [e] at h; cases h
 | some j =>
  rw [e] at h
  obtain ⟨h1, h2, h3, h4⟩ := q604 e
  exact ⟨j, h1, h, h2, h3, h4⟩
theorem q41 {α : Type} {xs : List α} {j : Nat} {v : α} (h : xs[j]? = some v) : atI xs (j : Int) = some v := by
 have hj : j < xs.length := (List.getElem?_eq_some_iff.mp h).1
 have e : ixN xs.length (j : Int) = some j := by
  unfold ixN
  rw [if_pos (by omega), if_pos (by omega)]; simp
 unfold atI; rw [e]; exact h
def q605 (b : Expr) : Prop := ∀ o i, subscripted b false o i = operate [o, i] (getItem o i)
def IxR (X : Cx) (r : R2) : Prop :=
 ∀ (value slice : Expr) (pins : List (Addr × Obj)) (s : Shared) (σ : St) (H : Hp) (x y : V) (v u : Value) (Q : VK), Inv X pins σ H s -> RelV x v -> RelV y u -> r x y H Q ->
  subscripted slice false v u = operate [v, u] (getItem v u) -> wpAny (model X.prog X.w) X.A (subscriptTail value slice v u) (EP X pins σ Q) X.xe s
def MtR (X : Cx) (id : String) (r : V -> List V -> Hp -> VK -> Prop) : Prop :=
 ∀ (pins : List (Addr × Obj)) (s : Shared) (σ : St) (H : Hp) (x : V) (xs : List V) (v : Value) (us : List Value) (Q : VK), Inv X pins σ H s -> RelV x v -> Vals xs us -> r x xs H Q ->
  wpAny (model X.prog X.w) X.A (call (.builtin id) (v :: us)) (EP X pins σ Q) X.xe s
section
variable {a b : Expr} {ta tb : TE} {pos : Pos}
theorem pe_ix (hr : IxR X r) (ha : PE X a ta) (hb : PE X b tb) (hs : q605 b) : PE X (.Subscript a b pos) (tOp r ta tb) := by
 intro pins s σ H Q I h
 exact Subscript_ (binT ha hb I h fun v u s2 x y H2 I2 rx ry q => hr a b pins s2 σ H2 x y v u Q I2 rx ry q (hs _ _))
def rIxL (K : Fg) : R2 := fun x y H Q => ∃ p xs i v, x = .ref p /\ y = .int i /\ SqL K H p xs /\ atI xs i = some v /\ Q v H
def rIxT (K : Fg) : R2 := fun x y H Q => ∃ p xs i v, x = .ref p /\ y = .int i /\ SqT K H p xs /\ atI xs i = some v /\ Q v H
def rIxS : R2 := fun x y H Q => ∃ z i c, x = .str z /\ y = .int i /\ z.length <= sizeLine /\ atI z.cps.toList i = some c /\ Q (.str ⟨#[c]⟩) H
theorem q25 : IxR X (rIxL X.K) := by
 intro value slice pins s σ H x y v u Q I rx ry h hs
 obtain ⟨p, xs, i, z, rfl, rfl, hq, he, q⟩ := h
 cases rx
 obtain ⟨t, rfl⟩ := ry
 obtain ⟨its, r, pl, hz⟩ := I.list hq
 obtain ⟨j, h1, h2, h3, h4, h5⟩ := q437 he
 obtain ⟨w, ew, rw'⟩ := r.get h2
 have hl := r.length
 have hn := q276
 have fin : EP X pins σ Q w s := ⟨z, H, I, rw', q⟩
 by_cases h0 : 0 <= i
 ·have hj : i.toNat = j := by
   rw [seqIndex_of h0 h5] at h1
   exact Option.some.inj h1
  exact item_listR pl.isList h0 (by omega) (by rw [hj]; simpa using ew) fin hs
 ·have hj : (i + (its.toArray.size : Int)).toNat = j := by
   rw [seqIndex_neg (by omega) h4] at h1
   rw [List.size_toArray, <- hl]
   exact Option.some.inj h1
  exact subscriptTail_builtinR (x := w) pl.isList.typeIs slot_list_getitem.lookup
   (wpAny_getItem_list_neg (Q := fun r s' => r = w /\ EP X pins σ Q r s') pl.isList (by omega) (by rw [List.size_toArray] <;> omega) (by omega) (by rw [hj]; simpa using ew) ⟨rfl, fin⟩) hs
theorem q23 : IxR X (rIxT X.K) := by
 intro value slice pins s σ H x y v u Q I rx ry h hs
 obtain ⟨p, xs, i, z, rfl, rfl, hq, he, q⟩ := h
 cases rx
 obtain ⟨t, rfl⟩ := ry
 obtain ⟨its, r, pl, hz⟩ := I.tuple hq
 obtain ⟨j, h1, h2, h3, h4, h5⟩ := q437 he
 obtain ⟨w, ew, rw'⟩ := r.get h2
 have hl := r.length
 have hn := q276
 have fin : EP X pins σ Q w s := ⟨z, H, I, rw', q⟩
 exact subscriptTail_builtinR (x := w) pl.typeIs slot_tuple_getitem.lookup
  (getItem_tuple (j := j) (Q := fun r s' => r = w /\ EP X pins σ Q r s') pl (by omega) (by omega) (by rw [List.size_toArray, <- hl]; exact h1) (by simpa using ew) ⟨rfl, fin⟩) hs
theorem ix_str : IxR X rIxS := by
 intro value slice pins s σ H x y v u Q I rx ry h hs
 obtain ⟨z, i, c, rfl, rfl, hz, he, q⟩ := h
 obtain ⟨t, rfl⟩ := rx
 obtain ⟨t', rfl⟩ := ry
 obtain ⟨j, h1, h2, h3, h4, h5⟩ := q437 he
 have hl : z.cps.toList.length = z.length := by simp [Str.length]
 rw [hl] at h1 h4 h5
 have hn := q276
 exact tail_any (typeIs_str s z t) slot_str_getitem.lookup (getItem_str (c := c) (by
  have e1 : decide (i < -(2 ^ 63 : Int)) = false := decide_eq_false (by omega)
  have e2 : decide (i >= 2 ^ 63) = false := decide_eq_false (by omega)
  rw [e1, e2, Bool.or_false]) (by rw [h1]; simpa using h2) ⟨.str ⟨#[c]⟩, H, I.tok _, ⟨_, rfl⟩, q⟩) hs
theorem q544 (its : List Value) (n j : Nat) (u : Value) : Obj.mapSeq (·.setIfInBounds j u) { cls := .type "list", data := .seq its.toArray n } = { cls := .type "list", data := .seq (its.set j u).toArray n } := by
 simp [Obj.mapSeq]
theorem Inv.lst {s : Shared} (I : Inv X pins σ H s) (h : H p = some (.lst xs)) :
  ∃ (its : List Value) (n : Nat), Vals xs its /\ s.heap.get? p = some { cls := .type "list", data := .seq its.toArray n } /\ xs.length <= sizeLine := by
 obtain ⟨z, its, n, r, e⟩ := I.hok p _ h
 exact ⟨its, n, r, e, z⟩
theorem Inv.lstUpd {s : Shared} {ys : List V} {its its' : List Value} {n n' : Nat} {f : Obj -> Obj} (I : Inv X pins σ H s) (h : H p = some (.lst xs))
  (ho : s.heap.get? p = some { cls := .type "list", data := .seq its.toArray n }) (hf : f { cls := .type "list", data := .seq its.toArray n } = { cls := .type "list", data := .seq its'.toArray n' }) (r : Vals ys its') (hz : ys.length <= sizeLine) (t : Nat) :
  Inv X pins σ (upd H p (.lst ys)) { s with heap := s.heap.update p f, toks := t } := by
 have e : (s.heap.update p f).get? p = some { cls := .type "list", data := .seq its'.toArray n' } := by
  rw [Heap.get?_update_self f ho (by rw [hf] <;> rfl), hf]
 refine I.write (x := p) (e := p) (by rw [h]; trivial) (.inl rfl) (fun b u hb q => (Heap.get?_update_other _ _ (Ne.symm hb)).trans q) ⟨_, e⟩ ?_
 exact ⟨hz, its', n', r, e⟩
def rSetL : V -> V -> V -> Hp -> (Hp -> Prop) -> Prop := fun o i v H Q => ∃ p xs k j, o = .ref p /\ i = .int k /\ H p = some (.lst xs) /\ ixN xs.length k = some j /\ Q (upd H p (.lst (xs.set j v)))
theorem q310 : PSet X rSetL := by
 intro pins s σ H o i v ov iv u Q I ro ri rv h
 obtain ⟨p, xs, k, j, rfl, rfl, hp, hj, q⟩ := h
 cases ro
 obtain ⟨t, rfl⟩ := ri
 obtain ⟨its, n, r, ho, hz⟩ := I.lst hp
 obtain ⟨h1, h2, h3, h4⟩ := q604 hj
 have hl := r.length
 have hn := q276
 have I' : Inv X pins σ (upd H p (.lst (xs.set j v))) { s with heap := s.heap.update p (Obj.mapSeq (·.setIfInBounds j u)) } :=
  I.lstUpd hp ho (q544 its n j u) (r.set rv j) (by rw [List.length_set]; exact hz) s.toks
 by_cases h0 : 0 <= k
 ·have hk : k.toNat = j := by
   rw [seqIndex_of h0 h4] at h1
   exact Option.some.inj h1
  exact PySem.W.ki_setAt ho h0 (by omega) (by rw [List.size_toArray, <- hl]; exact h4) (by rw [hk]; exact ⟨_, I', q⟩)
 ·have hk : (k + (its.toArray.size : Int)).toNat = j := by
   rw [seqIndex_neg (by omega) h3] at h1
   rw [List.size_toArray, <- hl]
   exact Option.some.inj h1
  exact PySem.W.ki_setBack ho (by omega) (by rw [List.size_toArray, <- hl]; exact h3) (by omega) (by rw [hk]; exact ⟨_, I', q⟩)
theorem q364 (lo hi : Option Int) (n : Nat) : (sliceBounds lo hi none n).1 = ((HT.sIx n 0 lo : Nat) : Int) /\ (sliceBounds lo hi none n).2.1 = ((HT.sIx n n hi : Nat) : Int) /\ (sliceBounds lo hi none n).2.2 = 1 := by
 refine ⟨?_, ?_, rfl⟩
 ·cases lo with
  | none => simp [sliceBounds, HT.sIx]
  | some i =>
   simp only [sliceBounds, HT.sIx, Option.getD_none, show (1 : Int) > 0 by decide, if_true]
   by_cases h : i < 0
   ·simp only [h, if_true] <;> omega
   ·simp only [h, if_false] <;> omega
 ·cases hi with
  | none => simp [sliceBounds, HT.sIx]
  | some i =>
   simp only [sliceBounds, HT.sIx, Option.getD_none, show (1 : Int) > 0 by decide, if_true]
   by_cases h : i < 0
   ·simp only [h, if_true] <;> omega
   ·simp only [h, if_false] <;> omega
theorem q311 (its : List Value) (lo hi : Option Int) : slicePick its.toArray lo hi none = ((its.drop (HT.sIx its.length 0 lo)).take (HT.sIx its.length its.length hi - HT.sIx its.length 0 lo)).toArray := by
 obtain ⟨h1, h2, h3⟩ := q364 lo hi its.toArray.size
 unfold slicePick
 rw [h1, h2, h3]
 simp only [sliceRange_one, pick_run, List.size_toArray] <;> rfl
def rSlL (K : Fg) : V -> Option Int -> Option Int -> Hp -> VK -> Prop := fun x lo hi H Q => ∃ a xs, x = .ref a /\ SqL K H a xs /\ ∀ p, H p = none -> Q (.ref p) (upd H p (.lst (cutV xs lo hi)))
theorem q96 : SlR X (rSlL X.K) := by
 intro pins s σ H x v vl vu lo hi sl Q I rx hs pl pu h
 obtain ⟨a, xs, rfl, hx, q⟩ := h
 cases rx
 obtain ⟨its, r, ht, hz⟩ := I.list hx
 have hlen := r.length
 refine ⟨"list", _, slot_list_getitem.lookup, ht.isList.typeIs, ?_⟩
 refine wpAny_getItem_list_slice ht.isList hs pl pu .none (by simp) ?_ (by rw [List.size_toArray] <;> omega)
 rw [q311, <- hlen]
 refine ⟨.ref s.heap.objs.size, _, I.laid (t' := s.toks) (o := .lst (cutV xs lo hi)) (fun b ob q => Heap.get?_push_of_some _ q) (Nat.le_refl _) ?_, rfl, q _ (I.hok.fresh (Nat.le_refl _))⟩
 exact ⟨Nat.le_trans (q210 xs lo hi) hz, _, 0, (r.drop (HT.sIx xs.length 0 lo)).take (HT.sIx xs.length xs.length hi - HT.sIx xs.length 0 lo), Heap.get?_push_size _ rfl⟩
def flatV : V -> Bool
 | .non => true
 | .bl _ => true
 | .int _ => true
 | .str _ => true
 | _ => false
def eqV : V -> V -> Bool
 | .non, .non => true
 | .bl a, .bl b => a == b
 | .bl a, .int b => (if a then 1 else 0) == b
 | .int a, .bl b => a == (if b then 1 else 0)
 | .int a, .int b => a == b
 | .str a, .str b => a == b
 | _, _ => false
theorem eqAt_V (ry : RelV y u) (rx : RelV x v) (fy : flatV y = true) (fx : flatV x = true) : SeqAt.EqAt A s u v (eqV y x) := by
 cases y with
 | non =>
  cases ry
  cases x with
  | non => cases rx; exact SeqAt.EqAt.same _
  | bl b => cases rx; exact SeqAt.EqAt.none_bool b
  | int b => obtain ⟨t, rfl⟩ := rx; exact SeqAt.EqAt.none_int b t
  | str b => obtain ⟨t, rfl⟩ := rx; exact SeqAt.EqAt.none_str b t
  | _ => exact absurd (show false = true from fx) fnt
 | bl a =>
  cases ry
  cases x with
  | non => cases rx; exact SeqAt.EqAt.bool_none a
  | bl b => cases rx; exact SeqAt.EqAt.bool_bool a b
  | int b => obtain ⟨t, rfl⟩ := rx; exact SeqAt.EqAt.bool_int a b t
  | str b => obtain ⟨t, rfl⟩ := rx; exact SeqAt.EqAt.bool_str a b t
  | _ => exact absurd (show false = true from fx) fnt
 | int a =>
  obtain ⟨t', rfl⟩ := ry
  cases x with
  | non => cases rx; exact SeqAt.EqAt.int_none a t'
  | bl b => cases rx; exact SeqAt.EqAt.int_bool a t' b
  | int b => obtain ⟨t, rfl⟩ := rx; exact SeqAt.EqAt.int_int a t' b t
  | str b => obtain ⟨t, rfl⟩ := rx; exact SeqAt.EqAt.int_str a t' b t
  | _ => exact absurd (show false = true from fx) fnt
 | str a =>
  obtain ⟨t', rfl⟩ := ry
  cases x with
  | non => cases rx; exact SeqAt.EqAt.str_none a t'
  | bl b => cases rx; exact SeqAt.EqAt.str_bool a t' b
  | int b => obtain ⟨t, rfl⟩ := rx; exact SeqAt.EqAt.str_int a t' b t
  | str b => obtain ⟨t, rfl⟩ := rx; exact SeqAt.EqAt.str_str a t' b t
  | _ => exact absurd (show false = true from fx) fnt
 | _ => exact absurd (show false = true from fy) fnt
def eqU (x : V) (u : Value) : Bool := match u with
 | .none => eqV .non x
 | .bool b => eqV (.bl b) x
 | .int i _ => eqV (.int i) x
 | .str z _ => eqV (.str z) x
 | _ => false
theorem q606 (r : RelV y u) (f : flatV y = true) : eqU x u = eqV y x := by
 cases y with
 | non => cases r; rfl
 | bl b => cases r; rfl
 | int i => obtain ⟨t, rfl⟩ := r; rfl
 | str z => obtain ⟨t, rfl⟩ := r; rfl
 | _ => exact absurd (show false = true from f) fnt
theorem q438 {x : V} : ∀ {xs : List V} {us : List Value}, Vals xs us -> xs.all flatV = true -> us.any (eqU x) = xs.any fun y => eqV y x
 | _, _, .nil, _ => rfl
 | y :: xs, u :: us, .cons r t, f => by
  rw [List.all_cons, Bool.and_eq_true] at f
  rw [List.any_cons, List.any_cons, q606 r f.1, q438 t f.2]
theorem q197 {A : Around} {s : Shared} {x : V} {v : Value} (rx : RelV x v) (fx : flatV x = true) : ∀ {xs : List V} {us : List Value}, Vals xs us -> xs.all flatV = true -> ∀ u ∈ us, SeqAt.EqAt A s u v (eqU x u)
 | _, _, .nil, _ => fun u hu => by cases hu
 | y :: xs, u :: us, .cons r t, f => fun u' hu => by
  rw [List.all_cons, Bool.and_eq_true] at f
  rcases List.mem_cons.mp hu with rfl | hu
  ·rw [q606 r f.1]; exact eqAt_V r rx f.1 fx
  ·exact q197 rx fx t f.2 u' hu
def inV (x : V) (xs : List V) : Bool := xs.any fun y => eqV y x
def rIn (K : Fg) (neg : Bool) : R2 := fun x y H Q => ∃ p xs, y = .ref p /\ (SqL K H p xs \/ SqT K H p xs) /\ flatV x = true /\ xs.all flatV = true /\ Q (.bl (if neg then !inV x xs else inV x xs)) H
theorem q365 : OpR X (compareOp .In) (rIn X.K false) := by
 intro pins s σ H x y v u Q I rx ry h
 obtain ⟨p, xs, rfl, hq, fx, fs, q⟩ := h
 cases ry
 rcases hq with hq | hq
 ·obtain ⟨its, r, pl, hz⟩ := I.list hq
  refine SeqAt.in_listAt (eqU x) pl.isList (fun w hw => q197 rx fx r fs w (by simpa using hw)) ⟨.bl _, H, I, rfl, ?_⟩
  rw [show its.toArray.any (eqU x) = its.any (eqU x) by simp, q438 r fs]
  exact q
 ·obtain ⟨its, r, pl, hz⟩ := I.tuple hq
  refine SeqAt.in_tupleAt (eqU x) pl (fun w hw => q197 rx fx r fs w (by simpa using hw)) ⟨.bl _, H, I, rfl, ?_⟩
  rw [show its.toArray.any (eqU x) = its.any (eqU x) by simp, q438 r fs]
  exact q
theorem q366 : CallR X (.builtin "len") (fun xs H Q => ∃ p ys, xs = [.ref p] /\ (SqL X.K H p ys \/ SqT X.K H p ys) /\ Q (.int ys.length) H) := by
 intro pins s σ H xs us Q I r h
 obtain ⟨p, ys, rfl, hq, q⟩ := h
 obtain ⟨u, rfl, rx⟩ := vals1 r
 cases rx
 have hn := q276
 rcases hq with hq | hq
 ·obtain ⟨its, r', pl, hz⟩ := I.list hq
  have hlen := r'.length
  exact Calls.call_len_list pl.isList (by simp only [List.size_toArray] <;> omega) ⟨.int ys.length, H, I.tok _, ⟨s.toks + 1, by rw [List.size_toArray, hlen]⟩, q⟩
 ·obtain ⟨its, r', pl, hz⟩ := I.tuple hq
  have hlen := r'.length
  exact len_tuple pl (by simp only [List.size_toArray] <;> omega) ⟨.int ys.length, H, I.tok _, ⟨s.toks + 1, by rw [List.size_toArray, hlen]⟩, q⟩
theorem q367 : CallR X (.builtin "len") (fun xs H Q => ∃ z, xs = [.str z] /\ z.length <= sizeLine /\ Q (.int z.length) H) := by
 intro pins s σ H xs us Q I r h
 obtain ⟨z, rfl, hz, q⟩ := h
 obtain ⟨u, rfl, t, rfl⟩ := vals1 r
 have hn := q276
 exact len_str (by omega) ⟨.int z.length, H, I.tok _, ⟨_, rfl⟩, q⟩
theorem q368 : CallR X (.type "list") (fun xs H Q => ∃ p ys, xs = [.ref p] /\ (SqL X.K H p ys \/ SqT X.K H p ys) /\ ∀ l, H l = none -> Q (.ref l) (upd H l (.lst ys))) := by
 intro pins s σ H xs us Q I r h
 obtain ⟨p, ys, rfl, hq, q⟩ := h
 obtain ⟨u, rfl, rx⟩ := vals1 r
 cases rx
 have fin : ∀ (its : List Value), Vals ys its -> ys.length <= sizeLine -> ∀ (h' : Heap) (c' : Nat), (∀ b o', s.heap.get? b = some o' -> h'.get? b = some o') ->
   h'.get? s.heap.objs.size = some { cls := .type "list", dict := none, data := .seq its.toArray c', slots := #[] } -> EP X pins σ Q (.ref s.heap.objs.size) { s with heap := h' } := fun its r' hz h' c' kp e =>
  ⟨.ref s.heap.objs.size, _, I.laid (t' := s.toks) kp (Nat.le_refl _) (show ObjOk X.prog X.w _ h' _ (.lst ys) from ⟨hz, its, c', r', e⟩), rfl, q _ (I.hok.fresh (Nat.le_refl _))⟩
 rcases hq with hq | hq
 ·obtain ⟨its, r', pl, hz⟩ := I.list hq
  have hlen := r'.length
  obtain ⟨o, ho, hc, n, hd⟩ := pl.isList
  exact call_list_seq p (.inl rfl) ho hc hd (fun h' c' kp e => fin its r' hz h' c' kp e) (by simp only [List.size_toArray] <;> omega)
 ·obtain ⟨its, r', pl, hz⟩ := I.tuple hq
  have hlen := r'.length
  obtain ⟨o, ho, hc, n, hd⟩ := pl
  exact call_list_seq p (.inr rfl) ho hc hd (fun h' c' kp e => fin its r' hz h' c' kp e) (by simp only [List.size_toArray] <;> omega)
theorem q312 : CallR X (.type "tuple") (fun xs H Q => ∃ p ys, xs = [.ref p] /\ ((SqL X.K H p ys /\ ∀ l, H l = none -> Q (.ref l) (upd H l (.tup ys))) \/ (SqT X.K H p ys /\ Q (.ref p) H))) := by
 intro pins s σ H xs us Q I r h
 obtain ⟨p, ys, rfl, h⟩ := h
 obtain ⟨u, rfl, rx⟩ := vals1 r
 cases rx
 rcases h with ⟨hq, q⟩ | ⟨hq, q⟩
 ·obtain ⟨its, r', pl, hz⟩ := I.list hq
  have hlen := r'.length
  refine call_tuple_list pl.isList (fun h' kp => ?_) (by simp only [List.size_toArray] <;> omega)
  have I1 : Inv X pins σ H { s with heap := h' } := I.kept (t' := s.toks) kp
  have I2 : Inv X pins σ (upd H h'.objs.size (.tup ys)) { s with heap := h'.push { cls := .type "tuple", data := .seq its.toArray } } :=
   I1.laid (t' := s.toks) (fun b o e => Heap.get?_push_of_some _ e) (Nat.le_refl _) (show ObjOk X.prog X.w _ _ _ (.tup ys) from ⟨hz, its, r', IsTup.new _ _⟩)
  exact ⟨.ref h'.objs.size, _, I2, rfl, q _ (I1.hok.fresh (Nat.le_refl _))⟩
 ·obtain ⟨its, r', pl, hz⟩ := I.tuple hq
  exact call_tuple_same pl ⟨.ref p, H, I, rfl, q⟩
def tyV (K : Fg) (T : String) (x : V) (H : Hp) : Prop := match x with
 | .str _ => T = "str"
 | .int _ => T = "int"
 | .ref p => (T = "list" /\ ∃ xs, SqL K H p xs) \/ (T = "tuple" /\ ∃ o, K.lookup p = some o /\ o.cls = .type "tuple" /\ o.dict = none) \/
   (T = "dict" /\ ((∃ kvs, H p = some (.dK kvs)) \/ ∃ kvs, H p = some (.dT kvs))) \/ (T = "set" /\ ∃ S n, H p = some (.set S n))
 | _ => False
theorem tyV_is {s : Shared} (I : Inv X pins σ H s) (r : RelV x v) (ty : tyV X.K T x H) :
  s.TypeIs v T /\ ∀ a, v = .ref a -> ∃ ob, s.heap.get? a = some ob /\ ob.dict = none := by
 cases x with
 | str z =>
  obtain ⟨t, rfl⟩ := r
  cases (show T = "str" from ty)
  exact ⟨typeIs_str s z t, fun _ e => nomatch e⟩
 | int i =>
  obtain ⟨t, rfl⟩ := r
  cases (show T = "int" from ty)
  exact ⟨typeIs_int s i t, fun _ e => nomatch e⟩
 | ref p =>
  cases r
  rcases ty with ⟨rfl, xs, hq⟩ | ⟨rfl, o, hk, hc, hd⟩ | ⟨rfl, hk⟩ | ⟨rfl, S, n, hk⟩
  ·obtain ⟨its, _, pl, _⟩ := I.list hq
   refine ⟨pl.isList.typeIs, fun a e => ?_⟩
   cases e
   obtain ⟨o, n, e, c, hd, _⟩ := pl
   exact ⟨o, e, hd⟩
  ·refine ⟨⟨o, I.kIn p o hk, hc⟩, fun a e => ?_⟩
   cases e
   exact ⟨o, I.kIn _ o hk, hd⟩
  ·have z : ∃ o, s.heap.get? p = some o /\ o.ExactDict := by
    rcases hk with ⟨kvs, hk⟩ | ⟨kvs, hk⟩
    ·obtain ⟨_, _, _, _, o, _, _, e, ex, _⟩ := I.hok p _ hk
     exact ⟨o, e, ex⟩
    ·obtain ⟨_, _, _, _, o, _, _, e, ex, _⟩ := I.hok p _ hk
     exact ⟨o, e, ex⟩
   obtain ⟨o, e, ex⟩ := z
   refine ⟨⟨o, e, ex.1⟩, fun a e2 => ?_⟩
   cases e2
   exact ⟨o, e, ex.2.1⟩
  ·obtain ⟨o, _, _, _, e, ex, _⟩ := I.hok p _ hk
   refine ⟨⟨o, e, ex.1⟩, fun a e2 => ?_⟩
   cases e2
   exact ⟨o, e, ex.2.1⟩
 | _ => exact False.elim ty
def tBM (K : Fg) (T : String) (r : V -> List V -> Hp -> VK -> Prop) (to : TE) (t : TA) : TE := fun σ H Q => to σ H fun x H1 => tyV K T x H1 /\ t σ H1 fun xs H2 => r x xs H2 Q
variable {o e : Expr} {es : List Expr} {to : TE} {t : TA} {name : Str} {apos cpos : Pos} {T id : String} {r : V -> List V -> Hp -> VK -> Prop}
theorem pe_bm (pa : PlainAttrs T) (slot : Slot T name id) (hty : typeOf (.builtin id) = pure (.type "method_descriptor")) (hm : MtR X id r) (ho : PE X o to) (ha : PA X (e :: es) t)
  (hbase : attributeBase o name X.env (eval o X.env) = eval o X.env := by rfl)
  (hfew : ((backTo cpos (starEach (e :: es) X.env)).all (fun x => !x.1) && (backToKw cpos (keywordEach [] X.env)).all (fun x => x.1.isSome)
   && decide ((e :: es).length + ([] : List Keyword).length + (if ([] : List Keyword).isEmpty then 0 else 1) < 30)) = true := by rfl)
  (hline : (apos.endLine == cpos.line) = true := by rfl) (hs : starEach (e :: es) X.env = (false, eval e X.env) :: starEach es X.env := by rfl) (hplain : (backTo cpos (starEach es X.env)).any (·.1) = false := by rfl) :
  PE X (.Call (.Attribute o name apos) (e :: es) [] cpos) (tBM X.K T r to t) := by
 intro pins s σ H Q I h
 refine wpAny_Call_method_late hbase hfew hline rfl (thn (ho pins s σ H _ I h) fun v s1 ⟨x, H1, I1, r1, ty, q1⟩ => ?_)
 obtain ⟨h1, h2⟩ := tyV_is I1 r1 ty
 refine ⟨T, id, pa, slot, hty, h1, h2, ?_⟩
 have hA := ha cpos pins s1 σ H1 _ I1 q1
 rw [hs] at hA ⊢
 refine Calls.callWith_builtin (by show (false || (backTo cpos (starEach es X.env)).any (·.1)) = false; rw [hplain] <;> rfl) (Calls.evalArgs_plain ?_)
 exact thn hA fun us s2 ⟨vs, H2, I2, r2, q2⟩ => hm pins s2 σ H2 x vs v us Q I2 r1 r2 q2
/- xs.append(e), list.index on a module's tuple .. are MtR facts of 06m -/
end
def MtM (X : Cx) (id : String) (r : V -> List V -> Hp -> VK -> Prop) : Prop :=
 ∀ (pins : List (Addr × Obj)) (s : Shared) (σ : St) (H : Hp) (x : V) (xs : List V) (v : Value) (us : List Value) (Q : VK), Inv X pins σ H s -> RelV x v -> Vals xs us -> r x xs H Q ->
  wpAny (model X.prog X.w) X.A (call (.builtin id) (v :: us)) (EP X pins σ Q) X.xe s
theorem Vals.one : ∀ {x : V} {us : List Value}, Vals [x] us -> ∃ u, us = [u] /\ RelV x u
 | _, _, .cons r .nil => ⟨_, rfl, r⟩
theorem Vals.reverse {xs : List V} {us : List Value} (h : Vals xs us) : Vals xs.reverse us.reverse := by
 induction h with
 | nil => exact .nil
 | cons r t ih => rw [List.reverse_cons, List.reverse_cons]; exact Vals.append ih (.cons r .nil)
theorem Vals.rep {xs : List V} {us : List Value} (h : Vals xs us) : ∀ k : Nat, Vals (List.replicate k xs).flatten (List.replicate k us).flatten
 | 0 => .nil
 | k + 1 => by
  rw [List.replicate_succ, List.replicate_succ, List.flatten_cons, List.flatten_cons]
  exact Vals.append h (Vals.rep h k)
theorem q211 (its : List Value) : ∀ (k : Nat) (acc : List Value),
  List.foldl (fun x1 x2 => x1 ++ x2) acc.toArray (List.replicate k its.toArray) = (acc ++ (List.replicate k its).flatten).toArray
 | 0, acc => by simp
 | k + 1, acc => by
  have e : acc.toArray ++ its.toArray = (acc ++ its).toArray := by simp
  have e2 : (acc ++ its) ++ (List.replicate k its).flatten = acc ++ (List.replicate (k + 1) its).flatten := by
   rw [List.replicate_succ, List.flatten_cons, List.append_assoc]
  rw [<- e2, <- q211 its k (acc ++ its), <- e, List.replicate_succ, List.foldl_cons]
section
variable {pins : List (Addr × Obj)} {σ : St} {H : Hp} {s : Shared} {l b : Addr} {xs ys zs : List V}
theorem Inv.lset {its its' : List Value} {n : Nat} {f : Array Value -> Array Value} {t' : Nat} (I : Inv X pins σ H s) (hH : H l = some (.lst xs))
  (e : s.heap.get? l = some { cls := .type "list", data := .seq its.toArray n }) (hf : f its.toArray = its'.toArray) (hv : Vals ys its') (hz : ys.length <= sizeLine) :
  Inv X pins σ (upd H l (.lst ys)) { s with heap := s.heap.update l (Obj.mapSeq f), toks := t' } := by
 have q := PySem.IsL.update e f
 rw [hf] at q
 refine I.write (x := l) (e := l) (by rw [hH]; exact trivial) (.inl rfl) (fun b' u hb hu => (Heap.get?_update_other s.heap (Obj.mapSeq f) (Ne.symm hb)).trans hu) ⟨_, q⟩ ?_
 exact ⟨hz, its', _, hv, q⟩
theorem Inv.lnew {t' : Nat} (I : Inv X pins σ H s) (hv : Vals ys its) (hz : ys.length <= sizeLine) :
  Inv X pins σ (upd H s.heap.objs.size (.lst ys)) { s with heap := s.heap.push { cls := .type "list", data := .seq its.toArray }, toks := t' } :=
 I.laid (fun _ _ q => Heap.get?_push_of_some _ q) (Nat.le_refl _) ⟨hz, its, 0, hv, Heap.get?_push_size _ rfl⟩
theorem Inv.fresh (I : Inv X pins σ H s) : H s.heap.objs.size = none := I.hok.fresh (Nat.le_refl _)
theorem Inv.lstM (I : Inv X pins σ H s) (hH : H l = some (.lst xs)) : xs.length <= sizeLine /\ ∃ (its : List Value) (n : Nat), Vals xs its /\ xs.length = its.length /\ s.heap.get? l = some { cls := .type "list", data := .seq its.toArray n } := by
 obtain ⟨z, its, n, r, e⟩ := I.hok l _ hH
 exact ⟨z, its, n, r, r.length, e⟩
theorem q493 {n : Nat} (h : n <= sizeLine) : Builtin.List.listTooLong n = false := by
 unfold Builtin.List.listTooLong
 exact decide_eq_false (by omega)
end
def rAppend : V -> List V -> Hp -> VK -> Prop := fun x vs H Q => ∃ l xs y, x = .ref l /\ vs = [y] /\ H l = some (.lst xs) /\ xs.length < sizeLine /\ Q .non (upd H l (.lst (xs ++ [y])))
theorem q55 : MtM X "list.append" rAppend := by
 intro pins s σ H x vs v us Q I rx rv h
 obtain ⟨l, xs, y, rfl, rfl, hH, hz, q⟩ := h
 cases rx
 obtain ⟨u, rfl, ru⟩ := rv.one
 obtain ⟨z, its, n, r, hl, e⟩ := I.lstM hH
 refine call_meets F.slot_list_append ⟨_, e, rfl⟩ F.entry_list_append (F.args_list_append_2 _ _) (PySem.list_append l its.toArray n u (by rw [List.size_toArray]; omega)) ⟨e, ?_⟩
 refine ⟨.non, _, I.lset (its' := its ++ [u]) hH e (by simp) (r.append (.cons ru .nil)) ?_, rfl, q⟩
 rw [List.length_append, List.length_singleton]
 omega
def rExtend : V -> List V -> Hp -> VK -> Prop := fun x vs H Q => ∃ l b xs zs, x = .ref l /\ vs = [.ref b] /\ H l = some (.lst xs) /\ H b = some (.lst zs) /\ xs.length + zs.length <= sizeLine /\ Q .non (upd H l (.lst (xs ++ zs)))
theorem q607 : MtM X "list.extend" rExtend := by
 intro pins s σ H x vs v us Q I rx rv h
 obtain ⟨l, b, xs, zs, rfl, rfl, hH, hB, hz, q⟩ := h
 cases rx
 obtain ⟨u, rfl, ru⟩ := rv.one
 cases ru
 obtain ⟨z, its, n, r, hl, e⟩ := I.lstM hH
 obtain ⟨z2, its2, n2, r2, hl2, e2⟩ := I.lstM hB
 have hsz : its.toArray.size + its2.toArray.size <= sizeLine := by rw [List.size_toArray, List.size_toArray]; omega
 have hlong : ¬ (!its.toArray.isEmpty && Builtin.List.listTooLong (its.toArray.size + its2.toArray.size)) = true := by
  rw [q493 hsz, Bool.and_false]
  exact fnt
 refine call_meets F.slot_list_extend ⟨_, e, rfl⟩ F.entry_list_extend (F.args_list_extend_2 _ _)
  (AutoSeq1.list_extend_list_list_0 l its.toArray n b its2.toArray n2 hlong (by rw [List.size_toArray]; omega) (by omega)) ⟨e, e2, ?_⟩
 refine ⟨.non, _, I.lset (its' := its ++ its2) hH e (by simp) (r.append r2) ?_, rfl, q⟩
 rw [List.length_append]
 omega
def rCat : R2 := fun x y H Q => ∃ l b xs zs, x = .ref l /\ y = .ref b /\ H l = some (.lst xs) /\ H b = some (.lst zs) /\ xs.length + zs.length <= sizeLine /\ ∀ p, H p = none -> Q (.ref p) (upd H p (.lst (xs ++ zs)))
theorem q179 : OpR X (binaryOp .Add) rCat := by
 intro pins s σ H x y v u Q I rx ry h
 obtain ⟨l, b, xs, zs, rfl, rfl, hH, hB, hz, q⟩ := h
 cases rx
 cases ry
 obtain ⟨z, its, n, r, hl, e⟩ := I.lstM hH
 obtain ⟨z2, its2, n2, r2, hl2, e2⟩ := I.lstM hB
 refine PySem.P.add_list e e2 ?_ (by rw [List.size_toArray, List.size_toArray]; omega)
 have ea : its.toArray ++ its2.toArray = (its ++ its2).toArray := by simp
 rw [ea]
 exact ⟨.ref _, _, I.lnew (t' := s.toks) (r.append r2) (by rw [List.length_append]; omega), rfl, q _ I.fresh⟩
def rRep : R2 := fun x y H Q => ∃ l k xs, x = .ref l /\ y = .int k /\ H l = some (.lst xs) /\ -(2 ^ 63) <= k /\ k < 2 ^ 63 /\ xs.length * k.toNat <= sizeLine /\
 ∀ p, H p = none -> Q (.ref p) (upd H p (.lst (List.replicate k.toNat xs).flatten))
theorem q608 {α : Type} (xs : List α) (k : Nat) : (List.replicate k xs).flatten.length = k * xs.length := by
 induction k with
 | zero => simp
 | succ k ih => rw [List.replicate_succ, List.flatten_cons, List.length_append, ih, Nat.succ_mul, Nat.add_comm]
theorem op_rep : OpR X (binaryOp .Mult) rRep := by
 intro pins s σ H x y v u Q I rx ry h
 obtain ⟨l, k, xs, rfl, rfl, hH, h1, h2, hz, q⟩ := h
 cases rx
 obtain ⟨t, rfl⟩ := ry
 obtain ⟨z, its, n, r, hl, e⟩ := I.lstM hH
 have hlen : its.toArray.size * k.toNat <= sizeLine := by rw [List.size_toArray, <- hl]; exact hz
 have hcap : ¬ its.toArray.size * k.toNat > (2 ^ 63 - 1) / 8 := by
  have : (sizeLine : Nat) <= (2 ^ 63 - 1) / 8 := by decide
  omega
 have hfit : ¬ (!Builtin.List.listFitsIndex k) = true := by
  rw [fitsIndex_both h1 h2]
  exact fnt
 have hlong : ¬ Builtin.List.listTooLong (its.toArray.size * k.toNat) = true := by
  rw [q493 hlen]
  exact fnt
 have hnew : List.foldl (fun x1 x2 => x1 ++ x2) #[] (List.replicate (if its.toArray.isEmpty = true then 0 else k.toNat) its.toArray) = (List.replicate k.toNat its).flatten.toArray := by
  have f0 : ∀ m : Nat, List.foldl (fun x1 x2 => x1 ++ x2) #[] (List.replicate m its.toArray) = (List.replicate m its).flatten.toArray := fun m => by
   have := q211 its m []
   rw [List.nil_append] at this
   exact this
  rw [f0]
  cases its with
  | nil => simp
  | cons a r' => rw [if_neg (by simp)]
 refine wpAny_binaryOp_repeat_ref (T := "list") (U := "int") (by decide) ⟨_, e, rfl⟩ (fun s' => typeIs_int s' k t) noFill_list_mul F.fills_int_mul F.slot_int_rmul repeat_list F.slot_int_index.lookup
  (call_meets F.slot_int_rmul (typeIs_int s k t) F.entry_int_rmul (F.args_int_rmul_2 _ _) (int___rmul___int_list k t l its.toArray n)
   ⟨e, rfl, ⟨_, e, rfl⟩, call_meets F.slot_list_mul ⟨_, e, rfl⟩ F.entry_list_mul (F.args_list_mul_2 _ _) (AutoListH.list___mul___list_int_3 l its.toArray n k t hfit hcap hlong) ⟨e, ?_⟩⟩)
 rw [hnew]
 exact ⟨.ref _, _, I.lnew (t' := s.toks) (r.rep k.toNat) (by rw [q608, Nat.mul_comm]; exact hz), rfl, q _ I.fresh⟩
section
variable {prog : Program} {w : World} {A : Around} {E : VS} {s : Shared}
set_option maxRecDepth 100000 in
end
end L2
namespace Att
set_option autoImplicit false
open PySem PySem.W PySem.Calls PyProof.Rows
theorem q212 {P : Params} {h : Heap} : ∀ (ns : List Int) (vs : List Value), WellAll P h vs (ns.map WData.int) -> IntsAre vs ns := by
 intro ns
 induction ns with
 | nil =>
  intro vs w
  rw [List.map_nil] at w
  cases w
  exact .nil
 | cons n ns ih =>
  intro vs w
  rw [List.map_cons] at w
  cases w with
  | cons a b =>
   cases a
   exact .cons _ _ (ih _ b)
theorem q609 {l : OpenLaw} {n : Nat} (hn : l.most = some n) {P : Params} {h : Heap} {args : List WData} {vals : List Value}
  (hpre : l.row.toRowW.claim.pre args = true) (hwl : WellAll P h vals args) :
  ∃ a vs ns, vals = [Value.ref a] /\ args = [WData.list (ns.map WData.int)] /\ h.get? a = some { cls := .type "list", data := .seq vs.toArray } /\ IntsAre vs ns /\ ns.length <= n := by
 have hsh : WShape.hasAll [] args [.list .int] = true := (pre_splitW hpre).1
 have hc : l.pre.holds [] { args := args } = true := (pre_splitW hpre).2
 obtain ⟨d, r, rfl, h1, h2⟩ := hasAllW_cons hsh
 obtain rfl := hasAllW_nil h2
 obtain ⟨xs, rfl, h3⟩ := hasW_list h1
 obtain ⟨ns, rfl⟩ := items_int h3
 have hlen : ns.length <= n := by
  unfold OpenLaw.pre at hc
  have h4 : (WTm.not (.lt (.lit (.int (n : Int))) (.len (.arg 0)))).holds [] { args := [.list (ns.map .int)] } = true := by
   have h4 := (holds_andW hc).1
   rw [hn] at h4
   exact h4
  have h5 := condW_of h4 (w_not (w_lt w_lit (w_len_list (w_arg rfl))))
  rw [List.length_map] at h5
  refine Nat.le_of_not_lt fun q => ?_
  have q' : (n : Int) < ((ns.length : Nat) : Int) := by omega
  first
   | (rw [decide_eq_true q'] at h5; exact absurd h5 (by decide))
   | (simp at h5; omega)
 cases hwl with
 | cons w1 w2 =>
  cases w2
  cases w1 with
  | list ho hall => exact ⟨_, _, ns, rfl, rfl, ho, q212 ns _ hall, hlen⟩
theorem q610 (l : OpenLaw) (args : List WData) : l.row.toRowW.claim.post args (.bool true) args = true :=
 postW_of (r := l.row.toRowW) (X := (true == true))
  (show WShape.has [] (.bool true) .bool = true by first | rfl | decide | simp [WShape.has, WShape.arms, WShape.armsAll])
  (show (WTm.eq .res (.lit (.bool true))).value [] { args := args, res := some (.bool true), after := args } = some (.bool (true == true)) from w_eq_bool (w_res rfl) w_lit) rfl
theorem q712 {l : OpenLaw} {n : Nat} {q : Program} {loose : List Str} {XP : (Mg) -> Heap -> Prop} {YP : World -> Heap -> Prop} {d : DefRec}
  (hn : l.most = some n) (hdf : d.params.defaults = [])
  (call : ∀ (w : World) (s₀ s₁ : Shared) (mg mb : Mg) (fa : Addr) (o : Obj) (pm cd doc : Value) (a : Addr) (vs : List Value) (ns : List Int),
   Ground q loose [] XP w s₀ mg mb s₁.heap -> YP w s₁.heap ->
   s₁.heap.get? fa = some o -> o.data = .func (docDef d.name d.params d.body d.scope pm cd doc) -> s₁.heap.CodeRec cd d.name -> mg d.name = some (.ref fa) ->
   s₁.heap.get? a = some { cls := .type "list", data := .seq vs.toArray } -> IntsAre vs ns -> ns.length <= n -> s₁.gens = #[] ->
   codeAny (model l.prog w) callerA (.call (.ref fa) ⟨[.ref a], []⟩) (fun r s' => r = .ok (.ret (.bool true)) /\ OldK s₁.heap s'.heap /\ s'.os = s₁.os /\ AllBare s'.gens) s₁) :
  WalkO q loose XP YP l.row.toRowW d [] (fun f vs => PySem.call f vs) := by
 intro w s₀ s₁ mg mb G Y fa o pm cd doc dV kV ho hd hcd hD hmg hg args vals as hpre hlay hrd hwl hlo
 obtain rfl : dV = .none := Dflts.none hD hdf
 obtain rfl : kV = .none := Dflts.noKw hD
 obtain ⟨a, vs, ns, rfl, rfl, hobj, hints, hlen⟩ := q609 hn hpre hwl
 refine enter_call (codeAny_mono (call w s₀ s₁ mg mb fa o pm cd doc a vs ns G Y ho (fd_plain hd) hcd hmg hobj hints hlen hg) fun r s' hq => ?_)
 obtain ⟨rfl, h2, h3, h4⟩ := hq
 exact ⟨.inl ⟨.bool true, .bool true, [], rfl, fun _ => rfl, .bool true, q610 l _, fun _ => ⟨List.Pairwise.nil, fun _ hm => (nomatch hm)⟩⟩, h2, h3, h4⟩
section
variable {prog : Program} {w : World} {A : Around} {E : VS} {s : Shared} {K : Frag}
end
end Att
namespace L2
open PySem PySem.Spec PyProof.Rows
variable {X : Cx}
theorem q369 : ∀ {vs : List Value} {ns : List Int}, IntsAre vs ns -> Vals (ns.map V.int) vs
 | _, _, .nil => .nil
 | _, _, .cons n t h => .cons ⟨t, rfl⟩ (q369 h)
def Only (H : Hp) : Prop := ∀ b, H b = none \/ ∃ o xs, H b = some (.frz o (.lst xs))
theorem law_call {P : Program} {w : World} {K : Fg} {CX : CXT} {k : Nat} {fa : Addr} {fd : FuncData} {sp : Sp} {s₁ : Shared} {vs : List Value} {ns : List Int}
  (KX : K.In s₁.heap) (hns : s₁.heap.Ns mainGlobals mg) (hb : s₁.heap.Ns builtinsNs mb) (hbb : ∀ x : Str, x ≠ "__name__" -> mb x = bootBuiltins x) (hlim : s₁.heap.NoLimit) (hg : s₁.gens = #[])
  (ha : s₁.heap.get? a = some { cls := .type "list", data := .seq vs.toArray }) (hi : IntsAre vs ns) (hl : ns.length <= sizeLine) (hr : Room k callerA)
  (F : ∀ base : Heap, K.In base -> base.Ns mainGlobals mg -> FnOk P w K mg base CX k fa fd [x] sp) (hbind : ∀ (s : Shared) (u : Value), BindsTo s fd ⟨[u], []⟩ [(x, u)])
  (hsp : ∀ H : Hp, Only H -> SqL K H a (ns.map V.int) -> sp [.ref a] H (fun v _ => v = .bl true) fun _ _ _ => False)
  (hCX : ∀ H e s', CX [] H s₁ (fun _ _ _ => False) e s' -> False) :
  codeAny (model P w) callerA (.call (.ref fa) ⟨[.ref a], []⟩) (fun r s' => r = .ok (.ret (.bool true)) /\ OldK s₁.heap s'.heap /\ s'.os = s₁.os /\ AllBare s'.gens) s₁ := by
 have rv := q369 hi
 have lenV := hi.length
 have core : ∀ H : Hp, Only H -> SqL K H a (ns.map V.int) -> HOk P w H s₁.heap -> (∀ b, H b ≠ none -> b = a) -> (H a ≠ none -> K.lookup a = none) ->
   codeAny (model P w) callerA (.call (.ref fa) ⟨[.ref a], []⟩) (fun r s' => r = .ok (.ret (.bool true)) /\ OldK s₁.heap s'.heap /\ s'.os = s₁.os /\ AllBare s'.gens) s₁ := by
  intro H hO hS hok hA hK
  have base_of : ∀ {b : Addr} {o : Obj}, s₁.heap.get? b = some o -> H b = none -> (hidT s₁.heap H).get? b = some o := fun e n => hidT_get e n
  have noA : ∀ {b : Addr} {o : Obj} {es : Array DictEntry} {ep : Nat}, s₁.heap.get? b = some o -> o.data = .dict es ep -> H b = none := fun {b o es ep} e d => by
   cases q : H b with
   | none => rfl
   | some u =>
    have e' : b = a := hA b (by rw [q]; simp)
    subst e'
    rw [ha] at e; cases e
    have d' : Data.seq vs.toArray _ = Data.dict es ep := d
    cases d'
  have nsK : ∀ {b : Addr} {m : Mg}, s₁.heap.Ns b m -> (hidT s₁.heap H).Ns b m := fun {b m} ⟨o, es, ep, e, d, r⟩ => ⟨o, es, ep, base_of e (noA e d), d, r⟩
  have hKb : K.In (hidT s₁.heap H) := fun b o e => base_of (KX b o e) (by
   cases q : H b with
   | none => rfl
   | some u =>
    have e' : b = a := hA b (by rw [q]; simp)
    subst e'
    rw [hK (by rw [q]; simp)] at e; cases e)
  have hM : Mod K mg (hidT s₁.heap H) := ⟨hKb, nsK hns, ⟨mb, nsK hb, hbb⟩, let ⟨mc, h1, h2⟩ := hlim; ⟨mc, nsK h1, h2⟩⟩
  have e0 : Env0 P w K mg (hidT s₁.heap H) callerA [] s₁ H := ⟨rfl, hM, fun b o e => of_hidT e, Nat.le_of_eq (q587 _ _), trivial, fun b hb => absurd (show b ∈ ([] : List Addr) from hb) (by simp), hok, .of_eq hg⟩
  refine codeAny_mono ((F _ hKb (nsK hns)).run callerA [] s₁ H ⟨[.ref a], []⟩ [.ref a] [.ref a] _ _ hr e0 (hbind s₁ (.ref a)) (.cons rfl .nil) (hsp H hO hS)) fun r s' h => ?_
  cases r with
  | error e => exact (hCX H e s' h).elim
  | ok fl =>
   cases fl with
   | next => exact False.elim h
   | brk => exact False.elim h
   | cont => exact False.elim h
   | ret u =>
    obtain ⟨v, H', os, bare, un, hok', r', q⟩ := h
    have q' : v = .bl true := q
    subst q'
    obtain rfl : u = Value.bool true := r'
    refine ⟨rfl, OldK.of_keep fun b o e => ?_, os, bare⟩
    cases q : H b with
    | none => exact un.keep b o e q (by intro z; exact absurd (show b ∈ ([] : List Addr) from z) (by simp)) (by simp)
    | some u =>
     rcases hO b with z | ⟨ob, xs, z⟩
     ·rw [q] at z; cases z
     ·have z2 := un.frzs b ob _ z
      obtain ⟨e1, _⟩ := hok b _ z
      obtain ⟨e2, _⟩ := hok' b _ z2
      rw [e] at e1; cases e1
      exact e2
 cases hk : K.lookup a with
 | some o =>
  have e := KX a o hk
  rw [ha] at e
  cases e
  refine core (fun _ => none) (fun _ => .inl rfl) (.inr ⟨_, vs.toArray, _, hk, rfl, rfl, rfl, by rw [List.size_toArray, lenV]; exact hl, by simpa using rv⟩) (fun b u z => by have z' : (none : Option HO) = some u := z; cases z') (fun b z => absurd rfl z) fun z => absurd rfl z
 | none =>
  refine core (fun b => if b = a then some (.frz { cls := .type "list", data := .seq vs.toArray } (.lst (ns.map V.int))) else none) (fun b => ?_) (.inl (.inr ⟨{ cls := .type "list", data := .seq vs.toArray }, if_pos rfl⟩)) (fun b u z => ?_) (fun b z => ?_) fun _ => hk
  ·by_cases hb : b = a
   ·exact .inr ⟨_, _, if_pos hb⟩
   ·exact .inl (if_neg hb)
  ·by_cases hb : b = a
   ·have z' := (if_pos hb).symm.trans z
    cases z'
    subst hb
    exact ⟨ha, by rw [List.length_map]; exact hl, vs, _, rv, ha⟩
   ·have z' := (if_neg hb).symm.trans z
    cases z'
  ·by_cases hb : b = a
   ·exact hb
   ·exact absurd (if_neg hb) z
abbrev KOf {K : Fg} {h : Heap} (_ : K.In h) : Fg := K
theorem q713 {l : PySem.W.OpenLaw} {n k : Nat} {q : Program} {loose : List Str} {XP : (Mg) -> Heap -> Prop} {YP : World -> Heap -> Prop} {d : DefRec} {K : Params -> Fg} {CX : World -> CXT} {sp : World -> Sp} {x : Str}
  (hn : l.most = some n) (hn2 : n <= sizeLine) (hdf : d.params.defaults = []) (hr : Room k callerA)
  (hY : ∀ (w : World) (h : Heap), YP w h -> (K w.params).In h)
  (F : ∀ (w : World) (mg : Mg) (fa : Addr) (h : Heap), (K w.params).In h -> h.Ns mainGlobals mg -> mg d.name = some (.ref fa) ->
   ∃ fd : FuncData, (∀ (s : Shared) (u : Value), BindsTo s fd ⟨[u], []⟩ [(x, u)]) /\
    ∀ base : Heap, (K w.params).In base -> base.Ns mainGlobals mg -> FnOk l.prog w (K w.params) mg base (CX w) k fa fd [x] (sp w))
  (hsp : ∀ (w : World) (H : Hp) (a : Addr) (ns : List Int), ns.length <= n -> Only H -> SqL (K w.params) H a (ns.map V.int) -> sp w [.ref a] H (fun v _ => v = .bl true) fun _ _ _ => False)
  (hCX : ∀ (w : World) (H : Hp) (s : Shared) (e : Value) (s' : Shared), CX w [] H s (fun _ _ _ => False) e s' -> False) :
  PySem.W.WalkO q loose XP YP l.row.toRowW d [] (fun f vs => PySem.call f vs) := by
 refine Att.q712 hn hdf fun w s₀ s₁ mg mb fa o pm cd doc a vs ns G Y ho hd hcd hmg hobj hints hlen hg => ?_
 have KX := hY w _ Y
 obtain ⟨fd, hb, hF⟩ := F w mg fa _ KX G.T.g hmg
 exact law_call KX G.T.g G.T.b G.T.builtins G.T.nolimit hg hobj hints (Nat.le_trans hlen hn2) hr hF hb (fun H hO hS => hsp w H a ns hlen hO hS) fun H e s' => hCX w H s₁ e s'
end L2
/- THE LAST THEOREM (shape; LID, My.* are yours):
  My.Adr: a structure of the addresses that your layer names (classes, functions); My.Txt K t: a structure (Prop) of the equations over K;
  My.txt_mk : {K} {implicit addresses ..} (e1 : nsIn K mainGlobals "law" = some (some (.ref f))) (e2 : K.lookup f = some ⟨oc, od, .func (fnOf "law" "law" params body scope dV kV doc pm an cdv ct), sl⟩) (e3 : codeIn K cdv "law" = true) .. : ∃ t, My.Txt K t
set_option maxRecDepth 100000 in
set_option maxHeartbeats 0 in
theorem PySem.Challenge.cw_LID_holds : PySem.Challenge.rw_LID.Holds := by
 w_on; o_law; k_head; (case hw => w_witness2)
 k_fill
 refine L2.q713 (l := PySem.Challenge.rw_LID) (n := 63) (k := 40) (x := "script") (CX := fun w => ..) (sp := fun _ => My.sp_law) rfl (by decide) rfl ⟨rfl, by decide, by decide⟩ (fun w h Y => PySem.W.kIn_of Y) ?F ?S ?C
 case F =>
  intro w mg fa h KX G hmg
  have T : ∃ t, My.Txt (L2.KOf KX) t := by
   dsimp only [L2.KOf]                          -- K must stand as «<heap const> w.params» for k_is
   refine' My.txt_mk ?e1 ?e2 ?e3 ..
   (case e1 => PySem.W.k_is)                    -- in the order: a name -> its address -> its object -> its parts
   (case e2 => PySem.W.k_is)
   ..
  obtain ⟨t, T⟩ := T
  have e0 := hmg.symm.trans (PySem.W.mg_of KX G T.law)
  cases e0                                       -- fa is the law's own address
  exact ⟨_, fun s u => .of_eq rfl, fun base kb nb => My.law_fn T kb nb⟩     -- if «.of_eq rfl» comes too early: refine' ⟨_, ?b, fun base kb nb => My.law_fn T kb nb⟩; exact fun s u => .of_eq rfl
 case S => exact fun w H a ns hl hO hS => ..
 case C => exact ..
(the tactic k_is has no namespace: write k_is) -/
namespace L2
open PySem PySem.Spec PyProof.Rows
variable {X : Cx}
def q144 (s : Stmt) : Arguments := match s with
 | .FunctionDef _ a _ _ _ _ _ _ _ _ => a
 | _ => { posonlyargs := [], args := [], vararg := none, kwonlyargs := [], kw_defaults := [], kwarg := none, defaults := [] }
def q103 (s : Stmt) : List Stmt := match s with
 | .FunctionDef _ _ b _ _ _ _ _ _ _ => b
 | _ => []
def q17 (s : Stmt) : Scope := match s with
 | .FunctionDef _ _ _ _ _ _ sc _ _ _ => sc
 | _ => { kind := .function, names := [], isGenerator := false, isCoroutine := false }
abbrev CX0 : CXT := fun _ _ _ _ _ _ => False
abbrev E0 : XK := fun _ _ _ => False
theorem pass0 : q277 CX0 X E0 := fun _ _ _ _ _ _ _ h => h.elim
structure Fun (K : Fg) (x qual : Str) (st : Stmt) (f : Addr) (fd : FuncData) : Prop where
 ex : ∃ (oc : Value) (od : Option Addr) (kV doc pm : Value) (an : Option Addr) (cdv ct : Value) (osl : Array (Option Value)),
  fd = PySem.W.fnOf x qual (q144 st) (q103 st) (q17 st) .none kV doc pm an cdv ct /\ K.lookup f = some ⟨oc, od, .func fd, osl⟩ /\ PySem.W.codeIn K cdv qual = true
 kp : PySem.W.keepIn K (.ref f) = true
section
variable {P : Program} {w : World} {K : Fg} {mg : Mg} {base : Heap}
theorem Fun.ok {x qual : Str} {st : Stmt} {f : Addr} {fd : FuncData} {N ps : List Str} {k : Nat} {sp : Sp} (F : Fun K x qual st f fd) (S : FnScope N ps (q17 st)) (len : ∀ vs H Q E, sp vs H Q E -> vs.length = ps.length)
  (hbody : ∀ (cdv : Value) (A : Around) (outer : List Env) (s : Shared) (H : Hp) (vs : List V) (Q : VK) (E : XK), Room k (A.deeper (envOfC qual (q17 st) s.heap.objs.size f cdv)) -> sp vs H Q E ->
   ∃ t, PSs (cxOf CX0 P w K mg base N qual (q17 st) f cdv A outer s H E).nox (q103 st) t /\ t { nx := fun _ H' => Q .non H', rt := Q } (start N vs) H) : FnOk P w K mg base CX0 (k + 1) f fd ps sp := by
 obtain ⟨oc, od, kV, doc, pm, an, cdv, ct, osl, rfl, lk, hcd⟩ := F.ex
 refine fn_of lk hcd S len fun A outer s H vs Q E hr hsp => ?_
 obtain ⟨t, h, q⟩ := hbody cdv A outer s H vs Q E hr hsp
 exact ⟨t, h.nox, q⟩
theorem q710 {x qual : Str} {st : Stmt} {f : Addr} {oc : Value} {od an : Option Addr} {osl : Array (Option Value)} {kV doc pm cdv ct : Value} (l : K.lookup f = some ⟨oc, od, .func (PySem.W.fnOf x qual (q144 st) (q103 st) (q17 st) .none kV doc pm an cdv ct), osl⟩)
  (c : PySem.W.codeIn K cdv qual = true) (k : PySem.W.keepIn K (.ref f) = true) : Fun K x qual st f (PySem.W.fnOf x qual (q144 st) (q103 st) (q17 st) .none kV doc pm an cdv ct) := ⟨⟨oc, od, kV, doc, pm, an, cdv, ct, osl, rfl, l, c⟩, k⟩
end
theorem q66 {n : Nat} (h : n <= 1000) : n < sizeLine := Nat.lt_of_le_of_lt h (by decide)
theorem pv (i : Nat) {pos : Pos} (hN : X.N[i]? = some x := by rfl) (hv : Vis X.env.scope x := by first | exact Or.inl rfl | exact Or.inr (Or.inl rfl) | exact Or.inr (Or.inr rfl)) (hd : (x == ("__debug__" : Str)) = false := by decide)
  (hcd : (x == ("__classdict__" : Str)) = false := by decide) : PE X (.Name x pos) (tVar i) := pe_var hN hv hd hcd
theorem iteF {A B : Prop} (h : B) : if false = true then A else B := by
 rw [if_neg fnt]
 exact h
theorem iteT {A B : Prop} (h : A) : if true = true then A else B := by
 rw [if_pos rfl]
 exact h
theorem ite2 {c A B : Prop} [Decidable c] (h1 : c -> A) (h2 : ¬ c -> B) : if c then A else B := by
 by_cases h : c
 ·rw [if_pos h]
  exact h1 h
 ·rw [if_neg h]
  exact h2 h
theorem iteNS {c A B : Prop} [Decidable c] (hc : c) (h : B) : if (!decide c) = true then A else B := by
 rw [decide_eq_true hc]
 exact iteF h
def Same (H H' : Hp) : Prop := ∀ b o, H b = some o -> H' b = some o
theorem Same.refl (H : Hp) : Same H H := fun _ _ h => h
theorem Same.trans (a : Same H H1) (b : Same H1 H2) : Same H H2 := fun c o h => b c o (a c o h)
theorem Same.free (e : Same H H') (h : H' l = Option.none) : H l = Option.none := by
 cases q : H l with
 | none => rfl
 | some o =>
  rw [e l o q] at h
  cases h
theorem Same.seq {K : Fg} {H H' : Hp} {a : Addr} {xs : List V} (e : Same H H') (h : SqL K H a xs) : SqL K H' a xs := by
 rcases h with (h | ⟨o, h⟩) | h
 ·exact .inl (.inl (e _ _ h))
 ·exact .inl (.inr ⟨o, e _ _ h⟩)
 ·exact .inr h
section
variable {κ : Type} [DecidableEq κ]
end
section
variable {P : Program} {w : World} {H : Hp} {h : Heap} {a : Addr}
end
section
variable {pins : List (Addr × Obj)} {σ : St} {H : Hp} {s : Shared} {a : Addr} {y v : V} {u r : Value} {o : Option V} {A : Around} {E : VS}
end
section
variable {pins : List (Addr × Obj)} {σ : St} {H : Hp} {s : Shared} {a : Addr} {kvs : List (Key × V)} {k : Key} {u : Value} {A : Around} {E : VS}
end
section
variable {o i e value : Expr} {pos pos' tpos : Pos} {td ty tv : TE}
end
section
variable {pos : Pos}
end
theorem q16 (h : H p = none) (o : HO) : Same H (upd H p o) := fun b u q => by rw [q34 (q26 q h)]; exact q
structure Def (K : Fg) (mg : Mg) (x : Str) (st : Stmt) (ps : List Str) : Prop where
 ex : ∃ (f : Addr) (fd : FuncData), Fun K x x st f fd /\ (∀ us : List Value, us.length = ps.length -> bindArgs fd ⟨us, []⟩ = pure (ps.zip us)) /\ mg x = some (.ref f)
theorem q717 {K : Fg} {h : Heap} {mg : Mg} {x : Str} {st : Stmt} {ps : List Str} {f : Addr} {oc : Value} {od an : Option Addr} {osl : Array (Option Value)} {kV doc pm cdv ct : Value}
  (KX : K.In h) (G : h.Ns mainGlobals mg) (a : PySem.W.nsIn K mainGlobals x = some (some (.ref f)))
  (l : K.lookup f = some ⟨oc, od, .func (PySem.W.fnOf x x (q144 st) (q103 st) (q17 st) .none kV doc pm an cdv ct), osl⟩)
  (c : PySem.W.codeIn K cdv x = true) (k : PySem.W.keepIn K (.ref f) = true)
  (b : ∀ (kV doc pm : Value) (an : Option Addr) (cdv ct : Value) (us : List Value), us.length = ps.length -> bindArgs (PySem.W.fnOf x x (q144 st) (q103 st) (q17 st) .none kV doc pm an cdv ct) ⟨us, []⟩ = pure (ps.zip us)) :
  Def K mg x st ps := ⟨f, _, q710 l c k, b kV doc pm an cdv ct, PySem.W.mg_of KX G a⟩
structure Cal (P : Program) (w : World) (K : Fg) (mg : Mg) (base : Heap) (k : Nat) (x : Str) (ps : List Str) (sp : Sp) : Prop where
 ex : ∃ (f : Addr) (fd : FuncData), FnOk P w K mg base CX0 k f fd ps sp /\ Binds K fd ps [] /\ PySem.W.keepIn K (.ref f) = true /\ mg x = some (.ref f)
theorem Def.cal {P : Program} {w : World} {K : Fg} {mg : Mg} {base : Heap} {k : Nat} {x : Str} {st : Stmt} {ps : List Str} {sp : Sp} (d : Def K mg x st ps)
  (F : ∀ (f : Addr) (fd : FuncData), Fun K x x st f fd -> FnOk P w K mg base CX0 k f fd ps sp) : Cal P w K mg base k x ps sp := by
 obtain ⟨f, fd, h1, h2, h3⟩ := d.ex
 exact ⟨f, fd, F f fd h1, .all h2, h1.kp, h3⟩
section
variable {k : Nat} {x : Str} {ps : List Str} {sp : Sp} {p pos : Pos} {e : Expr} {es : List Expr} {t : TA}
theorem pe_fn (c : Cal X.prog X.w X.K X.mg X.base k x ps sp) (hr : Room k X.A) (hg : Gl X x) (ha : PA X (e :: es) t) (hdb : (x == ("__debug__" : Str)) = false := by decide)
  (he : starEach (e :: es) X.env = (false, eval e X.env) :: starEach es X.env := by rfl) (hpl : (backTo pos (starEach es X.env)).any (·.1) = false := by rfl) :
  PE X (.Call (.Name x p) (e :: es) [] pos) (tCall sp [] E0 t) := by
 obtain ⟨f, fd, F, B, kp, m⟩ := c.ex
 exact pe_call F hr hg m kp B .nil pass0 ha hdb he hpl
end
def spLaw (K : Fg) : Sp := fun vs H Q _ => ∃ (a : Addr) (ns : List Int), vs = [.ref a] /\ SqL K H a (ns.map V.int) /\ ns.length <= 63 /\ Only H /\ ∀ H', Q (.bl true) H'
theorem law_mk {P : Program} {w : World} {K : Fg} {mg : Mg} {k : Nat} {st : Stmt} {fa : Addr} (d : Def K mg "law" st ["_law_script"])
  (F : ∀ (base : Heap) (f : Addr) (fd : FuncData), Fun K "law" "law" st f fd -> FnOk P w K mg base CX0 k f fd ["_law_script"] (spLaw K)) (hmg : mg "law" = some (.ref fa)) :
  ∃ fd : FuncData, (∀ (s : Shared) (u : Value), BindsTo s fd ⟨[u], []⟩ [("_law_script", u)]) /\ ∀ base : Heap, K.In base -> base.Ns mainGlobals mg -> FnOk P w K mg base CX0 k fa fd ["_law_script"] (spLaw K) := by
 obtain ⟨f, fd, h1, h2, h3⟩ := d.ex
 have e := hmg.symm.trans h3
 cases e
 exact ⟨fd, fun s u => .of_eq (h2 [u] rfl), fun base _ _ => F base _ _ h1⟩
theorem walkL {l : PySem.W.OpenLaw} {k : Nat} {q : Program} {loose : List Str} {XP : (Mg) -> Heap -> Prop} {YP : World -> Heap -> Prop} {d : DefRec} {K : Params -> Fg} (hr : Room k callerA) (hn : l.most = some 63) (hdf : d.params.defaults = [])
  (hY : ∀ (w : World) (h : Heap), YP w h -> (K w.params).In h)
  (F : ∀ (w : World) (mg : Mg) (fa : Addr) (h : Heap), (K w.params).In h -> h.Ns mainGlobals mg -> mg d.name = some (.ref fa) ->
   ∃ fd : FuncData, (∀ (s : Shared) (u : Value), BindsTo s fd ⟨[u], []⟩ [("_law_script", u)]) /\ ∀ base : Heap, (K w.params).In base -> base.Ns mainGlobals mg -> FnOk l.prog w (K w.params) mg base CX0 k fa fd ["_law_script"] (spLaw (K w.params))) :
  PySem.W.WalkO q loose XP YP l.row.toRowW d [] (fun f vs => PySem.call f vs) :=
 q713 (n := 63) (k := k) (x := "_law_script") (CX := fun _ => CX0) (sp := fun w => spLaw (K w.params)) hn (by decide) hdf hr hY F (fun _ _ a ns hl hO hS => ⟨a, ns, rfl, hS, hl, hO, fun _ => rfl⟩) fun _ _ _ _ _ z => z
theorem q545 {n : Nat} (h : n < 10 ^ 60) : n.log2 < 9000 := by
 by_cases h0 : n = 0
 ·subst h0; decide
 ·have h1 : n.log2 < 200 := (Nat.log2_lt h0).mpr (Nat.lt_of_lt_of_le h (by decide))
  omega
theorem q94 : OpR X (binaryOp .FloorDiv) (rI (fun _ j => 0 < j /\ j < 10 ^ 60) fun i j => .int (i / j)) := opI fun i j _ _ _ _ _ hc q => by
 have h1 : (0 : Int) < j := hc.1
 have h2 : j < 10 ^ 60 := hc.2
 exact floordiv_int (by omega) (by rw [Int.fdiv_eq_ediv_of_nonneg i (by omega)]; exact q) (.inl (PyProof.noPylong_of_log2 (q545 (by omega))))
theorem q494 : CallR X (.builtin "isinstance") (fun xs H Q => ∃ x c t b, xs = [x, .ty c] /\ TyOf X.K H x t /\ PySem.W.kitOne X.K t (.type c) = some b /\ Q (.bl b) H) := by
 intro pins s σ H xs us Q I r h
 obtain ⟨x, c, t, b, rfl, ty, e, q⟩ := h
 obtain ⟨u, w', rfl, ru, rw'⟩ := vals2 r
 cases rw'
 exact q601 I ru ty e fun tk => ⟨.bl b, H, I.tok tk, rfl, q⟩
theorem q611 : OpR X (binaryOp .Add) (fun x y H Q => ∃ a b xs ys, x = .ref a /\ y = .ref b /\ SqT X.K H a xs /\ SqT X.K H b ys /\ xs.length + ys.length <= sizeLine /\
  ∀ p H', Same H H' -> SqT X.K H' p (xs ++ ys) -> (H a = some (.tup xs) -> H b = some (.tup ys) -> H' p = some (.tup (xs ++ ys))) -> Q (.ref p) H') := by
 intro pins s σ H x y v u Q I rx ry h
 obtain ⟨a, b, xs, ys, rfl, rfl, ha, hb, hz, q1⟩ := h
 cases rx
 cases ry
 obtain ⟨its, r1, p1, _⟩ := I.tuple ha
 obtain ⟨its2, r2, p2, _⟩ := I.tuple hb
 have hz' : its.length + its2.length <= sizeLine := by rw [<- r1.length, <- r2.length]; exact hz
 obtain ⟨⟨cls, dd, data, sl⟩, ho, hc, n, hd⟩ := id p1
 obtain ⟨⟨cls2, dd2, data2, sl2⟩, ho2, hc2, n2, hd2⟩ := id p2
 simp only at hc hd hc2 hd2
 subst hc hd hc2 hd2
 have e : its.toArray ++ its2.toArray = (its ++ its2).toArray := by simp
 by_cases hv : its = []
 ·have hx : xs = [] := r1.nil_iff.mp hv
  subst hx
  exact concat_meets ⟨_, ho, rfl⟩ ⟨_, ho2, rfl⟩ noFill_tuple_add seq_tuple_add PySem.F.slot_tuple_add PySem.F.entry_tuple_add (PySem.F.args_tuple_add_2 _ _)
   (tuple_addW0 a b its.toArray its2.toArray n n2 dd dd2 sl sl2 (by simp [hv])) ⟨ho, ho2, ⟨.ref b, H, I, rfl, q1 b H (Same.refl H) (by simpa using hb) (fun _ z => by simpa using z)⟩⟩
 ·by_cases hw : its2 = []
  ·have hy : ys = [] := r2.nil_iff.mp hw
   subst hy
   exact concat_meets ⟨_, ho, rfl⟩ ⟨_, ho2, rfl⟩ noFill_tuple_add seq_tuple_add PySem.F.slot_tuple_add PySem.F.entry_tuple_add (PySem.F.args_tuple_add_2 _ _)
    (tuple_addW1 a b its.toArray its2.toArray n n2 dd dd2 sl sl2 (by simpa using hv) (by simp [hw])) ⟨ho, ho2, ⟨.ref a, H, I, rfl, q1 a H (Same.refl H) (by simpa using ha) (fun z _ => by simpa using z)⟩⟩
  ·refine concat_meets ⟨_, ho, rfl⟩ ⟨_, ho2, rfl⟩ noFill_tuple_add seq_tuple_add PySem.F.slot_tuple_add PySem.F.entry_tuple_add (PySem.F.args_tuple_add_2 _ _)
    (tuple_addW2 a b its.toArray its2.toArray n n2 dd dd2 sl sl2 (by simpa using hv) (by simpa using hw) (by rw [List.size_toArray, List.size_toArray]; exact hz')) ⟨ho, ho2, ?_⟩
   rw [e]
   refine ⟨.ref s.heap.objs.size, _, I.laid (t' := s.toks) (o := .tup (xs ++ ys)) (fun b ob q => Heap.get?_push_of_some _ q) (Nat.le_refl _) ?_, rfl, q1 _ _ (q16 (I.hok.fresh (Nat.le_refl _)) _) (SqT.of q14) (fun _ _ => q14)⟩
   exact ⟨by rw [List.length_append]; exact hz, _, r1.append r2, IsTup.new _ _⟩
section
theorem q612 : bootBuiltins "int" = some (.type "int") := by decide +kernel
theorem q88 : bootBuiltins "str" = some (.type "str") := by decide +kernel
theorem bt_list : bootBuiltins "list" = some (.type "list") := by decide +kernel
theorem q126 : bootBuiltins "tuple" = some (.type "tuple") := by decide +kernel
theorem bt_len : bootBuiltins "len" = some (.builtin "len") := by decide +kernel
theorem q151 : bootBuiltins "isinstance" = some (.builtin "isinstance") := by decide +kernel
theorem bt_max : bootBuiltins "max" = some (.builtin "max") := by decide +kernel
theorem bt_min : bootBuiltins "min" = some (.builtin "min") := by decide +kernel
theorem bt_all : bootBuiltins "all" = some (.builtin "all") := by decide +kernel
theorem bt_sum : bootBuiltins "sum" = some (.builtin "sum") := by decide +kernel
end
section
variable {K : Fg}
theorem q213 : PySem.W.kitOne K (.type "str") (.type "str") = some true := by kernel_rfl
end
def Keep (p : Addr) (H H' : Hp) : Prop := ∀ b o, b ≠ p -> H b = some o -> H' b = some o
theorem Keep.trans (a : Keep p H H1) (b : Keep p H1 H2) : Keep p H H2 := fun c o n h => b c o n (a c o n h)
theorem Keep.same (s : Same H H') : Keep p H H' := fun b o _ h => s b o h
theorem Keep.set (p : Addr) (H : Hp) (o : HO) : Keep p H (upd H p o) := fun b u n h => by rw [q34 n]; exact h
theorem Keep.new (h : H q = none) (o : HO) : Keep p H (upd H q o) := .same (q16 h o)
theorem Keep.seqL {K : Fg} {p : Addr} {H H' : Hp} {a : Addr} {xs : List V} (e : Keep p H H') (n : a ≠ p) (h : SqL K H a xs) : SqL K H' a xs := by
 rcases h with (h | ⟨o, h⟩) | h
 ·exact .inl (.inl (e _ _ n h))
 ·exact .inl (.inr ⟨o, e _ _ n h⟩)
 ·exact .inr h
theorem Same.seqT {K : Fg} {H H' : Hp} {a : Addr} {xs : List V} (e : Same H H') (h : SqT K H a xs) : SqT K H' a xs := by
 rcases h with (h | ⟨o, h⟩) | h
 ·exact .inl (.inl (e _ _ h))
 ·exact .inl (.inr ⟨o, e _ _ h⟩)
 ·exact .inr h
theorem sz {n : Nat} (h : n <= 1000) : n <= sizeLine := Nat.le_of_lt (q66 h)
theorem szb {n : Nat} (h : Nat.ble n 1000 = true) : n <= sizeLine := sz (Nat.le_of_ble_eq_true h)
theorem q127 {l : List Int} {i : Int} (h0 : 0 <= i) (h1 : i < (l.length : Int)) : ∃ v, v ∈ l /\ atI (l.map V.int) i = some (.int v) := by
 have hk : i.toNat < l.length := by omega
 have ek : i = ((i.toNat : Nat) : Int) := by omega
 have q : atI (l.map V.int) ((i.toNat : Nat) : Int) = some (.int l[i.toNat]) := q41 (by rw [List.getElem?_map, List.getElem?_eq_getElem hk] <;> rfl)
 rw [<- ek] at q
 exact ⟨l[i.toNat], List.getElem_mem hk, q⟩
def relN (scope sc0 : Scope) : List (Str × NameKind) := scope.names.map fun (n, k) => if (k == .free && sc0.kind == .function && sc0.names.lookup n == some .cell) then (n, .cell) else (n, k)
def q89 (env : Env) : List (Str × Addr) -> Prop
 | [] => True
 | (n, c) :: r => env.cells.lookup n = some c /\ q89 env r
theorem q89.look {env : Env} : ∀ {cl : List (Str × Addr)} {n : Str} {c : Addr}, q89 env cl -> cl.lookup n = some c -> env.cells.lookup n = some c
 | [], _, _, _, h => by cases h
 | (m, d) :: r, n, c, hc, h => by
  rw [List.lookup_cons] at h
  cases hx : n == m with
  | true =>
   rw [hx] at h
   cases h
   rw [eq_of_beq hx]
   exact hc.1
  | false =>
   rw [hx] at h
   exact q89.look hc.2 h
theorem q214 {cl : List (Str × Addr)} (h : n ∈ cl.map (·.1)) : ∃ c, cl.lookup n = some c := by
 induction cl with
 | nil => cases h
 | cons p r ih =>
  obtain ⟨m, d⟩ := p
  rw [List.lookup_cons]
  cases hx : n == m with
  | true => exact ⟨d, rfl⟩
  | false =>
   rcases List.mem_cons.mp h with e | e
   ·have e' : n = m := e
    rw [e', beq_self_eq_true] at hx
    cases hx
   ·exact ih e
structure CompOk (scope sc0 : Scope) (x : Str) (N cn : List Str) : Prop where
 has : ∀ p ∈ relN scope sc0, (p.2 = .cell \/ p.2 = .free) -> p.1 ∈ cn
 nc : ∀ p ∈ scope.names, p.2 ≠ .cell
 names : ∀ p ∈ scope.names, p.2 = .local -> scope.names.lookup p.1 = some .local
 hx : scope.names.lookup x = some .local
 hx' : (relN scope sc0).lookup x = some .local
 nd : (x :: N).Nodup
 frs : ∀ y ∈ N, (relN scope sc0).lookup y = some .cell /\ sc0.names.lookup y = some .cell /\ y ∈ cn
def q63 (X : Cx) (scope : Scope) (cl : List (Str × Addr)) (C : Addr) (x : Str) (N : List Str) (s₂ : Shared) (H₂ : Hp) (fp : List Addr) : Cx where
 prog := X.prog
 w := X.w
 K := X.K
 mg := X.mg
 base := X.base
 A := X.A
 N := x :: N
 s₀ := s₂
 H₀ := H₂
 env := compEnvC scope cl C X.env
 outer := X.stack
 stack := X.stack
 ex := fp
 fn := fun _ => false
 calm := X.calm
 pn := []
 xe := fun _ _ => False
def tComp (wi : TI) (te : TE) (fr : List Nat) : TE := fun σ H Q => wi σ H fun J H1 => ∀ D, H1 D = none -> ∃ W : Nat -> Nat -> List V -> Hp -> Prop, (∃ m, W 0 m [] (upd H1 D (.lst []))) /\
 ∀ i m ys H2, W i m ys H2 -> H2 D = some (.lst ys) /\ ((J.stop i H2 /\ Q (.ref D) H2) \/ (J.go i H2 /\ ys.length < sizeLine /\ ∃ N : V -> Hp -> Prop, (∀ y H3, N y H3 -> H3 D = some (.lst ys) /\ ∃ m', m' < m /\ W (i + 1) m' (ys ++ [y]) (upd H3 D (.lst (ys ++ [y])))) /\
  ∀ x H', J.yld i H2 x H' -> te (some x :: fr.map fun j => (σ[j]?).getD none) H' N))
theorem q279 {α : Type} : ∀ {l : List (Str × α)} {x : Str} {a : α}, l.lookup x = some a -> (x, a) ∈ l := fun h => PySem.mem_of_lookup h
abbrev nbOf (prog : Program) (w : World) (A : Around) (env : Env) (R : Result -> Shared -> Prop) : VS := notedBy (model prog w) A env fun e s' => R (.error e) s'
def PTs (X : Cx) (ifs : List Expr) (tt : TT) : Prop :=
 ∀ (pins : List (Addr × Obj)) (s : Shared) (σ : St) (H : Hp) (Q : Bool -> Hp -> Prop), Inv X pins σ H s -> tt σ H Q ->
  wpAny (model X.prog X.w) X.A (forIn ifs true fun c r => if r = true then do let ok <- isTrue c X.env (eval c X.env); pure (ForInStep.yield ok) else pure (ForInStep.yield r)) (TP X pins σ Q) X.xe s
theorem q439 : PTs X [] (fun _ H Q => Q true H) := fun _ _ _ H _ I h => wpAny_tests_nil ⟨H, I, h⟩
theorem pts_one (h : PT X cc tt) : PTs X [cc] tt := fun pins s σ H Q I hw => wpAny_tests_one (h pins s σ H Q I hw)
structure CompOkG (scope sc0 : Scope) (N cn : List Str) : Prop where
 has : ∀ p ∈ relN scope sc0, (p.2 = .cell \/ p.2 = .free) -> p.1 ∈ cn
 nc : ∀ p ∈ scope.names, p.2 ≠ .cell
 names : ∀ p ∈ scope.names, p.2 = .local -> scope.names.lookup p.1 = some .local
 frs : ∀ y ∈ N, (relN scope sc0).lookup y = some .cell /\ sc0.names.lookup y = some .cell /\ y ∈ cn
def tCompG (k : Nat) (wi : TI) (gt : TG) (tt : TT) (te : TE) (fr : List Nat) : TE := fun σ H Q => wi σ H fun J H1 => ∀ D, H1 D = none -> ∃ W : Nat -> Nat -> List V -> Hp -> Prop, (∃ m, W 0 m [] (upd H1 D (.lst []))) /\
 ∀ i m ys H2, W i m ys H2 -> H2 D = some (.lst ys) /\ ((J.stop i H2 /\ Q (.ref D) H2) \/ (J.go i H2 /\ ys.length < sizeLine /\ ∃ (N : V -> Hp -> Prop) (Z : Hp -> Prop), (∀ y H3, N y H3 -> H3 D = some (.lst ys) /\ ∃ m', m' < m /\ W (i + 1) m' (ys ++ [y]) (upd H3 D (.lst (ys ++ [y])))) /\ (∀ H3, Z H3 -> ∃ m', m' < m /\ W (i + 1) m' ys H3) /\
  ∀ x H', J.yld i H2 x H' -> ∀ vs : St, vs.length = k -> gt x (vs ++ fr.map fun j => (σ[j]?).getD none) H' fun σ' H3 => (∃ vs' : St, vs'.length = k /\ σ' = vs' ++ fr.map fun j => (σ[j]?).getD none) /\ tt σ' H3 fun b H4 => if b = true then te σ' H4 N else Z H4))
section
variable {prog : Program} {w : World} {A : Around} {R : Result -> Shared -> Prop} {s : Shared}
theorem q546 (I : Nat -> Shared -> Prop)
  (turn : ∀ n s, I n s -> wpAny (model prog w) A (pyNext it) (fun r s₁ => match r with
   | none => R (.ok .next) s₁
   | some v => wpAny (model prog w) A (letOwnedTupleGo target it v) (fun _ s₁' => wpAny (model prog w) A (assign target env v) (fun _ s₂ =>
     wpAny (model prog w) A (forIn ifs true fun c r => if r = true then do let ok <- isTrue c env (eval c env); pure (ForInStep.yield ok) else pure (ForInStep.yield r)) (fun okb s₂' => if okb = true then
     wpAny (model prog w) A (eval elt env) (fun x s₃ => wpAny (model prog w) A (call (.builtin "list.append") [acc, x]) (fun _ s₄ => ∃ m, m < n /\ I m s₄) (nbOf prog w A env R) s₃) (nbOf prog w A env R) s₂'
     else ∃ m, m < n /\ I m s₂') (nbOf prog w A env R) s₂) (nbOf prog w A env R) s₁') (nbOf prog w A env R) s₁) (nbOf prog w A env R) s)
  (n : Nat) (h : I n s) :
  codeAny (model prog w) A (.compLoop (.ListComp elt [⟨target, iter, ifs, 0⟩] scope pos) 0 it acc env) R s := by
 refine codeAny_loop rfl I (fun n s hI => ?_) n h
 show wpAny _ _ ((compTurn (.ListComp elt [⟨target, iter, ifs, 0⟩] scope pos) 0 it acc env).onRaise (fun x => do noteFrame x env; theTreesLotGoes x)) _ _ s
 refine wpAny_noted ?_
 rw [compTurn_list]
 refine wpAny_bind (wpAny_standAt (wpAny_bind (wpAny_mono (turn n s hI) (fun r s₁ h₁ => ?_) fun _ _ h' => h')))
 cases r with
 | none => exact wpAny_pure h₁
 | some v =>
  refine wpAny_bind (wpAny_mono h₁ (fun _ s₁' h₁' => wpAny_bind (wpAny_mono h₁' (fun _ s₂ h₂ => wpAny_bind (wpAny_mono h₂ (fun okb s₂' h₂' => ?_) fun _ _ h' => h')) fun _ _ h' => h')) fun _ _ h' => h')
  cases okb with
  | false => exact wpAny_pure ⟨rfl, h₂'⟩
  | true => exact wpAny_bind (wpAny_bind (wpAny_mono h₂' (fun x s₃ h₃ => wpAny_bind (wpAny_mono h₃ (fun _ s₄ h₄ => wpAny_pure (wpAny_pure ⟨rfl, h₄⟩)) fun _ _ h' => h')) fun _ _ h' => h'))
end
theorem q174 {X : Cx} {elt iter tg : Expr} {ifs : List Expr} {x : Str} {pos : Pos} {scope sc0 : Scope} {cl : List (Str × Addr)} {cn TN N : List Str} {fr : List Nat} {gt : TG} {tt : TT} {te : TE} {pins : List (Addr × Obj)} {σ : St} {H2 : Hp} {s2 : Shared} {it : Addr} {fp : List Addr}
  {tn : Nat -> Heap -> Prop} {J : It} {RR : Value -> Addr -> Result -> Shared -> Prop} {R : Hp -> Prop} {E : VS} {W : Nat -> Nat -> List V -> Hp -> Prop} {m0 : Nat}
  (hc : X.calm = true) (he : ∀ (C : Addr) (s₂ : Shared) (H₂ : Hp) (fp : List Addr), PE (q63 X scope cl C x (TN ++ N) s₂ H₂ fp) elt te) (hct : ∀ (C : Addr) (s₂ : Shared) (H₂ : Hp) (fp : List Addr), PTs (q63 X scope cl C x (TN ++ N) s₂ H₂ fp) ifs tt) (hgt : ∀ (C : Addr) (s₂ : Shared) (H₂ : Hp) (fp : List Addr), PG (q63 X scope cl C x (TN ++ N) s₂ H₂ fp) tg gt)
  (hcl : q89 X.env cl) (hcn : cl.map (·.1) = cn) (hsc : X.env.scope = sc0) (hk : scope.kind = .function) (hok : CompOkG scope sc0 N cn) (hfr : fr.map (fun j => X.N[j]?) = N.map some)
  (I2 : Inv X pins σ H2 s2) (T : Turn X.prog X.w X.K tg J fp it tn) (st2 : tn 0 s2.heap) (f2 : ∀ b ∈ fp, FpOk X pins H2 b)
  (w0 : W 0 m0 [] (upd H2 s2.heap.objs.size (.lst [])))
  (turn : ∀ i m ys H, W i m ys H -> H s2.heap.objs.size = some (.lst ys) /\ ((J.stop i H /\ R H) \/ (J.go i H /\ ys.length < sizeLine /\ ∃ (N : V -> Hp -> Prop) (Z : Hp -> Prop),
   (∀ y H3, N y H3 -> H3 s2.heap.objs.size = some (.lst ys) /\ ∃ m', m' < m /\ W (i + 1) m' (ys ++ [y]) (upd H3 s2.heap.objs.size (.lst (ys ++ [y])))) /\ (∀ H3, Z H3 -> ∃ m', m' < m /\ W (i + 1) m' ys H3) /\
   ∀ x H', J.yld i H x H' -> ∀ vs : St, vs.length = TN.length + 1 -> gt x (vs ++ fr.map fun j => (σ[j]?).getD none) H' fun σ' H3 => (∃ vs' : St, vs'.length = TN.length + 1 /\ σ' = vs' ++ fr.map fun j => (σ[j]?).getD none) /\ tt σ' H3 fun b H4 => if b = true then te σ' H4 N else Z H4)))
  (hRR : ∀ (C : Addr) (H6 : Hp) (s6 : Shared) (m6 : Mg), s6.heap.Ns C m6 -> Inv X pins σ H6 s6 -> FpOk X pins H6 C -> R H6 -> RR (.ref s2.heap.objs.size) C (.ok .next) s6) :
  wpAny (model X.prog X.w) X.A (newList []) (fun acc s₃ => wpAny (model X.prog X.w) X.A (newFunctionEnv scope X.env.globals cl [] X.env.qual none .none (some X.env)) (fun cenv s₄ =>
   codeAny (model X.prog X.w) X.A (.compStart (.ListComp elt [⟨tg, iter, ifs, 0⟩] scope pos) 0 (.ref it) acc { cenv with scope := relabel scope X.env }) (RR acc cenv.locals) s₄) E s₃) E s2 := by
 refine wpAny_newObj_type (wpAny_newFunctionEnv hok.nc (by intro y hy; simp at hy) (fun h4 hns hsb => ?_) hk)
 dsimp only at hns hsb ⊢
 have rel : ∀ y, (compEnvC scope cl 0 X.env).scope.names.lookup y = (relN scope sc0).lookup y := fun y => by
  show (relabel scope X.env).names.lookup y = _
  unfold relabel relN Env.kindOf
  rw [hsc]
 generalize hD : s2.heap.objs.size = D at *
 have I3 : Inv X pins σ (upd H2 D (.lst [])) { s2 with heap := s2.heap.push { cls := .type "list", dict := none, data := .seq ([] : List Value).toArray } } :=
  I2.laid (t' := s2.toks) (fun b u e => Heap.get?_push_of_some _ e) (Nat.le_of_eq hD) ⟨Nat.zero_le _, [], 0, .nil, by rw [<- hD]; exact Heap.get?_push_size _ rfl⟩
 have k23 : ∀ b u, s2.heap.get? b = some u -> (s2.heap.push { cls := .type "list", dict := none, data := .seq ([] : List Value).toArray }).get? b = some u := fun b u e => Heap.get?_push_of_some _ e
 have hsz : s2.heap.objs.size <= (s2.heap.push { cls := .type "list", dict := none, data := .seq ([] : List Value).toArray }).objs.size := by rw [Heap.size_push]; exact Nat.le_succ _
 generalize hh3 : s2.heap.push { cls := .type "list", dict := none, data := .seq ([] : List Value).toArray } = h3 at *
 have k34 : ∀ b u, h3.get? b = some u -> h4.get? b = some u := fun b u e => (hsb.2 b (Nat.ne_of_lt (Heap.lt_size e))).trans (Heap.get?_push_of_some _ e)
 generalize hC : h3.objs.size = C at *
 have I4 : Inv X pins σ (upd H2 D (.lst [])) { s2 with heap := h4, toks := s2.toks + ([] : List (Str × Value)).length } := I3.kept (t' := s2.toks + 0) k34
 generalize hH3 : upd H2 D (.lst []) = H3 at *
 have ltC : ∀ b o, s2.heap.get? b = some o -> b < C := fun b o e => Nat.lt_of_lt_of_le (Heap.lt_size e) hsz
 have lenF : fr.length = N.length := by simpa using congrArg List.length hfr
 have fpo : ∀ b ∈ fp, b ≠ C /\ b ∉ frs X.stack := fun b hb => by
  obtain ⟨o, e, _⟩ := T.obj 0 s2.heap st2 b hb
  refine ⟨Nat.ne_of_lt (ltC b o e), fun z => ?_⟩
  obtain ⟨_, n1, n2, _⟩ := f2 b hb
  rcases List.mem_cons.mp (I2.stkSub b z) with q | q
  ·exact n1 q
  ·exact n2 q
 have H3C : H3 C = none := I3.hok.fresh (Nat.le_of_eq hC)
 have okX : (q63 X scope cl C x (TN ++ N) { s2 with heap := h3 } H3 fp).Ok := by
  refine ⟨I2.ok.mod, hk, I2.ok.glob, I2.ok.blt, Nat.le_of_eq hC, fun y z c e1 e2 => I2.ok.inj y z c (hcl.look e1) (hcl.look e2), fun y hy => ?_, fun y c z => (fnt z).elim, fun z => I2.ok.hd z, I2.ok.frames, .inl rfl,
   fun b hb => ⟨(fpo b hb).1, fun y c e => (f2 b hb).2.2.2.2.1 y c (hcl.look e)⟩, fun b o e => I3.bs b o e, Nat.le_trans I2.ok.bsz I3.sz, fun b o e hb => ?_, fun b hb => (fpo b hb).2, I3.stack, I3.stkFree⟩
  ·have hy' : (relN scope sc0).lookup y = some .cell \/ (relN scope sc0).lookup y = some .free := by
    rcases hy with hy | hy
    ·exact .inl ((rel y).symm.trans hy)
    ·exact .inr ((rel y).symm.trans hy)
   have hm : y ∈ cn := by
    rcases hy' with q | q
    ·exact hok.has (y, .cell) (q279 q) (.inl rfl)
    ·exact hok.has (y, .free) (q279 q) (.inr rfl)
   exact q214 (cl := cl) (n := y) (by rw [hcn]; exact hm)
  ·rcases (f2 b hb).2.2.2.1 with z | z
   ·exact I2.ok.noex b o e z
   ·exact absurd (Nat.lt_of_lt_of_le (Heap.lt_size e) (Nat.le_trans I2.ok.bsz z)) (Nat.lt_irrefl _)
 have I5 : Inv (q63 X scope cl C x (TN ++ N) { s2 with heap := h3 } H3 fp) [] (List.replicate (TN.length + 1) none ++ fr.map fun j => (σ[j]?).getD none) H3 { s2 with heap := h4, toks := s2.toks + ([] : List (Str × Value)).length } := by
  refine ⟨okX, rfl, I4.bare, Un.kept k34, ⟨_, hns, fun i y v e1 e2 e3 => ?_⟩, fun y c e => I4.cell y c (hcl.look e), H3C, fun y c e => I4.freeC y c (hcl.look e), fun p hp => absurd (show p ∈ ([] : List (Addr × Obj)) from hp) (by simp), I4.hok, by simp [q63, lenF]; omega⟩
  by_cases hiT : i < TN.length + 1
  ·exfalso
   rw [List.getElem?_append_left (by rw [List.length_replicate]; exact hiT), List.getElem?_replicate, if_pos hiT] at e2
   cases e2
  ·obtain ⟨j, rfl⟩ : ∃ j, i = TN.length + 1 + j := ⟨i - (TN.length + 1), by omega⟩
   have e1' : N[j]? = some y := by
    have e1b : (x :: (TN ++ N))[TN.length + 1 + j]? = some y := e1
    rw [show TN.length + 1 + j = (TN.length + j) + 1 by omega, List.getElem?_cons_succ, List.getElem?_append_right (by omega), show TN.length + j - TN.length = j by omega] at e1b
    exact e1b
   have e2' : (fr.map fun j => (σ[j]?).getD none)[j]? = some (some v) := by
    rw [List.getElem?_append_right (by rw [List.length_replicate]; omega), List.length_replicate, show TN.length + 1 + j - (TN.length + 1) = j by omega] at e2
    exact e2
   obtain ⟨k, ek⟩ : ∃ k, fr[j]? = some k := by
    have : j < fr.length := by rw [lenF]; exact (List.getElem?_eq_some_iff.mp e1').1
    exact ⟨fr[j], List.getElem?_eq_getElem this⟩
   rw [List.getElem?_map, ek] at e2'
   have e2'' : (σ[k]?).getD none = some v := Option.some.inj e2'
   have eσ : σ[k]? = some (some v) := by
    cases q : σ[k]? with
    | none => rw [q] at e2''; cases e2''
    | some o => rw [q] at e2''; exact congrArg some e2''
   have eN : X.N[k]? = some y := by
    have z := congrArg (fun l => l[j]?) hfr
    simp only [List.getElem?_map, ek, e1', Option.map_some] at z
    exact Option.some.inj z
   obtain ⟨r1, r2, r3⟩ := hok.frs y (List.mem_of_getElem? e1')
   obtain ⟨m, _, hl⟩ := I4.loc
   obtain ⟨u, ru, look⟩ := hl k y v eN eσ (.inr (.inl (by rw [hsc]; exact r2)))
   refine ⟨u, ru, .inr ⟨.inl ((rel y).trans r1), ?_⟩⟩
   rcases look with ⟨l1, _⟩ | ⟨_, c, l1, l2⟩
   ·exfalso
    have l1' : X.env.scope.names.lookup y = some .local := l1
    rw [hsc, r2] at l1'
    cases l1'
   ·obtain ⟨c', l3⟩ := q214 (cl := cl) (n := y) (by rw [hcn]; exact r3)
    have l4 := hcl.look l3
    rw [l1] at l4
    cases l4
    exact ⟨c, l3, l2⟩
 have st4 : tn 0 h4 := T.keep 0 s2.heap h4 st2 fun b hb o e => k34 b o (k23 b o e)
 have fp5 : ∀ {H' : Hp}, (∀ b ∈ fp, H' b = none) -> ∀ b ∈ fp, FpOk (q63 X scope cl C x (TN ++ N) { s2 with heap := h3 } H3 fp) [] H' b := fun hn b hb =>
  ⟨hn b hb, (fpo b hb).1, (fpo b hb).2, .inl hb, fun y c e => (f2 b hb).2.2.2.2.1 y c (hcl.look e), fun p hp => absurd (show p ∈ ([] : List (Addr × Obj)) from hp) (by simp)⟩
 have fr3 : ∀ b ∈ fp, H3 b = none := fun b hb => by
  obtain ⟨o, e, _⟩ := T.obj 0 s2.heap st2 b hb
  have : b ≠ D := Nat.ne_of_lt (hD ▸ Heap.lt_size e)
  rw [<- hH3, q34 this]
  exact (f2 b hb).1
 have fin : ∀ (H6 : Hp) (s6 : Shared) (σ6 : St), Inv (q63 X scope cl C x (TN ++ N) { s2 with heap := h3 } H3 fp) [] σ6 H6 s6 -> Inv X pins σ H6 s6 /\ FpOk X pins H6 C := by
  intro H6 s6 σ6 I6
  refine ⟨I3.call' (s' := s6) (ch := fp) I6.os ⟨I6.base.keep, I6.base.slot, I6.base.free, I6.base.there, I6.base.tups, I6.base.frzs, I6.base.tbls⟩ I6.hok I6.bare (fun b hb => ?_), I3.fpOk (Nat.le_of_eq hC) I6.free⟩
  obtain ⟨_, n1, _, n3, n4, n5⟩ := f2 b hb
  exact ⟨n3, n1, n4, n5⟩
 have loop : codeAny (model X.prog X.w) X.A (.compLoop (.ListComp elt [⟨tg, iter, ifs, 0⟩] scope pos) 0 (.ref it) (.ref D) (compEnvC scope cl C X.env))
   (RR (.ref D) C) { s2 with heap := h4, toks := s2.toks + ([] : List (Str × Value)).length } := by
  refine q546 (fun n s' => ∃ (i : Nat) (vs : St) (ys : List V) (H' : Hp), vs.length = TN.length + 1 /\ Inv (q63 X scope cl C x (TN ++ N) { s2 with heap := h3 } H3 fp) [] (vs ++ fr.map fun j => (σ[j]?).getD none) H' s' /\ tn i s'.heap /\ (∀ b ∈ fp, H' b = none) /\ W i n ys H') ?_ m0
   ⟨0, List.replicate (TN.length + 1) none, [], H3, by simp, I5, st4, fr3, w0⟩
  rintro n s6 ⟨i, vs, ys, H6, hvs, I6, st6, fr6, w6⟩
  obtain ⟨hDl, hw⟩ := turn i n ys H6 w6
  rcases hw with ⟨stop, qn⟩ | ⟨go, hlen, N', Z', hN', hZ', step⟩
  ·refine thn (T.done (q63 X scope cl C x (TN ++ N) { s2 with heap := h3 } H3 fp) rfl rfl rfl hc i [] s6 _ H6 _ I6 (fp5 fr6) st6 stop) fun r s7 ⟨hr, I7⟩ => ?_
   subst hr
   obtain ⟨m7, hn7, _⟩ := I7.loc
   obtain ⟨J7, F7⟩ := fin H6 s7 _ I7
   exact hRR C H6 s7 m7 hn7 J7 F7 qn
  ·refine thn (T.item (q63 X scope cl C x (TN ++ N) { s2 with heap := h3 } H3 fp) rfl rfl rfl hc i [] s6 _ H6 _ I6 (fp5 fr6) st6 go) fun r s7 ⟨u, hr, h7⟩ => ?_
   subst hr
   refine thn h7 fun _ s8 ⟨x8, H8, I8, r8, y8, st8, fr8⟩ => ?_
   have I8' := I8.pinned (fp5 fr8) (T.obj _ _ st8)
   refine wpAny_mono (hgt C { s2 with heap := h3 } H3 fp _ s8 _ H8 x8 u _ I8' r8 (step x8 H8 y8 vs hvs)) (fun _ s9 h9 => ?_) fun _ _ z => False.elim z
   obtain ⟨σ9, H9a, I9, ⟨vs9, hl9, e9⟩, n9a⟩ := h9
   subst e9
   refine wpAny_mono (hct C { s2 with heap := h3 } H3 fp _ s9 _ H9a _ I9 n9a) (fun okb s9b h9b => ?_) fun _ _ z => False.elim z
   obtain ⟨H9, I9b, n9⟩ := h9b
   cases okb with
   | false =>
    rw [if_neg fnt] at n9 ⊢
    obtain ⟨m', hm, w9⟩ := hZ' _ n9
    refine ⟨m', hm, i + 1, vs9, ys, _, hl9, I9b.unpinned, T.keep _ _ _ st8 fun b hb o e => (I9b.pin (b, o) (List.mem_append_right _ (List.mem_append_right _ (q83 hb e)))).1, fun b hb => ?_, w9⟩
    obtain ⟨o, e, d⟩ := T.obj _ _ st8 b hb
    exact (I9b.pin (b, o) (List.mem_append_right _ (List.mem_append_right _ (q83 hb e)))).2.1
   | true =>
    rw [if_pos rfl] at n9 ⊢
    refine wpAny_mono (he C { s2 with heap := h3 } H3 fp _ s9b _ H9 _ I9b n9) (fun y s10 h10 => ?_) fun _ _ z => False.elim z
    obtain ⟨y10, H10, I10, r10, n10⟩ := h10
    obtain ⟨hD10, m', hm, w10⟩ := hN' y10 H10 n10
    refine wpAny_mono (q55 (X := q63 X scope cl C x (TN ++ N) { s2 with heap := h3 } H3 fp) _ s10 _ H10 (.ref D) [y10] (.ref D) [y] (fun _ H' => H' = upd H10 D (.lst (ys ++ [y10]))) I10 rfl (.cons r10 .nil) ⟨D, ys, y10, rfl, rfl, hD10, hlen, rfl⟩) (fun _ s11 h11 => ?_) fun _ _ z => False.elim z
    obtain ⟨_, H11, I11, _, e11⟩ := h11
    subst e11
    refine ⟨m', hm, i + 1, vs9, ys ++ [y10], _, hl9, I11.unpinned, T.keep _ _ _ st8 fun b hb o e => (I11.pin (b, o) (List.mem_append_right _ (List.mem_append_right _ (q83 hb e)))).1, fun b hb => ?_, w10⟩
    obtain ⟨o, e, d⟩ := T.obj _ _ st8 b hb
    exact (I11.pin (b, o) (List.mem_append_right _ (List.mem_append_right _ (q83 hb e)))).2.1
 exact codeAny_compStart_list loop (T.self _ 0 _ _ _ st4 loop)
theorem q313 {X : Cx} (hsc : X.env.scope = sc0) (h : (relN scope sc0).lookup x = some .local) : (compEnvC scope cl C X.env).scope.names.lookup x = some .local := by
 show (relabel scope X.env).names.lookup x = _
 rw [<- h]
 unfold relabel relN Env.kindOf
 rw [hsc]
theorem q370 {X : Cx} {elt iter : Expr} {x : Str} {px pos : Pos} {scope sc0 : Scope} {cl : List (Str × Addr)} {cn N : List Str} {fr : List Nat} {te : TE} {pins : List (Addr × Obj)} {σ : St} {H2 : Hp} {s2 : Shared} {it : Addr} {fp : List Addr}
  {tn : Nat -> Heap -> Prop} {J : It} {RR : Value -> Addr -> Result -> Shared -> Prop} {R : Hp -> Prop} {E : VS} {W : Nat -> Nat -> List V -> Hp -> Prop} {m0 : Nat}
  (hc : X.calm = true) (he : ∀ (C : Addr) (s₂ : Shared) (H₂ : Hp) (fp : List Addr), PE (q63 X scope cl C x N s₂ H₂ fp) elt te)
  (hcl : q89 X.env cl) (hcn : cl.map (·.1) = cn) (hsc : X.env.scope = sc0) (hk : scope.kind = .function) (hok : CompOk scope sc0 x N cn) (hfr : fr.map (fun j => X.N[j]?) = N.map some)
  (I2 : Inv X pins σ H2 s2) (T : Turn X.prog X.w X.K (.Name x px) J fp it tn) (st2 : tn 0 s2.heap) (f2 : ∀ b ∈ fp, FpOk X pins H2 b)
  (w0 : W 0 m0 [] (upd H2 s2.heap.objs.size (.lst [])))
  (turn : ∀ i m ys H, W i m ys H -> H s2.heap.objs.size = some (.lst ys) /\ ((J.stop i H /\ R H) \/ (J.go i H /\ ys.length < sizeLine /\ ∃ N : V -> Hp -> Prop,
   (∀ y H3, N y H3 -> H3 s2.heap.objs.size = some (.lst ys) /\ ∃ m', m' < m /\ W (i + 1) m' (ys ++ [y]) (upd H3 s2.heap.objs.size (.lst (ys ++ [y])))) /\
   ∀ x H', J.yld i H x H' -> te (some x :: fr.map fun j => (σ[j]?).getD none) H' N)))
  (hRR : ∀ (C : Addr) (H6 : Hp) (s6 : Shared) (m6 : Mg), s6.heap.Ns C m6 -> Inv X pins σ H6 s6 -> FpOk X pins H6 C -> R H6 -> RR (.ref s2.heap.objs.size) C (.ok .next) s6) :
  wpAny (model X.prog X.w) X.A (newList []) (fun acc s₃ => wpAny (model X.prog X.w) X.A (newFunctionEnv scope X.env.globals cl [] X.env.qual none .none (some X.env)) (fun cenv s₄ =>
   codeAny (model X.prog X.w) X.A (.compStart (.ListComp elt [⟨.Name x px, iter, [], 0⟩] scope pos) 0 (.ref it) acc { cenv with scope := relabel scope X.env }) (RR acc cenv.locals) s₄) E s₃) E s2 := by
 refine q174 (TN := []) (gt := gName 0) (tt := fun _ H Q => Q true H) hc he (fun _ _ _ _ => q439) (fun _ _ _ _ => q143 hok.nd rfl (.inl ?_) (.inr ?_)) hcl hcn hsc hk ⟨hok.has, hok.nc, hok.names, hok.frs⟩ hfr I2 T st2 f2 w0 (fun i m ys H h => ?_) hRR
 ·exact q313 hsc hok.hx'
 ·exact q313 hsc hok.hx'
 obtain ⟨a, b⟩ := turn i m ys H h
 refine ⟨a, ?_⟩
 rcases b with b | ⟨g, l, N, h1, h2⟩
 ·exact .inl b
 refine .inr ⟨g, l, N, fun _ => False, h1, fun _ z => z.elim, fun x H' y vs hv => ?_⟩
 match vs, hv with
 | [v0], _ => exact ⟨⟨[some x], rfl, rfl⟩, iteT (h2 x H' y)⟩
theorem Inv.let_go {s : Shared} (I : Inv X pins σ H s) (F : FpOk X pins H C) (sb : Heap.SameBut C s.heap h') : Inv X pins σ H { s with heap := h' } := by
 obtain ⟨f0, f1, _, f3, f4, f5⟩ := F
 exact I.turned (t' := s.toks) (fun b o hb e => (sb.2 b hb).trans e) f0 f1 f3 f4 f5
theorem q64 {X : Cx} {elt iter : Expr} {x : Str} {px pos : Pos} {scope sc0 : Scope} {cl : List (Str × Addr)} {cn N : List Str} {fr : List Nat} {wi : TI} {te : TE}
  (hc : X.calm = true) (hi : PI X (.Name x px) iter wi) (he : ∀ (C : Addr) (s₂ : Shared) (H₂ : Hp) (fp : List Addr), PE (q63 X scope cl C x N s₂ H₂ fp) elt te)
  (hclos : closureFor scope X.env = pure cl) (hcl : q89 X.env cl) (hcn : cl.map (·.1) = cn) (hsc : X.env.scope = sc0) (hk : scope.kind = .function) (hok : CompOk scope sc0 x N cn)
  (hfr : fr.map (fun j => X.N[j]?) = N.map some) (hs : ∀ v, foldedSetIterable iter X.env v = pure v := by intro _; rfl) :
  PE X (.ListComp elt [⟨.Name x px, iter, [], 0⟩] scope pos) (tComp wi te fr) := by
 intro pins s σ H Q I h
 rw [eval_ListComp]
 refine wpAny_comprehension_free (use := none) rfl hs hclos hk hok.names (thn (hi pins s σ H _ I h) fun v s1 h1 => thn h1 fun itv s2 h2 => ?_)
 obtain ⟨it, fp, tn, J, H2, e, I2, T, st2, f2, hq⟩ := h2
 subst e
 obtain ⟨W, ⟨m0, w0⟩, turn⟩ := hq s2.heap.objs.size (I2.hok.fresh (Nat.le_refl _))
 exact q370 (RR := fun acc C => compPost (model X.prog X.w) X.A X.xe none (EP X pins σ Q) acc C) (R := fun H6 => Q (.ref s2.heap.objs.size) H6) hc he hcl hcn hsc hk hok hfr I2 T st2 f2 w0 turn
  fun C H6 s6 m6 hn I6 F6 q => ⟨m6, hn, fun h' sb => ⟨.ref s2.heap.objs.size, H6, I6.let_go F6 sb, rfl, q⟩⟩
def tSetComp (i : Nat) (wi : TI) (te : TE) (fr : List Nat) : TS := fun D σ H => tComp wi te fr σ H fun v H1 => D.nx (σ.set i (some v)) H1
theorem q280 {X : Cx} {i : Nat} {y : Str} {py spos : Pos} {elt iter : Expr} {x : Str} {px pos : Pos} {scope sc0 : Scope} {cl : List (Str × Addr)} {cn N : List Str} {fr : List Nat} {wi : TI} {te : TE}
  (hN : X.N.Nodup) (hiN : X.N[i]? = some y) (hy : Loc X.env.scope y)
  (hc : X.calm = true) (hi : PI X (.Name x px) iter wi) (he : ∀ (C : Addr) (s₂ : Shared) (H₂ : Hp) (fp : List Addr), PE (q63 X scope cl C x N s₂ H₂ fp) elt te)
  (hclos : closureFor scope X.env = pure cl) (hcl : q89 X.env cl) (hcn : cl.map (·.1) = cn) (hsc : X.env.scope = sc0) (hk : scope.kind = .function) (hok : CompOk scope sc0 x N cn)
  (hfr : fr.map (fun j => X.N[j]?) = N.map some) (hsw : swapsWith (.ListComp elt [⟨.Name x px, iter, [], 0⟩] scope pos) (some (.Name y py)) spos.line X.env = pure true)
  (hf : X.fn y = true \/ X.env.scope.names.lookup y = some .local) (hs : ∀ v, foldedSetIterable iter X.env v = pure v := by intro _; rfl) :
  PS X (.Assign [.Name y py] (.ListComp elt [⟨.Name x px, iter, [], 0⟩] scope pos) spos) (tSetComp i wi te fr) := by
 intro pins s σ H D I h
 rw [exec_Assign_Name_used _ _ _ _ hsw]
 refine wpAny_bind (wpAny_standAt (wpAny_bind ?_))
 show wpAny _ X.A (do let _ <- comprehension (.ListComp elt [⟨.Name x px, iter, [], 0⟩] scope pos) scope X.env _ (newList []) false (eval iter X.env) (some (assign (.Name y py) X.env))) _ _ s
 refine wpAny_bind (wpAny_mono (wpAny_comprehension_free (use := some (assign (.Name y py) X.env)) (Q := fun _ s' => SP X pins D .next s') rfl hs hclos hk hok.names
  (thn (hi pins s σ H _ I h) fun v s1 h1 => thn h1 fun itv s2 h2 => ?_)) (fun _ s' hq => wpAny_pure (wpAny_pure hq)) fun _ _ e => e)
 obtain ⟨it, fp, tn, J, H2, e, I2, T, st2, f2, hq⟩ := h2
 subst e
 obtain ⟨W, ⟨m0, w0⟩, turn⟩ := hq s2.heap.objs.size (I2.hok.fresh (Nat.le_refl _))
 refine q370 (RR := fun acc C => compPost (model X.prog X.w) X.A X.xe (some (assign (.Name y py) X.env)) (fun _ s' => SP X pins D .next s') acc C) (R := fun H6 => D.nx (σ.set i (some (.ref s2.heap.objs.size))) H6) hc he hcl hcn hsc hk hok hfr I2 T st2 f2 w0 turn
  fun C H6 s6 m6 hn I6 F6 q => ?_
 show wpAny _ X.A (assign (.Name y py) X.env (.ref s2.heap.objs.size)) _ _ _
 refine wpAny_assign_Name (q355 (v := .ref s2.heap.objs.size) I6 hN hiN hy rfl (fun s7 I7 ⟨a, sb, ha⟩ => ?_) hf)
 have neC : C ≠ a := by
  rcases ha with ha | ha
  ·rw [ha]; exact F6.2.1
  ·exact Ne.symm (F6.2.2.2.2.1 y a ha)
 exact ⟨m6, hn.sameBut sb neC, fun h' sb' => ⟨_, H6, I7.let_go F6 sb', q⟩⟩
theorem q547 {lo : Int} {n : Nat} {T : V -> Hp -> (V -> Hp -> Prop) -> Prop} {D : Addr} {H1 : Hp} {R : Hp -> Prop} (hn : n <= sizeLine) (Pv : Nat -> List V -> Hp -> Prop) (h0 : Pv 0 [] (upd H1 D (.lst [])))
  (hD : ∀ i ys H, Pv i ys H -> H D = some (.lst ys) /\ ys.length = i)
  (hs : ∀ i ys H, i < n -> Pv i ys H -> T (.int (lo + i)) H fun y H3 => H3 D = some (.lst ys) /\ Pv (i + 1) (ys ++ [y]) (upd H3 D (.lst (ys ++ [y]))))
  (hd : ∀ ys H, Pv n ys H -> R H) :
  ∃ W : Nat -> Nat -> List V -> Hp -> Prop, (∃ m, W 0 m [] (upd H1 D (.lst []))) /\
   ∀ i m ys H2, W i m ys H2 -> H2 D = some (.lst ys) /\ (((Itr lo n).stop i H2 /\ R H2) \/ ((Itr lo n).go i H2 /\ ys.length < sizeLine /\ ∃ N : V -> Hp -> Prop, (∀ y H3, N y H3 -> H3 D = some (.lst ys) /\ ∃ m', m' < m /\ W (i + 1) m' (ys ++ [y]) (upd H3 D (.lst (ys ++ [y])))) /\
    ∀ x H', (Itr lo n).yld i H2 x H' -> T x H' N)) := by
 refine ⟨fun i m ys H => m = n - i /\ i <= n /\ Pv i ys H, ⟨n, by simp, Nat.zero_le _, h0⟩, ?_⟩
 rintro i m ys H2 ⟨rfl, hi, p⟩
 obtain ⟨d1, d2⟩ := hD i ys H2 p
 refine ⟨d1, ?_⟩
 by_cases hlt : i < n
 ·refine .inr ⟨hlt, by omega, fun y H3 => H3 D = some (.lst ys) /\ Pv (i + 1) (ys ++ [y]) (upd H3 D (.lst (ys ++ [y]))), fun y H3 ⟨z1, z2⟩ => ⟨z1, n - (i + 1), by omega, rfl, hlt, z2⟩, fun x H' y => ?_⟩
  obtain ⟨e, y⟩ := y
  subst e y
  exact hs i ys _ hlt p
 ·have e : i = n := by omega
  subst e
  exact .inl ⟨Nat.le_refl _, hd ys H2 p⟩
theorem q314 {K : Fg} {a : Addr} {xs : List V} {T : V -> Hp -> (V -> Hp -> Prop) -> Prop} {D : Addr} {H1 : Hp} {R : Hp -> Prop} (hn : xs.length <= sizeLine) (Pv : Nat -> List V -> Hp -> Prop) (h0 : Pv 0 [] (upd H1 D (.lst [])))
  (hl : ∀ i ys H, Pv i ys H -> SqT K H a xs) (hD : ∀ i ys H, Pv i ys H -> H D = some (.lst ys) /\ ys.length = i)
  (hs : ∀ i x ys H, xs[i]? = some x -> Pv i ys H -> T x H fun y H3 => H3 D = some (.lst ys) /\ Pv (i + 1) (ys ++ [y]) (upd H3 D (.lst (ys ++ [y]))))
  (hd : ∀ ys H, Pv xs.length ys H -> R H) :
  ∃ W : Nat -> Nat -> List V -> Hp -> Prop, (∃ m, W 0 m [] (upd H1 D (.lst []))) /\
   ∀ i m ys H2, W i m ys H2 -> H2 D = some (.lst ys) /\ (((Itt K a).stop i H2 /\ R H2) \/ ((Itt K a).go i H2 /\ ys.length < sizeLine /\ ∃ N : V -> Hp -> Prop, (∀ y H3, N y H3 -> H3 D = some (.lst ys) /\ ∃ m', m' < m /\ W (i + 1) m' (ys ++ [y]) (upd H3 D (.lst (ys ++ [y])))) /\
    ∀ x H', (Itt K a).yld i H2 x H' -> T x H' N)) := by
 refine ⟨fun i m ys H => m = xs.length - i /\ i <= xs.length /\ Pv i ys H, ⟨xs.length, by simp, Nat.zero_le _, h0⟩, ?_⟩
 rintro i m ys H2 ⟨rfl, hi, p⟩
 obtain ⟨d1, d2⟩ := hD i ys H2 p
 have q := hl i ys H2 p
 refine ⟨d1, ?_⟩
 by_cases hlt : i < xs.length
 ·refine .inr ⟨⟨xs, xs[i], q, by simp [hlt]⟩, by omega, fun y H3 => H3 D = some (.lst ys) /\ Pv (i + 1) (ys ++ [y]) (upd H3 D (.lst (ys ++ [y]))), fun y H3 ⟨z1, z2⟩ => ⟨z1, xs.length - (i + 1), by omega, rfl, hlt, z2⟩, fun x H' y => ?_⟩
  obtain ⟨e, y⟩ := y
  subst e
  exact hs i x ys _ (y xs q) p
 ·have e : i = xs.length := by omega
  subst e
  exact .inl ⟨⟨xs, q, Nat.le_refl _⟩, hd ys H2 p⟩
end L2
namespace HT
set_option autoImplicit false
open PySem PySem.Spec PyProof.Rows
section
variable {prog : Program} {w : World} {A : Around} {E : VS} {s : Shared}
theorem q548 {t sl : Addr} {items : Array Value} {vl vu : Value} {lo hi : Option Int} {Q : VS} (ht : IsTup s.heap t items) (hs : s.heap.IsSliceOf sl vl vu .none) (pl : IsPart vl lo) (pu : IsPart vu hi)
  (h0 : sIx items.size 0 lo = 0) (h1 : sIx items.size items.size hi = items.size) (h : Q (.ref t) s) : wpAny (model prog w) A (getItem (.ref t) (.ref sl)) Q E s := by
 obtain ⟨os, hos, hcs, hds⟩ := id hs
 have hTs : s.TypeIs (.ref sl) "slice" := ⟨os, hos, hcs⟩
 have hT : s.TypeIs (.ref t) "tuple" := ht.typeIs
 unfold getItem
 try with_reducible refine wpAny_holding ?_
 first | refine wpAny_bind (wpAny_pure ?_) | skip
 refine wpAny_bind (wpAny_sequenceKey ht.typeIs (by decide) ?_)
 refine wpAny_bind (wpAny_callSpecial?_slot (name := Str.ofString "__getitem__") ht.typeIs PyProof.Rows.slot_tuple_getitem
  (wpAny_call_entry PyProof.Rows.slot_tuple_getitem ht.typeIs entry_tuple_getitem ?_ (args_tuple_getitem _ _)))
 show wpAny _ _ (Builtin.Tuple.tupleItemsOf (.ref t) >>= _) _ _ s
 refine wpAny_bind (tupleItemsOf_ ht ?_)
 refine wpAny_bind (wpAny_typeOf hTs ?_)
 rw [if_pos (by decide)]
 refine wpAny_bind (q111 hs pl pu ?_)
 have hyes : ((((sIx items.size 0 lo : Nat) : Int) == 0 && (1 : Int) == 1 && (sIx items.size items.size hi - sIx items.size 0 lo) == items.size) = true) := by
  rw [h0, h1]; simp
 show wpAny _ _ (if (((sIx items.size 0 lo : Nat) : Int) == 0 && (1 : Int) == 1 && (sIx items.size items.size hi - sIx items.size 0 lo) == items.size) = true then _ else _) _ _ s
 rw [if_pos hyes]
 first
  | exact wpAny_bind (wpAny_typeOf hT (wpAny_pure ⟨_, rfl, wpAny_pure h⟩))
  | exact wpAny_pure ⟨_, rfl, wpAny_pure h⟩
  | exact wpAny_bind (wpAny_pure ⟨_, rfl, wpAny_pure h⟩)
  | (wp_walk; exact ⟨_, rfl, wpAny_pure h⟩)
  | (wp_walk; exact ⟨_, rfl, h⟩)
end
end HT
namespace L2
open PySem PySem.Spec PyProof.Rows
variable {X : Cx}
def TupF (H : Hp) (a : Addr) (xs : List V) : Prop := ∃ o : Obj, H a = some (.frz o (.tup xs)) /\ o.cls = .type "tuple" /\ o.dict = none
theorem TupF.sq {K : Fg} {H : Hp} {a : Addr} {xs : List V} (h : TupF H a xs) : SqT K H a xs := by
 obtain ⟨o, h, _⟩ := h
 exact .inl (.inr ⟨o, h⟩)
theorem TupF.same (h : TupF H a xs) (s : Same H H') : TupF H' a xs := by
 obtain ⟨o, h, c⟩ := h
 exact ⟨o, s _ _ h, c⟩
section
theorem q90 : CallR X (.type "tuple") (fun xs H Q => ∃ p ys, xs = [.ref p] /\ SqL X.K H p ys /\ ∀ l H', Same H H' -> TupF H' l ys -> Q (.ref l) H') := by
 intro pins s σ H xs us Q I r h
 obtain ⟨p, ys, rfl, hq, q⟩ := h
 obtain ⟨u, rfl, rx⟩ := vals1 r
 cases rx
 obtain ⟨its, r', pl, hz⟩ := I.list hq
 have hlen := r'.length
 refine call_tuple_list pl.isList (fun h' kp => ?_) (by simp only [List.size_toArray] <;> omega)
 have I1 : Inv X pins σ H { s with heap := h' } := I.kept (t' := s.toks) kp
 have I2 : Inv X pins σ (upd H h'.objs.size (.frz { cls := .type "tuple", data := .seq its.toArray } (.tup ys))) { s with heap := h'.push { cls := .type "tuple", data := .seq its.toArray } } :=
  I1.laid (t' := s.toks) (fun b o e => Heap.get?_push_of_some _ e) (Nat.le_refl _) (show ObjOk X.prog X.w _ _ _ (.frz _ (.tup ys)) from ⟨Heap.get?_push_size _ rfl, hz, its, r', IsTup.new _ _⟩)
 exact ⟨.ref h'.objs.size, _, I2, rfl, q _ _ (q16 (I1.hok.fresh (Nat.le_refl _)) _) ⟨_, q14, rfl, rfl⟩⟩
theorem cutV_all {xs : List V} {lo hi : Option Int} (h0 : HT.sIx xs.length 0 lo = 0) (h1 : HT.sIx xs.length xs.length hi = xs.length) : cutV xs lo hi = xs := by
 unfold cutV
 rw [h0, h1, List.drop_zero, Nat.sub_zero, List.take_length]
theorem q116 : SlR X (fun x lo hi H Q => ∃ a xs, x = .ref a /\ TupF H a xs /\ ∀ p H', Same H H' -> TupF H' p (cutV xs lo hi) -> Q (.ref p) H') := by
 intro pins s σ H x v vl vu lo hi sl Q I rx hs pl pu h
 obtain ⟨a, xs, rfl, hx, q⟩ := h
 cases rx
 obtain ⟨its, r, ht, hz⟩ := I.tuple (hx.sq (K := X.K))
 have hlen : its.toArray.size = xs.length := by rw [List.size_toArray]; exact r.length.symm
 refine ⟨"tuple", _, PyProof.Rows.slot_tuple_getitem.lookup, ht.typeIs, ?_⟩
 by_cases hw : HT.sIx xs.length 0 lo = 0 /\ HT.sIx xs.length xs.length hi = xs.length
 ·refine HT.q548 ht hs pl pu (by rw [hlen]; exact hw.1) (by rw [hlen]; exact hw.2) ⟨.ref a, H, I, rfl, q a H (Same.refl H) ?_⟩
  rw [cutV_all hw.1 hw.2]
  exact hx
 ·refine HT.q543 ht hs pl pu (by rw [hlen]; exact hw) ?_ (by rw [hlen]; exact hz)
  rw [hlen]
  refine ⟨.ref s.heap.objs.size, _, I.laid (t' := s.toks) (o := .frz { cls := .type "tuple", data := .seq ((its.toArray.toList.drop (HT.sIx xs.length 0 lo)).take (HT.sIx xs.length xs.length hi - HT.sIx xs.length 0 lo)).toArray } (.tup (cutV xs lo hi))) (fun b ob q => Heap.get?_push_of_some _ q) (Nat.le_refl _) ?_, rfl,
   q _ _ (q16 (I.hok.fresh (Nat.le_refl _)) _) ⟨_, q14, rfl, rfl⟩⟩
  exact ⟨Heap.get?_push_size _ rfl, Nat.le_trans (q210 xs lo hi) hz, _, (r.drop (HT.sIx xs.length 0 lo)).take (HT.sIx xs.length xs.length hi - HT.sIx xs.length 0 lo), IsTup.new _ _⟩
theorem q281 {x : V} : ∀ {xs : List V} {us : List Value}, Vals xs us -> xs.all flatV = true -> us.countP (eqU x) = xs.countP fun y => eqV y x
 | _, _, .nil, _ => rfl
 | y :: xs, u :: us, .cons r t, f => by
  rw [List.all_cons, Bool.and_eq_true] at f
  rw [List.countP_cons, List.countP_cons, q606 r f.1, q281 t f.2]
theorem q613 : MtR X "tuple.count" (fun x xs H Q => ∃ a ys v, x = .ref a /\ xs = [v] /\ SqT X.K H a ys /\ flatV v = true /\ ys.all flatV = true /\ Q (.int (ys.countP fun y => eqV y v : Nat)) H) := by
 intro pins s σ H x xs v us Q I rx rv h
 obtain ⟨a, ys, y, rfl, rfl, ha, f1, f2, q⟩ := h
 cases rx
 obtain ⟨u, rfl, ru⟩ := rv.one
 obtain ⟨its, r, p, hz⟩ := I.tuple ha
 obtain ⟨⟨cls, dd, data, sl⟩, ho, hc, n, hd⟩ := id p
 simp only at hc hd
 subst hc hd
 refine call_meets F.slot_tuple_count ⟨_, ho, rfl⟩ F.entry_tuple_count (F.args_tuple_count_2 _ _) (SeqAt.tuple_countAt a its.toArray n dd sl u (eqU y)) ⟨ho, fun z hz => q197 ru f1 r f2 z (by simpa using hz), ?_⟩
 refine ⟨.int (ys.countP fun y' => eqV y' y : Nat), H, I.tok _, ?_, q⟩
 rw [<- q281 r f2]
 exact ⟨_, rfl⟩
def tBMF (T : String) (r : V -> List V -> Hp -> VK -> Prop) (to : TE) (t : TA) : TE := fun σ H Q => to σ H fun x H1 => (∃ a o u, x = .ref a /\ H1 a = some (.frz o u) /\ o.cls = .type T /\ o.dict = none) /\ t σ H1 fun xs H2 => r x xs H2 Q
variable {o e : Expr} {es : List Expr} {to : TE} {t : TA} {name : Str} {apos cpos : Pos} {T id : String} {r : V -> List V -> Hp -> VK -> Prop}
theorem pe_bmF (pa : PlainAttrs T) (slot : Slot T name id) (hty : typeOf (.builtin id) = pure (.type "method_descriptor")) (hm : MtR X id r) (ho : PE X o to) (ha : PA X (e :: es) t)
  (hbase : attributeBase o name X.env (eval o X.env) = eval o X.env := by rfl)
  (hfew : ((backTo cpos (starEach (e :: es) X.env)).all (fun x => !x.1) && (backToKw cpos (keywordEach [] X.env)).all (fun x => x.1.isSome)
   && decide ((e :: es).length + ([] : List Keyword).length + (if ([] : List Keyword).isEmpty then 0 else 1) < 30)) = true := by rfl)
  (hline : (apos.endLine == cpos.line) = true := by rfl) (hs : starEach (e :: es) X.env = (false, eval e X.env) :: starEach es X.env := by rfl) (hplain : (backTo cpos (starEach es X.env)).any (·.1) = false := by rfl) :
  PE X (.Call (.Attribute o name apos) (e :: es) [] cpos) (tBMF T r to t) := by
 intro pins s σ H Q I h
 refine wpAny_Call_method_late hbase hfew hline rfl (thn (ho pins s σ H _ I h) fun v s1 ⟨x, H1, I1, r1, ty, q1⟩ => ?_)
 obtain ⟨a, ob, u, rfl, hH, hc, hd⟩ := ty
 cases r1
 obtain ⟨hg, _⟩ := I1.hok a _ hH
 refine ⟨T, id, pa, slot, hty, ⟨ob, hg, hc⟩, fun b eb => ?_, ?_⟩
 ·cases eb
  exact ⟨ob, hg, hd⟩
 have hA := ha cpos pins s1 σ H1 _ I1 q1
 rw [hs] at hA ⊢
 refine Calls.callWith_builtin (by show (false || (backTo cpos (starEach es X.env)).any (·.1)) = false; rw [hplain] <;> rfl) (Calls.evalArgs_plain ?_)
 exact thn hA fun us s2 ⟨vs, H2, I2, r2, q2⟩ => hm pins s2 σ H2 (.ref a) vs (.ref a) us Q I2 rfl r2 q2
end
theorem q614 (bs : List Bool) : ((List.range bs.length).all fun i => bs.getD i true) = bs.all id := by
 rw [Bool.eq_iff_iff, List.all_eq_true, List.all_eq_true]
 constructor
 ·intro h b hb
  obtain ⟨i, hi, rfl⟩ := List.mem_iff_getElem.mp hb
  have := h i (List.mem_range.mpr hi)
  simpa [List.getD_eq_getElem?_getD, hi] using this
 ·intro h i hi
  have hi' := List.mem_range.mp hi
  have := h bs[i] (List.getElem_mem hi')
  simpa [List.getD_eq_getElem?_getD, hi'] using this
theorem call_all (hc : X.calm = true) : CallR X (.builtin "all") (fun xs H Q => ∃ (p : Addr) (bs : List Bool), xs = [.ref p] /\ SqL X.K H p (bs.map V.bl) /\ Q (.bl (bs.all id)) H) := by
 intro pins s σ H xs us Q I r h
 obtain ⟨p, bs, rfl, hq, q⟩ := h
 obtain ⟨u, rfl, rx⟩ := vals1 r
 cases rx
 obtain ⟨its, r', pl, hz⟩ := I.list hq
 have hl := r'.length
 rw [List.length_map] at hl
 obtain ⟨o, n, ho, _⟩ := id pl
 have hlt : p < s.heap.objs.size := Heap.lt_size ho
 refine call_all_walk (wpAny_pyIter_list pl.isList ⟨s.heap.objs.size, _, _, _, _, _, fun i => bs.getD i true, rfl, Walks.list (A := X.A.in1) (show X.A.in1.handled = none from I.ok.hd hc) s.heap.objs.size p (Nat.ne_of_lt hlt) its.toArray, ⟨⟨_, Heap.get?_push_size _ rfl, rfl, rfl⟩, pl.isList.at fun o e => Heap.get?_push_of_some _ e⟩, ?_, ?_⟩)
 ·intro i v s' Q' E' hv hQ'
  have hv' : its[i]? = some v := by simpa using hv
  have hi : i < bs.length := by rw [hl]; exact (List.getElem?_eq_some_iff.mp hv').1
  obtain ⟨u', hu', ru'⟩ := r'.get (i := i) (x := .bl bs[i]) (by rw [List.getElem?_map, List.getElem?_eq_getElem hi] <;> rfl)
  rw [hv'] at hu'
  cases hu'
  cases ru'
  refine wpAny_truthy_bool ?_
  have e : bs.getD i true = bs[i] := by simp [List.getD_eq_getElem?_getD, hi]
  rw [<- e]
  exact hQ'
 ·intro h' tk hk
  refine ⟨.bl (bs.all id), H, I.kept (t' := tk) fun b ob e => hk b ob (by simp; exact Nat.ne_of_lt (Heap.lt_size e)) (Heap.get?_push_of_some _ e), ?_, q⟩
  show Value.bool _ = Value.bool _
  congr 1
  rw [List.size_toArray, <- hl]
  exact q614 bs
theorem op_neL (hu : X.A.units + 64 < cLine) : OpR X (compareOp .NotEq) (fun x y H Q => ∃ (a b : Addr) (ns ms : List Int), x = .ref a /\ y = .ref b /\ SqL X.K H a (ns.map V.int) /\ SqL X.K H b (ms.map V.int) /\ Q (.bl (!decide (ns = ms))) H) := by
 intro pins s σ H x y v u Q I rx ry h
 obtain ⟨a, b, ns, ms, rfl, rfl, ha, hb, q⟩ := h
 cases rx
 cases ry
 obtain ⟨its, r1, p1, _⟩ := I.list ha
 obtain ⟨its2, r2, p2, _⟩ := I.list hb
 exact PySem.W.ke_ne_ints p1.isList p2.isList (q99 r1) (q99 r2) hu ⟨.bl _, H, I, rfl, q⟩
def Exc (n : Nat) (h : Heap) (x : Addr) (cls : Value) (dd : Option Addr) (fl : Value) : Prop :=
 ∃ (oe : Obj) (vs : Array Value) (T : Addr) (oT : Obj) (ts : Array Value), (h.get? x = some oe /\ oe.cls = cls /\ oe.dict = dd /\ oe.data = .fields vs /\ vs[1]? = some (.ref T)) /\
  (n <= T /\ T ≠ x) /\ h.get? T = some oT /\ oT.data = .fields ts /\ ts[3]? = some fl
structure Fly (n : Nat) (fs : List Addr) (x : Addr) (h h' : Heap) : Prop where
 keep : ∀ b o, h.get? b = some o -> b < n -> b ≠ x -> b ∉ fs -> h'.get? b = some o
 slot : ∀ b o, h.get? b = some o -> b ∈ fs -> ∃ sl, h'.get? b = some { o with slots := sl }
 there : ∀ b o, h.get? b = some o -> ∃ o', h'.get? b = some o'
section
variable {n : Nat} {fs : List Addr} {x y : Addr} {h h1 h' : Heap}
end
section
variable {M : Model} {A : Around} {E : VS} {s : Shared} {base : Heap} {env : Env} {outer : List Env} {L x : Addr} {n : Nat} {Q : Unit -> Shared -> Prop}
end
section
variable {P : Program} {w : World} {fs fs' : List Addr} {H₀ H : Hp} {h₀ h h' : Heap} {x : Addr} {n : Nat}
end
structure Out (P : Program) (w : World) (outer : List Env) (H : Hp) (s : Shared) (x : Addr) (cls : Value) (dd : Option Addr) (n : Nat) (H' : Hp) (fl : Value) (s' : Shared) : Prop where
 os : s'.os = s.os
 bare : AllBare s'.gens
 un : Un (frs outer) [] H H' s.heap s'.heap
 hok : HOk P w H' s'.heap
 exc : Exc n s'.heap x cls dd fl
 free : H' x = none
 new : s.heap.get? x = none
 old : s.heap.objs.size <= n
 low : ∀ b u, H' b = some u -> b < n
def CX1 (P : Program) (w : World) : CXT := fun outer H s E e s' => ∃ (x : Addr) (cls : Value) (dd : Option Addr) (n : Nat) (H' : Hp), e = .ref x /\ Out P w outer H s x cls dd n H' .none s' /\ E cls dd H'
section
variable {pins : List (Addr × Obj)} {σ : St} {H H' : Hp} {s s' : Shared} {x : Addr} {cls fl : Value} {dd : Option Addr} {n : Nat}
structure Away (X : Cx) (pins : List (Addr × Obj)) (σ : St) (H : Hp) (s : Shared) (x : Addr) (cls : Value) (dd : Option Addr) (n : Nat) (fl : Value) : Prop where
 inv : Inv X pins σ H s
 exc : Exc n s.heap x cls dd fl
 free : H x = none
 new : X.s₀.heap.get? x = none
 old : X.s₀.heap.objs.size <= n
 low : ∀ b u, H b = some u -> b < n
 loc : X.env.locals < n
end
structure Lv (X : Cx) (E : XK) : Prop where
 xe : X.xe = fun e s' => wpAny (model X.prog X.w) X.A (leaving X.env e) (fun _ s'' => CX1 X.prog X.w X.outer X.H₀ X.s₀ E e s'') (fun e' s'' => CX1 X.prog X.w X.outer X.H₀ X.s₀ E e' s'') s'
 ex : X.ex = []
 stack : X.stack = X.env :: X.outer
 frame : X.env.frame = some X.env.locals
 calm : X.calm = true
section
variable {E : XK} {x : Str} {C : Addr} {e : Expr} {es : List Expr} {t : TA} {np cpos pos : Pos} {B nw it : String} {tl : List Value}
end
section
variable {P : Program} {w : World} {fs : List Addr} {H H' : Hp} {h h' : Heap} {x : Addr} {o : HO}
end
section
variable {pins : List (Addr × Obj)} {σ : St} {H : Hp} {s : Shared} {x : Addr}
end
section
variable {k i : Nat} {f C2 : Addr} {fd : FuncData} {ps : List Str} {sp : Sp} {fx cx n : Str} {p p2 pos cpos epos hpos : Pos} {e : Expr} {es : List Expr} {t : TA} {b₀ : Stmt} {suite : List Stmt} {u : TS}
end
structure ECls (K : Fg) (C : Addr) : Prop where
 ga : PySem.W.findIn K (.ref C) "__getattribute__" = some (some (.builtin "BaseException.__getattribute__"))
 gh : PySem.W.findIn K (.ref C) "__getattr__" = some none
 sb : PySem.W.subIn K (.ref C) (.type "BaseException") = some true
 cl : PySem.W.isClsIn K C = true
 fi : PySem.W.findIn K (.ref C) "__class__" = some (some (.builtin "object.__class__"))
 sp : PySem.W.specialIn K (.builtin "object.__class__") "__get__" = some (some (.builtin "getset_descriptor.__get__"))
 tk : PySem.W.takesIn K (.builtin "object.__class__") = some true
 mr : PySem.W.mroIn K C (.type "object") = some true
section
variable {prog : Program} {w : World} {A : Around} {E : VS} {s : Shared} {K : Fg} {x C : Addr} {ox : Obj} {od : Option Obj}
end
inductive ClsV : V -> Value -> Prop where
 | own (D : Addr) : ClsV (.ref D) (.ref D)
 | ty (T : String) : ClsV (.ty T) (.type T)
section
variable {prog : Program} {w : World} {A : Around} {E : VS} {s : Shared}
theorem q282 {i : Nat} (a1 : s.heap.IsTupleIter ia tp i) (a2 : s.heap.IsTuple tp us) (a3 : us[i]? = some u)
  (k : ∀ h', h'.IsTupleIter ia tp (i + 1) -> Heap.SameBut ia s.heap h' -> Q u { s with heap := h' }) : wpAny (model prog w) A (Builtin.SmallTypes.nextOf (.ref ia)) Q E s := by
 obtain ⟨o, b1, b2, b3⟩ := id a1
 obtain ⟨ot, c1, _, nt, c2⟩ := a2
 unfold Builtin.SmallTypes.nextOf
 refine wpAny_bind (wpAny_callSpecial?_slot (name := Str.ofString "__next__") a1.typeIs F.slot_tuple_iterator_next (wpAny_call_entry F.slot_tuple_iterator_next a1.typeIs F.entry_tuple_iterator_next ?_ (F.args_tuple_iterator_next_1 _)))
 show wpAny _ _ (field (.ref ia) 0 >>= _) _ _ s
 refine wpAny_bind (wpAny_field b1 b3 (x := .ref tp) rfl ?_)
 show wpAny _ _ (if (Value.ref tp == Value.none) = true then _ else _) _ _ s
 rw [if_neg (show ¬ ((Value.ref tp == Value.none) = true) from fnt)]
 show wpAny _ _ (field (.ref ia) 1 >>= _) _ _ s
 refine wpAny_bind (wpAny_field b1 b3 (x := .int i 0) rfl ?_)
 show wpAny _ _ (seqItems? (.ref tp) >>= _) _ _ s
 refine wpAny_bind (wpAny_seqItems c1 c2 ?_)
 simp only [Int.toNat_natCast, a3]
 refine wpAny_bind (wpAny_setField b1 b3 (by simp) (wpAny_pure ⟨u, rfl, wpAny_pure (k _ ?_ (Heap.SameBut.update ..))⟩))
 exact ⟨_, Heap.get?_update_self _ b1 (Obj.isFreed_of_fields (Obj.data_mapFields b3 _)), (Obj.cls_mapFields ..).trans b2, by rw [Obj.data_mapFields b3]; simp [rawInt]⟩
theorem q371 {i : Nat} {Q : VS} (hh : A.handled = none) (a1 : s.heap.IsTupleIter ia tp i) (a2 : s.heap.IsTuple tp us) (a3 : us[i]? = none)
  (k : ∀ h' x, Heap.ExtBut ia s.heap h' -> (∃ o, h'.get? x = some o /\ o.cls = .type "StopIteration") -> E (.ref x) { s with heap := h' }) : wpAny (model prog w) A (Builtin.SmallTypes.nextOf (.ref ia)) Q E s := by
 obtain ⟨o, b1, b2, b3⟩ := id a1
 obtain ⟨ot, c1, _, nt, c2⟩ := a2
 unfold Builtin.SmallTypes.nextOf
 refine wpAny_bind (wpAny_callSpecial?_slot (name := Str.ofString "__next__") a1.typeIs F.slot_tuple_iterator_next (wpAny_call_entry F.slot_tuple_iterator_next a1.typeIs F.entry_tuple_iterator_next ?_ (F.args_tuple_iterator_next_1 _)))
 show wpAny _ _ (field (.ref ia) 0 >>= _) _ _ s
 refine wpAny_bind (wpAny_field b1 b3 (x := .ref tp) rfl ?_)
 show wpAny _ _ (if (Value.ref tp == Value.none) = true then _ else _) _ _ s
 rw [if_neg (show ¬ ((Value.ref tp == Value.none) = true) from fnt)]
 show wpAny _ _ (field (.ref ia) 1 >>= _) _ _ s
 refine wpAny_bind (wpAny_field b1 b3 (x := .int i 0) rfl ?_)
 show wpAny _ _ (seqItems? (.ref tp) >>= _) _ _ s
 refine wpAny_bind (wpAny_seqItems c1 c2 ?_)
 simp only [Int.toNat_natCast, a3]
 refine wpAny_bind (wpAny_rule (wpAny_bind (wpAny_setField b1 b3 (by simp) ?_)))
 show wpAny _ _ (newExc (.type "StopIteration") [] >>= fun _ => _) _ _ _
 refine wpAny_bind ?_
 simp only [newExc, newTuple]
 refine wpAny_bind (wpAny_newObj_type ?_ (by size_fits))
 refine wpAny_bind (m := firstArgMember _ _) (wpAny_of_eq (a := Value.none) (by first | rfl | simp [firstArgMember]) (wpAny_newObj_type ?_ (by size_fits)))
 simp only [raiseNew]
 refine wpAny_bind (wpAny_handled ?_)
 first | rw [show A.in1.handled = none from hh] | (rw [hh]; skip)
 exact wpAny_bind (wpAny_pure (wpAny_throw (k _ _ (((Heap.SameBut.update ..).extBut.push _).push _) ⟨_, Heap.get?_push_size _ rfl, rfl⟩)))
theorem q549 {i : Nat} {Q : Option Value -> Shared -> Prop} (e0 : IsEnum s.heap en ia i was) (a1 : s.heap.IsTupleIter ia tp i) (a2 : s.heap.IsTuple tp us) (a3 : us[i]? = some u) (ne : en ≠ ia)
  (k : ∀ h', IsEnumOut h' en ia ((i : Int) + 1) u s.heap.objs.size -> h'.IsTupleIter ia tp (i + 1) -> h'.get? s.heap.objs.size = some { cls := .type "tuple", data := .seq #[.int i s.toks, u] } ->
   (∀ b o, b ≠ en -> b ≠ ia -> s.heap.get? b = some o -> h'.get? b = some o) -> Q (some (.ref s.heap.objs.size)) { s with heap := h', toks := s.toks + 1 }) :
  wpAny (model prog w) A (pyNext (.ref en)) Q E s := by
 have ty : s.TypeIs (.ref en) "enumerate" := ⟨_, e0, rfl⟩
 unfold pyNext
 refine wpAny_bind (wpAny_attempt (wpAny_callSpecial?_slot (name := Str.ofString "__next__") ty F.slot_enumerate_next (wpAny_call_entry F.slot_enumerate_next ty F.entry_enumerate_next ?_ (F.args_enumerate_next_1 _))))
 obtain ⟨h0, g, d, tk, os⟩ := s
 show wpAny _ _ (field (.ref en) 2 >>= _) _ _ _
 refine wpAny_bind (wpAny_field e0 rfl (x := .ref ia) rfl (wpAny_bind (q282 a1 a2 a3 fun h1 n1 s1 => ?_)))
 replace s1 : Heap.SameBut ia h0 h1 := s1
 have e1 : IsEnum h1 en ia i was := (s1.2 en ne).trans e0
 show wpAny _ _ (field (.ref en) 3 >>= _) _ _ ⟨h1, g, d, tk, os⟩
 refine wpAny_bind (wpAny_field e1 rfl (x := rawInt i) rfl ?_)
 show wpAny _ _ (field (.ref en) 4 >>= _) _ _ ⟨h1, g, d, tk, os⟩
 refine wpAny_bind (wpAny_field e1 rfl (x := .none) rfl ?_)
 show wpAny _ _ (mkInt i >>= _) _ _ ⟨h1, g, d, tk, os⟩
 refine wpAny_bind (wpAny_mkInt ?_)
 show wpAny _ _ (setField (.ref en) 3 (rawInt ((i : Int) + 1)) >>= _) _ _ ⟨h1, g, d, tk + 1, os⟩
 refine wpAny_bind (wpAny_setField_rec e1 (by simp) fun h2 e2 s2 => ?_)
 replace s2 : Heap.SameBut en h1 h2 := s2
 replace e2 : IsEnum h2 en ia ((i : Int) + 1) was := e2
 show wpAny _ _ (setField (.ref en) 4 .none >>= _) _ _ ⟨h2, g, d, tk + 1, os⟩
 refine wpAny_bind (wpAny_setField_rec e2 (by simp) fun h3 e3 s3 => ?_)
 replace s3 : Heap.SameBut en h2 h3 := s3
 replace e3 : IsEnum h3 en ia ((i : Int) + 1) was := e3
 show wpAny _ _ (newTuple [.int i tk, u] >>= _) _ _ ⟨h3, g, d, tk + 1, os⟩
 refine wpAny_bind (wpAny_newTuple ?_)
 have z3 : h3.objs.size = h0.objs.size := by rw [s3.1, s2.1, s1.1]
 have l0 : en < h0.objs.size := Heap.lt_size e0
 have ni : ia ≠ en := Ne.symm ne
 generalize hh4 : h3.push { cls := .type "tuple", data := .seq #[.int i tk, u] } = h4
 have e4 : IsEnum h4 en ia ((i : Int) + 1) was := by rw [<- hh4]; exact Heap.get?_push_of_some _ e3
 have t4 : h4.get? h0.objs.size = some { cls := .type "tuple", data := .seq #[.int i tk, u] } := by rw [<- hh4, <- z3]; exact Heap.get?_push_size _ rfl
 have k4 : ∀ b o, b ≠ en -> b ≠ ia -> h0.get? b = some o -> h4.get? b = some o := fun b o m1 m2 q => by
  rw [<- hh4]
  exact Heap.get?_push_of_some _ (s3.extBut b o m1 (s2.extBut b o m1 (s1.extBut b o m2 q)))
 have n4 : h4.IsTupleIter ia tp (i + 1) := by
  rw [<- hh4]
  obtain ⟨o, q, r⟩ := (n1.extBut s2.extBut ni).extBut s3.extBut ni
  exact ⟨o, Heap.get?_push_of_some _ q, r⟩
 show wpAny _ _ (Builtin.SmallTypes.ownedTupleIsFree (.ref en) >>= _) _ _ ⟨h4, g, d, tk + 1, os⟩
 rw [z3]
 clear hh4
 refine wpAny_bind ?_
 unfold Builtin.SmallTypes.ownedTupleIsFree
 refine wpAny_bind (wpAny_field e4 rfl (x := .none) rfl (wpAny_pure ?_))
 simp only [if_true]
 refine wpAny_bind (wpAny_rule (wpAny_bind (wpAny_field e4 rfl (x := was) rfl (wpAny_bind (wpAny_setField_rec e4 (by simp) fun h5 e5 s5 => ?_)))))
 replace s5 : Heap.SameBut en h4 h5 := s5
 replace e5 : IsEnum h5 en ia ((i : Int) + 1) u := e5
 show wpAny _ _ (Builtin.SmallTypes.ownedTupleHandOut (.ref en) (.ref h0.objs.size) >>= _) _ _ ⟨h5, g, d, tk + 1, os⟩
 refine wpAny_bind ?_
 unfold Builtin.SmallTypes.ownedTupleHandOut
 refine wpAny_bind (wpAny_setField_rec e5 (by simp) fun h6 e6 s6 => ?_)
 replace s6 : Heap.SameBut en h5 h6 := s6
 replace e6 : IsEnumOut h6 en ia ((i : Int) + 1) u h0.objs.size := e6
 refine wpAny_setField_rec e6 (by simp) fun h7 e7 s7 => ?_
 replace s7 : Heap.SameBut en h6 h7 := s7
 replace e7 : IsEnumOut h7 en ia ((i : Int) + 1) u h0.objs.size := e7
 have up : ∀ b o, b ≠ en -> h4.get? b = some o -> h7.get? b = some o := fun b o m q => s7.extBut b o m (s6.extBut b o m (s5.extBut b o m q))
 refine wpAny_bind (wpAny_letGo (wpAny_pure ⟨_, rfl, wpAny_pure (k h7 e7 ?_ (up _ _ (Nat.ne_of_gt l0) t4) fun b o m1 m2 q => up b o m1 (k4 b o m1 m2 q))⟩))
 obtain ⟨o, q, r⟩ := n4
 exact ⟨o, up _ _ ni q, r⟩
theorem q615 {i : Nat} (hh : A.handled = none) (e0 : IsEnum s.heap en ia i was) (a1 : s.heap.IsTupleIter ia tp i) (a2 : s.heap.IsTuple tp us) (a3 : us[i]? = none)
  (k : ∀ h', Heap.ExtBut ia s.heap h' -> Q none { s with heap := h' }) : wpAny (model prog w) A (pyNext (.ref en)) Q E s := by
 have ty : s.TypeIs (.ref en) "enumerate" := ⟨_, e0, rfl⟩
 unfold pyNext
 refine wpAny_bind (wpAny_attempt (wpAny_callSpecial?_slot (name := Str.ofString "__next__") ty F.slot_enumerate_next (wpAny_call_entry F.slot_enumerate_next ty F.entry_enumerate_next ?_ (F.args_enumerate_next_1 _))))
 show wpAny _ _ (field (.ref en) 2 >>= _) _ _ _
 refine wpAny_bind (wpAny_field e0 rfl (x := .ref ia) rfl (wpAny_bind (q371 hh a1 a2 a3 fun h' x q1 q2 => ?_)))
 obtain ⟨o, o1, o2⟩ := q2
 exact wpAny_bind (wpAny_isInstance (T := "StopIteration") (b := true) ⟨o, o1, o2⟩ isSubtype_stop (wpAny_pure (k _ q1)))
end
def Ite (K : Fg) (a : Addr) : It :=
 ⟨fun i H => ∃ xs x, SqT K H a xs /\ xs[i]? = some x, fun i H x H' => ∃ p y, x = .ref p /\ H p = none /\ H' = upd H p (.tup [.int i, y]) /\ ∀ xs, SqT K H a xs -> xs[i]? = some y, fun i H => ∃ xs, SqT K H a xs /\ xs.length <= i⟩
theorem q616 : 2 <= sizeLine := szb rfl
theorem q550 {P : Program} {w : World} {K : Fg} {es : List Expr} {x1 : Nat} {pos : Pos} (a en ia : Addr) (ne : en ≠ ia) :
  Turn P w K (.Tuple es x1 pos) (Ite K a) [en, ia] en (fun i h => (∃ was, IsEnum h en ia (i : Nat) was) /\ h.IsTupleIter ia a i) where
 mem := by simp
 obj := fun i h st b hb => by
  obtain ⟨⟨was, q1⟩, o, q2, q3, q4⟩ := st
  rcases List.mem_cons.mp hb with z | z
  ·subst z
   exact ⟨_, q1, fun v y => by cases y⟩
  ·have z' : b = ia := by simpa using z
   subst z'
   exact ⟨o, q2, fun v y => by rw [q4] at y; cases y⟩
 keep := fun i h h' st k => by
  obtain ⟨⟨was, q1⟩, o, q2, q3⟩ := st
  exact ⟨⟨was, k en (by simp) _ q1⟩, o, k ia (by simp) _ q2, q3⟩
 item := by
  intro X hP hw hK hc i pins s σ H E I hf st hg
  subst hP hw hK
  obtain ⟨⟨was, q1⟩, q2⟩ := st
  obtain ⟨xs, x, hq, hx⟩ := hg
  obtain ⟨its, rv, p, hz⟩ := I.tuple hq
  obtain ⟨u, hu, ru⟩ := rv.get hx
  refine q549 q1 q2 (show s.heap.IsTuple a its.toArray from p) (u := u) (by simpa using hu) ne fun h1 e1 n1 t1 k1 => ⟨_, rfl, ?_⟩
  refine wpAny_letOwnedTupleGo_enum e1 fun h2 e2 s2 => ?_
  replace s2 : Heap.SameBut en h1 h2 := s2
  have len : en < s.heap.objs.size := Heap.lt_size q1
  have t2 : h2.get? s.heap.objs.size = some { cls := .type "tuple", data := .seq #[.int i s.toks, u] } := (s2.2 _ (Nat.ne_of_gt len)).trans t1
  have kk : ∀ b o, b ≠ en -> b ≠ ia -> s.heap.get? b = some o -> h2.get? b = some o := fun b o m1 m2 q => (s2.2 b m1).trans (k1 b o m1 m2 q)
  have fr : H s.heap.objs.size = none := I.hok.fresh (Nat.le_refl _)
  have f1 := hf en (by simp)
  have f2 := hf ia (by simp)
  have neq : ∀ b, H b ≠ none -> b ≠ en /\ b ≠ ia := fun b m => ⟨fun z => m (z ▸ f1.1), fun z => m (z ▸ f2.1)⟩
  have un : Un (frs X.stack) [en, ia] H (upd H s.heap.objs.size (.tup [.int i, x])) s.heap h2 := by
   have nn : ∀ b, b ∉ [en, ia] -> b ≠ en /\ b ≠ ia := fun b m => ⟨fun z => m (by simp [z]), fun z => m (by simp [z])⟩
   have np : ∀ b o, s.heap.get? b = some o -> b ≠ s.heap.objs.size := fun b o q => Nat.ne_of_lt (Heap.lt_size q)
   exact ⟨fun b o q _ _ m => kk b o (nn b m).1 (nn b m).2 q, fun b o q _ _ m => ⟨o.slots, kk b o (nn b m).1 (nn b m).2 q⟩, fun b o q m _ => by rw [q34 (np b o q)]; exact m, fun b o q m => ⟨o, kk b o (nn b m).1 (nn b m).2 q⟩,
    fun b ys q => by rw [q34 (q26 q fr)]; exact q, fun b o v q => by rw [q34 (q26 q fr)]; exact q, fun b ps q => ⟨#[], by rw [q34 (q26 q fr), q]; simp⟩⟩
  have hok : HOk X.prog X.w (upd H s.heap.objs.size (.tup [.int i, x])) h2 := fun b ob e => by
   by_cases hb : b = s.heap.objs.size
   ·subst hb
    rw [q14] at e
    cases e
    exact ⟨q616, [.int i s.toks, u], .cons ⟨_, rfl⟩ (.cons ru .nil), ⟨_, t2, rfl, _, rfl⟩⟩
   ·rw [q34 hb] at e
    refine (I.hok b ob e).stay (fun c v z q => ?_) (fun c q => by rw [q34 (q26 q fr)]; exact q) fun c ys q => by rw [q34 (q26 q fr)]; exact q
    have m : H c ≠ none := by
     rcases z with rfl | z
     ·rw [e]; exact fun y => nomatch y
     ·rw [z]; exact fun y => nomatch y
    exact kk c v (neq c m).1 (neq c m).2 q
  have J : Inv X pins σ (upd H s.heap.objs.size (.tup [.int i, x])) { s with heap := h2, toks := s.toks + 1 } := by
   refine I.call' (s' := { s with heap := h2, toks := s.toks + 1 }) (ch := [en, ia]) rfl un hok I.bare fun b hb => ?_
   rcases List.mem_cons.mp hb with z | z
   ·subst z
    exact ⟨f1.2.2.2.1, f1.2.1, f1.2.2.2.2.1, f1.2.2.2.2.2⟩
   ·have z' : b = ia := by simpa using z
    subst z'
    exact ⟨f2.2.2.2.1, f2.2.1, f2.2.2.2.2.1, f2.2.2.2.2.2⟩
  refine ⟨.ref s.heap.objs.size, _, J, rfl, ⟨s.heap.objs.size, x, rfl, fr, rfl, fun ys hy => by rw [I.tuple_inj hy hq]; exact hx⟩, ⟨⟨u, ?_⟩, ?_⟩, fun b hb => ?_⟩
  ·have : ((i + 1 : Nat) : Int) = (i : Int) + 1 := by omega
   rw [this]
   exact e2
  ·obtain ⟨o, q, r⟩ := n1
   exact ⟨o, (s2.2 ia (Ne.symm ne)).trans q, r⟩
  ·have hb' : b = en \/ b = ia := by simpa using hb
   have lb : b < s.heap.objs.size := by
    rcases hb' with z | z
    ·rw [z]; exact len
    ·obtain ⟨o, q, _⟩ := q2
     rw [z]; exact Heap.lt_size q
   rw [q34 (Nat.ne_of_lt lb)]
   exact (hf b hb).1
 done := by
  intro X hP hw hK hc i pins s σ H E I hf st hg
  subst hP hw hK
  obtain ⟨⟨was, q1⟩, q2⟩ := st
  obtain ⟨xs, hq, hx⟩ := hg
  obtain ⟨its, rv, p, hz⟩ := I.tuple hq
  obtain ⟨f0, f1, f2, f3, f4, f5⟩ := hf ia (by simp)
  have hl := rv.length
  exact q615 (I.ok.hd hc) q1 q2 (show s.heap.IsTuple a its.toArray from p) (by simp; omega) fun h' eb => ⟨rfl, I.turned (t' := s.toks) (fun b o hb e => eb b o hb e) f0 f1 f3 f4 f5⟩
 self := fun _ _ _ _ _ st h => by
  obtain ⟨⟨was, q1⟩, _⟩ := st
  exact wpAny_pyIter_enum q1 h
theorem q617 (tp : Addr) (us : Array Value) (n : Nat) (dct : Option Addr) (sl : Array (Option Value)) :
  Meets (Builtin.«enumerate.__new__» ⟨[.type "enumerate", .ref tp], []⟩) (fun _ R s => s.heap.get? tp = some { cls := .type "tuple", dict := dct, data := .seq us n, slots := sl } /\
   R (.ok (.ret (.ref (s.heap.push { cls := .type "tuple_iterator", data := .fields #[.ref tp, .int 0 0] }).objs.size)))
    { s with heap := (s.heap.push { cls := .type "tuple_iterator", data := .fields #[.ref tp, .int 0 0] }).push { cls := .type "enumerate", data := .fields #[.none, .bool false, .ref s.heap.objs.size, rawInt 0, .none, .none] } }) :=
 .of_wp fun prog w A R s z => by
  obtain ⟨hp, g, d, tk, os⟩ := s
  obtain ⟨z1, z2⟩ := z
  have sb := sub_enumerate
  have T : Heap.IsTuple (Shared.heap ⟨hp, g, d, tk, os⟩) tp us := ⟨_, z1, rfl, n, rfl⟩
  wp_walk using AutoSeq1.wpAny_loadPart' z1
  refine wpAny_stack_any fun st => wpAny_pure ?_
  split
  ·rename_i c _ _ _ _ _
   cases (c == Value.type "enumerate")
   all_goals
    wp_walk using AutoSeq1.wpAny_loadPart' z1, wpAny_pyIter_tuple T
    exact ⟨_, rfl, z2⟩
  ·wp_walk using AutoSeq1.wpAny_loadPart' z1, wpAny_pyIter_tuple T
   exact ⟨_, rfl, z2⟩
section
variable {prog : Program} {w : World} {A : Around} {E : VS} {s : Shared}
theorem q551 (T : s.heap.IsTuple tp us)
  (k : ∀ h', IsEnum h' (s.heap.objs.size + 1) s.heap.objs.size 0 .none -> h'.IsTupleIter s.heap.objs.size tp 0 -> (∀ b o, s.heap.get? b = some o -> h'.get? b = some o) -> Q (.ref (s.heap.objs.size + 1)) { s with heap := h' }) :
  wpAny (model prog w) A (call (.type "enumerate") [.ref tp]) Q E s := by
 obtain ⟨⟨c, dct, dt, sl⟩, z1, z2, n, z3⟩ := T
 simp only at z2 z3
 subst z2 z3
 refine callType_new F.called_enumerate (by decide) (F.typeCall_enumerate_1 _) (F.newCall_enumerate_1 _) (fun obj => F.args_object_init_2 obj _) F.entry_enumerate_new (q617 tp us n dct sl) ⟨z1, ?_⟩
 generalize ho : ({ cls := .type "tuple_iterator", data := .fields #[.ref tp, .int 0 0] } : Obj) = o1
 have y1 : (s.heap.push o1).objs.size = s.heap.objs.size + 1 := Heap.size_push ..
 have y2 : ∀ o2 : Obj, o2.isFreed = false -> ((s.heap.push o1).push o2).get? (s.heap.objs.size + 1) = some o2 := fun o2 f => by
  have := Heap.get?_push_size (s.heap.push o1) (o := o2) f
  rwa [y1] at this
 show _ /\ _
 rw [y1]
 have y3 := y2 { cls := .type "enumerate", data := .fields #[.none, .bool false, .ref s.heap.objs.size, rawInt 0, .none, .none] } rfl
 refine ⟨⟨_, y3, rfl⟩, k _ y3 ⟨o1, Heap.get?_push_of_some _ (Heap.get?_push_size _ (by rw [<- ho]; rfl)), by rw [<- ho], by rw [<- ho]; rfl⟩ fun b o q => Heap.get?_push_of_some _ (Heap.get?_push_of_some _ q)⟩
end
section
variable {es : List Expr} {x1 : Nat} {tpos : Pos}
def iEnum (K : Fg) (ta : TA) : TI := fun σ H R => ta σ H fun vs H1 => ∃ a, vs = [.ref a] /\ (∃ xs, SqT K H1 a xs) /\ R (Ite K a) H1
theorem q618 {l : Expr} {ta : TA} {p pos : Pos} (hg : Gl X "enumerate") (hm : X.mg "enumerate" = none) (ha : PA X [l] ta) (hs : starEach [l] X.env = [(false, eval l X.env)] := by rfl) :
  PI X (.Tuple es x1 tpos) (.Call (.Name "enumerate" p) [l] [] pos) (iEnum X.K ta) := by
 intro pins s σ H R I h
 refine Call_ (q150 I hg hm boot_enumerate (PyProof.Rows.callWith_type1 (thn (ha pos pins s σ H _ I h) fun us s1 ⟨vs, H1, I1, r1, q1⟩ => ?_) hs rfl))
 obtain ⟨a, e, ⟨xs, hq⟩, q⟩ := q1
 subst e
 cases r1 with
 | cons r rr =>
  cases rr
  cases r
  obtain ⟨its, rv, p, hz⟩ := I1.tuple hq
  refine q551 (show s1.heap.IsTuple a its.toArray from p) fun h' e1 e2 k => wpAny_pyIter_enum e1 ?_
  have I2 : Inv X pins σ H1 { s1 with heap := h' } := I1.kept (t' := s1.toks) k
  refine ⟨s1.heap.objs.size + 1, [s1.heap.objs.size + 1, s1.heap.objs.size], _, _, H1, rfl, I2, q550 a _ _ (Nat.succ_ne_self _), ⟨⟨_, e1⟩, e2⟩, fun b hb => ?_, q⟩
  have hb' : s1.heap.objs.size <= b := by
   have z : b = s1.heap.objs.size + 1 \/ b = s1.heap.objs.size := by simpa using hb
   rcases z with z | z
   ·rw [z]; exact Nat.le_succ _
   ·rw [z]; exact Nat.le_refl _
  exact I1.fpOk hb' (I1.hok.fresh hb')
theorem q495 {K : Fg} {a : Addr} {xs : List V} {g : TG} {tb : TS} {D : Ends} {σ : St} {H : Hp} (Pv : Nat -> St -> Hp -> Prop) (h0 : Pv 0 σ H) (hl : ∀ i σ H, i <= xs.length -> Pv i σ H -> SqT K H a xs)
  (hs : ∀ i x σ H p, xs[i]? = some x -> Pv i σ H -> H p = none -> g (.ref p) σ (upd H p (.tup [.int i, x])) fun σ2 H2 => tb { D with nx := Pv (i + 1), ct := Pv (i + 1), bk := D.nx } σ2 H2) (hd : ∀ σ H, Pv xs.length σ H -> D.nx σ H) :
  ∃ W : Nat -> Nat -> St -> Hp -> Prop, (∃ m, W 0 m σ H) /\ ∀ i m σ H, W i m σ H ->
   ((Ite K a).stop i H /\ D.nx σ H) \/ ((Ite K a).go i H /\ ∃ N : St -> Hp -> Prop, (∀ σ' H', N σ' H' -> ∃ m', m' < m /\ W (i + 1) m' σ' H') /\ ∀ x H', (Ite K a).yld i H x H' -> g x σ H' fun σ2 H2 => tb { D with nx := N, ct := N, bk := D.nx } σ2 H2) := by
 refine ⟨fun i m σ H => m = xs.length - i /\ i <= xs.length /\ Pv i σ H, ⟨xs.length, by simp, Nat.zero_le _, h0⟩, ?_⟩
 rintro i m σ H ⟨rfl, hi, p⟩
 have q := hl i σ H hi p
 by_cases hlt : i < xs.length
 ·refine .inr ⟨⟨xs, xs[i], q, by simp [hlt]⟩, Pv (i + 1), fun σ' H' p' => ⟨xs.length - (i + 1), by omega, rfl, hlt, p'⟩, fun x H' y => ?_⟩
  obtain ⟨pp, yv, rfl, e2, rfl, y⟩ := y
  exact hs i yv σ _ pp (y xs q) p e2
 ·have e : i = xs.length := by omega
  subst e
  exact .inl ⟨⟨xs, q, Nat.le_refl _⟩, hd σ H p⟩
end
structure CalX (P : Program) (w : World) (K : Fg) (mg : Mg) (base : Heap) (k : Nat) (x : Str) (ps : List Str) (sp : Sp) : Prop where
 ex : ∃ (f : Addr) (fd : FuncData), FnOk P w K mg base (CX1 P w) k f fd ps sp /\ Binds K fd ps [] /\ PySem.W.keepIn K (.ref f) = true /\ mg x = some (.ref f)
section
variable {P : Program} {w : World} {K : Fg} {mg : Mg} {base : Heap} {k : Nat} {x : Str} {st : Stmt} {ps : List Str} {sp : Sp}
end
section
variable {E : XK} {x : Str} {C : Addr} {e : Expr} {es : List Expr} {t : TA} {np cpos pos : Pos}
variable {k i : Nat} {C2 : Addr} {ps : List Str} {sp : Sp} {fx cx n : Str} {p p2 epos hpos : Pos} {b₀ : Stmt} {suite : List Stmt} {u : TS}
end
section
variable {prog : Program} {w : World} {A : Around} {E : VS} {h : Heap} {g : Array GenState} {d : Drawn} {t : Nat} {os : OsState}
variable {nm qn : Str} {C N : Addr} {bs bm tl : List Value} {hdct : Bool} {sn : List Str} {sub : List Value} {ab : Bool} {col : Option Bool} {dd : Option Addr} {k0 k1 k2 k3 k5 : Option Value} {B nw it : String}
end
section
variable {P : Program} {w : World} {fs : List Addr} {H H' : Hp} {h0 h h' : Heap} {x : Addr} {o : HO}
end
section
variable {E : XK} {x : Str} {C f : Addr} {fd : FuncData} {ps : List Str} {sp : Sp} {k : Nat} {e : Expr} {es : List Expr} {t : TA} {np cpos pos : Pos}
end
section
variable {prog : Program} {w : World} {A : Around} {E : VS} {s : Shared} {K : Fg} {L : Addr} {v : Value} {name : Str} {pl : Sem Bool}
end
section
variable {prog : Program} {w : World} {A : Around} {E : VS} {h : Heap} {g : Array GenState} {d : Drawn} {t : Nat} {os : OsState}
variable {nm qn : Str} {C N x : Addr} {bs bm tl : List Value} {hdct : Bool} {sn : List Str} {sub : List Value} {ab : Bool} {col : Option Bool} {dd : Option Addr} {k0 k1 k2 k3 k5 : Option Value} {B nw it : String}
end
section
variable {cx : Str} {C L f : Addr} {e : Expr} {es : List Expr} {t : TA} {p apos pos : Pos} {pl : Sem Bool}
end
open PySem.Builtin.ObjectAttr in
structure XFld (K : Fg) (C : Addr) (f : Str) : Prop where
 sa : PySem.W.findIn K (.ref C) "__setattr__" = some (some (.builtin "object.__setattr__"))
 na : PySem.W.findIn K (.ref C) f = some none
 hd : PySem.W.hasDictIn K C = true
section
variable {prog : Program} {w : World} {A : Around} {E : VS} {s : Shared} {K : Fg} {x C fI : Addr} {oe : Obj} {vs : Array Value} {name : Str} {v : Value}
end
section
variable {o e value : Expr} {ta tv : TE} {C fI : Addr} {f : Str} {pos pos' : Pos}
end
def tCompIf (wi : TI) (tt : TT) (te : TE) (fr : List Nat) : TE := fun σ H Q => wi σ H fun J H1 => ∀ D, H1 D = none -> ∃ W : Nat -> Nat -> List V -> Hp -> Prop, (∃ m, W 0 m [] (upd H1 D (.lst []))) /\
 ∀ i m ys H2, W i m ys H2 -> H2 D = some (.lst ys) /\ ((J.stop i H2 /\ Q (.ref D) H2) \/ (J.go i H2 /\ ys.length < sizeLine /\ ∃ N : V -> Hp -> Prop, (∀ y H3, N y H3 -> H3 D = some (.lst ys) /\ ∃ m', m' < m /\ W (i + 1) m' (ys ++ [y]) (upd H3 D (.lst (ys ++ [y])))) /\
  ∀ x H', J.yld i H2 x H' -> tt (some x :: fr.map fun j => (σ[j]?).getD none) H' fun b H3 => if b = true then te (some x :: fr.map fun j => (σ[j]?).getD none) H3 N else ∃ m', m' < m /\ W (i + 1) m' ys H3))
theorem q440 {X : Cx} {elt iter cc : Expr} {x : Str} {px pos : Pos} {scope sc0 : Scope} {cl : List (Str × Addr)} {cn N : List Str} {fr : List Nat} {tt : TT} {te : TE} {pins : List (Addr × Obj)} {σ : St} {H2 : Hp} {s2 : Shared} {it : Addr} {fp : List Addr}
  {tn : Nat -> Heap -> Prop} {J : It} {RR : Value -> Addr -> Result -> Shared -> Prop} {R : Hp -> Prop} {E : VS} {W : Nat -> Nat -> List V -> Hp -> Prop} {m0 : Nat}
  (hc : X.calm = true) (he : ∀ (C : Addr) (s₂ : Shared) (H₂ : Hp) (fp : List Addr), PE (q63 X scope cl C x N s₂ H₂ fp) elt te) (hct : ∀ (C : Addr) (s₂ : Shared) (H₂ : Hp) (fp : List Addr), PT (q63 X scope cl C x N s₂ H₂ fp) cc tt)
  (hcl : q89 X.env cl) (hcn : cl.map (·.1) = cn) (hsc : X.env.scope = sc0) (hk : scope.kind = .function) (hok : CompOk scope sc0 x N cn) (hfr : fr.map (fun j => X.N[j]?) = N.map some)
  (I2 : Inv X pins σ H2 s2) (T : Turn X.prog X.w X.K (.Name x px) J fp it tn) (st2 : tn 0 s2.heap) (f2 : ∀ b ∈ fp, FpOk X pins H2 b)
  (w0 : W 0 m0 [] (upd H2 s2.heap.objs.size (.lst [])))
  (turn : ∀ i m ys H, W i m ys H -> H s2.heap.objs.size = some (.lst ys) /\ ((J.stop i H /\ R H) \/ (J.go i H /\ ys.length < sizeLine /\ ∃ N : V -> Hp -> Prop,
   (∀ y H3, N y H3 -> H3 s2.heap.objs.size = some (.lst ys) /\ ∃ m', m' < m /\ W (i + 1) m' (ys ++ [y]) (upd H3 s2.heap.objs.size (.lst (ys ++ [y])))) /\
   ∀ x H', J.yld i H x H' -> tt (some x :: fr.map fun j => (σ[j]?).getD none) H' fun b H3 => if b = true then te (some x :: fr.map fun j => (σ[j]?).getD none) H3 N else ∃ m', m' < m /\ W (i + 1) m' ys H3)))
  (hRR : ∀ (C : Addr) (H6 : Hp) (s6 : Shared) (m6 : Mg), s6.heap.Ns C m6 -> Inv X pins σ H6 s6 -> FpOk X pins H6 C -> R H6 -> RR (.ref s2.heap.objs.size) C (.ok .next) s6) :
  wpAny (model X.prog X.w) X.A (newList []) (fun acc s₃ => wpAny (model X.prog X.w) X.A (newFunctionEnv scope X.env.globals cl [] X.env.qual none .none (some X.env)) (fun cenv s₄ =>
   codeAny (model X.prog X.w) X.A (.compStart (.ListComp elt [⟨.Name x px, iter, [cc], 0⟩] scope pos) 0 (.ref it) acc { cenv with scope := relabel scope X.env }) (RR acc cenv.locals) s₄) E s₃) E s2 := by
 refine q174 (TN := []) (gt := gName 0) (tt := tt) hc he (fun C s h f => pts_one (hct C s h f)) (fun _ _ _ _ => q143 hok.nd rfl (.inl ?_) (.inr ?_)) hcl hcn hsc hk ⟨hok.has, hok.nc, hok.names, hok.frs⟩ hfr I2 T st2 f2 w0 (fun i m ys H h => ?_) hRR
 ·exact q313 hsc hok.hx'
 ·exact q313 hsc hok.hx'
 obtain ⟨a, b⟩ := turn i m ys H h
 refine ⟨a, ?_⟩
 rcases b with b | ⟨g, l, N, h1, h2⟩
 ·exact .inl b
 refine .inr ⟨g, l, N, fun H3 => ∃ m', m' < m /\ W (i + 1) m' ys H3, h1, fun _ z => z, fun x H' y vs hv => ?_⟩
 match vs, hv with
 | [v0], _ => exact ⟨⟨[some x], rfl, rfl⟩, h2 x H' y⟩
theorem q117 {X : Cx} {elt iter cc : Expr} {x : Str} {px pos : Pos} {scope sc0 : Scope} {cl : List (Str × Addr)} {cn N : List Str} {fr : List Nat} {wi : TI} {tt : TT} {te : TE}
  (hc : X.calm = true) (hi : PI X (.Name x px) iter wi) (he : ∀ (C : Addr) (s₂ : Shared) (H₂ : Hp) (fp : List Addr), PE (q63 X scope cl C x N s₂ H₂ fp) elt te) (hct : ∀ (C : Addr) (s₂ : Shared) (H₂ : Hp) (fp : List Addr), PT (q63 X scope cl C x N s₂ H₂ fp) cc tt)
  (hclos : closureFor scope X.env = pure cl) (hcl : q89 X.env cl) (hcn : cl.map (·.1) = cn) (hsc : X.env.scope = sc0) (hk : scope.kind = .function) (hok : CompOk scope sc0 x N cn)
  (hfr : fr.map (fun j => X.N[j]?) = N.map some) (hs : ∀ v, foldedSetIterable iter X.env v = pure v := by intro _; rfl) :
  PE X (.ListComp elt [⟨.Name x px, iter, [cc], 0⟩] scope pos) (tCompIf wi tt te fr) := by
 intro pins s σ H Q I h
 rw [eval_ListComp]
 refine wpAny_comprehension_free (use := none) rfl hs hclos hk hok.names (thn (hi pins s σ H _ I h) fun v s1 h1 => thn h1 fun itv s2 h2 => ?_)
 obtain ⟨it, fp, tn, J, H2, e, I2, T, st2, f2, hq⟩ := h2
 subst e
 obtain ⟨W, ⟨m0, w0⟩, turn⟩ := hq s2.heap.objs.size (I2.hok.fresh (Nat.le_refl _))
 exact q440 (RR := fun acc C => compPost (model X.prog X.w) X.A X.xe none (EP X pins σ Q) acc C) (R := fun H6 => Q (.ref s2.heap.objs.size) H6) hc he hct hcl hcn hsc hk hok hfr I2 T st2 f2 w0 turn
  fun C H6 s6 m6 hn I6 F6 q => ⟨m6, hn, fun h' sb => ⟨.ref s2.heap.objs.size, H6, I6.let_go F6 sb, rfl, q⟩⟩
theorem q441 {K : Fg} {a : Addr} {xs : List V} {p : V -> Bool} {g : V -> V} {Tt : V -> Hp -> (Bool -> Hp -> Prop) -> Prop} {Te : V -> Hp -> (V -> Hp -> Prop) -> Prop} {D : Addr} {H1 : Hp} {R : Hp -> Prop}
  (ha : SqL K H1 a xs) (hD : H1 D = none) (hn : xs.length <= sizeLine) (hT : ∀ x ∈ xs, ∀ (H : Hp) (Q : Bool -> Hp -> Prop), Same H1 H -> Q (p x) H -> Tt x H Q) (hE : ∀ x ∈ xs, p x = true -> ∀ (H : Hp) (Q : V -> Hp -> Prop), Same H1 H -> Q (g x) H -> Te x H Q)
  (hR : R (upd H1 D (.lst ((xs.filter p).map g)))) :
  ∃ W : Nat -> Nat -> List V -> Hp -> Prop, (∃ m, W 0 m [] (upd H1 D (.lst []))) /\
   ∀ i m ys H2, W i m ys H2 -> H2 D = some (.lst ys) /\ (((Itl K a).stop i H2 /\ R H2) \/ ((Itl K a).go i H2 /\ ys.length < sizeLine /\ ∃ N : V -> Hp -> Prop, (∀ y H3, N y H3 -> H3 D = some (.lst ys) /\ ∃ m', m' < m /\ W (i + 1) m' (ys ++ [y]) (upd H3 D (.lst (ys ++ [y])))) /\
    ∀ x H', (Itl K a).yld i H2 x H' -> Tt x H' fun b H3 => if b = true then Te x H3 N else ∃ m', m' < m /\ W (i + 1) m' ys H3)) := by
 refine ⟨fun i m ys H => m = xs.length - i /\ i <= xs.length /\ ys = ((xs.take i).filter p).map g /\ H = upd H1 D (.lst ys), ⟨xs.length, by simp, Nat.zero_le _, by simp, rfl⟩, ?_⟩
 rintro i m ys H2 ⟨rfl, hi, hy, rfl⟩
 have sm := q16 hD (.lst ys)
 have q := sm.seq ha
 have hyl : ys.length <= i := by
  rw [hy, List.length_map]
  exact Nat.le_trans (List.length_filter_le _ _) (by rw [List.length_take]; exact Nat.min_le_left _ _)
 refine ⟨q14, ?_⟩
 by_cases hlt : i < xs.length
 ·refine .inr ⟨⟨xs, xs[i], q, by simp [hlt]⟩, by omega, fun y H3 => H3 = upd H1 D (.lst ys) /\ y = g xs[i] /\ p xs[i] = true, fun y H3 ⟨z1, z2, z3⟩ => ⟨by rw [z1]; exact q14, xs.length - (i + 1), by omega, rfl, hlt, ?eq, by rw [z1, q114]⟩, fun x H' y => ?st⟩
  case eq =>
   rw [List.take_succ_eq_append_getElem hlt, List.filter_append, List.map_append, <- hy, z2]
   simp [z3]
  case st =>
   obtain ⟨e, y⟩ := y
   subst e
   have hx : xs[i]? = some x := y xs q
   have hx' : xs[i] = x := by simpa [hlt] using hx
   have hm : x ∈ xs := by rw [<- hx']; exact List.getElem_mem hlt
   refine hT x hm _ _ sm ?_
   by_cases hp : p x = true
   ·rw [if_pos hp]
    exact hE x hm hp _ _ sm ⟨rfl, by rw [hx'], by rw [hx']; exact hp⟩
   ·rw [if_neg hp]
    refine ⟨xs.length - (i + 1), by omega, rfl, hlt, ?_, rfl⟩
    rw [List.take_succ_eq_append_getElem hlt, List.filter_append, List.map_append, <- hy, hx']
    simp [hp]
 ·have e : i = xs.length := by omega
  subst e
  refine .inl ⟨⟨xs, q, Nat.le_refl _⟩, ?_⟩
  rw [hy, List.take_length]
  exact hR
section
variable {P : Program} {w : World} {K : Fg} {mg : Mg} {base : Heap}
def prevSp (sp : Nat -> Sp) : Nat -> Sp
 | 0 => fun _ _ _ _ => False
 | e + 1 => sp e
theorem Def.recur {sp : Nat -> Sp} {x : Str} {st : Stmt} {ps : List Str} (d : Def K mg x st ps) {k : Nat} (n : Nat)
  (step : ∀ e, e <= n -> Cal P w K mg base (e + k) x ps (prevSp sp e) -> ∀ (f : Addr) (fd : FuncData), Fun K x x st f fd -> FnOk P w K mg base CX0 (e + (k + 1)) f fd ps (sp e)) :
  Cal P w K mg base (n + (k + 1)) x ps (fun vs H Q E => ∃ e, e <= n /\ sp e vs H Q E) := by
 obtain ⟨f, fd, h1, h2, h3⟩ := d.ex
 have all : ∀ e, e <= n -> FnOk P w K mg base CX0 (e + (k + 1)) f fd ps (sp e) := by
  intro e
  induction e with
  | zero => exact fun he => step 0 he ⟨f, fd, ⟨fun _ _ _ _ h => h.elim, fun _ _ _ _ _ _ _ _ _ _ _ _ _ h => h.elim⟩, .all h2, h1.kp, h3⟩ f fd h1
  | succ e ih => exact fun he => step (e + 1) he ⟨f, fd, (ih (by omega)).mono (by omega), .all h2, h1.kp, h3⟩ f fd h1
 refine ⟨f, fd, ⟨?_, ?_⟩, .all h2, h1.kp, h3⟩
 ·rintro vs H Q E ⟨e, he, h⟩
  exact (all e he).len vs H Q E h
 ·rintro A outer s H args us vs Q E hr he hb hv ⟨e, hle, h⟩
  exact (all e hle).run A outer s H args us vs Q E (hr.mono (by omega)) he hb hv h
end
theorem q283 {K : Fg} {a : Addr} {xs : List V} {g : V -> V} {Te : V -> Hp -> (V -> Hp -> Prop) -> Prop} {D : Addr} {H1 : Hp} {R : Hp -> Prop}
  (ha : SqL K H1 a xs) (hD : H1 D = none) (hn : xs.length <= sizeLine) (hE : ∀ x ∈ xs, ∀ (H : Hp) (Q : V -> Hp -> Prop), Same H1 H -> Q (g x) H -> Te x H Q) (hR : R (upd H1 D (.lst (xs.map g)))) :
  ∃ W : Nat -> Nat -> List V -> Hp -> Prop, (∃ m, W 0 m [] (upd H1 D (.lst []))) /\
   ∀ i m ys H2, W i m ys H2 -> H2 D = some (.lst ys) /\ (((Itl K a).stop i H2 /\ R H2) \/ ((Itl K a).go i H2 /\ ys.length < sizeLine /\ ∃ N : V -> Hp -> Prop, (∀ y H3, N y H3 -> H3 D = some (.lst ys) /\ ∃ m', m' < m /\ W (i + 1) m' (ys ++ [y]) (upd H3 D (.lst (ys ++ [y])))) /\
    ∀ x H', (Itl K a).yld i H2 x H' -> Te x H' N)) := by
 refine ⟨fun i m ys H => m = xs.length - i /\ i <= xs.length /\ ys = (xs.take i).map g /\ H = upd H1 D (.lst ys), ⟨xs.length, by simp, Nat.zero_le _, by simp, rfl⟩, ?_⟩
 rintro i m ys H2 ⟨rfl, hi, hy, rfl⟩
 have sm := q16 hD (.lst ys)
 have q := sm.seq ha
 have hyl : ys.length <= i := by
  rw [hy, List.length_map, List.length_take]; exact Nat.min_le_left _ _
 refine ⟨q14, ?_⟩
 by_cases hlt : i < xs.length
 ·refine .inr ⟨⟨xs, xs[i], q, by simp [hlt]⟩, by omega, fun y H3 => H3 = upd H1 D (.lst ys) /\ y = g xs[i], fun y H3 ⟨z1, z2⟩ => ⟨by rw [z1]; exact q14, xs.length - (i + 1), by omega, rfl, hlt, ?eq, by rw [z1, q114]⟩, fun x H' y => ?st⟩
  case eq =>
   rw [List.take_succ_eq_append_getElem hlt, List.map_append, <- hy, z2]
   rfl
  case st =>
   obtain ⟨e, y⟩ := y
   subst e
   have hx : xs[i]? = some x := y xs q
   have hx' : xs[i] = x := by simpa [hlt] using hx
   have hm : x ∈ xs := by rw [<- hx']; exact List.getElem_mem hlt
   exact hE x hm _ _ sm ⟨rfl, by rw [hx']⟩
 ·have e : i = xs.length := by omega
  subst e
  refine .inl ⟨⟨xs, q, Nat.le_refl _⟩, ?_⟩
  rw [hy, List.take_length]
  exact hR
theorem op_eqL (hu : X.A.units + 64 < cLine) : OpR X (compareOp .Eq) (fun x y H Q => ∃ (a b : Addr) (ns ms : List Int), x = .ref a /\ y = .ref b /\ SqL X.K H a (ns.map V.int) /\ SqL X.K H b (ms.map V.int) /\ Q (.bl (decide (ns = ms))) H) := by
 intro pins s σ H x y v u Q I rx ry h
 obtain ⟨a, b, ns, ms, rfl, rfl, ha, hb, q⟩ := h
 cases rx
 cases ry
 obtain ⟨its, r1, p1, _⟩ := I.list ha
 obtain ⟨its2, r2, p2, _⟩ := I.list hb
 exact PySem.W.ke_eq_ints p1.isList p2.isList (q99 r1) (q99 r2) hu ⟨.bl _, H, I, rfl, q⟩
def tRev (K : Fg) (te : TE) : TE := fun σ H Q => te σ H fun x H1 => ∃ a xs, x = .ref a /\ SqL K H1 a xs /\ ∀ p, H1 p = none -> Q (.ref p) (upd H1 p (.lst xs.reverse))
theorem pe_rev {k : Nat} (he : PE X e te) : PE X (.Subscript e (.Slice none none (some (.UnaryOp .USub (.Constant (.int 1) k p1) p3)) p2) pos) (tRev X.K te) := by
 intro pins s σ H Q I h
 refine Subscript_ (thn (he pins s σ H _ I h) fun v s1 ⟨x, H1, I1, r1, q1⟩ => ?_)
 obtain ⟨a, xs, rfl, hx, q⟩ := q1
 cases r1
 have hst : PO X (some (.UnaryOp .USub (.Constant (.int 1) k p1) p3)) (tPart (tUn (rU fun i => .int (-i)) fun _ H Q => Q (.int 1) H)) := q47 (pe_un q593 q13)
 refine wpAny_Slice (thn (q54 (X := X) pins s1 σ H1 (fun o H' => o = none /\ H' = H1) I1 ⟨rfl, rfl⟩) fun vl s2 ⟨l, H2, I2, pl, el, e2⟩ => thn (q54 (X := X) pins s2 σ H2 (fun o H' => o = none /\ H' = H1) I2 ⟨rfl, e2⟩) fun vu s3 ⟨u, H3, I3, pu, eu, e3⟩ =>
  thn (hst pins s3 σ H3 (fun o H' => o = some (-1) /\ H' = H1) I3 ⟨_, rfl, ⟨_, rfl, rfl, e3⟩⟩) fun vk s4 ⟨kk, H4, I4, pk, ek, e4⟩ => ?_)
 subst el eu ek e4
 have I5 : Inv X pins σ H4 { s4 with heap := s4.heap.push { cls := .type "slice", data := .fields #[vl, vu, vk] } } := I4.kept (t' := s4.toks) fun b ob q => Heap.get?_push_of_some _ q
 obtain ⟨its, r, ht, hz⟩ := I5.list hx
 have hlen := r.length
 show wpAny (model X.prog X.w) X.A (subscriptTail e _ (.ref a) (.ref s4.heap.objs.size)) (EP X pins σ Q) X.xe { s4 with heap := s4.heap.push { cls := .type "slice", data := .fields #[vl, vu, vk] } }
 refine tail_any (ops := [.ref a, .ref s4.heap.objs.size]) ht.isList.typeIs slot_list_getitem.lookup ?_ (by with_unfolding_all rfl)
 refine wpAny_getItem_list_slice ht.isList (Heap.IsSliceOf.new ..) pl pu pk (by simp) ?_ (by rw [List.size_toArray] <;> omega)
 rw [PySem.W.krv_pick]
 refine ⟨.ref _, _, I5.laid (t' := s4.toks) (o := .lst xs.reverse) (fun b ob q => Heap.get?_push_of_some _ q) (Nat.le_refl _) ?_, rfl, q _ (I5.hok.fresh (Nat.le_refl _))⟩
 exact ⟨by rw [List.length_reverse]; exact hz, _, 0, r.reverse, Heap.get?_push_size _ rfl⟩
section
variable {K : Fg}
theorem q215 (h : X.K = K) : IxR X (rIxT K) := by subst h; exact q23
end
inductive Tr where
 | non
 | many (n : Int)
 | part (ms : List Int) (l r : Tr)
def q29 (H : Hp) : V -> Tr -> Prop
 | v, .non => v = .non
 | v, .many n => ∃ a, v = .ref a /\ H a = some (.tup [.str "many", .int n])
 | v, .part ms l r => ∃ a m x y, v = .ref a /\ H a = some (.tup [.str "part", .ref m, x, y]) /\ TupF H m (ms.map V.int) /\ q29 H x l /\ q29 H y r
def TKeep (H H' : Hp) : Prop := ∀ b xs, (H b = some (.tup xs) -> H' b = some (.tup xs)) /\ ∀ o, H b = some (.frz o (.tup xs)) -> H' b = some (.frz o (.tup xs))
theorem TKeep.trans (a : TKeep H H1) (b : TKeep H1 H2) : TKeep H H2 := fun c xs => ⟨fun h => (b c xs).1 ((a c xs).1 h), fun o h => (b c xs).2 o ((a c xs).2 o h)⟩
theorem TKeep.same (s : Same H H') : TKeep H H' := fun _ _ => ⟨s _ _, fun _ => s _ _⟩
theorem TKeep.keep (s : Keep p H H') (e : H p = some (.lst ys)) : TKeep H H' := fun _ _ => ⟨fun h => s _ _ (ne_of h e (by intro z; cases z)) h, fun _ h => s _ _ (ne_of h e (by intro z; cases z)) h⟩
theorem TKeep.set (e : H p = some (.lst ys)) : TKeep H (upd H p (.lst zs)) := .keep (Keep.set p H _) e
theorem TupF.tk (h : TupF H a xs) (s : TKeep H H') : TupF H' a xs := by
 obtain ⟨o, h, c⟩ := h
 exact ⟨o, (s _ _).2 o h, c⟩
theorem q29.tk {H H' : Hp} (s : TKeep H H') : ∀ {t : Tr} {v : V}, q29 H v t -> q29 H' v t
 | .non, _, h => h
 | .many _, _, ⟨a, e, h⟩ => ⟨a, e, (s _ _).1 h⟩
 | .part _ _ _, _, ⟨a, m, x, y, e, h, hm, hl, hr⟩ => ⟨a, m, x, y, e, (s _ _).1 h, hm.tk s, q29.tk s hl, q29.tk s hr⟩
theorem q29.same (s : Same H H') (h : q29 H v t) : q29 H' v t := h.tk (.same s)
theorem q496 {A : Around} {xs ys : List V} (I : Inv X pins σ H s) (ha : SqT X.K H a xs) (hb : SqT X.K H b ys) (hl : xs.length = ys.length)
  (he : ∀ (j : Nat) (x y : V), xs[j]? = some x -> ys[j]? = some y -> ∀ u v, RelV x u -> RelV y v -> SeqAt.EqAt A.in1 s u v true) (hu : A.units < cLine) :
  SeqAt.RcAt A s (.ref a) (.ref b) true /\ SeqAt.RcNeAt A s (.ref a) (.ref b) false := by
 obtain ⟨its, r1, p1, _⟩ := I.tuple ha
 obtain ⟨its2, r2, p2, _⟩ := I.tuple hb
 have l1 := r1.length
 have l2 := r2.length
 have hz : its.toArray.size = its2.toArray.size := by rw [List.size_toArray, List.size_toArray]; omega
 have el : ∀ (j : Nat) (h1 : j < its.toArray.size) (h2 : j < its2.toArray.size), SeqAt.EqAt A.in1 s its.toArray[j] its2.toArray[j] ((fun _ => true) j) := by
  intro j h1 h2
  have h1' : j < xs.length := by rw [List.size_toArray] at h1; omega
  have h2' : j < ys.length := by rw [List.size_toArray] at h2; omega
  obtain ⟨v1, e1, r1'⟩ := r1.get (i := j) (x := xs[j]) (List.getElem?_eq_getElem h1')
  obtain ⟨v2, e2, r2'⟩ := r2.get (i := j) (x := ys[j]) (List.getElem?_eq_getElem h2')
  have g1 : its.toArray[j] = v1 := by
   have := List.getElem?_eq_some_iff.mp e1
   simpa using this.2
  have g2 : its2.toArray[j] = v2 := by
   have := List.getElem?_eq_some_iff.mp e2
   simpa using this.2
  rw [g1, g2]
  exact he j _ _ (List.getElem?_eq_getElem h1') (List.getElem?_eq_getElem h2') _ _ r1' r2'
 have t0 : ((List.range (min its.toArray.size its2.toArray.size)).all (fun _ => true) && its.toArray.size == its2.toArray.size) = true := by
  rw [hz]; simp
 constructor
 ·rw [<- t0]
  exact SeqAt.RcAt.tuples p1 p2 hu el
 ·have z := SeqAt.RcNeAt.tuples (e := fun _ => true) p1 p2 hu el
  rw [t0] at z
  exact z
theorem q497 (h : SeqAt.RcAt A s (.ref a) (.ref b) true) : SeqAt.EqAt A s (.ref a) (.ref b) true := by
 by_cases e : a = b
 ·subst e
  exact SeqAt.EqAt.same _
 ·exact .of_refs e h
def onI {α : Type} (f : Int -> α) (d : α) : V -> α
 | .int n => f n
 | _ => d
theorem filt_onI {p : Int -> Bool} {g : Int -> V} (ns : List Int) : (((ns.map V.int).filter (onI p false)).map (onI g .non)) = (ns.filter p).map g := by
 induction ns with
 | nil => rfl
 | cons n ns ih =>
  rw [List.map_cons, List.filter_cons, List.filter_cons]
  have e : onI p false (.int n) = p n := rfl
  rw [e]
  by_cases h : p n = true
  ·rw [if_pos h, if_pos h, List.map_cons, List.map_cons, ih]; rfl
  ·rw [if_neg h, if_neg h]; exact ih
section
variable {K : Fg} {a : Addr} {ns : List Int} {p : Int -> Bool} {g : Int -> V} {Tt : V -> Hp -> (Bool -> Hp -> Prop) -> Prop} {Te : V -> Hp -> (V -> Hp -> Prop) -> Prop} {D : Addr} {H1 : Hp} {R : Hp -> Prop}
theorem q104 (ha : SqL K H1 a (ns.map V.int)) (hD : H1 D = none) (hn : ns.length <= sizeLine) (hT : ∀ n ∈ ns, ∀ (H : Hp) (Q : Bool -> Hp -> Prop), Same H1 H -> Q (p n) H -> Tt (.int n) H Q)
  (hE : ∀ n ∈ ns, p n = true -> ∀ (H : Hp) (Q : V -> Hp -> Prop), Same H1 H -> Q (g n) H -> Te (.int n) H Q) (hR : R (upd H1 D (.lst ((ns.filter p).map g)))) :
  ∃ W : Nat -> Nat -> List V -> Hp -> Prop, (∃ m, W 0 m [] (upd H1 D (.lst []))) /\
   ∀ i m ys H2, W i m ys H2 -> H2 D = some (.lst ys) /\ (((Itl K a).stop i H2 /\ R H2) \/ ((Itl K a).go i H2 /\ ys.length < sizeLine /\ ∃ N : V -> Hp -> Prop, (∀ y H3, N y H3 -> H3 D = some (.lst ys) /\ ∃ m', m' < m /\ W (i + 1) m' (ys ++ [y]) (upd H3 D (.lst (ys ++ [y])))) /\
    ∀ x H', (Itl K a).yld i H2 x H' -> Tt x H' fun b H3 => if b = true then Te x H3 N else ∃ m', m' < m /\ W (i + 1) m' ys H3)) := by
 refine q441 (p := onI p false) (g := onI g .non) ha hD (by rw [List.length_map]; exact hn) (fun x hx H Q s q => ?_) (fun x hx hp H Q s q => ?_) (by rw [filt_onI]; exact hR)
 ·obtain ⟨n, hm, rfl⟩ := List.mem_map.mp hx
  exact hT n hm H Q s q
 ·obtain ⟨n, hm, rfl⟩ := List.mem_map.mp hx
  exact hE n hm hp H Q s q
theorem q152 (ha : SqL K H1 a (ns.map V.int)) (hD : H1 D = none) (hn : ns.length <= sizeLine) (hE : ∀ n ∈ ns, ∀ (H : Hp) (Q : V -> Hp -> Prop), Same H1 H -> Q (g n) H -> Te (.int n) H Q) (hR : R (upd H1 D (.lst (ns.map g)))) :
  ∃ W : Nat -> Nat -> List V -> Hp -> Prop, (∃ m, W 0 m [] (upd H1 D (.lst []))) /\
   ∀ i m ys H2, W i m ys H2 -> H2 D = some (.lst ys) /\ (((Itl K a).stop i H2 /\ R H2) \/ ((Itl K a).go i H2 /\ ys.length < sizeLine /\ ∃ N : V -> Hp -> Prop, (∀ y H3, N y H3 -> H3 D = some (.lst ys) /\ ∃ m', m' < m /\ W (i + 1) m' (ys ++ [y]) (upd H3 D (.lst (ys ++ [y])))) /\
    ∀ x H', (Itl K a).yld i H2 x H' -> Te x H' N)) := by
 refine q283 (g := onI g .non) ha hD (by rw [List.length_map]; exact hn) (fun x hx H Q s q => ?_) (by rw [List.map_map]; exact hR)
 obtain ⟨n, hm, rfl⟩ := List.mem_map.mp hx
 exact hE n hm H Q s q
end
theorem Keep.free (k : Keep p H H') (hl : H' l = none) (hp : H' p = some o) : H l = none := by
 cases e : H l with
 | none => rfl
 | some u =>
  have n : l ≠ p := fun z => by rw [z, hp] at hl; cases hl
  rw [k l u n e] at hl
  cases hl
theorem Keep.own (k : Keep p H H') (hr : H r = none) : Keep p H (upd H' r o) := fun c u hc z => by
 rw [q34 (q26 z hr)]
 exact k c u hc z
theorem p2pos (L : Nat) : (0 : Int) < 2 ^ L := by
 induction L with
 | zero => decide
 | succ L ih => rw [Int.pow_succ]; omega
theorem p2le {L : Nat} (h : L <= 40) : (2 : Int) ^ L <= 1099511627776 := by
 have e : (2 : Int) ^ L = ((2 ^ L : Nat) : Int) := by simp
 have : 2 ^ L <= 2 ^ 40 := Nat.pow_le_pow_right (by decide) h
 rw [e]
 have e2 : (2 : Nat) ^ 40 = 1099511627776 := by decide
 omega
theorem q619 (e : Nat) : (2 : Int) ^ (e + 1) / 2 = 2 ^ e := by rw [Int.pow_succ]; omega
theorem q620 (e : Nat) : (2 : Int) ^ (e + 1) = 2 ^ e + 2 ^ e := by rw [Int.pow_succ]; omega
theorem p2one {e : Nat} (h : (2 : Int) ^ e = 1) : e = 0 := by
 cases e with
 | zero => rfl
 | succ e => have := p2pos e; rw [q620] at h; omega
theorem q216 (L : Nat) : (1 : Int) * 2 ^ ((L : Int)).toNat = 2 ^ L := by rw [Int.one_mul]; rfl
inductive Alk (K : Fg) (H : Hp) : Nat -> V -> V -> Prop where
 | flat {n : Nat} {x : V} (h : flatV x = true) : Alk K H n x x
 | tup {n : Nat} {a b : Addr} {xs ys : List V} (ha : SqT K H a xs) (hb : SqT K H b ys) (hl : xs.length = ys.length) (h : ∀ (j : Nat) (x y : V), xs[j]? = some x -> ys[j]? = some y -> Alk K H n x y) : Alk K H (n + 1) (.ref a) (.ref b)
 | lst {n : Nat} {a b : Addr} {xs ys : List V} (ha : SqL K H a xs) (hb : SqL K H b ys) (hl : xs.length = ys.length) (h : ∀ (j : Nat) (x y : V), xs[j]? = some x -> ys[j]? = some y -> Alk K H n x y) : Alk K H (n + 1) (.ref a) (.ref b)
theorem eqV_self : ∀ {x : V}, flatV x = true -> eqV x x = true := by
 intro x h
 cases x <;> simp [flatV] at h <;> simp [eqV]
theorem q315 {A : Around} {xs ys : List V} (I : Inv X pins σ H s) (ha : SqL X.K H a xs) (hb : SqL X.K H b ys) (hl : xs.length = ys.length)
  (he : ∀ (j : Nat) (x y : V), xs[j]? = some x -> ys[j]? = some y -> ∀ u v, RelV x u -> RelV y v -> SeqAt.EqAt A.in1 s u v true) (hu : A.units < cLine) :
  SeqAt.RcAt A s (.ref a) (.ref b) true /\ SeqAt.RcNeAt A s (.ref a) (.ref b) false := by
 obtain ⟨its, r1, p1, _⟩ := I.list ha
 obtain ⟨its2, r2, p2, _⟩ := I.list hb
 have l1 := r1.length
 have l2 := r2.length
 have hz : its.toArray.size = its2.toArray.size := by rw [List.size_toArray, List.size_toArray]; omega
 have el : ∀ (j : Nat) (h1 : j < its.toArray.size) (h2 : j < its2.toArray.size), SeqAt.EqAt A.in1 s its.toArray[j] its2.toArray[j] ((fun _ => true) j) := by
  intro j h1 h2
  have h1' : j < xs.length := by rw [List.size_toArray] at h1; omega
  have h2' : j < ys.length := by rw [List.size_toArray] at h2; omega
  obtain ⟨v1, e1, r1'⟩ := r1.get (i := j) (x := xs[j]) (List.getElem?_eq_getElem h1')
  obtain ⟨v2, e2, r2'⟩ := r2.get (i := j) (x := ys[j]) (List.getElem?_eq_getElem h2')
  have g1 : its.toArray[j] = v1 := by
   have := List.getElem?_eq_some_iff.mp e1
   simpa using this.2
  have g2 : its2.toArray[j] = v2 := by
   have := List.getElem?_eq_some_iff.mp e2
   simpa using this.2
  rw [g1, g2]
  exact he j _ _ (List.getElem?_eq_getElem h1') (List.getElem?_eq_getElem h2') _ _ r1' r2'
 have t0 : (List.range its.toArray.size).all (fun _ => true) = true := by simp
 constructor
 ·rw [<- t0]
  exact SeqAt.RcAt.lists p1.isList p2.isList hz hu el
 ·have z := SeqAt.RcNeAt.lists (e := fun _ => true) p1.isList p2.isList hz hu el
  rw [t0] at z
  exact z
theorem q498 (I : Inv X pins σ H s) {n : Nat} (h : Alk X.K H n x y) : ∀ (A : Around) (u v : Value), RelV x u -> RelV y v -> A.units + n + 1 < cLine -> SeqAt.EqAt A s u v true := by
 induction h with
 | @flat n x hf =>
  intro A u v ru rv hu
  have z := eqAt_V (A := A) (s := s) ru rv hf hf
  rw [eqV_self hf] at z
  exact z
 | tup ha hb hl _ ih =>
  intro A u v ru rv hu
  cases ru
  cases rv
  exact q497 (q496 I ha hb hl (fun j x y h1 h2 u v r1 r2 => ih j x y h1 h2 A.in1 u v r1 r2 (by show A.units + 1 + _ + 1 < cLine; omega)) (by omega)).1
 | lst ha hb hl _ ih =>
  intro A u v ru rv hu
  cases ru
  cases rv
  exact q497 (q315 I ha hb hl (fun j x y h1 h2 u v r1 r2 => ih j x y h1 h2 A.in1 u v r1 r2 (by show A.units + 1 + _ + 1 < cLine; omega)) (by omega)).1
theorem alk_refs (I : Inv X pins σ H s) {n : Nat} (h : Alk X.K H n (.ref a) (.ref b)) (A : Around) (hu : A.units + n + 1 < cLine) : SeqAt.RcAt A s (.ref a) (.ref b) true /\ SeqAt.RcNeAt A s (.ref a) (.ref b) false := by
 cases h with
 | flat hf => exact absurd hf (by simp [flatV])
 | tup ha hb hl h => exact q496 I ha hb hl (fun j x y h1 h2 u v r1 r2 => q498 I (h j x y h1 h2) A.in1 u v r1 r2 (by show A.units + 1 + _ + 1 < cLine; omega)) (by omega)
 | lst ha hb hl h => exact q315 I ha hb hl (fun j x y h1 h2 u v r1 r2 => q498 I (h j x y h1 h2) A.in1 u v r1 r2 (by show A.units + 1 + _ + 1 < cLine; omega)) (by omega)
theorem op_eqAlk (hu : X.A.units + 64 < cLine) : OpR X (compareOp .Eq) (fun x y H Q => ∃ (n : Nat) (a b : Addr), x = .ref a /\ y = .ref b /\ Alk X.K H n (.ref a) (.ref b) /\ n <= 60 /\ Q (.bl true) H) := by
 intro pins s σ H x y v u Q I rx ry h
 obtain ⟨n, a, b, rfl, rfl, hk, hn, q⟩ := h
 cases rx
 cases ry
 exact (alk_refs I hk X.A (by omega)).1 _ _ _ _ ⟨.bl true, H, I, rfl, q⟩
theorem q499 {X : Cx} {pos : Pos} {scope : Scope} {cl : List (Str × Addr)} {N : List Str} {fr : List Nat}
  (hc : X.calm = true) (hi : PI X tg iter wi) (he : ∀ (C : Addr) (s₂ : Shared) (H₂ : Hp) (fp : List Addr), PE (q63 X scope cl C x (TN ++ N) s₂ H₂ fp) elt te) (hct : ∀ (C : Addr) (s₂ : Shared) (H₂ : Hp) (fp : List Addr), PTs (q63 X scope cl C x (TN ++ N) s₂ H₂ fp) ifs tt) (hgt : ∀ (C : Addr) (s₂ : Shared) (H₂ : Hp) (fp : List Addr), PG (q63 X scope cl C x (TN ++ N) s₂ H₂ fp) tg gt)
  (hclos : closureFor scope X.env = pure cl) (hcl : q89 X.env cl) (hcn : cl.map (·.1) = cn) (hsc : X.env.scope = sc0) (hk : scope.kind = .function) (hok : CompOkG scope sc0 N cn)
  (hfr : fr.map (fun j => X.N[j]?) = N.map some) (hs : ∀ v, foldedSetIterable iter X.env v = pure v := by intro _; rfl) :
  PE X (.ListComp elt [⟨tg, iter, ifs, 0⟩] scope pos) (tCompG (TN.length + 1) wi gt tt te fr) := by
 intro pins s σ H Q I h
 rw [eval_ListComp]
 refine wpAny_comprehension_free (use := none) rfl hs hclos hk hok.names (thn (hi pins s σ H _ I h) fun v s1 h1 => thn h1 fun itv s2 h2 => ?_)
 obtain ⟨it, fp, tn, J, H2, e, I2, T, st2, f2, hq⟩ := h2
 subst e
 obtain ⟨W, ⟨m0, w0⟩, turn⟩ := hq s2.heap.objs.size (I2.hok.fresh (Nat.le_refl _))
 exact q174 (RR := fun acc C => compPost (model X.prog X.w) X.A X.xe none (EP X pins σ Q) acc C) (R := fun H6 => Q (.ref s2.heap.objs.size) H6) hc he hct hgt hcl hcn hsc hk hok hfr I2 T st2 f2 w0 turn
  fun C H6 s6 m6 hn I6 F6 q => ⟨m6, hn, fun h' sb => ⟨.ref s2.heap.objs.size, H6, I6.let_go F6 sb, rfl, q⟩⟩
theorem q552 {K : Fg} {a : Addr} {xs : List V} {Tn : V -> Hp -> (V -> Hp -> Prop) -> (Hp -> Prop) -> Prop} {D : Addr} {H1 : Hp} {R : Hp -> Prop} (hn : xs.length <= sizeLine) (Pv : Nat -> List V -> Hp -> Prop) (h0 : Pv 0 [] (upd H1 D (.lst [])))
  (hl : ∀ i ys H, Pv i ys H -> SqL K H a xs) (hD : ∀ i ys H, Pv i ys H -> H D = some (.lst ys) /\ ys.length <= i)
  (hs : ∀ i x ys H, xs[i]? = some x -> Pv i ys H -> Tn x H (fun y H3 => H3 D = some (.lst ys) /\ Pv (i + 1) (ys ++ [y]) (upd H3 D (.lst (ys ++ [y])))) (Pv (i + 1) ys))
  (hd : ∀ ys H, Pv xs.length ys H -> R H) :
  ∃ W : Nat -> Nat -> List V -> Hp -> Prop, (∃ m, W 0 m [] (upd H1 D (.lst []))) /\
   ∀ i m ys H2, W i m ys H2 -> H2 D = some (.lst ys) /\ (((Itl K a).stop i H2 /\ R H2) \/ ((Itl K a).go i H2 /\ ys.length < sizeLine /\ ∃ (N : V -> Hp -> Prop) (Z : Hp -> Prop), (∀ y H3, N y H3 -> H3 D = some (.lst ys) /\ ∃ m', m' < m /\ W (i + 1) m' (ys ++ [y]) (upd H3 D (.lst (ys ++ [y])))) /\ (∀ H3, Z H3 -> ∃ m', m' < m /\ W (i + 1) m' ys H3) /\
    ∀ x H', (Itl K a).yld i H2 x H' -> Tn x H' N Z)) := by
 refine ⟨fun i m ys H => m = xs.length - i /\ i <= xs.length /\ Pv i ys H, ⟨xs.length, by simp, Nat.zero_le _, h0⟩, ?_⟩
 rintro i m ys H2 ⟨rfl, hi, p⟩
 obtain ⟨d1, d2⟩ := hD i ys H2 p
 have q := hl i ys H2 p
 refine ⟨d1, ?_⟩
 by_cases hlt : i < xs.length
 ·refine .inr ⟨⟨xs, xs[i], q, by simp [hlt]⟩, by omega, fun y H3 => H3 D = some (.lst ys) /\ Pv (i + 1) (ys ++ [y]) (upd H3 D (.lst (ys ++ [y]))), Pv (i + 1) ys, fun y H3 ⟨z1, z2⟩ => ⟨z1, xs.length - (i + 1), by omega, rfl, hlt, z2⟩, fun H3 z => ⟨xs.length - (i + 1), by omega, rfl, hlt, z⟩, fun x H' y => ?_⟩
  obtain ⟨e, y⟩ := y
  subst e
  exact hs i x ys _ (y xs q) p
 ·have e : i = xs.length := by omega
  subst e
  exact .inl ⟨⟨xs, q, Nat.le_refl _⟩, hd ys H2 p⟩
section
variable {n : Nat} {lo : Int} {p : Nat -> Bool} {g : Nat -> V} {Tt : V -> Hp -> (Bool -> Hp -> Prop) -> Prop} {Te : V -> Hp -> (V -> Hp -> Prop) -> Prop} {D : Addr} {H1 : Hp} {R : Hp -> Prop}
end
theorem q372 (hc : X.calm = true) : CallR X (.builtin "sum") (fun xs H Q => ∃ (p : Addr) (ns : List Int), xs = [.ref p] /\ SqL X.K H p (ns.map V.int) /\ Q (.int ns.sum) H) := by
 intro pins s σ H xs us Q I r h
 obtain ⟨p, ns, rfl, hq, q⟩ := h
 obtain ⟨u, rfl, rx⟩ := vals1 r
 cases rx
 obtain ⟨its, r', pl, hz⟩ := I.list hq
 have hi := q99 r'
 obtain ⟨ys, hx⟩ := hi.allInts.items
 have hl' : s.heap.IsList p (intItems ys) := hx ▸ pl.isList
 refine sum_intListG (I.ok.hd hc) hl' fun h' tk t' hk => ?_
 have e1 : ns = ys.toList.map (·.1) := by
  rw [<- nums_intItems, <- hx]
  exact (show numsOf its.toArray.toList = ns from hi.numsOf).symm
 have e2 : preSum (numAt ys) ys.size = ns.sum := by
  rw [preSum_eq, List.take_of_length_le (by simp), e1]
 rw [e2]
 exact ⟨.int ns.sum, H, I.kept (t' := tk) hk, ⟨_, rfl⟩, q⟩
theorem q621 {K : Fg} {es : List Expr} {k : Nat} {t : TGs} {n : Nat} {pos : Pos} (hK : X.K = K) (hc : X.calm = true) (h : PGs X es t)
  (hn : (assignEach es X.env).length = n := by rfl) (hst : (assignEach es X.env).findIdx? (·.1) = none := by rfl) : PG X (.Tuple es k pos) (gTup K n t) := by subst hK; exact q206 hc h hn hst
theorem q61 {K : Fg} {a : Addr} {xs : List V} {T : V -> Hp -> (V -> Hp -> Prop) -> Prop} {D : Addr} {H1 : Hp} {R : Hp -> Prop} (hn : xs.length <= sizeLine) (Pv : Nat -> List V -> Hp -> Prop) (h0 : Pv 0 [] (upd H1 D (.lst [])))
  (hl : ∀ i ys H, Pv i ys H -> SqL K H a xs) (hD : ∀ i ys H, Pv i ys H -> H D = some (.lst ys) /\ ys.length = i)
  (hs : ∀ i x ys H, xs[i]? = some x -> Pv i ys H -> T x H fun y H3 => H3 D = some (.lst ys) /\ Pv (i + 1) (ys ++ [y]) (upd H3 D (.lst (ys ++ [y]))))
  (hd : ∀ ys H, Pv xs.length ys H -> R H) :
  ∃ W : Nat -> Nat -> List V -> Hp -> Prop, (∃ m, W 0 m [] (upd H1 D (.lst []))) /\
   ∀ i m ys H2, W i m ys H2 -> H2 D = some (.lst ys) /\ (((Itl K a).stop i H2 /\ R H2) \/ ((Itl K a).go i H2 /\ ys.length < sizeLine /\ ∃ N : V -> Hp -> Prop, (∀ y H3, N y H3 -> H3 D = some (.lst ys) /\ ∃ m', m' < m /\ W (i + 1) m' (ys ++ [y]) (upd H3 D (.lst (ys ++ [y])))) /\
    ∀ x H', (Itl K a).yld i H2 x H' -> T x H' N)) := by
 refine ⟨fun i m ys H => m = xs.length - i /\ i <= xs.length /\ Pv i ys H, ⟨xs.length, by simp, Nat.zero_le _, h0⟩, ?_⟩
 rintro i m ys H2 ⟨rfl, hi, p⟩
 obtain ⟨d1, d2⟩ := hD i ys H2 p
 have q := hl i ys H2 p
 refine ⟨d1, ?_⟩
 by_cases hlt : i < xs.length
 ·refine .inr ⟨⟨xs, xs[i], q, by simp [hlt]⟩, by omega, fun y H3 => H3 D = some (.lst ys) /\ Pv (i + 1) (ys ++ [y]) (upd H3 D (.lst (ys ++ [y]))), fun y H3 ⟨z1, z2⟩ => ⟨z1, xs.length - (i + 1), by omega, rfl, hlt, z2⟩, fun x H' y => ?_⟩
  obtain ⟨e, y⟩ := y
  subst e
  exact hs i x ys _ (y xs q) p
 ·have e : i = xs.length := by omega
  subst e
  exact .inl ⟨⟨xs, q, Nat.le_refl _⟩, hd ys H2 p⟩
end L2
namespace HT
set_option autoImplicit false
open PySem PySem.Spec PyProof.Rows
section
open PySem.SeqAt
open PySem.AutoSeq1 (wpAny_loadPart')
open PySem.MeetsSeq PySem.MeetsSeq2 PySem.MeetsSeq3
theorem q706 (a : Int) (t : Tok) (l : Addr) (items : Array Value) (n : Nat) (dd : Option Addr) (sl : Array (Option Value)) :
  Meets (Builtin.«int.__rmul__» ⟨[.int a t, .ref l], []⟩) (fun _ R s => s.heap.get? l = some { cls := .type "tuple", dict := dd, data := .seq items n, slots := sl } /\ R (.ok (.ret .notImplemented)) s) :=
 .of_wp fun prog w A R s h => by
  obtain ⟨hp, g, d, tk, os⟩ := s; obtain ⟨hl, h⟩ := h
  have f2 := PyProof.Rows.sub_tuple_int
  wp_walk using wpAny_loadPart' hl
  exact ⟨_, rfl, h⟩
theorem q708 (l : Addr) (items : Array Value) (n : Nat) (dd : Option Addr) (sl : Array (Option Value)) (t : Tok) :
  Meets (Builtin.«tuple.__mul__» ⟨[.ref l, .int 1 t], []⟩) (fun _ R s => s.heap.get? l = some { cls := .type "tuple", dict := dd, data := .seq items n, slots := sl } /\ R (.ok (.ret (.ref l))) s) :=
 .of_wp fun prog w A R s h => by
  obtain ⟨hp, g, d, tk, os⟩ := s; obtain ⟨hl, h⟩ := h
  wp_walk using wpAny_loadPart' hl
  exact ⟨_, rfl, h⟩
theorem q707 (l : Addr) (items : Array Value) (n : Nat) (dd : Option Addr) (sl : Array (Option Value)) (k : Int) (t : Tok) (h0 : items.isEmpty = false) (h1 : (k == 1) = false) (k0 : 0 <= k) (k1 : k < 2 ^ 62) (hz : (items.size : Int) * k <= (sizeLine : Nat)) (hz2 : ¬ (List.foldl (fun x1 x2 => x1 ++ x2) #[] (List.replicate k.toNat items)).size > sizeLine) :
  Meets (Builtin.«tuple.__mul__» ⟨[.ref l, .int k t], []⟩) (fun _ R s => s.heap.get? l = some { cls := .type "tuple", dict := dd, data := .seq items n, slots := sl } /\
   R (.ok (.ret (.ref s.heap.objs.size))) { s with heap := s.heap.push { cls := .type "tuple", data := .seq (List.foldl (fun x1 x2 => x1 ++ x2) #[] (List.replicate k.toNat items)) } }) :=
 .of_wp fun prog w A R s h => by
  obtain ⟨hp, g, d, tk, os⟩ := s; obtain ⟨hl, h⟩ := h
  have e1 : (items.isEmpty || k == 1) = false := by rw [h0, h1]; rfl
  have hfit : ¬ (decide (k < -2 ^ 63) || decide (k >= 2 ^ 63)) = true := by
   rw [decide_eq_false (by omega), decide_eq_false (by omega)]; decide
  have hbig : ¬ ((items.size : Int) * k > (2 ^ 63 - 1) / 8) := by
   have : ((sizeLine : Nat) : Int) <= (2 ^ 63 - 1) / 8 := by decide
   omega
  have hlong : ¬ Builtin.Tuple.tupleTooMany ((items.size : Int) * k) = true := by
   unfold Builtin.Tuple.tupleTooMany
   rw [decide_eq_false (by omega)]
   exact fnt
  by_cases hk : k <= 0
  ·have e2 : (decide (k <= 0) || items.isEmpty) = true := by rw [decide_eq_true hk]; rfl
   have e3 : k.toNat = 0 := by omega
   rw [e3] at h
   wp_walk using wpAny_loadPart' hl
   rw [if_neg hfit]
   wp_walk using wpAny_loadPart' hl
   exact ⟨_, rfl, h⟩
  ·have e2 : ¬ (decide (k <= 0) || items.isEmpty) = true := by rw [decide_eq_false hk, h0]; decide
   wp_walk using wpAny_loadPart' hl
   rw [if_neg hfit]
   wp_walk using wpAny_loadPart' hl
   rw [if_neg hbig]
   wp_walk using wpAny_loadPart' hl
   exact ⟨_, rfl, h⟩
end
theorem q585 : fillsNumberSlot (Value.type "tuple") "mul" = pure false := by with_unfolding_all rfl
theorem q711 : seqRepeat? (Value.type "tuple") = pure (some (Value.builtin "tuple.__mul__")) := by with_unfolding_all rfl
section
variable {prog : Program} {w : World} {A : Around} {E : VS} {s : Shared}
end
end HT
namespace L2
open PySem PySem.Spec PyProof.Rows
variable {X : Cx}
theorem op_repT : OpR X (binaryOp .Mult) (fun x y H Q => ∃ (a : Addr) (z : V) (k : Nat), x = .ref a /\ y = .int k /\ H a = some (.tup [z]) /\ k <= 1000 /\ ∀ p H', Same H H' -> SqT X.K H' p (List.replicate k z) -> Q (.ref p) H') := by
 intro pins s σ H x y v u Q I rx ry h
 obtain ⟨a, z, k, rfl, rfl, ha, hk, q⟩ := h
 cases rx
 obtain ⟨t, rfl⟩ := ry
 have hq : SqT X.K H a [z] := SqT.of ha
 obtain ⟨its, r1, p1, _⟩ := I.tuple hq
 have hl1 : its.length = 1 := r1.length.symm
 obtain ⟨⟨cls, dd, data, sl⟩, ho, hc, n, hd⟩ := id p1
 simp only at hc hd
 subst hc hd
 have hT : s.TypeIs (.ref a) "tuple" := ⟨_, ho, rfl⟩
 by_cases h1 : k = 1
 ·subst h1
  refine wpAny_binaryOp_repeat_ref (T := "tuple") (U := "int") (by decide) hT (fun s' => typeIs_int s' _ t) HT.q585 F.fills_int_mul F.slot_int_rmul HT.q711 F.slot_int_index.lookup
   (call_meets F.slot_int_rmul (typeIs_int s _ t) F.entry_int_rmul (F.args_int_rmul_2 _ _) (HT.q706 _ t a its.toArray n dd sl)
    ⟨ho, rfl, hT, call_meets F.slot_tuple_mul hT F.entry_tuple_mul (F.args_tuple_mul_2 _ _) (HT.q708 a its.toArray n dd sl t) ⟨ho, ?_⟩⟩)
  exact ⟨.ref a, H, I, rfl, q _ _ (Same.refl H) hq⟩
 ·have e1 : ((k : Int) == 1) = false := by
   rw [beq_eq_false_iff_ne]
   omega
  have e0 : its.toArray.isEmpty = false := by
   cases its with
   | nil => cases hl1
   | cons _ _ => rfl
  have hnew : List.foldl (fun x1 x2 => x1 ++ x2) #[] (List.replicate k its.toArray) = (List.replicate k its).flatten.toArray := by
   have := q211 its k []
   rw [List.nil_append] at this
   exact this
  have hzl : (sizeLine : Nat) >= 1000 := by decide
  refine wpAny_binaryOp_repeat_ref (T := "tuple") (U := "int") (by decide) hT (fun s' => typeIs_int s' _ t) HT.q585 F.fills_int_mul F.slot_int_rmul HT.q711 F.slot_int_index.lookup
   (call_meets F.slot_int_rmul (typeIs_int s _ t) F.entry_int_rmul (F.args_int_rmul_2 _ _) (HT.q706 _ t a its.toArray n dd sl)
    ⟨ho, rfl, hT, call_meets F.slot_tuple_mul hT F.entry_tuple_mul (F.args_tuple_mul_2 _ _) (HT.q707 a its.toArray n dd sl k t e0 e1 (by omega) (by omega) (by rw [List.size_toArray, hl1]; omega) (by rw [Int.toNat_natCast, hnew, List.size_toArray, q608, hl1]; omega)) ⟨ho, ?_⟩⟩)
  have er : (List.replicate k [z]).flatten = List.replicate k z := by
   induction k with
   | zero => rfl
   | succ m ih => simp [List.replicate_succ]
  rw [Int.toNat_natCast, hnew]
  have hr : Vals (List.replicate k z) (List.replicate k its).flatten := by
   rw [<- er]
   exact r1.rep k
  refine ⟨.ref s.heap.objs.size, _, I.laid (t' := s.toks) (o := .tup (List.replicate k z)) (fun b ob q => Heap.get?_push_of_some _ q) (Nat.le_refl _) ?_, rfl, q _ _ (q16 (I.hok.fresh (Nat.le_refl _)) _) (SqT.of q14)⟩
  exact ⟨by rw [List.length_replicate]; omega, _, hr, IsTup.new _ _⟩
theorem q373 {K : Fg} {a : Addr} {xs : List V} {Tt : V -> Hp -> (Bool -> Hp -> Prop) -> Prop} {Te : V -> Hp -> (V -> Hp -> Prop) -> Prop} {D : Addr} {H1 : Hp} {R : Hp -> Prop} (hn : xs.length <= sizeLine) (Pv : Nat -> List V -> Hp -> Prop) (h0 : Pv 0 [] (upd H1 D (.lst [])))
  (hl : ∀ i ys H, Pv i ys H -> SqL K H a xs) (hD : ∀ i ys H, Pv i ys H -> H D = some (.lst ys) /\ ys.length <= i)
  (hs : ∀ i x ys H, xs[i]? = some x -> Pv i ys H -> Tt x H fun b H3 => if b = true then Te x H3 (fun y H4 => H4 D = some (.lst ys) /\ Pv (i + 1) (ys ++ [y]) (upd H4 D (.lst (ys ++ [y])))) else ∃ m', m' < xs.length - i /\ m' = xs.length - (i + 1) /\ i + 1 <= xs.length /\ Pv (i + 1) ys H3)
  (hd : ∀ ys H, Pv xs.length ys H -> R H) :
  ∃ W : Nat -> Nat -> List V -> Hp -> Prop, (∃ m, W 0 m [] (upd H1 D (.lst []))) /\
   ∀ i m ys H2, W i m ys H2 -> H2 D = some (.lst ys) /\ (((Itl K a).stop i H2 /\ R H2) \/ ((Itl K a).go i H2 /\ ys.length < sizeLine /\ ∃ N : V -> Hp -> Prop, (∀ y H3, N y H3 -> H3 D = some (.lst ys) /\ ∃ m', m' < m /\ W (i + 1) m' (ys ++ [y]) (upd H3 D (.lst (ys ++ [y])))) /\
    ∀ x H', (Itl K a).yld i H2 x H' -> Tt x H' fun b H3 => if b = true then Te x H3 N else ∃ m', m' < m /\ W (i + 1) m' ys H3)) := by
 refine ⟨fun i m ys H => m = xs.length - i /\ i <= xs.length /\ Pv i ys H, ⟨xs.length, by simp, Nat.zero_le _, h0⟩, ?_⟩
 rintro i m ys H2 ⟨rfl, hi, p⟩
 obtain ⟨d1, d2⟩ := hD i ys H2 p
 have q := hl i ys H2 p
 refine ⟨d1, ?_⟩
 by_cases hlt : i < xs.length
 ·refine .inr ⟨⟨xs, xs[i], q, by simp [hlt]⟩, by omega, fun y H3 => H3 D = some (.lst ys) /\ Pv (i + 1) (ys ++ [y]) (upd H3 D (.lst (ys ++ [y]))), fun y H3 ⟨z1, z2⟩ => ⟨z1, xs.length - (i + 1), by omega, rfl, hlt, z2⟩, fun x H' y => ?_⟩
  obtain ⟨e, y⟩ := y
  subst e
  exact hs i x ys _ (y xs q) p
 ·have e : i = xs.length := by omega
  subst e
  exact .inl ⟨⟨xs, q, Nat.le_refl _⟩, hd ys H2 p⟩
def tTupF (t : TA) : TE := fun σ H Q => t σ H fun xs H1 => xs.length <= sizeLine /\ ∀ p H', Same H1 H' -> TupF H' p xs -> Q (.ref p) H'
theorem q622 {x1} (h : PA X es t) : PE X (.Tuple es x1 pos) (tTupF t) := by
 intro pins s σ H Q I hq
 refine wpAny_Tuple_spliced (thn (h pos pins s σ H _ I hq) fun us s1 ⟨xs, H1, I1, r, z, q⟩ => ⟨by rw [<- r.length]; exact z, ?_⟩)
 have hf : H1 s1.heap.objs.size = none := I1.hok.fresh (Nat.le_refl _)
 refine ⟨.ref s1.heap.objs.size, upd H1 s1.heap.objs.size (.frz { cls := .type "tuple", data := .seq us.toArray } (.tup xs)), I1.laid (t' := s1.toks) (fun b u e => Heap.get?_push_of_some _ e) (Nat.le_refl _) ?_, rfl, q _ _ (q16 hf _) ⟨_, q14, rfl, rfl⟩⟩
 exact ⟨Heap.get?_push_size _ rfl, z, us, r, ⟨_, Heap.get?_push_size _ rfl, rfl, _, rfl⟩⟩
theorem q316 : OpR X (binaryOp .Add) (fun x y H Q => ∃ a b xs ys, x = .ref a /\ y = .ref b /\ TupF H a xs /\ TupF H b ys /\ xs.length + ys.length <= sizeLine /\
  ∀ p H', Same H H' -> TupF H' p (xs ++ ys) -> Q (.ref p) H') := by
 intro pins s σ H x y v u Q I rx ry h
 obtain ⟨a, b, xs, ys, rfl, rfl, ha, hb, hz, q1⟩ := h
 cases rx
 cases ry
 obtain ⟨its, r1, p1, _⟩ := I.tuple (ha.sq (K := X.K))
 obtain ⟨its2, r2, p2, _⟩ := I.tuple (hb.sq (K := X.K))
 have hz' : its.length + its2.length <= sizeLine := by rw [<- r1.length, <- r2.length]; exact hz
 obtain ⟨⟨cls, dd, data, sl⟩, ho, hc, n, hd⟩ := id p1
 obtain ⟨⟨cls2, dd2, data2, sl2⟩, ho2, hc2, n2, hd2⟩ := id p2
 simp only at hc hd hc2 hd2
 subst hc hd hc2 hd2
 have e : its.toArray ++ its2.toArray = (its ++ its2).toArray := by simp
 by_cases hv : its = []
 ·have hx : xs = [] := r1.nil_iff.mp hv
  subst hx
  exact concat_meets ⟨_, ho, rfl⟩ ⟨_, ho2, rfl⟩ noFill_tuple_add seq_tuple_add PySem.F.slot_tuple_add PySem.F.entry_tuple_add (PySem.F.args_tuple_add_2 _ _)
   (tuple_addW0 a b its.toArray its2.toArray n n2 dd dd2 sl sl2 (by simp [hv])) ⟨ho, ho2, ⟨.ref b, H, I, rfl, q1 b H (Same.refl H) (by simpa using hb)⟩⟩
 ·by_cases hw : its2 = []
  ·have hy : ys = [] := r2.nil_iff.mp hw
   subst hy
   exact concat_meets ⟨_, ho, rfl⟩ ⟨_, ho2, rfl⟩ noFill_tuple_add seq_tuple_add PySem.F.slot_tuple_add PySem.F.entry_tuple_add (PySem.F.args_tuple_add_2 _ _)
    (tuple_addW1 a b its.toArray its2.toArray n n2 dd dd2 sl sl2 (by simpa using hv) (by simp [hw])) ⟨ho, ho2, ⟨.ref a, H, I, rfl, q1 a H (Same.refl H) (by simpa using ha)⟩⟩
  ·refine concat_meets ⟨_, ho, rfl⟩ ⟨_, ho2, rfl⟩ noFill_tuple_add seq_tuple_add PySem.F.slot_tuple_add PySem.F.entry_tuple_add (PySem.F.args_tuple_add_2 _ _)
    (tuple_addW2 a b its.toArray its2.toArray n n2 dd dd2 sl sl2 (by simpa using hv) (by simpa using hw) (by rw [List.size_toArray, List.size_toArray]; exact hz')) ⟨ho, ho2, ?_⟩
   rw [e]
   refine ⟨.ref s.heap.objs.size, upd H s.heap.objs.size (.frz { cls := .type "tuple", data := .seq (its ++ its2).toArray } (.tup (xs ++ ys))), I.laid (t' := s.toks) (fun b ob q => Heap.get?_push_of_some _ q) (Nat.le_refl _) ?_, rfl, q1 _ _ (q16 (I.hok.fresh (Nat.le_refl _)) _) ⟨_, q14, rfl, rfl⟩⟩
   exact ⟨Heap.get?_push_size _ rfl, by rw [List.length_append]; exact hz, _, r1.append r2, IsTup.new _ _⟩
section
theorem q623 (hu : X.A.units + 64 < cLine) : OpR X (compareOp .Eq) (fun x y H Q => ∃ (a b : Addr) (xs : List V), x = .ref a /\ y = .ref b /\ SqL X.K H a xs /\ SqL X.K H b [] /\ Q (.bl xs.isEmpty) H) := by
 intro pins s σ H x y v u Q I rx ry h
 obtain ⟨a, b, xs, rfl, rfl, ha, hb, q⟩ := h
 cases rx
 cases ry
 cases xs with
 | nil => exact (q315 I ha hb rfl (fun j x y h1 => nomatch h1) (by omega)).1 _ _ _ _ ⟨.bl true, H, I, rfl, q⟩
 | cons x xs =>
  obtain ⟨its, r1, p1, _⟩ := I.list ha
  obtain ⟨its2, r2, p2, _⟩ := I.list hb
  have l1 := r1.length
  have l2 := r2.length
  have hz : (its.toArray.size != its2.toArray.size) = true := by
   rw [List.size_toArray, List.size_toArray, <- l1, <- l2]; rfl
  exact SeqAt.RcAt.lists_lengths p1.isList p2.isList hz (by omega) _ _ _ _ ⟨.bl false, H, I, rfl, q⟩
def tChain3 (r r' r'' : R2) (ta tb tc td : TE) : TE := fun σ H Q => ta σ H fun x H1 => tb σ H1 fun y H2 => r x y H2 fun z H3 => ∃ k, z = .bl k /\
 (if k = true then tc σ H3 fun w' H4 => r' y w' H4 fun z2 H5 => ∃ k2, z2 = .bl k2 /\ (if k2 = true then td σ H5 fun w'' H6 => r'' w' w'' H6 Q else Q (.bl false) H5) else Q (.bl false) H3)
variable {a b c d : Expr} {ta tb tc td : TE} {pos : Pos}
theorem q624 (ho : OpR X (compareOp op) r) (ho' : OpR X (compareOp op') r') (ho'' : OpR X (compareOp op'') r'') (ha : PE X a ta) (hb : PE X b tb) (hc : PE X c tc) (hd : PE X d td)
  (hm : lastMarks [op, op', op''] [b, c, d] = false := by with_unfolding_all rfl) : PT X (.Compare a [op, op', op''] [b, c, d] pos) (tTest (tChain3 r r' r'' ta tb tc td)) := by
 intro pins s σ H Q I h
 refine isTrue_chain (thn (ha pins s σ H _ I h) fun v s1 ⟨x, H1, I1, r1, q1⟩ => test_link (thn (hb pins s1 σ H1 _ I1 q1) fun u s2 ⟨y, H2, I2, r2, q2⟩ =>
  thn (ho pins s2 σ H2 x y v u _ I2 r1 r2 q2) fun d' s3 ⟨z, H3, I3, r3, k, e, q3⟩ => ?_)) hm
 subst e
 cases r3
 refine wpAny_truthy_bool ?_
 cases k with
 | false =>
  obtain ⟨k', e', q'⟩ := q3
  cases e'
  exact ite_ff ⟨H3, I3, q'⟩
 | true =>
  refine ite_tt (test_link (thn (hc pins s3 σ H3 _ I3 q3) fun w' s4 ⟨z', H4, I4, r4, q4⟩ => thn (ho' pins s4 σ H4 y z' u w' _ I4 r2 r4 q4) fun d2 s5 ⟨z2, H5, I5, r5, k2, e2, q5⟩ => ?_))
  subst e2
  cases r5
  refine wpAny_truthy_bool ?_
  cases k2 with
  | false =>
   obtain ⟨k', e', q'⟩ := q5
   cases e'
   exact ite_ff ⟨H5, I5, q'⟩
  | true =>
   refine ite_tt (test_last (thn (hd pins s5 σ H5 _ I5 q5) fun w'' s6 ⟨z'', H6, I6, r6, q6⟩ => thn (ho'' pins s6 σ H6 z' z'' w' w'' _ I6 r4 r6 q6) fun d3 s7 ⟨z3, H7, I7, r7, k3, e3, q7⟩ => ?_))
   subst e3
   cases r7
   exact wpAny_truthy_bool ⟨H7, I7, q7⟩
end
section
variable {K : Fg}
end
end L2
namespace RV
set_option autoImplicit false
open PySem PyProof.Rows
theorem q317 : Manifest.owners.lookup (String.ofList ['d', 'e', 's', 'r', 'e', 'v', 'e', 'r'].reverse) = some Manifest.sig_reversed := by kernel_rfl
theorem q118 : Slot "reversed" "__next__" "reversed.__next__" :=
 .of (owner := "reversed") (n := "__next__") (by rw [typeLookup_type, builtinLookup_eq_fast]; kernel_rfl) (by decide +kernel) (by decide +kernel) (by decide +kernel)
  (by first | exact .inl (by decide +kernel) | exact .inr (by decide +kernel)) (by rw [isSubtype_type]; kernel_rfl)
theorem q284 : entryFor table "reversed.__next__" = some Builtin.«reversed.__next__» := entryFor_of_tree (by kernel_rfl)
theorem q374 (a : Value) : argsOk "reversed.__next__" ⟨[a], []⟩ := by
 unfold argsOk; rw [signature?_of (id := "reversed.__next__") (n := ['_', '_', 't', 'x', 'e', 'n', '_', '_']) (o := ['d', 'e', 's', 'r', 'e', 'v', 'e', 'r']) (by kernel_rfl) q317]; kernel_rfl
theorem q375 : Slot "reversed" "__iter__" "reversed.__iter__" :=
 .of (owner := "reversed") (n := "__iter__") (by rw [typeLookup_type, builtinLookup_eq_fast]; kernel_rfl) (by decide +kernel) (by decide +kernel) (by decide +kernel)
  (by first | exact .inl (by decide +kernel) | exact .inr (by decide +kernel)) (by rw [isSubtype_type]; kernel_rfl)
theorem q442 : typeLookup (.type "tuple") "__reversed__" = pure none := by rw [typeLookup_type, builtinLookup_eq_fast]; kernel_rfl
section
variable {prog : Program} {w : World} {A : Around} {E : VS} {s : Shared}
def rvObj (l : Addr) (i : Int) : Obj := { cls := .type "reversed", data := .fields #[.ref l, rawInt i] }
def IsRv (h : Heap) (a l : Addr) (i : Int) : Prop := ∃ o, h.get? a = some o /\ o.cls = .type "reversed" /\ o.data = .fields #[.ref l, rawInt i]
theorem IsRv.typeIs {a l : Addr} {i : Int} (x : IsRv s.heap a l i) : s.TypeIs (.ref a) "reversed" := let ⟨o, ho, hc, _⟩ := x; ⟨o, ho, hc⟩
theorem code_new {l : Addr} {items : Array Value} {Q₁ : VS} (hl : s.heap.IsTuple l items) (hz : items.size <= 1000)
  (h : ∀ tk, Q₁ (.ref s.heap.objs.size) { s with heap := s.heap.push (rvObj l ((items.size : Int) - 1)), toks := tk }) :
  codeAny (model prog w) A (.call (.builtin "reversed.__new__") ⟨[.type "reversed", .ref l], []⟩) (wants Q₁ E) s := by
 refine codeAny_of_tree ?_
 show wpAny _ A.in1 (do checkBuiltinCall "reversed.__new__" ⟨[.type "reversed", .ref l], []⟩; again (.builtin "reversed.__new__" ⟨[.type "reversed", .ref l], []⟩)) _ _ s
 refine wpAny_bind (wpAny_of_eq (F.newCall_reversed_1 _) (wpAny_pure ⟨plainId_quiet F.plain_reversed_new _, codeAny_builtin F.entry_reversed_new ?_⟩))
 rw [Around.under_plainId F.plain_reversed_new _]
 unfold Builtin.«reversed.__new__»
 refine wpAny_bind (wpAny_of_eq (newClass_reversed _) ?_)
 try dsimp only
 refine wpAny_bind (wpAny_of_eq (a := ()) (by first | rfl | kernel_rfl) ?_)
 refine wpAny_bind (wpAny_of_eq (a := ()) (by first | rfl | kernel_rfl) ?_)
 try dsimp only
 refine wpAny_bind (wpAny_specialOf hl.typeIs q442 ?_)
 try dsimp only
 refine wpAny_bind (wpAny_bind (wpAny_isInstance (T := "tuple") (b := false) hl.typeIs (by rw [isSubtype_type]; kernel_rfl) ?_))
 try dsimp only
 rw [if_neg fnt]
 refine wpAny_bind (wpAny_specialOf hl.typeIs F.slot_tuple_getitem.lookup ?_)
 try dsimp only
 rw [if_pos (show (["tuple.__getitem__", "str.__getitem__", "bytes.__getitem__", "bytearray.__getitem__", "memoryview.__getitem__", "numpy.ndarray.__getitem__", "sqlite3.Row.__getitem__"].contains "tuple.__getitem__") = true by decide +kernel)]
 refine wpAny_pure ?_
 rw [if_neg (by decide)]
 obtain ⟨o, ho, hc, n, hd⟩ := id hl
 refine wpAny_bind (PyProof.Rows.len_tuple ⟨o, ho, hc, n, hd⟩ (by omega) ?_)
 refine wpAny_bind (m := asInt? _) (wpAny_pure ?_)
 try dsimp only
 refine wpAny_bind ?_
 show wpAny _ _ (newObj (.type "reversed") (.fields #[.ref l, rawInt ((items.size : Int) - 1)])) _ _ _
 exact wpAny_newObj_type (wpAny_pure (h _))
theorem q625 {it l : Addr} {i : Nat} {items : Array Value} {x : Value} {Q : Option Value -> Shared -> Prop} (hit : IsRv s.heap it l (i : Int)) (hl : s.heap.IsTuple l items) (hz : items.size <= 1000) (hx : items[i]? = some x)
  (hQ : ∀ h' tk, IsRv h' it l ((i : Int) - 1) -> Heap.SameBut it s.heap h' -> Q (some x) { s with heap := h', toks := tk }) : wpAny (model prog w) A (pyNext (.ref it)) Q E s := by
 obtain ⟨o, ho, hc, hd⟩ := id hit
 unfold pyNext
 refine wpAny_bind (wpAny_attempt (wpAny_callSpecial?_slot (name := Str.ofString "__next__") hit.typeIs q118
  (wpAny_call_entry q118 hit.typeIs q284 ?_ (q374 _))))
 unfold Builtin.«reversed.__next__»
 refine wpAny_bind (wpAny_of_eq (a := (Value.ref it, [])) rfl ?_)
 try dsimp only
 refine wpAny_bind (wpAny_field ho hd (x := .ref l) rfl ?_)
 refine wpAny_bind (wpAny_field ho hd (x := rawInt (i : Int)) rfl ?_)
 show wpAny _ _ (if (i : Int) < 0 then _ else _) _ _ s
 rw [if_neg (by omega)]
 refine wpAny_bind (wpAny_specialOf hl.typeIs F.slot_tuple_getitem.lookup ?_)
 try dsimp only
 rw [if_neg (by decide)]
 obtain ⟨ol, hol, hcl, nl, hdl⟩ := id hl
 refine wpAny_bind (wpAny_mkInt ?_)
 have hi : i < items.size := (Array.getElem?_eq_some_iff.mp hx).1
 refine wpAny_bind (wpAny_attempt (PyProof.Rows.getItem_tuple (j := i) ⟨ol, hol, hcl, nl, hdl⟩ (by omega) (by omega) ?_ hx ?_))
 ·unfold seqIndex?
  simp
  omega
 try dsimp only
 refine wpAny_bind (wpAny_field ho hd (x := rawInt (i : Int)) rfl ?_)
 show wpAny _ _ (setField (Value.ref it) 1 (rawInt ((i : Int) - 1)) >>= _) _ _ _
 refine wpAny_bind (wpAny_setField ho hd (by simp) ?_)
 refine wpAny_pure ⟨x, rfl, wpAny_pure (hQ _ _ ?_ (Heap.SameBut.update ..))⟩
 exact ⟨_, Heap.get?_update_self _ ho (Obj.isFreed_of_fields (Obj.data_mapFields hd _)), (Obj.cls_mapFields ..).trans hc, by
  rw [Obj.data_mapFields hd]; simp⟩
theorem stop_rv {α : Type} (hh : A.handled = none) {Q : α -> Shared -> Prop} {E' : VS} (h : ∀ (h' : Heap) (e : Addr), (∀ b o, s.heap.get? b = some o -> h'.get? b = some o) -> (∃ o, h'.get? e = some o /\ o.cls = .type "StopIteration") -> E' (.ref e) { s with heap := h' }) :
  wpAny (model prog w) A (Builtin.SmallTypes.stopIteration : Sem α) Q E' s := by
 unfold Builtin.SmallTypes.stopIteration
 refine wpAny_bind ?_
 simp only [newExc, newTuple]
 refine wpAny_bind (wpAny_newObj_type ?_ (by size_fits))
 refine wpAny_bind (m := firstArgMember _ _) (wpAny_of_eq (a := Value.none) (by first | rfl | (simp only [firstArgMember]; rfl)) ?_)
 refine wpAny_newObj_type ?_ (by size_fits)
 simp only [raiseNew]
 refine wpAny_bind (wpAny_handled ?_)
 rw [hh]
 exact wpAny_bind (wpAny_pure (wpAny_throw (h _ _ (fun b o e => Heap.get?_push_of_some _ (Heap.get?_push_of_some _ e)) ⟨_, Heap.get?_push_size _ rfl, rfl⟩)))
theorem q626 {it l : Addr} {Q : Option Value -> Shared -> Prop} (hh : A.handled = none) (hit : IsRv s.heap it l (-1)) (hQ : ∀ h', (∀ b o, b ≠ it -> s.heap.get? b = some o -> h'.get? b = some o) -> Q none { s with heap := h' }) : wpAny (model prog w) A (pyNext (.ref it)) Q E s := by
 obtain ⟨o, ho, hc, hd⟩ := id hit
 unfold pyNext
 refine wpAny_bind (wpAny_attempt (wpAny_callSpecial?_slot (name := Str.ofString "__next__") hit.typeIs q118
  (wpAny_call_entry q118 hit.typeIs q284 ?_ (q374 _))))
 unfold Builtin.«reversed.__next__»
 refine wpAny_bind (wpAny_of_eq (a := (Value.ref it, [])) rfl ?_)
 try dsimp only
 refine wpAny_bind (wpAny_field ho hd (x := .ref l) rfl ?_)
 refine wpAny_bind (wpAny_field ho hd (x := rawInt (-1)) rfl ?_)
 show wpAny _ _ (if (-1 : Int) < 0 then _ else _) _ _ s
 rw [if_pos (by decide)]
 refine wpAny_bind (wpAny_rule (wpAny_bind ?_))
 show wpAny _ _ (setField (Value.ref it) 1 (rawInt (-1)) >>= fun _ => setField (Value.ref it) 0 .none) _ _ _
 refine wpAny_bind (wpAny_setField ho hd (by simp) ?_)
 have ho2 := Heap.get?_update_self (Obj.mapFields (·.setIfInBounds 1 (rawInt (-1)))) ho (Obj.isFreed_of_fields (Obj.data_mapFields hd _))
 refine wpAny_setField ho2 (Obj.data_mapFields hd _) (by simp) ?_
 refine wpAny_bind (stop_rv (A := A.in1) (show A.in1.handled = none from hh) fun h' e kp he => ?_)
 obtain ⟨u, hu, hcu⟩ := he
 refine wpAny_bind (wpAny_isInstance (T := "StopIteration") (b := true) ⟨u, hu, hcu⟩ isSubtype_stop (wpAny_pure (hQ h' fun b o hb e => kp b o ?_)))
 exact ((Heap.SameBut.update ..).2 b hb).trans (((Heap.SameBut.update ..).2 b hb).trans e)
theorem q627 {it l : Addr} {i : Int} {Q : VS} (hit : IsRv s.heap it l i) (h : Q (.ref it) s) : wpAny (model prog w) A (pyIter (.ref it)) Q E s := by
 refine wpAny_pyIter_slot hit.typeIs q375 (wpAny_call_entry (b := Builtin.«dict_keyiterator.__iter__») q375 hit.typeIs (entryFor_alias (id' := "dict_keyiterator.__iter__") (by kernel_rfl) rfl (by decide +kernel) (by kernel_rfl)) ?_ ?_)
 ·exact wpAny_pure ⟨_, rfl, "reversed", _, hit.typeIs, q118.lookup, h⟩
 ·unfold argsOk; rw [signature?_of (id := "reversed.__iter__") (n := ['_', '_', 'r', 'e', 't', 'i', '_', '_']) (o := ['d', 'e', 's', 'r', 'e', 'v', 'e', 'r']) (by kernel_rfl) q317]; kernel_rfl
theorem walk_rv (hh : A.handled = none) (I l : Addr) (hne : l ≠ I) (items : Array Value) (hz : items.size <= 1000) :
  Walks prog w A I [I, l] [I] items.size (fun i v => items.toList.reverse[i]? = some v) (fun i h => IsRv h I l ((items.size : Int) - 1 - i) /\ h.IsTuple l items) where
 sub := fun b hb => by simp at hb; simp [hb]
 frame := fun i h h' st hk => by
  obtain ⟨⟨o, ho, r⟩, ⟨u, hu, q⟩⟩ := st
  exact ⟨⟨o, hk I (by simp) _ ho, r⟩, ⟨u, hk l (by simp) _ hu, q⟩⟩
 item := fun i s Q E hi st hQ => by
  have e : ((items.size : Int) - 1 - i) = ((items.size - 1 - i : Nat) : Int) := by omega
  have h1 := st.1
  rw [e] at h1
  have hj : items.size - 1 - i < items.size := by omega
  refine q625 h1 st.2 hz (x := items[items.size - 1 - i]) (Array.getElem?_eq_getElem hj) fun h' tk hit' hs' => ?_
  refine hQ _ h' tk ?_ ⟨?_, ?_⟩ fun b o hb z => (hs'.2 b (fun q => hb (by simp [q]))).trans z
  ·rw [List.getElem?_reverse (by simpa using hi), Array.length_toList, Array.getElem?_toList, Array.getElem?_eq_getElem hj]
  ·have e2 : ((items.size : Int) - 1 - ((i + 1 : Nat) : Int)) = ((items.size - 1 - i : Nat) : Int) - 1 := by omega
   rw [e2]
   exact hit'
  ·obtain ⟨u, hu, q⟩ := st.2
   exact ⟨u, (hs'.2 l hne).trans hu, q⟩
 done := fun s Q E st hQ => by
  have h1 := st.1
  rw [show ((items.size : Int) - 1 - (items.size : Nat)) = -1 by omega] at h1
  exact q626 hh h1 fun h' kp => hQ h' s.toks fun b o hb z => kp b o (fun q => hb (by simp [q])) z
 self := fun i s Q E st hQ => q627 st.1 hQ
theorem q217 : Slot "reversed" "__length_hint__" "reversed.__length_hint__" :=
 .of (owner := "reversed") (n := "__length_hint__") (by rw [typeLookup_type, builtinLookup_eq_fast]; kernel_rfl) (by decide +kernel) (by decide +kernel) (by decide +kernel)
  (by first | exact .inl (by decide +kernel) | exact .inr (by decide +kernel)) (by rw [isSubtype_type]; kernel_rfl)
theorem q553 : entryFor table "reversed.__length_hint__" = some Builtin.«reversed.__length_hint__» := entryFor_of_tree (by kernel_rfl)
theorem no_len : typeLookup (.type "reversed") "__len__" = pure none := by rw [typeLookup_type, builtinLookup_eq_fast]; kernel_rfl
theorem q628 (a : Value) : argsOk "reversed.__length_hint__" ⟨[a], []⟩ := by
 unfold argsOk; rw [signature?_of (id := "reversed.__length_hint__") (n := ['_', '_', 't', 'n', 'i', 'h', '_', 'h', 't', 'g', 'n', 'e', 'l', '_', '_']) (o := ['d', 'e', 's', 'r', 'e', 'v', 'e', 'r']) (by kernel_rfl) q317]; kernel_rfl
theorem q629 {I l : Addr} {items : Array Value} {Q : VS} (hit : IsRv s.heap I l ((items.size : Int) - 1)) (hl : s.heap.IsTuple l items) (hz : items.size <= 1000) (h : ∀ tk t, Q (.int (items.size : Int) t) { s with toks := tk }) :
  wpAny (model prog w) A (call (.builtin "reversed.__length_hint__") [.ref I]) Q E s := by
 obtain ⟨o, ho, hc, hd⟩ := id hit
 refine wpAny_call_entry q217 hit.typeIs q553 ?_ (q628 _)
 unfold Builtin.«reversed.__length_hint__»
 refine wpAny_bind (wpAny_of_eq (a := Value.ref I) rfl ?_)
 refine wpAny_bind (wpAny_field ho hd (x := .ref l) rfl ?_)
 rw [if_neg (show ¬ ((Value.ref l == Value.none) = true) from fnt)]
 refine wpAny_bind (PyProof.Rows.len_tuple hl (by omega) ?_)
 refine wpAny_bind (m := asInt? _) (wpAny_pure ?_)
 try dsimp only
 refine wpAny_bind (wpAny_field (s := { s with toks := _ }) ho hd (x := rawInt ((items.size : Int) - 1)) rfl ?_)
 show wpAny _ _ (if (items.size : Int) < (items.size : Int) - 1 + 1 then _ else retInt ((items.size : Int) - 1 + 1)) _ _ _
 rw [if_neg (by omega), show (items.size : Int) - 1 + 1 = (items.size : Int) by omega]
 exact wpAny_bind (wpAny_mkInt (wpAny_pure ⟨_, rfl, h _ _⟩))
theorem q554 {I l : Addr} {items : Array Value} {Q : List Value -> Shared -> Prop} (hh : A.handled = none) (hit : IsRv s.heap I l ((items.size : Int) - 1)) (hl : s.heap.IsTuple l items) (hne : l ≠ I) (hz : items.size <= 1000)
  (h : ∀ (h' : Heap) (tk : Nat), (∀ b o, b ≠ I -> s.heap.get? b = some o -> h'.get? b = some o) -> s.heap.objs.size <= h'.objs.size -> Q items.toList.reverse { s with heap := h', toks := tk }) : wpAny (model prog w) A (collect (.ref I)) Q E s := by
 obtain ⟨oI, hoI, hcI, hdI⟩ := id hit
 obtain ⟨ol, hol, rl⟩ := id hl
 unfold collect
 refine wpAny_bind (wpAny_runValue (codeAny_builtin PySem.F.entry_proto_collect ?_))
 rw [Around.under_plainId PySem.F.plain_proto_collect _]
 show wpAny _ A.in1 (newList [] >>= fun l => again (.builtin "list.__iadd__" ⟨[l, .ref I], []⟩)) _ _ s
 refine wpAny_bind (wpAny_newObj_type (wpAny_pure ⟨plainId_quiet PySem.F.plain_list_iadd _, codeAny_builtin PySem.F.entry_list_iadd ?_⟩))
 rw [Around.under_plainId PySem.F.plain_list_iadd _]
 generalize e0 : s.heap.push { cls := .type "list", data := .seq ([] : List Value).toArray } = h0
 have g0 : h0.get? s.heap.objs.size = some { cls := .type "list", data := .seq ([] : List Value).toArray } := by rw [<- e0]; exact Heap.get?_push_size _ rfl
 have k0 : ∀ b o, s.heap.get? b = some o -> h0.get? b = some o := fun b o z => by rw [<- e0]; exact Heap.get?_push_of_some _ z
 have hit0 : IsRv h0 I l ((items.size : Int) - 1) := ⟨oI, k0 _ _ hoI, hcI, hdI⟩
 have hl0 : h0.IsTuple l items := ⟨ol, k0 _ _ hol, rl⟩
 have hIl : I < s.heap.objs.size := Heap.lt_size hoI
 have hll : l < s.heap.objs.size := Heap.lt_size hol
 have h1 : Builtin.List.listSameRef (.ref s.heap.objs.size) (.ref I) = false := by simp [Builtin.List.listSameRef, Nat.ne_of_gt hIl]
 have hT : Shared.TypeIs { s with heap := h0 } (.ref I) "reversed" := ⟨oI, k0 _ _ hoI, hcI⟩
 show wpAny _ A.in1 (Builtin.List.listExtendWith (.ref s.heap.objs.size) (.ref I) (.ref s.heap.objs.size)) _ _ _
 unfold Builtin.List.listExtendWith
 refine wpAny_bind (wpAny_typeOf hT ?_)
 rw [if_neg (by rw [h1]; decide)]
 refine wpAny_bind (q627 (s := { s with heap := h0 }) hit0 ?_)
 have W := walk_rv (prog := prog) (w := w) (A := A.in1) (show A.in1.handled = none from hh) I l hne items hz
 have hn : items.size <= sizeLine := by rw [sizeLine_eq]; omega
 have hSf : s.heap.objs.size ∉ [I, l] := fun z => by
  rcases List.mem_cons.mp z with q | q
  ·exact absurd q (Nat.ne_of_gt hIl)
  ·exact absurd (List.mem_singleton.mp q) (Nat.ne_of_gt hll)
 have hend : ∀ (h2 : Heap) (c2 tk2 : Nat), (∀ b o, b ≠ s.heap.objs.size -> h0.get? b = some o -> h2.get? b = some o) -> h2.get? s.heap.objs.size = some { cls := .type "list", data := .seq #[] c2 } -> codeAny (model prog w) A (.builtin "list.extend.loop" ⟨[.ref s.heap.objs.size, .ref I, .ref s.heap.objs.size], []⟩) (fun r s' => match r with
   | .ok (.ret (.ref a)) => a = s.heap.objs.size /\ ∃ acc c, s'.heap.get? s.heap.objs.size = some { cls := .type "list", dict := none, data := .seq acc c, slots := #[] } /\ Q acc.toList s'
   | _ => False) { s with heap := h2, toks := tk2 } := by
  intro h2 c2 tk2 k2 g2
  have st : IsRv h2 I l ((items.size : Int) - 1 - (0 : Nat)) /\ h2.IsTuple l items := by
   rw [show (items.size : Int) - 1 - (0 : Nat) = (items.size : Int) - 1 by omega]
   exact ⟨⟨oI, k2 _ _ (Nat.ne_of_lt hIl) (k0 _ _ hoI), hcI, hdI⟩, ⟨ol, k2 _ _ (Nat.ne_of_lt hll) (k0 _ _ hol), rl⟩⟩
  refine codeAny_extend_loopS W.toS hn _ hSf _ items.size 0 _ #[] _ rfl (Nat.zero_le _) st g2 (ItemsOf.nil _) fun s' acc c hm hS' hacc => ?_
  refine ⟨rfl, acc, c, hS', ?_⟩
  have ea : acc.toList = items.toList.reverse := by
   apply List.ext_getElem?
   intro j
   rcases Nat.lt_or_ge j acc.size with z | z
   ·rw [hacc.2 j _ (Array.getElem?_eq_getElem z), Array.getElem?_toList, Array.getElem?_eq_getElem z]
   ·rw [List.getElem?_eq_none (by simpa using z), List.getElem?_eq_none (by rw [List.length_reverse, Array.length_toList, <- hacc.1]; exact z)]
  obtain ⟨h', g', d', tk', os'⟩ := s'
  have eg : g' = s.gens := hm.gens
  have ed : d' = s.drawn := hm.drawn
  have eo : os' = s.os := hm.os
  subst eg; subst ed; subst eo
  rw [ea]
  refine h h' tk' (fun b u hb z => hm.heap b u (fun q => ?_) (k2 b u (Nat.ne_of_lt (Heap.lt_size z)) (k0 b u z))) (Nat.le_of_lt (Heap.lt_size hS'))
  rcases List.mem_cons.mp q with q | q
  ·exact absurd q (Nat.ne_of_lt (Heap.lt_size z))
  ·exact hb (List.mem_singleton.mp q)
 refine wpAny_bind (wpAny_holding ?_)
 unfold Builtin.List.listLengthHint
 refine wpAny_bind (wpAny_specialOf hT no_len ?_)
 show wpAny _ A.in1 (specialOf (Value.ref I) (Str.ofString "__length_hint__") >>= _) _ _ _
 refine wpAny_bind (wpAny_specialOf hT q217.lookup ?_)
 generalize hid : ("reversed.__length_hint__" : String) = id0
 wp_delta
 rw [show splitId id0 = some ("reversed", "__length_hint__") from by subst hid; decide +kernel]
 subst hid
 refine wpAny_bind (wpAny_isInstance (T := "reversed") (b := true) hT (by rw [isSubtype_type]; kernel_rfl) ?_)
 refine wpAny_ite_split (fun z => absurd z (by decide)) (fun _ => ?_)
 refine wpAny_ite_split (fun z => absurd z (by decide +kernel)) (fun _ => ?_)
 refine wpAny_bind (wpAny_rule ?_)
 refine wpAny_bind (wpAny_of_eq (q217.bind (.ref I)) ?_)
 refine wpAny_bind (wpAny_attempt (q629 (s := { s with heap := h0 }) hit0 hl0 hz fun tk t => ?_))
 generalize hn' : (items.size : Int) = n
 show wpAny _ _ (asInt? (.int n t) >>= _) _ _ _
 refine wpAny_bind (wpAny_of_eq (a := some n) rfl ?_)
 show wpAny _ _ (if (!Builtin.List.listFitsIndex n) = true then _ else if n < 0 then _ else if Builtin.List.listTooLong n.toNat = true then _ else pure (n != 0)) _ _ _
 rw [if_neg (by rw [fitsIndex_both (by omega) (by omega)]; decide), if_neg (by omega), if_neg (by simp [Builtin.List.listTooLong, sizeLine_eq]; omega)]
 refine wpAny_pure ?_
 have fin : ∀ (r : Result) (s' : Shared), (match r with
   | .ok (.ret (.ref a)) => a = s.heap.objs.size /\ ∃ acc c, s'.heap.get? s.heap.objs.size = some { cls := .type "list", dict := none, data := .seq acc c, slots := #[] } /\ Q acc.toList s'
   | _ => False) -> wants (fun v s' => wpAny (model prog w) A (match v with | .ref a => (do match (<- load a).data with | .seq xs _ => pure xs.toList | _ => unsupported "internal:collect") | _ => unsupported "internal:collect") Q E s') E r s' := fun r s' hr => by
  match r, hr with
  | .ok (.ret (.ref a)), hr =>
   obtain ⟨rfl, acc, c, e1, e2⟩ := hr
   exact wpAny_bind (wpAny_load e1 (wpAny_pure e2))
 refine wpAny_ite_split (fun _ => ?_) (fun _ => wpAny_pure ⟨plainId_quiet PySem.F.plain_extend_loop _, codeAny_mono (hend h0 0 tk (fun b o _ z => z) g0) fin⟩)
 refine wpAny_bind (wpAny_rule (wpAny_bind ?_))
 show wpAny _ _ (updateSeq s.heap.objs.size (·.push .none) >>= fun _ => updateSeq s.heap.objs.size (·.pop)) _ _ _
 refine wpAny_bind (wpAny_updateSeq g0 rfl ?_)
 have g2 := Heap.get?_update_self (Obj.mapSeq (·.push Value.none)) g0 rfl
 refine wpAny_updateSeq (hz := by seq_fits) g2 rfl ?_
 have g3 := Heap.get?_update_self (Obj.mapSeq (·.pop)) g2 rfl
 exact wpAny_pure ⟨plainId_quiet PySem.F.plain_extend_loop _, codeAny_mono (hend _ _ tk (fun b o hb z => (Heap.get?_update_other _ _ (Ne.symm hb)).trans ((Heap.get?_update_other _ _ (Ne.symm hb)).trans z)) g3) fin⟩
theorem q630 : Slot "reversed" "__init__" "object.__init__" :=
 .of (owner := "object") (n := "__init__") (by rw [typeLookup_type, builtinLookup_eq_fast]; kernel_rfl) (by decide +kernel) (by decide +kernel) (by decide +kernel)
  (by first | exact .inl (by decide +kernel) | exact .inr (by decide +kernel)) (by rw [isSubtype_type]; kernel_rfl)
theorem q218 : TypeCalled "reversed" "reversed.__new__" "object.__init__" := ⟨by decide +kernel, by decide +kernel, ⟨_, _, F.mro_reversed⟩, F.made_reversed, by decide +kernel, F.sub_reversed_self, q630⟩
theorem call_rv {l : Addr} {items : Array Value} {Q : VS} (hl : s.heap.IsTuple l items) (hz : items.size <= 1000)
  (h : ∀ tk, Q (.ref s.heap.objs.size) { s with heap := s.heap.push (rvObj l ((items.size : Int) - 1)), toks := tk }) : wpAny (model prog w) A (call (.type "reversed") [.ref l]) Q E s := by
 refine callType_codes (Q₁ := fun obj s₁ => s₁.TypeIs obj "reversed" /\ Q obj s₁) q218 (F.typeCall_reversed_1 _) F.entry_object_init (code_new hl hz fun tk => ⟨⟨_, Heap.get?_push_size _ rfl, rfl⟩, h tk⟩) fun obj s₁ h₁ => ?_
 exact ⟨h₁.1, F.args_object_init_2 obj _, object_init_meets q218.init.lookup q218.made (by decide) prog w A.in1 _ s₁ ⟨h₁.1, rfl, h₁.2⟩⟩
theorem q709 {I l : Addr} {items : Array Value} {Q : VS} (hh : A.handled = none) (hit : IsRv s.heap I l ((items.size : Int) - 1)) (hl : s.heap.IsTuple l items) (hne : l ≠ I) (hz : items.size <= 1000)
  (h : ∀ (h' : Heap) (tk : Nat), (∀ b o, b ≠ I -> s.heap.get? b = some o -> h'.get? b = some o) -> s.heap.objs.size <= h'.objs.size -> Q (.ref h'.objs.size) { s with heap := h'.push { cls := .type "tuple", data := .seq items.toList.reverse.toArray }, toks := tk }) : wpAny (model prog w) A (call (.type "tuple") [.ref I]) Q E s := by
 refine callType_codes (Q₁ := fun obj s₁ => s₁.TypeIs obj "tuple" /\ Q obj s₁) F.called_tuple (F.typeCall_tuple_1 _) F.entry_object_init ?_ fun obj s₁ h₁ =>
  ⟨h₁.1, F.args_object_init_2 obj _, object_init_meets F.called_tuple.init.lookup F.called_tuple.made (by decide) prog w A.in1 _ s₁ ⟨h₁.1, rfl, h₁.2⟩⟩
 refine codeAny_of_tree ?_; show wpAny _ A.in1.in1 (do checkBuiltinCall "tuple.__new__" ⟨[.type "tuple", .ref I], []⟩; again (.builtin "tuple.__new__" ⟨[.type "tuple", .ref I], []⟩)) _ _ s
 refine wpAny_bind (wpAny_of_eq (F.newCall_tuple_1 _) (wpAny_pure ⟨plainId_quiet F.plain_tuple_new _, codeAny_builtin F.entry_tuple_new ?_⟩))
 rw [Around.under_plainId F.plain_tuple_new _]
 have c1 := sub_tuple_self
 have c2 := init_tuple_lookup
 have c3 := madeHere_tuple
 have hTI := hit.typeIs (s := s)
 wp_walk using wpAny_typeOf hTI, q554 (A := A.in1.in1) (show A.in1.in1.handled = none from hh) hit hl hne hz
 intro h' tk k1 k2
 show wpAny _ _ (Builtin.Tuple.tupleExact items.toList.reverse.toArray >>= fun v => ret v) _ _ _
 unfold Builtin.Tuple.tupleExact
 exact wpAny_bind (wpAny_newObj_type (wpAny_pure ⟨⟨_, Heap.get?_push_size _ rfl, rfl⟩, h h' tk k1 k2⟩) (by show items.toList.reverse.toArray.size <= sizeLine; simp; rw [sizeLine_eq]; omega))
end
end RV
namespace L2
open PySem PySem.Spec PyProof.Rows
variable {X : Cx}
theorem q443 : bootBuiltins "reversed" = some (.type "reversed") := by decide +kernel
theorem q631 : bootBuiltins "tuple" = some (.type "tuple") := by decide +kernel
def tTR (K : Fg) (ta : TA) : TE := fun σ H Q => ta σ H fun vs H1 => ∃ (a : Addr) (xs : List V), vs = [.ref a] /\ SqT K H1 a xs /\ xs.length <= 1000 /\ ∀ l H', Same H1 H' -> TupF H' l xs.reverse -> Q (.ref l) H'
theorem vals_rev {xs : List V} {us : List Value} (h : Vals xs us) : Vals xs.reverse us.reverse := by
 induction h with
 | nil => exact .nil
 | cons r rr ih =>
  rw [List.reverse_cons, List.reverse_cons]
  exact Vals.append ih (.cons r .nil)
theorem q632 {a : Expr} {ta : TA} {p p' pos pos' : Pos} {K : Fg} (hc : X.calm = true) (hK : X.K = K) (hgl : Gl X "tuple") (hml : X.mg "tuple" = none) (hgr : Gl X "reversed") (hmr : X.mg "reversed" = none) (ha : PA X [a] ta)
  (hs : starEach [a] X.env = [(false, eval a X.env)] := by rfl) (he : starEach [.Call (.Name "reversed" p') [a] [] pos'] X.env = [(false, eval (.Call (.Name "reversed" p') [a] [] pos') X.env)] := by rfl) :
  PE X (.Call (.Name "tuple" p) [.Call (.Name "reversed" p') [a] [] pos'] [] pos) (tTR K ta) := by
 subst hK
 intro pins s σ H Q I h
 refine wpAny_Call_Name_kw (q150 I hgl hml q631 ?_ (by decide) (by decide))
 refine PyProof.Rows.callWith_type1 ?_ he rfl
 rw [he]
 refine Calls.spliced_cons ?_
 refine Call_ (q150 I hgr hmr q443 (PyProof.Rows.callWith_type1 (thn (ha pos' pins s σ H _ I h) fun us s1 ⟨vs, H1, I1, r1, q1⟩ => ?_) hs rfl))
 obtain ⟨l, xs, e, hq, hz, q⟩ := q1
 subst e
 cases r1 with
 | cons r rr =>
  cases rr
  cases r
  obtain ⟨its, rv, ht, hzz⟩ := I1.tuple hq
  have hl : its.length = xs.length := rv.length.symm
  have hl2 : its.toArray.size <= 1000 := by rw [List.size_toArray, hl]; exact hz
  have hlt : l < s1.heap.objs.size := by
   obtain ⟨o, ho, _⟩ := id ht
   exact Heap.lt_size ho
  refine RV.call_rv ht hl2 fun tk => (Calls.spliced_nil ?_)
  have g0 : (s1.heap.push (RV.rvObj l ((its.toArray.size : Int) - 1))).get? s1.heap.objs.size = some (RV.rvObj l ((its.toArray.size : Int) - 1)) := Heap.get?_push_size _ rfl
  have n0 : (s1.heap.push (RV.rvObj l ((its.toArray.size : Int) - 1))).objs.size = s1.heap.objs.size + 1 := Heap.size_push ..
  have k0 : ∀ b o, s1.heap.get? b = some o -> (s1.heap.push (RV.rvObj l ((its.toArray.size : Int) - 1))).get? b = some o := fun b o z => Heap.get?_push_of_some _ z
  generalize s1.heap.push (RV.rvObj l ((its.toArray.size : Int) - 1)) = h0 at *
  have ht0 : h0.IsTuple l its.toArray := by
   obtain ⟨o, ho, z⟩ := id ht
   exact ⟨o, k0 _ _ ho, z⟩
  refine RV.q709 (s := { s1 with heap := h0, toks := tk }) (I1.ok.hd hc) ⟨_, g0, rfl, rfl⟩ ht0 (Nat.ne_of_lt hlt) hl2 fun h' tk' kp hsz => ?_
  have kk : ∀ b o, s1.heap.get? b = some o -> h'.get? b = some o := fun b o z => kp b o (Nat.ne_of_lt (Heap.lt_size z)) (k0 b o z)
  have hle : s1.heap.objs.size <= h'.objs.size := by
   have : h0.objs.size <= h'.objs.size := hsz
   omega
  have I2 : Inv X pins σ (upd H1 h'.objs.size (.frz { cls := .type "tuple", data := .seq its.reverse.toArray } (.tup xs.reverse))) { s1 with heap := h'.push { cls := .type "tuple", data := .seq its.reverse.toArray }, toks := tk' } :=
   I1.laid (t' := tk') (fun b o e => Heap.get?_push_of_some _ (kk b o e)) hle (show ObjOk X.prog X.w _ _ _ (.frz _ (.tup xs.reverse)) from ⟨Heap.get?_push_size _ rfl, by rw [List.length_reverse]; exact hzz, its.reverse, vals_rev rv, IsTup.new _ _⟩)
  exact ⟨.ref h'.objs.size, _, I2, rfl, q _ _ (q16 (I1.hok.fresh hle) _) ⟨_, q14, rfl, rfl⟩⟩
section
variable {st : Stmt} {t : TS}
def tJoin (t : TS) : TS := fun D σ H => ∃ R : St -> Hp -> Prop, t { D with nx := R } σ H /\ ∀ σ' H', R σ' H' -> D.nx σ' H'
theorem q318 (h : PS X st t) : PS X st (tJoin t) := by
 intro pins s σ H D I ⟨R, h1, h2⟩
 refine thn (h pins s σ H { D with nx := R } I h1) fun f s1 q => ?_
 cases f with
 | next =>
  obtain ⟨σ', H', I', q⟩ := q
  exact ⟨σ', H', I', h2 _ _ q⟩
 | ret v => exact q
 | brk => exact q
 | cont => exact q
end
end L2
namespace L2
open PySem
variable {X : Cx}
theorem q633 : MtR X "str.startswith" (fun x xs H Q => ∃ a b, x = .str a /\ xs = [.str b] /\ Q (.bl (Txt.startswith a b)) H) := by
 intro pins s σ H x xs v us Q I rx rv h
 obtain ⟨a, b, rfl, rfl, q⟩ := h
 obtain ⟨t, rfl⟩ := rx
 obtain ⟨u, rfl, ru⟩ := rv.one
 obtain ⟨t2, rfl⟩ := ru
 exact SC.startswith ⟨.bl _, H, I, rfl, q⟩
theorem q634 : CallR X (.type "int") (fun xs H Q => ∃ x n, xs = [.str x] /\ x.length <= 640 /\ PySem.intText? x = some n /\ Q (.int n) H) := by
 intro pins s σ H xs us Q I r h
 obtain ⟨x, n, rfl, hl, hn, q⟩ := h
 obtain ⟨u, rfl, t, rfl⟩ := vals1 r
 exact PySem.W.KIN.call_text hn hl ⟨.int n, H, I.tok _, ⟨_, rfl⟩, q⟩
theorem sl_str : SlR X (fun x lo hi H Q => ∃ a, x = .str a /\ a.length <= sizeLine /\ Q (.str (Txt.slice a lo hi)) H) := by
 intro pins s σ H x v vl vu lo hi sl Q I rx hs pl pu h
 obtain ⟨a, rfl, hz, q⟩ := h
 obtain ⟨t, rfl⟩ := rx
 refine ⟨"str", _, F.slot_str_getitem.lookup, typeIs_str _ _ _, ?_⟩
 have fin : ∀ t' k, EP X pins σ Q (.str (Txt.slice a lo hi) t') { s with toks := k } := fun t' k => ⟨.str _, H, I.tok k, ⟨_, rfl⟩, q⟩
 cases pl with
 | none =>
  cases pu with
  | none => exact wpAny_getItem_str_slice (l := none) (u := none) (st := none) hs rfl (post_val_or_str ⟨Nat.le_trans (Txt.slice_le a _ _) hz, fin⟩)
  | int j uj => exact wpAny_getItem_str_slice (l := none) (u := some (j, uj)) (st := none) hs rfl (post_val_or_str ⟨Nat.le_trans (Txt.slice_le a _ _) hz, fin⟩)
 | int i ui =>
  cases pu with
  | none => exact wpAny_getItem_str_slice (l := some (i, ui)) (u := none) (st := none) hs rfl (post_val_or_str ⟨Nat.le_trans (Txt.slice_le a _ _) hz, fin⟩)
  | int j uj => exact wpAny_getItem_str_slice (l := some (i, ui)) (u := some (j, uj)) (st := none) hs rfl (post_val_or_str ⟨Nat.le_trans (Txt.slice_le a _ _) hz, fin⟩)
theorem q635 : ∀ {ts : List Str} {its : List Value}, Vals (ts.map V.str) its -> ∃ l : List (Str × Tok), strValues l = its /\ l.map (·.1) = ts
 | [], _, .nil => ⟨[], rfl, rfl⟩
 | x :: ts, _, .cons r rr => by
  obtain ⟨t, rfl⟩ := r
  obtain ⟨l, h1, h2⟩ := q635 rr
  exact ⟨(x, t) :: l, by rw [<- h1]; rfl, by rw [List.map_cons, h2]⟩
theorem q145 : MtR X "str.join" (fun x xs H Q => ∃ a D ts, x = .str a /\ xs = [.ref D] /\ SqL X.K H D (ts.map V.str) /\ JoinOk a ts = true /\ Q (.str (Txt.join a ts)) H) := by
 intro pins s σ H x xs v us Q I rx rv h
 obtain ⟨a, D, ts, rfl, rfl, hD, hok, q⟩ := h
 obtain ⟨t, rfl⟩ := rx
 obtain ⟨u, rfl, ru⟩ := rv.one
 cases ru
 obtain ⟨its, r, p, hz⟩ := I.list hD
 obtain ⟨l, h1, h2⟩ := q635 r
 exact SC.join (l := l) (by rw [h1]; exact p.isList) h2 hok fun t' k => ⟨.str _, H, I.tok k, ⟨_, rfl⟩, q⟩
theorem q376 : ∀ (l : List (Str × Tok)), Vals ((l.map (·.1)).map V.str) (strValues l)
 | [] => .nil
 | p :: l => .cons ⟨p.2, rfl⟩ (q376 l)
open Builtin Builtin.Str in
theorem q198 : MtR X "str.split" (fun x xs H Q => ∃ a b, x = .str a /\ xs = [.str b] /\ (b.length == 0) = false /\ a.length <= sizeLine /\ (partsBetween a (occurrences a b 0 a.length (a.length + 1)) b.length).length <= sizeLine /\ (Txt.split a b).length <= sizeLine /\
  ∀ l, H l = none -> Q (.ref l) (upd H l (.lst ((Txt.split a b).map V.str)))) := by
 intro pins s σ H x xs v us Q I rx rv h
 obtain ⟨a, b, rfl, rfl, nb, za, zp, zs, q⟩ := h
 obtain ⟨ta, rfl⟩ := rx
 obtain ⟨u, rfl, ru⟩ := rv.one
 obtain ⟨tb, rfl⟩ := ru
 have fin : ∀ (l : List (Str × Tok)) (k : Nat), l.map (·.1) = Txt.split a b -> EP X pins σ Q (.ref s.heap.objs.size) { s with heap := s.heap.push { cls := .type "list", data := .seq (strValues l).toArray }, toks := k } := fun l k e => by
  refine ⟨.ref s.heap.objs.size, _, I.laid (t' := k) (a := s.heap.objs.size) (o := .lst ((Txt.split a b).map V.str)) (fun b ob z => Heap.get?_push_of_some _ z) (Nat.le_refl _) ?_, rfl, q _ (I.hok.fresh (Nat.le_refl _))⟩
  refine ⟨by rw [List.length_map]; exact zs, strValues l, 0, ?_, Heap.get?_push_size _ rfl⟩
  rw [<- e]
  exact q376 l
 have met : ∀ {m}, Meets _ m -> _ -> wpAny (model X.prog X.w) X.A (call (.builtin "str.split") [.str a ta, .str b tb]) (EP X pins σ Q) X.xe s := fun hm hp => call_meets F.slot_str_split (typeIs_str _ _ _) F.entry_str_split (F.args_str_split_2 _ _) hm hp
 by_cases c1 : (decide (a.length < b.length) || decide (strKind a < strKind b)) = true
 ·exact met (meets_str_split_cannot_occur a b ta tb c1) (fin [(a, ta)] s.toks (if_pos c1).symm)
 by_cases c2 : (occurrences a b 0 a.length (a.length + 1)).isEmpty = true
 ·exact met (meets_str_split_not_found a b ta tb (eq_false_of_ne_true c1) nb c2) (fin [(a, ta)] s.toks ((if_neg c1).trans (if_pos c2)).symm)
 refine met (meets_str_split_sep a b ta tb (eq_false_of_ne_true c1) nb (eq_false_of_ne_true c2) za zp) ?_
 have z := fin (numbered s.toks (partsBetween a (occurrences a b 0 a.length (a.length + 1)) b.length)) (s.toks + (partsBetween a (occurrences a b 0 a.length (a.length + 1)) b.length).length) ((numbered_texts _ _).trans ((if_neg c1).trans (if_neg c2)).symm)
 rw [<- strsFrom_eq] at z
 exact z
def Its (x : Str) : It := ⟨fun i _ => i < x.cps.size, fun i H v H' => H' = H /\ ∃ c, x.cps[i]? = some c /\ v = .str ⟨#[c]⟩, fun i _ => x.cps.size <= i⟩
theorem q555 (x : Str) (t : Tok) (it : Addr) : Turn P w K tg (Its x) [it] it (fun i h => h.IsStrIter it "str_ascii_iterator" x t i) where
 mem := by simp
 obj := fun i h st b hb => by
  have e : b = it := by simpa using hb
  subst e
  obtain ⟨o, e, c, d⟩ := st
  exact ⟨o, e, fun v z => by rw [d] at z; cases z⟩
 keep := fun i h h' st k => by
  obtain ⟨o, e, c, d⟩ := st
  exact ⟨o, k it (by simp) o e, c, d⟩
 item := by
  intro X hP hw hK hc i pins s σ H E I hf st hg
  subst hP hw hK
  obtain ⟨f0, f1, f2, f3, f4, f5⟩ := hf it (by simp)
  have hx : x.cps[i]? = some (x.cps[i]'hg) := Array.getElem?_eq_getElem hg
  refine wpAny_pyNext_ascii_item st hx fun h' st' sb => ?_
  have I1 : Inv X pins σ H { s with heap := h', toks := s.toks + 1 } := I.turned (t' := s.toks + 1) (fun b o hb e => (sb.2 b hb).trans e) f0 f1 f3 f4 f5
  obtain ⟨o, e, c, d⟩ := id st'
  exact ⟨_, rfl, go_of (s := { s with heap := h', toks := s.toks + 1 }) e c d (by decide) ⟨.str ⟨#[x.cps[i]'hg]⟩, H, I1, ⟨_, rfl⟩, ⟨rfl, _, hx, rfl⟩, st', fun b hb => (hf b hb).1⟩⟩
 done := by
  intro X hP hw hK hc i pins s σ H E I hf st hg
  subst hP hw hK
  obtain ⟨f0, f1, f2, f3, f4, f5⟩ := hf it (by simp)
  have hg' : x.cps.size <= i := hg
  exact wpAny_pyNext_ascii_end (I.ok.hd hc) st (by simp [hg']) fun h' eb => ⟨rfl, I.turned (t' := s.toks) (fun b o hb e => eb b o hb e) f0 f1 f3 f4 f5⟩
 self := fun _ _ _ _ _ st h => wpAny_pyIter_striter_ascii st h
theorem q636 (x : Str) (t : Tok) (it : Addr) : Turn P w K tg (Its x) [it] it (fun i h => h.IsStrIter it "str_iterator" x t i) where
 mem := by simp
 obj := fun i h st b hb => by
  have e : b = it := by simpa using hb
  subst e
  obtain ⟨o, e, c, d⟩ := st
  exact ⟨o, e, fun v z => by rw [d] at z; cases z⟩
 keep := fun i h h' st k => by
  obtain ⟨o, e, c, d⟩ := st
  exact ⟨o, k it (by simp) o e, c, d⟩
 item := by
  intro X hP hw hK hc i pins s σ H E I hf st hg
  subst hP hw hK
  obtain ⟨f0, f1, f2, f3, f4, f5⟩ := hf it (by simp)
  have hx : x.cps[i]? = some (x.cps[i]'hg) := Array.getElem?_eq_getElem hg
  refine wpAny_pyNext_wide_item st hx fun h' st' sb => ?_
  have I1 : Inv X pins σ H { s with heap := h', toks := s.toks + 1 } := I.turned (t' := s.toks + 1) (fun b o hb e => (sb.2 b hb).trans e) f0 f1 f3 f4 f5
  obtain ⟨o, e, c, d⟩ := id st'
  exact ⟨_, rfl, go_of (s := { s with heap := h', toks := s.toks + 1 }) e c d (by decide) ⟨.str ⟨#[x.cps[i]'hg]⟩, H, I1, ⟨_, rfl⟩, ⟨rfl, _, hx, rfl⟩, st', fun b hb => (hf b hb).1⟩⟩
 done := by
  intro X hP hw hK hc i pins s σ H E I hf st hg
  subst hP hw hK
  obtain ⟨f0, f1, f2, f3, f4, f5⟩ := hf it (by simp)
  have hg' : x.cps.size <= i := hg
  exact wpAny_pyNext_wide_end (I.ok.hd hc) st (by simp [hg']) fun h' eb => ⟨rfl, I.turned (t' := s.toks) (fun b o hb e => eb b o hb e) f0 f1 f3 f4 f5⟩
 self := fun _ _ _ _ _ st h => wpAny_pyIter_striter_wide st h
section
variable {tg : Expr}
def iStr (tl : TE) : TI := fun σ H R => tl σ H fun v H1 => ∃ x, v = .str x /\ R (Its x) H1
theorem pi_str (hl : PE X l tl) : PI X tg l (iStr tl) := by
 intro pins s σ H R I h
 refine thn (hl pins s σ H _ I h) fun v s1 ⟨v0, H1, I1, r1, q1⟩ => ?_
 obtain ⟨x, e, q⟩ := q1
 subst e
 obtain ⟨t, rfl⟩ := r1
 have hb : ∀ b ∈ [s1.heap.objs.size], FpOk X pins H1 b := fun b hb => by
  have e : b = s1.heap.objs.size := by simpa using hb
  subst e
  exact I1.fpOk (Nat.le_refl _) (I1.hok.fresh (Nat.le_refl _))
 cases ha : x.cps.all (· < 128)
 ·refine wpAny_pyIter_wide ha ?_
  exact ⟨s1.heap.objs.size, [s1.heap.objs.size], _, _, H1, rfl, I1.kept (t' := s1.toks) fun b o e => Heap.get?_push_of_some _ e, q636 x t _, ⟨_, Heap.get?_push_size _ rfl, rfl, rfl⟩, hb, q⟩
 ·refine wpAny_pyIter_ascii ha ?_
  exact ⟨s1.heap.objs.size, [s1.heap.objs.size], _, _, H1, rfl, I1.kept (t' := s1.toks) fun b o e => Heap.get?_push_of_some _ e, q555 x t _, ⟨_, Heap.get?_push_size _ rfl, rfl, rfl⟩, hb, q⟩
end
theorem q500 {x : Str} {g : Nat -> V} {Te : V -> Hp -> (V -> Hp -> Prop) -> Prop} {D : Addr} {H1 : Hp} {R : Hp -> Prop}
  (hD : H1 D = none) (hn : x.length <= sizeLine) (hE : ∀ c ∈ x.cps.toList, ∀ (H : Hp) (Q : V -> Hp -> Prop), Same H1 H -> Q (g c) H -> Te (.str ⟨#[c]⟩) H Q) (hR : R (upd H1 D (.lst (x.cps.toList.map g)))) :
  ∃ W : Nat -> Nat -> List V -> Hp -> Prop, (∃ m, W 0 m [] (upd H1 D (.lst []))) /\
   ∀ i m ys H2, W i m ys H2 -> H2 D = some (.lst ys) /\ (((Its x).stop i H2 /\ R H2) \/ ((Its x).go i H2 /\ ys.length < sizeLine /\ ∃ N : V -> Hp -> Prop, (∀ y H3, N y H3 -> H3 D = some (.lst ys) /\ ∃ m', m' < m /\ W (i + 1) m' (ys ++ [y]) (upd H3 D (.lst (ys ++ [y])))) /\
    ∀ v H', (Its x).yld i H2 v H' -> Te v H' N)) := by
 have hl : x.cps.toList.length = x.cps.size := by simp
 have hl2 : x.length = x.cps.size := rfl
 refine ⟨fun i m ys H => m = x.cps.size - i /\ i <= x.cps.size /\ ys = (x.cps.toList.take i).map g /\ H = upd H1 D (.lst ys), ⟨x.cps.size, by simp, Nat.zero_le _, by simp, rfl⟩, ?_⟩
 rintro i m ys H2 ⟨rfl, hi, hy, rfl⟩
 refine ⟨q14, ?_⟩
 by_cases c : i < x.cps.size
 ·right
  refine ⟨c, ?_, fun y H3 => y = g x.cps[i] /\ H3 = upd H1 D (.lst ys), ?_, ?_⟩
  ·rw [hy, List.length_map, List.length_take]
   omega
  ·rintro y H3 ⟨rfl, rfl⟩
   refine ⟨q14, _, ?_, rfl, c, ?_, q114⟩
   ·omega
   ·rw [hy, List.take_add_one, List.map_append]
    congr 1
    rw [Array.getElem?_toList]
    simp [c]
  ·rintro v H' ⟨rfl, d, hd, rfl⟩
   have e : d = x.cps[i] := by
    rw [Array.getElem?_eq_getElem c] at hd
    exact (Option.some.inj hd).symm
   subst e
   exact hE _ (by simp) _ _ (q16 hD _) ⟨rfl, rfl⟩
 ·left
  refine ⟨Nat.le_of_not_lt c, ?_⟩
  have e : i = x.cps.size := by omega
  rw [hy, e, <- hl, List.take_length]
  exact hR
set_option maxRecDepth 8000 in
open Builtin AutoSeq1 in
structure DefA (K : Fg) (mg : Mg) (al x : Str) (st : Stmt) (ps : List Str) : Prop where
 ex : ∃ (f : Addr) (fd : FuncData), Fun K x x st f fd /\ (∀ us : List Value, us.length = ps.length -> bindArgs fd ⟨us, []⟩ = pure (ps.zip us)) /\ mg al = some (.ref f)
theorem q716 {K : Fg} {h : Heap} {mg : Mg} {al x : Str} {st : Stmt} {ps : List Str} {f : Addr} {oc : Value} {od an : Option Addr} {osl : Array (Option Value)} {kV doc pm cdv ct : Value}
  (KX : K.In h) (G : h.Ns mainGlobals mg) (a : PySem.W.nsIn K mainGlobals al = some (some (.ref f)))
  (l : K.lookup f = some ⟨oc, od, .func (PySem.W.fnOf x x (q144 st) (q103 st) (q17 st) .none kV doc pm an cdv ct), osl⟩)
  (c : PySem.W.codeIn K cdv x = true) (k : PySem.W.keepIn K (.ref f) = true)
  (b : ∀ (kV doc pm : Value) (an : Option Addr) (cdv ct : Value) (us : List Value), us.length = ps.length -> bindArgs (PySem.W.fnOf x x (q144 st) (q103 st) (q17 st) .none kV doc pm an cdv ct) ⟨us, []⟩ = pure (ps.zip us)) :
  DefA K mg al x st ps := ⟨f, _, q710 l c k, b kV doc pm an cdv ct, PySem.W.mg_of KX G a⟩
structure MDef (K : Fg) (C : Addr) (m qual : Str) (st : Stmt) (ps : List Str) : Prop where
 ex : ∃ (f : Addr) (fd : FuncData), Meth K C m f /\ Fun K m qual st f fd /\ ∀ us : List Value, us.length = ps.length -> bindArgs fd ⟨us, []⟩ = pure (ps.zip us)
structure MCal (P : Program) (w : World) (K : Fg) (mg : Mg) (base : Heap) (k : Nat) (C : Addr) (m : Str) (ps : List Str) (sp : Sp) : Prop where
 cl : Cls K C
 ex : ∃ (f : Addr) (fd : FuncData), Meth K C m f /\ FnOk P w K mg base CX0 k f fd ps sp /\ Binds K fd ps []
structure IDef (K : Fg) (C : Addr) (qual : Str) (st : Stmt) (ps : List Str) : Prop where
 ex : ∃ (f : Addr) (fd : FuncData), Mk K C f /\ Fun K "__init__" qual st f fd /\ ∀ us : List Value, us.length = ps.length -> bindArgs fd ⟨us, []⟩ = pure (ps.zip us)
structure ICal (P : Program) (w : World) (K : Fg) (mg : Mg) (base : Heap) (k : Nat) (C : Addr) (ps : List Str) (sp : Sp) : Prop where
 ex : ∃ (f : Addr) (fd : FuncData), Mk K C f /\ FnOk P w K mg base CX0 k f fd ps sp /\ Binds K fd ps []
section
variable {P : Program} {w : World} {K : Fg} {mg : Mg} {base : Heap} {k : Nat} {C : Addr} {al x m qual : Str} {st : Stmt} {ps : List Str} {sp : Sp}
theorem DefA.cal (d : DefA K mg al x st ps) (F : ∀ (f : Addr) (fd : FuncData), Fun K x x st f fd -> FnOk P w K mg base CX0 k f fd ps sp) : Cal P w K mg base k al ps sp := by
 obtain ⟨f, fd, h1, h2, h3⟩ := d.ex
 exact ⟨f, fd, F f fd h1, .all h2, h1.kp, h3⟩
theorem DefA.recur {sp : Nat -> Sp} (d : DefA K mg al x st ps) {k : Nat} (n : Nat)
  (step : ∀ e, e <= n -> Cal P w K mg base (e + k) al ps (prevSp sp e) -> ∀ (f : Addr) (fd : FuncData), Fun K x x st f fd -> FnOk P w K mg base CX0 (e + (k + 1)) f fd ps (sp e)) :
  Cal P w K mg base (n + (k + 1)) al ps (fun vs H Q E => ∃ e, e <= n /\ sp e vs H Q E) := by
 obtain ⟨f, fd, h1, h2, h3⟩ := d.ex
 have all : ∀ e, e <= n -> FnOk P w K mg base CX0 (e + (k + 1)) f fd ps (sp e) := by
  intro e
  induction e with
  | zero => exact fun he => step 0 he ⟨f, fd, ⟨fun _ _ _ _ h => h.elim, fun _ _ _ _ _ _ _ _ _ _ _ _ _ h => h.elim⟩, .all h2, h1.kp, h3⟩ f fd h1
  | succ e ih => exact fun he => step (e + 1) he ⟨f, fd, (ih (by omega)).mono (by omega), .all h2, h1.kp, h3⟩ f fd h1
 refine ⟨f, fd, ⟨?_, ?_⟩, .all h2, h1.kp, h3⟩
 ·rintro vs H Q E ⟨e, he, h⟩
  exact (all e he).len vs H Q E h
 ·rintro A outer s H args us vs Q E hr he hb hv ⟨e, hle, h⟩
  exact (all e hle).run A outer s H args us vs Q E (hr.mono (by omega)) he hb hv h
theorem MDef.cal (d : MDef K C m qual st ps) (c : Cls K C) (F : ∀ (f : Addr) (fd : FuncData), Fun K m qual st f fd -> FnOk P w K mg base CX0 k f fd ps sp) : MCal P w K mg base k C m ps sp := by
 obtain ⟨f, fd, h1, h2, h3⟩ := d.ex
 exact ⟨c, f, fd, h1, F f fd h2, .all h3⟩
theorem IDef.cal (d : IDef K C qual st ps) (F : ∀ (f : Addr) (fd : FuncData), Fun K "__init__" qual st f fd -> FnOk P w K mg base CX0 k f fd ps sp) : ICal P w K mg base k C ps sp := by
 obtain ⟨f, fd, h1, h2, h3⟩ := d.ex
 exact ⟨f, fd, h1, F f fd h2, .all h3⟩
end
section
variable {k : Nat} {C : Addr} {m x : Str} {ps : List Str} {sp : Sp} {p apos pos : Pos} {o e : Expr} {es : List Expr} {to : TE} {t : TA}
theorem q39 {pl : Sem Bool} (c : MCal X.prog X.w X.K X.mg X.base k C m ps sp) (hr : Room k X.A) (ho : PE X o to) (ha : PA X (e :: es) t)
  (hst : starEach (e :: es) X.env = (false, eval e X.env) :: starEach es X.env := by rfl) (hpl : (backTo pos (starEach es X.env)).any (·.1) = false := by rfl)
  (ht : eval (.Call (.Attribute o m apos) (e :: es) [] pos) X.env = (do
   let ov <- eval o X.env
   standAt apos.atName
   let (f, first) <- holding [ov] (getMethod ov m pl)
   callWith pos f first (backTo pos (starEach (e :: es) X.env)) (backToKw pos (keywordEach [] X.env))) := by rfl) :
  PE X (.Call (.Attribute o m apos) (e :: es) [] pos) (tMeth C m sp [] E0 to t) := by
 obtain ⟨f, fd, hm, F, B⟩ := c.ex
 exact pe_meth ho c.cl hm F hr B .nil pass0 ha hst hpl ht
theorem pe_mk (c : ICal X.prog X.w X.K X.mg X.base k C ps sp) (hr : Room (k + 1) X.A) (hg : Gl X x) (hm : X.mg x = some (.ref C)) (ha : PA X (e :: es) t) (hdb : (x == ("__debug__" : Str)) = false := by decide)
  (he : starEach (e :: es) X.env = (false, eval e X.env) :: starEach es X.env := by rfl) (hpl : (backTo pos (starEach es X.env)).any (·.1) = false := by rfl) :
  PE X (.Call (.Name x p) (e :: es) [] pos) (tMake C sp [] E0 t) := by
 obtain ⟨f, fd, M, F, B⟩ := c.ex
 exact pe_make M F hr hg hm B .nil pass0 ha hdb he hpl
end
end L2
namespace L2
open PySem PySem.Spec PyProof.Rows PyProof.Rows.KTD
variable {X : Cx}
section
variable {prog : Program} {w : World} {A : Around} {E : VS} {s : Shared} {h₀ : Heap} {a : Addr} {δ : Type} {R : δ -> Value -> Prop} {D : List (Str × δ)} {k : Str} {tk : Tok}
theorem q219 (T : TabOf R h₀ a D) (hk : ∀ b o, h₀.get? b = some o -> s.heap.get? b = some o) (h1 : ∀ d v, datumAt k D = some d -> R d v -> Q (some v) { s with toks := s.toks + 1 })
  (h2 : datumAt k D = none -> Q none { s with toks := s.toks + 1 }) : wpAny (model prog w) A (dictGet a (.str k tk)) Q E s := by
 obtain ⟨hm, o, es, ep, ho, hc, hd, hr⟩ := T
 have ho := hk a o ho
 unfold dictGet
 refine wpAny_holding (wpAny_bind (wpAny_pyHash_str (wpAny_bind (kt_dictFind_strs ho hd ?_ ?_))))
 ·obtain ⟨l⟩ := es
  simpa using hr.exact
 ·have hq : Q (findBy (fun k v => Value.isStr v k) es k) { s with toks := s.toks + 1 } := by
   have hf : findBy (fun k v => Value.isStr v k) es k = Option.map (fun x => DictEntry.val x) (List.find? (fun e => Value.isStr (DictEntry.key e) k) es.toList) := by
    obtain ⟨l⟩ := es
    simp [findBy]
   rw [hf]
   cases hat : datumAt k D with
   | none => rw [hr.find_none hat]; exact h2 hat
   | some d =>
    obtain ⟨v, hv, hfl⟩ := hr.find_some hat
    rw [hv]
    exact h1 d v hat hfl
  rw [findBy_of_findIdx? (fun k v => Value.isStr v k) es k] at hq
  cases hi : Array.findIdx? (fun e => Value.isStr (DictEntry.key e) k) es with
  | none =>
   rw [hi] at hq
   exact wpAny_pure hq
  | some i =>
   rw [hi] at hq
   exact wpAny_bind (wpAny_dictEntries ho hd (wpAny_pure hq))
theorem q319 (T : TabOf R h₀ a D) (hk : ∀ b o, h₀.get? b = some o -> s.heap.get? b = some o) : s.TypeIs (.ref a) "dict" := by
 obtain ⟨hm, o, es, ep, ho, hc, hd, hr⟩ := T
 exact ⟨o, hk a o ho, hc.1⟩
theorem q637 (T : TabOf R h₀ a D) (hk : ∀ b o, h₀.get? b = some o -> s.heap.get? b = some o) (h : Q (.bool !inKeys k D) { s with toks := s.toks + 1 }) : wpAny (model prog w) A (compareOp .NotIn (.str k tk) (.ref a)) Q E s := by
 have ty := q319 T hk
 refine id (wpAny_bind (id (wpAny_holding (wpAny_bind (wpAny_specialOf ty (Slot.lookup slot_dict_contains) (id ?_))))))
 rw [if_neg (by rw [beq_builtin_none "dict.__contains__"]; exact fnt)]
 refine wpAny_bind (wpAny_callSpecialUnlessNone?_slot ty slot_dict_contains (wpAny_call_entry slot_dict_contains ty entry_dict_contains ?body (args_dict_contains (.ref a) (.str k tk))))
 show wpAny (model prog w) _ (bind (dictGet a (.str k tk)) _) _ _ _
 refine wpAny_bind (q219 T hk (fun d v ha x => ?_) fun hn => ?_)
 ·have hb : inKeys k D = true := by rw [<- isSome_datumAt, ha]; rfl
  rw [hb] at h
  exact id (wpAny_pure ⟨.bool true, rfl, wpAny_truthy_bool (wpAny_pure h)⟩)
 ·have hb : inKeys k D = false := by rw [<- isSome_datumAt, hn]; rfl
  rw [hb] at h
  exact id (wpAny_bind (wpAny_pendingKey_other T.1 (wpAny_pure ⟨.bool false, rfl, wpAny_truthy_bool (wpAny_pure h)⟩)))
theorem q444 (T : TabOf R h₀ a D) (hk : ∀ b o, h₀.get? b = some o -> s.heap.get? b = some o) (hd : datumAt k D = some d) (h : ∀ v, R d v -> Q v { s with toks := s.toks + 1 }) :
  wpAny (model prog w) A (getItem (.ref a) (.str k tk)) Q E s := by
 have ty := q319 T hk
 refine id (wpAny_holding (wpAny_bind (wpAny_sequenceKey ty (of_decide_eq_true (id (Eq.refl true))) (wpAny_bind (wpAny_callSpecial?_slot ty slot_dict_getitem (wpAny_call_entry slot_dict_getitem ty entry_dict_getitem ?body (args_dict_getitem (.ref a) (.str k tk))))))))
 show wpAny (model prog w) _ (bind (dictGet a (.str k tk)) _) _ _ _
 refine wpAny_bind (q219 T hk (fun d' v ha hv => ?_) fun hn => ?_)
 ·rw [hd] at ha
  obtain rfl := Option.some.inj ha
  exact wpAny_pure ⟨v, rfl, wpAny_pure (h v hv)⟩
 ·rw [hd] at hn
  cases hn
end
def TabK (K : Fg) (a : Addr) (D : List (Str × Addr)) : Prop := tabLook (fun (d : Addr) (v : Value) => v == .ref d) (fun b => List.lookup b K) a D = true
theorem TabK.at {s : Shared} (I : Inv X pins σ H s) (t : TabK X.K a D) : TabOf (fun (d : Addr) (v : Value) => v = .ref d) s.heap a D :=
 tab_of_look (L := fun (d : Addr) (v : Value) => v == .ref d) (fun d v h => by simpa using h) (fun b o h => I.kIn b o h) t
theorem q638 : OpR X (compareOp .NotIn) (fun x y H Q => ∃ (k : Str) (a : Addr) (D : List (Str × Addr)), x = .str k /\ y = .ref a /\ TabK X.K a D /\ Q (.bl (!inKeys k D)) H) := by
 intro pins s σ H x y v u Q I rx ry h
 obtain ⟨k, a, D, rfl, rfl, t, q⟩ := h
 obtain ⟨tk, rfl⟩ := rx
 cases ry
 exact q637 (t.at I) (fun _ _ z => z) ⟨.bl (!inKeys k D), H, I.tok _, rfl, q⟩
theorem ix_tabT : IxR X (fun x y H Q => ∃ (a : Addr) (k : Str) (D : List (Str × Addr)) (d : Addr), x = .ref a /\ y = .str k /\ TabK X.K a D /\ datumAt k D = some d /\ Q (.ref d) H) := by
 intro value slice pins s σ H x y v u Q I rx ry h hs
 obtain ⟨a, k, D, d, rfl, rfl, t, hd, q⟩ := h
 cases rx
 obtain ⟨tk, rfl⟩ := ry
 exact tail_any (q319 (t.at I) (fun _ _ z => z)) slot_dict_getitem.lookup (q444 (t.at I) (fun _ _ z => z) hd fun v hv => by
  rw [hv]
  exact ⟨.ref d, H, I.tok _, rfl, q⟩) hs
theorem pt_never : PT X e (fun _ _ _ => False) := fun _ _ _ _ _ _ h => h.elim
theorem ps_tryN (hx : X.xe = fun _ _ => False) (hb : PSs X body u) : PS X (.Try body (h0 :: hs) [] [] pos) u := by
 intro pins s σ H D I h
 refine wpAny_Try_except (wpAny_mono (hb pins s σ H D I h) (fun f s1 q => ?_) fun _ _ z => ?_)
 ·cases f with
  | next => exact wpAny_execs_nil q
  | ret v => exact q
  | brk => exact q
  | cont => exact q
 ·rw [hx] at z
  exact z.elim
section
variable {prog : Program} {w : World} {A : Around} {E : VS} {s : Shared}
theorem q639 {k1 k2 : Nat} (D : ZipApart z m n i1 i2 l1 l2) (e0 : IsZip s.heap z m n .none) (em : IsPair s.heap m (.ref i1) (.ref i2)) (en : IsPair s.heap n a b)
  (e1 : s.heap.IsTupleIter i1 l1 k1) (e2 : s.heap.IsListIter i2 l2 k2) (t1 : s.heap.IsTuple l1 us) (t2 : s.heap.IsList l2 ys) (hx : us[k1]? = some x) (hy : ys[k2]? = some y)
  (k : ∀ h', IsZip h' z m n (rawInt s.heap.objs.size) -> IsPair h' n x y -> h'.IsTupleIter i1 l1 (k1 + 1) -> h'.IsListIter i2 l2 (k2 + 1) -> IsPair h' s.heap.objs.size x y -> (∀ c o, c ≠ z -> c ≠ n -> c ≠ i1 -> c ≠ i2 -> s.heap.get? c = some o -> h'.get? c = some o) -> Q (some (.ref s.heap.objs.size)) { s with heap := h' }) :
  wpAny (model prog w) A (pyNext (.ref z)) Q E s := by
 have ty : s.TypeIs (.ref z) "zip" := ⟨_, e0, rfl⟩
 unfold pyNext
 refine wpAny_bind (wpAny_attempt (wpAny_callSpecial?_slot (name := Str.ofString "__next__") ty F.slot_zip_next (wpAny_call_entry F.slot_zip_next ty F.entry_zip_next ?_ (F.args_zip_next_1 _))))
 obtain ⟨h0, g, d, tk, os⟩ := s
 show wpAny _ _ (field (.ref z) 2 >>= _) _ _ ⟨h0, g, d, tk, os⟩
 refine wpAny_bind (wpAny_field e0 rfl (x := .bool false) rfl ?_)
 show wpAny _ _ (field (.ref z) 3 >>= _) _ _ ⟨h0, g, d, tk, os⟩
 refine wpAny_bind (wpAny_field e0 rfl (x := .ref m) rfl (wpAny_bind (wpAny_seqItems em rfl ?_)))
 show wpAny _ _ (Builtin.SmallTypes.ownedTupleIsFree (.ref z) >>= _) _ _ ⟨h0, g, d, tk, os⟩
 refine wpAny_bind ?_
 unfold Builtin.SmallTypes.ownedTupleIsFree
 refine wpAny_bind (wpAny_field e0 rfl (x := .none) rfl (wpAny_pure ?_))
 simp only [if_true]
 refine wpAny_bind (wpAny_rule (wpAny_bind (wpAny_field e0 rfl (x := .ref n) rfl (wpAny_bind (wpAny_setField_rec e0 (by simp) fun h1 z1 s1 => ?_)))))
 replace s1 : Heap.SameBut z h0 h1 := s1
 replace z1 : IsZip h1 z m n .ellipsis := z1
 refine wpAny_bind ?_
 simp only [List.zipIdx_cons, List.zipIdx_nil, List.forIn_cons, List.forIn_nil]
 refine wpAny_bind (wpAny_bind (wpAny_onRaise ?_))
 show wpAny _ _ (Builtin.SmallTypes.nextOf (.ref i1) >>= _) _ _ ⟨h1, g, d, tk, os⟩
 have f1 : h1.IsTupleIter i1 l1 k1 := by obtain ⟨o, q, r⟩ := e1; exact ⟨o, s1.extBut _ _ D.i1z q, r⟩
 have f2 : h1.IsTuple l1 us := by obtain ⟨o, q, r⟩ := t1; exact ⟨o, s1.extBut _ _ D.l1z q, r⟩
 refine wpAny_bind (q282 f1 f2 hx fun h2 n2 s2 => wpAny_pure ?_)
 replace s2 : Heap.SameBut i1 h1 h2 := s2
 have en2 : IsPair h2 n a b := s2.extBut _ _ D.TOi1 (s1.extBut _ _ D.TOz en)
 refine wpAny_bind (wpAny_seqItems en2 rfl (wpAny_bind (wpAny_updateSeq_pair en2 fun h3 en3 s3 => wpAny_bind (wpAny_letGo (wpAny_pure ?_)))))
 replace s3 : Heap.SameBut n h2 h3 := s3
 replace en3 : IsPair h3 n x b := en3
 refine wpAny_bind (wpAny_bind (wpAny_onRaise ?_))
 show wpAny _ _ (Builtin.SmallTypes.nextOf (.ref i2) >>= _) _ _ ⟨h3, g, d, tk, os⟩
 have up : ∀ c o, c ≠ z -> c ≠ i1 -> c ≠ n -> h0.get? c = some o -> h3.get? c = some o := fun c o m1 m2 m3 q => s3.extBut _ _ m3 (s2.extBut _ _ m2 (s1.extBut _ _ m1 q))
 have g1 : h3.IsListIter i2 l2 k2 := by obtain ⟨o, q, r⟩ := e2; exact ⟨o, up _ _ D.i2z D.i12.symm D.TOi2.symm q, r⟩
 have g2 : h3.IsList l2 ys := by obtain ⟨o, q, r⟩ := t2; exact ⟨o, up _ _ D.l2z D.l2i1 D.l2TO q, r⟩
 refine wpAny_bind (wpAny_nextOf_list_item g1 g2 hy fun h4 n4 s4 => wpAny_pure ?_)
 replace s4 : Heap.SameBut i2 h3 h4 := s4
 have en4 : IsPair h4 n x b := s4.extBut _ _ D.TOi2 en3
 refine wpAny_bind (wpAny_seqItems en4 rfl (wpAny_bind (wpAny_updateSeq_pair en4 fun h5 en5 s5 => wpAny_bind (wpAny_letGo (wpAny_pure (wpAny_pure ?_))))))
 replace s5 : Heap.SameBut n h4 h5 := s5
 replace en5 : IsPair h5 n x y := en5
 refine wpAny_bind (wpAny_seqItems en5 rfl (wpAny_bind (wpAny_newTuple ?_)))
 have sz : h5.objs.size = h0.objs.size := by rw [s5.1, s4.1, s3.1, s2.1, s1.1]
 have up5 : ∀ c o, c ≠ z -> c ≠ n -> c ≠ i1 -> c ≠ i2 -> h0.get? c = some o -> h5.get? c = some o := fun c o m1 m2 m3 m4 q => s5.extBut _ _ m2 (s4.extBut _ _ m4 (up c o m1 m3 m2 q))
 have z5 : IsZip h5 z m n .ellipsis := s5.extBut _ _ D.TOz.symm (s4.extBut _ _ D.i2z.symm (s3.extBut _ _ D.TOz.symm (s2.extBut _ _ D.i1z.symm z1)))
 have zl : z < h5.objs.size := Heap.lt_size z5
 show wpAny _ _ (Builtin.SmallTypes.ownedTupleHandOut (.ref z) (.ref h5.objs.size) >>= _) _ _ ⟨h5.push { cls := .type "tuple", data := .seq #[x, y] }, g, d, tk, os⟩
 refine wpAny_bind ?_
 unfold Builtin.SmallTypes.ownedTupleHandOut
 refine wpAny_bind (wpAny_setField_rec (Heap.get?_push_of_some _ z5) (by simp) fun h7 z7 s7 => ?_)
 replace z7 : IsZip h7 z m n (rawInt h5.objs.size) := z7
 refine wpAny_setField_rec z7 (by simp) fun h8 z8 s8 => wpAny_pure ⟨_, rfl, wpAny_pure ?_⟩
 replace z8 : IsZip h8 z m n (rawInt h5.objs.size) := z8
 have up8 : ∀ c o, c ≠ z -> h5.get? c = some o -> h8.get? c = some o := fun c o m1 q => s8.extBut _ _ m1 (s7.extBut _ _ m1 (Heap.get?_push_of_some _ q))
 have t8 : IsPair h8 h5.objs.size x y := s8.extBut _ _ (Nat.ne_of_gt zl) (s7.extBut _ _ (Nat.ne_of_gt zl) (Heap.get?_push_size _ rfl))
 rw [sz] at z8 t8
 show Q (some (.ref h5.objs.size)) _
 rw [sz]
 refine k h8 z8 (up8 _ _ D.TOz en5) ?_ ?_ t8 fun c o m1 m2 m3 m4 q => up8 c o m1 (up5 c o m1 m2 m3 m4 q)
 ·obtain ⟨o, q, r⟩ := n2
  exact ⟨o, up8 _ _ D.i1z (s5.extBut _ _ D.TOi1.symm (s4.extBut _ _ D.i12 (s3.extBut _ _ D.TOi1.symm q))), r⟩
 ·obtain ⟨o, q, r⟩ := n4
  exact ⟨o, up8 _ _ D.i2z (s5.extBut _ _ D.TOi2.symm q), r⟩
theorem zipT_end {k1 : Nat} (hh : A.handled = none) (D : ZipApart z m n i1 i2 l1 l2) (e0 : IsZip s.heap z m n .none) (em : IsPair s.heap m (.ref i1) (.ref i2))
  (e1 : s.heap.IsTupleIter i1 l1 k1) (t1 : s.heap.IsTuple l1 us) (hx : us[k1]? = none)
  (k : ∀ h', (∀ c o, c ≠ z -> c ≠ i1 -> s.heap.get? c = some o -> h'.get? c = some o) -> Q none { s with heap := h' }) : wpAny (model prog w) A (pyNext (.ref z)) Q E s := by
 have ty : s.TypeIs (.ref z) "zip" := ⟨_, e0, rfl⟩
 unfold pyNext
 refine wpAny_bind (wpAny_attempt (wpAny_callSpecial?_slot (name := Str.ofString "__next__") ty F.slot_zip_next (wpAny_call_entry F.slot_zip_next ty F.entry_zip_next ?_ (F.args_zip_next_1 _))))
 obtain ⟨h0, g, d, tk, os⟩ := s
 show wpAny _ _ (field (.ref z) 2 >>= _) _ _ ⟨h0, g, d, tk, os⟩
 refine wpAny_bind (wpAny_field e0 rfl (x := .bool false) rfl ?_)
 show wpAny _ _ (field (.ref z) 3 >>= _) _ _ ⟨h0, g, d, tk, os⟩
 refine wpAny_bind (wpAny_field e0 rfl (x := .ref m) rfl (wpAny_bind (wpAny_seqItems em rfl ?_)))
 show wpAny _ _ (Builtin.SmallTypes.ownedTupleIsFree (.ref z) >>= _) _ _ ⟨h0, g, d, tk, os⟩
 refine wpAny_bind ?_
 unfold Builtin.SmallTypes.ownedTupleIsFree
 refine wpAny_bind (wpAny_field e0 rfl (x := .none) rfl (wpAny_pure ?_))
 simp only [if_true]
 refine wpAny_bind (wpAny_rule (wpAny_bind (wpAny_field e0 rfl (x := .ref n) rfl (wpAny_bind (wpAny_setField_rec e0 (by simp) fun h1 z1 s1 => ?_)))))
 replace s1 : Heap.SameBut z h0 h1 := s1
 replace z1 : IsZip h1 z m n .ellipsis := z1
 refine wpAny_bind ?_
 simp only [List.zipIdx_cons, List.zipIdx_nil, List.forIn_cons, List.forIn_nil]
 refine wpAny_bind (wpAny_bind (wpAny_onRaise ?_))
 show wpAny _ _ (Builtin.SmallTypes.nextOf (.ref i1) >>= _) _ _ ⟨h1, g, d, tk, os⟩
 have f1 : h1.IsTupleIter i1 l1 k1 := by obtain ⟨o, q, r⟩ := e1; exact ⟨o, s1.extBut _ _ D.i1z q, r⟩
 have f2 : h1.IsTuple l1 us := by obtain ⟨o, q, r⟩ := t1; exact ⟨o, s1.extBut _ _ D.l1z q, r⟩
 refine wpAny_bind (q371 hh f1 f2 hx fun h2 e s2 he => ?_)
 obtain ⟨oe, q1, q2⟩ := he
 have z2 : IsZip h2 z m n .ellipsis := s2 _ _ D.i1z.symm z1
 have ne : e ≠ z := fun x => by subst x; rw [z2] at q1; cases q1; simp at q2
 refine wpAny_setField_rec z2 (by simp) fun h3 _ s3 => wpAny_bind (wpAny_isInstance (T := "StopIteration") (b := true) ⟨oe, s3.extBut _ _ ne q1, q2⟩ isSubtype_stop (wpAny_pure (k h3 fun c o m1 m2 q => s3.extBut _ _ m1 (s2 _ _ m2 (s1.extBut _ _ m1 q)))))
end
def ItzT (K : Fg) (a b : Addr) : It :=
 ⟨fun i H => ∃ xs ys x y, SqT K H a xs /\ SqL K H b ys /\ xs[i]? = some x /\ ys[i]? = some y,
  fun i H x H' => ∃ p u v, x = .ref p /\ H p = none /\ H' = upd H p (.tup [u, v]) /\ (∀ xs, SqT K H a xs -> xs[i]? = some u) /\ ∀ ys, SqL K H b ys -> ys[i]? = some v,
  fun i H => ∃ xs ys, SqT K H a xs /\ SqL K H b ys /\ xs.length <= i⟩
theorem q640 {P : Program} {w : World} {K : Fg} {es : List Expr} {x1 : Nat} {pos : Pos} (a b z m n i1 i2 : Addr) (Dz : ZipApart z m n i1 i2 a b) :
  Turn P w K (.Tuple es x1 pos) (ItzT K a b) [z, m, n, i1, i2] z (fun i h => IsZip h z m n .none /\ IsPair h m (.ref i1) (.ref i2) /\ (∃ c d, IsPair h n c d) /\ h.IsTupleIter i1 a i /\ h.IsListIter i2 b i) where
 mem := by simp
 obj := fun i h st c hc => by
  obtain ⟨q1, q2, ⟨_, _, q3⟩, ⟨o4, q4, _, d4⟩, ⟨o5, q5, _, d5⟩⟩ := st
  have hc' : c = z \/ c = m \/ c = n \/ c = i1 \/ c = i2 := by simpa using hc
  rcases hc' with rfl | rfl | rfl | rfl | rfl
  ·exact ⟨_, q1, fun v y => by cases y⟩
  ·exact ⟨_, q2, fun v y => by cases y⟩
  ·exact ⟨_, q3, fun v y => by cases y⟩
  ·exact ⟨o4, q4, fun v y => by rw [d4] at y; cases y⟩
  ·exact ⟨o5, q5, fun v y => by rw [d5] at y; cases y⟩
 keep := fun i h h' st k => by
  obtain ⟨q1, q2, ⟨c, d, q3⟩, ⟨o4, q4, r4⟩, ⟨o5, q5, r5⟩⟩ := st
  exact ⟨k z (by simp) _ q1, k m (by simp) _ q2, ⟨c, d, k n (by simp) _ q3⟩, ⟨o4, k i1 (by simp) _ q4, r4⟩, ⟨o5, k i2 (by simp) _ q5, r5⟩⟩
 item := by
  intro X hP hw hK hc i pins s σ H E I hf st hg
  subst hP hw hK
  obtain ⟨q1, q2, ⟨ca, da, q3⟩, q4, q5⟩ := st
  obtain ⟨xs, ys, x, y, hqa, hqb, hx, hy⟩ := hg
  obtain ⟨its, rv, p, hz⟩ := I.tuple hqa
  obtain ⟨its2, rv2, p2, hz2⟩ := I.list hqb
  obtain ⟨u, hu, ru⟩ := rv.get hx
  obtain ⟨v, hv, rv'⟩ := rv2.get hy
  have lz : ∀ c ∈ [z, m, n, i1, i2], c < s.heap.objs.size := fun c hc => by
   have hc' : c = z \/ c = m \/ c = n \/ c = i1 \/ c = i2 := by simpa using hc
   obtain ⟨o4, w4, _⟩ := q4
   obtain ⟨o5, w5, _⟩ := q5
   rcases hc' with rfl | rfl | rfl | rfl | rfl
   ·exact Heap.lt_size q1
   ·exact Heap.lt_size q2
   ·exact Heap.lt_size q3
   ·exact Heap.lt_size w4
   ·exact Heap.lt_size w5
  refine q639 Dz q1 q2 q3 q4 q5 p p2.isList (x := u) (y := v) (by simpa using hu) (by simpa using hv) fun h1 a1 a2 a3 a4 a5 a7 => ⟨_, rfl, ?_⟩
  refine wpAny_letOwnedTupleGo_zip a1 fun h2 e2 s2 => ?_
  replace s2 : Heap.SameBut z h1 h2 := s2
  have nz : s.heap.objs.size ≠ z := Nat.ne_of_gt (lz z (by simp))
  have t2 : h2.get? s.heap.objs.size = some { cls := .type "tuple", data := .seq #[u, v] } := (s2.2 _ nz).trans a5
  have kk : ∀ c o, c ∉ [z, m, n, i1, i2] -> s.heap.get? c = some o -> h2.get? c = some o := fun c o w q => by
   have m' : ¬ (c = z \/ c = m \/ c = n \/ c = i1 \/ c = i2) := by simpa using w
   exact (s2.2 c (fun y => m' (.inl y))).trans (a7 c o (fun y => m' (.inl y)) (fun y => m' (.inr (.inr (.inl y)))) (fun y => m' (.inr (.inr (.inr (.inl y))))) (fun y => m' (.inr (.inr (.inr (.inr y))))) q)
  have fr : H s.heap.objs.size = none := I.hok.fresh (Nat.le_refl _)
  have neq : ∀ c, H c ≠ none -> c ∉ [z, m, n, i1, i2] := fun c m hc => m (hf c hc).1
  have un : Un (frs X.stack) [z, m, n, i1, i2] H (upd H s.heap.objs.size (.tup [x, y])) s.heap h2 := by
   have np : ∀ c o, s.heap.get? c = some o -> c ≠ s.heap.objs.size := fun c o q => Nat.ne_of_lt (Heap.lt_size q)
   exact ⟨fun c o q _ _ m => kk c o m q, fun c o q _ _ m => ⟨o.slots, kk c o m q⟩, fun c o q m _ => by rw [q34 (np c o q)]; exact m, fun c o q m => ⟨o, kk c o m q⟩,
    fun c ys q => by rw [q34 (q26 q fr)]; exact q, fun c o v q => by rw [q34 (q26 q fr)]; exact q, fun c ps q => ⟨#[], by rw [q34 (q26 q fr), q]; simp⟩⟩
  have hok : HOk X.prog X.w (upd H s.heap.objs.size (.tup [x, y])) h2 := fun c ob e => by
   by_cases hb : c = s.heap.objs.size
   ·subst hb
    rw [q14] at e
    cases e
    exact ⟨szb rfl, [u, v], .cons ru (.cons rv' .nil), ⟨_, t2, rfl, _, rfl⟩⟩
   ·rw [q34 hb] at e
    refine (I.hok c ob e).stay (fun c' v z q => ?_) (fun c q => by rw [q34 (q26 q fr)]; exact q) fun c ys q => by rw [q34 (q26 q fr)]; exact q
    have m : H c' ≠ none := by
     rcases z with rfl | z
     ·rw [e]; exact fun y => nomatch y
     ·rw [z]; exact fun y => nomatch y
    exact kk c' v (neq c' m) q
  have J : Inv X pins σ (upd H s.heap.objs.size (.tup [x, y])) { s with heap := h2 } := by
   refine I.call' (s' := { s with heap := h2 }) (ch := [z, m, n, i1, i2]) rfl un hok I.bare fun c hc => ?_
   obtain ⟨_, g1, _, g3, g4, g5⟩ := hf c hc
   exact ⟨g3, g1, g4, g5⟩
  refine ⟨.ref s.heap.objs.size, _, J, rfl, ⟨s.heap.objs.size, x, y, rfl, fr, rfl, fun zs hz => by rw [I.tuple_inj hz hqa]; exact hx, fun zs hz => by rw [I.list_inj hz hqb]; exact hy⟩, ⟨e2, ?_, ⟨u, v, (s2.2 n Dz.TOz).trans a2⟩, ?_, ?_⟩, fun c hc => ?_⟩
  ·exact (s2.2 m Dz.TIz).trans (a7 m _ Dz.TIz Dz.TITO Dz.TIi1 Dz.TIi2 q2)
  ·obtain ⟨o, q, r⟩ := a3
   exact ⟨o, (s2.2 i1 Dz.i1z).trans q, r⟩
  ·obtain ⟨o, q, r⟩ := a4
   exact ⟨o, (s2.2 i2 Dz.i2z).trans q, r⟩
  ·rw [q34 (Nat.ne_of_lt (lz c hc))]
   exact (hf c hc).1
 done := by
  intro X hP hw hK hc i pins s σ H E I hf st hg
  subst hP hw hK
  obtain ⟨q1, q2, ⟨ca, da, q3⟩, q4, q5⟩ := st
  obtain ⟨xs, ys, hqa, hqb, hx⟩ := hg
  obtain ⟨its, rv, p, hz⟩ := I.tuple hqa
  have l1 := rv.length
  refine zipT_end (I.ok.hd hc) Dz q1 q2 q4 p (by simp; omega) fun h' a7 => ⟨rfl, ?_⟩
  have kk : ∀ c o, c ∉ [z, m, n, i1, i2] -> s.heap.get? c = some o -> h'.get? c = some o := fun c o w q => by
   have m' : ¬ (c = z \/ c = m \/ c = n \/ c = i1 \/ c = i2) := by simpa using w
   exact a7 c o (fun y => m' (.inl y)) (fun y => m' (.inr (.inr (.inr (.inl y))))) q
  have neq : ∀ c, H c ≠ none -> c ∉ [z, m, n, i1, i2] := fun c m hc => m (hf c hc).1
  have un : Un (frs X.stack) [z, m, n, i1, i2] H H s.heap h' :=
   ⟨fun c o q _ _ m => kk c o m q, fun c o q _ _ m => ⟨o.slots, kk c o m q⟩, fun c o q m _ => m, fun c o q m => ⟨o, kk c o m q⟩, fun c ys q => q, fun c o v q => q, fun c ps q => ⟨#[], by rw [q]; simp⟩⟩
  have hok : HOk X.prog X.w H h' := fun c ob e => by
   refine (I.hok c ob e).stay (fun c' v z q => ?_) (fun c q => q) fun c ys q => q
   have m : H c' ≠ none := by
    rcases z with rfl | z
    ·rw [e]; exact fun y => nomatch y
    ·rw [z]; exact fun y => nomatch y
   exact kk c' v (neq c' m) q
  refine I.call' (s' := { s with heap := h' }) (ch := [z, m, n, i1, i2]) rfl un hok I.bare fun c hc => ?_
  obtain ⟨_, g1, _, g3, g4, g5⟩ := hf c hc
  exact ⟨g3, g1, g4, g5⟩
 self := fun _ _ _ _ _ st h => wpAny_pyIter_zip st.1 h
section
variable {es : List Expr} {x1 : Nat} {tpos : Pos}
abbrev zt1 (h : Heap) (a : Addr) : Heap := h.push { cls := .type "tuple_iterator", data := .fields #[.ref a, .int 0 0] }
abbrev zt2 (h : Heap) (a b : Addr) : Heap := (zt1 h a).push { cls := .type "list_iterator", data := .fields #[.ref b, .int 0 0] }
abbrev zt3 (h : Heap) (a b : Addr) : Heap := (zt2 h a b).push { cls := .type "tuple", data := .seq #[.ref h.objs.size, .ref (zt1 h a).objs.size] }
abbrev zt4 (h : Heap) (a b : Addr) : Heap := (zt3 h a b).push { cls := .type "tuple", data := .seq #[.none, .none] }
abbrev zt5 (h : Heap) (a b : Addr) : Heap := (zt4 h a b).push { cls := .type "zip", data := .fields #[.none, .bool false, .bool false, .ref (zt2 h a b).objs.size, .ref (zt3 h a b).objs.size] }
theorem new_zipT (l1 l2 : Addr) (xs ys : Array Value) : Meets (Builtin.«zip.__new__» ⟨[.type "zip", .ref l1, .ref l2], []⟩) (fun _ R s => s.heap.IsTuple l1 xs /\ s.heap.IsList l2 ys /\ R (.ok (.ret (.ref (zt4 s.heap l1 l2).objs.size))) { s with heap := zt5 s.heap l1 l2 }) :=
 .of_wp fun prog w A R s h => by
  obtain ⟨hp, g, d, tk, os⟩ := s
  obtain ⟨a1, a2, h⟩ := h
  have hsub := sub_zip
  have b1 : Heap.IsTuple (Shared.heap ⟨hp, g, d, tk, os⟩) l1 xs := a1
  have b2 : Heap.IsList (Shared.heap ⟨hp.push { cls := .type "tuple_iterator", data := .fields #[.ref l1, .int 0 0] }, g, d, tk, os⟩) l2 ys := Heap.IsList.push a2 _
  wp_walk using wpAny_pyIter_tuple b1, wpAny_pyIter_list b2
  exact ⟨_, rfl, h⟩
theorem q641 {prog : Program} {w : World} {A : Around} {E : VS} {s : Shared} (h1 : s.heap.IsTuple a xs) (h2 : s.heap.IsList b ys)
  (k : ∀ h', IsZip h' (s.heap.objs.size + 4) (s.heap.objs.size + 2) (s.heap.objs.size + 3) .none -> IsPair h' (s.heap.objs.size + 2) (.ref s.heap.objs.size) (.ref (s.heap.objs.size + 1)) -> IsPair h' (s.heap.objs.size + 3) .none .none -> h'.IsTupleIter s.heap.objs.size a 0 ->
   h'.IsListIter (s.heap.objs.size + 1) b 0 -> (∀ c o, s.heap.get? c = some o -> h'.get? c = some o) -> Q (.ref (s.heap.objs.size + 4)) { s with heap := h' }) : wpAny (model prog w) A (call (.type "zip") [.ref a, .ref b]) Q E s := by
 refine callType_new F.called_zip (by decide) (F.typeCall_zip_2 _ _) (F.newCall_zip_2 _ _) (fun obj => F.args_object_init_3 obj _ _) F.entry_zip_new (new_zipT a b xs ys) ⟨h1, h2, ?_⟩
 have y1 : (zt1 s.heap a).objs.size = s.heap.objs.size + 1 := Heap.size_push ..
 have y2 : (zt2 s.heap a b).objs.size = s.heap.objs.size + 2 := by rw [Heap.size_push, y1]
 have y3 : (zt3 s.heap a b).objs.size = s.heap.objs.size + 3 := by rw [Heap.size_push, y2]
 have y4 : (zt4 s.heap a b).objs.size = s.heap.objs.size + 4 := by rw [Heap.size_push, y3]
 have g5 : (zt5 s.heap a b).get? (zt4 s.heap a b).objs.size = some _ := Heap.get?_push_size _ rfl
 have g4 : (zt5 s.heap a b).get? (zt3 s.heap a b).objs.size = some _ := Heap.get?_push_of_some _ (Heap.get?_push_size _ rfl)
 have g3 : (zt5 s.heap a b).get? (zt2 s.heap a b).objs.size = some _ := Heap.get?_push_of_some _ (Heap.get?_push_of_some _ (Heap.get?_push_size _ rfl))
 have g2 : (zt5 s.heap a b).get? (zt1 s.heap a).objs.size = some _ := Heap.get?_push_of_some _ (Heap.get?_push_of_some _ (Heap.get?_push_of_some _ (Heap.get?_push_size _ rfl)))
 have g1 : (zt5 s.heap a b).get? s.heap.objs.size = some _ := Heap.get?_push_of_some _ (Heap.get?_push_of_some _ (Heap.get?_push_of_some _ (Heap.get?_push_of_some _ (Heap.get?_push_size _ rfl))))
 show _ /\ _
 rw [y2, y3, y4] at g5
 rw [y1, y2] at g3
 rw [y3] at g4
 rw [y1] at g2
 rw [y4]
 exact ⟨⟨_, g5, rfl⟩, k _ g5 g3 g4 ⟨_, g1, rfl, rfl⟩ ⟨_, g2, rfl, rfl⟩ fun c o x => Heap.get?_push_of_some _ (Heap.get?_push_of_some _ (Heap.get?_push_of_some _ (Heap.get?_push_of_some _ (Heap.get?_push_of_some _ x))))⟩
def iZipT (K : Fg) (ta : TA) : TI := fun σ H R => ta σ H fun vs H1 => ∃ a b, vs = [.ref a, .ref b] /\ (∃ xs, SqT K H1 a xs) /\ (∃ ys, SqL K H1 b ys) /\ R (ItzT K a b) H1
theorem pi_zipT {l l' : Expr} {ta : TA} {p pos : Pos} (hg : Gl X "zip") (hm : X.mg "zip" = none) (ha : PA X [l, l'] ta) (hs : starEach [l, l'] X.env = [(false, eval l X.env), (false, eval l' X.env)] := by rfl) (hs2 : starEach [l'] X.env = [(false, eval l' X.env)] := by rfl) :
  PI X (.Tuple es x1 tpos) (.Call (.Name "zip" p) [l, l'] [] pos) (iZipT X.K ta) := by
 intro pins s σ H R I h
 refine Call_ (q150 I hg hm boot_zip (PyProof.Rows.callWith_type1 (thn (ha pos pins s σ H _ I h) fun us s1 ⟨vs, H1, I1, r1, q1⟩ => ?_) (by rw [hs, hs2]) (by rw [hs2]; rfl)))
 obtain ⟨a, b, e, ⟨xs, hqa⟩, ⟨ys, hqb⟩, q⟩ := q1
 subst e
 cases r1 with
 | cons r rr =>
  cases rr with
  | cons r' rr =>
   cases rr
   cases r
   cases r'
   obtain ⟨its, rv, p, hz⟩ := I1.tuple hqa
   obtain ⟨its2, rv2, p2, hz2⟩ := I1.list hqb
   have la : a < s1.heap.objs.size := by obtain ⟨_, e, _⟩ := p; exact Heap.lt_size e
   have lb : b < s1.heap.objs.size := by obtain ⟨_, e, _⟩ := p2.isList; exact Heap.lt_size e
   refine q641 p p2.isList fun h' e1 e2 e3 e4 e5 k => wpAny_pyIter_zip e1 ?_
   have I2 : Inv X pins σ H1 { s1 with heap := h' } := I1.kept (t' := s1.toks) k
   refine ⟨s1.heap.objs.size + 4, _, _, _, H1, rfl, I2, q640 a b _ _ _ _ _ (zipApart_new la lb), ⟨e1, e2, ⟨_, _, e3⟩, e4, e5⟩, fun c hc => ?_, q⟩
   have hb' : s1.heap.objs.size <= c := by
    have z : c = s1.heap.objs.size + 4 \/ c = s1.heap.objs.size + 2 \/ c = s1.heap.objs.size + 3 \/ c = s1.heap.objs.size \/ c = s1.heap.objs.size + 1 := by simpa using hc
    rcases z with z | z | z | z | z
    ·rw [z]; exact Nat.le_add_right _ _
    ·rw [z]; exact Nat.le_add_right _ _
    ·rw [z]; exact Nat.le_add_right _ _
    ·rw [z]; exact Nat.le_refl _
    ·rw [z]; exact Nat.le_add_right _ _
   exact I1.fpOk hb' (I1.hok.fresh hb')
theorem q556 {K : Fg} {a b : Addr} {xs zs : List V} {Tn : V -> Hp -> (V -> Hp -> Prop) -> (Hp -> Prop) -> Prop} {D : Addr} {H1 : Hp} {R : Hp -> Prop} (hn : xs.length <= sizeLine) (hxz : xs.length = zs.length) (Pv : Nat -> List V -> Hp -> Prop) (h0 : Pv 0 [] (upd H1 D (.lst [])))
  (hl : ∀ i ys H, Pv i ys H -> SqT K H a xs /\ SqL K H b zs) (hD : ∀ i ys H, Pv i ys H -> H D = some (.lst ys) /\ ys.length <= i)
  (hs : ∀ i x z ys H p, xs[i]? = some x -> zs[i]? = some z -> Pv i ys H -> H p = none -> Tn (.ref p) (upd H p (.tup [x, z])) (fun y H3 => H3 D = some (.lst ys) /\ Pv (i + 1) (ys ++ [y]) (upd H3 D (.lst (ys ++ [y])))) (Pv (i + 1) ys))
  (hd : ∀ ys H, Pv xs.length ys H -> R H) :
  ∃ W : Nat -> Nat -> List V -> Hp -> Prop, (∃ m, W 0 m [] (upd H1 D (.lst []))) /\
   ∀ i m ys H2, W i m ys H2 -> H2 D = some (.lst ys) /\ (((ItzT K a b).stop i H2 /\ R H2) \/ ((ItzT K a b).go i H2 /\ ys.length < sizeLine /\ ∃ (N : V -> Hp -> Prop) (Z : Hp -> Prop), (∀ y H3, N y H3 -> H3 D = some (.lst ys) /\ ∃ m', m' < m /\ W (i + 1) m' (ys ++ [y]) (upd H3 D (.lst (ys ++ [y])))) /\ (∀ H3, Z H3 -> ∃ m', m' < m /\ W (i + 1) m' ys H3) /\
    ∀ x H', (ItzT K a b).yld i H2 x H' -> Tn x H' N Z)) := by
 refine ⟨fun i m ys H => m = xs.length - i /\ i <= xs.length /\ Pv i ys H, ⟨xs.length, by simp, Nat.zero_le _, h0⟩, ?_⟩
 rintro i m ys H2 ⟨rfl, hi, p⟩
 obtain ⟨d1, d2⟩ := hD i ys H2 p
 obtain ⟨q1, q2⟩ := hl i ys H2 p
 refine ⟨d1, ?_⟩
 by_cases hlt : i < xs.length
 ·have hlt2 : i < zs.length := by omega
  refine .inr ⟨⟨xs, zs, xs[i], zs[i], q1, q2, by simp [hlt], by simp [hlt2]⟩, by omega, fun y H3 => H3 D = some (.lst ys) /\ Pv (i + 1) (ys ++ [y]) (upd H3 D (.lst (ys ++ [y]))), Pv (i + 1) ys, fun y H3 ⟨z1, z2⟩ => ⟨z1, xs.length - (i + 1), by omega, rfl, hlt, z2⟩, fun H3 z => ⟨xs.length - (i + 1), by omega, rfl, hlt, z⟩, fun x H' y => ?_⟩
  obtain ⟨pp, u, v, rfl, e2, rfl, y1, y2⟩ := y
  exact hs i u v ys _ pp (y1 xs q1) (y2 zs q2) p e2
 ·have e : i = xs.length := by omega
  subst e
  exact .inl ⟨⟨xs, zs, q1, q2, Nat.le_refl _⟩, hd ys H2 p⟩
end
section
variable {tg : Expr}
theorem q642 : CallR X (.type "str") (fun xs H Q => ∃ x, xs = [x] /\ ((∃ i, x = .int i /\ i.natAbs.log2 < 1920 /\ Q (.str (toString i)) H) \/ ∃ y, x = .str y /\ Q (.str y) H)) := by
 intro pins s σ H xs us Q I r h
 obtain ⟨x, rfl, h⟩ := h
 rcases h with ⟨i, rfl, hz, q⟩ | ⟨y, rfl, q⟩
 ·obtain ⟨u, rfl, t, rfl⟩ := vals1 r
  exact PySem.P.str_of_int hz ⟨.str _, H, I.tok _, ⟨_, rfl⟩, q⟩
 ·obtain ⟨u, rfl, t, rfl⟩ := vals1 r
  exact PySem.P.str_of_str ⟨.str _, H, I, ⟨_, rfl⟩, q⟩
def iSeq (K : Fg) (tl : TE) : TI := fun σ H R => tl σ H fun x H1 => ∃ a, x = .ref a /\ (((∃ xs, SqL K H1 a xs) /\ R (Itl K a) H1) \/ ((∃ xs, SqT K H1 a xs) /\ R (Itt K a) H1))
theorem pi_seq (hl : PE X l tl) : PI X tg l (iSeq X.K tl) := by
 intro pins s σ H R I h
 refine thn (hl pins s σ H _ I h) fun v s1 ⟨x, H1, I1, r1, q1⟩ => ?_
 obtain ⟨a, e, q1⟩ := q1
 subst e
 cases r1
 have fp : ∀ b ∈ [s1.heap.objs.size], FpOk X pins H1 b := fun b hb => by
  obtain rfl : b = s1.heap.objs.size := by simpa using hb
  exact I1.fpOk (Nat.le_refl _) (I1.hok.fresh (Nat.le_refl _))
 rcases q1 with ⟨⟨xs, hq⟩, q⟩ | ⟨⟨xs, hq⟩, q⟩
 ·obtain ⟨its, rv, p, hz⟩ := I1.list hq
  exact wpAny_pyIter_list p.isList ⟨s1.heap.objs.size, [s1.heap.objs.size], _, _, H1, rfl, I1.kept (t' := s1.toks) fun b o e => Heap.get?_push_of_some _ e, q357 a _, ⟨_, Heap.get?_push_size _ rfl, rfl, rfl⟩, fp, q⟩
 ·obtain ⟨its, rv, p, hz⟩ := I1.tuple hq
  exact wpAny_pyIter_tuple (show s1.heap.IsTuple a its.toArray from p) ⟨s1.heap.objs.size, [s1.heap.objs.size], _, _, H1, rfl, I1.kept (t' := s1.toks) fun b o e => Heap.get?_push_of_some _ e, q273 a _, ⟨_, Heap.get?_push_size _ rfl, rfl, rfl⟩, fp, q⟩
end
theorem Room.m {j k : Nat} (r : Room k A) (h : j <= k := by decide) : Room j A := r.mono h
theorem fsc {N P : List Str} {sc : Scope} (h1 : sc.kind = .function := by rfl) (h2 : sc.isCoroutine = false := by rfl) (h3 : sc.isGenerator = false := by rfl) (h4 : N.Nodup := by decide +kernel) (h5 : N.take P.length = P := by rfl) (h6 : ∀ x ∈ P, sc.names.lookup x = some .local \/ sc.names.lookup x = some .cell := by decide +kernel) (h7 : ∀ y ∈ sc.names, y.2 ≠ .free := by decide +kernel) : FnScope N P sc := ⟨h1, h2, h3, h4, h5, h6, h7⟩
theorem Fun.k {P : Program} {w : World} {K : Fg} {mg : Mg} {base : Heap} {x qual : Str} {st : Stmt} {f : Addr} {fd : FuncData} {N ps : List Str} {k : Nat} {sp : Sp} (F : Fun K x qual st f fd) (S : FnScope N ps (q17 st))
  (hbody : ∀ (cdv : Value) (A : Around) (outer : List Env) (s : Shared) (H : Hp) (vs : List V) (Q : VK) (E : XK), Room k (A.deeper (envOfC qual (q17 st) s.heap.objs.size f cdv)) -> sp vs H Q E ->
   ∃ t, PSs (cxOf CX0 P w K mg base N qual (q17 st) f cdv A outer s H E).nox (q103 st) t /\ t { nx := fun _ H' => Q .non H', rt := Q } (start N vs) H)
  (len : ∀ vs H Q E, sp vs H Q E -> vs.length = ps.length := by intro vs H Q E h; first | (cases h; subst_vars; rfl) | ((repeat (first | obtain ⟨rfl, _⟩ := h | obtain ⟨_, h⟩ := h)); rfl)) : FnOk P w K mg base CX0 (k + 1) f fd ps sp := F.ok S len hbody
section
variable {pos : Pos}
theorem pst (i : Nat) {pos' : Pos} (hN : X.N.Nodup) (he : PE X e te) (hi : X.N[i]? = some x := by rfl) (hx : Loc X.env.scope x := by first | exact Or.inl rfl | exact Or.inr rfl) (hs : swapsWith e (some (.Name x pos')) pos.line X.env = pure false := by rfl) (hf : X.fn x = true \/ X.env.scope.names.lookup x = some .local := by first | exact .inl rfl | exact .inr rfl | assumption) :
  PS X (.Assign [.Name x pos'] e pos) (tAsg te (gName i)) := ps_set hN hi hx he hs hf
theorem pix (hr : IxR X r) (ha : PE X a ta) (hb : PE X b tb) (hs : q605 b := by exact fun _ _ => rfl) : PE X (.Subscript a b pos) (tOp r ta tb) := pe_ix hr ha hb hs
theorem pgn (i : Nat) (hN : X.N.Nodup) (hi : X.N[i]? = some x := by rfl) (hx : Loc X.env.scope x := by first | exact Or.inl rfl | exact Or.inr rfl) (hf : X.fn x = true \/ X.env.scope.names.lookup x = some .local := by first | exact .inl rfl | exact .inr rfl | assumption) : PG X (.Name x pos) (gName i) := q143 hN hi hx hf
theorem pln {p : Pos} (hm : X.mg "len" = none) (ha : PA X (e :: es) t) (hg : Gl X "len" := by rfl) (he : starEach (e :: es) X.env = (false, eval e X.env) :: starEach es X.env := by rfl) (hpl : (backTo pos (starEach es X.env)).any (·.1) = false := by rfl) :
  PE X (.Call (.Name "len" p) (e :: es) [] pos) (tCB (fun xs H Q => ∃ p ys, xs = [.ref p] /\ (SqL X.K H p ys \/ SqT X.K H p ys) /\ Q (.int ys.length) H) t) := q76 q366 hg hm bt_len ha (by decide) (by decide) he hpl
end
theorem cok {x : Str} {N : List Str} (h1 : ∀ p ∈ relN scope sc0, (p.2 = .cell \/ p.2 = .free) -> p.1 ∈ cn := by decide +kernel) (h2 : ∀ p ∈ scope.names, p.2 ≠ .cell := by decide +kernel) (h3 : ∀ p ∈ scope.names, p.2 = .local -> scope.names.lookup p.1 = some .local := by decide +kernel) (h4 : scope.names.lookup x = some .local := by decide +kernel) (h5 : (relN scope sc0).lookup x = some .local := by decide +kernel) (h6 : (x :: N).Nodup := by decide +kernel) (h7 : ∀ y ∈ N, (relN scope sc0).lookup y = some .cell /\ sc0.names.lookup y = some .cell /\ y ∈ cn := by decide +kernel) : CompOk scope sc0 x N cn := ⟨h1, h2, h3, h4, h5, h6, h7⟩
theorem mt1 {p : List Value -> Prop} (h : ∀ a, p [a]) : ∀ us, us.length = 1 -> p us
 | [_], _ => h _
theorem mt2 {p : List Value -> Prop} (h : ∀ a b, p [a, b]) : ∀ us, us.length = 2 -> p us
 | [_, _], _ => h _ _
theorem mt3 {p : List Value -> Prop} (h : ∀ a b c, p [a, b, c]) : ∀ us, us.length = 3 -> p us
 | [_, _, _], _ => h _ _ _
theorem mt4 {p : List Value -> Prop} (h : ∀ a b c d, p [a, b, c, d]) : ∀ us, us.length = 4 -> p us
 | [_, _, _, _], _ => h _ _ _ _
theorem mt5 {p : List Value -> Prop} (h : ∀ a b c d e, p [a, b, c, d, e]) : ∀ us, us.length = 5 -> p us
 | [_, _, _, _, _], _ => h _ _ _ _ _
theorem hid (h : ∀ U : TS, u = U -> tSeq t U D σ H) : tSeq t u D σ H := h u rfl
theorem hdn (e : tSeq t u = U) (h : ∀ U : TS, u = U -> tSeq t U D σ H) : U D σ H := e ▸ h u rfl
theorem hde {u U : TS} {D : Ends} {σ : St} {H : Hp} (e : u = U) (h : u D σ H) : U D σ H := e ▸ h
theorem nwH (h : H q = none) (o : HO) : ∃ G, upd H q o = G /\ Same H G /\ G q = some o := ⟨_, rfl, q16 h o, q14⟩
end L2
namespace My
open PySem L2
abbrev pn0 : List Str := ["_law_pen_here", "_law_bounds_here", "_law_makes"]
abbrev pn1 : List Str := ["bounds", "gathering", "number"]
abbrev pn2 : List Str := ["self", "make"]
abbrev pn3 : List Str := ["self", "make", "place", "number"]
abbrev pn4 : List Str := ["self", "make", "start", "end"]
abbrev pn5 : List Str := ["bounds", "gathering", "k"]
abbrev pn6 : List Str := ["_law_pen_here", "_law_bounds_here", "_law_long"]
abbrev pn7 : List Str := ["bounds", "gathering", "lead", "name", "values"]
abbrev pn8 : List Str := ["tree", "way", "place"]
abbrev pn9 : List Str := ["bounds", "gathering"]
abbrev pn10 : List Str := ["least", "many", "parts", "part", "floor"]
abbrev pn11 : List Str := ["bounds", "gathering", "name", "values"]
abbrev pn12 : List Str := ["bounds", "tree", "place"]
abbrev pn13 : List Str := ["bounds", "number"]
abbrev pn14 : List Str := ["gathering", "way"]
abbrev pn15 : List Str := ["word"]
abbrev pn16 : List Str := ["bounds", "gathering", "low", "high"]
abbrev pn17 : List Str := ["bounds", "tree", "place", "number"]
abbrev pn18 : List Str := ["self", "bounds"]
abbrev pn19 : List Str := ["stretch", "way"]
abbrev pn24 : List Str := ["self", "row"]
def top (i : Nat) : Stmt := PySem.Challenge.pw_manyleast_k68_whole_a_desk_told_by_funct.main.body.getD i (.Pass ⟨0, 0, 0, 0⟩)
section
open PySem.W
def strOf : Value -> Option Str
 | .str x _ => some x
 | _ => none
def tabD (K : Fg) (a : Addr) : List (Str × Addr) := match List.lookup a K with
 | some o => (match o.data with
  | .dict es _ => es.toList.filterMap fun e => match e.key, e.val with
   | .str x _, .ref d => some (x, d)
   | _, _ => none
  | _ => [])
 | none => []
def tupB (K : Fg) (d : Addr) (ks : List Str) : Bool := match List.lookup d K with
 | some o => o.cls == .type "tuple" && (match o.data with
  | .seq its _ => decide (its.size <= 10) && decide (its.toList.map strOf = ks.map some)
  | _ => false)
 | none => false
def forms : List (Str × List Str) := [("put", ["count", "count", "number"]), ("take", ["count", "count"]), ("set", ["count", "count", "number"]), ("cut", ["count", "count", "count"]), ("join", ["count", "count"]), ("turn", ["count"]), ("flip", ["count"]), ("show", ["count"]), ("least", ["gathering", "count"]), ("below", ["gathering", "number"]), ("between", ["gathering", "number", "number"]), ("falls", ["stretch"]), ("up", ["gathering", "number"]), ("down", ["gathering", "number"]), ("most", ["gathering"]), ("often", ["gathering", "part"])]
def formB (K : Fg) (D : List (Str × Addr)) (f : Str × List Str) : Bool := match PyProof.Rows.KTD.datumAt f.1 D with
 | some d => tupB K d f.2
 | none => false
def frmB (K : Fg) (a : Addr) : Bool := PyProof.Rows.KTD.tabLook (fun (d : Addr) (v : Value) => v == .ref d) (fun b => List.lookup b K) a (tabD K a) && forms.all (formB K (tabD K a))
theorem q377 : ∀ {its : List Value} {ks : List Str}, its.map strOf = ks.map some -> Vals (ks.map V.str) its
 | [], [], _ => .nil
 | [], k :: ks, h => by cases h
 | v :: its, [], h => by cases h
 | v :: its, k :: ks, h => by
  obtain ⟨h1, h2⟩ := List.cons.inj h
  refine .cons ?_ (q377 h2)
  cases v with
  | str x t =>
   obtain rfl : x = k := Option.some.inj h1
   exact ⟨t, rfl⟩
  | _ => cases h1
theorem tup_sq {ks : List Str} (h : tupB K d ks = true) (H : Hp) : SqT K H d (ks.map V.str) := by
 unfold tupB at h
 split at h
 ·rename_i o ho
  rw [Bool.and_eq_true] at h
  obtain ⟨h1, h2⟩ := h
  split at h2
  ·rename_i its n hd
   rw [Bool.and_eq_true, decide_eq_true_iff, decide_eq_true_iff] at h2
   exact .inr ⟨o, its, n, ho, eq_of_beq h1, hd, Nat.le_trans h2.1 (by decide), q377 h2.2⟩
  ·cases h2
 ·cases h
theorem frm_use (h : frmB K a = true) {f : Str × List Str} (hf : f ∈ forms) : TabK K a (tabD K a) /\ ∃ d, PyProof.Rows.KTD.datumAt f.1 (tabD K a) = some d /\ PyProof.Rows.KTD.inKeys f.1 (tabD K a) = true /\ ∀ H, SqT K H d (f.2.map V.str) := by
 unfold frmB at h
 rw [Bool.and_eq_true] at h
 refine ⟨h.1, ?_⟩
 have z := List.all_eq_true.mp h.2 f hf
 unfold formB at z
 split at z
 ·rename_i d hd
  exact ⟨d, hd, by rw [<- PyProof.Rows.KTD.isSome_datumAt, hd]; rfl, tup_sq z⟩
 ·cases z
end
def q58 : Stmt -> List Stmt
 | .ClassDef _ _ _ b _ _ _ _ _ _ _ => b
 | _ => []
abbrev q153 : Stmt := top 10
abbrev q501 : Stmt := top 11
abbrev q643 : Stmt := top 12
abbrev q378 : Stmt := top 13
abbrev q502 : Stmt := top 14
abbrev q644 : Stmt := top 16
abbrev q285 : Stmt := top 17
abbrev q379 : Stmt := top 18
abbrev q380 : Stmt := top 20
abbrev q220 : Stmt := top 21
abbrev q381 : Stmt := top 23
abbrev q382 : Stmt := top 24
abbrev q503 : Stmt := top 25
abbrev q286 : Stmt := top 26
abbrev q504 : Stmt := top 27
abbrev q221 : Stmt := top 28
abbrev q222 : Stmt := top 30
abbrev q320 : Stmt := top 31
abbrev s_led : Stmt := top 32
abbrev q154 : Stmt := top 33
abbrev q505 : Stmt := top 34
abbrev q223 : Stmt := top 36
abbrev q180 : Stmt := top 37
abbrev q224 : Stmt := top 38
abbrev q155 : Stmt := top 39
abbrev q645 : Stmt := top 40
abbrev q383 : Stmt := top 41
abbrev q225 : Stmt := top 43
abbrev s_most : Stmt := top 44
abbrev q646 : Stmt := top 45
abbrev q119 : Stmt := top 46
abbrev q384 : Stmt := top 61
abbrev q226 : Stmt := top 62
abbrev q156 : Stmt := top 63
abbrev q157 : Stmt := top 74
abbrev q175 : Stmt := top 75
abbrev q158 : Stmt := top 77
abbrev q105 : Stmt := top 78
abbrev q506 : Stmt := top 83
abbrev q136 : Stmt := top 84
abbrev q97 : Stmt := top 85
abbrev q146 : Stmt := top 86
abbrev q507 : Stmt := top 90
abbrev q287 : Stmt := top 92
abbrev q227 : Stmt := top 93
abbrev q228 : Stmt := top 94
abbrev q385 : Stmt := top 96
abbrev q508 : Stmt := top 97
abbrev q386 : Stmt := top 100
abbrev q509 : Stmt := top 102
abbrev q510 : Stmt := top 104
abbrev q229 : Stmt := top 106
abbrev q137 : Stmt := top 110
abbrev q445 : Stmt := top 112
abbrev q120 : Stmt := top 113
abbrev q181 : Stmt := top 114
abbrev q230 : Stmt := top 116
abbrev q288 : Stmt := top 117
abbrev q387 : Stmt := top 118
abbrev q231 : Stmt := top 119
abbrev q176 : Stmt := top 120
abbrev q232 : Stmt := top 128
abbrev q289 : Stmt := top 129
abbrev q147 : Stmt := top 130
abbrev q290 : Stmt := top 131
abbrev q233 : Stmt := top 135
abbrev q291 : Stmt := top 136
abbrev q234 : Stmt := top 137
abbrev q159 : Stmt := top 138
abbrev q138 : Stmt := top 139
abbrev q79 : Stmt := top 140
abbrev q148 : Stmt := top 141
abbrev q121 : Stmt := top 142
abbrev q149 : Stmt := top 143
abbrev q235 : Stmt := top 144
abbrev q182 : Stmt := top 145
abbrev q91 : Stmt := top 146
abbrev s_law : Stmt := top 147
abbrev q388 : Stmt := (q58 (top 109)).getD 0 (.Pass ⟨0, 0, 0, 0⟩)
abbrev q292 : Stmt := (q58 (top 109)).getD 1 (.Pass ⟨0, 0, 0, 0⟩)
abbrev q293 : Stmt := (q58 (top 109)).getD 2 (.Pass ⟨0, 0, 0, 0⟩)
abbrev q160 : Stmt := (q58 (top 109)).getD 3 (.Pass ⟨0, 0, 0, 0⟩)
abbrev q294 : Stmt := (q58 (top 109)).getD 4 (.Pass ⟨0, 0, 0, 0⟩)
abbrev q236 : Stmt := (q58 (top 109)).getD 5 (.Pass ⟨0, 0, 0, 0⟩)
abbrev q295 : Stmt := (q58 (top 109)).getD 6 (.Pass ⟨0, 0, 0, 0⟩)
abbrev q296 : Stmt := (q58 (top 109)).getD 7 (.Pass ⟨0, 0, 0, 0⟩)
abbrev q237 : Stmt := (q58 (top 109)).getD 8 (.Pass ⟨0, 0, 0, 0⟩)
abbrev q511 : Stmt := (q58 (top 109)).getD 10 (.Pass ⟨0, 0, 0, 0⟩)
abbrev q647 : Stmt := (q58 (top 109)).getD 11 (.Pass ⟨0, 0, 0, 0⟩)
abbrev q238 : Stmt := (q58 (top 109)).getD 13 (.Pass ⟨0, 0, 0, 0⟩)
abbrev q389 : Stmt := (q58 (top 109)).getD 14 (.Pass ⟨0, 0, 0, 0⟩)
abbrev q512 : Stmt := (q58 (top 109)).getD 15 (.Pass ⟨0, 0, 0, 0⟩)
abbrev q513 : Stmt := (q58 (top 133)).getD 0 (.Pass ⟨0, 0, 0, 0⟩)
abbrev q446 : Stmt := (q58 (top 133)).getD 1 (.Pass ⟨0, 0, 0, 0⟩)
abbrev q139 : Stmt := (q58 (top 133)).getD 2 (.Pass ⟨0, 0, 0, 0⟩)
abbrev q514 : Stmt := (q58 (top 133)).getD 3 (.Pass ⟨0, 0, 0, 0⟩)
theorem q257 : FnScope ["levels", "many", "level"] ["levels"] (q17 q153) := fsc
theorem q648 : FnScope ["bounds"] ["bounds"] (q17 q501) := fsc
theorem sc_where : FnScope pn13 pn13 (q17 q643) := fsc
theorem q557 : FnScope ["bounds", "way", "least", "many", "turn"] ["bounds", "way"] (q17 q378) := fsc
theorem q649 : FnScope (pn13.append ["least", "many", "way", "level"]) pn13 (q17 q502) := fsc
theorem sc_ahead : FnScope ["marks", "mark", "place"] ["marks", "mark", "place"] (q17 q644) := fsc
theorem q447 : FnScope ["marks", "mark", "number", "left", "place", "other"] ["marks", "mark", "number"] (q17 q285) := fsc
theorem q558 : FnScope ["marks", "start", "end", "ones", "pairs", "place"] ["marks", "start", "end"] (q17 q379) := fsc
theorem q559 : FnScope ["bounds", "row", "number"] ["bounds", "row"] (q17 q380) := fsc
theorem sc_grown : FnScope ["least", "many", "row", "half", "middle", "marks", "lower", "upper"] ["least", "many", "row"] (q17 q220) := fsc
theorem q560 : FnScope ["tree", "mark"] ["tree", "mark"] (q17 q381) := fsc
theorem q561 : FnScope ["tree"] ["tree"] (q17 q382) := fsc
theorem q650 : FnScope ["bounds", "tree"] ["bounds", "tree"] (q17 q503) := fsc
theorem q448 : FnScope ["least", "many", "tree", "half", "lower", "upper"] ["least", "many", "tree"] (q17 q286) := fsc
theorem q651 : FnScope ["marks", "lower", "upper", "row", "ones", "place", "mark"] ["marks", "lower", "upper"] (q17 q504) := fsc
theorem q390 : FnScope (pn12.append ["least", "many", "part", "inner", "mark"]) pn12 (q17 q221) := fsc
theorem q562 : FnScope ["gathering"] ["gathering"] (q17 q222) := fsc
theorem q652 : FnScope ["gathering"] ["gathering"] (q17 q320) := fsc
theorem sc_led : FnScope pn14 pn14 (q17 s_led) := fsc
theorem q258 : FnScope (pn19.append ["part", "start", "end", "turn", "half"]) pn19 (q17 q154) := fsc
theorem q653 : FnScope (pn8.append ["inner"]) pn8 (q17 q505) := fsc
theorem q391 : FnScope (pn5.append ["way", "alike"]) pn5 (q17 q223) := fsc
theorem q321 : FnScope ["levels", "gathering", "k", "way", "parts", "left", "level", "lower", "turn"] ["levels", "gathering", "k"] (q17 q180) := fsc
theorem q392 : FnScope ["gathering", "way", "number", "parts", "left", "j"] ["gathering", "way", "number"] (q17 q224) := fsc
theorem q259 : FnScope (pn14.append ["many", "parts", "turn"]) pn14 (q17 q155) := fsc
theorem sc_below : FnScope (pn1.append ["side"]) pn1 (q17 q645) := fsc
theorem q563 : FnScope pn16 pn16 (q17 q383) := fsc
theorem q393 : FnScope pn9 pn9 (q17 q225) := fsc
theorem sc_most : FnScope (pn9.append ["best", "counted"]) pn9 (q17 s_most) := fsc
theorem sc_often : FnScope ["bounds", "gathering", "part"] ["bounds", "gathering", "part"] (q17 q646) := fsc
theorem q190 : FnScope (pn10.append ["things", "half", "lower", "upper"]) pn10 (q17 q119) := fsc
theorem q564 : FnScope (pn1.append ["k"]) pn1 (q17 q384) := fsc
theorem q394 : FnScope (pn1.append ["k"]) pn1 (q17 q226) := fsc
theorem q260 : FnScope (pn5.append ["way"]) pn5 (q17 q156) := fsc
theorem q261 : FnScope ["number"] ["number"] (q17 q157) := fsc
theorem q449 : FnScope ["row"] ["row"] (q17 q175) := fsc
theorem q262 : FnScope ["text", "figures"] ["text"] (q17 q158) := fsc
theorem q263 : FnScope ["text"] ["text"] (q17 q105) := fsc
theorem q654 : FnScope pn7 pn7 (q17 q506) := fsc
theorem q239 : FnScope pn11 pn11 (q17 q136) := fsc
theorem q240 : FnScope ["counted"] ["counted"] (q17 q97) := fsc
theorem q395 : FnScope ["told"] ["told"] (q17 q146) := fsc
theorem q655 : FnScope pn17 pn17 (q17 q507) := fsc
theorem q450 : FnScope (pn8.append ["turn", "marks", "half"]) pn8 (q17 q287) := fsc
theorem q396 : FnScope ["marks", "tree", "turn", "half"] ["marks", "tree", "turn", "half"] (q17 q227) := fsc
theorem q397 : FnScope (pn12.append ["number"]) pn12 (q17 q228) := fsc
theorem q565 : FnScope ["tree", "place", "marks", "turn", "half"] ["tree", "place"] (q17 q385) := fsc
theorem q656 : FnScope pn17 pn17 (q17 q508) := fsc
theorem q566 : FnScope ["stretch", "tree", "start", "end", "lower", "upper"] ["stretch"] (q17 q386) := fsc
theorem q657 : FnScope ["one", "other"] ["one", "other"] (q17 q509) := fsc
theorem q658 : FnScope ["tree"] ["tree"] (q17 q510) := fsc
theorem q567 : FnScope ["tree"] ["tree"] (q17 q229) := fsc
theorem q241 : FnScope ["tree"] ["tree"] (q17 q137) := fsc
theorem sc_falls : FnScope ["stretch"] ["stretch"] (q17 q445) := fsc
theorem q191 : FnScope ["stretch"] ["stretch"] (q17 q120) := fsc
theorem q322 : FnScope (pn19.append ["own", "found", "turn"]) pn19 (q17 q181) := fsc
theorem q398 : FnScope pn15 pn15 (q17 q230) := fsc
theorem q451 : FnScope (pn15.append ["number"]) pn15 (q17 q288) := fsc
theorem q568 : FnScope (pn15.append ["number"]) pn15 (q17 q387) := fsc
theorem q569 : FnScope (pn15.append ["pieces"]) pn15 (q17 q231) := fsc
theorem q452 : FnScope (pn15.append ["pieces"]) pn15 (q17 q176) := fsc
theorem q399 : FnScope ["row", "words", "lead", "name"] ["row"] (q17 q232) := fsc
theorem q453 : FnScope ["lead", "name", "many"] ["lead", "name", "many"] (q17 q289) := fsc
theorem q400 : FnScope ["kinds", "words"] ["kinds", "words"] (q17 q147) := fsc
theorem q454 : FnScope ["kind", "word"] ["kind", "word"] (q17 q290) := fsc
theorem q401 : FnScope ["_law_script", "_law_k", "_law_number"] ["_law_script", "_law_k"] (q17 q233) := fsc
theorem q455 : FnScope ["_law_cell_here"] ["_law_cell_here"] (q17 q291) := fsc
theorem q402 : FnScope ["_law_pen_here", "_law_size", "_law_digit", "_law_number"] ["_law_pen_here", "_law_size"] (q17 q234) := fsc
theorem q264 : FnScope ["_law_pen_here", "_law_levels", "_law_low"] ["_law_pen_here"] (q17 q159) := fsc
theorem q242 : FnScope (pn6.append ["_law_found", "_law_k"]) pn6 (q17 q138) := fsc
theorem q323 : FnScope ["_law_levels", "_law_offsets", "_law_half", "_law_marks", "_law_lower"] ["_law_levels", "_law_offsets"] (q17 q79) := fsc
theorem q403 : FnScope ["_law_bounds_here", "_law_row"] ["_law_bounds_here", "_law_row"] (q17 q148) := fsc
theorem q324 : FnScope ["_law_words_here"] ["_law_words_here"] (q17 q121) := fsc
theorem q404 : FnScope (pn0.append ["_law_make", "_law_row", "_law_way", "_law_place", "_law_number", "_law_fresh", "_law_other", "_law_last", "_law_end"]) pn0 (q17 q149) := fsc
theorem q405 : FnScope (pn0.append ["_law_gathering", "_law_words_here", "_law_k", "_law_make", "_law_row", "_law_start", "_law_end"]) pn0 (q17 q235) := fsc
theorem q325 : FnScope ["_law_told"] ["_law_told"] (q17 q182) := fsc
theorem q192 : FnScope (pn0.append ["_law_way", "_law_gathering", "_law_word", "_law_number", "_law_higher", "_law_make", "_law_k", "_law_part", "_law_told"]) pn0 (q17 q91) := fsc
theorem sc_law : FnScope ["_law_script", "_law_pen_here", "_law_bounds_here", "_law_desk", "_law_makes", "_law_asked", "_law_k", "_law_row", "_law_plain", "_law_question_here", "_law_due"] ["_law_script"] (q17 s_law) := fsc
theorem q570 : FnScope pn18 pn18 (q17 q388) := fsc
theorem q456 : FnScope pn24 pn24 (q17 q292) := fsc
theorem q457 : FnScope (pn3.append ["tree"]) pn3 (q17 q293) := fsc
theorem q265 : FnScope ["self", "make", "place", "told"] ["self", "make", "place"] (q17 q160) := fsc
theorem q458 : FnScope pn3 pn3 (q17 q294) := fsc
theorem q406 : FnScope pn4 pn4 (q17 q236) := fsc
theorem q459 : FnScope ["self", "one", "other", "tree"] ["self", "one", "other"] (q17 q295) := fsc
theorem q460 : FnScope pn2 pn2 (q17 q296) := fsc
theorem q407 : FnScope pn2 pn2 (q17 q237) := fsc
theorem q659 : FnScope pn2 pn2 (q17 q511) := fsc
theorem sc_M_row : FnScope pn2 pn2 (q17 q647) := fsc
theorem q408 : FnScope (pn4.append ["tree"]) pn4 (q17 q238) := fsc
theorem q571 : FnScope pn2 pn2 (q17 q389) := fsc
theorem q660 : FnScope ["self", "tree", "sources"] ["self", "tree", "sources"] (q17 q512) := fsc
theorem q661 : FnScope pn18 pn18 (q17 q513) := fsc
theorem sc_M_say : FnScope (pn24.append ["said", "lead", "name", "values", "gathering"]) pn24 (q17 q446) := fsc
theorem q243 : FnScope ["self", "spot"] ["self", "spot"] (q17 q139) := fsc
theorem q662 : FnScope ["self", "name", "values"] ["self", "name", "values"] (q17 q514) := fsc
structure Bz (K : Fg) (mg : Mg) (cA cB cC cD cE cF cG cH : Addr) : Prop where
 all_ : mg "all" = none
 enumerate_ : mg "enumerate" = none
 int_ : mg "int" = none
 isinstance_ : mg "isinstance" = none
 len_ : mg "len" = none
 list_ : mg "list" = none
 max_ : mg "max" = none
 min_ : mg "min" = none
 range_ : mg "range" = none
 reversed_ : mg "reversed" = none
 str_ : mg "str" = none
 sum_ : mg "sum" = none
 tuple_ : mg "tuple" = none
 zip_ : mg "zip" = none
 m_LeastError : mg "LeastError" = some (.ref cA)
 m_Beyond : mg "Beyond" = some (.ref cB)
 m_NoSuch : mg "NoSuch" = some (.ref cC)
 m_TooMany : mg "TooMany" = some (.ref cD)
 m_NoText : mg "NoText" = some (.ref cE)
 m_NoRow : mg "NoRow" = some (.ref cF)
 m_Makes : mg "Makes" = some (.ref cG)
 m_Desk : mg "Desk" = some (.ref cH)
 nB : q135 K cG "bounds"
 nK : q135 K cG "kept"
 dB : q135 K cH "bounds"
 dM : q135 K cH "makes"
 fig : ∃ x t, mg "FIGURES" = some (.str x t) /\ x = "0123456789"
 frm : ∃ a, mg "FORMS" = some (.ref a) /\ frmB K a = true
 o_Desk : Cls K cH
 o_Makes : Cls K cG
 d_I_Makes : IDef K cG "Makes.__init__" q388 pn18
 d_M_of_row : MDef K cG "of_row" "Makes.of_row" q292 pn24
 d_M_put_in : MDef K cG "put_in" "Makes.put_in" q293 pn3
 d_M_taken_out : MDef K cG "taken_out" "Makes.taken_out" q160 ["self", "make", "place"]
 d_M_set_at : MDef K cG "set_at" "Makes.set_at" q294 pn3
 d_M_cut_out : MDef K cG "cut_out" "Makes.cut_out" q236 pn4
 d_M_joined : MDef K cG "joined" "Makes.joined" q295 ["self", "one", "other"]
 d_M_turned : MDef K cG "turned" "Makes.turned" q296 pn2
 d_M_flipped : MDef K cG "flipped" "Makes.flipped" q237 pn2
 d_M_tree : MDef K cG "tree" "Makes.tree" q511 pn2
 d_M_row : MDef K cG "row" "Makes.row" q647 pn2
 d_M_stretch : MDef K cG "stretch" "Makes.stretch" q238 pn4
 d_M_found : MDef K cG "found" "Makes.found" q389 pn2
 d_M_keep : MDef K cG "keep" "Makes.keep" q512 ["self", "tree", "sources"]
 d_I_Desk : IDef K cH "Desk.__init__" q513 pn18
 d_M_say : MDef K cH "say" "Desk.say" q446 pn24
 d_M_stretch_at : MDef K cH "stretch_at" "Desk.stretch_at" q139 ["self", "spot"]
 d_M_made : MDef K cH "made" "Desk.made" q514 ["self", "name", "values"]
 d_many_worths : Def K mg "many_worths" q153 ["levels"]
 d_top_of : Def K mg "top_of" q501 ["bounds"]
 d_where : Def K mg "where" q643 pn13
 d_span_of : Def K mg "span_of" q378 ["bounds", "way"]
 d_way_of : Def K mg "way_of" q502 pn13
 d_ahead : Def K mg "ahead" q644 ["marks", "mark", "place"]
 d_place_of : Def K mg "place_of" q285 ["marks", "mark", "number"]
 d_crossed : Def K mg "crossed" q379 ["marks", "start", "end"]
 d_tree_of : Def K mg "tree_of" q380 ["bounds", "row"]
 d_grown : Def K mg "grown" q220 ["least", "many", "row"]
 d_half_of : Def K mg "half_of" q381 ["tree", "mark"]
 d_size_of : Def K mg "size_of" q382 ["tree"]
 d_row_of : Def K mg "row_of" q503 ["bounds", "tree"]
 d_row_from : Def K mg "row_from" q286 ["least", "many", "tree"]
 d_merged : Def K mg "merged" q504 ["marks", "lower", "upper"]
 d_number_at : Def K mg "number_at" q221 pn12
 d_many_in : Def K mg "many_in" q222 ["gathering"]
 d_filled : Def K mg "filled" q320 ["gathering"]
 d_led : Def K mg "led" s_led pn14
 d_led_stretch : Def K mg "led_stretch" q154 pn19
 d_lifted : Def K mg "lifted" q505 pn8
 d_nth_least : Def K mg "nth_least" q223 pn5
 d_way_of_nth : Def K mg "way_of_nth" q180 ["levels", "gathering", "k"]
 d_nth_alike : Def K mg "nth_alike" q224 ["gathering", "way", "number"]
 d_many_lesser : Def K mg "many_lesser" q155 pn14
 d_below : Def K mg "below" q645 pn1
 d_between : Def K mg "between" q383 pn16
 d_worths_in : Def K mg "worths_in" q225 pn9
 d_most : Def K mg "most" s_most pn9
 d_often : Def K mg "often" q646 ["bounds", "gathering", "part"]
 d_counted_above : Def K mg "counted_above" q119 pn10
 d_next_up : Def K mg "next_up" q384 pn1
 d_next_down : Def K mg "next_down" q226 pn1
 d_counted_nth : Def K mg "counted_nth" q156 pn5
 d_show_number : Def K mg "show_number" q157 ["number"]
 d_show_row : Def K mg "show_row" q175 ["row"]
 d_read_number : Def K mg "read_number" q158 ["text"]
 d_are_figures : Def K mg "are_figures" q105 ["text"]
 d_answer : Def K mg "answer" q506 pn7
 d_plain_answer : Def K mg "plain_answer" q136 pn11
 d_show_counted : Def K mg "show_counted" q97 ["counted"]
 d_show_list : Def K mg "show_list" q146 ["told"]
 d_put_in : DefA K mg "put_in_changes" "put_in" q507 ["bounds", "tree", "place", "number"]
 d_with_way : Def K mg "with_way" q287 pn8
 d_with_half : Def K mg "with_half" q227 ["marks", "tree", "turn", "half"]
 d_taken_out : DefA K mg "taken_out_changes" "taken_out" q228 ["bounds", "tree", "place"]
 d_without : Def K mg "without" q385 ["tree", "place"]
 d_set_at : DefA K mg "set_at_changes" "set_at" q508 ["bounds", "tree", "place", "number"]
 d_cut_out : DefA K mg "cut_out_joins" "cut_out" q386 ["stretch"]
 d_joined : DefA K mg "joined_joins" "joined" q509 ["one", "other"]
 d_turned : DefA K mg "turned_joins" "turned" q510 ["tree"]
 d_flipped : DefA K mg "flipped_joins" "flipped" q229 ["tree"]
 d_not_too_many : Def K mg "not_too_many" q137 ["tree"]
 d_falls : Def K mg "falls" q445 ["stretch"]
 d_falls_by_ways : Def K mg "falls_by_ways" q120 ["stretch"]
 d_falls_from : Def K mg "falls_from" q181 pn19
 d_number_of : Def K mg "number_of" q230 pn15
 d_count_of : Def K mg "count_of" q288 pn15
 d_part_of : Def K mg "part_of" q387 pn15
 d_spot_of : Def K mg "spot_of" q231 pn15
 d_spots_of : Def K mg "spots_of" q176 pn15
 d_read_said : Def K mg "read_said" q232 ["row"]
 d_kinds_of : Def K mg "kinds_of" q289 ["lead", "name", "many"]
 d_values_of : Def K mg "values_of" q147 ["kinds", "words"]
 d_value_of : Def K mg "value_of" q290 ["kind", "word"]
 d__law_cell : Def K mg "_law_cell" q233 ["_law_script", "_law_k"]
 d__law_pen : Def K mg "_law_pen" q291 ["_law_cell_here"]
 d__law_take : Def K mg "_law_take" q234 ["_law_pen_here", "_law_size"]
 d__law_bounds : Def K mg "_law_bounds" q159 ["_law_pen_here"]
 d__law_numbers : Def K mg "_law_numbers" q138 pn6
 d__law_grown : Def K mg "_law_grown" q79 ["_law_levels", "_law_offsets"]
 d__law_tree : Def K mg "_law_tree" q148 ["_law_bounds_here", "_law_row"]
 d__law_words : Def K mg "_law_words" q121 ["_law_words_here"]
 d__law_made : Def K mg "_law_made" q149 pn0
 d__law_some : Def K mg "_law_some" q235 pn0
 d__law_shown : Def K mg "_law_shown" q182 ["_law_told"]
 d__law_question : Def K mg "_law_question" q91 pn0
variable {cA cB cC cD cE cF cG cH : Addr}
def Wths (low : Int) (L : Nat) (ns : List Int) : Prop := ∀ x ∈ ns, low <= x /\ x < low + 2 ^ L
theorem Wths.snoc {low : Int} {L : Nat} {y : Int} (h : Wths low L ns) (h0 : low <= y) (h1 : y < low + 2 ^ L) : Wths low L (ns ++ [y]) := fun x hx => by
 rcases List.mem_append.mp hx with h' | h'
 ·exact h x h'
 ·cases List.mem_singleton.mp h'
  exact ⟨h0, h1⟩
def PenN (H : Hp) (pen : Addr) : Prop := ∃ c n : Int, H pen = some (.lst [.int c, .int n])
theorem PenN.same (p : PenN H pen) (s : Same H H') : PenN H' pen := by
 obtain ⟨c, n, h⟩ := p
 exact ⟨c, n, s _ _ h⟩
theorem PenN.new (p : PenN H pen) (h : H q = none) (o : HO) : PenN (upd H q o) pen := p.same (q16 h o)
theorem PenN.at (p : PenN H pen) : ∃ xs, H pen = some (.lst xs) := by
 obtain ⟨c, n, h⟩ := p
 exact ⟨_, h⟩
theorem PenN.ne (p : PenN H pen) (h : H b = some (.tup xs)) : b ≠ pen := by
 obtain ⟨c, n, e⟩ := p
 exact ne_of h e (by intro z; cases z)
theorem PenN.fresh (p : PenN H pen) (h : H b = none) : b ≠ pen := by
 obtain ⟨c, n, e⟩ := p
 exact Ne.symm (q26 e h)
theorem PenN.other (p : PenN H pen) (hq : q ≠ pen) (o : HO) : PenN (upd H q o) pen := by
 obtain ⟨c, n, e⟩ := p
 exact ⟨c, n, by rw [q34 (Ne.symm hq)]; exact e⟩
theorem PenN.tk (p : PenN H pen) (k : Keep pen H H') : TKeep H H' := by
 obtain ⟨xs, e⟩ := p.at
 exact TKeep.keep k e
theorem PenN.free (p : PenN H' pen) (k : Keep pen H H') (h : H' l = none) : H l = none := by
 obtain ⟨xs, e⟩ := p.at
 exact k.free h e
inductive sp__law_cell (K : Fg) (vs : List V) (H : Hp) (Q : VK) (E : XK) : Prop
 | mk (a : Addr) (ns : List Int) (k : Int) (_ : vs = [.ref a, .int k]) (_ : SqL K H a (ns.map V.int)) (_ : ns.length <= 63) (_ : 0 <= k) (_ : k < 1000000) (_ : ∀ n : Int, Q (.int n) H) : sp__law_cell K vs H Q E
inductive sp__law_pen (u0 : Fg) (vs : List V) (H : Hp) (Q : VK) (E : XK) : Prop
 | mk (c : Int) (_ : vs = [.int c]) (_ : ∀ p, H p = none -> Q (.ref p) (upd H p (.lst [.int c, .int 0]))) : sp__law_pen u0 vs H Q E
inductive sp__law_take (u0 : Fg) (vs : List V) (H : Hp) (Q : VK) (E : XK) : Prop
 | mk (pen : Addr) (size : Int) (_ : vs = [.ref pen, .int size]) (_ : PenN H pen) (_ : 0 < size) (_ : size < 10 ^ 60) (_ : ∀ (v : Int) (H' : Hp), Keep pen H H' -> PenN H' pen -> 0 <= v -> v < size -> Q (.int v) H') : sp__law_take u0 vs H Q E
inductive sp__law_bounds (u0 : Fg) (vs : List V) (H : Hp) (Q : VK) (E : XK) : Prop
 | mk (pen : Addr) (_ : vs = [.ref pen]) (_ : PenN H pen) (_ : ∀ (b : Addr) (low : Int) (L : Nat) (H' : Hp), Keep pen H H' -> PenN H' pen -> H' b = some (.tup [.int low, .int (L : Int)]) -> L <= 40 -> -(10 ^ 40) < low -> low < 10 ^ 40 -> Q (.ref b) H') : sp__law_bounds u0 vs H Q E
inductive sp__law_numbers (u0 : Fg) (vs : List V) (H : Hp) (Q : VK) (E : XK) : Prop
 | mk (pen b : Addr) (low g : Int) (L : Nat) (_ : vs = [.ref pen, .ref b, .int g]) (_ : PenN H pen) (_ : H b = some (.tup [.int low, .int (L : Int)])) (_ : L <= 40) (_ : 0 <= g) (_ : g <= 300) (_ : ∀ (r : Addr) (ns : List Int) (H' : Hp), Keep pen H H' -> PenN H' pen -> H' r = some (.lst (ns.map V.int)) -> H r = none -> (ns.length : Int) <= g -> Wths low L ns -> Q (.ref r) H') : sp__law_numbers u0 vs H Q E
variable {P : Program} {w : World} {K : Fg} {mg : Mg} {base : Heap}
theorem q409 (z : Bz K mg cA cB cC cD cE cF cG cH) : Cal P w K mg base 1 "_law_cell" ["_law_script", "_law_k"] (sp__law_cell K) := by
 have sc := q401
 refine z.d__law_cell.cal fun f fd F => F.k sc fun _ _ _ s H _ Q _ hr h => ?_
 obtain ⟨a, ns, k, rfl, hS, h63, h0, hk, q⟩ := h
 refine ⟨_, (q12 (ps_if (q18 op_lt (pv 1) (pln z.len_ (q10 (pv 0) q11)) (q21 _))
 (q15 (q19 (pix q25 (pv 0) (pv 1))))
 q20)
 (q12 (pst 2 sc.nd (pe_op q31 (pe_op q98 (pv 1) q13) q13))
 (q12 (ps_if (q18 op_gt (pln z.len_ (q10 (pv 0) q11)) q13 (q21 _))
 (q15 (pst 2 sc.nd (pe_op q31 (pe_op q98 (pe_op q134 (pix q25 (pv 0) (pe_op q134 (pe_op q98 (pv 1) q13) (pln z.len_ (q10 (pv 0) q11)))) q13) q13) (pe_op q98 (pv 1) q13))))
 q20)
 (q15 (q19 (pe_op q134 (pe_op q98 (pv 2) (pv 2)) q13)))))), ?_⟩
 have hl : (ns.map V.int).length = ns.length := List.length_map _
 refine ⟨_, rfl, _, rfl, a, _, rfl, .inl hS, _, _, rfl, rfl, _, rfl, ?_⟩
 refine ite2 (fun c => ?_) (fun c => ?_)
 ·have c' : k < (((ns.map V.int).length : Nat) : Int) := of_decide_eq_true c
  rw [hl] at c'
  obtain ⟨v, _, hv⟩ := q127 h0 c'
  exact ⟨_, rfl, _, rfl, a, _, _, _, rfl, rfl, hS, hv, q v⟩
 ·refine ⟨_, rfl, _, _, rfl, rfl, .inr ⟨by decide, by decide⟩, _, _, rfl, rfl, ?_⟩
  refine ⟨_, rfl, a, _, rfl, .inl hS, _, _, rfl, rfl, _, rfl, ?_⟩
  refine ite2 (fun c2 => ?_) (fun c2 => ?_)
  ·have c2' : (0 : Int) < (((ns.map V.int).length : Nat) : Int) := of_decide_eq_true c2
   have m0 : 0 <= (k * 7) % (((ns.map V.int).length : Nat) : Int) := Int.emod_nonneg _ (by omega)
   have m1 : (k * 7) % (((ns.map V.int).length : Nat) : Int) < (((ns.map V.int).length : Nat) : Int) := Int.emod_lt_of_pos _ c2'
   obtain ⟨v, _, hv⟩ := q127 (l := ns) m0 (by rw [hl] at m1 ⊢; exact m1)
   have b0 : 0 <= v % 2147483647 := Int.emod_nonneg _ (by decide)
   have b1 : v % 2147483647 < 2147483647 := Int.emod_lt_of_pos _ (by decide)
   refine ⟨_, rfl, _, rfl, _, _, rfl, rfl, .inr ⟨by decide, by decide⟩, _, rfl, a, _, rfl, .inl hS, _, _, rfl, rfl, c2', a, _, _, _, rfl, rfl, hS, hv, _, _, rfl, rfl, (by show (0 : Int) < 2147483647; decide), _, _, rfl, rfl, .inr ⟨by decide, by decide⟩, _, rfl, _, _, rfl, rfl, .inr ⟨by decide, by decide⟩, _, _, rfl, rfl, ?_⟩
   exact ⟨_, rfl, _, rfl, _, _, rfl, rfl, .inl ⟨by omega, by omega⟩, _, _, rfl, rfl, (by show (0 : Int) < 2147483629; decide), q _⟩
  ·exact ⟨_, rfl, _, rfl, _, _, rfl, rfl, .inl ⟨by omega, by omega⟩, _, _, rfl, rfl, (by show (0 : Int) < 2147483629; decide), q _⟩
theorem q461 (z : Bz K mg cA cB cC cD cE cF cG cH) : Cal P w K mg base 1 "_law_pen" ["_law_cell_here"] (sp__law_pen K) := by
 have sc := q455
 refine z.d__law_pen.cal fun f fd F => F.k sc fun _ _ _ s H _ Q _ hr h => ?_
 obtain ⟨c, rfl, q⟩ := h
 refine ⟨_, (q15 (q19 (q35 (q10 (pv 0) (q10 q13 q11))))), ?_⟩
 exact ⟨_, rfl, szb rfl, q⟩
theorem q24 (z : Bz K mg cA cB cC cD cE cF cG cH) : Cal P w K mg base 1 "_law_take" ["_law_pen_here", "_law_size"] (sp__law_take K) := by
 have sc := q402
 refine z.d__law_take.cal fun f fd F => F.k sc fun _ _ _ s H _ Q _ hr h => ?_
 obtain ⟨pen, size, rfl, ⟨c, n, hp⟩, s0, s1, q⟩ := h
 refine ⟨_, (q12 (ps_if (PW.pt (pw_or (q18 op_lt (pix q25 (pv 0) q13) q13 (q21 _)) (q80 (PW.pt (q271 (q18 op_eq (pix q25 (pv 0) q13) q13 (q21 _)) (q173 (q18 op_ge (pix q25 (pv 0) q13) (pe_op q592 q13 q13) (q21 _))))))))
 (q12 (q272 (pe_un q593 q13) (q589 (pv 0) q13 q310))
 (q12 (pst 2 sc.nd (pe_op q134 (pix q25 (pv 0) q13) (pv 1)))
 (q12 (q272 (pe_op q94 (pix q25 (pv 0) q13) (pv 1)) (q589 (pv 0) q13 q310))
 (q15 (q19 (pv 2))))))
 q20)
 (q12 (q272 (pe_op q31 (pix q25 (pv 0) q13) q13) (q589 (pv 0) q13 q310))
 (q12 (pst 3 sc.nd (pe_op q134 (pe_op q31 (pe_op q31 (pe_op q134 (pix q25 (pv 0) q13) q13) (pe_op q98 q13 (pix q25 (pv 0) q13))) q13) q13))
 (q12 (pst 3 sc.nd (pe_op q134 (pe_op q98 (pv 3) (pe_op q31 (pv 3) q13)) q13))
 (q15 (q19 (pe_op q134 (pe_op q94 (pe_op q134 (pe_op q98 (pv 3) (pe_op q31 (pv 3) q13)) q13) q13) (pv 1)))))))), ?_⟩
 refine ⟨_, rfl, pen, _, _, _, rfl, rfl, SqL.of hp, rfl, _, _, rfl, rfl, _, rfl, ?_⟩
 refine ite2 (fun c1 => ?_) (fun c1 => ?_)
 ·refine iteT ?_
  refine ⟨_, rfl, _, rfl, pen, _, _, 1, rfl, rfl, hp, rfl, ?_⟩
  refine ⟨_, rfl, pen, _, _, _, rfl, rfl, SqL.of q14, rfl, _, rfl, _, _, rfl, rfl, s0, ?_⟩
  refine ⟨_, rfl, pen, _, _, _, rfl, rfl, SqL.of q14, rfl, _, rfl, _, _, rfl, rfl, ⟨s0, s1⟩, _, rfl, pen, _, _, 0, rfl, rfl, q14, rfl, _, rfl, ?_⟩
  exact q _ _ ((Keep.set pen H _).trans (Keep.set pen _ _)) ⟨_, _, q14⟩ (Int.emod_nonneg _ (by omega)) (Int.emod_lt_of_pos _ s0)
 ·refine ⟨_, rfl, pen, _, _, _, rfl, rfl, SqL.of hp, rfl, rfl, _, rfl, ?_⟩
  refine ite2 (fun c2 => ?_) (fun c2 => ?_)
  ·refine ⟨_, rfl, pen, _, _, _, rfl, rfl, SqL.of hp, rfl, _, _, rfl, rfl, ⟨by decide, by decide, by decide⟩, _, _, rfl, rfl, _, rfl, ?_⟩
   refine ite2 (fun c3 => ?_) (fun c3 => ?_)
   ·
    refine ⟨_, rfl, _, rfl, pen, _, _, 1, rfl, rfl, hp, rfl, ?_⟩
    refine ⟨_, rfl, pen, _, _, _, rfl, rfl, SqL.of q14, rfl, _, rfl, _, _, rfl, rfl, s0, ?_⟩
    refine ⟨_, rfl, pen, _, _, _, rfl, rfl, SqL.of q14, rfl, _, rfl, _, _, rfl, rfl, ⟨s0, s1⟩, _, rfl, pen, _, _, 0, rfl, rfl, q14, rfl, _, rfl, ?_⟩
    exact q _ _ ((Keep.set pen H _).trans (Keep.set pen _ _)) ⟨_, _, q14⟩ (Int.emod_nonneg _ (by omega)) (Int.emod_lt_of_pos _ s0)
   ·
    refine ⟨_, rfl, pen, _, _, _, rfl, rfl, SqL.of hp, rfl, _, _, rfl, rfl, _, rfl, pen, _, _, 1, rfl, rfl, hp, rfl, ?_⟩
    refine ⟨_, rfl, pen, _, _, _, rfl, rfl, SqL.of q14, rfl, _, _, rfl, rfl, (by show (0 : Int) < 2147483647; decide), _, rfl, pen, _, _, _, rfl, rfl, SqL.of q14, rfl, _, _, rfl, rfl, .inl ⟨by decide, by decide⟩, _, _, rfl, rfl, _, _, rfl, rfl, _, _, rfl, rfl, (by show (0 : Int) < 2147483629; decide), ?_⟩
    generalize hx : ((c % 2147483647 + 40503 * (n + 1) + 11) % 2147483629) = x1
    have g0 : 0 <= x1 := by rw [<- hx]; exact Int.emod_nonneg _ (by decide)
    have g1 : x1 < 2147483629 := by rw [<- hx]; exact Int.emod_lt_of_pos _ (by decide)
    refine ⟨_, rfl, _, rfl, _, _, rfl, rfl, _, _, rfl, rfl, .inl ⟨by omega, by omega⟩, _, _, rfl, rfl, (by show (0 : Int) < 2147483587; decide), ?_⟩
    generalize hy : (x1 * (x1 + 48271) % 2147483587) = x2
    have d0 : 0 <= x2 := by rw [<- hy]; exact Int.emod_nonneg _ (by decide)
    have d1 : x2 < 2147483587 := by rw [<- hy]; exact Int.emod_lt_of_pos _ (by decide)
    refine ⟨_, rfl, _, rfl, _, _, rfl, rfl, _, _, rfl, rfl, .inl ⟨by omega, by omega⟩, _, _, rfl, rfl, (by show (0 : Int) < 2305843009213693951; decide), _, _, rfl, rfl, ⟨by decide, by decide⟩, _, rfl, _, _, rfl, rfl, s0, ?_⟩
    exact q _ _ (Keep.set pen H _) ⟨_, _, q14⟩ (Int.emod_nonneg _ (by omega)) (Int.emod_lt_of_pos _ s0)
  ·refine iteF ?_
   refine ⟨_, rfl, pen, _, _, _, rfl, rfl, SqL.of hp, rfl, _, _, rfl, rfl, _, rfl, pen, _, _, 1, rfl, rfl, hp, rfl, ?_⟩
   refine ⟨_, rfl, pen, _, _, _, rfl, rfl, SqL.of q14, rfl, _, _, rfl, rfl, (by show (0 : Int) < 2147483647; decide), _, rfl, pen, _, _, _, rfl, rfl, SqL.of q14, rfl, _, _, rfl, rfl, .inl ⟨by decide, by decide⟩, _, _, rfl, rfl, _, _, rfl, rfl, _, _, rfl, rfl, (by show (0 : Int) < 2147483629; decide), ?_⟩
   generalize hx : ((c % 2147483647 + 40503 * (n + 1) + 11) % 2147483629) = x1
   have g0 : 0 <= x1 := by rw [<- hx]; exact Int.emod_nonneg _ (by decide)
   have g1 : x1 < 2147483629 := by rw [<- hx]; exact Int.emod_lt_of_pos _ (by decide)
   refine ⟨_, rfl, _, rfl, _, _, rfl, rfl, _, _, rfl, rfl, .inl ⟨by omega, by omega⟩, _, _, rfl, rfl, (by show (0 : Int) < 2147483587; decide), ?_⟩
   generalize hy : (x1 * (x1 + 48271) % 2147483587) = x2
   have d0 : 0 <= x2 := by rw [<- hy]; exact Int.emod_nonneg _ (by decide)
   have d1 : x2 < 2147483587 := by rw [<- hy]; exact Int.emod_lt_of_pos _ (by decide)
   refine ⟨_, rfl, _, rfl, _, _, rfl, rfl, _, _, rfl, rfl, .inl ⟨by omega, by omega⟩, _, _, rfl, rfl, (by show (0 : Int) < 2305843009213693951; decide), _, _, rfl, rfl, ⟨by decide, by decide⟩, _, rfl, _, _, rfl, rfl, s0, ?_⟩
   exact q _ _ (Keep.set pen H _) ⟨_, _, q14⟩ (Int.emod_nonneg _ (by omega)) (Int.emod_lt_of_pos _ s0)
theorem q266 (z : Bz K mg cA cB cC cD cE cF cG cH) : Cal P w K mg base 2 "_law_bounds" ["_law_pen_here"] (sp__law_bounds K) := by
 have sc := q264
 refine z.d__law_bounds.cal fun f fd F => F.k sc fun _ _ _ s H _ Q _ hr h => ?_
 obtain ⟨pen, rfl, P0, q⟩ := h
 refine ⟨_, (q12 (pst 1 sc.nd (pix q25 (q35 (q10 (pe_fn (q24 z) hr.m (by rfl) (q10 (pv 0) (q10 q13 q11))) (q10 q13 (q10 (pe_fn (q24 z) hr.m (by rfl) (q10 (pv 0) (q10 q13 q11))) (q10 q13 q11))))) (pe_fn (q24 z) hr.m (by rfl) (q10 (pv 0) (q10 q13 q11)))))
 (q12 (pst 2 sc.nd (pix q25 (q35 (q10 q13 (q10 (pe_un q593 q13) (q10 (pe_op q51 (pe_fn (q24 z) hr.m (by rfl) (q10 (pv 0) (q10 (pe_op q592 q13 q13) q11))) (pe_op q592 q13 q13)) (q10 q13 q11))))) (pe_fn (q24 z) hr.m (by rfl) (q10 (pv 0) (q10 q13 q11)))))
 (q15 (q19 (q27 (q10 (pv 2) (q10 (pv 1) q11))))))), ?_⟩
 refine ⟨_, rfl, pen, 5, rfl, P0, by decide, by decide, fun v1 H1 k1 P1 a1 b1 => ?_⟩
 refine ⟨_, rfl, pen, 41, rfl, P1, by decide, by decide, fun v2 H2 k2 P2 a2 b2 => ⟨szb rfl, fun p hp => ?_⟩⟩
 refine ⟨_, rfl, pen, 4, rfl, P2.new hp _, by decide, by decide, fun v3 H3 k3 P3 a3 b3 => ?_⟩
 obtain ⟨L', hm, hv⟩ := q127 (l := [v1, 3, v2, 2]) a3 b3
 have hL : 0 <= L' /\ L' <= 40 := by
  simp only [List.mem_cons, List.not_mem_nil, or_false] at hm
  omega
 obtain ⟨L, rfl⟩ := Int.eq_ofNat_of_zero_le hL.1
 have hL2 : L <= 40 := by omega
 have k03 : Keep pen H H3 := k1.trans (k2.trans ((Keep.new hp _).trans k3))
 refine ⟨p, _, _, _, rfl, rfl, SqL.of (k3 _ _ (P2.fresh hp) q14), hv, ?_⟩
 refine ⟨_, rfl, _, rfl, _, _, rfl, rfl, ⟨by decide, by decide, by decide⟩, pen, _, rfl, P3, by decide, by decide, fun v4 H4 k4 P4 a4 b4 => ⟨_, _, rfl, rfl, ⟨by decide, by decide, by decide⟩, _, _, rfl, rfl, szb rfl, fun p2 hp2 => ?_⟩⟩
 refine ⟨_, rfl, pen, 4, rfl, P4.new hp2 _, by decide, by decide, fun v5 H5 k5 P5 a5 b5 => ?_⟩
 obtain ⟨low, hm2, hv2⟩ := q127 (l := [0, -7, v4 - 10 ^ (38 : Int).toNat, 1]) a5 b5
 have hlo : -(10 ^ 40) < low /\ low < 10 ^ 40 := by
  have b4' : v4 < 10 ^ 39 := b4
  rw [show (10 : Int) ^ (38 : Int).toNat = 10 ^ 38 from rfl] at hm2
  simp only [List.mem_cons, List.not_mem_nil, or_false] at hm2
  omega
 refine ⟨p2, _, _, _, rfl, rfl, SqL.of (k5 _ _ (P4.fresh hp2) q14), hv2, ?_⟩
 refine ⟨_, rfl, _, rfl, szb rfl, fun b hb => ?_⟩
 exact q b low L _ (k03.trans (k4.trans ((Keep.new hp2 _).trans (k5.trans (Keep.new hb _))))) (P5.new hb _) q14 hL2 hlo.1 hlo.2
theorem q244 (z : Bz K mg cA cB cC cD cE cF cG cH) : Cal P w K mg base 2 "_law_numbers" pn6 (sp__law_numbers K) := by
 have sc := q242
 refine z.d__law_numbers.cal fun f fd F => F.k sc fun _ _ _ s H _ Q _ hr h => ?_
 obtain ⟨pen, b, low, g, L, rfl, P0, hb, hL, g0, g1, q⟩ := h
 refine ⟨_, (q12 (pst 3 sc.nd (q35 q11))
 (q12 (q81 PassesOwn.never rfl (q86 rfl z.range_ (q10 (pe_fn (q24 z) hr.m (by rfl) (q10 (pv 0) (q10 (pe_op q31 (pv 2) q13) q11))) q11)) (pgn 4 sc.nd)
 (q15 (ps_if (PW.pt (q271 (q18 op_eq (pe_fn (q24 z) hr.m (by rfl) (q10 (pv 0) (q10 q13 q11))) q13 (q21 _)) (q173 (q18 (op_neL hr.units) (pv 3) (q35 q11) (q21 _)))))
 (q15 (q73 (pe_bm PySem.F.plainAttrs_list PySem.F.slot_list_append PySem.F.type_list_append q55 (pv 3) (q10 (pix q25 (pv 3) (pe_fn (q24 z) hr.m (by rfl) (q10 (pv 0) (q10 (pln z.len_ (q10 (pv 3) q11)) q11)))) q11))))
 (q15 (q73 (pe_bm PySem.F.plainAttrs_list PySem.F.slot_list_append PySem.F.type_list_append q55 (pv 3) (q10 (pe_op q31 (pix q23 (pv 1) q13) (pe_fn (q24 z) hr.m (by rfl) (q10 (pv 0) (q10 (pe_op q275 q13 (pix q23 (pv 1) q13)) q11)))) q11)))))))
 (q15 (q19 (pv 3))))), ?_⟩
 have hp := p2pos L
 have hq := p2le hL
 refine ⟨szb rfl, fun r hr => ?_⟩
 have P1 : PenN (upd H r (.lst [])) pen := P0.new hr _
 have hrp : r ≠ pen := P0.fresh hr
 refine ⟨_, rfl, _, rfl, _, _, rfl, rfl, pen, _, rfl, P1, by omega, by omega, fun m H2 k2 P2 m0 m1 => ⟨m, rfl, by omega, by omega, q87 (n := m.toNat) (fun i σ H3 => ∃ (ns : List Int) (v4 : Option V), σ = [some (.ref pen), some (.ref b), some (.int g), some (.ref r), v4] /\ H3 r = some (.lst (ns.map V.int)) /\ ns.length = i /\ Wths low L ns /\ Keep pen H H3 /\ PenN H3 pen)
  ⟨[], none, rfl, k2 _ _ hrp q14, rfl, fun x hx => absurd hx (by simp), (Keep.new hr _).trans k2, P2⟩ ?_ ?_⟩⟩
 ·rintro i σ H3 hi ⟨ns, v4, rfl, hr3, hl, hw, k3, P3⟩
  have fin : ∀ (y : Int) (H9 : Hp), low <= y -> y < low + 2 ^ L -> Keep pen H3 H9 -> PenN H9 pen -> H9 r = some (.lst (ns.map V.int)) /\ (ns.map V.int).length < sizeLine /\
    ∃ (ns' : List Int) (v4' : Option V), [some (V.ref pen), some (.ref b), some (.int g), some (.ref r), some (.int (0 + (i : Int)))] = [some (V.ref pen), some (.ref b), some (.int g), some (.ref r), v4'] /\ (upd H9 r (.lst (ns.map V.int ++ [.int y]))) r = some (.lst (ns'.map V.int)) /\ ns'.length = i + 1 /\ Wths low L ns' /\
     Keep pen H (upd H9 r (.lst (ns.map V.int ++ [.int y]))) /\ PenN (upd H9 r (.lst (ns.map V.int ++ [.int y]))) pen := by
   intro y H9 y0 y1 k9 P9
   have hr9 := k9 _ _ hrp hr3
   refine ⟨hr9, by rw [List.length_map, hl]; exact q66 (by omega), ns ++ [y], _, rfl, ?_, by rw [List.length_append, hl] <;> rfl, hw.snoc y0 y1, (k3.trans k9).own hr, P9.other hrp _⟩
   rw [q14, List.map_append]
   rfl
  refine ⟨_, rfl, pen, 4, rfl, P3, by decide, by decide, fun u H4 k4 P4 a4 b4 => ⟨rfl, _, rfl, ?_⟩⟩
  have hr4 := k4 _ _ hrp hr3
  have hb4 : H4 b = some (.tup [.int low, .int (L : Int)]) := k4 _ _ (P0.ne hb) (k3 _ _ (P0.ne hb) hb)
  refine ite2 (fun c => ?_) (fun c => ?_)
  ·refine ⟨_, rfl, szb rfl, fun e he => ?_⟩
   have s5 := q16 he (.lst [])
   refine ⟨r, e, ns, [], rfl, rfl, SqL.of (s5 _ _ hr4), SqL.of q14, _, rfl, ?_⟩
   have P5 := P4.same s5
   have hr5 := s5 _ _ hr4
   have hb5 := s5 _ _ hb4
   have k5 : Keep pen H3 (upd H4 e (.lst [])) := k4.trans (Keep.same s5)
   generalize upd H4 e (.lst []) = H5 at *
   refine ite2 (fun c2 => ?_) (fun c2 => ?_)
   ·have hne : 0 < ns.length := by
     cases ns with
     | nil => exact absurd c2 (by decide)
     | cons x l => exact Nat.succ_pos _
    refine ⟨_, rfl, .inl ⟨rfl, _, SqL.of hr5⟩, _, rfl, _, rfl, _, rfl, r, _, rfl, .inl (SqL.of hr5), pen, _, rfl, P5, by rw [List.length_map]; omega, by rw [List.length_map]; omega, fun u6 H6 k6 P6 a6 b6 => ?_⟩
    rw [List.length_map] at b6
    obtain ⟨y, hy, hv⟩ := q127 (l := ns) a6 b6
    obtain ⟨f1, f2, f3⟩ := fin y H6 (hw y hy).1 (hw y hy).2 (k5.trans k6) P6
    exact ⟨r, _, _, _, rfl, rfl, SqL.of f1, hv, r, _, _, rfl, rfl, f1, f2, f3⟩
   ·
    refine ⟨_, rfl, .inl ⟨rfl, _, SqL.of hr5⟩, _, rfl, b, _, _, _, rfl, rfl, SqT.of hb5, rfl, _, rfl, _, rfl, b, _, _, _, rfl, rfl, SqT.of hb5, rfl, _, _, rfl, rfl, ⟨by omega, by omega, by decide⟩, ?_⟩
    dsimp only; rw [q216]
    refine ⟨pen, _, rfl, P5, hp, by omega, fun u6 H6 k6 P6 a6 b6 => ⟨_, _, rfl, rfl, ?_⟩⟩
    obtain ⟨f1, f2, f3⟩ := fin (low + u6) H6 (by omega) (by omega) (k5.trans k6) P6
    exact ⟨r, _, _, rfl, rfl, f1, f2, f3⟩
  ·refine iteF ?_
   have P5 := P4
   have hr5 := hr4
   have hb5 := hb4
   have k5 := k4
   refine ⟨_, rfl, .inl ⟨rfl, _, SqL.of hr5⟩, _, rfl, b, _, _, _, rfl, rfl, SqT.of hb5, rfl, _, rfl, _, rfl, b, _, _, _, rfl, rfl, SqT.of hb5, rfl, _, _, rfl, rfl, ⟨by omega, by omega, by decide⟩, ?_⟩
   dsimp only; rw [q216]
   refine ⟨pen, _, rfl, P5, hp, by omega, fun u6 H6 k6 P6 a6 b6 => ⟨_, _, rfl, rfl, ?_⟩⟩
   obtain ⟨f1, f2, f3⟩ := fin (low + u6) H6 (by omega) (by omega) (k5.trans k6) P6
   exact ⟨r, _, _, rfl, rfl, f1, f2, f3⟩
 ·rintro σ H3 ⟨ns, v4, rfl, hr3, hl, hw, k3, P3⟩
  exact ⟨_, rfl, q r ns H3 k3 P3 hr3 hr (by omega) hw⟩
inductive sp_many_worths (u0 : Fg) (vs : List V) (H : Hp) (Q : VK) (E : XK) : Prop
 | mk (L : Nat) (_ : vs = [.int (L : Int)]) (_ : L <= 40) (_ : Q (.int (2 ^ L)) H) : sp_many_worths u0 vs H Q E
inductive sp_top_of (K : Fg) (vs : List V) (H : Hp) (Q : VK) (E : XK) : Prop
 | mk (b : Addr) (low : Int) (L : Nat) (_ : vs = [.ref b]) (_ : SqT K H b [.int low, .int (L : Int)]) (_ : L <= 40) (_ : Q (.int (low + 2 ^ L - 1)) H) : sp_top_of K vs H Q E
theorem q43 (z : Bz K mg cA cB cC cD cE cF cG cH) : Cal P w K mg base 1 "many_worths" ["levels"] (sp_many_worths K) := by
 have sc := q257
 refine z.d_many_worths.cal fun f fd F => F.k sc fun _ _ _ s H _ Q _ hr h => ?_
 obtain ⟨L, rfl, hL, q⟩ := h
 refine ⟨_, (q12 (pst 1 sc.nd q13)
 (q12 (q81 PassesOwn.never rfl (q86 rfl z.range_ (q10 (pv 0) q11)) (pgn 2 sc.nd)
 (q15 (pst 1 sc.nd (pe_op q98 (pv 1) q13))))
 (q15 (q19 (pv 1))))), ?_⟩
 refine ⟨_, rfl, (L : Int), rfl, by omega, by omega, q87 (n := L) (fun i σ H2 => ∃ v : Option V, σ = [some (.int (L : Int)), some (.int (2 ^ i)), v] /\ H2 = H) ⟨none, rfl, rfl⟩ ?_ ?_⟩
 ·rintro i σ H2 hi ⟨v, rfl, rfl⟩
  refine ⟨_, rfl, _, _, rfl, rfl, .inr ⟨by decide, by decide⟩, ?_⟩
  exact ⟨_, by rw [Int.pow_succ]; rfl, rfl⟩
 ·rintro σ H2 ⟨v, rfl, rfl⟩
  exact ⟨_, rfl, q⟩
theorem q663 (z : Bz K mg cA cB cC cD cE cF cG cH) : Cal P w K mg base 2 "top_of" ["bounds"] (sp_top_of K) := by
 have sc := q648
 refine z.d_top_of.cal fun f fd F => F.k sc fun _ _ _ s H _ Q _ hr h => ?_
 obtain ⟨b, low, L, rfl, hb, hL, q⟩ := h
 refine ⟨_, (q15 (q19 (pe_op q51 (pe_op q31 (pix q23 (pv 0) q13) (pe_fn (q43 z) hr.m (by rfl) (q10 (pix q23 (pv 0) q13) q11))) q13))), ?_⟩
 exact ⟨_, rfl, b, _, _, _, rfl, rfl, hb, rfl, _, rfl, b, _, _, _, rfl, rfl, hb, rfl, L, rfl, hL, _, _, rfl, rfl, _, _, rfl, rfl, q⟩
def q245 (low : Int) (L : Nat) (n : Int) : Str := if n < low then "below" else if low + 2 ^ L - 1 < n then "above" else "within"
theorem q664 {low n : Int} {L : Nat} (h : low <= n /\ n < low + 2 ^ L) : q245 low L n = "within" := by
 unfold q245
 rw [if_neg (by omega), if_neg (by omega)]
inductive sp_where (K : Fg) (vs : List V) (H : Hp) (Q : VK) (E : XK) : Prop
 | mk (b : Addr) (low n : Int) (L : Nat) (_ : vs = [.ref b, .int n]) (_ : SqT K H b [.int low, .int (L : Int)]) (_ : L <= 40) (_ : Q (.str (q245 low L n)) H) : sp_where K vs H Q E
theorem q326 (z : Bz K mg cA cB cC cD cE cF cG cH) : Cal P w K mg base 3 "where" pn13 (sp_where K) := by
 have sc := sc_where
 refine z.d_where.cal fun f fd F => F.k sc fun _ _ _ s H _ Q _ hr h => ?_
 obtain ⟨b, low, n, L, rfl, hb, hL, q⟩ := h
 refine ⟨_, (q12 (ps_if (q18 op_lt (pv 1) (pix q23 (pv 0) q13) (q21 _))
 (q15 (q19 q22))
 q20)
 (q12 (ps_if (q18 op_gt (pv 1) (pe_fn (q663 z) hr.m (by rfl) (q10 (pv 0) q11)) (q21 _))
 (q15 (q19 q22))
 q20)
 (q15 (q19 q22)))), ?_⟩
 unfold q245 at q
 refine ⟨_, rfl, _, rfl, b, _, _, _, rfl, rfl, hb, rfl, _, _, rfl, rfl, _, rfl, ?_⟩
 refine ite2 (fun c => ?_) (fun c => ?_)
 ·rw [if_pos (of_decide_eq_true c)] at q
  exact q
 ·rw [if_neg (fun z => c (decide_eq_true z))] at q
  refine ⟨_, rfl, _, rfl, b, low, L, rfl, hb, hL, _, _, rfl, rfl, _, rfl, ?_⟩
  refine ite2 (fun c => ?_) (fun c => ?_)
  ·rw [if_pos (of_decide_eq_true c)] at q
   exact q
  ·rw [if_neg (fun z => c (decide_eq_true z))] at q
   exact q
def wayW : Nat -> Int -> List Int
 | 0, _ => []
 | e + 1, o => if o < 2 ^ e then 0 :: wayW e o else 1 :: wayW e (o - 2 ^ e)
theorem q327 {e : Nat} {o : Int} (h : o < 2 ^ e) : wayW (e + 1) o = 0 :: wayW e o := by
 show (if o < 2 ^ e then _ else _) = _
 rw [if_pos h]
theorem q328 {e : Nat} {o : Int} (h : ¬ o < 2 ^ e) : wayW (e + 1) o = 1 :: wayW e (o - 2 ^ e) := by
 show (if o < 2 ^ e then _ else _) = _
 rw [if_neg h]
theorem pow2 (e : Nat) : (2 : Int) ^ (e + 1) = 2 ^ e + 2 ^ e := by rw [Int.pow_succ]; omega
theorem q199 : ∀ (e : Nat) (o : Int), (wayW e o).length = e
 | 0, _ => rfl
 | e + 1, o => by
  by_cases h : o < 2 ^ e
  ·rw [q327 h, List.length_cons, q199 e]
  ·rw [q328 h, List.length_cons, q199 e]
theorem q329 : ∀ (e : Nat) (o : Int), ∀ m ∈ wayW e o, m = 0 \/ m = 1
 | 0, _, m, hm => by cases hm
 | e + 1, o, m, hm => by
  by_cases h : o < 2 ^ e
  ·rw [q327 h] at hm
   rcases List.mem_cons.mp hm with z | z
   ·exact .inl z
   ·exact q329 e _ m z
  ·rw [q328 h] at hm
   rcases List.mem_cons.mp hm with z | z
   ·exact .inr z
   ·exact q329 e _ m z
theorem pow_half (e : Nat) : (2 : Int) ^ (e + 1) / 2 = 2 ^ e := by rw [Int.pow_succ]; exact Int.mul_ediv_cancel _ (by decide)
theorem where_in {low n : Int} {L : Nat} : q245 low L n = "within" ↔ (low <= n /\ n <= low + 2 ^ L - 1) := by
 unfold q245
 by_cases h : n < low
 ·rw [if_pos h]
  exact ⟨fun z => absurd z (by decide), fun z => by omega⟩
 ·rw [if_neg h]
  by_cases h2 : low + 2 ^ L - 1 < n
  ·rw [if_pos h2]
   exact ⟨fun z => absurd z (by decide), fun z => by omega⟩
  ·rw [if_neg h2]
   exact ⟨fun _ => by omega, fun _ => rfl⟩
def grow (low : Int) : Nat -> List Int -> Tr
 | 0, ns => if ns = [] then .non else .many ns.length
 | e + 1, ns => if ns = [] then .non else .part (ns.map fun n => if n < low + 2 ^ e then 0 else 1) (grow low e (ns.filter fun n => decide (n < low + 2 ^ e))) (grow (low + 2 ^ e) e (ns.filter fun n => decide (low + 2 ^ e <= n)))
theorem q38 (low : Int) (e : Nat) : grow low e [] = .non := by cases e <;> rfl
theorem q30 {low : Int} {ns : List Int} (h : ns ≠ []) : grow low 0 ns = .many ns.length := by unfold grow; rw [if_neg h]
theorem q161 {low : Int} {e : Nat} {ns : List Int} (h : ns ≠ []) : grow low (e + 1) ns = .part (ns.map fun n => if n < low + 2 ^ e then 0 else 1) (grow low e (ns.filter fun n => decide (n < low + 2 ^ e))) (grow (low + 2 ^ e) e (ns.filter fun n => decide (low + 2 ^ e <= n))) := by
 rw [grow, if_neg h]
abbrev kb_grown : Nat := 0
abbrev q515 : Nat := 40
inductive spe_grown (K : Fg) (e : Nat) (vs : List V) (H : Hp) (Q : VK) (E : XK) : Prop
 | mk (least : Int) (a : Addr) (ns : List Int) (_ : vs = [.int least, .int (2 ^ e), .ref a]) (_ : SqL K H a (ns.map V.int)) (_ : ns.length <= 1000) (_ : ∀ (H' : Hp) (v : V), Same H H' -> q29 H' v (grow least e ns) -> Q v H') : spe_grown K e vs H Q E
def sp_grown (K : Fg) : Sp := fun vs H Q E => ∃ e, e <= q515 /\ spe_grown K e vs H Q E
theorem ok_grown (z : Bz K mg cA cB cC cD cE cF cG cH) : Cal P w K mg base 41 "grown" ["least", "many", "row"] (sp_grown K) := by
 have sc := sc_grown
 refine z.d_grown.recur (k := kb_grown) (sp := spe_grown K) q515 fun e hen c_grown f fd F => F.k sc fun _ _ _ s H _ Q _ hr h => ?_
 obtain ⟨least, a, ns, rfl, ha, hl, q⟩ := h
 refine ⟨_, (q12 (ps_if (q18 op_eq (pln z.len_ (q10 (pv 2) q11)) q13 (q21 _))
 (q15 (q19 q62))
 q20)
 (q12 (ps_if (q18 op_eq (pv 1) q13 (q21 _))
 (q15 (q19 (q27 (q10 q22 (q10 (pln z.len_ (q10 (pv 2) q11)) q11)))))
 q20)
 (q12 (pst 3 sc.nd (pe_op q94 (pv 1) q13))
 (q12 (pst 4 sc.nd (pe_op q31 (pv 0) (pv 3)))
 (q12 (pst 5 sc.nd (q32 q90 (by rfl) z.tuple_ q126 (q10 (q64 (cl := [("middle", s.heap.objs.size + 1 + 0)]) (cn := ["middle"]) (N := ["middle"]) (fr := [4]) (sc0 := q17 q220) rfl (q46 (pv 2)) (fun C s₂ H₂ fp => (q93 (q18 op_lt (pv 0) (pv 1) (q21 _)) q13 q13)) (by with_unfolding_all rfl) ⟨by with_unfolding_all rfl, trivial⟩ rfl rfl rfl cok rfl) q11)))
 (q12 (pst 6 sc.nd (pe_fn c_grown (hr.mono (Nat.le_refl _)) (by rfl) (q10 (pv 0) (q10 (pv 3) (q10 (q117 (cl := [("middle", s.heap.objs.size + 1 + 0)]) (cn := ["middle"]) (N := ["middle"]) (fr := [4]) (sc0 := q17 q220) rfl (q46 (pv 2)) (fun C s₂ H₂ fp => (pv 0)) (fun C s₂ H₂ fp => (q18 op_lt (pv 0) (pv 1) (q21 _))) (by with_unfolding_all rfl) ⟨by with_unfolding_all rfl, trivial⟩ rfl rfl rfl cok rfl) q11)))))
 (q12 (pst 7 sc.nd (pe_fn c_grown (hr.mono (Nat.le_refl _)) (by rfl) (q10 (pv 4) (q10 (pv 3) (q10 (q117 (cl := [("middle", s.heap.objs.size + 1 + 0)]) (cn := ["middle"]) (N := ["middle"]) (fr := [4]) (sc0 := q17 q220) rfl (q46 (pv 2)) (fun C s₂ H₂ fp => (pv 0)) (fun C s₂ H₂ fp => (q18 op_ge (pv 0) (pv 1) (q21 _))) (by with_unfolding_all rfl) ⟨by with_unfolding_all rfl, trivial⟩ rfl rfl rfl cok rfl) q11)))))
 (q15 (q19 (q27 (q10 q22 (q10 (pv 5) (q10 (pv 6) (q10 (pv 7) q11)))))))))))))), ?_⟩
 have hz : ns.length <= sizeLine := sz hl
 refine ⟨_, rfl, a, _, rfl, .inl ha, rfl, _, rfl, ?_⟩
 refine ite2 (fun c => ?_) (fun c => ?_)
 ·have c' : (((ns.map V.int).length : Nat) : Int) = 0 := V.int.inj (of_decide_eq_true c)
  rw [List.length_map] at c'
  have e0 : ns = [] := List.eq_nil_of_length_eq_zero (by omega)
  subst e0
  exact q H .non (Same.refl H) (by rw [q38]; rfl)
 ·have hne : ns ≠ [] := fun z => c (by rw [z]; exact decide_eq_true rfl)
  refine ⟨_, rfl, rfl, _, rfl, ?_⟩
  refine ite2 (fun c2 => ?_) (fun c2 => ?_)
  ·have e0 : e = 0 := p2one (V.int.inj (of_decide_eq_true c2))
   subst e0
   refine ⟨_, rfl, a, _, rfl, .inl ha, szb rfl, fun p hp => q _ _ (q16 hp _) ?_⟩
   rw [q30 hne]
   refine ⟨p, rfl, ?_⟩
   rw [q14, List.length_map]
  ·cases e with
   | zero => exact absurd (decide_eq_true rfl) c2
   | succ e =>
    refine ⟨_, rfl, _, _, rfl, rfl, ⟨by decide, by decide⟩, ?_⟩
    dsimp only
    rw [q619]
    refine ⟨_, rfl, _, rfl, _, _, rfl, rfl, ?_⟩
    refine ⟨_, rfl, a, rfl, ⟨_, ha⟩, fun D hD => ?_⟩
    refine q152 (g := fun n => .int (if n < least + 2 ^ e then 0 else 1)) ha hD hz (fun n _ H1 Q1 _ q1 => ?_) ?_
    ·refine ⟨_, rfl, _, rfl, _, _, rfl, rfl, _, rfl, ?_⟩
     refine ite2 (fun c3 => ?_) (fun c3 => ?_)
     ·rw [if_pos (of_decide_eq_true c3)] at q1
      exact q1
     ·rw [if_neg (fun z => c3 (decide_eq_true z))] at q1
      exact q1
    have s1 := q16 hD (.lst (ns.map fun n => V.int (if n < least + 2 ^ e then 0 else 1)))
    refine ⟨D, _, rfl, SqL.of q14, fun m H2 s2 hm => ?_⟩
    have s02 : Same H H2 := s1.trans s2
    have hm' : TupF H2 m ((ns.map fun n => if n < least + 2 ^ e then (0 : Int) else 1).map V.int) := by rw [List.map_map]; exact hm
    refine ⟨_, rfl, _, rfl, _, rfl, a, rfl, ⟨_, s02.seq ha⟩, fun D2 hD2 => ?_⟩
    refine q104 (p := fun n => decide (n < least + 2 ^ e)) (g := V.int) (s02.seq ha) hD2 hz (fun n _ H1 Q1 _ q1 => ⟨_, rfl, _, rfl, _, _, rfl, rfl, _, rfl, q1⟩) (fun n _ _ H1 Q1 _ q1 => ⟨_, rfl, q1⟩) ?_
    refine ⟨least, D2, _, rfl, SqL.of q14, Nat.le_trans (List.length_filter_le _ _) hl, fun H3 lo s3 hlo => ?_⟩
    have s03 : Same H H3 := s02.trans ((q16 hD2 _).trans s3)
    refine ⟨_, rfl, _, rfl, _, rfl, a, rfl, ⟨_, s03.seq ha⟩, fun D3 hD3 => ?_⟩
    refine q104 (p := fun n => decide (least + 2 ^ e <= n)) (g := V.int) (s03.seq ha) hD3 hz (fun n _ H1 Q1 _ q1 => ⟨_, rfl, _, rfl, _, _, rfl, rfl, _, rfl, q1⟩) (fun n _ _ H1 Q1 _ q1 => ⟨_, rfl, q1⟩) ?_
    refine ⟨least + 2 ^ e, D3, _, rfl, SqL.of q14, Nat.le_trans (List.length_filter_le _ _) hl, fun H4 hi s4 hhi => ?_⟩
    have s34 : Same H3 H4 := (q16 hD3 _).trans s4
    refine ⟨_, rfl, _, rfl, _, rfl, szb rfl, fun p hp => q _ _ (s03.trans (s34.trans (q16 hp _))) ?_⟩
    rw [q161 hne]
    have sp := q16 hp (.tup [.str "part", .ref m, lo, hi])
    have s24 : Same H2 H4 := (q16 hD2 _).trans (s3.trans s34)
    exact ⟨p, m, lo, hi, rfl, q14, (hm'.same s24).same sp, (hlo.same s34).same sp, hhi.same sp⟩
inductive sp_tree_of (K : Fg) (vs : List V) (H : Hp) (Q : VK) (E : XK) : Prop
 | mk (b a : Addr) (low : Int) (L : Nat) (ns : List Int) (_ : vs = [.ref b, .ref a]) (_ : SqT K H b [.int low, .int (L : Int)]) (_ : L <= 40) (_ : SqL K H a (ns.map V.int)) (_ : ns.length <= 1000) (_ : Wths low L ns) (_ : ∀ (H' : Hp) (v : V), Same H H' -> q29 H' v (grow low L ns) -> Q v H') : sp_tree_of K vs H Q E
theorem q572 (z : Bz K mg cA cB cC cD cE cF cG cH) : Cal P w K mg base 42 "tree_of" ["bounds", "row"] (sp_tree_of K) := by
 have sc := q559
 refine z.d_tree_of.cal fun f fd F => F.k sc fun _ _ _ s H _ Q _ hr h => ?_
 obtain ⟨b, a, low, L, ns, rfl, hb, hL, ha, hl, hw, q⟩ := h
 refine ⟨_, (q12 (q81 PassesOwn.never rfl (q46 (pv 1)) (pgn 2 sc.nd)
 (q15 (ps_if (q18 op_ne (pe_fn (q326 z) hr.m (by rfl) (q10 (pv 0) (q10 (pv 2) q11))) q22 (q21 _))
 (q15 q36)
 q20)))
 (q15 (q19 (pe_fn (ok_grown z) hr.m (by rfl) (q10 (pix q23 (pv 0) q13) (q10 (pe_fn (q43 z) hr.m (by rfl) (q10 (pix q23 (pv 0) q13) q11)) (q10 (pv 1) q11))))))), ?_⟩
 refine ⟨_, rfl, a, rfl, ⟨_, ha⟩, q306 (K := K) (a := a) (xs := ns.map V.int) (fun i σ H2 => ∃ v : Option V, σ = [some (.ref b), some (.ref a), v] /\ H2 = H) ⟨none, rfl, rfl⟩ (fun i σ H2 _ ⟨_, _, e⟩ => by rw [e]; exact ha) ?_ ?_⟩
 ·rintro i x σ H2 hi ⟨v, rfl, rfl⟩
  obtain ⟨n, hn, rfl⟩ := List.mem_map.mp (List.mem_of_getElem? hi)
  refine ⟨_, rfl, _, rfl, b, low, n, L, rfl, hb, hL, rfl, _, rfl, iteNS (by rw [q664 (hw n hn)]) ?_⟩
  exact ⟨_, rfl, rfl⟩
 ·rintro σ H2 ⟨v, rfl, rfl⟩
  refine ⟨_, rfl, b, _, _, _, rfl, rfl, hb, rfl, _, rfl, b, _, _, _, rfl, rfl, hb, rfl, L, rfl, hL, ?_⟩
  exact ⟨_, rfl, L, hL, low, a, ns, rfl, ha, hl, q⟩
def q45 : Tr -> Int
 | .non => 0
 | .many n => n
 | .part ms _ _ => ms.length
def q44 : Tr -> Int -> Tr
 | .part _ l r, mk => if mk = 0 then l else r
 | _, _ => .non
theorem q59 (low : Int) (e : Nat) (ns : List Int) : q45 (grow low e ns) = ns.length := by
 by_cases h : ns = []
 ·rw [h, q38]; rfl
 ·cases e with
  | zero => rw [q30 h]; rfl
  | succ e =>
   rw [q161 h]
   show ((List.map _ ns).length : Int) = _
   rw [List.length_map]
inductive sp_size_of (u0 : Fg) (vs : List V) (H : Hp) (Q : VK) (E : XK) : Prop
 | mk (v : V) (t : Tr) (_ : vs = [v]) (_ : q29 H v t) (_ : Q (.int (q45 t)) H) : sp_size_of u0 vs H Q E
theorem q74 (z : Bz K mg cA cB cC cD cE cF cG cH) : Cal P w K mg base 1 "size_of" ["tree"] (sp_size_of K) := by
 have sc := q561
 refine z.d_size_of.cal fun f fd F => F.k sc fun _ _ _ s H _ Q _ hr h => ?_
 obtain ⟨v, t, rfl, ht, q⟩ := h
 refine ⟨_, (q12 (ps_if (q18 q110 (pv 0) q62 (q21 _))
 (q15 (q19 q13))
 q20)
 (q12 (ps_if (q18 op_eq (pix q23 (pv 0) q13) q22 (q21 _))
 (q15 (q19 (pix q23 (pv 0) q13)))
 q20)
 (q15 (q19 (pln z.len_ (q10 (pix q23 (pv 0) q13) q11)))))), ?_⟩
 refine ⟨_, rfl, rfl, _, rfl, ?_⟩
 cases t with
 | non =>
  cases ht
  exact ite2 (fun c => q) (fun c => absurd (decide_eq_true rfl) c)
 | many n =>
  obtain ⟨a, rfl, ha⟩ := ht
  refine ite2 (fun c => absurd (of_decide_eq_true c) (by intro z; cases z)) (fun c => ?_)
  refine ⟨_, rfl, a, _, _, _, rfl, rfl, SqT.of ha, rfl, rfl, _, rfl, ?_⟩
  refine ite2 (fun c => ?_) (fun c => absurd (decide_eq_true rfl) c)
  exact ⟨_, rfl, a, _, _, _, rfl, rfl, SqT.of ha, rfl, q⟩
 | part ms l r =>
  obtain ⟨a, m, x, y, rfl, ha, hm, hl, hr'⟩ := ht
  refine ite2 (fun c => absurd (of_decide_eq_true c) (by intro z; cases z)) (fun c => ?_)
  refine ⟨_, rfl, a, _, _, _, rfl, rfl, SqT.of ha, rfl, rfl, _, rfl, ?_⟩
  refine ite2 (fun c => absurd (of_decide_eq_true c) (by decide)) (fun c => ?_)
  refine ⟨_, rfl, a, _, _, _, rfl, rfl, SqT.of ha, rfl, m, _, rfl, .inr hm.sq, ?_⟩
  rw [List.length_map]
  exact q
inductive sp_half_of (u0 : Fg) (vs : List V) (H : Hp) (Q : VK) (E : XK) : Prop
 | mk (v : V) (t : Tr) (mk : Int) (_ : vs = [v, .int mk]) (_ : q29 H v t) (_ : (mk = 0 \/ mk = 1)) (_ : ∀ u, q29 H u (q44 t mk) -> Q u H) : sp_half_of u0 vs H Q E
theorem q75 (z : Bz K mg cA cB cC cD cE cF cG cH) : Cal P w K mg base 1 "half_of" ["tree", "mark"] (sp_half_of K) := by
 have sc := q560
 refine z.d_half_of.cal fun f fd F => F.k sc fun _ _ _ s H _ Q _ hr h => ?_
 obtain ⟨v, t, mk, rfl, ht, hmk, q⟩ := h
 refine ⟨_, (q12 (ps_if (PW.pt (pw_or (q18 q110 (pv 0) q62 (q21 _)) (q80 (q18 op_eq (pix q23 (pv 0) q13) q22 (q21 _)))))
 (q15 (q19 q62))
 q20)
 (q15 (q19 (pix q23 (pv 0) (pe_op q31 q13 (pv 1)))))), ?_⟩
 refine ⟨_, rfl, rfl, _, rfl, ?_⟩
 cases t with
 | non =>
  cases ht
  exact ite2 (fun c => q .non rfl) (fun c => absurd (decide_eq_true rfl) c)
 | many n =>
  obtain ⟨a, rfl, ha⟩ := ht
  refine ite2 (fun c => absurd (of_decide_eq_true c) (by intro z; cases z)) (fun c => ?_)
  refine ⟨_, rfl, a, _, _, _, rfl, rfl, SqT.of ha, rfl, rfl, _, rfl, ?_⟩
  exact ite2 (fun c => q .non rfl) (fun c => absurd (decide_eq_true rfl) c)
 | part ms l r =>
  obtain ⟨a, m, x, y, rfl, ha, hm, hl, hr'⟩ := ht
  refine ite2 (fun c => absurd (of_decide_eq_true c) (by intro z; cases z)) (fun c => ?_)
  refine ⟨_, rfl, a, _, _, _, rfl, rfl, SqT.of ha, rfl, rfl, _, rfl, ?_⟩
  refine ite2 (fun c => absurd (of_decide_eq_true c) (by decide)) (fun c => ?_)
  refine ⟨_, rfl, _, rfl, _, _, rfl, rfl, ?_⟩
  rcases hmk with rfl | rfl
  ·exact ⟨a, _, _, _, rfl, rfl, SqT.of ha, rfl, q x hl⟩
  ·exact ⟨a, _, _, _, rfl, rfl, SqT.of ha, rfl, q y hr'⟩
theorem all_flat (ms : List Int) : (ms.map V.int).all flatV = true := by
 rw [List.all_eq_true]
 intro x hx
 obtain ⟨i, _, rfl⟩ := List.mem_map.mp hx
 rfl
theorem q665 (ms : List Int) (m : Int) : (ms.map V.int).countP (fun y => eqV y (.int m)) = ms.count m := by
 rw [List.countP_map, List.count_eq_countP]
 rfl
theorem q106 (ms : List Int) (k : Nat) : cutV (ms.map V.int) none (some (k : Int)) = (ms.take k).map V.int := by
 unfold cutV
 rw [HT.q715, HT.q714, List.drop_zero, Nat.sub_zero, List.map_take]
 by_cases h : k <= (ms.map V.int).length
 ·rw [Nat.min_eq_left h]
 ·rw [Nat.min_eq_right (by omega), List.take_length, List.take_of_length_le (by omega)]
inductive sp_ahead (u0 : Fg) (vs : List V) (H : Hp) (Q : VK) (E : XK) : Prop
 | mk (t : Addr) (ms : List Int) (mk : Int) (pl : Nat) (_ : vs = [.ref t, .int mk, .int (pl : Int)]) (_ : TupF H t (ms.map V.int)) (_ : ∀ H', Same H H' -> Q (.int ((ms.take pl).count mk : Nat)) H') : sp_ahead u0 vs H Q E
theorem q162 (z : Bz K mg cA cB cC cD cE cF cG cH) : Cal P w K mg base 1 "ahead" ["marks", "mark", "place"] (sp_ahead K) := by
 have sc := sc_ahead
 refine z.d_ahead.cal fun f fd F => F.k sc fun _ _ _ s H _ Q _ hr h => ?_
 obtain ⟨t, ms, mk, pl, rfl, ht, q⟩ := h
 refine ⟨_, (q15 (q19 (pe_bmF PySem.F.plainAttrs_tuple PySem.F.slot_tuple_count PySem.F.type_tuple_count q613 (q40 q116 (pv 0) q54 (q47 (q76 (q358 rfl) (by rfl) z.max_ bt_max (q10 (pv 2) (q10 q13 q11))))) (q10 (pv 1) q11)))), ?_⟩
 have e1 : (if (0 : Int) > (pl : Int) then (0 : Int) else (pl : Int)) = (pl : Int) := if_neg (by omega)
 refine ⟨_, rfl, _, rfl, _, _, rfl, _, rfl, t, _, rfl, ht, fun p H1 s1 h1 => ?_⟩
 rw [e1, q106] at h1
 obtain ⟨o, ho, hc, hd⟩ := id h1
 refine ⟨⟨p, o, _, rfl, ho, hc, hd⟩, _, rfl, p, _, _, rfl, rfl, h1.sq, rfl, all_flat _, ?_⟩
 rw [q665]
 exact q H1 s1
def mkOf (mid n : Int) : Int := if n < mid then 0 else 1
theorem mk01 (mid n : Int) : mkOf mid n = 0 \/ mkOf mid n = 1 := by
 unfold mkOf
 split
 ·exact .inl rfl
 ·exact .inr rfl
theorem q330 {mid n : Int} (h : n < mid) : mkOf mid n = 0 := if_pos h
theorem q331 {mid n : Int} (h : ¬ n < mid) : mkOf mid n = 1 := if_neg h
def loI (mid : Int) : Int -> Bool := fun n => decide (n < mid)
def hiI (mid : Int) : Int -> Bool := fun n => decide (mid <= n)
theorem cnt_lo {mid : Int} (l : List Int) : (l.map (mkOf mid)).count 0 = l.countP (loI mid) := by
 induction l with
 | nil => rfl
 | cons n l ih =>
  rw [List.map_cons, List.count_cons, List.countP_cons, ih]
  unfold mkOf loI
  by_cases c : n < mid
  ·simp [c]
  ·simp [c]
theorem cnt_hi {mid : Int} (l : List Int) : (l.map (mkOf mid)).count 1 = l.countP (hiI mid) := by
 induction l with
 | nil => rfl
 | cons n l ih =>
  rw [List.map_cons, List.count_cons, List.countP_cons, ih]
  unfold mkOf hiI
  by_cases c : n < mid
  ·have c2 : ¬ mid <= n := by omega
   simp [c, c2]
  ·have c2 : mid <= n := by omega
   simp [c, c2]
theorem Wths.lower {low : Int} {e : Nat} {ns : List Int} (h : Wths low (e + 1) ns) : Wths low e (ns.filter (loI (low + 2 ^ e))) := fun x hx => by
 obtain ⟨h1, h2⟩ := List.mem_filter.mp hx
 exact ⟨(h x h1).1, of_decide_eq_true h2⟩
theorem Wths.upper {low : Int} {e : Nat} {ns : List Int} (h : Wths low (e + 1) ns) : Wths (low + 2 ^ e) e (ns.filter (hiI (low + 2 ^ e))) := fun x hx => by
 obtain ⟨h1, h2⟩ := List.mem_filter.mp hx
 have := (h x h1).2
 rw [q620] at this
 exact ⟨of_decide_eq_true h2, by omega⟩
theorem q33 {low : Int} {e : Nat} {ns : List Int} (h : ns ≠ []) : grow low (e + 1) ns = .part (ns.map (mkOf (low + 2 ^ e))) (grow low e (ns.filter (loI (low + 2 ^ e)))) (grow (low + 2 ^ e) e (ns.filter (hiI (low + 2 ^ e)))) := q161 h
theorem q462 (low : Int) (e : Nat) (ns : List Int) : q44 (grow low (e + 1) ns) 0 = grow low e (ns.filter (loI (low + 2 ^ e))) := by
 by_cases h : ns = []
 ·rw [h, q38, List.filter_nil, q38]; rfl
 ·rw [q33 h]; rfl
theorem q463 (low : Int) (e : Nat) (ns : List Int) : q44 (grow low (e + 1) ns) 1 = grow (low + 2 ^ e) e (ns.filter (hiI (low + 2 ^ e))) := by
 by_cases h : ns = []
 ·rw [h, q38, List.filter_nil, q38]; rfl
 ·rw [q33 h]; rfl
theorem q128 (p : Int -> Bool) (ns : List Int) (pl : Nat) : ns.filter p = (ns.take pl).filter p ++ (ns.drop pl).filter p := by
 rw [<- List.filter_append, List.take_append_drop]
theorem q246 (p : Int -> Bool) (ns : List Int) (pl : Nat) : (ns.filter p).take ((ns.take pl).countP p) = (ns.take pl).filter p := by
 rw [q128 p ns pl, List.countP_eq_length_filter]
 exact List.take_left
theorem q163 (p : Int -> Bool) (ns : List Int) (pl : Nat) : (ns.filter p).drop ((ns.take pl).countP p) = (ns.drop pl).filter p := by
 rw [q128 p ns pl, List.countP_eq_length_filter]
 exact List.drop_left
def insAt (ns : List Int) (pl : Nat) (x : Int) : List Int := ns.take pl ++ x :: ns.drop pl
theorem ins_ne (ns : List Int) (pl : Nat) (x : Int) : insAt ns pl x ≠ [] := by unfold insAt; simp
theorem q464 (ns : List Int) (pl : Nat) (x : Int) : (insAt ns pl x).length = ns.length + 1 := by
 unfold insAt
 rw [List.length_append, List.length_cons, List.length_take, List.length_drop]
 omega
theorem ins_map (f : Int -> Int) (ns : List Int) (pl : Nat) (x : Int) : (insAt ns pl x).map f = (ns.map f).take pl ++ f x :: (ns.map f).drop pl := by
 unfold insAt
 rw [List.map_append, List.map_cons, List.map_take, List.map_drop]
theorem ins_in {ns : List Int} {pl : Nat} {x : Int} (h : p x = true) : (insAt ns pl x).filter p = insAt (ns.filter p) ((ns.take pl).countP p) x := by
 unfold insAt
 rw [q246, q163, List.filter_append, List.filter_cons, if_pos h]
theorem q666 {ns : List Int} {pl : Nat} {x : Int} (h : ¬ p x = true) : (insAt ns pl x).filter p = ns.filter p := by
 unfold insAt
 rw [List.filter_append, List.filter_cons, if_neg h, <- q128]
theorem q516 {low : Int} {L : Nat} {pl : Nat} {x : Int} (h : Wths low L ns) (h0 : low <= x) (h1 : x < low + 2 ^ L) : Wths low L (insAt ns pl x) := fun y hy => by
 unfold insAt at hy
 rcases List.mem_append.mp hy with z | z
 ·exact h y (List.mem_of_mem_take z)
 ·rcases List.mem_cons.mp z with z | z
  ·rw [z]; exact ⟨h0, h1⟩
  ·exact h y (List.mem_of_mem_drop z)
def hlf (mid mk : Int) : Int -> Bool := if mk = 0 then loI mid else hiI mid
def lowOf (low : Int) (e : Nat) (mk : Int) : Int := if mk = 0 then low else low + 2 ^ e
theorem q122 {low mk : Int} {e : Nat} {ns : List Int} (h : mk = 0 \/ mk = 1) : q44 (grow low (e + 1) ns) mk = grow (lowOf low e mk) e (ns.filter (hlf (low + 2 ^ e) mk)) := by
 rcases h with rfl | rfl
 ·exact q462 low e ns
 ·exact q463 low e ns
theorem q107 {mid mk : Int} {ns : List Int} {pl : Nat} (h : mk = 0 \/ mk = 1) : ((ns.map (mkOf mid)).take pl).count mk = (ns.take pl).countP (hlf mid mk) := by
 rw [<- List.map_take]
 rcases h with rfl | rfl
 ·exact cnt_lo _
 ·exact cnt_hi _
theorem q517 (mid x : Int) : hlf mid (mkOf mid x) x = true := by
 by_cases c : x < mid
 ·rw [q330 c]; exact decide_eq_true c
 ·rw [q331 c]; exact decide_eq_true (by omega)
theorem lowOf_eq {low mk : Int} {e : Nat} (h : mk = 0 \/ mk = 1) : low + mk * 2 ^ e = lowOf low e mk := by
 rcases h with rfl | rfl
 ·show low + 0 * 2 ^ e = low
  omega
 ·show low + 1 * 2 ^ e = low + 2 ^ e
  omega
theorem Wths.half {low mk : Int} {e : Nat} {ns : List Int} (h : Wths low (e + 1) ns) (hk : mk = 0 \/ mk = 1) : Wths (lowOf low e mk) e (ns.filter (hlf (low + 2 ^ e) mk)) := by
 rcases hk with rfl | rfl
 ·exact h.lower
 ·exact h.upper
theorem grow_ins (low : Int) (e : Nat) (ns : List Int) (pl : Nat) (x mk : Int) (hk : mkOf (low + 2 ^ e) x = mk) : grow low (e + 1) (insAt ns pl x) =
  .part ((ns.map (mkOf (low + 2 ^ e))).take pl ++ mk :: (ns.map (mkOf (low + 2 ^ e))).drop pl)
   (if mk = 0 then grow (lowOf low e mk) e (insAt (ns.filter (hlf (low + 2 ^ e) mk)) ((ns.take pl).countP (hlf (low + 2 ^ e) mk)) x) else q44 (grow low (e + 1) ns) 0)
   (if mk = 0 then q44 (grow low (e + 1) ns) 1 else grow (lowOf low e mk) e (insAt (ns.filter (hlf (low + 2 ^ e) mk)) ((ns.take pl).countP (hlf (low + 2 ^ e) mk)) x)) := by
 rw [q33 (ins_ne ns pl x), ins_map, hk]
 by_cases c : x < low + 2 ^ e
 ·rw [q330 c] at hk
  subst hk
  rw [if_pos rfl, if_pos rfl, q463, ins_in (p := loI _) (decide_eq_true c), q666 (p := hiI _) (by intro z; have := of_decide_eq_true z; omega)]
  rfl
 ·rw [q331 c] at hk
  subst hk
  rw [if_neg (by decide), if_neg (by decide), q462, ins_in (p := hiI _) (decide_eq_true (by omega)), q666 (p := loI _) (by intro z; exact c (of_decide_eq_true z))]
  rfl
theorem way_half {low num : Int} {e : Nat} (h0 : low <= num) (h1 : num < low + 2 ^ (e + 1)) : wayW (e + 1) (num - low) = mkOf (low + 2 ^ e) num :: wayW e (num - lowOf low e (mkOf (low + 2 ^ e) num)) /\
  lowOf low e (mkOf (low + 2 ^ e) num) <= num /\ num < lowOf low e (mkOf (low + 2 ^ e) num) + 2 ^ e := by
 have hp := pow2 e
 by_cases c : num < low + 2 ^ e
 ·rw [q330 c, q327 (show num - low < 2 ^ e by omega)]
  exact ⟨rfl, h0, c⟩
 ·rw [q331 c, q328 (show ¬ num - low < 2 ^ e by omega)]
  refine ⟨?_, ?_, ?_⟩
  ·show 1 :: wayW e (num - low - 2 ^ e) = 1 :: wayW e (num - (low + 2 ^ e))
   rw [show num - low - 2 ^ e = num - (low + 2 ^ e) by omega]
  ·show low + 2 ^ e <= num
   omega
  ·show num < low + 2 ^ e + 2 ^ e
   omega
def delAt (ns : List Int) (pl : Nat) : List Int := ns.take pl ++ ns.drop (pl + 1)
theorem q332 {ns : List Int} {pl : Nat} (h : pl < ns.length) : (delAt ns pl).length + 1 = ns.length := by
 unfold delAt
 rw [List.length_append, List.length_take, List.length_drop]
 omega
theorem del_map (f : Int -> Int) (ns : List Int) (pl : Nat) : (delAt ns pl).map f = (ns.map f).take pl ++ (ns.map f).drop (pl + 1) := by
 unfold delAt
 rw [List.map_append, List.map_take, List.map_drop]
theorem q333 {ns : List Int} {pl : Nat} {x : Int} (h : ns[pl]? = some x) : ns.drop pl = x :: ns.drop (pl + 1) := by
 obtain ⟨h1, h2⟩ := List.getElem?_eq_some_iff.mp h
 rw [<- h2]
 exact List.drop_eq_getElem_cons h1
theorem del_in {ns : List Int} {pl : Nat} {x : Int} (hx : ns[pl]? = some x) (h : p x = true) : (delAt ns pl).filter p = delAt (ns.filter p) ((ns.take pl).countP p) := by
 have e := q163 p ns pl
 rw [q333 hx, List.filter_cons, if_pos h] at e
 have e2 : (ns.filter p).drop ((ns.take pl).countP p + 1) = (ns.drop (pl + 1)).filter p := by simpa [List.drop_drop, Nat.add_comm] using congrArg (List.drop 1) e
 unfold delAt
 rw [q246, List.filter_append, e2]
theorem q667 {ns : List Int} {pl : Nat} {x : Int} (hx : ns[pl]? = some x) (h : ¬ p x = true) : (delAt ns pl).filter p = ns.filter p := by
 have e := q128 p ns pl
 rw [q333 hx, List.filter_cons, if_neg h] at e
 unfold delAt
 rw [List.filter_append, e]
theorem q518 {low : Int} {L : Nat} {pl : Nat} (h : Wths low L ns) : Wths low L (delAt ns pl) := fun y hy => by
 unfold delAt at hy
 rcases List.mem_append.mp hy with z | z
 ·exact h y (List.mem_of_mem_take z)
 ·exact h y (List.mem_of_mem_drop z)
theorem q519 {ns : List Int} {pl : Nat} {x : Int} (hx : ns[pl]? = some x) (h : p x = true) : (ns.filter p)[(ns.take pl).countP p]? = some x := by
 have e := q163 p ns pl
 rw [q333 hx, List.filter_cons, if_pos h] at e
 have z := congrArg (fun l => l[0]?) e
 simpa [List.getElem?_drop] using z
theorem grow_del {low : Int} {e : Nat} {ns : List Int} {pl : Nat} {x mk : Int} (hx : ns[pl]? = some x) (h2 : delAt ns pl ≠ []) (hk : mkOf (low + 2 ^ e) x = mk) : grow low (e + 1) (delAt ns pl) =
  .part ((ns.map (mkOf (low + 2 ^ e))).take pl ++ (ns.map (mkOf (low + 2 ^ e))).drop (pl + 1))
   (if mk = 0 then grow (lowOf low e mk) e (delAt (ns.filter (hlf (low + 2 ^ e) mk)) ((ns.take pl).countP (hlf (low + 2 ^ e) mk))) else q44 (grow low (e + 1) ns) 0)
   (if mk = 0 then q44 (grow low (e + 1) ns) 1 else grow (lowOf low e mk) e (delAt (ns.filter (hlf (low + 2 ^ e) mk)) ((ns.take pl).countP (hlf (low + 2 ^ e) mk)))) := by
 rw [q33 h2, del_map]
 by_cases c : x < low + 2 ^ e
 ·rw [q330 c] at hk
  subst hk
  rw [if_pos rfl, if_pos rfl, q463, del_in (p := loI _) hx (decide_eq_true c), q667 (p := hiI _) hx (by intro z; have := of_decide_eq_true z; omega)]
  rfl
 ·rw [q331 c] at hk
  subst hk
  rw [if_neg (by decide), if_neg (by decide), q462, del_in (p := hiI _) hx (decide_eq_true (by omega)), q667 (p := loI _) hx (by intro z; exact c (of_decide_eq_true z))]
  rfl
theorem ins_del {ns : List Int} {pl : Nat} {x : Int} (h : pl < ns.length) : insAt (delAt ns pl) pl x = ns.take pl ++ x :: ns.drop (pl + 1) := by
 have e1 : (ns.take pl).length = pl := by rw [List.length_take]; omega
 unfold insAt delAt
 rw [List.take_append_of_le_length (by omega), List.drop_append_of_le_length (by omega), List.take_of_length_le (by omega), List.drop_of_length_le (by omega)]
 rfl
theorem q108 (ms : List Int) (k : Nat) : cutV (ms.map V.int) (some (k : Int)) none = (ms.drop k).map V.int := by
 unfold cutV
 rw [HT.q715, HT.q714, List.map_drop]
 by_cases h : k <= (ms.map V.int).length
 ·rw [Nat.min_eq_left h]
  exact List.take_of_length_le (by rw [List.length_drop]; exact Nat.le_refl _)
 ·have h' : (ms.map V.int).length <= k := by omega
  rw [Nat.min_eq_right h', List.drop_of_length_le h', List.drop_of_length_le (Nat.le_refl _)]
  exact List.take_nil
theorem q334 (w : Int) (ws : List Int) : cutV ((w :: ws).map V.int) (some 1) none = ws.map V.int := q108 (w :: ws) 1
inductive sp_way_of (K : Fg) (vs : List V) (H : Hp) (Q : VK) (E : XK) : Prop
 | mk (b : Addr) (low num : Int) (L : Nat) (_ : vs = [.ref b, .int num]) (_ : SqT K H b [.int low, .int (L : Int)]) (_ : L <= 40) (_ : (low <= num /\ num <= low + 2 ^ L - 1)) (_ : ∀ t H', Same H H' -> TupF H' t ((wayW L (num - low)).map V.int) -> Q (.ref t) H') : sp_way_of K vs H Q E
theorem q410 (z : Bz K mg cA cB cC cD cE cF cG cH) : Cal P w K mg base 4 "way_of" pn13 (sp_way_of K) := by
 have sc := q649
 refine z.d_way_of.cal fun f fd F => F.k sc fun _ _ _ s H _ Q _ hr h => ?_
 obtain ⟨b, low, num, L, rfl, hb, hL, c', q⟩ := h
 refine ⟨_, (q12 (ps_if (q18 op_ne (pe_fn (q326 z) hr.m (by rfl) (q10 (pv 0) (q10 (pv 1) q11))) q22 (q21 _))
 (q15 q36)
 q20)
 (q12 (pst 2 sc.nd (pix q23 (pv 0) q13))
 (q12 (pst 3 sc.nd (pe_fn (q43 z) hr.m (by rfl) (q10 (pix q23 (pv 0) q13) q11)))
 (q12 (pst 4 sc.nd (q35 q11))
 (q12 (q81 PassesOwn.never rfl (q86 rfl z.range_ (q10 (pix q23 (pv 0) q13) q11)) (pgn 5 sc.nd)
 (q12 (pst 3 sc.nd (pe_op q94 (pv 3) q13))
 (q15 (ps_if (q18 op_lt (pv 1) (pe_op q31 (pv 2) (pv 3)) (q21 _))
 (q15 (q73 (pe_bm PySem.F.plainAttrs_list PySem.F.slot_list_append PySem.F.type_list_append q55 (pv 4) (q10 q13 q11))))
 (q12 (q73 (pe_bm PySem.F.plainAttrs_list PySem.F.slot_list_append PySem.F.type_list_append q55 (pv 4) (q10 q13 q11)))
 (q15 (pst 2 sc.nd (pe_op q31 (pv 2) (pv 3)))))))))
 (q15 (q19 (q32 q90 (by rfl) z.tuple_ q126 (q10 (pv 4) q11))))))))), ?_⟩
 refine ⟨_, rfl, _, rfl, b, low, num, L, rfl, hb, hL, rfl, _, rfl, ?_⟩
 refine ite2 (fun c => ?_) (fun c => ?_)
 ·rw [where_in.mpr c', decide_eq_true rfl] at c
  cases c
 ·skip
  refine ⟨_, rfl, b, _, _, _, rfl, rfl, hb, rfl, _, rfl, b, _, _, _, rfl, rfl, hb, rfl, L, rfl, hL, szb rfl, fun wy hwy => ?_⟩
  have hb2 : ∀ o, SqT K (upd H wy o) b [.int low, .int (L : Int)] := fun o => (q16 hwy o).seqT hb
  refine ⟨_, rfl, b, _, _, _, rfl, rfl, hb2 _, rfl, (L : Int), rfl, by omega, by omega, q87 (n := L) (fun i σ H2 => ∃ (le : Int) (ws : List Int) (v : Option V), σ = [some (.ref b), some (.int num), some (.int le), some (.int (2 ^ (L - i))), some (.ref wy), v] /\
   H2 = upd H wy (.lst (ws.map V.int)) /\ ws.length = i /\ 0 <= num - le /\ num - le < 2 ^ (L - i) /\ wayW L (num - low) = ws ++ wayW (L - i) (num - le)) ⟨low, [], none, rfl, rfl, rfl, by omega, by show num - low < 2 ^ L; omega, rfl⟩ ?_ ?_⟩
  ·rintro i σ H2 hi ⟨le, ws, v, rfl, rfl, hl, h0, h1, hw⟩
   obtain ⟨e, he⟩ : ∃ e, L - i = e + 1 := ⟨L - i - 1, by omega⟩
   have he2 : L - (i + 1) = e := by omega
   have p := pow2 e
   have ph := pow_half e
   rw [he] at h1 hw ⊢
   refine ⟨_, rfl, _, _, rfl, rfl, ⟨by decide, by decide⟩, ?_⟩
   refine ⟨_, rfl, _, rfl, _, rfl, _, _, rfl, rfl, _, _, rfl, rfl, _, rfl, ?_⟩
   rw [ph, he2]
   refine ite2 (fun c => ?_) (fun c => ?_)
   ·have c2 : num < le + 2 ^ e := of_decide_eq_true c
    rw [q327 (show num - le < 2 ^ e by omega)] at hw
    refine ⟨_, rfl, .inl ⟨rfl, _, SqL.of q14⟩, wy, _, _, rfl, rfl, q14, ?_, ?_⟩
    ·rw [List.length_map]; exact Nat.lt_of_le_of_lt (show ws.length <= 1000 by omega) (q66 (Nat.le_refl _))
    ·exact ⟨le, ws ++ [0], some (.int (0 + (i : Int))), congrArg (fun q : Int => [some (V.ref b), some (V.int num), some (V.int le), some (V.int q), some (V.ref wy), some (V.int (0 + (i : Int)))]) ph, by rw [q114, List.map_append] <;> rfl, by rw [List.length_append, hl] <;> rfl, h0, by omega, by rw [hw, List.append_assoc] <;> rfl⟩
   ·have c2 : ¬ num < le + 2 ^ e := fun z => c (decide_eq_true z)
    rw [q328 (show ¬ num - le < 2 ^ e by omega)] at hw
    refine ⟨_, rfl, .inl ⟨rfl, _, SqL.of q14⟩, wy, _, _, rfl, rfl, q14, ?_, ?_⟩
    ·rw [List.length_map]; exact Nat.lt_of_le_of_lt (show ws.length <= 1000 by omega) (q66 (Nat.le_refl _))
    ·refine ⟨_, rfl, _, rfl, _, _, rfl, rfl, le + 2 ^ e, ws ++ [1], some (.int (0 + (i : Int))), congrArg (fun q : Int => [some (V.ref b), some (V.int num), some (V.int (le + q)), some (V.int q), some (V.ref wy), some (V.int (0 + (i : Int)))]) ph, by rw [q114, List.map_append] <;> rfl, by rw [List.length_append, hl] <;> rfl, by omega, by omega, ?_⟩
     have e2 : num - (le + 2 ^ e) = num - le - 2 ^ e := by omega
     rw [hw, e2, List.append_assoc]
     rfl
  ·rintro σ H2 ⟨le, ws, v, rfl, rfl, hl, h0, h1, hw⟩
   rw [Nat.sub_self] at hw
   have hw2 : wayW L (num - low) = ws := by rw [hw]; exact List.append_nil ws
   refine ⟨_, rfl, wy, _, rfl, SqL.of q14, fun t H' s' ht => ?_⟩
   exact q t _ ((q16 hwy _).trans s') (by rw [hw2]; exact ht)
inductive sp_with_half (u0 : Fg) (vs : List V) (H : Hp) (Q : VK) (E : XK) : Prop
 | mk (m : Addr) (ms : List Int) (v : V) (t : Tr) (mk : Int) (u : V) (t' : Tr) (_ : vs = [.ref m, v, .int mk, u]) (_ : TupF H m (ms.map V.int)) (_ : q29 H v t) (_ : (mk = 0 \/ mk = 1)) (_ : q29 H u t') (_ : ∀ (p : Addr) (H' : Hp), Same H H' -> q29 H' (.ref p) (.part ms (if mk = 0 then t' else q44 t 0) (if mk = 0 then q44 t 1 else t')) -> Q (.ref p) H') : sp_with_half u0 vs H Q E
abbrev q92 : Nat := 2
abbrev q247 : Nat := 40
inductive spe_with_way (u0 : Fg) (e : Nat) (vs : List V) (H : Hp) (Q : VK) (E : XK) : Prop
 | mk (v : V) (wy : Addr) (pl : Nat) (low num : Int) (ns : List Int) (_ : vs = [v, .ref wy, .int (pl : Int)]) (_ : q29 H v (grow low e ns)) (_ : TupF H wy ((wayW e (num - low)).map V.int)) (_ : low <= num) (_ : num < low + 2 ^ e) (_ : ns.length <= 900) (_ : ∀ (u : V) (H' : Hp), Same H H' -> q29 H' u (grow low e (insAt ns pl num)) -> Q u H') : spe_with_way u0 e vs H Q E
def q465 (K : Fg) : Sp := fun vs H Q E => ∃ e, e <= q247 /\ spe_with_way K e vs H Q E
inductive sp_put_in (K : Fg) (vs : List V) (H : Hp) (Q : VK) (E : XK) : Prop
 | mk (b : Addr) (v : V) (pl : Nat) (low num : Int) (L : Nat) (ns : List Int) (_ : vs = [.ref b, v, .int (pl : Int), .int num]) (_ : SqT K H b [.int low, .int (L : Int)]) (_ : L <= 40) (_ : q29 H v (grow low L ns)) (_ : pl <= ns.length) (_ : ns.length <= 900) (_ : low <= num) (_ : num < low + 2 ^ L) (_ : ∀ (u : V) (H' : Hp), Same H H' -> q29 H' u (grow low L (insAt ns pl num)) -> Q u H') : sp_put_in K vs H Q E
theorem q183 (z : Bz K mg cA cB cC cD cE cF cG cH) : Cal P w K mg base 2 "with_half" ["marks", "tree", "turn", "half"] (sp_with_half K) := by
 have sc := q396
 refine z.d_with_half.cal fun f fd F => F.k sc fun _ _ _ s H _ Q _ hr h => ?_
 obtain ⟨m, ms, v, t, mk, u, t', rfl, hm, ht, hmk, hu, q⟩ := h
 refine ⟨_, (q12 (ps_if (q18 op_eq (pv 2) q13 (q21 _))
 (q15 (q19 (q27 (q10 q22 (q10 (pv 0) (q10 (pv 3) (q10 (pe_fn (q75 z) hr.m (by rfl) (q10 (pv 1) (q10 q13 q11))) q11)))))))
 q20)
 (q15 (q19 (q27 (q10 q22 (q10 (pv 0) (q10 (pe_fn (q75 z) hr.m (by rfl) (q10 (pv 1) (q10 q13 q11))) (q10 (pv 3) q11)))))))), ?_⟩
 refine ⟨_, rfl, rfl, _, rfl, ?_⟩
 rcases hmk with rfl | rfl
 ·refine ite2 (fun c => ?_) (fun c => absurd (decide_eq_true rfl) c)
  refine ⟨_, rfl, _, rfl, _, rfl, v, t, 1, rfl, ht, .inr rfl, fun x hx => ⟨szb rfl, fun p hp => q p _ (q16 hp _) ?_⟩⟩
  have s1 := q16 hp (.tup [.str "part", .ref m, u, x])
  exact ⟨p, m, u, x, rfl, q14, hm.same s1, hu.same s1, hx.same s1⟩
 ·refine ite2 (fun c => absurd (of_decide_eq_true c) (by decide)) (fun c => ?_)
  refine ⟨_, rfl, _, rfl, v, t, 0, rfl, ht, .inl rfl, fun x hx => ⟨_, rfl, szb rfl, fun p hp => q p _ (q16 hp _) ?_⟩⟩
  have s1 := q16 hp (.tup [.str "part", .ref m, x, u])
  exact ⟨p, m, x, u, rfl, q14, hm.same s1, hx.same s1, hu.same s1⟩
theorem q466 (z : Bz K mg cA cB cC cD cE cF cG cH) : Cal P w K mg base 43 "with_way" pn8 (q465 K) := by
 have sc := q450
 refine z.d_with_way.recur (k := q92) (sp := spe_with_way K) q247 fun e hen c_with_way f fd F => F.k sc fun _ _ _ s H _ Q _ hr h => ?_
 obtain ⟨v, wy, pl, low, num, ns, rfl, ht, hw, n0, n1, hl, q⟩ := h
 refine ⟨_, (q12 (ps_if (q18 op_eq (pln z.len_ (q10 (pv 1) q11)) q13 (q21 _))
 (q15 (q19 (q27 (q10 q22 (q10 (pe_op q31 (pe_fn (q74 z) (hr.mono (Nat.le_trans (by decide : 1 <= q92) (Nat.le_add_left _ _))) (by rfl) (q10 (pv 0) q11)) q13) q11)))))
 q20)
 (q12 (pst 3 sc.nd (pix q23 (pv 1) q13))
 (q12 (pst 4 sc.nd (q93 (q18 q110 (pv 0) q62 (q21 _)) (q622 q11) (pix q23 (pv 0) q13)))
 (q12 (pst 5 sc.nd (pe_fn c_with_way (hr.mono (Nat.le_refl _)) (by rfl) (q10 (pe_fn (q75 z) (hr.mono (Nat.le_trans (by decide : 1 <= q92) (Nat.le_add_left _ _))) (by rfl) (q10 (pv 0) (q10 (pv 3) q11))) (q10 (q40 q116 (pv 1) (q47 q13) q54) (q10 (pe_fn (q162 z) (hr.mono (Nat.le_trans (by decide : 1 <= q92) (Nat.le_add_left _ _))) (by rfl) (q10 (pv 4) (q10 (pv 3) (q10 (pv 2) q11)))) q11)))))
 (q15 (q19 (pe_fn (q183 z) (hr.mono (Nat.le_trans (by decide : 2 <= q92) (Nat.le_add_left _ _))) (by rfl) (q10 (pe_op q316 (pe_op q316 (q40 q116 (pv 4) q54 (q47 (pv 2))) (q622 (q10 (pv 3) q11))) (q40 q116 (pv 4) (q47 (pv 2)) q54)) (q10 (pv 0) (q10 (pv 3) (q10 (pv 5) q11))))))))))), ?_⟩
 refine ⟨_, rfl, wy, _, rfl, .inr hw.sq, rfl, _, rfl, ?_⟩
 cases e with
 | zero =>
  refine ite2 (fun c => ?_) (fun c => absurd (decide_eq_true rfl) c)
  refine ⟨_, rfl, v, _, rfl, ht, _, _, rfl, rfl, szb rfl, fun p hp => q _ _ (q16 hp _) ?_⟩
  rw [q30 (ins_ne ns pl num), q464]
  refine ⟨p, rfl, ?_⟩
  rw [q14, q59]
  rfl
 | succ e =>
  obtain ⟨hwy, l0, l1⟩ := way_half n0 n1
  rw [hwy] at hw
  rw [grow_ins low e ns pl num _ rfl] at q
  have hmk := mk01 (low + 2 ^ e) num
  refine ite2 (fun c => ?_) (fun _ => ?_)
  ·exfalso
   have := V.int.inj (of_decide_eq_true c)
   rw [List.length_map, q199] at this
   omega
  generalize mkOf (low + 2 ^ e) num = mk at *
  have h0at : atI ((mk :: wayW e (num - lowOf low e mk)).map V.int) 0 = some (.int mk) := by
   show atI _ ((0 : Nat) : Int) = _
   exact q41 rfl
  refine ⟨_, rfl, wy, _, _, _, rfl, rfl, hw.sq, h0at, ?_⟩
  by_cases hns : ns = []
  ·have hv : v = .non := by
    rw [hns, q38] at ht
    exact ht
   subst hv
   refine ⟨_, rfl, rfl, _, rfl, ?_⟩
   refine ite2 (fun c => ?_) (fun c => absurd (decide_eq_true rfl) c)
   refine ⟨szb rfl, fun m H1 s1 hm0 => ?_⟩
   have hm : TupF H1 m ((ns.map (mkOf (low + 2 ^ e))).map V.int) := by rw [hns]; exact hm0
   generalize V.non = v at *
   have ht1 := ht.same s1
   refine ⟨_, rfl, _, rfl, v, _, mk, rfl, ht1, hmk, fun h hh => ?_⟩
   rw [q122 hmk] at hh
   refine ⟨_, rfl, 1, rfl, wy, _, rfl, hw.same s1, fun w2 H2 s2 hw2 => ?_⟩
   rw [q334] at hw2
   have hm2 := hm.same s2
   refine ⟨_, rfl, _, rfl, _, rfl, m, ns.map (mkOf (low + 2 ^ e)), mk, pl, rfl, hm2, fun H3 s3 => ?_⟩
   refine ⟨h, w2, (ns.take pl).countP (hlf (low + 2 ^ e) mk), lowOf low e mk, num, ns.filter (hlf (low + 2 ^ e) mk), by rw [q107 hmk] <;> rfl, (hh.same s2).same s3, hw2.same s3, l0, l1, Nat.le_trans (List.length_filter_le _ _) hl, fun u H4 s4 hu => ?_⟩
   have hm4 := (hm2.same s3).same s4
   refine ⟨_, rfl, _, rfl, _, rfl, m, _, rfl, hm4, fun p5 H5 s5 h5 => ?_⟩
   rw [q106] at h5
   refine ⟨_, rfl, szb rfl, fun p6 H6 s6 h6 => ?_⟩
   refine ⟨p5, p6, _, _, rfl, rfl, h5.same s6, h6, sz (by simp only [List.length_map, List.length_take, List.length_cons, List.length_nil]; omega), fun p7 H7 s7 h7 => ?_⟩
   have hm7 := ((hm4.same s5).same s6).same s7
   refine ⟨_, rfl, _, rfl, _, rfl, m, _, rfl, hm7, fun p8 H8 s8 h8 => ?_⟩
   rw [q108] at h8
   refine ⟨p7, p8, _, _, rfl, rfl, h7.same s8, h8, sz (by simp only [List.length_append, List.length_map, List.length_take, List.length_drop, List.length_cons, List.length_nil]; omega), fun p9 H9 s9 h9 => ?_⟩
   have s49 : Same H4 H9 := s5.trans (s6.trans (s7.trans (s8.trans s9)))
   have s09 : Same H H9 := s1.trans (s2.trans (s3.trans (s4.trans s49)))
   have h9' : TupF H9 p9 (((ns.map (mkOf (low + 2 ^ e))).take pl ++ mk :: (ns.map (mkOf (low + 2 ^ e))).drop pl).map V.int) := by simpa using h9
   exact ⟨_, rfl, _, rfl, _, rfl, p9, _, v, _, mk, u, _, rfl, h9', ht.same s09, hmk, hu.same s49, fun p H10 s10 h10 => q _ _ (s09.trans s10) h10⟩
  ·have ht1 := ht
   rw [q33 hns] at ht1
   obtain ⟨a, m, x, y, hv, ha, hm, _, _⟩ := ht1
   subst hv
   refine ⟨_, rfl, rfl, _, rfl, ?_⟩
   refine ite2 (fun c => absurd (of_decide_eq_true c) (by intro z; cases z)) (fun c => ?_)
   refine ⟨_, rfl, a, _, _, _, rfl, rfl, SqT.of ha, rfl, ?_⟩
   have s1 := Same.refl H
   clear ha
   generalize V.ref a = v at *
   have ht1 := ht.same s1
   refine ⟨_, rfl, _, rfl, v, _, mk, rfl, ht1, hmk, fun h hh => ?_⟩
   rw [q122 hmk] at hh
   refine ⟨_, rfl, 1, rfl, wy, _, rfl, hw.same s1, fun w2 H2 s2 hw2 => ?_⟩
   rw [q334] at hw2
   have hm2 := hm.same s2
   refine ⟨_, rfl, _, rfl, _, rfl, m, ns.map (mkOf (low + 2 ^ e)), mk, pl, rfl, hm2, fun H3 s3 => ?_⟩
   refine ⟨h, w2, (ns.take pl).countP (hlf (low + 2 ^ e) mk), lowOf low e mk, num, ns.filter (hlf (low + 2 ^ e) mk), by rw [q107 hmk] <;> rfl, (hh.same s2).same s3, hw2.same s3, l0, l1, Nat.le_trans (List.length_filter_le _ _) hl, fun u H4 s4 hu => ?_⟩
   have hm4 := (hm2.same s3).same s4
   refine ⟨_, rfl, _, rfl, _, rfl, m, _, rfl, hm4, fun p5 H5 s5 h5 => ?_⟩
   rw [q106] at h5
   refine ⟨_, rfl, szb rfl, fun p6 H6 s6 h6 => ?_⟩
   refine ⟨p5, p6, _, _, rfl, rfl, h5.same s6, h6, sz (by simp only [List.length_map, List.length_take, List.length_cons, List.length_nil]; omega), fun p7 H7 s7 h7 => ?_⟩
   have hm7 := ((hm4.same s5).same s6).same s7
   refine ⟨_, rfl, _, rfl, _, rfl, m, _, rfl, hm7, fun p8 H8 s8 h8 => ?_⟩
   rw [q108] at h8
   refine ⟨p7, p8, _, _, rfl, rfl, h7.same s8, h8, sz (by simp only [List.length_append, List.length_map, List.length_take, List.length_drop, List.length_cons, List.length_nil]; omega), fun p9 H9 s9 h9 => ?_⟩
   have s49 : Same H4 H9 := s5.trans (s6.trans (s7.trans (s8.trans s9)))
   have s09 : Same H H9 := s1.trans (s2.trans (s3.trans (s4.trans s49)))
   have h9' : TupF H9 p9 (((ns.map (mkOf (low + 2 ^ e))).take pl ++ mk :: (ns.map (mkOf (low + 2 ^ e))).drop pl).map V.int) := by simpa using h9
   exact ⟨_, rfl, _, rfl, _, rfl, p9, _, v, _, mk, u, _, rfl, h9', ht.same s09, hmk, hu.same s49, fun p H10 s10 h10 => q _ _ (s09.trans s10) h10⟩
theorem q411 (z : Bz K mg cA cB cC cD cE cF cG cH) : Cal P w K mg base 44 "put_in_changes" pn17 (sp_put_in K) := by
 have sc := q655
 refine z.d_put_in.cal fun f fd F => F.k sc fun _ _ _ s H _ Q _ hr h => ?_
 obtain ⟨b, v, pl, low, num, L, ns, rfl, hb, hL, ht, hpl, hl, n0, n1, q⟩ := h
 refine ⟨_, (q12 (ps_if (PW.pt (pw_or (q18 op_lt (pv 2) q13 (q21 _)) (q80 (q18 op_gt (pv 2) (pe_fn (q74 z) hr.m (by rfl) (q10 (pv 1) q11)) (q21 _)))))
 (q15 q36)
 q20)
 (q15 (q19 (pe_fn (q466 z) hr.m (by rfl) (q10 (pv 1) (q10 (pe_fn (q410 z) hr.m (by rfl) (q10 (pv 0) (q10 (pv 3) q11))) (q10 (pv 2) q11))))))), ?_⟩
 refine ⟨_, rfl, _, _, rfl, rfl, _, rfl, ?_⟩
 refine ite2 (fun c => absurd (of_decide_eq_true c) (by omega)) (fun _ => ?_)
 refine ⟨_, rfl, _, rfl, v, _, rfl, ht, _, _, rfl, rfl, _, rfl, ?_⟩
 rw [q59]
 refine ite2 (fun c => absurd (of_decide_eq_true c) (by omega)) (fun _ => ?_)
 exact ⟨_, rfl, _, rfl, _, rfl, b, low, num, L, rfl, hb, hL, ⟨n0, by omega⟩, fun t H1 s1 ht1 => ⟨_, rfl, L, hL, v, t, pl, low, num, ns, rfl, ht.same s1, ht1, n0, n1, hl, fun u H2 s2 hu => q u H2 (s1.trans s2) hu⟩⟩
inductive sp_number_at (K : Fg) (vs : List V) (H : Hp) (Q : VK) (E : XK) : Prop
 | mk (b : Addr) (v : V) (i : Nat) (n low : Int) (L : Nat) (ns : List Int) (_ : vs = [.ref b, v, .int (i : Int)]) (_ : SqT K H b [.int low, .int (L : Int)]) (_ : L <= 40) (_ : q29 H v (grow low L ns)) (_ : Wths low L ns) (_ : ns[i]? = some n) (_ : ∀ H', Same H H' -> Q (.int n) H') : sp_number_at K vs H Q E
def muN : St -> Nat := fun σ => match σ[4]? with
 | some (some (V.int m)) => m.toNat
 | _ => 0
theorem q412 (z : Bz K mg cA cB cC cD cE cF cG cH) : Cal P w K mg base 3 "number_at" pn12 (sp_number_at K) := by
 have sc := q390
 refine z.d_number_at.cal fun f fd F => F.k sc fun _ _ _ s H _ Q _ hr h => ?_
 obtain ⟨b, v, i, n, low, L, ns, rfl, hb, hL, ht, hw, gi, q⟩ := h
 refine ⟨_, (q12 (ps_if (PW.pt (pw_or (q18 op_lt (pv 2) q13 (q21 _)) (q80 (q18 op_ge (pv 2) (pe_fn (q74 z) hr.m (by rfl) (q10 (pv 1) q11)) (q21 _)))))
 (q15 q36)
 q20)
 (q12 (pst 3 sc.nd (pix q23 (pv 0) q13))
 (q12 (pst 4 sc.nd (pe_fn (q43 z) hr.m (by rfl) (q10 (pix q23 (pv 0) q13) q11)))
 (q12 (pst 5 sc.nd (pv 1))
 (q12 (pst 6 sc.nd (pv 2))
 (q12 (q487 PassesOwn.never (q18 op_eq (pix q23 (pv 5) q13) q22 (q21 _))
 (q12 (pst 4 sc.nd (pe_op q94 (pv 4) q13))
 (q12 (pst 7 sc.nd (pix q23 (pix q23 (pv 5) q13) (pv 6)))
 (q12 (pst 6 sc.nd (pe_fn (q162 z) hr.m (by rfl) (q10 (pix q23 (pv 5) q13) (q10 (pv 7) (q10 (pv 6) q11)))))
 (q12 (pst 3 sc.nd (pe_op q31 (pv 3) (pe_op q98 (pv 7) (pv 4))))
 (q15 (pst 5 sc.nd (pe_fn (q75 z) hr.m (by rfl) (q10 (pv 5) (q10 (pv 7) q11))))))))))
 (q15 (q19 (pv 3))))))))), ?_⟩
 have hi : i < ns.length := (List.getElem?_eq_some_iff.mp gi).1
 refine ⟨_, rfl, _, _, rfl, rfl, _, rfl, ?_⟩
 refine ite2 (fun c => absurd (of_decide_eq_true c) (by omega)) (fun _ => ?_)
 refine ⟨_, rfl, _, rfl, v, _, rfl, ht, _, _, rfl, rfl, _, rfl, ?_⟩
 rw [q59]
 refine ite2 (fun c => absurd (of_decide_eq_true c) (by omega)) (fun _ => ?_)
 refine ⟨_, rfl, b, _, _, _, rfl, rfl, hb, rfl, _, rfl, b, _, _, _, rfl, rfl, hb, rfl, L, rfl, hL, _, rfl, _, rfl, ?_⟩
 refine q490 (fun σ H2 => ∃ (e : Nat) (ls : Int) (u : V) (j : Nat) (ms : List Int) (mv : Option V), σ = [some (.ref b), some v, some (.int (i : Int)), some (.int ls), some (.int (2 ^ e)), some u, some (.int (j : Int)), mv] /\ e <= 40 /\ Same H H2 /\ q29 H2 u (grow ls e ms) /\ Wths ls e ms /\ ms[j]? = some n) (fun σ _ => muN σ)
  ⟨L, low, v, i, ns, none, rfl, hL, Same.refl H, ht, hw, gi⟩ ?_ ?_
 ·rintro σ H2 ⟨e, ls, u, j, ms, mv, rfl, he, s2, ht2, hw2, gj⟩
  have hne : ms ≠ [] := fun z => by rw [z] at gj; simp at gj
  cases e with
  | zero =>
   rw [q30 hne] at ht2
   obtain ⟨a, rfl, ha⟩ := ht2
   refine ⟨_, rfl, a, _, _, _, rfl, rfl, SqT.of ha, rfl, rfl, _, rfl, ?_⟩
   refine ite2 (fun c => absurd (of_decide_eq_true c) (by decide)) (fun c => ?_)
   have hn := hw2 n (List.mem_of_getElem? gj)
   have e1 : ls = n := by
    have : (2 : Int) ^ 0 = 1 := rfl
    omega
   refine ⟨_, rfl, ?_⟩
   rw [e1]
   exact q H2 s2
  | succ e =>
   have ht2' := ht2
   rw [q33 hne] at ht2
   obtain ⟨a, m, x, y, rfl, ha, hm, hx, hy⟩ := id ht2
   refine ⟨_, rfl, a, _, _, _, rfl, rfl, SqT.of ha, rfl, rfl, _, rfl, ?_⟩
   refine ite2 (fun c => ?_) (fun c => absurd (decide_eq_true rfl) c)
   refine ⟨_, rfl, _, _, rfl, rfl, ⟨by decide, by decide⟩, ?_⟩
   dsimp only
   rw [q619]
   have gk : ((ms.map (mkOf (ls + 2 ^ e))).map V.int)[j]? = some (.int (mkOf (ls + 2 ^ e) n)) := by rw [List.getElem?_map, List.getElem?_map, gj]; rfl
   have hk := mk01 (ls + 2 ^ e) n
   refine ⟨_, rfl, a, _, _, _, rfl, rfl, SqT.of ha, rfl, _, rfl, m, _, _, _, rfl, rfl, hm.sq, q41 gk, ?_⟩
   refine ⟨_, rfl, a, _, _, _, rfl, rfl, SqT.of ha, rfl, _, rfl, _, rfl, m, ms.map (mkOf (ls + 2 ^ e)), _, j, rfl, hm, fun H3 s3 => ?_⟩
   refine ⟨_, rfl, _, rfl, _, rfl, _, _, rfl, rfl, .inl ⟨by omega, by omega⟩, _, _, rfl, rfl, ?_⟩
   refine ⟨_, rfl, _, rfl, _, _, _, rfl, ht2'.same s3, hk, fun u' hu' => ?_⟩
   rw [q122 hk] at hu'
   have hh := q519 gj (q517 (ls + 2 ^ e) n)
   rw [<- q107 hk] at hh
   have el := lowOf_eq (low := ls) (e := e) hk
   refine ⟨⟨e, lowOf ls e (mkOf (ls + 2 ^ e) n), u', _, _, _, by rw [<- el] <;> rfl, by omega, s2.trans s3, hu', hw2.half hk, hh⟩, ?_⟩
   show ((2 : Int) ^ e).toNat < ((2 : Int) ^ (e + 1)).toNat
   have := p2pos e
   have := pow2 e
   omega
 ·rintro σ H2 Q1 Q2 hq ⟨_, e0, p, xs, i, v, e1, e2, e3, e4, e5, k, e6, h⟩
  exact ⟨_, e0, p, xs, i, v, e1, e2, e3, e4, e5, k, e6, hq _ _ h⟩
abbrev q100 : Nat := 2
abbrev q297 : Nat := 40
inductive spe_without (u0 : Fg) (e : Nat) (vs : List V) (H : Hp) (Q : VK) (E : XK) : Prop
 | mk (v : V) (pl : Nat) (low x : Int) (ns : List Int) (_ : vs = [v, .int (pl : Int)]) (_ : q29 H v (grow low e ns)) (_ : ns[pl]? = some x) (_ : ns.length <= 900) (_ : ∀ (u : V) (H' : Hp), Same H H' -> q29 H' u (grow low e (delAt ns pl)) -> Q u H') : spe_without u0 e vs H Q E
def q573 (K : Fg) : Sp := fun vs H Q E => ∃ e, e <= q297 /\ spe_without K e vs H Q E
inductive sp_taken_out (K : Fg) (vs : List V) (H : Hp) (Q : VK) (E : XK) : Prop
 | mk (b : Addr) (v : V) (pl : Nat) (low x : Int) (L : Nat) (ns : List Int) (_ : vs = [.ref b, v, .int (pl : Int)]) (_ : SqT K H b [.int low, .int (L : Int)]) (_ : L <= 40) (_ : q29 H v (grow low L ns)) (_ : Wths low L ns) (_ : ns[pl]? = some x) (_ : ns.length <= 900) (_ : ∀ (p : Addr) (u : V) (H' : Hp), Same H H' -> H' p = some (.tup [u, .int x]) -> q29 H' u (grow low L (delAt ns pl)) -> Q (.ref p) H') : sp_taken_out K vs H Q E
theorem q574 (z : Bz K mg cA cB cC cD cE cF cG cH) : Cal P w K mg base 43 "without" ["tree", "place"] (q573 K) := by
 have sc := q565
 refine z.d_without.recur (k := q100) (sp := spe_without K) q297 fun e hen c_without f fd F => F.k sc fun _ _ _ s H _ Q _ hr h => ?_
 obtain ⟨v, pl, low, x, ns, rfl, ht, hx, hl, q⟩ := h
 refine ⟨_, (q12 (ps_if (q18 op_eq (pe_fn (q74 z) (hr.mono (Nat.le_trans (by decide : 1 <= q100) (Nat.le_add_left _ _))) (by rfl) (q10 (pv 0) q11)) q13 (q21 _))
 (q15 (q19 q62))
 q20)
 (q12 (ps_if (q18 op_eq (pix q23 (pv 0) q13) q22 (q21 _))
 (q15 (q19 (q27 (q10 q22 (q10 (pe_op q51 (pix q23 (pv 0) q13) q13) q11)))))
 q20)
 (q12 (pst 2 sc.nd (pix q23 (pv 0) q13))
 (q12 (pst 3 sc.nd (pix q23 (pv 2) (pv 1)))
 (q12 (pst 4 sc.nd (pe_fn c_without (hr.mono (Nat.le_refl _)) (by rfl) (q10 (pe_fn (q75 z) (hr.mono (Nat.le_trans (by decide : 1 <= q100) (Nat.le_add_left _ _))) (by rfl) (q10 (pv 0) (q10 (pv 3) q11))) (q10 (pe_fn (q162 z) (hr.mono (Nat.le_trans (by decide : 1 <= q100) (Nat.le_add_left _ _))) (by rfl) (q10 (pv 2) (q10 (pv 3) (q10 (pv 1) q11)))) q11))))
 (q15 (q19 (pe_fn (q183 z) (hr.mono (Nat.le_trans (by decide : 2 <= q100) (Nat.le_add_left _ _))) (by rfl) (q10 (pe_op q316 (q40 q116 (pv 2) q54 (q47 (pv 1))) (q40 q116 (pv 2) (q47 (pe_op q31 (pv 1) q13)) q54)) (q10 (pv 0) (q10 (pv 3) (q10 (pv 4) q11)))))))))))), ?_⟩
 have hpl : pl < ns.length := (List.getElem?_eq_some_iff.mp hx).1
 have hdl := q332 hpl
 have hne : ns ≠ [] := fun z => by rw [z] at hpl; exact absurd hpl (Nat.not_lt_zero _)
 refine ⟨_, rfl, v, _, rfl, ht, rfl, _, rfl, ?_⟩
 rw [q59]
 refine ite2 (fun c => ?_) (fun c => ?_)
 ·have c' : ((ns.length : Nat) : Int) = 1 := V.int.inj (of_decide_eq_true c)
  have e0 : delAt ns pl = [] := List.eq_nil_of_length_eq_zero (by omega)
  refine q .non H (Same.refl H) ?_
  rw [e0, q38]
  rfl
 ·have c' : ns.length ≠ 1 := fun z => c (decide_eq_true (by rw [z]; rfl))
  have hdne : delAt ns pl ≠ [] := fun z => by rw [z, List.length_nil] at hdl; omega
  cases e with
  | zero =>
   have ht1 := ht
   rw [q30 hne] at ht1
   obtain ⟨a, rfl, ha⟩ := ht1
   refine ⟨_, rfl, a, _, _, _, rfl, rfl, SqT.of ha, rfl, rfl, _, rfl, ?_⟩
   refine ite2 (fun c => ?_) (fun c => absurd (decide_eq_true rfl) c)
   refine ⟨_, rfl, a, _, _, _, rfl, rfl, SqT.of ha, rfl, _, _, rfl, rfl, szb rfl, fun p hp => q _ _ (q16 hp _) ?_⟩
   rw [q30 hdne]
   refine ⟨p, rfl, ?_⟩
   rw [q14, show ((delAt ns pl).length : Int) = (ns.length : Int) - 1 by omega]
  | succ e =>
   have ht1 := ht
   rw [q33 hne] at ht1
   obtain ⟨a, m, xl, xr, rfl, ha, hm, _, _⟩ := ht1
   have gk : ((ns.map (mkOf (low + 2 ^ e))).map V.int)[pl]? = some (.int (mkOf (low + 2 ^ e) x)) := by rw [List.getElem?_map, List.getElem?_map, hx]; rfl
   have hmk := mk01 (low + 2 ^ e) x
   have hself := q517 (low + 2 ^ e) x
   rw [grow_del hx hdne rfl] at q
   generalize mkOf (low + 2 ^ e) x = mk at *
   refine ⟨_, rfl, a, _, _, _, rfl, rfl, SqT.of ha, rfl, rfl, _, rfl, ?_⟩
   refine ite2 (fun c => absurd (of_decide_eq_true c) (by decide)) (fun c => ?_)
   refine ⟨_, rfl, a, _, _, _, rfl, rfl, SqT.of ha, rfl, ?_⟩
   refine ⟨_, rfl, _, rfl, m, _, _, _, rfl, rfl, hm.sq, q41 gk, ?_⟩
   refine ⟨_, rfl, _, rfl, _, _, mk, rfl, ht, hmk, fun h hh => ?_⟩
   rw [q122 hmk] at hh
   refine ⟨_, rfl, _, rfl, _, rfl, m, ns.map (mkOf (low + 2 ^ e)), mk, pl, rfl, hm, fun H1 s1 => ?_⟩
   refine ⟨h, (ns.take pl).countP (hlf (low + 2 ^ e) mk), lowOf low e mk, x, ns.filter (hlf (low + 2 ^ e) mk), by rw [q107 hmk] <;> rfl, hh.same s1, q519 hx hself, Nat.le_trans (List.length_filter_le _ _) hl, fun u H2 s2 hu => ?_⟩
   have hm2 := (hm.same s1).same s2
   refine ⟨_, rfl, _, rfl, _, rfl, m, _, rfl, hm2, fun p3 H3 s3 h3 => ?_⟩
   rw [q106] at h3
   refine ⟨_, rfl, _, rfl, _, _, rfl, rfl, _, rfl, m, _, rfl, hm2.same s3, fun p4 H4 s4 h4 => ?_⟩
   have h4' : TupF H4 p4 (((ns.map (mkOf (low + 2 ^ e))).drop (pl + 1)).map V.int) := by rw [<- q108]; exact h4
   refine ⟨p3, p4, _, _, rfl, rfl, h3.same s4, h4', sz (by simp only [List.length_map, List.length_take, List.length_drop]; omega), fun p5 H5 s5 h5 => ?_⟩
   have s25 : Same H2 H5 := s3.trans (s4.trans s5)
   have s05 : Same H H5 := s1.trans (s2.trans s25)
   rw [<- List.map_append] at h5
   exact ⟨_, rfl, _, rfl, _, rfl, p5, _, _, _, mk, u, _, rfl, h5, ht.same s05, hmk, hu.same s25, fun p H6 s6 h6 => q _ _ (s05.trans s6) h6⟩
theorem q184 (z : Bz K mg cA cB cC cD cE cF cG cH) : Cal P w K mg base 44 "taken_out_changes" pn12 (sp_taken_out K) := by
 have sc := q397
 refine z.d_taken_out.cal fun f fd F => F.k sc fun _ _ _ s H _ Q _ hr h => ?_
 obtain ⟨b, v, pl, low, x, L, ns, rfl, hb, hL, ht, hw, hx, hl, q⟩ := h
 refine ⟨_, (q12 (pst 3 sc.nd (pe_fn (q412 z) hr.m (by rfl) (q10 (pv 0) (q10 (pv 1) (q10 (pv 2) q11)))))
 (q15 (q19 (q27 (q10 (pe_fn (q574 z) hr.m (by rfl) (q10 (pv 1) (q10 (pv 2) q11))) (q10 (pv 3) q11)))))), ?_⟩
 refine ⟨_, rfl, _, rfl, _, rfl, b, v, pl, x, low, L, ns, rfl, hb, hL, ht, hw, hx, fun H1 s1 => ?_⟩
 refine ⟨_, rfl, _, rfl, L, hL, v, pl, low, x, ns, rfl, ht.same s1, hx, hl, fun u H2 s2 hu => ⟨_, rfl, szb rfl, fun p hp => ?_⟩⟩
 exact q p u _ (s1.trans (s2.trans (q16 hp _))) q14 (hu.same (q16 hp _))
inductive sp_set_at (K : Fg) (vs : List V) (H : Hp) (Q : VK) (E : XK) : Prop
 | mk (b : Addr) (v : V) (pl : Nat) (low x num : Int) (L : Nat) (ns : List Int) (_ : vs = [.ref b, v, .int (pl : Int), .int num]) (_ : SqT K H b [.int low, .int (L : Int)]) (_ : L <= 40) (_ : q29 H v (grow low L ns)) (_ : Wths low L ns) (_ : ns[pl]? = some x) (_ : ns.length <= 900) (_ : low <= num) (_ : num < low + 2 ^ L) (_ : ∀ (u : V) (H' : Hp), Same H H' -> q29 H' u (grow low L (ns.take pl ++ num :: ns.drop (pl + 1))) -> Q u H') : sp_set_at K vs H Q E
theorem q668 (z : Bz K mg cA cB cC cD cE cF cG cH) : Cal P w K mg base 45 "set_at_changes" pn17 (sp_set_at K) := by
 have sc := q656
 refine z.d_set_at.cal fun f fd F => F.k sc fun _ _ _ s H _ Q _ hr h => ?_
 obtain ⟨b, v, pl, low, x, num, L, ns, rfl, hb, hL, ht, hw, hx, hl, n0, n1, q⟩ := h
 refine ⟨_, (q15 (q19 (pe_fn (q411 z) hr.m (by rfl) (q10 (pv 0) (q10 (pix q23 (pe_fn (q184 z) hr.m (by rfl) (q10 (pv 0) (q10 (pv 1) (q10 (pv 2) q11)))) q13) (q10 (pv 2) (q10 (pv 3) q11))))))), ?_⟩
 have hpl : pl < ns.length := (List.getElem?_eq_some_iff.mp hx).1
 have hdl := q332 hpl
 rw [<- ins_del hpl] at q
 refine ⟨_, rfl, _, rfl, _, rfl, _, rfl, b, v, pl, low, x, L, ns, rfl, hb, hL, ht, hw, hx, hl, fun p u H1 s1 hp hu => ?_⟩
 exact ⟨p, _, _, _, rfl, rfl, SqT.of hp, rfl, _, rfl, _, rfl, b, u, pl, low, num, L, delAt ns pl, rfl, s1.seqT hb, hL, hu, by omega, by omega, n0, n1, fun u2 H2 s2 hu2 => q u2 H2 (s1.trans s2) hu2⟩
def segI (ns : List Int) (st en : Nat) : List Int := (ns.take en).drop st
theorem q335 {ns : List Int} {st en : Nat} (h : en <= ns.length) : (segI ns st en).length = en - st := by
 unfold segI
 rw [List.length_drop, List.length_take]
 omega
theorem seg_map (f : Int -> Int) (ns : List Int) (st en : Nat) : (segI ns st en).map f = ((ns.map f).take en).drop st := by
 unfold segI
 rw [List.map_drop, List.map_take]
theorem q669 {ns : List Int} {st en : Nat} (h : st <= en) : (ns.take en).take st = ns.take st := by
 rw [List.take_take, Nat.min_eq_left h]
theorem q298 (p : Int -> Bool) {ns : List Int} {st en : Nat} (h : st <= en) : (segI ns st en).filter p = segI (ns.filter p) ((ns.take st).countP p) ((ns.take en).countP p) := by
 have e := q163 p (ns.take en) st
 rw [q669 h] at e
 unfold segI
 rw [q246, e]
theorem q520 (p : Int -> Bool) {ns : List Int} {st en : Nat} (h : st <= en) : (ns.take st).countP p <= (ns.take en).countP p := by
 rw [<- q669 h]
 exact List.Sublist.countP_le (List.take_sublist _ _)
theorem q670 (p : Int -> Bool) (ns : List Int) (en : Nat) : (ns.take en).countP p <= (ns.filter p).length := by
 rw [<- List.countP_eq_length_filter]
 exact List.Sublist.countP_le (List.take_sublist _ _)
theorem q200 {low : Int} {e : Nat} (h : q29 H .non (grow low e ns)) : ns = [] := by
 by_cases z : ns = []
 ·exact z
 ·cases e with
  | zero => rw [q30 z] at h; obtain ⟨a, e1, _⟩ := h; cases e1
  | succ e => rw [q33 z] at h; obtain ⟨a, m, x, y, e1, _⟩ := h; cases e1
theorem q671 (ms : List Int) (st en : Nat) (h : st <= en) (h2 : en <= ms.length) : cutV (ms.map V.int) (some (st : Int)) (some (en : Int)) = ((ms.take en).drop st).map V.int := by
 unfold cutV
 rw [HT.q715, HT.q715, List.length_map, Nat.min_eq_left h2, Nat.min_eq_left (Nat.le_trans h h2), List.map_drop, List.map_take, List.drop_take]
theorem q467 : ∀ (ns : List Int) (i : Nat) (n : Int), ns[i]? = some n -> p n = true -> (ns.filter p)[(ns.take i).countP p]? = some n
 | [], i, n, h, _ => by simp at h
 | x :: ns, 0, n, h, hp => by
  have e : x = n := by simpa using h
  rw [List.filter_cons, e, if_pos hp]
  rfl
 | x :: ns, i + 1, n, h, hp => by
  have h' : ns[i]? = some n := by simpa using h
  have ih := q467 ns i n h' hp
  rw [List.filter_cons, List.take_succ_cons, List.countP_cons]
  by_cases hx : p x = true
  ·rw [if_pos hx, if_pos hx, List.getElem?_cons_succ]; exact ih
  ·rw [if_neg hx, if_neg hx]; exact ih
def upI (mid : Int) (l : List Int) : Nat := l.countP fun n => decide (mid <= n)
theorem upI_snoc {mid : Int} {ns : List Int} {i : Nat} {n : Int} (h : ns[i]? = some n) : ((upI mid (ns.take (i + 1)) : Nat) : Int) = (upI mid (ns.take i) : Nat) + mkOf mid n := by
 have e : ns.take (i + 1) = ns.take i ++ [n] := by rw [List.take_add_one, h]; rfl
 rw [e]
 unfold upI mkOf
 rw [List.countP_append, List.countP_singleton]
 by_cases c : n < mid
 ·rw [if_pos c, if_neg (by intro z; have := of_decide_eq_true z; omega)]; simp
 ·rw [if_neg c, if_pos (decide_eq_true (by omega))]; simp
theorem upI_le {mid : Int} {ns : List Int} {i : Nat} (h : i <= ns.length) : i = (ns.take i).countP (fun n => decide (n < mid)) + upI mid (ns.take i) := by
 have e : (ns.take i).length = i := by rw [List.length_take]; omega
 have z := List.length_eq_countP_add_countP (fun n => decide (n < mid)) (l := ns.take i)
 rw [e] at z
 have e2 : (ns.take i).countP (fun a => decide (¬ (decide (a < mid)) = true)) = upI mid (ns.take i) := by
  unfold upI
  congr 1
  funext a
  by_cases c : a < mid
  ·have : ¬ mid <= a := by omega
   simp [c, this]
  ·have : mid <= a := by omega
   simp [c, this]
 rw [e2] at z
 exact z
theorem up_at {mid : Int} {ns : List Int} {i : Nat} {n : Int} (h : ns[i]? = some n) (c : ¬ n < mid) : atI ((ns.filter fun n => decide (mid <= n)).map V.int) ((upI mid (ns.take i) : Nat) : Int) = some (.int n) :=
 q41 (by rw [List.getElem?_map]; unfold upI; rw [q467 ns i n h (decide_eq_true (by omega))]; rfl)
theorem lo_at {mid : Int} {ns : List Int} {i : Nat} {n : Int} (h : ns[i]? = some n) (c : n < mid) : atI ((ns.filter fun n => decide (n < mid)).map V.int) ((i : Int) - ((upI mid (ns.take i) : Nat) : Int)) = some (.int n) := by
 have hi : i < ns.length := (List.getElem?_eq_some_iff.mp h).1
 have z := upI_le (mid := mid) (ns := ns) (i := i) (by omega)
 have e : (i : Int) - ((upI mid (ns.take i) : Nat) : Int) = (((ns.take i).countP (fun n => decide (n < mid)) : Nat) : Int) := by omega
 rw [e]
 exact q41 (by rw [List.getElem?_map, q467 ns i n h (decide_eq_true c)]; rfl)
theorem Same.own (k : Same H H') (hr : H r = none) : Same H (upd H' r o) := fun c u z => by
 rw [q34 (q26 z hr)]
 exact k c u z
theorem map_get {ms : List Int} {i : Nat} (hx : (ms.map V.int)[i]? = some x) : ∃ m, ms[i]? = some m /\ x = .int m := by
 rw [List.getElem?_map] at hx
 cases e : ms[i]? with
 | none => rw [e] at hx; cases hx
 | some m => rw [e] at hx; exact ⟨m, rfl, (Option.some.inj hx).symm⟩
inductive sp_merged (K : Fg) (vs : List V) (H : Hp) (Q : VK) (E : XK) : Prop
 | mk (m lo hi : Addr) (mid : Int) (ns : List Int) (_ : vs = [.ref m, .ref lo, .ref hi]) (_ : SqT K H m ((ns.map (mkOf mid)).map V.int)) (_ : H lo = some (.lst ((ns.filter fun n => decide (n < mid)).map V.int))) (_ : H hi = some (.lst ((ns.filter fun n => decide (mid <= n)).map V.int))) (_ : ns.length <= 1000) (_ : ∀ (H' : Hp) (D : Addr), Same H H' -> H' D = some (.lst (ns.map V.int)) -> H D = none -> Q (.ref D) H') : sp_merged K vs H Q E
abbrev q248 : Nat := 1
abbrev q249 : Nat := 40
inductive spe_row_from (K : Fg) (e : Nat) (vs : List V) (H : Hp) (Q : VK) (E : XK) : Prop
 | mk (least : Int) (v : V) (ns : List Int) (_ : vs = [.int least, .int (2 ^ e), v]) (_ : q29 H v (grow least e ns)) (_ : ns.length <= 1000) (_ : Wths least e ns) (_ : ∀ (H' : Hp) (D : Addr), Same H H' -> H' D = some (.lst (ns.map V.int)) -> H D = none -> Q (.ref D) H') : spe_row_from K e vs H Q E
def q468 (K : Fg) : Sp := fun vs H Q E => ∃ e, e <= q249 /\ spe_row_from K e vs H Q E
inductive sp_row_of (K : Fg) (vs : List V) (H : Hp) (Q : VK) (E : XK) : Prop
 | mk (b : Addr) (v : V) (low : Int) (L : Nat) (ns : List Int) (_ : vs = [.ref b, v]) (_ : SqT K H b [.int low, .int (L : Int)]) (_ : L <= 40) (_ : q29 H v (grow low L ns)) (_ : ns.length <= 1000) (_ : Wths low L ns) (_ : ∀ (H' : Hp) (D : Addr), Same H H' -> H' D = some (.lst (ns.map V.int)) -> H D = none -> Q (.ref D) H') : sp_row_of K vs H Q E
theorem Wths.lowerR {low : Int} {e : Nat} {ns : List Int} (h : Wths low (e + 1) ns) : Wths low e (ns.filter fun n => decide (n < low + 2 ^ e)) := fun x hx => by
 obtain ⟨h1, h2⟩ := List.mem_filter.mp hx
 exact ⟨(h x h1).1, of_decide_eq_true h2⟩
theorem Wths.upperR {low : Int} {e : Nat} {ns : List Int} (h : Wths low (e + 1) ns) : Wths (low + 2 ^ e) e (ns.filter fun n => decide (low + 2 ^ e <= n)) := fun x hx => by
 obtain ⟨h1, h2⟩ := List.mem_filter.mp hx
 have := (h x h1).2
 rw [q620] at this
 exact ⟨of_decide_eq_true h2, by omega⟩
theorem q672 {low : Int} : ∀ {ns : List Int}, Wths low 0 ns -> (List.replicate ns.length [V.int low]).flatten = ns.map V.int
 | [], _ => rfl
 | n :: ns, h => by
  have h0 := h n (List.mem_cons_self ..)
  have e : n = low := by
   have : (2 : Int) ^ 0 = 1 := rfl
   omega
  rw [List.length_cons, List.replicate_succ, List.flatten_cons, List.map_cons, q672 fun x hx => h x (List.mem_cons_of_mem _ hx), e]
  rfl
theorem q673 (z : Bz K mg cA cB cC cD cE cF cG cH) : Cal P w K mg base 1 "merged" ["marks", "lower", "upper"] (sp_merged K) := by
 have sc := q651
 refine z.d_merged.cal fun f fd F => F.k sc fun _ _ _ s H _ Q _ hr h => ?_
 obtain ⟨m, lo, hi, mid, ns, rfl, hm, hlo, hhi, hl, q⟩ := h
 refine ⟨_, (q12 (pst 3 sc.nd (q35 q11))
 (q12 (pst 4 sc.nd q13)
 (q12 (q81 PassesOwn.never rfl (q618 rfl z.enumerate_ (q10 (pv 0) q11)) (q206 rfl (q52 (pgn 5 sc.nd) (q52 (pgn 6 sc.nd) q115)))
 (q12 (q73 (pe_bm PySem.F.plainAttrs_list PySem.F.slot_list_append PySem.F.type_list_append q55 (pv 3) (q10 (q93 (q18 op_eq (pv 6) q13 (q21 _)) (pix q25 (pv 2) (pv 4)) (pix q25 (pv 1) (pe_op q51 (pv 5) (pv 4)))) q11)))
 (q15 (pst 4 sc.nd (pe_op q31 (pv 4) (pv 6))))))
 (q15 (q19 (pv 3)))))), ?_⟩
 refine ⟨szb rfl, fun D hD => ?_⟩
 refine ⟨_, rfl, m, rfl, ⟨_, (q16 hD _).seqT hm⟩, q495 (xs := (ns.map (mkOf mid)).map V.int) (fun i σ H2 => ∃ v u : Option V, σ = [some (.ref m), some (.ref lo), some (.ref hi), some (.ref D), some (.int ((upI mid (ns.take i) : Nat) : Int)), v, u] /\ Same H H2 /\ H2 D = some (.lst ((ns.take i).map V.int)))
  ⟨none, none, rfl, q16 hD _, q14⟩ (fun i σ H2 _ ⟨_, _, _, s2, _⟩ => s2.seqT hm) ?_ ?_⟩
 ·rintro i x σ H2 p hx ⟨v, u, rfl, s2, hD2⟩ hpn
  obtain ⟨mk, gm, rfl⟩ := map_get hx
  obtain ⟨n, gn, rfl⟩ : ∃ n, ns[i]? = some n /\ mkOf mid n = mk := by
   rw [List.getElem?_map] at gm
   cases e : ns[i]? with
   | none => rw [e] at gm; cases gm
   | some n => rw [e] at gm; exact ⟨n, rfl, Option.some.inj gm⟩
  have hil : i < ns.length := (List.getElem?_eq_some_iff.mp gn).1
  have s3 : Same H (upd H2 p (.tup [.int (i : Nat), .int (mkOf mid n)])) := s2.trans (q16 hpn _)
  have hD3 : upd H2 p (.tup [.int (i : Nat), .int (mkOf mid n)]) D = some (.lst ((ns.take i).map V.int)) := q16 hpn _ _ _ hD2
  have pT : SqT K (upd H2 p (.tup [.int (i : Nat), .int (mkOf mid n)])) p [.int (i : Nat), .int (mkOf mid n)] := SqT.of q14
  generalize upd H2 p (.tup [.int (i : Nat), .int (mkOf mid n)]) = H3 at *
  refine ⟨p, _, rfl, pT, rfl, _, _, rfl, _, _, rfl, rfl, ?_⟩
  have f2 : ((ns.take i).map V.int).length < sizeLine := by rw [List.length_map, List.length_take]; exact q66 (by omega)
  have f3 : Same H (upd H3 D (.lst ((ns.take i).map V.int ++ [.int n]))) := Same.own s3 hD
  have f4 : upd H3 D (.lst ((ns.take i).map V.int ++ [.int n])) D = some (.lst ((ns.take (i + 1)).map V.int)) := by
   have e : ns.take (i + 1) = ns.take i ++ [n] := by rw [List.take_add_one, gn]; rfl
   rw [q14, e, List.map_append]
   rfl
  have f5 : [some (V.ref m), some (.ref lo), some (.ref hi), some (.ref D), some (.int (((upI mid (ns.take i) : Nat) : Int) + mkOf mid n)), some (.int (i : Nat)), some (.int (mkOf mid n))] = [some (V.ref m), some (.ref lo), some (.ref hi), some (.ref D), some (.int ((upI mid (ns.take (i + 1)) : Nat) : Int)), some (.int (i : Nat)), some (.int (mkOf mid n))] := by rw [upI_snoc gn]
  refine ⟨_, rfl, .inl ⟨rfl, _, SqL.of hD3⟩, _, rfl, rfl, _, rfl, ?_⟩
  refine ite2 (fun c => ?_) (fun c => ?_)
  ·have c' : mkOf mid n = 1 := V.int.inj (of_decide_eq_true c)
   have cn : ¬ n < mid := fun z => by unfold mkOf at c'; rw [if_pos z] at c'; cases c'
   exact ⟨_, rfl, _, rfl, hi, _, _, _, rfl, rfl, SqL.of (s3 _ _ hhi), up_at gn cn, D, _, _, rfl, rfl, hD3, f2, _, rfl, _, rfl, _, _, rfl, rfl, _, _, f5, f3, f4⟩
  ·have cn : n < mid := by
    apply Classical.byContradiction
    intro z
    exact c (by unfold mkOf; rw [if_neg z]; exact decide_eq_true rfl)
   exact ⟨_, rfl, _, rfl, _, rfl, _, _, rfl, rfl, lo, _, _, _, rfl, rfl, SqL.of (s3 _ _ hlo), lo_at gn cn, D, _, _, rfl, rfl, hD3, f2, _, rfl, _, rfl, _, _, rfl, rfl, _, _, f5, f3, f4⟩
 ·rintro σ H2 ⟨v, u, rfl, s2, hD2⟩
  have e : ns.take ((ns.map (mkOf mid)).map V.int).length = ns := List.take_of_length_le (by rw [List.length_map, List.length_map]; exact Nat.le_refl _)
  rw [e] at hD2
  exact ⟨_, rfl, q H2 D s2 hD2 hD⟩
theorem q469 (z : Bz K mg cA cB cC cD cE cF cG cH) : Cal P w K mg base 42 "row_from" ["least", "many", "tree"] (q468 K) := by
 have sc := q448
 refine z.d_row_from.recur (k := q248) (sp := spe_row_from K) q249 fun e hen c_row_from f fd F => F.k sc fun _ _ _ s H _ Q _ hr h => ?_
 obtain ⟨least, v, ns, rfl, ht, hl, hw, q⟩ := h
 refine ⟨_, (q12 (ps_if (q18 q110 (pv 2) q62 (q21 _))
 (q15 (q19 (q35 q11)))
 q20)
 (q12 (ps_if (q18 op_eq (pix q23 (pv 2) q13) q22 (q21 _))
 (q15 (q19 (pe_op op_rep (q35 (q10 (pv 0) q11)) (pix q23 (pv 2) q13))))
 q20)
 (q12 (pst 3 sc.nd (pe_op q94 (pv 1) q13))
 (q12 (pst 4 sc.nd (pe_fn c_row_from (hr.mono (Nat.le_refl _)) (by rfl) (q10 (pv 0) (q10 (pv 3) (q10 (pix q23 (pv 2) q13) q11)))))
 (q12 (pst 5 sc.nd (pe_fn c_row_from (hr.mono (Nat.le_refl _)) (by rfl) (q10 (pe_op q31 (pv 0) (pv 3)) (q10 (pv 3) (q10 (pix q23 (pv 2) q13) q11)))))
 (q15 (q19 (pe_fn (q673 z) (hr.mono (Nat.le_trans (by decide : 1 <= q248) (Nat.le_add_left _ _))) (by rfl) (q10 (pix q23 (pv 2) q13) (q10 (pv 4) (q10 (pv 5) q11))))))))))), ?_⟩
 refine ⟨_, rfl, rfl, _, rfl, ?_⟩
 by_cases hne : ns = []
 ·subst hne
  rw [q38] at ht
  cases ht
  refine ite2 (fun c => ?_) (fun c => absurd (decide_eq_true rfl) c)
  exact ⟨szb rfl, fun D hD => q _ D (q16 hD _) q14 hD⟩
 ·cases e with
  | zero =>
   rw [q30 hne] at ht
   obtain ⟨a, rfl, ha⟩ := ht
   refine ite2 (fun c => absurd (of_decide_eq_true c) (by intro z; cases z)) (fun c => ?_)
   refine ⟨_, rfl, a, _, _, _, rfl, rfl, SqT.of ha, rfl, rfl, _, rfl, ?_⟩
   refine ite2 (fun c => ?_) (fun c => absurd (decide_eq_true rfl) c)
   refine ⟨_, rfl, szb rfl, fun l hl' => ?_⟩
   have s1 : Same H (upd H l (.lst [.int least])) := q16 hl' _
   refine ⟨_, rfl, a, _, _, _, rfl, rfl, SqT.of (s1 _ _ ha), rfl, l, _, _, rfl, rfl, q14, by omega, by omega, ?_, fun D hD => ?_⟩
   ·exact sz (by simp only [List.length_cons, List.length_nil]; omega)
   ·have e1 : ((ns.length : Nat) : Int).toNat = ns.length := by omega
    rw [e1, q672 hw]
    exact q _ D (s1.trans (q16 hD _)) q14 (by
     cases z : H D with
     | none => rfl
     | some o => rw [s1 _ _ z] at hD; cases hD)
  | succ e =>
   rw [q161 hne] at ht
   obtain ⟨a, m, x, y, rfl, ha, hm, hx, hy⟩ := ht
   refine ite2 (fun c => absurd (of_decide_eq_true c) (by intro z; cases z)) (fun c => ?_)
   refine ⟨_, rfl, a, _, _, _, rfl, rfl, SqT.of ha, rfl, rfl, _, rfl, ?_⟩
   refine ite2 (fun c => absurd (of_decide_eq_true c) (by decide)) (fun c => ?_)
   refine ⟨_, rfl, _, _, rfl, rfl, ⟨by decide, by decide⟩, ?_⟩
   dsimp only
   rw [q619]
   refine ⟨_, rfl, _, rfl, _, rfl, a, _, _, _, rfl, rfl, SqT.of ha, rfl, least, x, _, rfl, hx, Nat.le_trans (List.length_filter_le _ _) hl, hw.lowerR, fun H1 lo s1 hlo hlo0 => ?_⟩
   refine ⟨_, rfl, _, rfl, _, _, rfl, rfl, _, rfl, _, rfl, a, _, _, _, rfl, rfl, SqT.of (s1 _ _ ha), rfl, least + 2 ^ e, y, _, rfl, hy.same s1, Nat.le_trans (List.length_filter_le _ _) hl, hw.upperR, fun H2 hi s2 hhi hhi0 => ?_⟩
   have s12 := s1.trans s2
   refine ⟨_, rfl, a, _, _, _, rfl, rfl, SqT.of (s12 _ _ ha), rfl, _, rfl, _, rfl, m, lo, hi, least + 2 ^ e, ns, rfl, (hm.same s12).sq, s2 _ _ hlo, hhi, hl, fun H3 D s3 hD hD0 => ?_⟩
   exact q H3 D (s12.trans s3) hD (by
     cases z : H D with
     | none => rfl
     | some o => rw [s12 _ _ z] at hD0; cases hD0)
theorem q674 (z : Bz K mg cA cB cC cD cE cF cG cH) : Cal P w K mg base 43 "row_of" ["bounds", "tree"] (sp_row_of K) := by
 have sc := q650
 refine z.d_row_of.cal fun f fd F => F.k sc fun _ _ _ s H _ Q _ hr h => ?_
 obtain ⟨b, v, low, L, ns, rfl, hb, hL, ht, hl, hw, q⟩ := h
 refine ⟨_, (q15 (q19 (pe_fn (q469 z) hr.m (by rfl) (q10 (pix q23 (pv 0) q13) (q10 (pe_fn (q43 z) hr.m (by rfl) (q10 (pix q23 (pv 0) q13) q11)) (q10 (pv 1) q11)))))), ?_⟩
 exact ⟨_, rfl, b, _, _, _, rfl, rfl, hb, rfl, _, rfl, b, _, _, _, rfl, rfl, hb, rfl, L, rfl, hL, _, rfl, L, hL, low, v, ns, rfl, ht, hl, hw, q⟩
theorem q85 (d : Int) : ∀ (e : Nat) (low : Int) (ns : List Int), grow (low + d) e (ns.map fun n => n + d) = grow low e ns
 | 0, low, ns => by
  by_cases h : ns = []
  ·rw [h]; rfl
  ·rw [q30 h, q30 (by simpa using h), List.length_map]
 | e + 1, low, ns => by
  by_cases h : ns = []
  ·rw [h]; rfl
  ·have h2 : (ns.map fun n => n + d) ≠ [] := by simpa using h
   rw [q33 h, q33 h2]
   have e1 : (ns.map fun n => n + d).map (mkOf (low + d + 2 ^ e)) = ns.map (mkOf (low + 2 ^ e)) := by
    rw [List.map_map]
    refine List.map_congr_left fun n _ => ?_
    show (if n + d < low + d + 2 ^ e then (0 : Int) else 1) = if n < low + 2 ^ e then 0 else 1
    by_cases c : n < low + 2 ^ e
    ·rw [if_pos c, if_pos (by omega)]
    ·rw [if_neg c, if_neg (by omega)]
   have e2 : (ns.map fun n => n + d).filter (loI (low + d + 2 ^ e)) = (ns.filter (loI (low + 2 ^ e))).map fun n => n + d := by
    rw [List.filter_map]
    congr 1
    refine List.filter_congr fun n _ => ?_
    show decide (n + d < low + d + 2 ^ e) = decide (n < low + 2 ^ e)
    by_cases c : n < low + 2 ^ e
    ·rw [decide_eq_true c, decide_eq_true (by omega)]
    ·rw [decide_eq_false c, decide_eq_false (by omega)]
   have e3 : (ns.map fun n => n + d).filter (hiI (low + d + 2 ^ e)) = (ns.filter (hiI (low + 2 ^ e))).map fun n => n + d := by
    rw [List.filter_map]
    congr 1
    refine List.filter_congr fun n _ => ?_
    show decide (low + d + 2 ^ e <= n + d) = decide (low + 2 ^ e <= n)
    by_cases c : low + 2 ^ e <= n
    ·rw [decide_eq_true c, decide_eq_true (by omega)]
    ·rw [decide_eq_false c, decide_eq_false (by omega)]
   rw [e1, e2, e3, q85 d e, show low + d + 2 ^ e = (low + 2 ^ e) + d by omega, q85 d e]
def flp (low : Int) (e : Nat) (n : Int) : Int := 2 * low + 2 ^ e - 1 - n
theorem flp_mk (low : Int) (e : Nat) (ns : List Int) : (ns.map (flp low (e + 1))).map (mkOf (low + 2 ^ e)) = (ns.map (mkOf (low + 2 ^ e))).map fun m => 1 - m := by
 rw [List.map_map, List.map_map]
 refine List.map_congr_left fun n _ => ?_
 show (if flp low (e + 1) n < low + 2 ^ e then (0 : Int) else 1) = 1 - if n < low + 2 ^ e then 0 else 1
 unfold flp
 have p : (2 : Int) ^ (e + 1) = 2 * 2 ^ e := by rw [Int.pow_succ]; omega
 by_cases c : n < low + 2 ^ e
 ·rw [if_pos c, if_neg (by omega)]; rfl
 ·rw [if_neg c, if_pos (by omega)]; rfl
theorem flp_lo (low : Int) (e : Nat) (ns : List Int) : grow low e ((ns.map (flp low (e + 1))).filter (loI (low + 2 ^ e))) = grow (low + 2 ^ e) e ((ns.filter (hiI (low + 2 ^ e))).map (flp (low + 2 ^ e) e)) := by
 have p : (2 : Int) ^ (e + 1) = 2 * 2 ^ e := by rw [Int.pow_succ]; omega
 rw [<- q85 (2 ^ e) e low]
 congr 1
 rw [List.filter_map, List.map_map]
 have e1 : ns.filter (loI (low + 2 ^ e) ∘ flp low (e + 1)) = ns.filter (hiI (low + 2 ^ e)) := List.filter_congr fun n _ => by
  show decide (flp low (e + 1) n < low + 2 ^ e) = decide (low + 2 ^ e <= n)
  unfold flp
  by_cases c : low + 2 ^ e <= n
  ·rw [decide_eq_true c, decide_eq_true (by omega)]
  ·rw [decide_eq_false c, decide_eq_false (by omega)]
 rw [e1]
 refine List.map_congr_left fun n _ => ?_
 show flp low (e + 1) n + 2 ^ e = flp (low + 2 ^ e) e n
 unfold flp
 omega
theorem flp_hi (low : Int) (e : Nat) (ns : List Int) : grow (low + 2 ^ e) e ((ns.map (flp low (e + 1))).filter (hiI (low + 2 ^ e))) = grow low e ((ns.filter (loI (low + 2 ^ e))).map (flp low e)) := by
 have p : (2 : Int) ^ (e + 1) = 2 * 2 ^ e := by rw [Int.pow_succ]; omega
 rw [<- q85 (2 ^ e) e low]
 congr 1
 rw [List.filter_map, List.map_map]
 have e1 : ns.filter (hiI (low + 2 ^ e) ∘ flp low (e + 1)) = ns.filter (loI (low + 2 ^ e)) := List.filter_congr fun n _ => by
  show decide (low + 2 ^ e <= flp low (e + 1) n) = decide (n < low + 2 ^ e)
  unfold flp
  by_cases c : n < low + 2 ^ e
  ·rw [decide_eq_true c, decide_eq_true (by omega)]
  ·rw [decide_eq_false c, decide_eq_false (by omega)]
 rw [e1]
 refine List.map_congr_left fun n _ => ?_
 show flp low (e + 1) n = flp low e n + 2 ^ e
 unfold flp
 omega
abbrev q675 : Nat := 0
abbrev q413 : Nat := 40
inductive spe_turned (u0 : Fg) (e : Nat) (vs : List V) (H : Hp) (Q : VK) (E : XK) : Prop
 | mk (v : V) (low : Int) (ns : List Int) (_ : vs = [v]) (_ : q29 H v (grow low e ns)) (_ : ns.length <= 900) (_ : ∀ (u : V) (H' : Hp), Same H H' -> q29 H' u (grow low e ns.reverse) -> Q u H') : spe_turned u0 e vs H Q E
def q676 (K : Fg) : Sp := fun vs H Q E => ∃ e, e <= q413 /\ spe_turned K e vs H Q E
abbrev q575 : Nat := 0
abbrev q299 : Nat := 40
inductive spe_flipped (u0 : Fg) (e : Nat) (vs : List V) (H : Hp) (Q : VK) (E : XK) : Prop
 | mk (v : V) (low : Int) (ns : List Int) (_ : vs = [v]) (_ : q29 H v (grow low e ns)) (_ : ns.length <= 900) (_ : ∀ (u : V) (H' : Hp), Same H H' -> q29 H' u (grow low e (ns.map (flp low e))) -> Q u H') : spe_flipped u0 e vs H Q E
def q576 (K : Fg) : Sp := fun vs H Q E => ∃ e, e <= q299 /\ spe_flipped K e vs H Q E
theorem q677 (z : Bz K mg cA cB cC cD cE cF cG cH) : Cal P w K mg base 41 "turned_joins" ["tree"] (q676 K) := by
 have sc := q658
 refine z.d_turned.recur (k := q675) (sp := spe_turned K) q413 fun e hen c_turned f fd F => F.k sc fun _ _ _ s H _ Q _ hr h => ?_
 obtain ⟨v, low, ns, rfl, hv, hl, q⟩ := h
 refine ⟨_, (q12 (ps_if (PW.pt (pw_or (q18 q110 (pv 0) q62 (q21 _)) (q80 (q18 op_eq (pix q23 (pv 0) q13) q22 (q21 _)))))
 (q15 (q19 (pv 0)))
 q20)
 (q15 (q19 (q27 (q10 q22 (q10 (q632 rfl (K := K) rfl (by rfl) z.tuple_ (by rfl) z.reversed_ (q10 (pix q23 (pv 0) q13) q11)) (q10 (pe_fn c_turned (hr.mono (Nat.le_refl _)) (by rfl) (q10 (pix q23 (pv 0) q13) q11)) (q10 (pe_fn c_turned (hr.mono (Nat.le_refl _)) (by rfl) (q10 (pix q23 (pv 0) q13) q11)) q11)))))))), ?_⟩
 refine ⟨_, rfl, rfl, _, rfl, ?_⟩
 by_cases hn : ns = []
 ·subst hn
  rw [q38] at hv
  have hv' : v = .non := hv
  subst hv'
  refine ite2 (fun c => ?_) (fun c => absurd (decide_eq_true rfl) c)
  exact ⟨_, rfl, q _ H (Same.refl H) (by rw [List.reverse_nil, q38]; exact hv)⟩
 have hvn : v ≠ .non := fun z => by rw [z] at hv; exact hn (q200 hv)
 refine ite2 (fun c => absurd (of_decide_eq_true c) hvn) (fun _ => ?_)
 have hrn : ns.reverse ≠ [] := by simpa using hn
 cases e with
 | zero =>
  have hv0 := hv
  rw [q30 hn] at hv
  obtain ⟨a, rfl, ha⟩ := hv
  refine ⟨_, rfl, a, _, _, _, rfl, rfl, SqT.of ha, rfl, rfl, _, rfl, ?_⟩
  refine ite2 (fun c => ?_) (fun c => absurd (decide_eq_true rfl) c)
  refine ⟨_, rfl, q _ H (Same.refl H) ?_⟩
  rw [q30 hrn, List.length_reverse, <- q30 hn (low := low)]
  exact hv0
 | succ e =>
  rw [q33 hn] at hv
  rw [q33 hrn, List.map_reverse, List.filter_reverse, List.filter_reverse] at q
  obtain ⟨a, m, x, y, rfl, ha, hm, hx, hy⟩ := hv
  refine ⟨_, rfl, a, _, _, _, rfl, rfl, SqT.of ha, rfl, rfl, _, rfl, ?_⟩
  refine ite2 (fun c => absurd (of_decide_eq_true c) (by decide)) (fun c => ?_)
  refine ⟨_, rfl, a, _, _, _, rfl, rfl, SqT.of ha, rfl, m, _, rfl, hm.sq, by simp only [List.length_map]; omega, fun p3 H3 s3 h3 => ?_⟩
  rw [<- List.map_reverse] at h3
  refine ⟨_, rfl, a, _, _, _, rfl, rfl, SqT.of (s3 _ _ ha), rfl, x, low, _, rfl, hx.same s3, Nat.le_trans (List.length_filter_le _ _) hl, fun u4 H4 s4 hu4 => ?_⟩
  have s34 := s3.trans s4
  refine ⟨_, rfl, a, _, _, _, rfl, rfl, SqT.of (s34 _ _ ha), rfl, y, low + 2 ^ e, _, rfl, hy.same s34, Nat.le_trans (List.length_filter_le _ _) hl, fun u5 H5 s5 hu5 => ⟨szb rfl, fun p hp => q _ _ (s34.trans (s5.trans (q16 hp _))) ?_⟩⟩
  have s6 := q16 hp (.tup [.str "part", .ref p3, u4, u5])
  exact ⟨p, p3, u4, u5, rfl, q14, ((h3.same s4).same s5).same s6, (hu4.same s5).same s6, hu5.same s6⟩
theorem q577 (z : Bz K mg cA cB cC cD cE cF cG cH) : Cal P w K mg base 41 "flipped_joins" ["tree"] (q576 K) := by
 have sc := q567
 refine z.d_flipped.recur (k := q575) (sp := spe_flipped K) q299 fun e hen c_flipped f fd F => F.k sc fun _ _ _ s H _ Q _ hr h => ?_
 obtain ⟨v, low, ns, rfl, hv, hl, q⟩ := h
 refine ⟨_, (q12 (ps_if (PW.pt (pw_or (q18 q110 (pv 0) q62 (q21 _)) (q80 (q18 op_eq (pix q23 (pv 0) q13) q22 (q21 _)))))
 (q15 (q19 (pv 0)))
 q20)
 (q15 (q19 (q27 (q10 q22 (q10 (q32 q90 (by rfl) z.tuple_ q126 (q10 (q64 (cl := []) (cn := []) (N := []) (fr := []) (sc0 := q17 q229) rfl (q274 (pix q23 (pv 0) q13)) (fun C s₂ H₂ fp => (pe_op q51 q13 (pv 0))) (by with_unfolding_all rfl) trivial rfl rfl rfl cok rfl) q11)) (q10 (pe_fn c_flipped (hr.mono (Nat.le_refl _)) (by rfl) (q10 (pix q23 (pv 0) q13) q11)) (q10 (pe_fn c_flipped (hr.mono (Nat.le_refl _)) (by rfl) (q10 (pix q23 (pv 0) q13) q11)) q11)))))))), ?_⟩
 refine ⟨_, rfl, rfl, _, rfl, ?_⟩
 by_cases hn : ns = []
 ·subst hn
  rw [q38] at hv
  have hv' : v = .non := hv
  subst hv'
  refine ite2 (fun c => ?_) (fun c => absurd (decide_eq_true rfl) c)
  exact ⟨_, rfl, q _ H (Same.refl H) (by rw [List.map_nil, q38]; exact hv)⟩
 have hvn : v ≠ .non := fun z => by rw [z] at hv; exact hn (q200 hv)
 refine ite2 (fun c => absurd (of_decide_eq_true c) hvn) (fun _ => ?_)
 have hrn : ns.map (flp low e) ≠ [] := by simpa using hn
 cases e with
 | zero =>
  have hv0 := hv
  rw [q30 hn] at hv
  obtain ⟨a, rfl, ha⟩ := hv
  refine ⟨_, rfl, a, _, _, _, rfl, rfl, SqT.of ha, rfl, rfl, _, rfl, ?_⟩
  refine ite2 (fun c => ?_) (fun c => absurd (decide_eq_true rfl) c)
  refine ⟨_, rfl, q _ H (Same.refl H) ?_⟩
  rw [q30 hrn, List.length_map, <- q30 hn (low := low)]
  exact hv0
 | succ e =>
  rw [q33 hn] at hv
  rw [q33 hrn, flp_mk, flp_lo, flp_hi] at q
  obtain ⟨a, m, x, y, rfl, ha, hm, hx, hy⟩ := hv
  refine ⟨_, rfl, a, _, _, _, rfl, rfl, SqT.of ha, rfl, rfl, _, rfl, ?_⟩
  refine ite2 (fun c => absurd (of_decide_eq_true c) (by decide)) (fun c => ?_)
  refine ⟨_, rfl, a, _, _, _, rfl, rfl, SqT.of ha, rfl, m, rfl, ⟨_, hm.sq⟩, fun D hD => ?_⟩
  refine q314 (xs := (ns.map (mkOf (low + 2 ^ e))).map V.int) (sz (by simp only [List.length_map]; omega)) (fun k ds H2 => H2 D = some (.lst ds) /\ ds.length = k /\ Same H H2 /\ ds = (((ns.map (mkOf (low + 2 ^ e))).take k).map fun m => 1 - m).map V.int) ⟨q14, rfl, q16 hD _, rfl⟩ (fun k ds H2 ⟨_, _, s2, _⟩ => (hm.same s2).sq) (fun k ds H2 ⟨e1, e2, _, _⟩ => ⟨e1, e2⟩) ?_ ?_
  ·rintro k x0 ds H2 hk ⟨e1, e2, s2, e4⟩
   obtain ⟨z, hz, rfl⟩ : ∃ z, (ns.map (mkOf (low + 2 ^ e)))[k]? = some z /\ x0 = .int z := by
    rw [List.getElem?_map] at hk
    cases eq : (ns.map (mkOf (low + 2 ^ e)))[k]? with
    | none => rw [eq] at hk; cases hk
    | some z => rw [eq] at hk; exact ⟨z, rfl, (Option.some.inj hk).symm⟩
   refine ⟨_, rfl, _, _, rfl, rfl, e1, q14, by rw [List.length_append, e2] <;> rfl, Same.own s2 hD, ?_⟩
   rw [List.take_add_one, hz, e4]
   simp
  rintro ds H2 ⟨e1, e2, s2, e4⟩
  rw [List.length_map, List.take_length] at e4
  subst e4
  refine ⟨D, _, rfl, SqL.of e1, fun p3 H3 s3' h3 => ?_⟩
  have s3 := s2.trans s3'
  refine ⟨_, rfl, a, _, _, _, rfl, rfl, SqT.of (s3 _ _ ha), rfl, y, low + 2 ^ e, _, rfl, hy.same s3, Nat.le_trans (List.length_filter_le _ _) hl, fun u4 H4 s4 hu4 => ?_⟩
  have s34 := s3.trans s4
  refine ⟨_, rfl, a, _, _, _, rfl, rfl, SqT.of (s34 _ _ ha), rfl, x, low, _, rfl, hx.same s34, Nat.le_trans (List.length_filter_le _ _) hl, fun u5 H5 s5 hu5 => ⟨szb rfl, fun p hp => q _ _ (s34.trans (s5.trans (q16 hp _))) ?_⟩⟩
  have s6 := q16 hp (.tup [.str "part", .ref p3, u4, u5])
  exact ⟨p, p3, u4, u5, rfl, q14, ((h3.same s4).same s5).same s6, (hu4.same s5).same s6, hu5.same s6⟩
section
open PySem.NumText
def fg (n : Int) : List Nat := (Str.ofString (toString n)).cps.toList
def tx (n : Int) : Str := Str.ofString (toString n)
def mkS (l : List Nat) : Str := ⟨l.toArray⟩
theorem mkS_l (l : List Nat) : (mkS l).cps.toList = l := rfl
theorem mkS_of (x : Str) : mkS x.cps.toList = x := rfl
theorem mkS_len (l : List Nat) : (mkS l).length = l.length := by
 show l.toArray.size = _
 simp
theorem q678 {x y : Str} (h : x.cps.toList = y.cps.toList) : x = y := by
 rw [<- mkS_of x, <- mkS_of y, h]
theorem q250 (m : Nat) : fg (m : Int) = (Nat.toDigits 10 m).map Char.toNat := PySem.W.KIN.signs_num m
theorem fg_neg (m : Nat) : fg (-((m + 1 : Nat) : Int)) = 45 :: fg ((m + 1 : Nat) : Int) := by
 rw [q250]
 unfold fg
 rw [PyProof.Rows.signs_ofString]
 show ("-" ++ Nat.repr (m + 1)).toList.map Char.toNat = _
 rw [String.toList_append, List.map_append, Nat.toList_repr]
 rfl
theorem q470 {m : Nat} (h : ¬ m < 10) : Nat.toDigits 10 m = Nat.toDigits 10 (m / 10) ++ [Nat.digitChar (m % 10)] := by
 have hm : m % 10 < 10 := Nat.mod_lt m (by decide)
 have t : Nat.toDigits 10 (m / 10) ++ Nat.toDigits 10 (m % 10) = Nat.toDigits 10 (10 * (m / 10) + m % 10) := Nat.toDigits_append_toDigits (by decide) (by omega) hm
 rw [Nat.div_add_mod, Nat.toDigits_of_lt_base hm] at t
 exact t.symm
theorem dc_rng : ∀ d : Nat, d < 10 -> 48 <= (Nat.digitChar d).toNat /\ (Nat.digitChar d).toNat <= 57 := by decide
theorem dc_zero : ∀ d : Nat, d < 10 -> (Nat.digitChar d).toNat = 48 -> d = 0 := by decide
theorem q414 (m : Nat) : ∀ c ∈ fg (m : Int), 48 <= c /\ c <= 57 := by
 rw [q250]
 induction m using Nat.strongRecOn with
 | _ m ih =>
  by_cases h : m < 10
  ·rw [Nat.toDigits_of_lt_base h]
   intro c hc
   have e : c = (Nat.digitChar m).toNat := by simpa using hc
   rw [e]
   exact dc_rng m h
  ·rw [q470 h]
   intro c hc
   rw [List.map_append, List.mem_append] at hc
   rcases hc with hc | hc
   ·exact ih (m / 10) (by omega) c hc
   ·have e : c = (Nat.digitChar (m % 10)).toNat := by simpa using hc
    rw [e]
    exact dc_rng _ (Nat.mod_lt _ (by decide))
theorem fg_len (k : Nat) : ∀ m : Nat, m < 10 ^ (k + 1) -> 1 <= (fg (m : Int)).length /\ (fg (m : Int)).length <= k + 1 := by
 induction k with
 | zero =>
  intro m h
  rw [q250, Nat.toDigits_of_lt_base (by simpa using h)]
  exact ⟨Nat.le_refl _, Nat.le_refl _⟩
 | succ k ih =>
  intro m h
  by_cases c : m < 10
  ·rw [q250, Nat.toDigits_of_lt_base c]
   exact ⟨Nat.le_refl _, by show 1 <= _; omega⟩
  ·have hd : m / 10 < 10 ^ (k + 1) := by
    rw [Nat.pow_succ] at h
    exact Nat.div_lt_of_lt_mul (by rw [Nat.mul_comm]; exact h)
   have z := ih (m / 10) hd
   rw [q250] at z ⊢
   rw [q470 c, List.map_append, List.length_append]
   show 1 <= _ + 1 /\ _ + 1 <= _
   omega
theorem fg_head (m : Nat) : fg (m : Int) = [48] \/ ∃ c r, fg (m : Int) = c :: r /\ c ≠ 48 := by
 rw [q250]
 induction m using Nat.strongRecOn with
 | _ m ih =>
  by_cases h : m < 10
  ·rw [Nat.toDigits_of_lt_base h]
   by_cases z : m = 0
   ·subst z
    exact .inl rfl
   ·exact .inr ⟨_, [], rfl, fun e => z (dc_zero m h e)⟩
  ·rw [q470 h, List.map_append]
   rcases ih (m / 10) (by omega) with e | ⟨c, r, e, hc⟩
   ·exfalso
    have z : digitsVal ((Nat.toDigits 10 (m / 10)).map Char.toNat) = m / 10 := PySem.W.KIN.val_back (m / 10)
    rw [e] at z
    have z2 : (0 : Nat) = m / 10 := z
    omega
   ·exact .inr ⟨c, r ++ _, by rw [e]; rfl, hc⟩
theorem fg_val (m : Nat) : digitsVal (fg (m : Int)) = m := by
 rw [q250]
 exact PySem.W.KIN.val_back m
def isD (c : Nat) : Bool := decide (c ∈ ("0123456789" : Str).cps.toList)
theorem q679 (c : Nat) : isD c = true ↔ 48 <= c /\ c <= 57 := by
 unfold isD
 rw [decide_eq_true_iff, show ("0123456789" : Str).cps.toList = [48, 49, 50, 51, 52, 53, 54, 55, 56, 57] by decide +kernel]
 simp only [List.mem_cons, List.not_mem_nil, or_false]
 omega
def figB (l : List Nat) : Bool := decide (1 <= l.length) && decide (l.length <= 50) && !(decide (l.head? = some 48) && !decide (l = [48])) && l.all isD
def rdN : List Nat -> Option Int
 | [] => none
 | c :: r => if c = 45 then (if figB r = true /\ r ≠ [48] then some (-(digitsVal r : Int)) else none) else if figB (c :: r) = true then some (digitsVal (c :: r) : Int) else none
theorem q201 (c : Nat) (r : List Nat) : rdN (c :: r) = if c = 45 then (if figB r = true /\ r ≠ [48] then some (-(digitsVal r : Int)) else none) else if figB (c :: r) = true then some (digitsVal (c :: r) : Int) else none := rfl
theorem q471 {l : List Nat} (h : figB l = true) : AllDigits l /\ l ≠ [] /\ l.length <= 50 := by
 unfold figB at h
 rw [Bool.and_eq_true, Bool.and_eq_true, Bool.and_eq_true, decide_eq_true_iff, decide_eq_true_iff, List.all_eq_true] at h
 obtain ⟨⟨⟨h1, h2⟩, _⟩, h3⟩ := h
 exact ⟨fun c hc => (q679 c).mp (h3 c hc), fun z => by rw [z] at h1; exact absurd h1 (by decide), h2⟩
theorem fig_fg {m : Nat} (h : m < 10 ^ 50) : figB (fg (m : Int)) = true := by
 have hl := fg_len 49 m h
 unfold figB
 rw [decide_eq_true hl.1, decide_eq_true hl.2, Bool.true_and, Bool.true_and, Bool.and_eq_true]
 refine ⟨?_, List.all_eq_true.mpr fun c hc => (q679 c).mpr (q414 m c hc)⟩
 rcases fg_head m with e | ⟨c, r, e, hc⟩
 ·rw [e]
  decide
 ·rw [e, decide_eq_false (show ¬ (c :: r).head? = some 48 from fun z => hc (Option.some.inj z))]
  rfl
theorem rd_nat {m : Nat} (h : m < 10 ^ 50) : rdN (fg (m : Int)) = some (m : Int) := by
 have hf := fig_fg h
 have hv := fg_val m
 have hd := q414 m
 cases e : fg (m : Int) with
 | nil => rw [e] at hf; cases hf
 | cons c r =>
  rw [e] at hf hv hd
  have hc : c ≠ 45 := by
   have := (hd c (List.mem_cons_self ..)).1
   omega
  rw [q201]
  rw [if_neg hc, if_pos hf, hv]
theorem rd_fg {n : Int} (h0 : -(10 ^ 50) < n) (h1 : n < 10 ^ 50) : rdN (fg n) = some n := by
 by_cases c : 0 <= n
 ·obtain ⟨m, rfl⟩ := Int.eq_ofNat_of_zero_le c
  exact rd_nat (by omega)
 ·obtain ⟨m, hm⟩ : ∃ m : Nat, n = -((m + 1 : Nat) : Int) := ⟨(-n - 1).toNat, by omega⟩
  subst hm
  rw [fg_neg]
  have hf := fig_fg (m := m + 1) (by omega)
  have hv := fg_val (m + 1)
  have hne : fg ((m + 1 : Nat) : Int) ≠ [48] := fun z => by
   rw [z] at hv
   have : (0 : Nat) = m + 1 := hv
   omega
  rw [q201]
  rw [if_pos rfl, if_pos ⟨hf, hne⟩, hv]
theorem rd_int {x : Str} {n : Int} (h : rdN x.cps.toList = some n) : PySem.intText? x = some n /\ x.length <= 51 := by
 have hx : x.length = x.cps.toList.length := by simp [Str.length]
 cases e : x.cps.toList with
 | nil => rw [e] at h; cases h
 | cons c r =>
  rw [e] at h hx
  rw [q201] at h
  by_cases c45 : c = 45
  ·subst c45
   rw [if_pos rfl] at h
   by_cases z : figB r = true /\ r ≠ [48]
   ·rw [if_pos z] at h
    obtain ⟨a, b, d⟩ := q471 z.1
    have hl : x.length <= 51 := by rw [hx, List.length_cons]; omega
    exact ⟨(intText_neg e a b (by omega)).trans h, hl⟩
   ·rw [if_neg z] at h; cases h
  ·rw [if_neg c45] at h
   by_cases z : figB (c :: r) = true
   ·rw [if_pos z] at h
    obtain ⟨a, b, d⟩ := q471 z
    have hl : x.length <= 51 := by rw [hx]; omega
    refine ⟨(intText_digits (by rw [e]; exact a) (by rw [e]; exact b) (by omega)).trans ?_, hl⟩
    rw [e]
    exact h
   ·rw [if_neg z] at h; cases h
def rowT (ns : List Int) : Str := Txt.join " " (ns.map tx)
theorem fg_no32 {n : Int} : 32 ∉ fg n := by
 intro h
 by_cases c : 0 <= n
 ·obtain ⟨m, rfl⟩ := Int.eq_ofNat_of_zero_le c
  have := q414 m 32 h
  omega
 ·obtain ⟨m, hm⟩ : ∃ m : Nat, n = -((m + 1 : Nat) : Int) := ⟨(-n - 1).toNat, by omega⟩
  subst hm
  rw [fg_neg] at h
  rcases List.mem_cons.mp h with h | h
  ·exact absurd h (by decide)
  ·have := q414 (m + 1) 32 h
   omega
theorem q101 (s x y : Str) (r : List Str) : (Str.join s (x :: y :: r)).cps.toList = x.cps.toList ++ (s.cps.toList ++ (Str.join s (y :: r)).cps.toList) := by
 rw [show Str.join s (x :: y :: r) = x ++ s ++ Str.join s (y :: r) from rfl, PyProof.Rows.cps_toList_append, PyProof.Rows.cps_toList_append, List.append_assoc]
theorem q521 {c : Nat} : ∀ {a b u v : List Nat}, c ∉ a -> c ∉ b -> a ++ c :: u = b ++ c :: v -> a = b /\ u = v
 | [], [], u, v, _, _, h => ⟨rfl, (List.cons.inj h).2⟩
 | [], y :: b, u, v, _, hb, h => absurd (by rw [(List.cons.inj h).1]; exact List.mem_cons_self ..) hb
 | x :: a, [], u, v, ha, _, h => absurd (by rw [<- (List.cons.inj h).1]; exact List.mem_cons_self ..) ha
 | x :: a, y :: b, u, v, ha, hb, h => by
  obtain ⟨h1, h2⟩ := List.cons.inj h
  obtain ⟨e1, e2⟩ := q521 (fun z => ha (List.mem_cons_of_mem _ z)) (fun z => hb (List.mem_cons_of_mem _ z)) h2
  exact ⟨by rw [h1, e1], e2⟩
theorem q415 {c : Nat} : ∀ {xs ys : List Str}, xs ≠ [] -> ys ≠ [] -> (∀ p ∈ xs, c ∉ p.cps.toList) -> (∀ p ∈ ys, c ∉ p.cps.toList) -> (Str.join ⟨#[c]⟩ xs).cps.toList = (Str.join ⟨#[c]⟩ ys).cps.toList -> xs = ys
 | [], _, h, _, _, _, _ => absurd rfl h
 | _, [], _, h, _, _, _ => absurd rfl h
 | [x], [y], _, _, _, _, h => by
  rw [q678 (x := x) (y := y) h]
 | [x], y :: z :: r, _, _, hx, _, h => by
  rw [q101] at h
  exact absurd (show c ∈ x.cps.toList by
   have e : x.cps.toList = _ := h
   rw [e]
   simp) (hx x (List.mem_cons_self ..))
 | x :: z :: r, [y], _, _, _, hy, h => by
  rw [q101] at h
  exact absurd (show c ∈ y.cps.toList by
   have e : _ = y.cps.toList := h
   rw [<- e]
   simp) (hy y (List.mem_cons_self ..))
 | x :: x2 :: r, y :: y2 :: q, _, _, hx, hy, h => by
  rw [q101, q101] at h
  obtain ⟨e1, e2⟩ := q521 (hx x (List.mem_cons_self ..)) (hy y (List.mem_cons_self ..)) (show x.cps.toList ++ c :: _ = y.cps.toList ++ c :: _ from h)
  have ih := q415 (xs := x2 :: r) (ys := y2 :: q) (by simp) (by simp) (fun p hp => hx p (List.mem_cons_of_mem _ hp)) (fun p hp => hy p (List.mem_cons_of_mem _ hp)) e2
  rw [q678 e1, ih]
theorem split_ne (x : Str) (c : Nat) : Txt.split x ⟨#[c]⟩ ≠ [] := by
 unfold Txt.split
 split
 ·simp
 ·split
  ·simp
  ·rw [StrLaws.partsBetween_eq]
   obtain ⟨p, r, e⟩ := StrLaws.partsFrom_ne x (⟨#[c]⟩ : Str).length 0 (Builtin.Str.occurrences x ⟨#[c]⟩ 0 x.length (x.length + 1))
   rw [e]
   simp
theorem q129 {c : Nat} (h : xs ≠ []) (hf : ∀ p ∈ xs, c ∉ p.cps.toList) : Txt.split (Str.join ⟨#[c]⟩ xs) ⟨#[c]⟩ = xs :=
 q415 (split_ne _ c) h (StrLaws.split_free _ c) hf (by rw [StrLaws.join_split])
theorem spc : (" " : Str) = ⟨#[32]⟩ := by decide +kernel
end
def B01 (l : List Int) : Prop := ∀ m ∈ l, m = 0 \/ m = 1
abbrev S3 := Tr × Nat × Nat
def trMs : Tr -> List Int
 | .part ms _ _ => ms
 | _ => []
def isNo : Tr -> Bool
 | .non => true
 | _ => false
def ld1 (m : Int) (g : S3) : S3 := if isNo (q44 g.1 m) = true then (.non, 0, 0) else (q44 g.1 m, ((trMs g.1).take g.2.1).count m, ((trMs g.1).take g.2.2).count m)
def lds (ws : List Int) (g : S3) : S3 := ws.foldl (fun g m => ld1 m g) g
def manyS (gs : List S3) : Int := (gs.map fun g => (g.2.2 : Int) - (g.2.1 : Int)).sum
def fil (gs : List S3) : List S3 := gs.filter fun g => decide (g.2.1 < g.2.2)
theorem ld1_non (m : Int) (s e : Nat) : ld1 m (.non, s, e) = (.non, 0, 0) := rfl
theorem q680 : ∀ (ws : List Int), lds ws (.non, 0, 0) = (.non, 0, 0)
 | [] => rfl
 | w :: ws => by
  show lds ws (ld1 w (.non, 0, 0)) = _
  rw [ld1_non, q680 ws]
theorem q202 (w : Int) (ws : List Int) (g : S3) : lds (w :: ws) g = lds ws (ld1 w g) := rfl
theorem q251 (w : Int) : lds [w] = ld1 w := rfl
theorem isNo_of (h : q29 H .non t) : t = .non := by
 cases t with
 | non => rfl
 | many n => obtain ⟨a, z, _⟩ := h; cases z
 | part ms l r => obtain ⟨a, m, x, y, z, _⟩ := h; cases z
theorem q522 (h : q29 H v t) : (v = .non) ↔ isNo t = true := by
 constructor
 ·intro z
  rw [z] at h
  rw [isNo_of h]
  rfl
 ·intro z
  cases t with
  | non => exact h
  | many n => cases z
  | part ms l r => cases z
def StrAt (H : Hp) (v : V) (g : S3) : Prop := ∃ t u, v = .ref t /\ H t = some (.tup [u, .int (g.2.1 : Int), .int (g.2.2 : Int)]) /\ q29 H u g.1
def GatAt (H : Hp) (xs : List V) (gs : List S3) : Prop := xs.length = gs.length /\ ∀ (j : Nat) (x : V) (g : S3), xs[j]? = some x -> gs[j]? = some g -> StrAt H x g
theorem StrAt.tk (h : StrAt H v g) (k : TKeep H H') : StrAt H' v g := by
 obtain ⟨t, u, e, h1, h2⟩ := h
 exact ⟨t, u, e, (k _ _).1 h1, h2.tk k⟩
theorem GatAt.tk (h : GatAt H xs gs) (k : TKeep H H') : GatAt H' xs gs := ⟨h.1, fun j x g h1 h2 => (h.2 j x g h1 h2).tk k⟩
theorem GatAt.same (h : GatAt H xs gs) (s : Same H H') : GatAt H' xs gs := h.tk (.same s)
theorem GatAt.nil (H : Hp) : GatAt H [] [] := ⟨rfl, fun j x g h1 _ => by simp at h1⟩
theorem q130 {α : Type} {l : List α} {x y : α} {j : Nat} (h : (l ++ [x])[j]? = some y) : (j < l.length /\ l[j]? = some y) \/ (j = l.length /\ y = x) := by
 by_cases hj : j < l.length
 ·rw [List.getElem?_append_left hj] at h
  exact .inl ⟨hj, h⟩
 ·have hlt : j < (l ++ [x]).length := (List.getElem?_eq_some_iff.mp h).1
  rw [List.length_append, List.length_singleton] at hlt
  have e : j = l.length := by omega
  subst e
  rw [List.getElem?_append_right (Nat.le_refl _), Nat.sub_self] at h
  exact .inr ⟨rfl, (Option.some.inj h).symm⟩
theorem GatAt.snoc (h : GatAt H xs gs) (hx : StrAt H x g) : GatAt H (xs ++ [x]) (gs ++ [g]) := by
 refine ⟨by rw [List.length_append, List.length_append, h.1] <;> rfl, fun j y k h1 h2 => ?_⟩
 have hl := h.1
 rcases q130 h1 with ⟨a1, a2⟩ | ⟨a1, a2⟩
 ·rcases q130 h2 with ⟨b1, b2⟩ | ⟨b1, b2⟩
  ·exact h.2 j y k a2 b2
  ·omega
 ·rcases q130 h2 with ⟨b1, b2⟩ | ⟨b1, b2⟩
  ·omega
  ·rw [a2, b2]; exact hx
theorem q472 {ws : List Int} {i : Nat} (hi : (ws.map V.int)[i]? = some x) : ∃ t, ws[i]? = some t /\ x = .int t := by
 rw [List.getElem?_map] at hi
 cases e : ws[i]? with
 | none => rw [e] at hi; cases hi
 | some m => rw [e] at hi; exact ⟨m, rfl, (Option.some.inj hi).symm⟩
theorem q252 {l : List Int} {i : Nat} {m : Int} (h : l[i]? = some m) : l.drop i = m :: l.drop (i + 1) := by
 obtain ⟨h1, h2⟩ := List.getElem?_eq_some_iff.mp h
 rw [List.drop_eq_getElem_cons h1, h2]
def q267 (K : Fg) : Sp := fun vs H Q _ => ∃ (v : V) (wy : Addr) (ws : List Int) (g : S3), vs = [v, .ref wy] /\ StrAt H v g /\ SqT K H wy (ws.map V.int) /\ B01 ws /\
 ∀ (H' : Hp) (v' : V), Same H H' -> StrAt H' v' (lds ws g) -> Q v' H'
inductive sp_led (K : Fg) (vs : List V) (H : Hp) (Q : VK) (E : XK) : Prop
 | mk (ga wy : Addr) (xs : List V) (ws : List Int) (gs : List S3) (_ : vs = [.ref ga, .ref wy]) (_ : SqL K H ga xs) (_ : GatAt H xs gs) (_ : gs.length <= 100) (_ : SqT K H wy (ws.map V.int)) (_ : B01 ws) (_ : ∀ (H' : Hp) (D : Addr) (ys : List V), Same H H' -> H' D = some (.lst ys) -> H D = none -> GatAt H' ys (gs.map (lds ws)) -> Q (.ref D) H') : sp_led K vs H Q E
inductive sp_many_in (K : Fg) (vs : List V) (H : Hp) (Q : VK) (E : XK) : Prop
 | mk (ga : Addr) (xs : List V) (gs : List S3) (_ : vs = [.ref ga]) (_ : SqL K H ga xs) (_ : GatAt H xs gs) (_ : gs.length <= 100) (_ : ∀ H', Same H H' -> Q (.int (manyS gs)) H') : sp_many_in K vs H Q E
inductive sp_filled (K : Fg) (vs : List V) (H : Hp) (Q : VK) (E : XK) : Prop
 | mk (ga : Addr) (xs : List V) (gs : List S3) (_ : vs = [.ref ga]) (_ : SqL K H ga xs) (_ : GatAt H xs gs) (_ : gs.length <= 100) (_ : ∀ (H' : Hp) (D : Addr) (ys : List V), Same H H' -> H' D = some (.lst ys) -> H D = none -> GatAt H' ys (fil gs) -> Q (.ref D) H') : sp_filled K vs H Q E
theorem q473 (gs : List S3) : (fil gs).length <= gs.length := List.length_filter_le _ _
theorem q48 (z : Bz K mg cA cB cC cD cE cF cG cH) : Cal P w K mg base 1 "many_in" ["gathering"] (sp_many_in K) := by
 have sc := q562
 refine z.d_many_in.cal fun f fd F => F.k sc fun _ _ _ s H _ Q _ hr h => ?_
 obtain ⟨ga, xs, gs, rfl, hga, hg, hl, q⟩ := h
 refine ⟨_, (q15 (q19 (q76 (q372 rfl) (by rfl) z.sum_ bt_sum (q10 (q64 (cl := []) (cn := []) (N := []) (fr := []) (sc0 := q17 q222) rfl (q46 (pv 0)) (fun C s₂ H₂ fp => (pe_op q51 (pix (q215 (K := K) rfl) (pv 0) q13) (pix (q215 (K := K) rfl) (pv 0) q13))) (by with_unfolding_all rfl) trivial rfl rfl rfl cok rfl) q11)))), ?_⟩
 have hxl := hg.1
 refine ⟨_, rfl, ga, rfl, ⟨_, hga⟩, fun D hD => ?_⟩
 refine q61 (xs := xs) (sz (by omega)) (fun i ys H2 => ys = (gs.take i).map (fun g => V.int ((g.2.2 : Int) - g.2.1)) /\ i <= gs.length /\ H2 = upd H D (.lst ys)) ⟨by simp, Nat.zero_le _, rfl⟩ (fun i ys H2 ⟨_, _, e⟩ => by rw [e]; exact (q16 hD _).seq hga)
  (fun i ys H2 ⟨e1, e2, e3⟩ => ⟨by rw [e3]; exact q14, by rw [e1, List.length_map, List.length_take]; omega⟩) ?_ ?_
 ·rintro i x ys H2 hx ⟨e1, e2, rfl⟩
  have hi : i < gs.length := by rw [<- hxl]; exact (List.getElem?_eq_some_iff.mp hx).1
  have gi : gs[i]? = some gs[i] := List.getElem?_eq_getElem hi
  generalize gs[i] = g at gi
  obtain ⟨t, u, rfl, ht, _⟩ := hg.2 i x g hx gi
  have ht' : SqT K (upd H D (.lst ys)) t [u, .int (g.2.1 : Int), .int (g.2.2 : Int)] := SqT.of (q16 hD _ _ _ ht)
  refine ⟨_, rfl, t, _, _, _, rfl, rfl, ht', rfl, _, rfl, t, _, _, _, rfl, rfl, ht', rfl, _, _, rfl, rfl, q14, ?_, by omega, by rw [q114]⟩
  rw [List.take_add_one, gi, List.map_append, <- e1]
  rfl
 ·rintro ys H2 ⟨e1, e2, rfl⟩
  rw [hxl, List.take_length] at e1
  refine ⟨D, gs.map (fun (g : S3) => (g.2.2 : Int) - (g.2.1 : Int)), rfl, SqL.of ?_, q _ (q16 hD _)⟩
  rw [q14, e1, List.map_map]
  rfl
theorem q164 (z : Bz K mg cA cB cC cD cE cF cG cH) : Cal P w K mg base 1 "filled" ["gathering"] (sp_filled K) := by
 have sc := q652
 refine z.d_filled.cal fun f fd F => F.k sc fun _ _ _ s H _ Q _ hr h => ?_
 obtain ⟨ga, xs, gs, rfl, hga, hg, hl, q⟩ := h
 refine ⟨_, (q15 (q19 (q117 (cl := []) (cn := []) (N := []) (fr := []) (sc0 := q17 q320) rfl (q46 (pv 0)) (fun C s₂ H₂ fp => (pv 0)) (fun C s₂ H₂ fp => (q18 op_lt (pix (q215 (K := K) rfl) (pv 0) q13) (pix (q215 (K := K) rfl) (pv 0) q13) (q21 _))) (by with_unfolding_all rfl) trivial rfl rfl rfl cok rfl))), ?_⟩
 have hxl := hg.1
 refine ⟨_, rfl, ga, rfl, ⟨_, hga⟩, fun D hD => ?_⟩
 refine q373 (K := K) (xs := xs) (sz (by omega)) (fun i ys H2 => H2 = upd H D (.lst ys) /\ ys.length <= i /\ GatAt H ys (fil (gs.take i))) ⟨rfl, Nat.le_refl _, GatAt.nil _⟩ (fun i ys H2 ⟨e, _⟩ => by rw [e]; exact (q16 hD _).seq hga)
  (fun i ys H2 ⟨e, e2, _⟩ => ⟨by rw [e]; exact q14, e2⟩) ?_ ?_
 ·rintro i x ys H2 hx ⟨rfl, e2, e3⟩
  have hi : i < gs.length := by rw [<- hxl]; exact (List.getElem?_eq_some_iff.mp hx).1
  have gi : gs[i]? = some gs[i] := List.getElem?_eq_getElem hi
  generalize gs[i] = g at gi
  have hsx := hg.2 i x g hx gi
  obtain ⟨t, u, rfl, ht, hu⟩ := id hsx
  have ht' : SqT K (upd H D (.lst ys)) t [u, .int (g.2.1 : Int), .int (g.2.2 : Int)] := SqT.of (q16 hD _ _ _ ht)
  refine ⟨_, rfl, t, _, _, _, rfl, rfl, ht', rfl, _, rfl, t, _, _, _, rfl, rfl, ht', rfl, _, _, rfl, rfl, _, rfl, ?_⟩
  have et : fil (gs.take (i + 1)) = fil (gs.take i) ++ fil [g] := by
   unfold fil
   rw [List.take_add_one, gi, List.filter_append]
   rfl
  refine ite2 (fun c => ?_) (fun c => ?_)
  ·have c' := of_decide_eq_true c
   have ef : fil [g] = [g] := by
    unfold fil
    rw [List.filter_cons, if_pos (decide_eq_true (by omega))]
    rfl
   refine ⟨_, rfl, q14, by rw [q114], by rw [List.length_append]; show _ + 1 <= _; omega, ?_⟩
   rw [et, ef]
   exact e3.snoc hsx
  ·have ef : fil [g] = [] := by
    unfold fil
    rw [List.filter_cons, if_neg (fun z => c (decide_eq_true (by have := of_decide_eq_true z; omega)))]
    rfl
   refine ⟨_, by omega, rfl, by omega, rfl, by omega, ?_⟩
   rw [et, ef, List.append_nil]
   exact e3
 ·rintro ys H2 ⟨rfl, e2, e3⟩
  rw [hxl, List.take_length] at e3
  exact q _ D ys (q16 hD _) q14 hD (e3.same (q16 hD _))
theorem q77 (z : Bz K mg cA cB cC cD cE cF cG cH) : Cal P w K mg base 2 "led_stretch" pn19 (q267 K) := by
 have sc := q258
 refine z.d_led_stretch.cal fun f fd F => F.k sc fun _ _ _ s H _ Q _ hr h => ?_
 obtain ⟨v, wy, ws, g, rfl, ⟨t, u, rfl, ht, hu⟩, hw, h01, q⟩ := h
 refine ⟨_, (q12 (pst 2 sc.nd (pix q23 (pv 0) q13))
 (q12 (pst 3 sc.nd (pix q23 (pv 0) q13))
 (q12 (pst 4 sc.nd (pix q23 (pv 0) q13))
 (q12 (q81 PassesOwn.never rfl (q274 (pv 1)) (pgn 5 sc.nd)
 (q12 (pst 6 sc.nd (pe_fn (q75 z) hr.m (by rfl) (q10 (pv 2) (q10 (pv 5) q11))))
 (q12 (ps_if (q18 q110 (pv 6) q62 (q21 _))
 (q15 (q19 (q27 (q10 q62 (q10 q13 (q10 q13 q11))))))
 q20)
 (q12 (pst 3 sc.nd (pe_fn (q162 z) hr.m (by rfl) (q10 (pix q23 (pv 2) q13) (q10 (pv 5) (q10 (pv 3) q11)))))
 (q12 (pst 4 sc.nd (pe_fn (q162 z) hr.m (by rfl) (q10 (pix q23 (pv 2) q13) (q10 (pv 5) (q10 (pv 4) q11)))))
 (q15 (pst 2 sc.nd (pv 6))))))))
 (q15 (q19 (q27 (q10 (pv 2) (q10 (pv 3) (q10 (pv 4) q11)))))))))), ?_⟩
 have htt : SqT K H t [u, .int (g.2.1 : Int), .int (g.2.2 : Int)] := SqT.of ht
 refine ⟨_, rfl, t, _, _, _, rfl, rfl, htt, rfl, _, rfl, t, _, _, _, rfl, rfl, htt, rfl, _, rfl, t, _, _, _, rfl, rfl, htt, rfl, ?_⟩
 refine ⟨_, rfl, wy, rfl, ⟨_, hw⟩, q307 (K := K) (a := wy) (xs := ws.map V.int) (fun i σ H2 => ∃ (u' : V) (g' : S3) (v5 v6 : Option V), σ = [some (.ref t), some (.ref wy), some u', some (.int (g'.2.1 : Int)), some (.int (g'.2.2 : Int)), v5, v6] /\ Same H H2 /\ q29 H2 u' g'.1 /\ lds ws g = lds (ws.drop i) g')
  ⟨u, g, none, none, rfl, Same.refl H, hu, rfl⟩ (fun i σ H2 _ ⟨_, _, _, _, _, s2, _⟩ => s2.seqT hw) ?_ ?_⟩
 ·rintro i x σ H2 hi ⟨u', g', v5, v6, rfl, s2, hu', hled⟩
  obtain ⟨wv, hwv, rfl⟩ := q472 hi
  have hw01 := h01 wv (List.mem_of_getElem? hwv)
  rw [q252 hwv, q202] at hled
  refine ⟨_, rfl, _, rfl, u', _, wv, rfl, hu', hw01, fun u2 hu2 => ?_⟩
  refine ⟨_, rfl, rfl, _, rfl, ?_⟩
  refine ite2 (fun c => ?_) (fun c => ?_)
  ·have c' := (q522 hu2).mp (of_decide_eq_true c)
   have e1 : ld1 wv g' = (.non, 0, 0) := by unfold ld1; rw [if_pos c']
   rw [e1, q680] at hled
   refine ⟨szb rfl, fun p hp => q _ _ (s2.trans (q16 hp _)) ?_⟩
   rw [hled]
   exact ⟨p, .non, rfl, q14, rfl⟩
  ·have c' : ¬ isNo (q44 g'.1 wv) = true := fun z => c (decide_eq_true ((q522 hu2).mpr z))
   have e1 : ld1 wv g' = (q44 g'.1 wv, ((trMs g'.1).take g'.2.1).count wv, ((trMs g'.1).take g'.2.2).count wv) := by unfold ld1; rw [if_neg c']
   rw [e1] at hled
   obtain ⟨ms, l, r, hpt⟩ : ∃ ms l r, g'.1 = .part ms l r := by
    cases e : g'.1 with
    | non => rw [e] at c'; exact absurd rfl c'
    | many n => rw [e] at c'; exact absurd rfl c'
    | part ms l r => exact ⟨ms, l, r, rfl⟩
   have hu3 := hu'
   rw [hpt] at hu3
   obtain ⟨a, m, x1, y1, rfl, ha, hm, _, _⟩ := hu3
   have hms : trMs g'.1 = ms := by rw [hpt]; rfl
   rw [hms] at hled
   refine ⟨_, rfl, a, _, _, _, rfl, rfl, SqT.of ha, rfl, _, rfl, _, rfl, m, ms, wv, g'.2.1, rfl, hm, fun H3 s3 => ?_⟩
   refine ⟨_, rfl, a, _, _, _, rfl, rfl, SqT.of (s3 _ _ ha), rfl, _, rfl, _, rfl, m, ms, wv, g'.2.2, rfl, hm.same s3, fun H4 s4 => ?_⟩
   exact ⟨_, rfl, u2, (q44 g'.1 wv, (ms.take g'.2.1).count wv, (ms.take g'.2.2).count wv), _, _, rfl, s2.trans (s3.trans s4), (hu2.same s3).same s4, hled⟩
 ·rintro σ H2 ⟨u', g', v5, v6, rfl, s2, hu', hled⟩
  rw [List.length_map, List.drop_length] at hled
  refine ⟨_, rfl, _, rfl, _, rfl, szb rfl, fun p hp => q _ _ (s2.trans (q16 hp _)) ?_⟩
  rw [hled]
  exact ⟨p, u', rfl, q14, hu'.same (q16 hp _)⟩
theorem q185 (z : Bz K mg cA cB cC cD cE cF cG cH) : Cal P w K mg base 3 "led" pn14 (sp_led K) := by
 have sc := sc_led
 refine z.d_led.cal fun f fd F => F.k sc fun _ _ _ s H _ Q _ hr h => ?_
 obtain ⟨ga, wy, xs, ws, gs, rfl, hga, hg, hl, hw, h01, q⟩ := h
 refine ⟨_, (q15 (q19 (q64 (cl := [("way", s.heap.objs.size + 1 + 0)]) (cn := ["way"]) (N := ["way"]) (fr := [1]) (sc0 := q17 s_led) rfl (q46 (pv 0)) (fun C s₂ H₂ fp => (pe_fn (q77 z) hr.m (by rfl) (q10 (pv 0) (q10 (pv 1) q11)))) (by with_unfolding_all rfl) ⟨by with_unfolding_all rfl, trivial⟩ rfl rfl rfl cok rfl))), ?_⟩
 have hxl := hg.1
 refine ⟨_, rfl, ga, rfl, ⟨_, hga⟩, fun D hD => ?_⟩
 refine q61 (xs := xs) (sz (by omega)) (fun i ys H2 => H2 D = some (.lst ys) /\ ys.length = i /\ Same H H2 /\ GatAt H2 ys ((gs.take i).map (lds ws))) ⟨q14, rfl, q16 hD _, GatAt.nil _⟩ (fun i ys H2 ⟨_, _, e, _⟩ => e.seq hga)
  (fun i ys H2 ⟨e1, e2, _, _⟩ => ⟨e1, e2⟩) ?_ ?_
 ·rintro i x ys H2 hx ⟨e1, e2, s2, hg2⟩
  have hi : i < gs.length := by rw [<- hxl]; exact (List.getElem?_eq_some_iff.mp hx).1
  have gi : gs[i]? = some gs[i] := List.getElem?_eq_getElem hi
  generalize gs[i] = g at gi
  refine ⟨_, rfl, _, rfl, x, wy, ws, g, rfl, (hg.2 i x g hx gi).tk (.same s2), s2.seqT hw, h01, fun H3 v' s3 hv' => ?_⟩
  have e3 := s3 _ _ e1
  have tk : TKeep H3 (upd H3 D (.lst (ys ++ [v']))) := TKeep.set e3
  refine ⟨e3, q14, by rw [List.length_append, e2] <;> rfl, Same.own (s2.trans s3) hD, ?_⟩
  rw [List.take_add_one, gi, List.map_append]
  exact ((hg2.same s3).tk tk).snoc (hv'.tk tk)
 ·rintro ys H2 ⟨e1, e2, s2, hg2⟩
  rw [hxl, List.take_length] at hg2
  exact q H2 D ys s2 e1 hD hg2
theorem b01_0 : B01 [0] := fun x hx => by rw [List.mem_singleton.mp hx]; exact .inl rfl
theorem b01_1 : B01 [1] := fun x hx => by rw [List.mem_singleton.mp hx]; exact .inr rfl
theorem q416 {low : Int} {e : Nat} : isNo (grow low e ns) = true ↔ ns = [] := by
 constructor
 ·intro h
  by_cases z : ns = []
  ·exact z
  ·exfalso
   cases e with
   | zero => rw [q30 z] at h; cases h
   | succ e => rw [q33 z] at h; cases h
 ·intro h
  rw [h, q38]
  rfl
theorem q523 {low mk : Int} {e st en : Nat} {ns : List Int} (hmk : mk = 0 \/ mk = 1) (hne : ns ≠ []) :
  ld1 mk (grow low (e + 1) ns, st, en) = (grow (lowOf low e mk) e (ns.filter (hlf (low + 2 ^ e) mk)), (ns.take st).countP (hlf (low + 2 ^ e) mk), (ns.take en).countP (hlf (low + 2 ^ e) mk)) := by
 unfold ld1
 dsimp only
 rw [q122 hmk]
 by_cases c : ns.filter (hlf (low + 2 ^ e) mk) = []
 ·rw [if_pos (q416.mpr c)]
  have z : ∀ k, (ns.take k).countP (hlf (low + 2 ^ e) mk) = 0 := fun k => by
   have := q670 (hlf (low + 2 ^ e) mk) ns k
   rw [c, List.length_nil] at this
   omega
  rw [z, z, c, q38]
 ·rw [if_neg (fun h => c (q416.mp h)), q33 hne]
  show (_, ((ns.map (mkOf (low + 2 ^ e))).take st).count mk, ((ns.map (mkOf (low + 2 ^ e))).take en).count mk) = _
  rw [q107 hmk, q107 hmk]
abbrev q177 : Nat := 2
abbrev q300 : Nat := 40
inductive spe_cut_out (K : Fg) (e : Nat) (vs : List V) (H : Hp) (Q : VK) (E : XK) : Prop
 | mk (sa : Addr) (v : V) (st en : Nat) (low : Int) (ns : List Int) (_ : vs = [.ref sa]) (_ : H sa = some (.tup [v, .int (st : Int), .int (en : Int)])) (_ : q29 H v (grow low e ns)) (_ : st <= en) (_ : en <= ns.length) (_ : ns.length <= 900) (_ : ∀ (u : V) (H' : Hp), Same H H' -> q29 H' u (grow low e (segI ns st en)) -> Q u H') : spe_cut_out K e vs H Q E
def q578 (K : Fg) : Sp := fun vs H Q E => ∃ e, e <= q300 /\ spe_cut_out K e vs H Q E
abbrev q681 : Nat := 0
abbrev q417 : Nat := 40
inductive spe_joined (u0 : Fg) (e : Nat) (vs : List V) (H : Hp) (Q : VK) (E : XK) : Prop
 | mk (v w : V) (low : Int) (ns ms : List Int) (_ : vs = [v, w]) (_ : q29 H v (grow low e ns)) (_ : q29 H w (grow low e ms)) (_ : ns.length <= 450) (_ : ms.length <= 450) (_ : ∀ (u : V) (H' : Hp), Same H H' -> q29 H' u (grow low e (ns ++ ms)) -> Q u H') : spe_joined u0 e vs H Q E
def q682 (K : Fg) : Sp := fun vs H Q E => ∃ e, e <= q417 /\ spe_joined K e vs H Q E
theorem q579 (z : Bz K mg cA cB cC cD cE cF cG cH) : Cal P w K mg base 43 "cut_out_joins" ["stretch"] (q578 K) := by
 have sc := q566
 refine z.d_cut_out.recur (k := q177) (sp := spe_cut_out K) q300 fun e hen c_cut_out f fd F => F.k sc fun _ _ _ s H _ Q _ hr h => ?_
 obtain ⟨sa, v, st, en, low, ns, rfl, hs, ht, h1, h2, hl, q⟩ := h
 refine ⟨_, (q12 (pst 1 sc.nd (pix q23 (pv 0) q13))
 (q12 (pst 2 sc.nd (pix q23 (pv 0) q13))
 (q12 (pst 3 sc.nd (pix q23 (pv 0) q13))
 (q12 (ps_if (q18 op_eq (pv 2) (pv 3) (q21 _))
 (q15 (q19 q62))
 q20)
 (q12 (ps_if (q18 op_eq (pix q23 (pv 1) q13) q22 (q21 _))
 (q15 (q19 (q27 (q10 q22 (q10 (pe_op q51 (pv 3) (pv 2)) q11)))))
 q20)
 (q12 (pst 4 sc.nd (pe_fn c_cut_out (hr.mono (Nat.le_refl _)) (by rfl) (q10 (pe_fn (q77 z) (hr.mono (Nat.le_trans (by decide : 2 <= q177) (Nat.le_add_left _ _))) (by rfl) (q10 (pv 0) (q10 (q27 (q10 q13 q11)) q11))) q11)))
 (q12 (pst 5 sc.nd (pe_fn c_cut_out (hr.mono (Nat.le_refl _)) (by rfl) (q10 (pe_fn (q77 z) (hr.mono (Nat.le_trans (by decide : 2 <= q177) (Nat.le_add_left _ _))) (by rfl) (q10 (pv 0) (q10 (q27 (q10 q13 q11)) q11))) q11)))
 (q15 (q19 (q27 (q10 q22 (q10 (q40 q116 (pix q23 (pv 1) q13) (q47 (pv 2)) (q47 (pv 3))) (q10 (pv 4) (q10 (pv 5) q11)))))))))))))), ?_⟩
 refine ⟨_, rfl, sa, _, _, _, rfl, rfl, SqT.of hs, rfl, ?_⟩
 refine ⟨_, rfl, sa, _, _, _, rfl, rfl, SqT.of hs, rfl, ?_⟩
 refine ⟨_, rfl, sa, _, _, _, rfl, rfl, SqT.of hs, rfl, ?_⟩
 have hsl := q335 (st := st) h2
 refine ⟨_, rfl, _, rfl, rfl, _, rfl, ?_⟩
 refine ite2 (fun c => ?_) (fun c => ?_)
 ·have c' : (st : Int) = (en : Int) := V.int.inj (of_decide_eq_true c)
  have e0 : segI ns st en = [] := List.eq_nil_of_length_eq_zero (by omega)
  refine q .non H (Same.refl H) ?_
  rw [e0, q38]
  rfl
 ·have c' : st ≠ en := fun z => c (decide_eq_true (by rw [z]))
  have hne : ns ≠ [] := fun z => by rw [z, List.length_nil] at h2; omega
  have hsne : segI ns st en ≠ [] := fun z => by rw [z, List.length_nil] at hsl; omega
  cases e with
  | zero =>
   have ht1 := ht
   rw [q30 hne] at ht1
   obtain ⟨a, rfl, ha⟩ := ht1
   refine ⟨_, rfl, a, _, _, _, rfl, rfl, SqT.of ha, rfl, rfl, _, rfl, ?_⟩
   refine ite2 (fun c => ?_) (fun c => absurd (decide_eq_true rfl) c)
   refine ⟨_, rfl, _, rfl, _, _, rfl, rfl, szb rfl, fun p hp => q _ _ (q16 hp _) ?_⟩
   rw [q30 hsne]
   refine ⟨p, rfl, ?_⟩
   rw [q14, hsl, show ((en - st : Nat) : Int) = (en : Int) - (st : Int) by omega]
  | succ e =>
   have ht1 := ht
   rw [q33 hne] at ht1
   obtain ⟨a, m, xl, xr, hv, ha, hm, _, _⟩ := ht1
   have hseg : grow low (e + 1) (segI ns st en) = .part (((ns.map (mkOf (low + 2 ^ e))).take en).drop st) (grow (lowOf low e 0) e (segI (ns.filter (hlf (low + 2 ^ e) 0)) ((ns.take st).countP (hlf (low + 2 ^ e) 0)) ((ns.take en).countP (hlf (low + 2 ^ e) 0)))) (grow (lowOf low e 1) e (segI (ns.filter (hlf (low + 2 ^ e) 1)) ((ns.take st).countP (hlf (low + 2 ^ e) 1)) ((ns.take en).countP (hlf (low + 2 ^ e) 1)))) := by
    rw [q33 hsne, seg_map, <- q298 _ h1, <- q298 _ h1]
    rfl
   rw [hseg] at q
   refine ⟨_, rfl, a, _, _, _, (by rw [hv]), rfl, SqT.of ha, rfl, rfl, _, rfl, ?_⟩
   refine ite2 (fun c => absurd (of_decide_eq_true c) (by decide)) (fun c => ?_)
   refine ⟨_, rfl, szb rfl, fun w0 hw0 => ?_⟩
   have s1 := q16 hw0 (.tup [.int 0])
   refine ⟨.ref sa, w0, [0], (grow low (e + 1) ns, st, en), rfl, ⟨sa, v, rfl, s1 _ _ hs, ht.same s1⟩, SqT.of q14, b01_0, fun H2 v2 s2 hv2 => ?_⟩
   rw [q251, q523 (.inl rfl) hne] at hv2
   obtain ⟨p2, u2, rfl, hp2, hu2⟩ := hv2
   refine ⟨p2, u2, _, _, lowOf low e 0, _, rfl, hp2, hu2, q520 _ h1, q670 _ _ _, Nat.le_trans (List.length_filter_le _ _) hl, fun u3 H3 s3 hu3 => ?_⟩
   have s03 : Same H H3 := s1.trans (s2.trans s3)
   refine ⟨_, rfl, szb rfl, fun w4 hw4 => ?_⟩
   have s4 := q16 hw4 (.tup [.int 1])
   have s04 := s03.trans s4
   refine ⟨.ref sa, w4, [1], (grow low (e + 1) ns, st, en), rfl, ⟨sa, v, rfl, s04 _ _ hs, ht.same s04⟩, SqT.of q14, b01_1, fun H5 v5 s5 hv5 => ?_⟩
   rw [q251, q523 (.inr rfl) hne] at hv5
   obtain ⟨p5, u5, rfl, hp5, hu5⟩ := hv5
   refine ⟨p5, u5, _, _, lowOf low e 1, _, rfl, hp5, hu5, q520 _ h1, q670 _ _ _, Nat.le_trans (List.length_filter_le _ _) hl, fun u6 H6 s6 hu6 => ?_⟩
   have s46 : Same H3 H6 := s4.trans (s5.trans s6)
   have s06 := s03.trans s46
   refine ⟨_, rfl, a, _, _, _, (by rw [hv]), rfl, SqT.of (s06 _ _ ha), rfl, _, rfl, _, rfl, _, rfl, _, rfl, m, _, rfl, hm.same s06, fun p7 H7 s7 h7 => ?_⟩
   rw [q671 _ _ _ h1 (by rw [List.length_map]; exact h2)] at h7
   refine ⟨_, rfl, _, rfl, szb rfl, fun p hp => q _ _ (s06.trans (s7.trans (q16 hp _))) ?_⟩
   have s8 := q16 hp (.tup [.str "part", .ref p7, u3, u6])
   have s37 : Same H3 H7 := s46.trans s7
   exact ⟨p, p7, u3, u6, rfl, q14, h7.same s8, (hu3.same s37).same s8, (hu6.same s7).same s8⟩
theorem q683 (z : Bz K mg cA cB cC cD cE cF cG cH) : Cal P w K mg base 41 "joined_joins" ["one", "other"] (q682 K) := by
 have sc := q657
 refine z.d_joined.recur (k := q681) (sp := spe_joined K) q417 fun e hen c_joined f fd F => F.k sc fun _ _ _ s H _ Q _ hr h => ?_
 obtain ⟨v, w, low, ns, ms, rfl, hv, hw, hl, hl2, q⟩ := h
 refine ⟨_, (q12 (ps_if (q18 q110 (pv 0) q62 (q21 _))
 (q15 (q19 (pv 1)))
 q20)
 (q12 (ps_if (q18 q110 (pv 1) q62 (q21 _))
 (q15 (q19 (pv 0)))
 q20)
 (q12 (ps_if (q18 op_eq (pix q23 (pv 0) q13) q22 (q21 _))
 (q15 (q19 (q27 (q10 q22 (q10 (pe_op q31 (pix q23 (pv 0) q13) (pix q23 (pv 1) q13)) q11)))))
 q20)
 (q15 (q19 (q27 (q10 q22 (q10 (pe_op q316 (pix q23 (pv 0) q13) (pix q23 (pv 1) q13)) (q10 (pe_fn c_joined (hr.mono (Nat.le_refl _)) (by rfl) (q10 (pix q23 (pv 0) q13) (q10 (pix q23 (pv 1) q13) q11))) (q10 (pe_fn c_joined (hr.mono (Nat.le_refl _)) (by rfl) (q10 (pix q23 (pv 0) q13) (q10 (pix q23 (pv 1) q13) q11))) q11)))))))))), ?_⟩
 by_cases hn : ns = []
 ·subst hn
  rw [q38] at hv
  have hv' : v = .non := hv
  subst hv'
  refine ⟨_, rfl, rfl, _, rfl, ?_⟩
  refine ite2 (fun c => ?_) (fun c => absurd (decide_eq_true rfl) c)
  exact ⟨_, rfl, q w H (Same.refl H) hw⟩
 ·have hvn : v ≠ .non := fun z => by rw [z] at hv; exact hn (q200 hv)
  refine ⟨_, rfl, rfl, _, rfl, ?_⟩
  refine ite2 (fun c => absurd (of_decide_eq_true c) hvn) (fun _ => ?_)
  by_cases hm : ms = []
  ·subst hm
   rw [q38] at hw
   have hw' : w = .non := hw
   subst hw'
   refine ⟨_, rfl, rfl, _, rfl, ?_⟩
   refine ite2 (fun c => ?_) (fun c => absurd (decide_eq_true rfl) c)
   exact ⟨_, rfl, q v H (Same.refl H) (by rw [List.append_nil]; exact hv)⟩
  ·have hwn : w ≠ .non := fun z => by rw [z] at hw; exact hm (q200 hw)
   have hnm : ns ++ ms ≠ [] := fun z => hn (List.append_eq_nil_iff.mp z).1
   refine ⟨_, rfl, rfl, _, rfl, ?_⟩
   refine ite2 (fun c => absurd (of_decide_eq_true c) hwn) (fun _ => ?_)
   cases e with
   | zero =>
    rw [q30 hn] at hv
    rw [q30 hm] at hw
    obtain ⟨a, rfl, ha⟩ := hv
    obtain ⟨b, rfl, hb⟩ := hw
    refine ⟨_, rfl, a, _, _, _, rfl, rfl, SqT.of ha, rfl, rfl, _, rfl, ?_⟩
    refine ite2 (fun c => ?_) (fun c => absurd (decide_eq_true rfl) c)
    refine ⟨_, rfl, a, _, _, _, rfl, rfl, SqT.of ha, rfl, _, rfl, b, _, _, _, rfl, rfl, SqT.of hb, rfl, _, _, rfl, rfl, szb rfl, fun p hp => q _ _ (q16 hp _) ?_⟩
    rw [q30 hnm]
    refine ⟨p, rfl, ?_⟩
    rw [q14, List.length_append, Int.natCast_add]
   | succ e =>
    rw [q33 hn] at hv
    rw [q33 hm] at hw
    rw [q33 hnm, List.map_append, List.filter_append, List.filter_append] at q
    obtain ⟨a, m1, x1, y1, rfl, ha, hm1, hx1, hy1⟩ := hv
    obtain ⟨b, m2, x2, y2, rfl, hb, hm2, hx2, hy2⟩ := hw
    refine ⟨_, rfl, a, _, _, _, rfl, rfl, SqT.of ha, rfl, rfl, _, rfl, ?_⟩
    refine ite2 (fun c => absurd (of_decide_eq_true c) (by decide)) (fun c => ?_)
    refine ⟨_, rfl, a, _, _, _, rfl, rfl, SqT.of ha, rfl, _, rfl, b, _, _, _, rfl, rfl, SqT.of hb, rfl, m1, m2, _, _, rfl, rfl, hm1, hm2, sz (by simp only [List.length_map]; omega), fun p3 H3 s3 h3 => ?_⟩
    rw [<- List.map_append] at h3
    have ha3 := s3 _ _ ha
    have hb3 := s3 _ _ hb
    refine ⟨_, rfl, a, _, _, _, rfl, rfl, SqT.of ha3, rfl, _, rfl, b, _, _, _, rfl, rfl, SqT.of hb3, rfl, x1, x2, low, _, _, rfl, hx1.same s3, hx2.same s3, Nat.le_trans (List.length_filter_le _ _) hl, Nat.le_trans (List.length_filter_le _ _) hl2, fun u4 H4 s4 hu4 => ?_⟩
    have s34 := s3.trans s4
    refine ⟨_, rfl, a, _, _, _, rfl, rfl, SqT.of (s34 _ _ ha), rfl, _, rfl, b, _, _, _, rfl, rfl, SqT.of (s34 _ _ hb), rfl, y1, y2, low + 2 ^ e, _, _, rfl, hy1.same s34, hy2.same s34, Nat.le_trans (List.length_filter_le _ _) hl, Nat.le_trans (List.length_filter_le _ _) hl2, fun u5 H5 s5 hu5 => ⟨szb rfl, fun p hp => q _ _ (s34.trans (s5.trans (q16 hp _))) ?_⟩⟩
    have s6 := q16 hp (.tup [.str "part", .ref p3, u4, u5])
    exact ⟨p, p3, u4, u5, rfl, q14, ((h3.same s4).same s5).same s6, (hu4.same s5).same s6, hu5.same s6⟩
def stS (p : Int × Int) (t : Int) : Int × Int := (if t = 1 then p.1 + p.2 / 2 else p.1, p.2 / 2)
def spanS (low : Int) (L : Nat) (ws : List Int) : Int × Int := ws.foldl stS (low, 2 ^ L)
theorem q684 {α : Type} {l : List α} {i : Nat} {x : α} (h : l[i]? = some x) : l.take (i + 1) = l.take i ++ [x] := by rw [List.take_add_one, h]; rfl
theorem ints_get {ws : List Int} {i : Nat} (h : (ws.map V.int)[i]? = some x) : ∃ t, ws[i]? = some t /\ x = .int t := by
 rw [List.getElem?_map] at h
 cases e : ws[i]? with
 | none => rw [e] at h; cases h
 | some t => rw [e] at h; exact ⟨t, rfl, (Option.some.inj h).symm⟩
theorem q165 {α β : Type} {f : β -> α -> β} {b : β} {l : List α} {i : Nat} {x : α} (h : l[i]? = some x) : (l.take (i + 1)).foldl f b = f ((l.take i).foldl f b) x := by
 rw [q684 h, List.foldl_append]; rfl
inductive sp_span_of (K : Fg) (vs : List V) (H : Hp) (Q : VK) (E : XK) : Prop
 | mk (b wy : Addr) (low : Int) (L : Nat) (ws : List Int) (_ : vs = [.ref b, .ref wy]) (_ : SqT K H b [.int low, .int (L : Int)]) (_ : L <= 40) (_ : SqT K H wy (ws.map V.int)) (_ : ∀ p, H p = none -> Q (.ref p) (upd H p (.tup [.int (spanS low L ws).1, .int ((spanS low L ws).1 + (spanS low L ws).2 - 1)]))) : sp_span_of K vs H Q E
theorem q301 (z : Bz K mg cA cB cC cD cE cF cG cH) : Cal P w K mg base 2 "span_of" ["bounds", "way"] (sp_span_of K) := by
 have sc := q557
 refine z.d_span_of.cal fun f fd F => F.k sc fun _ _ _ s H _ Q _ hr h => ?_
 obtain ⟨b, wy, low, L, ws, rfl, hb, hL, hw, q⟩ := h
 refine ⟨_, (q12 (pst 2 sc.nd (pix q23 (pv 0) q13))
 (q12 (pst 3 sc.nd (pe_fn (q43 z) hr.m (by rfl) (q10 (pix q23 (pv 0) q13) q11)))
 (q12 (q81 PassesOwn.never rfl (q274 (pv 1)) (pgn 4 sc.nd)
 (q12 (pst 3 sc.nd (pe_op q94 (pv 3) q13))
 (q15 (ps_if (q18 op_eq (pv 4) q13 (q21 _))
 (q15 (pst 2 sc.nd (pe_op q31 (pv 2) (pv 3))))
 q20))))
 (q15 (q19 (q27 (q10 (pv 2) (q10 (pe_op q51 (pe_op q31 (pv 2) (pv 3)) q13) q11)))))))), ?_⟩
 refine ⟨_, rfl, b, _, _, _, rfl, rfl, hb, rfl, _, rfl, b, _, _, _, rfl, rfl, hb, rfl, L, rfl, hL, ?_⟩
 refine ⟨_, rfl, wy, rfl, ⟨_, hw⟩, q307 (K := K) (a := wy) (xs := ws.map V.int) (fun i σ H2 => ∃ v : Option V, σ = [some (.ref b), some (.ref wy), some (.int ((ws.take i).foldl stS (low, 2 ^ L)).1), some (.int ((ws.take i).foldl stS (low, 2 ^ L)).2), v] /\ H2 = H)
  ⟨none, rfl, rfl⟩ (fun i σ H2 _ ⟨_, _, e⟩ => by rw [e]; exact hw) ?_ ?_⟩
 ·rintro i x σ H2 hi ⟨v, rfl, rfl⟩
  obtain ⟨t, ht, rfl⟩ := ints_get hi
  refine ⟨_, rfl, _, _, rfl, rfl, ⟨by decide, by decide⟩, ?_⟩
  refine ⟨_, rfl, rfl, _, rfl, ?_⟩
  refine ite2 (fun c => ?_) (fun c => ?_)
  ·have c' : t = 1 := V.int.inj (of_decide_eq_true c)
   refine ⟨_, rfl, _, rfl, _, _, rfl, rfl, some (.int t), ?_, rfl⟩
   rw [q165 ht]
   unfold stS
   rw [if_pos c']
   rfl
  ·have c' : ¬ t = 1 := fun z => c (by rw [z]; exact decide_eq_true rfl)
   refine ⟨some (.int t), ?_, rfl⟩
   rw [q165 ht]
   unfold stS
   rw [if_neg c']
   rfl
 ·rintro σ H2 ⟨v, rfl, rfl⟩
  refine ⟨_, rfl, _, rfl, _, rfl, _, _, rfl, rfl, _, _, rfl, rfl, szb rfl, fun p hp => ?_⟩
  have e : ws.take (ws.map V.int).length = ws := by rw [List.length_map]; exact List.take_length
  have q' := q p hp
  unfold spanS at q'
  rw [<- e] at q'
  exact q'
def mlS : List Int -> List S3 -> Int
 | [], _ => 0
 | w :: ws, gs => (if w = 1 then manyS (gs.map (ld1 0)) else 0) + mlS ws (gs.map (ld1 w))
def tnS (gs : List S3) (k : Int) : Int := if k < manyS (gs.map (ld1 0)) then 0 else 1
def wnS : Nat -> List S3 -> Int -> List Int
 | 0, _, _ => []
 | e + 1, gs, k => tnS gs k :: wnS e (gs.map (ld1 (tnS gs k))) (k - tnS gs k * manyS (gs.map (ld1 0)))
def beS (low : Int) (L : Nat) (gs : List S3) (n : Int) : Int := if n < low then 0 else if low + 2 ^ L - 1 < n then manyS gs else mlS (wayW L (n - low)) gs
def cnS (low : Int) (L : Nat) (gs : List S3) (k : Int) : Int × Int := ((spanS low L (wnS L gs k)).1, manyS (gs.map (lds (wnS L gs k))))
def upS (low : Int) (L : Nat) (gs : List S3) (n : Int) : Option (Int × Int) := if beS low L gs (n + 1) = manyS gs then none else some (cnS low L gs (beS low L gs (n + 1)))
def dnS (low : Int) (L : Nat) (gs : List S3) (n : Int) : Option (Int × Int) := if beS low L gs n - 1 < 0 then none else some (cnS low L gs (beS low L gs n - 1))
theorem tn01 (gs : List S3) (k : Int) : tnS gs k = 0 \/ tnS gs k = 1 := by
 unfold tnS
 split
 ·exact .inl rfl
 ·exact .inr rfl
theorem wn01 : ∀ (e : Nat) (gs : List S3) (k : Int), B01 (wnS e gs k)
 | 0, _, _ => fun x hx => by cases hx
 | e + 1, gs, k => fun x hx => by
  rcases List.mem_cons.mp hx with rfl | hx
  ·exact tn01 gs k
  ·exact wn01 e _ _ x hx
def CtV (H : Hp) (v : V) : Option (Int × Int) -> Prop
 | none => v = .non
 | some p => ∃ a, v = .ref a /\ H a = some (.tup [.int p.1, .int p.2])
theorem b01_of {w : Int} (h : w = 0 \/ w = 1) : B01 [w] := fun x hx => by rw [List.mem_singleton.mp hx]; exact h
inductive sp_many_lesser (K : Fg) (vs : List V) (H : Hp) (Q : VK) (E : XK) : Prop
 | mk (ga wy : Addr) (xs : List V) (ws : List Int) (gs : List S3) (_ : vs = [.ref ga, .ref wy]) (_ : SqL K H ga xs) (_ : GatAt H xs gs) (_ : gs.length <= 100) (_ : SqT K H wy (ws.map V.int)) (_ : B01 ws) (_ : ∀ H', Same H H' -> Q (.int (mlS ws gs)) H') : sp_many_lesser K vs H Q E
inductive sp_below (K : Fg) (vs : List V) (H : Hp) (Q : VK) (E : XK) : Prop
 | mk (b ga : Addr) (xs : List V) (low n : Int) (L : Nat) (gs : List S3) (_ : vs = [.ref b, .ref ga, .int n]) (_ : SqT K H b [.int low, .int (L : Int)]) (_ : L <= 40) (_ : SqL K H ga xs) (_ : GatAt H xs gs) (_ : gs.length <= 100) (_ : ∀ H', Same H H' -> Q (.int (beS low L gs n)) H') : sp_below K vs H Q E
inductive sp_between (K : Fg) (vs : List V) (H : Hp) (Q : VK) (E : XK) : Prop
 | mk (b ga : Addr) (xs : List V) (low lo hi : Int) (L : Nat) (gs : List S3) (_ : vs = [.ref b, .ref ga, .int lo, .int hi]) (_ : SqT K H b [.int low, .int (L : Int)]) (_ : L <= 40) (_ : SqL K H ga xs) (_ : GatAt H xs gs) (_ : gs.length <= 100) (_ : ∀ H', Same H H' -> Q (.int (if hi < lo then 0 else beS low L gs (hi + 1) - beS low L gs lo)) H') : sp_between K vs H Q E
inductive sp_way_of_nth (K : Fg) (vs : List V) (H : Hp) (Q : VK) (E : XK) : Prop
 | mk (ga : Addr) (xs : List V) (L : Nat) (k : Int) (gs : List S3) (_ : vs = [.int (L : Int), .ref ga, .int k]) (_ : L <= 40) (_ : H ga = some (.lst xs)) (_ : GatAt H xs gs) (_ : gs.length <= 100) (_ : ∀ t H', Same H H' -> TupF H' t ((wnS L gs k).map V.int) -> Q (.ref t) H') : sp_way_of_nth K vs H Q E
inductive sp_counted_nth (K : Fg) (vs : List V) (H : Hp) (Q : VK) (E : XK) : Prop
 | mk (b ga : Addr) (xs : List V) (low k : Int) (L : Nat) (gs : List S3) (_ : vs = [.ref b, .ref ga, .int k]) (_ : SqT K H b [.int low, .int (L : Int)]) (_ : L <= 40) (_ : H ga = some (.lst xs)) (_ : GatAt H xs gs) (_ : gs.length <= 100) (_ : ∀ v H', Same H H' -> CtV H' v (some (cnS low L gs k)) -> Q v H') : sp_counted_nth K vs H Q E
inductive sp_next_up (K : Fg) (vs : List V) (H : Hp) (Q : VK) (E : XK) : Prop
 | mk (b ga : Addr) (xs : List V) (low n : Int) (L : Nat) (gs : List S3) (_ : vs = [.ref b, .ref ga, .int n]) (_ : SqT K H b [.int low, .int (L : Int)]) (_ : L <= 40) (_ : H ga = some (.lst xs)) (_ : GatAt H xs gs) (_ : gs.length <= 100) (_ : ∀ v H', Same H H' -> CtV H' v (upS low L gs n) -> Q v H') : sp_next_up K vs H Q E
inductive sp_next_down (K : Fg) (vs : List V) (H : Hp) (Q : VK) (E : XK) : Prop
 | mk (b ga : Addr) (xs : List V) (low n : Int) (L : Nat) (gs : List S3) (_ : vs = [.ref b, .ref ga, .int n]) (_ : SqT K H b [.int low, .int (L : Int)]) (_ : L <= 40) (_ : H ga = some (.lst xs)) (_ : GatAt H xs gs) (_ : gs.length <= 100) (_ : ∀ v H', Same H H' -> CtV H' v (dnS low L gs n) -> Q v H') : sp_next_down K vs H Q E
theorem q140 (z : Bz K mg cA cB cC cD cE cF cG cH) : Cal P w K mg base 4 "many_lesser" pn14 (sp_many_lesser K) := by
 have sc := q259
 refine z.d_many_lesser.cal fun f fd F => F.k sc fun _ _ _ s H _ Q _ hr h => ?_
 obtain ⟨ga, wy, xs, ws, gs, rfl, hga, hg, hl, hwy, h01, q⟩ := h
 refine ⟨_, (q12 (pst 2 sc.nd q13)
 (q12 (pst 3 sc.nd (pv 0))
 (q12 (q81 PassesOwn.never rfl (q274 (pv 1)) (pgn 4 sc.nd)
 (q12 (ps_if (q18 op_eq (pv 4) q13 (q21 _))
 (q15 (pst 2 sc.nd (pe_op q31 (pv 2) (pe_fn (q48 z) hr.m (by rfl) (q10 (pe_fn (q185 z) hr.m (by rfl) (q10 (pv 3) (q10 (q27 (q10 q13 q11)) q11))) q11)))))
 q20)
 (q15 (pst 3 sc.nd (pe_fn (q185 z) hr.m (by rfl) (q10 (pv 3) (q10 (q27 (q10 (pv 4) q11)) q11)))))))
 (q15 (q19 (pv 2)))))), ?_⟩
 refine ⟨_, rfl, ?_⟩
 refine ⟨_, rfl, wy, rfl, ⟨_, hwy⟩, q307 (K := K) (a := wy) (xs := ws.map V.int) (fun i σ H2 => ∃ (m : Int) (pa : Addr) (zs : List V) (gs' : List S3) (v4 : Option V), σ = [some (.ref ga), some (.ref wy), some (.int m), some (.ref pa), v4] /\ Same H H2 /\ SqL K H2 pa zs /\ GatAt H2 zs gs' /\ gs'.length <= 100 /\ mlS ws gs = m + mlS (ws.drop i) gs')
  ⟨0, ga, xs, gs, none, rfl, Same.refl H, hga, hg, hl, by rw [List.drop_zero, Int.zero_add]⟩ (fun i σ H2 _ ⟨_, _, _, _, _, _, s2, _⟩ => s2.seqT hwy) ?_ ?_⟩
 ·rintro i x σ H2 hi ⟨m, pa, zs, gs', v4, rfl, s2, hpa, hg', hl', hm⟩
  obtain ⟨wv, hwv, rfl⟩ := q472 hi
  have hv01 := h01 wv (List.mem_of_getElem? hwv)
  rw [q252 hwv, mlS] at hm
  have fin : ∀ (m' : Int) (H3 : Hp), Same H2 H3 -> mlS ws gs = m' + mlS (ws.drop (i + 1)) (gs'.map (ld1 wv)) -> ∀ w1, H3 w1 = none -> sp_led K [.ref pa, .ref w1] (upd H3 w1 (.tup [V.int wv])) (fun v H4 => ∃ (m : Int) (pa : Addr) (zs : List V) (gs' : List S3) (v4 : Option V), [some (V.ref ga), some (.ref wy), some (.int m'), some v, some (.int wv)] = [some (.ref ga), some (.ref wy), some (.int m), some (.ref pa), v4] /\ Same H H4 /\ SqL K H4 pa zs /\ GatAt H4 zs gs' /\ gs'.length <= 100 /\ mlS ws gs = m + mlS (ws.drop (i + 1)) gs') E0 := by
   intro m' H3 s3 hm' w1 hw1
   have s4 := s3.trans (q16 hw1 (.tup [V.int wv]))
   exact ⟨pa, w1, zs, [wv], gs', rfl, s4.seq hpa, hg'.same s4, hl', SqT.of q14, b01_of hv01, fun H4 D4 z4 s5 hD4 hD4n hg4 => ⟨m', D4, z4, _, _, rfl, s2.trans (s4.trans s5), SqL.of hD4, hg4, by rw [List.length_map]; exact hl', hm'⟩⟩
  refine ⟨_, rfl, rfl, _, rfl, ?_⟩
  refine ite2 (fun c => ?_) (fun c => ?_)
  ·have c' : wv = 1 := V.int.inj (of_decide_eq_true c)
   rw [if_pos c'] at hm
   refine ⟨_, rfl, _, rfl, szb rfl, fun w0 hw0 => ?_⟩
   have s3 := q16 hw0 (.tup [V.int 0])
   have hw0' : upd H2 w0 (.tup [V.int 0]) w0 = some (.tup [V.int 0]) := q14
   generalize upd H2 w0 (.tup [V.int 0]) = H3 at *
   refine ⟨pa, w0, zs, [0], gs', rfl, s3.seq hpa, hg'.same s3, hl', SqT.of hw0', b01_0, fun H4 D4 z4 s4 hD4 hD4n hg4 => ?_⟩
   refine ⟨D4, z4, _, rfl, SqL.of hD4, hg4, by rw [List.length_map]; exact hl', fun H5 s5 => ⟨_, _, rfl, rfl, ?_⟩⟩
   rw [q251]
   exact ⟨_, rfl, _, rfl, szb rfl, fin _ H5 ((s3.trans s4).trans s5) (by rw [hm]; omega)⟩
  ·have c' : ¬ wv = 1 := fun z => c (decide_eq_true (by rw [z]))
   rw [if_neg c', Int.zero_add] at hm
   exact ⟨_, rfl, _, rfl, szb rfl, fin _ H2 (Same.refl _) hm⟩
 ·rintro σ H2 ⟨m, pa, zs, gs', v4, rfl, s2, hpa, hg', hl', hm⟩
  rw [List.length_map, List.drop_length] at hm
  rw [hm, mlS, Int.add_zero] at q
  exact ⟨_, rfl, q H2 s2⟩
theorem q131 (z : Bz K mg cA cB cC cD cE cF cG cH) : Cal P w K mg base 5 "below" pn1 (sp_below K) := by
 have sc := sc_below
 refine z.d_below.cal fun f fd F => F.k sc fun _ _ _ s H _ Q _ hr h => ?_
 obtain ⟨b, ga, xs, low, num, L, gs, rfl, hb, hL, hga, hg, hl, q⟩ := h
 refine ⟨_, (q12 (pst 3 sc.nd (pe_fn (q326 z) hr.m (by rfl) (q10 (pv 0) (q10 (pv 2) q11))))
 (q12 (ps_if (q18 op_eq (pv 3) q22 (q21 _))
 (q15 (q19 q13))
 q20)
 (q12 (ps_if (q18 op_eq (pv 3) q22 (q21 _))
 (q15 (q19 (pe_fn (q48 z) hr.m (by rfl) (q10 (pv 1) q11))))
 q20)
 (q15 (q19 (pe_fn (q140 z) hr.m (by rfl) (q10 (pv 1) (q10 (pe_fn (q410 z) hr.m (by rfl) (q10 (pv 0) (q10 (pv 2) q11))) q11)))))))), ?_⟩
 refine ⟨_, rfl, _, rfl, b, low, num, L, rfl, hb, hL, ?_⟩
 unfold beS at q
 unfold q245
 by_cases c1 : num < low
 ·rw [if_pos c1] at q ⊢
  exact ⟨_, rfl, rfl, _, rfl, ite2 (fun _ => q H (Same.refl H)) (fun c => absurd (decide_eq_true rfl) c)⟩
 rw [if_neg c1] at q ⊢
 by_cases c2 : low + 2 ^ L - 1 < num
 ·rw [if_pos c2] at q ⊢
  refine ⟨_, rfl, rfl, _, rfl, ite2 (fun c => absurd (of_decide_eq_true c) (by decide)) (fun _ => ?_)⟩
  refine ⟨_, rfl, rfl, _, rfl, ite2 (fun _ => ?_) (fun c => absurd (decide_eq_true rfl) c)⟩
  exact ⟨_, rfl, ga, xs, gs, rfl, hga, hg, hl, q⟩
 rw [if_neg c2] at q ⊢
 refine ⟨_, rfl, rfl, _, rfl, ite2 (fun c => absurd (of_decide_eq_true c) (by decide)) (fun _ => ?_)⟩
 refine ⟨_, rfl, rfl, _, rfl, ite2 (fun c => absurd (of_decide_eq_true c) (by decide)) (fun _ => ?_)⟩
 refine ⟨_, rfl, _, rfl, _, rfl, b, low, num, L, rfl, hb, hL, ⟨by omega, by omega⟩, fun t H1 s1 ht => ?_⟩
 exact ⟨ga, t, xs, _, gs, rfl, s1.seq hga, hg.same s1, hl, ht.sq, q329 L _, fun H2 s2 => q H2 (s1.trans s2)⟩
theorem q302 (z : Bz K mg cA cB cC cD cE cF cG cH) : Cal P w K mg base 6 "between" pn16 (sp_between K) := by
 have sc := q563
 refine z.d_between.cal fun f fd F => F.k sc fun _ _ _ s H _ Q _ hr h => ?_
 obtain ⟨b, ga, xs, low, lo, hi, L, gs, rfl, hb, hL, hga, hg, hl, q⟩ := h
 refine ⟨_, (q12 (ps_if (q18 op_gt (pv 2) (pv 3) (q21 _))
 (q15 (q19 q13))
 q20)
 (q15 (q19 (pe_op q51 (pe_fn (q131 z) hr.m (by rfl) (q10 (pv 0) (q10 (pv 1) (q10 (pe_op q31 (pv 3) q13) q11)))) (pe_fn (q131 z) hr.m (by rfl) (q10 (pv 0) (q10 (pv 1) (q10 (pv 2) q11)))))))), ?_⟩
 refine ⟨_, rfl, _, rfl, _, _, rfl, rfl, _, rfl, ?_⟩
 refine ite2 (fun c => ?_) (fun c => ?_)
 ·rw [if_pos (of_decide_eq_true c)] at q
  exact q H (Same.refl H)
 ·rw [if_neg (fun z => c (decide_eq_true z))] at q
  refine ⟨_, rfl, _, rfl, _, rfl, _, _, rfl, rfl, b, ga, xs, low, hi + 1, L, gs, rfl, hb, hL, hga, hg, hl, fun H1 s1 => ?_⟩
  exact ⟨_, rfl, _, rfl, _, rfl, b, ga, xs, low, lo, L, gs, rfl, s1.seqT hb, hL, s1.seq hga, hg.same s1, hl, fun H2 s2 => ⟨_, _, rfl, rfl, q H2 (s1.trans s2)⟩⟩
theorem q166 (z : Bz K mg cA cB cC cD cE cF cG cH) : Cal P w K mg base 4 "way_of_nth" ["levels", "gathering", "k"] (sp_way_of_nth K) := by
 have sc := q321
 refine z.d_way_of_nth.cal fun f fd F => F.k sc fun _ _ _ s H _ Q _ hr h => ?_
 obtain ⟨ga, xs, L, k, gs, rfl, hL, hga, hg, hl, q⟩ := h
 refine ⟨_, (q12 (pst 3 sc.nd (q35 q11))
 (q12 (pst 4 sc.nd (pv 1))
 (q12 (pst 5 sc.nd (pv 2))
 (q12 (q81 PassesOwn.never rfl (q86 rfl z.range_ (q10 (pv 0) q11)) (pgn 6 sc.nd)
 (q12 (pst 7 sc.nd (pe_fn (q48 z) hr.m (by rfl) (q10 (pe_fn (q185 z) hr.m (by rfl) (q10 (pv 4) (q10 (q27 (q10 q13 q11)) q11))) q11)))
 (q12 (pst 8 sc.nd (q93 (q18 op_lt (pv 5) (pv 7) (q21 _)) q13 q13))
 (q12 (pst 5 sc.nd (pe_op q51 (pv 5) (pe_op q98 (pv 8) (pv 7))))
 (q12 (pst 4 sc.nd (pe_fn (q185 z) hr.m (by rfl) (q10 (pv 4) (q10 (q27 (q10 (pv 8) q11)) q11))))
 (q15 (q73 (pe_bm PySem.F.plainAttrs_list PySem.F.slot_list_append PySem.F.type_list_append q55 (pv 3) (q10 (pv 8) q11)))))))))
 (q15 (q19 (q32 q90 (by rfl) z.tuple_ q126 (q10 (pv 3) q11)))))))), ?_⟩
 refine ⟨szb rfl, fun wl hwl => ?_⟩
 have s1 := q16 hwl (.lst [])
 have hwl1 := @q14 H wl (.lst [])
 generalize upd H wl (.lst []) = H1 at *
 have hgw : ga ≠ wl := fun z => by rw [z, hwl] at hga; cases hga
 refine ⟨_, rfl, _, rfl, _, rfl, (L : Int), rfl, by omega, by omega, q87 (n := L) (fun i σ H2 => ∃ (pa : Addr) (zs : List V) (gs' : List S3) (k' : Int) (ws : List Int) (v6 v7 v8 : Option V), σ = [some (.int (L : Int)), some (.ref ga), some (.int k), some (.ref wl), some (.ref pa), some (.int k'), v6, v7, v8] /\ Same H H2 /\ H2 wl = some (.lst (ws.map V.int)) /\ ws.length = i /\ H2 pa = some (.lst zs) /\ GatAt H2 zs gs' /\ gs'.length <= 100 /\ pa ≠ wl /\
   wnS L gs k = ws ++ wnS (L - i) gs' k') ⟨ga, xs, gs, k, [], none, none, none, rfl, s1, hwl1, rfl, s1 _ _ hga, hg.same s1, hl, hgw, rfl⟩ ?_ ?_⟩
 ·rintro i σ H2 hi ⟨pa, zs, gs', k', ws, v6, v7, v8, rfl, s2, hwl2, hwsl, hpa, hg', hl', hpw, hway⟩
  obtain ⟨e, he⟩ : ∃ e, L - i = e + 1 := ⟨L - i - 1, by omega⟩
  have he2 : L - (i + 1) = e := by omega
  rw [he, wnS] at hway
  refine ⟨_, rfl, szb rfl, fun w0 hw0 => ?_⟩
  have s3 := q16 hw0 (.tup [V.int 0])
  have hw0' : upd H2 w0 (.tup [V.int 0]) w0 = some (.tup [V.int 0]) := q14
  generalize upd H2 w0 (.tup [V.int 0]) = H3 at *
  refine ⟨pa, w0, zs, [0], gs', rfl, SqL.of (s3 _ _ hpa), hg'.same s3, hl', SqT.of hw0', b01_0, fun H4 D4 z4 s4 hD4 hD4n hg4 => ?_⟩
  refine ⟨D4, z4, _, rfl, SqL.of hD4, hg4, by rw [List.length_map]; exact hl', fun H5 s5 => ?_⟩
  rw [q251]
  have s25 := (s3.trans s4).trans s5
  have key : ∀ (t : Int), t = tnS gs' k' -> ∀ (D7 : Addr) (z7 : List V) (H7 : Hp), Same H2 H7 -> H7 D7 = some (.lst z7) -> D7 ≠ wl -> GatAt H7 z7 (gs'.map (ld1 t)) ->
    ∃ (pa : Addr) (zs : List V) (gs2 : List S3) (k2 : Int) (ws2 : List Int) (v6 v7 v8 : Option V), [some (V.int (L : Int)), some (.ref ga), some (.int k), some (.ref wl), some (.ref D7), some (.int (k' - t * manyS (gs'.map (ld1 0)))), some (.int (0 + (i : Int))), some (.int (manyS (gs'.map (ld1 0)))), some (.int t)] = [some (.int (L : Int)), some (.ref ga), some (.int k), some (.ref wl), some (.ref pa), some (.int k2), v6, v7, v8] /\
     Same H (upd H7 wl (.lst (ws.map V.int ++ [V.int t]))) /\ upd H7 wl (.lst (ws.map V.int ++ [V.int t])) wl = some (.lst (ws2.map V.int)) /\ ws2.length = i + 1 /\ upd H7 wl (.lst (ws.map V.int ++ [V.int t])) pa = some (.lst zs) /\ GatAt (upd H7 wl (.lst (ws.map V.int ++ [V.int t]))) zs gs2 /\ gs2.length <= 100 /\ pa ≠ wl /\ wnS L gs k = ws2 ++ wnS (L - (i + 1)) gs2 k2 := by
   intro t ht D7 z7 H7 s7 hD7 hn hg7
   have hwl7 := s7 _ _ hwl2
   have tk : TKeep H7 (upd H7 wl (.lst (ws.map V.int ++ [V.int t]))) := .set hwl7
   refine ⟨D7, z7, gs'.map (ld1 t), _, ws ++ [t], _, _, _, rfl, Same.own (s2.trans s7) hwl, by rw [q14, List.map_append]; rfl, by rw [List.length_append, hwsl]; rfl, by rw [q34 hn]; exact hD7, hg7.tk tk, by rw [List.length_map]; exact hl', hn, ?_⟩
   rw [hway, he2, ht, List.append_assoc]
   rfl
  refine ⟨_, rfl, _, rfl, _, _, rfl, rfl, _, rfl, ?_⟩
  refine ite2 (fun c => ?_) (fun c => ?_)
  ·have ht : 0 = tnS gs' k' := by unfold tnS; rw [if_pos (of_decide_eq_true c)]
   refine ⟨_, rfl, _, rfl, _, rfl, _, _, rfl, rfl, .inl ⟨by decide, by decide⟩, _, _, rfl, rfl, ?_⟩
   refine ⟨_, rfl, _, rfl, szb rfl, fun w1 hw1 => ?_⟩
   have s6 := s25.trans (q16 hw1 (.tup [V.int 0]))
   refine ⟨pa, w1, zs, [0], gs', rfl, SqL.of (s6 _ _ hpa), hg'.same s6, hl', SqT.of q14, b01_0, fun H7 D7 z7 s7 hD7 hD7n hg7 => ?_⟩
   have s27 := s6.trans s7
   have hwl7 := s27 _ _ hwl2
   refine ⟨_, rfl, .inl ⟨rfl, _, SqL.of hwl7⟩, _, rfl, wl, _, _, rfl, rfl, hwl7, by rw [List.length_map]; exact q66 (by omega), ?_⟩
   exact key 0 ht D7 z7 H7 s27 hD7 (fun z => by rw [z, s6 _ _ hwl2] at hD7n; cases hD7n) hg7
  ·have ht : 1 = tnS gs' k' := by unfold tnS; rw [if_neg (fun z => c (decide_eq_true z))]
   refine ⟨_, rfl, _, rfl, _, rfl, _, _, rfl, rfl, .inl ⟨by decide, by decide⟩, _, _, rfl, rfl, ?_⟩
   refine ⟨_, rfl, _, rfl, szb rfl, fun w1 hw1 => ?_⟩
   have s6 := s25.trans (q16 hw1 (.tup [V.int 1]))
   refine ⟨pa, w1, zs, [1], gs', rfl, SqL.of (s6 _ _ hpa), hg'.same s6, hl', SqT.of q14, b01_1, fun H7 D7 z7 s7 hD7 hD7n hg7 => ?_⟩
   have s27 := s6.trans s7
   have hwl7 := s27 _ _ hwl2
   refine ⟨_, rfl, .inl ⟨rfl, _, SqL.of hwl7⟩, _, rfl, wl, _, _, rfl, rfl, hwl7, by rw [List.length_map]; exact q66 (by omega), ?_⟩
   exact key 1 ht D7 z7 H7 s27 hD7 (fun z => by rw [z, s6 _ _ hwl2] at hD7n; cases hD7n) hg7
 ·rintro σ H2 ⟨pa, zs, gs', k', ws, v6, v7, v8, rfl, s2, hwl2, hwsl, hpa, hg', hl', hpw, hway⟩
  rw [Nat.sub_self, wnS, List.append_nil] at hway
  rw [hway] at q
  exact ⟨_, rfl, wl, _, rfl, SqL.of hwl2, fun t H' s' ht => q t H' (s2.trans s') ht⟩
theorem q141 (z : Bz K mg cA cB cC cD cE cF cG cH) : Cal P w K mg base 5 "counted_nth" pn5 (sp_counted_nth K) := by
 have sc := q260
 refine z.d_counted_nth.cal fun f fd F => F.k sc fun _ _ _ s H _ Q _ hr h => ?_
 obtain ⟨b, ga, xs, low, k, L, gs, rfl, hb, hL, hga, hg, hl, q⟩ := h
 refine ⟨_, (q12 (pst 3 sc.nd (pe_fn (q166 z) hr.m (by rfl) (q10 (pix q23 (pv 0) q13) (q10 (pv 1) (q10 (pv 2) q11)))))
 (q15 (q19 (q27 (q10 (pix q23 (pe_fn (q301 z) hr.m (by rfl) (q10 (pv 0) (q10 (pv 3) q11))) q13) (q10 (pe_fn (q48 z) hr.m (by rfl) (q10 (pe_fn (q185 z) hr.m (by rfl) (q10 (pv 1) (q10 (pv 3) q11))) q11)) q11)))))), ?_⟩
 refine ⟨_, rfl, b, _, _, _, rfl, rfl, hb, rfl, _, rfl, _, rfl, ga, xs, L, k, gs, rfl, hL, hga, hg, hl, fun t H1 s1 ht => ?_⟩
 refine ⟨_, rfl, _, rfl, b, t, low, L, _, rfl, s1.seqT hb, hL, ht.sq, fun p hp => ?_⟩
 have s02 : ∀ o, Same H (upd H1 p o) := fun o => s1.trans (q16 hp o)
 refine ⟨p, _, _, _, rfl, rfl, SqT.of q14, rfl, ?_⟩
 refine ⟨_, rfl, _, rfl, ga, t, xs, _, gs, rfl, SqL.of (s02 _ _ _ hga), hg.same (s02 _), hl, (ht.same (q16 hp _)).sq, wn01 L gs k, fun H3 D3 z3 s3 hD3 _ hg3 => ?_⟩
 refine ⟨D3, z3, _, rfl, SqL.of hD3, hg3, by rw [List.length_map]; exact hl, fun H4 s4 => ?_⟩
 exact ⟨szb rfl, fun v hv => q _ _ ((((s02 _).trans s3).trans s4).trans (q16 hv _)) ⟨v, rfl, q14⟩⟩
theorem q303 (z : Bz K mg cA cB cC cD cE cF cG cH) : Cal P w K mg base 6 "next_up" pn1 (sp_next_up K) := by
 have sc := q564
 refine z.d_next_up.cal fun f fd F => F.k sc fun _ _ _ s H _ Q _ hr h => ?_
 obtain ⟨b, ga, xs, low, num, L, gs, rfl, hb, hL, hga, hg, hl, q⟩ := h
 refine ⟨_, (q12 (pst 3 sc.nd (pe_fn (q131 z) hr.m (by rfl) (q10 (pv 0) (q10 (pv 1) (q10 (pe_op q31 (pv 2) q13) q11)))))
 (q12 (ps_if (q18 op_eq (pv 3) (pe_fn (q48 z) hr.m (by rfl) (q10 (pv 1) q11)) (q21 _))
 (q15 (q19 q62))
 q20)
 (q15 (q19 (pe_fn (q141 z) hr.m (by rfl) (q10 (pv 0) (q10 (pv 1) (q10 (pv 3) q11)))))))), ?_⟩
 refine ⟨_, rfl, _, rfl, _, rfl, _, _, rfl, rfl, b, ga, xs, low, num + 1, L, gs, rfl, hb, hL, SqL.of hga, hg, hl, fun H1 s1 => ?_⟩
 refine ⟨_, rfl, _, rfl, ga, xs, gs, rfl, SqL.of (s1 _ _ hga), hg.same s1, hl, fun H2 s2 => ?_⟩
 refine ⟨rfl, _, rfl, ?_⟩
 unfold upS at q
 have s02 := s1.trans s2
 refine ite2 (fun c => ?_) (fun c => ?_)
 ·rw [if_pos (V.int.inj (of_decide_eq_true c))] at q
  exact q .non H2 s02 rfl
 ·rw [if_neg (fun z => c (decide_eq_true (congrArg V.int z)))] at q
  exact ⟨_, rfl, _, rfl, _, rfl, b, ga, xs, low, _, L, gs, rfl, s02.seqT hb, hL, s02 _ _ hga, hg.same s02, hl, fun v H3 s3 hv => q v H3 (s02.trans s3) hv⟩
theorem q186 (z : Bz K mg cA cB cC cD cE cF cG cH) : Cal P w K mg base 6 "next_down" pn1 (sp_next_down K) := by
 have sc := q394
 refine z.d_next_down.cal fun f fd F => F.k sc fun _ _ _ s H _ Q _ hr h => ?_
 obtain ⟨b, ga, xs, low, num, L, gs, rfl, hb, hL, hga, hg, hl, q⟩ := h
 refine ⟨_, (q12 (pst 3 sc.nd (pe_op q51 (pe_fn (q131 z) hr.m (by rfl) (q10 (pv 0) (q10 (pv 1) (q10 (pv 2) q11)))) q13))
 (q12 (ps_if (q18 op_lt (pv 3) q13 (q21 _))
 (q15 (q19 q62))
 q20)
 (q15 (q19 (pe_fn (q141 z) hr.m (by rfl) (q10 (pv 0) (q10 (pv 1) (q10 (pv 3) q11)))))))), ?_⟩
 refine ⟨_, rfl, _, rfl, _, rfl, b, ga, xs, low, num, L, gs, rfl, hb, hL, SqL.of hga, hg, hl, fun H1 s1 => ⟨_, _, rfl, rfl, ?_⟩⟩
 refine ⟨_, rfl, _, _, rfl, rfl, _, rfl, ?_⟩
 unfold dnS at q
 refine ite2 (fun c => ?_) (fun c => ?_)
 ·rw [if_pos (of_decide_eq_true c)] at q
  exact q .non H1 s1 rfl
 ·rw [if_neg (fun z => c (decide_eq_true z))] at q
  exact ⟨_, rfl, _, rfl, _, rfl, b, ga, xs, low, _, L, gs, rfl, s1.seqT hb, hL, s1 _ _ hga, hg.same s1, hl, fun v H3 s3 hv => q v H3 (s1.trans s3) hv⟩
def wfT : Nat -> Tr -> Prop
 | _, .non => True
 | 0, .many n => 0 <= n
 | _ + 1, .many _ => False
 | 0, .part _ _ _ => False
 | e + 1, .part ms l r => B01 ms /\ q45 l = (ms.count 0 : Nat) /\ q45 r = (ms.count 1 : Nat) /\ wfT e l /\ wfT e r
theorem q524 (e : Nat) : wfT e .non := by cases e <;> trivial
def GoodS (e : Nat) (g : S3) : Prop := wfT e g.1 /\ g.2.1 <= g.2.2 /\ (g.2.2 : Int) <= q45 g.1
def lenS (g : S3) : Int := (g.2.2 : Int) - (g.2.1 : Int)
theorem cnt01 : ∀ {ms : List Int}, B01 ms -> ms.count 0 + ms.count 1 = ms.length
 | [], _ => rfl
 | m :: ms, h => by
  have ih := cnt01 (ms := ms) fun x hx => h x (List.mem_cons_of_mem _ hx)
  rw [List.count_cons, List.count_cons, List.length_cons]
  rcases h m (List.mem_cons_self ..) with rfl | rfl
  ·simp; omega
  ·simp; omega
theorem cnt_t (ms : List Int) (m : Int) (k : Nat) : (ms.take k).count m <= ms.count m := List.Sublist.count_le m (List.take_sublist _ _)
theorem cnt_tt (ms : List Int) (m : Int) {j k : Nat} (h : j <= k) : (ms.take j).count m <= (ms.take k).count m := by
 have := cnt_t (ms.take k) m j
 rwa [List.take_take, Nat.min_eq_left h] at this
theorem q336 {e : Nat} {ms : List Int} {s k : Nat} {m : Int} (hm : m = 0 \/ m = 1) (h : GoodS (e + 1) (.part ms l r, s, k)) :
  GoodS e (ld1 m (.part ms l r, s, k)) /\ lenS (ld1 m (.part ms l r, s, k)) = ((ms.take k).count m : Nat) - ((ms.take s).count m : Nat) /\ (ld1 m (.part ms l r, s, k)).1 = q44 (.part ms l r) m /\ (ld1 m (.part ms l r, s, k)).2.1 = (ms.take s).count m := by
 obtain ⟨⟨b, h0, h1, hl, hr⟩, hs, hk⟩ := h
 have hh : wfT e (q44 (.part ms l r) m) /\ q45 (q44 (.part ms l r) m) = (ms.count m : Nat) := by
  rcases hm with rfl | rfl
  ·exact ⟨hl, h0⟩
  ·exact ⟨hr, h1⟩
 have ck := cnt_t ms m k
 have cs := cnt_t ms m s
 have c := cnt_tt ms m hs
 unfold ld1
 dsimp only
 by_cases z : isNo (q44 (.part ms l r) m) = true
 ·have e0 : q44 (.part ms l r) m = .non := by
   cases q : q44 (.part ms l r) m with
   | non => rfl
   | many n => rw [q] at z; cases z
   | part _ _ _ => rw [q] at z; cases z
  have z0 : ms.count m = 0 := by
   have := hh.2
   rw [e0] at this
   have : (0 : Int) = (ms.count m : Nat) := this
   omega
  rw [if_pos z, e0]
  exact ⟨⟨q524 e, Nat.le_refl _, Int.le_refl _⟩, by show (0 : Int) - 0 = _; omega, rfl, by show 0 = _; omega⟩
 ·rw [if_neg z]
  refine ⟨⟨hh.1, c, ?_⟩, rfl, rfl, rfl⟩
  rw [hh.2]
  show (((ms.take k).count m : Nat) : Int) <= _
  omega
theorem q78 {e : Nat} {m : Int} (hm : m = 0 \/ m = 1) (h : GoodS (e + 1) g) : GoodS e (ld1 m g) := by
 obtain ⟨t, s, k⟩ := g
 cases t with
 | non => exact ⟨q524 e, Nat.le_refl _, Int.le_refl _⟩
 | many n => exact h.1.elim
 | part ms l r => exact (q336 hm h).1
theorem q474 {e : Nat} (h : GoodS (e + 1) g) : lenS (ld1 0 g) + lenS (ld1 1 g) = lenS g := by
 obtain ⟨t, s, k⟩ := g
 cases t with
 | non =>
  obtain ⟨_, hs, hk⟩ := h
  have hk' : (k : Int) <= 0 := hk
  have hs' : s <= k := hs
  show (0 : Int) - 0 + (0 - 0) = (k : Int) - (s : Int)
  omega
 | many n => exact h.1.elim
 | part ms l r =>
  have b := h.1.1
  have hk : (k : Int) <= (ms.length : Int) := h.2.2
  have hs : s <= k := h.2.1
  rw [(q336 (.inl rfl) h).2.1, (q336 (.inr rfl) h).2.1]
  have f : ∀ j, j <= k -> (ms.take j).count 0 + (ms.take j).count 1 = j := fun j hj => by
   rw [cnt01 fun x hx => b x (List.mem_of_mem_take hx), List.length_take]
   omega
  have f1 := f k (Nat.le_refl _)
  have f2 := f s hs
  show _ = (k : Int) - (s : Int)
  omega
theorem q50 (g : S3) (gs : List S3) : manyS (g :: gs) = lenS g + manyS gs := rfl
theorem q187 {e : Nat} (h : GoodS e g) : 0 <= lenS g := by
 have := h.2.1
 unfold lenS
 omega
theorem q65 {e : Nat} : ∀ {gs : List S3}, (∀ g ∈ gs, GoodS e g) -> 0 <= manyS gs
 | [], _ => Int.le_refl _
 | g :: gs, h => by
  have := q187 (h g (List.mem_cons_self ..))
  have := q65 (gs := gs) fun x hx => h x (List.mem_cons_of_mem _ hx)
  rw [q50]
  omega
theorem q132 {e : Nat} : ∀ {gs : List S3}, (∀ g ∈ gs, GoodS (e + 1) g) -> manyS (gs.map (ld1 0)) + manyS (gs.map (ld1 1)) = manyS gs
 | [], _ => rfl
 | g :: gs, h => by
  have := q474 (h g (List.mem_cons_self ..))
  have := q132 (gs := gs) fun x hx => h x (List.mem_cons_of_mem _ hx)
  rw [List.map_cons, List.map_cons, q50, q50, q50]
  omega
theorem q69 {e : Nat} : ∀ {gs : List S3}, (∀ g ∈ gs, GoodS e g) -> manyS (fil gs) = manyS gs
 | [], _ => rfl
 | g :: gs, h => by
  have h1 := h g (List.mem_cons_self ..)
  have ih := q69 (gs := gs) fun x hx => h x (List.mem_cons_of_mem _ hx)
  unfold fil at ih ⊢
  rw [List.filter_cons]
  by_cases c : g.2.1 < g.2.2
  ·rw [if_pos (decide_eq_true c), q50, q50, ih]
  ·rw [if_neg (fun z => c (of_decide_eq_true z)), q50, ih]
   have := h1.2.1
   unfold lenS
   omega
theorem q56 {e : Nat} {gs : List S3} {m : Int} (hm : m = 0 \/ m = 1) (h : ∀ g ∈ gs, GoodS (e + 1) g) : ∀ g ∈ gs.map (ld1 m), GoodS e g := fun g hg => by
 obtain ⟨x, hx, rfl⟩ := List.mem_map.mp hg
 exact q78 hm (h x hx)
theorem q67 {e : Nat} (h : ∀ g ∈ gs, GoodS e g) : ∀ g ∈ fil gs, GoodS e g := fun g hg => h g (List.mem_filter.mp hg).1
def caS (part fl : Int) : Nat -> Int -> List S3 -> List (Int × Int)
 | 0, low, gs => if manyS gs * part <= fl then [] else [(low, manyS gs)]
 | e + 1, low, gs => if manyS gs * part <= fl then [] else caS part fl e low (fil (gs.map (ld1 0))) ++ caS part fl e (low + 2 ^ e) (fil (gs.map (ld1 1)))
theorem q418 {part fl : Int} (hp : 0 <= part) (hf : 0 <= fl) : ∀ {e : Nat} {low : Int} {gs : List S3}, (∀ g ∈ gs, GoodS e g) -> ((caS part fl e low gs).length : Int) <= manyS gs
 | 0, low, gs, h => by
  have h0 := q65 h
  unfold caS
  by_cases c : manyS gs * part <= fl
  ·rw [if_pos c]; exact h0
  ·rw [if_neg c]
   show (1 : Int) <= _
   apply Classical.byContradiction
   intro z
   have z0 : manyS gs = 0 := by omega
   rw [z0, Int.zero_mul] at c
   exact c hf
 | e + 1, low, gs, h => by
  have h0 := q65 h
  unfold caS
  by_cases c : manyS gs * part <= fl
  ·rw [if_pos c]; exact h0
  ·rw [if_neg c, List.length_append]
   have g0 := q56 (.inl rfl) h
   have g1 := q56 (.inr rfl) h
   have i0 := q418 hp hf (low := low) (q67 g0)
   have i1 := q418 hp hf (low := low + 2 ^ e) (q67 g1)
   rw [q69 g0] at i0
   rw [q69 g1] at i1
   have := q132 h
   omega
def PsAt (H : Hp) (xs : List V) (ps : List (Int × Int)) : Prop := xs.length = ps.length /\ ∀ (j : Nat) (x : V) (p : Int × Int), xs[j]? = some x -> ps[j]? = some p -> CtV H x (some p)
theorem CtV.tk (h : CtV H v o) (k : TKeep H H') : CtV H' v o := by
 cases o with
 | none => exact h
 | some p => obtain ⟨a, e, h1⟩ := h; exact ⟨a, e, (k _ _).1 h1⟩
theorem PsAt.same (h : PsAt H xs ps) (s : Same H H') : PsAt H' xs ps := ⟨h.1, fun j x p h1 h2 => (h.2 j x p h1 h2).tk (.same s)⟩
theorem PsAt.get (h : PsAt H xs ps) {j : Nat} (hx : xs[j]? = some x) : ∃ p, ps[j]? = some p /\ CtV H x (some p) := by
 have hj := (List.getElem?_eq_some_iff.mp hx).1
 have e : ps[j]? = some (ps[j]'(by rw [<- h.1]; exact hj)) := List.getElem?_eq_getElem _
 exact ⟨_, e, h.2 j x _ hx e⟩
theorem PsAt.app (h : PsAt H xs ps) (h' : PsAt H ys qs) : PsAt H (xs ++ ys) (ps ++ qs) := by
 refine ⟨by rw [List.length_append, List.length_append, h.1, h'.1], fun j x p h1 h2 => ?_⟩
 have hl := h.1
 by_cases c : j < xs.length
 ·rw [List.getElem?_append_left c] at h1
  rw [List.getElem?_append_left (by omega)] at h2
  exact h.2 j x p h1 h2
 ·rw [List.getElem?_append_right (by omega)] at h1
  rw [List.getElem?_append_right (by omega), <- hl] at h2
  exact h'.2 _ x p h1 h2
abbrev q49 : Nat := 3
abbrev q112 : Nat := 40
inductive spe_counted_above (K : Fg) (e : Nat) (vs : List V) (H : Hp) (Q : VK) (E : XK) : Prop
 | mk (least part floor : Int) (pa : Addr) (xs : List V) (gs : List S3) (_ : vs = [.int least, .int (2 ^ e), .ref pa, .int part, .int floor]) (_ : SqL K H pa xs) (_ : GatAt H xs gs) (_ : (∀ g ∈ gs, GoodS e g)) (_ : gs.length <= 100) (_ : manyS gs <= 900) (_ : 0 <= part) (_ : part <= 1000) (_ : 0 <= floor) (_ : ∀ (H' : Hp) (D : Addr) (ys : List V), Same H H' -> H' D = some (.lst ys) -> H D = none -> PsAt H' ys (caS part floor e least gs) -> Q (.ref D) H') : spe_counted_above K e vs H Q E
def q193 (K : Fg) : Sp := fun vs H Q E => ∃ e, e <= q112 /\ spe_counted_above K e vs H Q E
inductive sp_worths_in (K : Fg) (vs : List V) (H : Hp) (Q : VK) (E : XK) : Prop
 | mk (b ga : Addr) (xs : List V) (low : Int) (L : Nat) (gs : List S3) (_ : vs = [.ref b, .ref ga]) (_ : SqT K H b [.int low, .int (L : Int)]) (_ : L <= 40) (_ : SqL K H ga xs) (_ : GatAt H xs gs) (_ : (∀ g ∈ gs, GoodS L g)) (_ : gs.length <= 100) (_ : manyS gs <= 900) (_ : ∀ (H' : Hp) (D : Addr) (ys : List V), Same H H' -> H' D = some (.lst ys) -> H D = none -> PsAt H' ys (caS 1 0 L low (fil gs)) -> Q (.ref D) H') : sp_worths_in K vs H Q E
inductive sp_often (K : Fg) (vs : List V) (H : Hp) (Q : VK) (E : XK) : Prop
 | mk (b ga : Addr) (xs : List V) (low part : Int) (L : Nat) (gs : List S3) (_ : vs = [.ref b, .ref ga, .int part]) (_ : SqT K H b [.int low, .int (L : Int)]) (_ : L <= 40) (_ : SqL K H ga xs) (_ : GatAt H xs gs) (_ : (∀ g ∈ gs, GoodS L g)) (_ : gs.length <= 100) (_ : manyS gs <= 900) (_ : 0 <= part) (_ : part <= 1000) (_ : ∀ (H' : Hp) (D : Addr) (ys : List V), Same H H' -> H' D = some (.lst ys) -> H D = none -> PsAt H' ys (caS part (manyS gs) L low (fil gs)) -> Q (.ref D) H') : sp_often K vs H Q E
def bstep (b : Option (Int × Int)) (p : Int × Int) : Option (Int × Int) := match b with
 | none => some p
 | some q => if p.2 > q.2 then some p else some q
inductive sp_most (K : Fg) (vs : List V) (H : Hp) (Q : VK) (E : XK) : Prop
 | mk (b ga : Addr) (xs : List V) (low : Int) (L : Nat) (gs : List S3) (_ : vs = [.ref b, .ref ga]) (_ : SqT K H b [.int low, .int (L : Int)]) (_ : L <= 40) (_ : SqL K H ga xs) (_ : GatAt H xs gs) (_ : (∀ g ∈ gs, GoodS L g)) (_ : gs.length <= 100) (_ : manyS gs <= 900) (_ : ∀ (H' : Hp) (v : V), Same H H' -> CtV H' v ((caS 1 0 L low (fil gs)).foldl bstep none) -> Q v H') : sp_most K vs H Q E
theorem q113 (z : Bz K mg cA cB cC cD cE cF cG cH) : Cal P w K mg base 44 "counted_above" pn10 (q193 K) := by
 have sc := q190
 refine z.d_counted_above.recur (k := q49) (sp := spe_counted_above K) q112 fun e hen c_counted_above f fd F => F.k sc fun _ _ _ s H _ Q _ hr h => ?_
 obtain ⟨least, part, floor, pa, xs, gs, rfl, hpa, hg, hgd, hl, hm, hp0, hp1, hf0, q⟩ := h
 refine ⟨_, (q12 (pst 5 sc.nd (pe_fn (q48 z) (hr.mono (Nat.le_trans (by decide : 1 <= q49) (Nat.le_add_left _ _))) (by rfl) (q10 (pv 2) q11)))
 (q12 (ps_if (q18 op_le (pe_op q98 (pv 5) (pv 3)) (pv 4) (q21 _))
 (q15 (q19 (q35 q11)))
 q20)
 (q12 (ps_if (q18 op_eq (pv 1) q13 (q21 _))
 (q15 (q19 (q35 (q10 (q27 (q10 (pv 0) (q10 (pv 5) q11))) q11))))
 q20)
 (q12 (pst 6 sc.nd (pe_op q94 (pv 1) q13))
 (q12 (pst 7 sc.nd (pe_fn c_counted_above (hr.mono (Nat.le_refl _)) (by rfl) (q10 (pv 0) (q10 (pv 6) (q10 (pe_fn (q164 z) (hr.mono (Nat.le_trans (by decide : 1 <= q49) (Nat.le_add_left _ _))) (by rfl) (q10 (pe_fn (q185 z) (hr.mono (Nat.le_trans (by decide : 3 <= q49) (Nat.le_add_left _ _))) (by rfl) (q10 (pv 2) (q10 (q27 (q10 q13 q11)) q11))) q11)) (q10 (pv 3) (q10 (pv 4) q11)))))))
 (q12 (pst 8 sc.nd (pe_fn c_counted_above (hr.mono (Nat.le_refl _)) (by rfl) (q10 (pe_op q31 (pv 0) (pv 6)) (q10 (pv 6) (q10 (pe_fn (q164 z) (hr.mono (Nat.le_trans (by decide : 1 <= q49) (Nat.le_add_left _ _))) (by rfl) (q10 (pe_fn (q185 z) (hr.mono (Nat.le_trans (by decide : 3 <= q49) (Nat.le_add_left _ _))) (by rfl) (q10 (pv 2) (q10 (q27 (q10 q13 q11)) q11))) q11)) (q10 (pv 3) (q10 (pv 4) q11)))))))
 (q15 (q19 (pe_op q179 (pv 7) (pv 8)))))))))), ?_⟩
 have hcl := q418 (low := least) hp0 hf0 hgd
 have hm0 := q65 hgd
 refine ⟨_, rfl, pa, xs, gs, rfl, hpa, hg, hl, fun H1 s1 => ?_⟩
 refine ⟨_, rfl, _, rfl, _, _, rfl, rfl, .inl ⟨by omega, by omega⟩, _, rfl, _, _, rfl, rfl, _, rfl, ?_⟩
 refine ite2 (fun c => ?_) (fun c => ?_)
 ·have c' := of_decide_eq_true c
  have e0 : caS part floor e least gs = [] := by cases e <;> (unfold caS; rw [if_pos c'])
  rw [e0] at q
  exact ⟨szb rfl, fun D hD => q _ D [] (s1.trans (q16 hD _)) q14 (s1.free hD) ⟨rfl, fun j x p h1 _ => by cases h1⟩⟩
 have c' : ¬ manyS gs * part <= floor := fun z => c (decide_eq_true z)
 refine ⟨_, rfl, rfl, _, rfl, ?_⟩
 cases e with
 | zero =>
  refine ite2 (fun _ => ?_) (fun c => absurd (decide_eq_true rfl) c)
  have e0 : caS part floor 0 least gs = [(least, manyS gs)] := by unfold caS; rw [if_neg c']
  rw [e0] at q
  refine ⟨_, rfl, _, rfl, szb rfl, fun t ht => ⟨szb rfl, fun D hD => ?_⟩⟩
  have s2 := q16 ht (.tup [.int least, .int (manyS gs)])
  have s3 := q16 hD (.lst [.ref t])
  refine q _ D [.ref t] ((s1.trans s2).trans s3) q14 ((s1.trans s2).free hD) ⟨rfl, fun j x p h1 h2 => ?_⟩
  match j, h1, h2 with
  | 0, h1, h2 => cases h1; cases h2; exact ⟨t, rfl, s3 _ _ q14⟩
 | succ e =>
  have hp2 := p2pos e
  have e2 : (2 : Int) ^ (e + 1) = 2 * 2 ^ e := by rw [Int.pow_succ]; omega
  refine ite2 (fun c => absurd (V.int.inj (of_decide_eq_true c)) (by omega)) (fun _ => ?_)
  refine ⟨_, rfl, _, _, rfl, rfl, ⟨by decide, by decide⟩, ?_⟩
  dsimp only
  rw [show (2 : Int) ^ (e + 1) / 2 = 2 ^ e by omega]
  have e0 : caS part floor (e + 1) least gs = caS part floor e least (fil (gs.map (ld1 0))) ++ caS part floor e (least + 2 ^ e) (fil (gs.map (ld1 1))) := by rw [caS, if_neg c']
  rw [e0] at q hcl
  have gd : ∀ w : Int, w = 0 \/ w = 1 -> ∀ g ∈ fil (gs.map (ld1 w)), GoodS e g := fun w hw => q67 (q56 hw hgd)
  have ln : ∀ w : Int, (fil (gs.map (ld1 w))).length <= 100 := fun w => Nat.le_trans (q473 _) (by rw [List.length_map]; exact hl)
  have my : ∀ w : Int, w = 0 \/ w = 1 -> manyS (fil (gs.map (ld1 w))) <= 900 := fun w hw => by
   rw [q69 (q56 hw hgd)]
   have h1 := q132 hgd
   have h2 := q65 (q56 (.inl rfl) hgd)
   have h3 := q65 (q56 (.inr rfl) hgd)
   rcases hw with rfl | rfl <;> omega
  refine ⟨_, rfl, _, rfl, _, rfl, szb rfl, fun w0 hw0 => ?_⟩
  have s02 := s1.trans (q16 hw0 (.tup [V.int 0]))
  refine ⟨pa, w0, xs, [0], gs, rfl, s02.seq hpa, hg.same s02, hl, SqT.of q14, b01_0, fun H3 D3 z3 s3 hD3 hD3n hg3 => ?_⟩
  refine ⟨D3, z3, _, rfl, SqL.of hD3, hg3, by rw [List.length_map]; exact hl, fun H4 D4 z4 s4 hD4 hD4n hg4 => ?_⟩
  refine ⟨_, rfl, _, rfl, least, part, floor, D4, z4, fil (gs.map (ld1 0)), rfl, SqL.of hD4, hg4, gd 0 (.inl rfl), ln 0, my 0 (.inl rfl), hp0, hp1, hf0, fun H5 D5 z5 s5 hD5 hD5n hp5 => ?_⟩
  have s05 := ((s02.trans s3).trans s4).trans s5
  refine ⟨_, rfl, _, rfl, _, _, rfl, rfl, _, rfl, _, rfl, szb rfl, fun w1 hw1 => ?_⟩
  have s56 := q16 hw1 (.tup [V.int 1])
  have s06 := s05.trans s56
  refine ⟨pa, w1, xs, [1], gs, rfl, s06.seq hpa, hg.same s06, hl, SqT.of q14, b01_1, fun H7 D7 z7 s7 hD7 hD7n hg7 => ?_⟩
  refine ⟨D7, z7, _, rfl, SqL.of hD7, hg7, by rw [List.length_map]; exact hl, fun H8 D8 z8 s8 hD8 hD8n hg8 => ?_⟩
  refine ⟨_, rfl, _, rfl, least + 2 ^ e, part, floor, D8, z8, fil (gs.map (ld1 1)), rfl, SqL.of hD8, hg8, gd 1 (.inr rfl), ln 1, my 1 (.inr rfl), hp0, hp1, hf0, fun H9 D9 z9 s9 hD9 hD9n hp9 => ?_⟩
  have s59 := ((s56.trans s7).trans s8).trans s9
  refine ⟨_, rfl, _, rfl, D5, D9, z5, z9, rfl, rfl, s59 _ _ hD5, hD9, sz (by rw [hp5.1, hp9.1, <- List.length_append]; omega), fun D hD => ?_⟩
  exact q _ D _ ((s05.trans s59).trans (q16 hD _)) q14 ((s05.trans s59).free hD) (((hp5.same s59).app hp9).same (q16 hD _))
theorem q419 (z : Bz K mg cA cB cC cD cE cF cG cH) : Cal P w K mg base 45 "worths_in" pn9 (sp_worths_in K) := by
 have sc := q393
 refine z.d_worths_in.cal fun f fd F => F.k sc fun _ _ _ s H _ Q _ hr h => ?_
 obtain ⟨b, ga, xs, low, L, gs, rfl, hb, hL, hga, hg, hgd, hl, hm, q⟩ := h
 refine ⟨_, (q15 (q19 (pe_fn (q113 z) hr.m (by rfl) (q10 (pix q23 (pv 0) q13) (q10 (pe_fn (q43 z) hr.m (by rfl) (q10 (pix q23 (pv 0) q13) q11)) (q10 (pe_fn (q164 z) hr.m (by rfl) (q10 (pv 1) q11)) (q10 q13 (q10 q13 q11)))))))), ?_⟩
 refine ⟨_, rfl, b, _, _, _, rfl, rfl, hb, rfl, _, rfl, b, _, _, _, rfl, rfl, hb, rfl, L, rfl, hL, _, rfl, ga, xs, gs, rfl, hga, hg, hl, fun H1 D1 z1 s1 hD1 hD1n hg1 => ?_⟩
 exact ⟨L, hL, low, 1, 0, D1, z1, fil gs, rfl, SqL.of hD1, hg1, q67 hgd, Nat.le_trans (q473 _) hl, by rw [q69 hgd]; exact hm, by decide, by decide, by decide, fun H2 D2 z2 s2 hD2 hD2n hp2 => q H2 D2 z2 (s1.trans s2) hD2 (s1.free hD2n) hp2⟩
theorem q525 (z : Bz K mg cA cB cC cD cE cF cG cH) : Cal P w K mg base 45 "often" ["bounds", "gathering", "part"] (sp_often K) := by
 have sc := sc_often
 refine z.d_often.cal fun f fd F => F.k sc fun _ _ _ s H _ Q _ hr h => ?_
 obtain ⟨b, ga, xs, low, part, L, gs, rfl, hb, hL, hga, hg, hgd, hl, hm, hp0, hp1, q⟩ := h
 refine ⟨_, (q15 (q19 (pe_fn (q113 z) hr.m (by rfl) (q10 (pix q23 (pv 0) q13) (q10 (pe_fn (q43 z) hr.m (by rfl) (q10 (pix q23 (pv 0) q13) q11)) (q10 (pe_fn (q164 z) hr.m (by rfl) (q10 (pv 1) q11)) (q10 (pv 2) (q10 (pe_fn (q48 z) hr.m (by rfl) (q10 (pv 1) q11)) q11)))))))), ?_⟩
 refine ⟨_, rfl, b, _, _, _, rfl, rfl, hb, rfl, _, rfl, b, _, _, _, rfl, rfl, hb, rfl, L, rfl, hL, _, rfl, ga, xs, gs, rfl, hga, hg, hl, fun H1 D1 z1 s1 hD1 hD1n hg1 => ?_⟩
 refine ⟨_, rfl, _, rfl, ga, xs, gs, rfl, s1.seq hga, hg.same s1, hl, fun H1' s1' => ?_⟩
 have s11 := s1.trans s1'
 exact ⟨L, hL, low, part, _, D1, z1, fil gs, rfl, SqL.of (s1' _ _ hD1), hg1.same s1', q67 hgd, Nat.le_trans (q473 _) hl, by rw [q69 hgd]; exact hm, hp0, hp1, q65 hgd, fun H2 D2 z2 s2 hD2 hD2n hp2 => q H2 D2 z2 (s11.trans s2) hD2 (s11.free hD2n) hp2⟩
theorem q685 (z : Bz K mg cA cB cC cD cE cF cG cH) : Cal P w K mg base 46 "most" pn9 (sp_most K) := by
 have sc := sc_most
 refine z.d_most.cal fun f fd F => F.k sc fun _ _ _ s H _ Q _ hr h => ?_
 obtain ⟨b, ga, xs, low, L, gs, rfl, hb, hL, hga, hg, hgd, hl, hm, q⟩ := h
 refine ⟨_, (q12 (pst 2 sc.nd q62)
 (q12 (q81 PassesOwn.never rfl (q46 (pe_fn (q419 z) hr.m (by rfl) (q10 (pv 0) (q10 (pv 1) q11)))) (pgn 3 sc.nd)
 (q15 (ps_if (PW.pt (pw_or (q18 q110 (pv 2) q62 (q21 _)) (q80 (q18 op_gt (pix q23 (pv 3) q13) (pix q23 (pv 2) q13) (q21 _)))))
 (q15 (pst 2 sc.nd (pv 3)))
 q20)))
 (q15 (q19 (pv 2))))), ?_⟩
 refine ⟨_, rfl, _, rfl, b, ga, xs, low, L, gs, rfl, hb, hL, hga, hg, hgd, hl, hm, fun H1 D1 z1 s1 hD1 hD1n hp1 => ?_⟩
 generalize caS 1 0 L low (fil gs) = ps at *
 refine ⟨D1, rfl, ⟨_, SqL.of hD1⟩, q306 (K := K) (a := D1) (xs := z1) (fun j σ H2 => ∃ (bv : V) (v3 : Option V), σ = [some (.ref b), some (.ref ga), some bv, v3] /\ H2 = H1 /\ CtV H1 bv ((ps.take j).foldl bstep none)) ⟨.non, none, rfl, rfl, rfl⟩ (fun j σ H2 _ ⟨_, _, _, e, _⟩ => by rw [e]; exact SqL.of hD1) ?_ ?_⟩
 ·rintro j x σ H2 hx ⟨bv, v3, rfl, rfl, hbv⟩
  obtain ⟨p, gp, hpx⟩ := hp1.get hx
  have et : (ps.take (j + 1)).foldl bstep none = bstep ((ps.take j).foldl bstep none) p := by
   rw [List.take_add_one, gp, List.foldl_append]
   rfl
  generalize (ps.take j).foldl bstep none = bo at *
  refine ⟨_, rfl, rfl, _, rfl, ?_⟩
  cases bo with
  | none =>
   cases (show bv = .non from hbv)
   refine ite2 (fun _ => ?_) (fun c => absurd rfl c)
   refine ⟨_, rfl, x, _, rfl, rfl, ?_⟩
   rw [et]
   exact hpx
  | some q0 =>
   obtain ⟨ab, rfl, hab⟩ := hbv
   obtain ⟨ap, rfl, hap⟩ := hpx
   refine ite2 (fun c => absurd (of_decide_eq_true c) (by intro z; cases z)) (fun _ => ?_)
   refine ⟨_, rfl, ap, _, _, _, rfl, rfl, SqT.of hap, rfl, _, rfl, ab, _, _, _, rfl, rfl, SqT.of hab, rfl, _, _, rfl, rfl, _, rfl, ?_⟩
   refine ite2 (fun c => ?_) (fun c => ?_)
   ·refine ⟨_, rfl, _, _, rfl, rfl, ?_⟩
    rw [et]
    show CtV H2 _ (if p.2 > q0.2 then some p else some q0)
    rw [if_pos (of_decide_eq_true c)]
    exact ⟨ap, rfl, hap⟩
   ·refine ⟨_, _, rfl, rfl, ?_⟩
    rw [et]
    show CtV H2 _ (if p.2 > q0.2 then some p else some q0)
    rw [if_neg (fun z => c (decide_eq_true z))]
    exact ⟨ab, rfl, hab⟩
 ·rintro σ H2 ⟨bv, v3, rfl, rfl, hbv⟩
  rw [hp1.1, List.take_length] at hbv
  exact ⟨_, rfl, q _ bv s1 hbv⟩
def plc (mk : Int) : List Int -> Int -> Nat -> Option Nat
 | [], _, _ => none
 | m :: r, l, i => if m = mk then (if l = 0 then some i else plc mk r (l - 1) (i + 1)) else plc mk r l (i + 1)
theorem q526 {mk m l : Int} {i : Nat} : plc mk (m :: r) l i = if m = mk then (if l = 0 then some i else plc mk r (l - 1) (i + 1)) else plc mk r l (i + 1) := rfl
theorem q337 {mk : Int} : ∀ {r : List Int} {l : Int} {i : Nat}, 0 <= l -> l < (r.count mk : Nat) -> ∃ p, plc mk r l i = some p /\ p < i + r.length
 | [], l, i, h0, h1 => by
  have : l < ((0 : Nat) : Int) := h1
  omega
 | m :: r, l, i, h0, h1 => by
  rw [q526, List.length_cons]
  rw [List.count_cons] at h1
  by_cases c : m = mk
  ·rw [if_pos c]
   rw [if_pos (by simp [c])] at h1
   by_cases c2 : l = 0
   ·rw [if_pos c2]; exact ⟨i, rfl, by omega⟩
   ·rw [if_neg c2]
    obtain ⟨p, e, h⟩ := q337 (mk := mk) (r := r) (l := l - 1) (i := i + 1) (by omega) (by omega)
    exact ⟨p, e, by omega⟩
  ·rw [if_neg c]
   rw [if_neg (by simp [c])] at h1
   obtain ⟨p, e, h⟩ := q337 (mk := mk) (r := r) (l := l) (i := i + 1) h0 (by omega)
   exact ⟨p, e, by omega⟩
def lif : List Int -> Tr -> Nat -> Option Nat
 | [], _, p => some p
 | w :: ws, t, p => (lif ws (q44 t w) p).bind fun i => plc w (trMs t) (i : Int) 0
def leaf (ws : List Int) (t : Tr) : Tr := ws.foldl q44 t
theorem q338 : ∀ (ws : List Int), leaf ws .non = .non
 | [] => rfl
 | w :: ws => q338 ws
theorem q167 (w : Int) (ws : List Int) (t : Tr) : leaf (w :: ws) t = leaf ws (q44 t w) := rfl
theorem q420 {w : Int} {p : Nat} (h : (p : Int) < q45 (leaf (w :: ws) t)) : ∃ ms l r, t = .part ms l r := by
 cases t with
 | non => rw [q338] at h; have : (p : Int) < 0 := h; omega
 | many n => rw [q167, show q44 (.many n) w = .non from rfl, q338] at h; have : (p : Int) < 0 := h; omega
 | part ms l r => exact ⟨ms, l, r, rfl⟩
theorem q339 : ∀ {ws : List Int} {e : Nat} {t : Tr} {p : Nat}, B01 ws -> ws.length <= e -> wfT e t -> (p : Int) < q45 (leaf ws t) -> ∃ i, lif ws t p = some i /\ (i : Int) < q45 t
 | [], e, t, p, _, _, _, h => ⟨p, rfl, h⟩
 | w :: ws, 0, t, p, _, hl, _, _ => by rw [List.length_cons] at hl; omega
 | w :: ws, e + 1, t, p, hb, hl, hw, h => by
  obtain ⟨ms, l, r, rfl⟩ := q420 h
  obtain ⟨b, h0, h1, hl', hr'⟩ := hw
  have hm := hb w (List.mem_cons_self ..)
  rw [q167] at h
  have hh : wfT e (q44 (.part ms l r) w) /\ q45 (q44 (.part ms l r) w) = (ms.count w : Nat) := by
   rcases hm with rfl | rfl
   ·exact ⟨hl', h0⟩
   ·exact ⟨hr', h1⟩
  obtain ⟨i, e1, h2⟩ := q339 (fun x hx => hb x (List.mem_cons_of_mem _ hx)) (by rw [List.length_cons] at hl; omega) hh.1 h
  rw [hh.2] at h2
  obtain ⟨q, e2, h3⟩ := q337 (mk := w) (r := ms) (l := (i : Int)) (i := 0) (by omega) h2
  refine ⟨q, ?_, ?_⟩
  ·rw [lif, e1]
   exact e2
  ·show (q : Int) < (ms.length : Int)
   omega
theorem q686 (m : Int) (g : S3) : (ld1 m g).1 = q44 g.1 m := by
 unfold ld1
 by_cases c : isNo (q44 g.1 m) = true
 ·rw [if_pos c]
  cases e : q44 g.1 m with
  | non => rfl
  | many n => rw [e] at c; cases c
  | part _ _ _ => rw [e] at c; cases c
 ·rw [if_neg c]
theorem q340 : ∀ (ws : List Int) (g : S3), (lds ws g).1 = leaf ws g.1
 | [], g => rfl
 | w :: ws, g => by rw [q202, q340 ws, q686, q167]
theorem q168 : ∀ {ws : List Int} {e : Nat} {g : S3}, B01 ws -> GoodS (e + ws.length) g -> GoodS e (lds ws g)
 | [], _, _, _, h => h
 | w :: ws, e, g, hb, h => by
  rw [q202]
  exact q168 (fun x hx => hb x (List.mem_cons_of_mem _ hx)) (q78 (hb w (List.mem_cons_self ..)) h)
def pickS : List S3 -> Int -> Nat × Int
 | [], n => (0, n)
 | g :: gs, n => if n < lenS g then (0, n) else ((pickS gs (n - lenS g)).1 + 1, (pickS gs (n - lenS g)).2)
def naS (gs : List S3) (ws : List Int) (n : Int) : Option (Nat × Nat) := match gs[(pickS (gs.map (lds ws)) n).1]? with
 | some g => (lif ws g.1 ((lds ws g).2.1 + (pickS (gs.map (lds ws)) n).2.toNat)).map fun i => ((pickS (gs.map (lds ws)) n).1, i)
 | none => none
theorem q341 : ∀ {gs : List S3} {n : Int}, 0 <= n -> n < manyS gs -> ∃ g, gs[(pickS gs n).1]? = some g /\ 0 <= (pickS gs n).2 /\ (pickS gs n).2 < lenS g
 | [], n, h0, h1 => by have : n < 0 := h1; omega
 | g :: gs, n, h0, h1 => by
  unfold pickS
  rw [q50] at h1
  by_cases c : n < lenS g
  ·rw [if_pos c]; exact ⟨g, rfl, h0, c⟩
  ·rw [if_neg c]
   exact q341 (gs := gs) (n := n - lenS g) (by omega) (by omega)
theorem na_some {L : Nat} {gs : List S3} {ws : List Int} {n : Int} (hg : ∀ g ∈ gs, GoodS L g) (hb : B01 ws) (hl : ws.length = L) (h0 : 0 <= n) (h1 : n < manyS (gs.map (lds ws))) : ∃ r, naS gs ws n = some r := by
 obtain ⟨g', e, h2, h3⟩ := q341 h0 h1
 unfold naS
 rw [List.getElem?_map] at e
 cases eg : gs[(pickS (gs.map (lds ws)) n).1]? with
 | none => rw [eg] at e; cases e
 | some g =>
  rw [eg] at e
  cases e
  have hgd := hg g (List.mem_of_getElem? eg)
  have h4 : GoodS 0 (lds ws g) := q168 hb (by rw [Nat.zero_add, hl]; exact hgd)
  obtain ⟨i, e1, _⟩ := q339 (p := (lds ws g).2.1 + (pickS (gs.map (lds ws)) n).2.toNat) hb (by omega) hgd.1 (by
   rw [<- q340]
   have := h4.2.2
   unfold lenS at h3
   omega)
  exact ⟨_, by dsimp only; rw [e1]; rfl⟩
theorem q527 : ∀ {L : Nat} {gs : List S3} {k : Int}, (∀ g ∈ gs, GoodS L g) -> 0 <= k -> k < manyS gs -> 0 <= k - mlS (wnS L gs k) gs /\ k - mlS (wnS L gs k) gs < manyS (gs.map (lds (wnS L gs k)))
 | 0, gs, k, _, h0, h1 => by
  rw [wnS, mlS, show lds [] = id from rfl, List.map_id]
  omega
 | L + 1, gs, k, hg, h0, h1 => by
  have hs := q132 hg
  have ht := tn01 gs k
  have r : 0 <= k - tnS gs k * manyS (gs.map (ld1 0)) /\ k - tnS gs k * manyS (gs.map (ld1 0)) < manyS (gs.map (ld1 (tnS gs k))) := by
   unfold tnS
   by_cases c : k < manyS (gs.map (ld1 0))
   ·rw [if_pos c]; omega
   ·rw [if_neg c]; omega
  have ih := q527 (L := L) (q56 ht hg) r.1 r.2
  rw [wnS, mlS, List.map_map] at *
  have em : (gs.map (lds (tnS gs k :: wnS L (gs.map (ld1 (tnS gs k))) (k - tnS gs k * manyS (gs.map (ld1 0)))))) = (gs.map (lds (wnS L (gs.map (ld1 (tnS gs k))) (k - tnS gs k * manyS (gs.map (ld1 0)))) ∘ ld1 (tnS gs k))) := rfl
  rw [em]
  generalize mlS (wnS L (gs.map (ld1 (tnS gs k))) (k - tnS gs k * manyS (gs.map (ld1 0)))) (gs.map (ld1 (tnS gs k))) = M at *
  rcases ht with h | h
  ·rw [h] at ih ⊢
   rw [if_neg (by decide)]
   omega
  ·rw [h] at ih ⊢
   rw [if_pos rfl]
   omega
def nlS (low : Int) (L : Nat) (gs : List S3) (k : Int) : Option (Int × Nat × Nat) := (naS gs (wnS L gs k) (k - mlS (wnS L gs k) gs)).map fun r => ((spanS low L (wnS L gs k)).1, r.1, r.2)
theorem q253 : ∀ (L : Nat) (gs : List S3) (k : Int), (wnS L gs k).length = L
 | 0, _, _ => rfl
 | L + 1, gs, k => by rw [wnS, List.length_cons, q253]
theorem nl_some {low : Int} {L : Nat} {k : Int} (hg : ∀ g ∈ gs, GoodS L g) (h0 : 0 <= k) (h1 : k < manyS gs) : ∃ r, nlS low L gs k = some r := by
 obtain ⟨a, b⟩ := q527 hg h0 h1
 obtain ⟨r, e⟩ := na_some hg (wn01 L gs k) (q253 L gs k) a b
 exact ⟨_, by unfold nlS; rw [e]; rfl⟩
inductive sp_place_of (K : Fg) (vs : List V) (H : Hp) (Q : VK) (E : XK) : Prop
 | mk (t : Addr) (ms : List Int) (mk num : Int) (p : Nat) (_ : vs = [.ref t, .int mk, .int num]) (_ : SqT K H t (ms.map V.int)) (_ : plc mk ms num 0 = some p) (_ : ∀ H', Same H H' -> Q (.int (p : Nat)) H') : sp_place_of K vs H Q E
abbrev q169 : Nat := 2
abbrev q421 : Nat := 40
inductive spe_lifted (u0 : Fg) (e : Nat) (vs : List V) (H : Hp) (Q : VK) (E : XK) : Prop
 | mk (v : V) (wy : Addr) (k i : Nat) (t : Tr) (ws : List Int) (_ : vs = [v, .ref wy, .int (k : Int)]) (_ : q29 H v t) (_ : TupF H wy (ws.map V.int)) (_ : ws.length = e) (_ : B01 ws) (_ : (k : Int) < q45 (leaf ws t)) (_ : lif ws t k = some i) (_ : ∀ H', Same H H' -> Q (.int (i : Int)) H') : spe_lifted u0 e vs H Q E
def q687 (K : Fg) : Sp := fun vs H Q E => ∃ e, e <= q421 /\ spe_lifted K e vs H Q E
inductive sp_nth_alike (u0 : Fg) (vs : List V) (H : Hp) (Q : VK) (E : XK) : Prop
 | mk (ga wy : Addr) (xs : List V) (L : Nat) (n : Int) (ws : List Int) (gs : List S3) (r : Nat × Nat) (_ : vs = [.ref ga, .ref wy, .int n]) (_ : L <= 40) (_ : H ga = some (.lst xs)) (_ : GatAt H xs gs) (_ : (∀ g ∈ gs, GoodS L g)) (_ : gs.length <= 100) (_ : TupF H wy (ws.map V.int)) (_ : B01 ws) (_ : ws.length = L) (_ : 0 <= n) (_ : n < manyS (gs.map (lds ws))) (_ : naS gs ws n = some r) (_ : ∀ (p : Addr) (H' : Hp), Same H H' -> H' p = some (.tup [.int (r.1 : Int), .int (r.2 : Int)]) -> Q (.ref p) H') : sp_nth_alike u0 vs H Q E
inductive sp_nth_least (K : Fg) (vs : List V) (H : Hp) (Q : VK) (E : XK) : Prop
 | mk (b ga : Addr) (xs : List V) (low k : Int) (L : Nat) (gs : List S3) (r : Int × Nat × Nat) (_ : vs = [.ref b, .ref ga, .int k]) (_ : SqT K H b [.int low, .int (L : Int)]) (_ : L <= 40) (_ : H ga = some (.lst xs)) (_ : GatAt H xs gs) (_ : (∀ g ∈ gs, GoodS L g)) (_ : gs.length <= 100) (_ : 0 <= k) (_ : k < manyS gs) (_ : nlS low L gs k = some r) (_ : ∀ (p : Addr) (H' : Hp), Same H H' -> SqT K H' p [.int r.1, .int (r.2.1 : Int), .int (r.2.2 : Int)] -> Q (.ref p) H') : sp_nth_least K vs H Q E
theorem q688 (h : StrAt H v g) : GatAt H [v] [g] := (GatAt.nil H).snoc h
def muJ (n : Nat) : St -> Nat := fun σ => match σ[5]? with
 | some (some (V.int m)) => n - m.toNat
 | _ => 0
theorem q528 (g : S3) : manyS [g] = lenS g := by
 rw [q50]
 exact Int.add_zero _
theorem q689 : ∀ {gs : List S3} {n left : Int} {j : Nat} {g : S3}, gs[j]? = some g -> lenS g <= left -> pickS (gs.drop j) left = ((pickS (gs.drop (j + 1)) (left - lenS g)).1 + 1, (pickS (gs.drop (j + 1)) (left - lenS g)).2) := fun {gs n left j g} hg h => by
 obtain ⟨h1, h2⟩ := List.getElem?_eq_some_iff.mp hg
 rw [List.drop_eq_getElem_cons h1, h2]
 show (if left < lenS g then _ else _) = _
 rw [if_neg (by omega)]
theorem q475 (z : Bz K mg cA cB cC cD cE cF cG cH) : Cal P w K mg base 1 "place_of" ["marks", "mark", "number"] (sp_place_of K) := by
 have sc := q447
 refine z.d_place_of.cal fun f fd F => F.k sc fun _ _ _ s H _ Q _ hr h => ?_
 obtain ⟨t, ms, mk, num, p0, rfl, ht, hp0, q⟩ := h
 refine ⟨_, (q12 (pst 3 sc.nd (pv 2))
 (q12 (q81 PassesOwn.never rfl (q618 rfl z.enumerate_ (q10 (pv 0) q11)) (q206 rfl (q52 (pgn 4 sc.nd) (q52 (pgn 5 sc.nd) q115)))
 (q15 (ps_if (q18 op_eq (pv 5) (pv 1) (q21 _))
 (q12 (ps_if (q18 op_eq (pv 3) q13 (q21 _))
 (q15 (q19 (pv 4)))
 q20)
 (q15 (pst 3 sc.nd (pe_op q51 (pv 3) q13))))
 q20)))
 (q15 q36))), ?_⟩
 refine ⟨_, rfl, _, rfl, t, rfl, ⟨_, ht⟩, q495 (xs := ms.map V.int) (fun i σ H2 => ∃ (L : Int) (v u : Option V), σ = [some (.ref t), some (.int mk), some (.int num), some (.int L), v, u] /\ Same H H2 /\ plc mk (ms.drop i) L i = some p0)
  ⟨num, none, none, rfl, Same.refl H, hp0⟩ (fun i σ H2 _ ⟨_, _, _, _, s2, _⟩ => s2.seqT ht) ?_ ?_⟩
 ·rintro i x σ H2 p hx ⟨L, v, u, rfl, s2, hp⟩ hpn
  obtain ⟨m, gm, rfl⟩ : ∃ m, ms[i]? = some m /\ V.int m = x := by
   rw [List.getElem?_map] at hx
   cases e : ms[i]? with
   | none => rw [e] at hx; cases hx
   | some m => rw [e] at hx; exact ⟨m, rfl, Option.some.inj hx⟩
  have s3 : Same H (upd H2 p (.tup [.int (i : Nat), .int m])) := s2.trans (q16 hpn _)
  rw [q252 gm, q526] at hp
  refine ⟨p, _, rfl, SqT.of q14, rfl, _, _, rfl, _, _, rfl, rfl, ?_⟩
  refine ⟨_, rfl, _, rfl, rfl, _, rfl, ?_⟩
  refine ite2 (fun c => ?_) (fun c => ?_)
  ·have c' : m = mk := V.int.inj (of_decide_eq_true c)
   rw [if_pos c'] at hp
   refine ⟨_, rfl, rfl, _, rfl, ?_⟩
   refine ite2 (fun c2 => ?_) (fun c2 => ?_)
   ·have c2' : L = 0 := V.int.inj (of_decide_eq_true c2)
    rw [if_pos c2'] at hp
    cases hp
    exact ⟨_, rfl, q _ s3⟩
   ·have c2' : ¬ L = 0 := fun z => c2 (by rw [z]; exact decide_eq_true rfl)
    rw [if_neg c2'] at hp
    exact ⟨_, rfl, _, _, rfl, rfl, _, _, _, rfl, s3, hp⟩
  ·have c' : ¬ m = mk := fun z => c (by rw [z]; exact decide_eq_true rfl)
   rw [if_neg c'] at hp
   exact ⟨_, _, _, rfl, s3, hp⟩
 ·rintro σ H2 ⟨L, v, u, rfl, s2, hp⟩
  rw [List.length_map, List.drop_length] at hp
  cases hp
theorem q690 (z : Bz K mg cA cB cC cD cE cF cG cH) : Cal P w K mg base 43 "lifted" pn8 (q687 K) := by
 have sc := q653
 refine z.d_lifted.recur (k := q169) (sp := spe_lifted K) q421 fun e hen c_lifted f fd F => F.k sc fun _ _ _ s H _ Q _ hr h => ?_
 obtain ⟨v, wy, k, i, t, ws, rfl, ht, hw, hwl, h01, hk, hi, q⟩ := h
 refine ⟨_, (q12 (ps_if (q18 op_eq (pln z.len_ (q10 (pv 1) q11)) q13 (q21 _))
 (q12 (ps_if (PW.pt (pw_or (q18 op_lt (pv 2) q13 (q21 _)) (q80 (q18 op_ge (pv 2) (pe_fn (q74 z) (hr.mono (Nat.le_trans (by decide : 1 <= q169) (Nat.le_add_left _ _))) (by rfl) (q10 (pv 0) q11)) (q21 _)))))
 (q15 q36)
 q20)
 (q15 (q19 (pv 2))))
 q20)
 (q12 (pst 3 sc.nd (pe_fn c_lifted (hr.mono (Nat.le_refl _)) (by rfl) (q10 (pe_fn (q75 z) (hr.mono (Nat.le_trans (by decide : 1 <= q169) (Nat.le_add_left _ _))) (by rfl) (q10 (pv 0) (q10 (pix q23 (pv 1) q13) q11))) (q10 (q40 q116 (pv 1) (q47 q13) q54) (q10 (pv 2) q11)))))
 (q15 (q19 (pe_fn (q475 z) (hr.mono (Nat.le_trans (by decide : 1 <= q169) (Nat.le_add_left _ _))) (by rfl) (q10 (pix q23 (pv 0) q13) (q10 (pix q23 (pv 1) q13) (q10 (pv 3) q11)))))))), ?_⟩
 refine ⟨_, rfl, wy, _, rfl, .inr hw.sq, rfl, _, rfl, ?_⟩
 cases ws with
 | nil =>
  refine ite2 (fun _ => ?_) (fun c => absurd (decide_eq_true rfl) c)
  cases hi
  have hk' : (k : Int) < q45 t := hk
  refine ⟨_, rfl, _, _, rfl, rfl, _, rfl, ?_⟩
  refine ite2 (fun c => absurd (of_decide_eq_true c) (by omega)) (fun _ => ?_)
  refine ⟨_, rfl, _, rfl, v, _, rfl, ht, _, _, rfl, rfl, _, rfl, ?_⟩
  refine ite2 (fun c => absurd (of_decide_eq_true c) (by omega)) (fun _ => ?_)
  exact ⟨_, rfl, q H (Same.refl H)⟩
 | cons w0 ws =>
  refine ite2 (fun c => ?_) (fun _ => ?_)
  ·exfalso
   have := V.int.inj (of_decide_eq_true c)
   rw [List.length_map, List.length_cons] at this
   omega
  obtain ⟨e', rfl⟩ : ∃ e', e = e' + 1 := ⟨ws.length, by rw [<- hwl]; rfl⟩
  have hw0 : w0 = 0 \/ w0 = 1 := h01 w0 (List.mem_cons_self ..)
  have h0at : atI ((w0 :: ws).map V.int) 0 = some (.int w0) := q41 (j := 0) rfl
  obtain ⟨ms, l, r, hpt⟩ := q420 hk
  rw [q167] at hk
  rw [lif] at hi
  cases hi2 : lif ws (q44 t w0) k with
  | none => rw [hi2] at hi; cases hi
  | some i2 =>
   rw [hi2, Option.bind_some] at hi
   refine ⟨_, rfl, _, rfl, wy, _, _, _, rfl, rfl, hw.sq, h0at, v, _, w0, rfl, ht, hw0, fun u hu => ?_⟩
   refine ⟨_, rfl, 1, rfl, wy, _, rfl, hw, fun w2 H1 s1 hw2 => ⟨_, rfl, ?_⟩⟩
   rw [q334] at hw2
   refine ⟨u, w2, k, i2, _, ws, rfl, hu.same s1, hw2, by rw [List.length_cons] at hwl; omega, (fun m hm => h01 m (List.mem_cons_of_mem _ hm)), hk, hi2, fun H2 s2 => ?_⟩
   have s02 := s1.trans s2
   have ht2 := ht.same s02
   rw [hpt] at ht2 hi
   obtain ⟨a, m, x, y, rfl, ha, hm, _, _⟩ := ht2
   exact ⟨_, rfl, a, _, _, _, rfl, rfl, SqT.of ha, rfl, _, rfl, wy, _, _, _, rfl, rfl, (hw.same s02).sq, h0at, _, rfl, m, ms, w0, (i2 : Int), i, rfl, hm.sq, hi, fun H3 s3 => q H3 (s02.trans s3)⟩
theorem q422 (z : Bz K mg cA cB cC cD cE cF cG cH) : Cal P w K mg base 44 "nth_alike" ["gathering", "way", "number"] (sp_nth_alike K) := by
 have sc := q392
 refine z.d_nth_alike.cal fun f fd F => F.k sc fun _ _ _ s H _ Q _ hr h => ?_
 obtain ⟨ga, wy, xs, L, n, ws, gs, r, rfl, hL, hga, hg, hgd, hl, hwy, h01, hwl, h0, h1, hr0, q⟩ := h
 refine ⟨_, (q12 (pst 3 sc.nd (pe_fn (q185 z) hr.m (by rfl) (q10 (pv 0) (q10 (pv 1) q11))))
 (q12 (pst 4 sc.nd (pv 2))
 (q12 (pst 5 sc.nd q13)
 (q12 (q487 PassesOwn.never (q18 op_ge (pv 4) (pe_fn (q48 z) hr.m (by rfl) (q10 (q35 (q10 (pix q25 (pv 3) (pv 5)) q11)) q11)) (q21 _))
 (q12 (pst 4 sc.nd (pe_op q51 (pv 4) (pe_fn (q48 z) hr.m (by rfl) (q10 (q35 (q10 (pix q25 (pv 3) (pv 5)) q11)) q11))))
 (q15 (pst 5 sc.nd (pe_op q31 (pv 5) q13)))))
 (q15 (q19 (q27 (q10 (pv 5) (q10 (pe_fn (q690 z) hr.m (by rfl) (q10 (pix q23 (pix q25 (pv 0) (pv 5)) q13) (q10 (pv 1) (q10 (pe_op q31 (pix q23 (pix q25 (pv 3) (pv 5)) q13) (pv 4)) q11)))) q11))))))))), ?_⟩
 refine ⟨_, rfl, _, rfl, ga, wy, xs, ws, gs, rfl, SqL.of hga, hg, hl, hwy.sq, h01, fun H1 D zs s1 hD _ hg1 => ?_⟩
 refine ⟨_, rfl, ?_⟩
 refine q490 (fun σ H2 => ∃ (left : Int) (j : Nat), σ = [some (.ref ga), some (.ref wy), some (.int n), some (.ref D), some (.int left), some (.int (j : Int))] /\ Same H1 H2 /\ 0 <= left /\ left < manyS ((gs.map (lds ws)).drop j) /\ pickS (gs.map (lds ws)) n = ((pickS ((gs.map (lds ws)).drop j) left).1 + j, (pickS ((gs.map (lds ws)).drop j) left).2)) (fun σ _ => muJ gs.length σ)
  ⟨n, 0, rfl, Same.refl _, h0, h1, rfl⟩ ?_ ?_
 ·rintro σ H2 ⟨left, j, rfl, s2, l0, l1, hpk⟩
  have hj : j < gs.length := by
   apply Classical.byContradiction
   intro c
   rw [List.drop_of_length_le (by rw [List.length_map]; omega)] at l1
   have : left < 0 := l1
   omega
  have gj : gs[j]? = some gs[j] := List.getElem?_eq_getElem hj
  generalize gs[j] = g at gj
  have gj' : (gs.map (lds ws))[j]? = some (lds ws g) := by rw [List.getElem?_map, gj]; rfl
  have hjz : j < zs.length := by rw [hg1.1, List.length_map]; exact hj
  have hjx : j < xs.length := by rw [hg.1]; exact hj
  have gz := List.getElem?_eq_getElem hjz
  have gx := List.getElem?_eq_getElem hjx
  have hstr := hg1.2 j _ _ gz gj'
  obtain ⟨t', u', e1, e2, e3⟩ := id hstr
  obtain ⟨t, u, f1, f2, f3⟩ := hg.2 j _ _ gx gj
  rw [f1] at gx
  generalize zs[j] = z at *
  have hdr : (gs.map (lds ws)).drop j = lds ws g :: (gs.map (lds ws)).drop (j + 1) := by
   obtain ⟨a1, a2⟩ := List.getElem?_eq_some_iff.mp gj'
   rw [List.drop_eq_getElem_cons a1, a2]
  refine ⟨_, rfl, _, rfl, _, rfl, D, _, _, _, rfl, rfl, SqL.of (s2 _ _ hD), q41 gz, szb rfl, fun l1' hl1 => ?_⟩
  have s13 := s2.trans (q16 hl1 (.lst [z]))
  refine ⟨l1', [z], [lds ws g], rfl, SqL.of q14, q688 (hstr.tk (.same s13)), by simp, fun H4 s4 => ?_⟩
  rw [q528]
  refine ⟨_, _, rfl, rfl, _, rfl, ?_⟩
  have s14 := s13.trans s4
  refine ite2 (fun c => ?_) (fun c => ?_)
  ·have c' : lenS (lds ws g) <= left := by have := of_decide_eq_true c; omega
   refine ⟨_, rfl, _, rfl, _, rfl, D, _, _, _, rfl, rfl, SqL.of (s14 _ _ hD), q41 gz, szb rfl, fun l2 hl2 => ?_⟩
   have s15 := s14.trans (q16 hl2 (.lst [z]))
   refine ⟨l2, [z], [lds ws g], rfl, SqL.of q14, q688 (hstr.tk (.same s15)), by simp, fun H6 s6 => ?_⟩
   rw [q528]
   refine ⟨_, _, rfl, rfl, _, rfl, _, _, rfl, rfl, ⟨left - lenS (lds ws g), j + 1, rfl, s15.trans s6, by omega, ?_, ?_⟩, ?_⟩
   ·rw [hdr, q50] at l1
    omega
   ·rw [hpk, q689 (n := 0) gj' c']
    exact Prod.ext (show _ + 1 + j = _ + (j + 1) by omega) rfl
   ·show gs.length - ((j : Int) + 1).toNat < gs.length - ((j : Int)).toNat
    omega
  ·have c' : left < lenS (lds ws g) := by
    apply Classical.byContradiction
    intro z2
    exact c (decide_eq_true (by omega))
   have hp : pickS ((gs.map (lds ws)).drop j) left = (0, left) := by rw [hdr]; unfold pickS; rw [if_pos c']
   rw [hp] at hpk
   have hpk' : pickS (gs.map (lds ws)) n = (j, left) := by rw [hpk]; exact Prod.ext (Nat.zero_add _) rfl
   unfold naS at hr0
   rw [hpk', gj] at hr0
   dsimp only at hr0
   cases hlif : lif ws g.1 ((lds ws g).2.1 + left.toNat) with
   | none => rw [hlif] at hr0; cases hr0
   | some i =>
    rw [hlif] at hr0
    cases hr0
    have h4 : GoodS 0 (lds ws g) := q168 h01 (by rw [Nat.zero_add, hwl]; exact hgd g (List.mem_of_getElem? gj))
    have s04 := s1.trans s14
    refine ⟨_, rfl, _, rfl, _, rfl, ga, _, _, _, rfl, rfl, SqL.of (s04 _ _ hga), q41 gx, t, _, _, _, rfl, rfl, SqT.of (s04 _ _ f2), rfl, _, rfl, _, rfl, _, rfl, D, _, _, _, rfl, rfl, SqL.of (s14 _ _ hD), q41 gz, ?_⟩
    rw [e1]
    refine ⟨t', _, _, _, rfl, rfl, SqT.of (s14 _ _ e2), rfl, _, rfl, _, _, rfl, rfl, ?_⟩
    refine ⟨L, hL, u, wy, (lds ws g).2.1 + left.toNat, i, g.1, ws, ?_, f3.same s04, hwy.same s04, hwl, h01, ?_, hlif, fun H5 s5 => ⟨szb rfl, fun p hp => q p _ ((s04.trans s5).trans (q16 hp _)) q14⟩⟩
    ·exact congrArg (fun q : Int => [u, V.ref wy, V.int q]) (show ((lds ws g).2.1 : Int) + left = (((lds ws g).2.1 + left.toNat : Nat) : Int) by omega)
    ·rw [<- q340]
     have := h4.2.2
     unfold lenS at c'
     omega
 ·rintro σ H2 Q1 Q2 hq ⟨_, e0, _, e1, _, e2, a, us, i, v, f1, f2, f3, f4, g0, g⟩
  refine ⟨_, e0, _, e1, _, e2, a, us, i, v, f1, f2, f3, f4, g0, fun p hp => ?_⟩
  obtain ⟨ga', xs', gs', h1, h2, h3, h4, h5⟩ := g p hp
  refine ⟨ga', xs', gs', h1, h2, h3, h4, fun H' s' => ?_⟩
  obtain ⟨i', j', w1, w2, k, w3, w4⟩ := h5 H' s'
  exact ⟨i', j', w1, w2, k, w3, hq _ _ w4⟩
theorem q188 (z : Bz K mg cA cB cC cD cE cF cG cH) : Cal P w K mg base 45 "nth_least" pn5 (sp_nth_least K) := by
 have sc := q391
 refine z.d_nth_least.cal fun f fd F => F.k sc fun _ _ _ s H _ Q _ hr h => ?_
 obtain ⟨b, ga, xs, low, k, L, gs, r, rfl, hb, hL, hga, hg, hgd, hl, h0, h1, hr0, q⟩ := h
 refine ⟨_, (q12 (ps_if (PW.pt (pw_or (q18 op_lt (pv 2) q13 (q21 _)) (q80 (q18 op_ge (pv 2) (pe_fn (q48 z) hr.m (by rfl) (q10 (pv 1) q11)) (q21 _)))))
 (q15 q36)
 q20)
 (q12 (pst 3 sc.nd (pe_fn (q166 z) hr.m (by rfl) (q10 (pix q23 (pv 0) q13) (q10 (pv 1) (q10 (pv 2) q11)))))
 (q12 (pst 4 sc.nd (pe_op q51 (pv 2) (pe_fn (q140 z) hr.m (by rfl) (q10 (pv 1) (q10 (pv 3) q11)))))
 (q15 (q19 (pe_op q611 (q27 (q10 (pix q23 (pe_fn (q301 z) hr.m (by rfl) (q10 (pv 0) (q10 (pv 3) q11))) q13) q11)) (pe_fn (q422 z) hr.m (by rfl) (q10 (pv 1) (q10 (pv 3) (q10 (pv 4) q11)))))))))), ?_⟩
 obtain ⟨c1, c2⟩ := q527 hgd h0 h1
 refine ⟨_, rfl, _, _, rfl, rfl, _, rfl, ?_⟩
 refine ite2 (fun c => absurd (of_decide_eq_true c) (by omega)) (fun _ => ?_)
 refine ⟨_, rfl, _, rfl, ga, xs, gs, rfl, SqL.of hga, hg, hl, fun H1 s1 => ?_⟩
 refine ⟨_, _, rfl, rfl, _, rfl, ?_⟩
 refine ite2 (fun c => absurd (of_decide_eq_true c) (by omega)) (fun _ => ?_)
 refine ⟨_, rfl, b, _, _, _, rfl, rfl, s1.seqT hb, rfl, _, rfl, _, rfl, ga, xs, L, k, gs, rfl, hL, s1 _ _ hga, hg.same s1, hl, fun t H2 s2 ht => ?_⟩
 have s02 := s1.trans s2
 refine ⟨_, rfl, _, rfl, _, rfl, ga, t, xs, _, gs, rfl, SqL.of (s02 _ _ hga), hg.same s02, hl, ht.sq, wn01 L gs k, fun H3 s3 => ⟨_, _, rfl, rfl, ?_⟩⟩
 have s03 := s02.trans s3
 refine ⟨_, rfl, _, rfl, b, t, low, L, _, rfl, s03.seqT hb, hL, (ht.same s3).sq, fun p hp => ?_⟩
 have s4 : ∀ o, Same H3 (upd H3 p o) := fun o => q16 hp o
 refine ⟨p, _, _, _, rfl, rfl, SqT.of q14, rfl, szb rfl, fun p1 hp1 => ?_⟩
 have hp5 := hp1
 unfold nlS at hr0
 cases hna : naS gs (wnS L gs k) (k - mlS (wnS L gs k) gs) with
 | none => rw [hna] at hr0; cases hr0
 | some r0 =>
  rw [hna] at hr0
  cases hr0
  have s5 := q16 hp1 (.tup [V.int (spanS low L (wnS L gs k)).1])
  have s05 := (s03.trans (s4 _)).trans s5
  refine ⟨_, rfl, _, rfl, _, rfl, ga, t, xs, L, _, wnS L gs k, gs, r0, rfl, hL, s05 _ _ hga, hg.same s05, hgd, hl, ((ht.same s3).same (s4 _)).same s5, wn01 L gs k, q253 L gs k, c1, c2, hna, fun p2 H6 s6 hp2 => ?_⟩
  refine ⟨p1, p2, _, _, rfl, rfl, SqT.of (s6 _ _ q14), SqT.of hp2, szb rfl, fun p3 H7 s7 h3 _ => ?_⟩
  exact q p3 H7 ((s05.trans s6).trans s7) h3
theorem slF {n : Nat} (h : n <= 100000) : n <= sizeLine := Nat.le_trans h (by decide)
def crS (p : Int × Int) (m : Int) : Int × Int := if m = 1 then (p.1 + 1, p.2) else (p.1, p.2 + p.1)
theorem cr_no : ∀ (l : List Int) (p : Int × Int), 0 <= p.1 -> 0 <= p.2 -> 0 <= (l.foldl crS p).2
 | [], p, _, h => h
 | m :: l, p, h0, h1 => by
  rw [List.foldl_cons]
  unfold crS
  by_cases c : m = 1
  ·rw [if_pos c]; exact cr_no l _ (by show 0 <= p.1 + 1; omega) h1
  ·rw [if_neg c]; exact cr_no l _ h0 (by show 0 <= p.2 + p.1; omega)
def crV (ms : List Int) (a b : Nat) : Int := ((segI ms a b).foldl crS (0, 0)).2
def flS : Nat -> S3 -> Int
 | 0, _ => 0
 | e + 1, g => if lenS g < 2 then 0 else crV (trMs g.1) g.2.1 g.2.2 + (flS e (ld1 0 g) + flS e (ld1 1 g))
theorem seg_get {ms : List Int} {a b i : Nat} (h : i < b - a) (hb : b <= ms.length) : ∃ m, (segI ms a b)[i]? = some m /\ ms[a + i]? = some m := by
 have h1 : a + i < ms.length := by omega
 refine ⟨ms[a + i], ?_, List.getElem?_eq_getElem h1⟩
 unfold segI
 rw [List.getElem?_drop, List.getElem?_take_of_lt (by omega)]
 exact List.getElem?_eq_getElem h1
theorem at_nat {ms : List Int} {a i : Nat} {m : Int} (h : ms[a + i]? = some m) : atI (ms.map V.int) ((a : Int) + (i : Int)) = some (.int m) := by
 have e : (a : Int) + (i : Int) = ((a + i : Nat) : Int) := by omega
 rw [e]
 exact q41 (by rw [List.getElem?_map, h] <;> rfl)
def FwAt (H : Hp) (xs : List V) (ms : List Int) : Prop := xs.length = ms.length /\ ∀ (j : Nat) (x : V) (m : Int), xs[j]? = some x -> ms[j]? = some m -> ∃ a w, x = .ref a /\ H a = some (.tup [w, .int m])
theorem FwAt.tk (h : FwAt H xs ms) (k : TKeep H H') : FwAt H' xs ms := ⟨h.1, fun j x m h1 h2 => by
 obtain ⟨a, w, e, h3⟩ := h.2 j x m h1 h2
 exact ⟨a, w, e, (k _ _).1 h3⟩⟩
theorem FwAt.app (h : FwAt H xs ms) (h' : FwAt H ys ns) : FwAt H (xs ++ ys) (ms ++ ns) := by
 refine ⟨by rw [List.length_append, List.length_append, h.1, h'.1], fun j x p h1 h2 => ?_⟩
 have hl := h.1
 by_cases c : j < xs.length
 ·rw [List.getElem?_append_left c] at h1
  rw [List.getElem?_append_left (by omega)] at h2
  exact h.2 j x p h1 h2
 ·rw [List.getElem?_append_right (by omega)] at h1
  rw [List.getElem?_append_right (by omega), <- hl] at h2
  exact h'.2 _ x p h1 h2
inductive sp_crossed (K : Fg) (vs : List V) (H : Hp) (Q : VK) (E : XK) : Prop
 | mk (t : Addr) (ms : List Int) (a b : Nat) (_ : vs = [.ref t, .int (a : Int), .int (b : Int)]) (_ : SqT K H t (ms.map V.int)) (_ : a <= b) (_ : b <= ms.length) (_ : ms.length <= 1000) (_ : Q (.int (crV ms a b)) H) : sp_crossed K vs H Q E
abbrev q109 : Nat := 2
abbrev q170 : Nat := 40
inductive spe_falls_from (K : Fg) (e : Nat) (vs : List V) (H : Hp) (Q : VK) (E : XK) : Prop
 | mk (v : V) (wy : Addr) (g : S3) (ws : List Int) (_ : vs = [v, .ref wy]) (_ : StrAt H v g) (_ : GoodS e g) (_ : q45 g.1 <= 400) (_ : SqT K H wy (ws.map V.int)) (_ : ws.length <= 100 - e) (_ : e <= 40) (_ : ∀ (D : Addr) (zs : List V) (ms : List Int) (H' : Hp), Same H H' -> H D = none -> H' D = some (.lst zs) -> FwAt H' zs ms -> ms.sum = flS e g -> (zs.length : Int) <= (e : Int) * lenS g -> Q (.ref D) H') : spe_falls_from K e vs H Q E
def q342 (K : Fg) : Sp := fun vs H Q E => ∃ e, e <= q170 /\ spe_falls_from K e vs H Q E
inductive sp_falls_by_ways (u0 : Fg) (vs : List V) (H : Hp) (Q : VK) (E : XK) : Prop
 | mk (v : V) (L : Nat) (g : S3) (_ : vs = [v]) (_ : StrAt H v g) (_ : GoodS L g) (_ : q45 g.1 <= 400) (_ : L <= 40) (_ : ∀ (D : Addr) (zs : List V) (ms : List Int) (H' : Hp), Same H H' -> H D = none -> H' D = some (.lst zs) -> FwAt H' zs ms -> ms.sum = flS L g -> zs.length <= 20000 -> Q (.ref D) H') : sp_falls_by_ways u0 vs H Q E
inductive sp_falls (u0 : Fg) (vs : List V) (H : Hp) (Q : VK) (E : XK) : Prop
 | mk (v : V) (L : Nat) (g : S3) (_ : vs = [v]) (_ : StrAt H v g) (_ : GoodS L g) (_ : q45 g.1 <= 400) (_ : L <= 40) (_ : ∀ H', Same H H' -> Q (.int (flS L g)) H') : sp_falls u0 vs H Q E
theorem q343 {e : Nat} {g : S3} {m : Int} (hm : m = 0 \/ m = 1) (h : GoodS (e + 1) g) : q45 (ld1 m g).1 <= q45 g.1 := by
 obtain ⟨t, s, k⟩ := g
 rw [q686]
 cases t with
 | non => exact Int.le_refl _
 | many n => exact h.1.elim
 | part ms l r =>
  obtain ⟨b, h0, h1, _, _⟩ := h.1
  have := cnt01 b
  show q45 (q44 (.part ms l r) m) <= (ms.length : Int)
  rcases hm with rfl | rfl
  ·show q45 l <= _; omega
  ·show q45 r <= _; omega
theorem q580 (z : Bz K mg cA cB cC cD cE cF cG cH) : Cal P w K mg base 1 "crossed" ["marks", "start", "end"] (sp_crossed K) := by
 have sc := q558
 refine z.d_crossed.cal fun f fd F => F.k sc fun _ _ _ s H _ Q _ hr h => ?_
 obtain ⟨t, ms, a, b, rfl, ht, hab, hb, hl, q⟩ := h
 refine ⟨_, (q12 (pst 3 sc.nd q13)
 (q12 (pst 4 sc.nd q13)
 (q12 (q81 PassesOwn.never rfl (q590 rfl z.range_ (q10 (q76 (q358 rfl) (by rfl) z.max_ bt_max (q10 (pv 1) (q10 q13 q11))) (q10 (q76 (q598 rfl) (by rfl) z.min_ bt_min (q10 (pv 2) (q10 (pln z.len_ (q10 (pv 0) q11)) q11))) q11))) (pgn 5 sc.nd)
 (q15 (ps_if (q18 op_eq (pix q23 (pv 0) (pv 5)) q13 (q21 _))
 (q15 (pst 3 sc.nd (pe_op q31 (pv 3) q13)))
 (q15 (pst 4 sc.nd (pe_op q31 (pv 4) (pv 3)))))))
 (q15 (q19 (pv 4)))))), ?_⟩
 have e1 : (if (0 : Int) > (a : Int) then (0 : Int) else (a : Int)) = (a : Int) := if_neg (by omega)
 have e2 : (if (((ms.map V.int).length : Nat) : Int) < (b : Int) then (((ms.map V.int).length : Nat) : Int) else (b : Int)) = (b : Int) := if_neg (by rw [List.length_map]; omega)
 have hs := q335 (st := a) hb
 refine ⟨_, rfl, _, _, rfl, _, rfl, _, rfl, t, _, rfl, .inr ht, _, _, rfl, (a : Int), (b : Int), by rw [e1, e2], ⟨by omega, by omega, by omega, by omega⟩,
  q87 (fun i σ H2 => ∃ v : Option V, σ = [some (.ref t), some (.int (a : Int)), some (.int (b : Int)), some (.int (((segI ms a b).take i).foldl crS (0, 0)).1), some (.int (((segI ms a b).take i).foldl crS (0, 0)).2), v] /\ H2 = H) ⟨none, rfl, rfl⟩ ?_ ?_⟩
 ·rintro i σ H2 hi ⟨v, rfl, rfl⟩
  obtain ⟨m, g1, g2⟩ := seg_get (a := a) (b := b) (i := i) (by omega) hb
  refine ⟨_, rfl, _, rfl, t, _, _, _, rfl, rfl, ht, at_nat g2, rfl, _, rfl, ?_⟩
  refine ite2 (fun c => ?_) (fun c => ?_)
  ·have c' : m = 1 := V.int.inj (of_decide_eq_true c)
   refine ⟨_, rfl, _, _, rfl, rfl, some (.int ((a : Int) + (i : Int))), ?_, rfl⟩
   rw [q165 g1]
   unfold crS
   rw [if_pos c']
   rfl
  ·have c' : ¬ m = 1 := fun z => c (by rw [z]; exact decide_eq_true rfl)
   refine ⟨_, rfl, _, rfl, _, _, rfl, rfl, some (.int ((a : Int) + (i : Int))), ?_, rfl⟩
   rw [q165 g1]
   unfold crS
   rw [if_neg c']
   rfl
 ·rintro σ H2 ⟨v, rfl, rfl⟩
  refine ⟨_, rfl, ?_⟩
  have e : (segI ms a b).take ((b : Int) - (a : Int)).toNat = segI ms a b := List.take_of_length_le (by omega)
  rw [e]
  exact q
theorem q344 (z : Bz K mg cA cB cC cD cE cF cG cH) : Cal P w K mg base 43 "falls_from" pn19 (q342 K) := by
 have sc := q322
 refine z.d_falls_from.recur (k := q109) (sp := spe_falls_from K) q170 fun e hen c_falls_from f fd F => F.k sc fun _ _ _ s H _ Q _ hr h => ?_
 obtain ⟨v, wy, g, ws, rfl, hst, hgd, hsz, hwy, hwl, he40, q⟩ := h
 obtain ⟨sa, u, rfl, hs, hu⟩ := id hst
 refine ⟨_, (q12 (ps_if (PW.pt (pw_or (q18 op_lt (pe_op q51 (pix q23 (pv 0) q13) (pix q23 (pv 0) q13)) q13 (q21 _)) (q80 (q18 op_eq (pix q23 (pix q23 (pv 0) q13) q13) q22 (q21 _)))))
 (q15 (q19 (q35 q11)))
 q20)
 (q12 (pst 2 sc.nd (pe_fn (q580 z) (hr.mono (Nat.le_trans (by decide : 1 <= q109) (Nat.le_add_left _ _))) (by rfl) (q10 (pix q23 (pix q23 (pv 0) q13) q13) (q10 (pix q23 (pv 0) q13) (q10 (pix q23 (pv 0) q13) q11)))))
 (q12 (q318 (pst 3 sc.nd (q93 (q18 op_gt (pv 2) q13 (q21 _)) (q35 (q10 (q27 (q10 (pv 1) (q10 (pv 2) q11))) q11)) (q35 q11))))
 (q12 (q81 PassesOwn.never rfl (q274 (q27 (q10 q13 (q10 q13 q11)))) (pgn 4 sc.nd)
 (q15 (q73 (pe_bm PySem.F.plainAttrs_list PySem.F.slot_list_extend PySem.F.type_list_extend q607 (pv 3) (q10 (pe_fn c_falls_from (hr.mono (Nat.le_refl _)) (by rfl) (q10 (pe_fn (q77 z) (hr.mono (Nat.le_trans (by decide : 2 <= q109) (Nat.le_add_left _ _))) (by rfl) (q10 (pv 0) (q10 (q27 (q10 (pv 4) q11)) q11))) (q10 (pe_op q611 (pv 1) (q27 (q10 (pv 4) q11))) q11))) q11)))))
 (q15 (q19 (pv 3))))))), ?_⟩
 have hs' : SqT K H sa [u, .int (g.2.1 : Int), .int (g.2.2 : Int)] := SqT.of hs
 have hl0 := q187 hgd
 refine ⟨_, rfl, sa, _, _, _, rfl, rfl, hs', rfl, _, rfl, sa, _, _, _, rfl, rfl, hs', rfl, _, _, rfl, rfl, _, _, rfl, rfl, _, rfl, ?_⟩
 have ev : ∀ D, H D = none -> flS e g = 0 -> Q (.ref D) (upd H D (.lst [])) := fun D hD z => q D [] [] _ (q16 hD _) hD q14 ⟨rfl, fun j x m h1 _ => by cases h1⟩ z.symm (Int.mul_nonneg (by omega) hl0)
 refine ite2 (fun c => ?_) (fun c => ?_)
 ·have c' : lenS g < 2 := of_decide_eq_true c
  refine ⟨szb rfl, fun D hD => ev D hD ?_⟩
  cases e with
  | zero => rfl
  | succ e => rw [flS, if_pos c']
 have c' : ¬ lenS g < 2 := fun z => c (decide_eq_true z)
 obtain ⟨tg, ts, tk⟩ := g
 have hk : (tk : Int) <= q45 tg := hgd.2.2
 have hsk : ts <= tk := hgd.2.1
 have hlen : lenS (tg, ts, tk) = (tk : Int) - (ts : Int) := rfl
 cases e with
 | zero =>
  cases tg with
  | non => exact absurd (show (tk : Int) <= 0 from hk) (by omega)
  | part ms l r => exact hgd.1.elim
  | many n =>
   obtain ⟨a, rfl, ha⟩ := hu
   refine ⟨_, rfl, sa, _, _, _, rfl, rfl, hs', rfl, a, _, _, _, rfl, rfl, SqT.of ha, rfl, rfl, _, rfl, ?_⟩
   refine ite2 (fun _ => ?_) (fun d => absurd (decide_eq_true rfl) d)
   exact ⟨szb rfl, fun D hD => ev D hD rfl⟩
 | succ e =>
  cases tg with
  | non => exact absurd (show (tk : Int) <= 0 from hk) (by omega)
  | many n => exact hgd.1.elim
  | part ms l r =>
   obtain ⟨a, m, xl, xr, rfl, ha, hm, _, _⟩ := id hu
   have hml : (ms.length : Int) <= 400 := hsz
   have hk' : (tk : Int) <= (ms.length : Int) := hk
   refine ⟨_, rfl, sa, _, _, _, rfl, rfl, hs', rfl, a, _, _, _, rfl, rfl, SqT.of ha, rfl, rfl, _, rfl, ?_⟩
   refine ite2 (fun d => absurd (of_decide_eq_true d) (by decide)) (fun _ => ?_)
   refine ⟨_, rfl, sa, _, _, _, rfl, rfl, hs', rfl, a, _, _, _, rfl, rfl, SqT.of ha, rfl, _, rfl, sa, _, _, _, rfl, rfl, hs', rfl, _, rfl, sa, _, _, _, rfl, rfl, hs', rfl, m, ms, ts, tk, rfl, hm.sq, hsk, by omega, by omega, ?_⟩
   have hc0 : 0 <= crV ms ts tk := cr_no _ _ (Int.le_refl _) (Int.le_refl _)
   have hfl : flS (e + 1) (.part ms l r, ts, tk) = crV ms ts tk + (flS e (ld1 0 (.part ms l r, ts, tk)) + flS e (ld1 1 (.part ms l r, ts, tk))) := by rw [flS, if_neg c']; rfl
   have hsum := q474 hgd
   have hl1 := q187 (q78 (.inl rfl) hgd)
   have hl2 := q187 (q78 (.inr rfl) hgd)
   generalize crV ms ts tk = due at *
   have em0 : (e : Int) * lenS (ld1 0 (.part ms l r, ts, tk)) + (e : Int) * lenS (ld1 1 (.part ms l r, ts, tk)) = (e : Int) * lenS (.part ms l r, ts, tk) := by rw [<- Int.mul_add, hsum]
   have em1 : ((e + 1 : Nat) : Int) * lenS (.part ms l r, ts, tk) = (e : Int) * lenS (.part ms l r, ts, tk) + lenS (.part ms l r, ts, tk) := by
    rw [show ((e + 1 : Nat) : Int) = (e : Int) + 1 by omega, Int.add_mul, Int.one_mul]
   have em2 : (e : Int) * lenS (.part ms l r, ts, tk) <= 40 * 400 := Int.mul_le_mul (by omega) (by omega) (by omega) (by decide)
   have n0 : 0 <= (e : Int) * lenS (ld1 0 (.part ms l r, ts, tk)) := Int.mul_nonneg (by omega) hl1
   have n1 : 0 <= (e : Int) * lenS (ld1 1 (.part ms l r, ts, tk)) := Int.mul_nonneg (by omega) hl2
   refine ⟨fun σ G => ∃ (D : Addr) (zs : List V) (fs : List Int), σ = [some (.ref sa), some (.ref wy), some (.int due), some (.ref D), none] /\ Same H G /\ H D = none /\ G D = some (.lst zs) /\ FwAt G zs fs /\ fs.sum = due /\ zs.length <= 1, ?_, ?_⟩
   ·refine ⟨_, rfl, _, _, rfl, rfl, _, rfl, ?_⟩
    refine ite2 (fun _ => ?_) (fun d => ?_)
    ·refine ⟨_, rfl, _, rfl, szb rfl, fun p hp => ⟨szb rfl, fun D hD => ?_⟩⟩
     have s1 := q16 hp (.tup [V.ref wy, .int due])
     refine ⟨D, _, [due], rfl, s1.trans (q16 hD _), s1.free hD, q14, ⟨rfl, fun j x m h1 h2 => ?_⟩, by simp, Nat.le_refl _⟩
     match j, h1, h2 with
     | 0, h1, h2 => cases h1; cases h2; exact ⟨p, _, rfl, q16 hD _ _ _ q14⟩
    ·have d0 : due = 0 := by
      apply Classical.byContradiction
      intro z
      exact d (decide_eq_true (by omega))
     exact ⟨szb rfl, fun D hD => ⟨D, [], [], rfl, q16 hD _, hD, q14, ⟨rfl, fun j x m h1 _ => by cases h1⟩, d0.symm, Nat.zero_le _⟩⟩
   ·rintro σ H1 ⟨D, zs, fs, rfl, s1, hD0, hD1, hA1, hms, hz1⟩
    refine ⟨szb rfl, fun tp htp => ?_⟩
    have s2 := q16 htp (.tup [V.int 0, .int 1])
    have e2 := @q14 H1 tp (.tup [V.int 0, .int 1])
    have hD2 := s2 _ _ hD1
    have hA2 := hA1.tk (.same s2)
    have s02 := s1.trans s2
    have htpD : tp ≠ D := fun z => by rw [z, hD1] at htp; cases htp
    generalize upd H1 tp (.tup [V.int 0, .int 1]) = H2 at *
    refine ⟨tp, rfl, ⟨_, SqT.of e2⟩, q307 (K := K) (a := tp) (xs := [V.int 0, .int 1]) (fun i σ G => ∃ (zs : List V) (fs : List Int) (w4 : Option V), σ = [some (.ref sa), some (.ref wy), some (.int due), some (.ref D), w4] /\ Same H G /\ G tp = some (.tup [V.int 0, .int 1]) /\ G D = some (.lst zs) /\ FwAt G zs fs /\ fs.sum = due + (([flS e (ld1 0 (.part ms l r, ts, tk)), flS e (ld1 1 (.part ms l r, ts, tk))].take i).sum) /\ (zs.length : Int) <= 1 + (([(e : Int) * lenS (ld1 0 (.part ms l r, ts, tk)), (e : Int) * lenS (ld1 1 (.part ms l r, ts, tk))].take i).sum))
     ⟨zs, fs, _, rfl, s02, e2, hD2, hA2, by simpa using hms, by simp; omega⟩ (fun i σ G _ ⟨_, _, _, _, _, e, _⟩ => SqT.of e) ?_ ?_⟩
    ·rintro i x σ G hi ⟨zs, fs, w4, rfl, sG, etp, hDG, hAG, hmG, hzG⟩
     obtain ⟨mk, rfl, hmk, hst5, hst6⟩ : ∃ mk : Int, x = .int mk /\ (mk = 0 \/ mk = 1) /\ (([flS e (ld1 0 (.part ms l r, ts, tk)), flS e (ld1 1 (.part ms l r, ts, tk))].take (i + 1)).sum = ([flS e (ld1 0 (.part ms l r, ts, tk)), flS e (ld1 1 (.part ms l r, ts, tk))].take i).sum + flS e (ld1 mk (.part ms l r, ts, tk))) /\
       (([(e : Int) * lenS (ld1 0 (.part ms l r, ts, tk)), (e : Int) * lenS (ld1 1 (.part ms l r, ts, tk))].take (i + 1)).sum = ([(e : Int) * lenS (ld1 0 (.part ms l r, ts, tk)), (e : Int) * lenS (ld1 1 (.part ms l r, ts, tk))].take i).sum + (e : Int) * lenS (ld1 mk (.part ms l r, ts, tk))) := by
      match i, hi with
      | 0, hi => cases hi; exact ⟨0, rfl, .inl rfl, by simp, by simp⟩
      | 1, hi => cases hi; exact ⟨1, rfl, .inr rfl, by simp, by simp⟩
     refine ⟨_, rfl, .inl ⟨rfl, _, SqL.of hDG⟩, _, rfl, _, rfl, szb rfl, fun w0 hw0 => ?_⟩
     have sG1 := sG.trans (q16 hw0 (.tup [.int mk]))
     refine ⟨.ref sa, w0, [mk], (.part ms l r, ts, tk), rfl, hst.tk (.same sG1), SqT.of q14, b01_of hmk, fun G2 v2 t2 hv2 => ?_⟩
     have sG2 := sG1.trans t2
     refine ⟨_, rfl, _, rfl, szb rfl, fun w3 hw3 => ?_⟩
     have t3 := q16 hw3 (.tup [.int mk])
     have sG3 := sG2.trans t3
     refine ⟨wy, w3, _, _, rfl, rfl, sG3.seqT hwy, SqT.of q14, sz (by simp; omega), fun wz G4 t4 hwz _ => ?_⟩
     have hwz' : SqT K G4 wz ((ws ++ [mk]).map V.int) := by rw [List.map_append]; exact hwz
     refine ⟨v2, wz, _, ws ++ [mk], rfl, hv2.tk (.same (t3.trans t4)), q78 hmk hgd, Int.le_trans (q343 hmk hgd) hsz, hwz', by rw [List.length_append]; show ws.length + 1 <= _; omega, by omega, fun D5 z5 m5 H5 t5 hD5n hD5 hA5 hm5 hz5 => ?_⟩
     have hz5' : (z5.length : Int) <= (e : Int) * lenS (ld1 mk (.part ms l r, ts, tk)) := hz5
     have t14 : Same G G4 := ((q16 hw0 (.tup [.int mk])).trans t2).trans (t3.trans t4)
     have t15 := t14.trans t5
     have hDH5 := t15 _ _ hDG
     have hzz : (zs.length : Int) + z5.length <= 40000 := by
      match i, hi with
      | 0, hi =>
       have : (zs.length : Int) <= 1 + 0 := hzG
       rcases hmk with rfl | rfl <;> omega
      | 1, hi =>
       have : (zs.length : Int) <= 1 + ((e : Int) * lenS (ld1 0 (.part ms l r, ts, tk)) + 0) := hzG
       rcases hmk with rfl | rfl <;> omega
     refine ⟨D, D5, zs, z5, rfl, rfl, hDH5, hD5, slF (by omega), ?_⟩
     have tkD : TKeep H5 (upd H5 D (.lst (zs ++ z5))) := TKeep.set hDH5
     refine ⟨zs ++ z5, fs ++ m5, _, rfl, Same.own (sG.trans t15) hD0, by rw [q34 htpD]; exact t15 _ _ etp, q14, ((hAG.tk (.same t15)).tk tkD).app (hA5.tk tkD), ?_, ?_⟩
     ·rw [List.sum_append, hmG, hm5, hst5, q251]
      omega
     ·rw [List.length_append, hst6]
      omega
    ·rintro σ G ⟨zs, fs, w4, rfl, sG, etp, hDG, hAG, hmG, hzG⟩
     refine ⟨_, rfl, q D zs fs G sG hD0 hDG hAG ?_ ?_⟩
     ·rw [hmG, hfl]
      show due + (_ + (_ + 0)) = _
      omega
     ·have : (zs.length : Int) <= 1 + ((e : Int) * lenS (ld1 0 (.part ms l r, ts, tk)) + ((e : Int) * lenS (ld1 1 (.part ms l r, ts, tk)) + 0)) := hzG
      omega
theorem q194 (z : Bz K mg cA cB cC cD cE cF cG cH) : Cal P w K mg base 44 "falls_by_ways" ["stretch"] (sp_falls_by_ways K) := by
 have sc := q191
 refine z.d_falls_by_ways.cal fun f fd F => F.k sc fun _ _ _ s H _ Q _ hr h => ?_
 obtain ⟨v, L, g, rfl, hst, hgd, hsz, hL, q⟩ := h
 refine ⟨_, (q15 (q19 (pe_fn (q344 z) hr.m (by rfl) (q10 (pv 0) (q10 (q27 q11) q11))))), ?_⟩
 refine ⟨_, rfl, szb rfl, fun wy hwy => ?_⟩
 have s1 := q16 hwy (.tup [])
 have hb : lenS g <= 400 := by have := hgd.2.2; unfold lenS; omega
 have hb2 := Int.mul_le_mul (show (L : Int) <= 40 by omega) hb (q187 hgd) (by decide)
 exact ⟨L, hL, v, wy, g, [], rfl, hst.tk (.same s1), hgd, hsz, SqT.of q14, by show 0 <= _; omega, hL, fun D zs ms H' s' hD hD' hA hs hz => q D zs ms H' (s1.trans s') (s1.free hD) hD' hA hs (by omega)⟩
theorem q529 (z : Bz K mg cA cB cC cD cE cF cG cH) : Cal P w K mg base 45 "falls" ["stretch"] (sp_falls K) := by
 have sc := sc_falls
 refine z.d_falls.cal fun f fd F => F.k sc fun _ _ _ s H _ Q _ hr h => ?_
 obtain ⟨v, L, g, rfl, hst, hgd, hsz, hL, q⟩ := h
 refine ⟨_, (q15 (q19 (q76 (q372 rfl) (by rfl) z.sum_ bt_sum (q10 (q499 (x := "way") (cl := []) (cn := []) (TN := ["many"]) (N := []) (fr := []) (sc0 := q17 q445) rfl (q46 (pe_fn (q194 z) hr.m (by rfl) (q10 (pv 0) q11))) (fun C s₂ H₂ fp => (pv 1)) (fun C s₂ H₂ fp => q439) (fun C s₂ H₂ fp => (q621 (K := K) (n := 2) rfl rfl (q52 (q143 (i := 0) (show (["way", "many"] : List Str).Nodup by decide +kernel) rfl (Or.inl rfl)) (q52 (q143 (i := 1) (show (["way", "many"] : List Str).Nodup by decide +kernel) rfl (Or.inl rfl)) q115)))) (by with_unfolding_all rfl) trivial rfl rfl rfl ⟨by decide +kernel, by decide +kernel, by decide +kernel, by decide +kernel⟩ rfl) q11)))), ?_⟩
 refine ⟨_, rfl, v, L, g, rfl, hst, hgd, hsz, hL, fun D zs ms H1 s1 hD0 hD hA hm hz => ?_⟩
 refine ⟨D, rfl, ⟨_, SqL.of hD⟩, fun D2 hD2 => ?_⟩
 have hAl := hA.1
 refine q552 (xs := zs) (slF (by omega)) (fun i vs' H3 => vs' = (ms.take i).map V.int /\ i <= ms.length /\ H3 = upd H1 D2 (.lst vs')) ⟨by simp, Nat.zero_le _, rfl⟩ (fun i vs' H3 ⟨_, _, e⟩ => by rw [e]; exact SqL.of (q16 hD2 _ _ _ hD))
  (fun i vs' H3 ⟨e1, e2, e3⟩ => ⟨by rw [e3]; exact q14, by rw [e1, List.length_map, List.length_take]; omega⟩) ?_ ?_
 ·rintro j x vs' H3 hx ⟨e1, e2, rfl⟩ vs3 hvs3
  have hj := (List.getElem?_eq_some_iff.mp hx).1
  have gm : ms[j]? = some (ms[j]'(by omega)) := List.getElem?_eq_getElem _
  obtain ⟨a, w, rfl, ha⟩ := hA.2 j x _ hx gm
  have ha' := q16 hD2 (.lst vs') _ _ ha
  match vs3, hvs3 with
  | [x0, x1], _ =>
   refine ⟨a, _, rfl, SqT.of ha', rfl, _, _, rfl, _, _, rfl, rfl, ⟨[_, _], rfl, rfl⟩, iteT ⟨_, rfl, q14, ?_, by omega, by rw [q114]⟩⟩
   rw [List.take_add_one, gm, List.map_append, <- e1]
   rfl
 ·rintro vs' H3 ⟨e1, e2, rfl⟩
  rw [hA.1, List.take_length] at e1
  refine ⟨D2, ms, rfl, SqL.of (by rw [q14, e1]), ?_⟩
  rw [hm]
  exact q _ (s1.trans (q16 hD2 _))
structure Mks (C : Addr) (H : Hp) (x ka b : Addr) (low : Int) (L : Nat) (rs cs : LL) : Prop where
 o : ∃ dx, H x = some (.ins C dx [("bounds", .ref b), ("kept", .ref ka)])
 hb : H b = some (.tup [.int low, .int (L : Int)])
 hL : L <= 40
 len : cs.length = rs.length
 few : rs.length <= 100
 hk : ∃ es : List V, H ka = some (.lst es) /\ es.length = rs.length /\ ∀ (j : Nat) (r c : List Int), rs[j]? = some r -> cs[j]? = some c ->
  ∃ (p a : Addr) (v : V), es[j]? = some (.ref p) /\ H p = some (.tup [v, .ref a]) /\ q29 H v (grow low L r) /\ H a = some (.tup (c.map V.int))
 ok : ∀ r ∈ rs, Wths low L r /\ r.length <= 200
theorem Mks.keep {low : Int} {L : Nat} (M : Mks C H x ka b low L rs cs) (k : Keep p H H') (e : H p = some (.lst ys)) (n : ka ≠ p) : Mks C H' x ka b low L rs cs := by
 obtain ⟨dx, hx⟩ := M.o
 obtain ⟨es, h1, h2, h3⟩ := M.hk
 have tk : TKeep H H' := .keep k e
 refine ⟨⟨dx, k _ _ (ne_of hx e (by intro z; cases z)) hx⟩, (tk _ _).1 M.hb, M.hL, M.len, M.few, ⟨es, k _ _ n h1, h2, fun j r c hr hc => ?_⟩, M.ok⟩
 obtain ⟨p', a, v, e1, e2, e3, e4⟩ := h3 j r c hr hc
 exact ⟨p', a, v, e1, (tk _ _).1 e2, e3.tk tk, (tk _ _).1 e4⟩
theorem Mks.same {low : Int} {L : Nat} (M : Mks C H x ka b low L rs cs) (s : Same H H') : Mks C H' x ka b low L rs cs := by
 obtain ⟨dx, hx⟩ := M.o
 obtain ⟨es, h1, h2, h3⟩ := M.hk
 have tk : TKeep H H' := .same s
 refine ⟨⟨dx, s _ _ hx⟩, s _ _ M.hb, M.hL, M.len, M.few, ⟨es, s _ _ h1, h2, fun j r c hr hc => ?_⟩, M.ok⟩
 obtain ⟨p', a, v, e1, e2, e3, e4⟩ := h3 j r c hr hc
 exact ⟨p', a, v, e1, s _ _ e2, e3.tk tk, s _ _ e4⟩
theorem Mks.snoc {low : Int} {L : Nat} {rs : LL} {r c : List Int} (M : Mks C H x ka b low L rs cs) (hes : H ka = some (.lst es)) (k : Keep ka H H') (hp : H' p = some (.tup [v, .ref a]))
  (hv : q29 H v (grow low L r)) (ha : H a = some (.tup (c.map V.int))) (hw : Wths low L r) (hl : r.length <= 200) (hn : rs.length <= 99) (h' : H' ka = some (.lst (es ++ [.ref p]))) : Mks C H' x ka b low L (rs ++ [r]) (cs ++ [c]) := by
 obtain ⟨dx, hx⟩ := M.o
 obtain ⟨es', h1, h2, h3⟩ := M.hk
 obtain rfl : es' = es := by rw [hes] at h1; injection h1 with h1; injection h1 with h1; exact h1.symm
 have tk : TKeep H H' := .keep k hes
 have hlen := M.len
 refine ⟨⟨dx, k _ _ (ne_of hx hes (by intro z; cases z)) hx⟩, (tk _ _).1 M.hb, M.hL, by rw [List.length_append, List.length_append, M.len]; rfl, by rw [List.length_append]; show rs.length + 1 <= 100; omega, ⟨_, h', by rw [List.length_append, List.length_append, h2]; rfl, fun j r1 c1 hr hc => ?_⟩, fun r1 h1 => ?_⟩
 ·by_cases hj : j < rs.length
  ·rw [List.getElem?_append_left hj] at hr
   rw [List.getElem?_append_left (by omega)] at hc
   obtain ⟨p', a', v', e1, e2, e3, e4⟩ := h3 j r1 c1 hr hc
   exact ⟨p', a', v', by rw [List.getElem?_append_left (by omega)]; exact e1, (tk _ _).1 e2, e3.tk tk, (tk _ _).1 e4⟩
  ·have hj' : j = rs.length := by
    have := (List.getElem?_eq_some_iff.mp hr).1
    rw [List.length_append] at this
    have t2 : j < rs.length + 1 := this
    omega
   subst hj'
   rw [List.getElem?_append_right (Nat.le_refl _), Nat.sub_self] at hr
   rw [List.getElem?_append_right (by omega), show rs.length - cs.length = 0 by omega] at hc
   obtain rfl : r = r1 := Option.some.inj hr
   obtain rfl : c = c1 := Option.some.inj hc
   exact ⟨p, a, v, by rw [List.getElem?_append_right (by omega), show rs.length - es'.length = 0 by omega]; rfl, hp, hv.tk tk, (tk _ _).1 ha⟩
 ·rcases List.mem_append.mp h1 with h | h
  ·exact M.ok _ h
  ·obtain rfl : r1 = r := by simpa using h
   exact ⟨hw, hl⟩
def Made (C : Addr) (H : Hp) (x ka b : Addr) (low : Int) (L : Nat) (rs cs : LL) (r c : List Int) (Q : VK) : Prop :=
 ∀ H' : Hp, Keep ka H H' -> Mks C H' x ka b low L (rs ++ [r]) (cs ++ [c]) -> Q (.int (rs.length : Int)) H'
theorem Made.of {low : Int} {L : Nat} (q : Made C H x ka b low L rs cs r c Q) (s : Same H H1) : Made C H1 x ka b low L rs cs r c Q :=
 fun H' k M => q H' ((Keep.same s).trans k) M
inductive sp_not_too_many (u0 : Fg) (vs : List V) (H : Hp) (Q : VK) (E : XK) : Prop
 | mk (v : V) (t : Tr) (_ : vs = [v]) (_ : q29 H v t) (_ : q45 t <= 1000) (_ : Q v H) : sp_not_too_many u0 vs H Q E
inductive sp_M_keep (u0 : Fg) (C : Addr) (vs : List V) (H : Hp) (Q : VK) (E : XK) : Prop
 | mk (x ka b a : Addr) (v : V) (low : Int) (L : Nat) (rs cs : LL) (r c : List Int) (_ : vs = [.ref x, v, .ref a]) (_ : Mks C H x ka b low L rs cs) (_ : q29 H v (grow low L r)) (_ : H a = some (.tup (c.map V.int))) (_ : Wths low L r) (_ : r.length <= 200) (_ : rs.length <= 99) (_ : Made C H x ka b low L rs cs r c Q) : sp_M_keep u0 C vs H Q E
inductive sp_I_Makes (u0 : Fg) (C : Addr) (vs : List V) (H : Hp) (Q : VK) (E : XK) : Prop
 | mk (x b dx : Addr) (low : Int) (L : Nat) (_ : vs = [.ref x, .ref b]) (_ : H x = some (.ins C dx [])) (_ : H b = some (.tup [.int low, .int (L : Int)])) (_ : L <= 40) (_ : ∀ (ka : Addr) (H' : Hp), H ka = none -> Keep x H H' -> Mks C H' x ka b low L [[]] [[]] -> Q .non H') : sp_I_Makes u0 C vs H Q E
inductive sp_M_found (u0 : Fg) (C : Addr) (vs : List V) (H : Hp) (Q : VK) (E : XK) : Prop
 | mk (x ka b : Addr) (j : Nat) (low : Int) (L : Nat) (rs cs : LL) (r c : List Int) (_ : vs = [.ref x, .int (j : Int)]) (_ : Mks C H x ka b low L rs cs) (_ : rs[j]? = some r) (_ : cs[j]? = some c) (_ : ∀ (p a : Addr) (v : V), H p = some (.tup [v, .ref a]) -> q29 H v (grow low L r) -> H a = some (.tup (c.map V.int)) -> Q (.ref p) H) : sp_M_found u0 C vs H Q E
inductive sp_M_tree (u0 : Fg) (C : Addr) (vs : List V) (H : Hp) (Q : VK) (E : XK) : Prop
 | mk (x ka b : Addr) (j : Nat) (low : Int) (L : Nat) (rs cs : LL) (r : List Int) (_ : vs = [.ref x, .int (j : Int)]) (_ : Mks C H x ka b low L rs cs) (_ : rs[j]? = some r) (_ : ∀ v : V, q29 H v (grow low L r) -> Q v H) : sp_M_tree u0 C vs H Q E
inductive sp_M_stretch (u0 : Fg) (C : Addr) (vs : List V) (H : Hp) (Q : VK) (E : XK) : Prop
 | mk (x ka b : Addr) (j st en : Nat) (low : Int) (L : Nat) (rs cs : LL) (r : List Int) (_ : vs = [.ref x, .int (j : Int), .int (st : Int), .int (en : Int)]) (_ : Mks C H x ka b low L rs cs) (_ : rs[j]? = some r) (_ : st <= en) (_ : en <= r.length) (_ : ∀ (p : Addr) (v : V) (H' : Hp), Same H H' -> q29 H' v (grow low L r) -> H' p = some (.tup [v, .int (st : Int), .int (en : Int)]) -> Q (.ref p) H') : sp_M_stretch u0 C vs H Q E
inductive sp_M_of_row (K : Fg) (C : Addr) (vs : List V) (H : Hp) (Q : VK) (E : XK) : Prop
 | mk (x ka b l : Addr) (low : Int) (L : Nat) (rs cs : LL) (r : List Int) (_ : vs = [.ref x, .ref l]) (_ : Mks C H x ka b low L rs cs) (_ : SqL K H l (r.map V.int)) (_ : Wths low L r) (_ : r.length <= 200) (_ : rs.length <= 99) (_ : Made C H x ka b low L rs cs r [] Q) : sp_M_of_row K C vs H Q E
inductive sp_M_put_in (u0 : Fg) (C : Addr) (vs : List V) (H : Hp) (Q : VK) (E : XK) : Prop
 | mk (x ka b : Addr) (j pl : Nat) (low num : Int) (L : Nat) (rs cs : LL) (r : List Int) (_ : vs = [.ref x, .int (j : Int), .int (pl : Int), .int num]) (_ : Mks C H x ka b low L rs cs) (_ : rs[j]? = some r) (_ : pl <= r.length) (_ : low <= num) (_ : num < low + 2 ^ L) (_ : r.length <= 199) (_ : rs.length <= 99) (_ : Made C H x ka b low L rs cs (insAt r pl num) [(j : Int)] Q) : sp_M_put_in u0 C vs H Q E
inductive sp_M_taken_out (u0 : Fg) (C : Addr) (vs : List V) (H : Hp) (Q : VK) (E : XK) : Prop
 | mk (x ka b : Addr) (j pl : Nat) (low n : Int) (L : Nat) (rs cs : LL) (r : List Int) (_ : vs = [.ref x, .int (j : Int), .int (pl : Int)]) (_ : Mks C H x ka b low L rs cs) (_ : rs[j]? = some r) (_ : r[pl]? = some n) (_ : rs.length <= 99) (_ : Made C H x ka b low L rs cs (delAt r pl) [(j : Int)] Q) : sp_M_taken_out u0 C vs H Q E
inductive sp_M_set_at (u0 : Fg) (C : Addr) (vs : List V) (H : Hp) (Q : VK) (E : XK) : Prop
 | mk (x ka b : Addr) (j pl : Nat) (low n num : Int) (L : Nat) (rs cs : LL) (r : List Int) (_ : vs = [.ref x, .int (j : Int), .int (pl : Int), .int num]) (_ : Mks C H x ka b low L rs cs) (_ : rs[j]? = some r) (_ : r[pl]? = some n) (_ : low <= num) (_ : num < low + 2 ^ L) (_ : rs.length <= 99) (_ : Made C H x ka b low L rs cs (r.take pl ++ num :: r.drop (pl + 1)) [(j : Int)] Q) : sp_M_set_at u0 C vs H Q E
inductive sp_M_cut_out (u0 : Fg) (C : Addr) (vs : List V) (H : Hp) (Q : VK) (E : XK) : Prop
 | mk (x ka b : Addr) (j st en : Nat) (low : Int) (L : Nat) (rs cs : LL) (r : List Int) (_ : vs = [.ref x, .int (j : Int), .int (st : Int), .int (en : Int)]) (_ : Mks C H x ka b low L rs cs) (_ : rs[j]? = some r) (_ : st <= en) (_ : en <= r.length) (_ : rs.length <= 99) (_ : Made C H x ka b low L rs cs (segI r st en) [(j : Int)] Q) : sp_M_cut_out u0 C vs H Q E
inductive sp_M_joined (u0 : Fg) (C : Addr) (vs : List V) (H : Hp) (Q : VK) (E : XK) : Prop
 | mk (x ka b : Addr) (i j : Nat) (low : Int) (L : Nat) (rs cs : LL) (r t : List Int) (_ : vs = [.ref x, .int (i : Int), .int (j : Int)]) (_ : Mks C H x ka b low L rs cs) (_ : rs[i]? = some r) (_ : rs[j]? = some t) (_ : r.length + t.length <= 200) (_ : rs.length <= 99) (_ : Made C H x ka b low L rs cs (r ++ t) [(i : Int), (j : Int)] Q) : sp_M_joined u0 C vs H Q E
inductive sp_M_turned (u0 : Fg) (C : Addr) (vs : List V) (H : Hp) (Q : VK) (E : XK) : Prop
 | mk (x ka b : Addr) (j : Nat) (low : Int) (L : Nat) (rs cs : LL) (r : List Int) (_ : vs = [.ref x, .int (j : Int)]) (_ : Mks C H x ka b low L rs cs) (_ : rs[j]? = some r) (_ : rs.length <= 99) (_ : Made C H x ka b low L rs cs r.reverse [(j : Int)] Q) : sp_M_turned u0 C vs H Q E
inductive sp_M_flipped (u0 : Fg) (C : Addr) (vs : List V) (H : Hp) (Q : VK) (E : XK) : Prop
 | mk (x ka b : Addr) (j : Nat) (low : Int) (L : Nat) (rs cs : LL) (r : List Int) (_ : vs = [.ref x, .int (j : Int)]) (_ : Mks C H x ka b low L rs cs) (_ : rs[j]? = some r) (_ : rs.length <= 99) (_ : Made C H x ka b low L rs cs (r.map (flp low L)) [(j : Int)] Q) : sp_M_flipped u0 C vs H Q E
inductive sp_M_row (u0 : Fg) (C : Addr) (vs : List V) (H : Hp) (Q : VK) (E : XK) : Prop
 | mk (x ka b : Addr) (j : Nat) (low : Int) (L : Nat) (rs cs : LL) (r : List Int) (_ : vs = [.ref x, .int (j : Int)]) (_ : Mks C H x ka b low L rs cs) (_ : rs[j]? = some r) (_ : ∀ (H' : Hp) (D : Addr), Same H H' -> H' D = some (.lst (r.map V.int)) -> H D = none -> Q (.ref D) H') : sp_M_row u0 C vs H Q E
theorem Mks.row {low : Int} {L j : Nat} (M : Mks C H x ka b low L rs cs) (h : rs[j]? = some r) : ∃ c, cs[j]? = some c := by
 have := (List.getElem?_eq_some_iff.mp h).1
 have := M.len
 exact ⟨cs[j]'(by omega), List.getElem?_eq_getElem _⟩
theorem Mks.sz {low : Int} {L j : Nat} {r : List Int} (M : Mks C H x ka b low L rs cs) (h : rs[j]? = some r) : Wths low L r /\ r.length <= 200 := M.ok r (List.mem_of_getElem? h)
theorem q123 (z : Bz K mg cA cB cC cD cE cF cG cH) : Cal P w K mg base 2 "not_too_many" ["tree"] (sp_not_too_many K) := by
 have sc := q241
 refine z.d_not_too_many.cal fun f fd F => F.k sc fun _ _ _ s H _ Q _ hr h => ?_
 obtain ⟨v, t, rfl, ht, hs, q⟩ := h
 refine ⟨_, (q12 (ps_if (q18 op_gt (pe_fn (q74 z) hr.m (by rfl) (q10 (pv 0) q11)) q13 (q21 _))
 (q15 q36)
 q20)
 (q15 (q19 (pv 0)))), ?_⟩
 refine ⟨_, rfl, v, t, rfl, ht, _, _, rfl, rfl, _, rfl, ?_⟩
 refine ite2 (fun c => absurd (of_decide_eq_true c) (by omega)) (fun _ => ?_)
 exact ⟨_, rfl, q⟩
theorem q70 (z : Bz K mg cA cB cC cD cE cF cG cH) : MCal P w K mg base 1 cG "keep" ["self", "tree", "sources"] (sp_M_keep K cG) := by
 have sc := q660
 refine z.d_M_keep.cal z.o_Makes fun f fd F => F.k sc fun _ _ _ s H _ Q _ hr h => ?_
 obtain ⟨x, ka, b, a, v, low, L, rs, cs, r, c, rfl, M, hv, ha, hw, hl, hn, q⟩ := h
 refine ⟨_, (q12 (q73 (pe_bm PySem.F.plainAttrs_list PySem.F.slot_list_append PySem.F.type_list_append q55 (q68 (pv 0) rfl) (q10 (q27 (q10 (pv 1) (q10 (pv 2) q11))) q11)))
 (q15 (q19 (pe_op q51 (pln z.len_ (q10 (q68 (pv 0) rfl) q11)) q13)))), ?_⟩
 obtain ⟨dx, hx⟩ := M.o
 obtain ⟨es, hes, hel, _⟩ := M.hk
 refine ⟨_, rfl, x, _, dx, _, _, rfl, hx, z.o_Makes, z.nK, rfl, .inl ⟨rfl, _, SqL.of hes⟩, _, rfl, _, rfl, szb rfl, fun p hp => ?_⟩
 obtain ⟨H1, gz, s1, e1⟩ := nwH hp (.tup [v, .ref a])
 rw [gz]
 have hes1 := s1 _ _ hes
 refine ⟨ka, es, _, rfl, rfl, hes1, by rw [hel]; exact q66 (by omega), ?_⟩
 have k2 : Keep ka H (upd H1 ka (.lst (es ++ [.ref p]))) := (Keep.same s1).trans (Keep.set ka H1 _)
 have e2 := @q14 H1 ka (.lst (es ++ [.ref p]))
 have e3 : upd H1 ka (.lst (es ++ [.ref p])) p = some (.tup [v, .ref a]) := (TKeep.set hes1 _ _).1 e1
 generalize upd H1 ka (.lst (es ++ [.ref p])) = H2 at *
 have M2 := M.snoc hes k2 e3 hv ha hw hl hn e2
 obtain ⟨dx2, hx2⟩ := M2.o
 refine ⟨_, rfl, x, _, dx2, _, _, rfl, hx2, z.o_Makes, z.nK, rfl, ka, _, rfl, .inl (SqL.of e2), _, _, rfl, rfl, ?_⟩
 have en : (((es ++ [V.ref p]).length : Nat) : Int) - 1 = (rs.length : Int) := by rw [List.length_append, hel]; show ((rs.length + 1 : Nat) : Int) - 1 = _; omega
 show Q (.int ((((es ++ [V.ref p]).length : Nat) : Int) - 1)) H2
 rw [en]
 exact q _ k2 M2
theorem q581 (z : Bz K mg cA cB cC cD cE cF cG cH) : ICal P w K mg base 2 cG pn18 (sp_I_Makes K cG) := by
 have sc := q570
 refine z.d_I_Makes.cal fun f fd F => F.k sc fun _ _ _ s H _ Q _ hr h => ?_
 obtain ⟨x, b, dx, low, L, rfl, hx, hb, hL, q⟩ := h
 refine ⟨_, (q12 (q491 (pv 0) (pv 1) rfl)
 (q12 (q491 (pv 0) (q35 q11) rfl)
 (q15 (q73 (q39 (q70 z) hr.m (pv 0) (q10 q62 (q10 (q27 q11) q11))))))), ?_⟩
 refine ⟨_, rfl, _, rfl, x, _, dx, _, rfl, hx, z.o_Makes, z.nB, by decide, ?_⟩
 have hbx : b ≠ x := ne_of hb hx (by intro z; cases z)
 have k1 : Keep x H (upd H x (.ins cG dx (putF "bounds" (.ref b) []))) := Keep.set x H _
 have e1 : upd H x (.ins cG dx (putF "bounds" (.ref b) [])) x = some (.ins cG dx [("bounds", .ref b)]) := q14
 generalize upd H x (.ins cG dx (putF "bounds" (.ref b) [])) = H1 at *
 refine ⟨szb rfl, fun ka hka => ?_⟩
 have hka0 : H ka = none := by
  cases e : H ka with
  | none => rfl
  | some o =>
   exfalso
   by_cases hkx : ka = x
   ·rw [hkx, e1] at hka; cases hka
   ·rw [k1 _ _ hkx e] at hka; cases hka
 obtain ⟨H2, gz, s2, e2⟩ := nwH hka (.lst [])
 rw [gz]
 refine ⟨_, rfl, x, _, dx, _, rfl, s2 _ _ e1, z.o_Makes, z.nK, by show 1 < 1000; decide, ?_⟩
 have hkx : ka ≠ x := fun h => by rw [h, e1] at hka; cases hka
 have k3 : Keep x H2 (upd H2 x (.ins cG dx (putF "kept" (.ref ka) [("bounds", .ref b)]))) := Keep.set x H2 _
 have e3 : upd H2 x (.ins cG dx (putF "kept" (.ref ka) [("bounds", .ref b)])) x = some (.ins cG dx [("bounds", .ref b), ("kept", .ref ka)]) := q14
 generalize upd H2 x (.ins cG dx (putF "kept" (.ref ka) [("bounds", .ref b)])) = H3 at *
 refine ⟨_, rfl, x, dx, _, rfl, e3, rfl, szb rfl, fun p hp => ?_⟩
 obtain ⟨H4, gz, s4, e4⟩ := nwH hp (.tup [])
 rw [gz]
 have k13 : Keep x H H3 := k1.trans ((Keep.same s2).trans k3)
 have M : Mks cG H4 x ka b low L [] [] := ⟨⟨dx, s4 _ _ e3⟩, s4 _ _ (k13 _ _ hbx hb), hL, rfl, by decide, ⟨[], s4 _ _ (k3 _ _ hkx e2), rfl, fun j r c g => by cases g⟩, fun r g => by cases g⟩
 refine ⟨x, ka, b, p, .non, low, L, [], [], [], [], rfl, M, by rw [q38]; rfl, e4, (fun _ h => by cases h), by decide, by decide, fun H5 k5 M5 => ?_⟩
 refine q ka H5 hka0 ?_ M5
 intro c o hc hco
 refine k5 c o ?_ (s4 _ _ (k13 _ _ hc hco))
 intro hck
 rw [hck, hka0] at hco
 cases hco
theorem q582 (z : Bz K mg cA cB cC cD cE cF cG cH) : MCal P w K mg base 1 cG "found" pn2 (sp_M_found K cG) := by
 have sc := q571
 refine z.d_M_found.cal z.o_Makes fun f fd F => F.k sc fun _ _ _ s H _ Q _ hr h => ?_
 obtain ⟨x, ka, b, j, low, L, rs, cs, r, c, rfl, M, g, hc, q⟩ := h
 refine ⟨_, (q12 (ps_if (PW.pt (pw_or (q18 op_lt (pv 1) q13 (q21 _)) (q80 (q18 op_ge (pv 1) (pln z.len_ (q10 (q68 (pv 0) rfl) q11)) (q21 _)))))
 (q15 q36)
 q20)
 (q15 (q19 (pix q25 (q68 (pv 0) rfl) (pv 1))))), ?_⟩
 obtain ⟨dx, hx⟩ := M.o
 obtain ⟨es, hes, hel, hE⟩ := M.hk
 obtain ⟨p, a, v, e1, e2, e3, e4⟩ := hE j r c g hc
 have hj := (List.getElem?_eq_some_iff.mp g).1
 refine ⟨_, rfl, _, _, rfl, rfl, _, rfl, ?_⟩
 refine ite2 (fun c => absurd (of_decide_eq_true c) (by omega)) (fun _ => ?_)
 refine ⟨_, rfl, _, rfl, x, _, dx, _, _, rfl, hx, z.o_Makes, z.nK, rfl, ka, _, rfl, .inl (SqL.of hes), _, _, rfl, rfl, _, rfl, ?_⟩
 refine ite2 (fun c => absurd (of_decide_eq_true c) (by omega)) (fun _ => ?_)
 exact ⟨_, rfl, x, _, dx, _, _, rfl, hx, z.o_Makes, z.nK, rfl, _, rfl, ka, _, _, _, rfl, rfl, SqL.of hes, q41 e1, q p a v e2 e3 e4⟩
theorem q71 (z : Bz K mg cA cB cC cD cE cF cG cH) : MCal P w K mg base 2 cG "tree" pn2 (sp_M_tree K cG) := by
 have sc := q659
 refine z.d_M_tree.cal z.o_Makes fun f fd F => F.k sc fun _ _ _ s H _ Q _ hr h => ?_
 obtain ⟨x, ka, b, j, low, L, rs, cs, r, rfl, M, g, q⟩ := h
 refine ⟨_, (q15 (q19 (pix q23 (q39 (q582 z) hr.m (pv 0) (q10 (pv 1) q11)) q13))), ?_⟩
 obtain ⟨dx, hx⟩ := M.o
 obtain ⟨c, hc⟩ := M.row g
 exact ⟨_, rfl, x, dx, _, rfl, hx, rfl, _, rfl, x, ka, b, j, low, L, rs, cs, r, c, rfl, M, g, hc, fun p a v e1 e2 _ => ⟨p, _, _, _, rfl, rfl, SqT.of e1, rfl, q v e2⟩⟩
theorem q189 (z : Bz K mg cA cB cC cD cE cF cG cH) : MCal P w K mg base 3 cG "stretch" pn4 (sp_M_stretch K cG) := by
 have sc := q408
 refine z.d_M_stretch.cal z.o_Makes fun f fd F => F.k sc fun _ _ _ s H _ Q _ hr h => ?_
 obtain ⟨x, ka, b, j, st, en, low, L, rs, cs, r, rfl, M, g, h1, h2, q⟩ := h
 refine ⟨_, (q12 (pst 4 sc.nd (q39 (q71 z) hr.m (pv 0) (q10 (pv 1) q11)))
 (q12 (ps_if (q356 (q624 op_le op_le op_le q13 (pv 2) (pv 3) (pe_fn (q74 z) hr.m (by rfl) (q10 (pv 4) q11))))
 (q15 q36)
 q20)
 (q15 (q19 (q27 (q10 (pv 4) (q10 (pv 2) (q10 (pv 3) q11)))))))), ?_⟩
 obtain ⟨dx, hx⟩ := M.o
 refine ⟨_, rfl, x, dx, _, rfl, hx, rfl, _, rfl, x, ka, b, j, low, L, rs, cs, r, rfl, M, g, fun v hv => ?_⟩
 refine ⟨_, rfl, _, _, rfl, rfl, _, rfl, ?_⟩
 refine ite2 (fun _ => ?_) (fun c => absurd (decide_eq_true (by omega)) c)
 refine ⟨_, rfl, _, _, rfl, rfl, _, rfl, ?_⟩
 refine ite2 (fun _ => ?_) (fun c => absurd (decide_eq_true (by omega)) c)
 refine ⟨_, rfl, v, _, rfl, hv, _, _, rfl, rfl, ?_⟩
 rw [q59]
 refine ⟨_, rfl, ?_⟩
 refine iteNS (by omega) ?_
 refine ⟨_, rfl, _, rfl, _, rfl, szb rfl, fun p hp => ?_⟩
 have s1 := q16 hp (.tup [v, .int (st : Int), .int (en : Int)])
 exact q p v _ s1 (hv.same s1) q14
theorem q476 (z : Bz K mg cA cB cC cD cE cF cG cH) : MCal P w K mg base 43 cG "of_row" pn24 (sp_M_of_row K cG) := by
 have sc := q456
 refine z.d_M_of_row.cal z.o_Makes fun f fd F => F.k sc fun _ _ _ s H _ Q _ hr h => ?_
 obtain ⟨x, ka, b, l, low, L, rs, cs, r, rfl, M, hl, hw, hn, hm, q⟩ := h
 refine ⟨_, (q15 (q19 (q39 (q70 z) hr.m (pv 0) (q10 (pe_fn (q572 z) hr.m (by rfl) (q10 (q68 (pv 0) rfl) (q10 (pv 1) q11))) (q10 (q27 q11) q11))))), ?_⟩
 obtain ⟨dx, hx⟩ := M.o
 refine ⟨_, rfl, x, dx, _, rfl, hx, rfl, _, rfl, x, _, dx, _, _, rfl, hx, z.o_Makes, z.nB, rfl, _, rfl, b, l, low, L, r, rfl, SqT.of M.hb, M.hL, hl, by omega, hw, fun H1 v s1 hv => ?_⟩
 refine ⟨szb rfl, fun p hp => ?_⟩
 obtain ⟨H2, gz, s2, e2⟩ := nwH hp (.tup [])
 rw [gz]
 have s12 := s1.trans s2
 exact ⟨x, ka, b, p, v, low, L, rs, cs, r, [], rfl, M.same s12, hv.same s2, e2, hw, hn, hm, q.of s12⟩
theorem q477 (z : Bz K mg cA cB cC cD cE cF cG cH) : MCal P w K mg base 45 cG "put_in" pn3 (sp_M_put_in K cG) := by
 have sc := q457
 refine z.d_M_put_in.cal z.o_Makes fun f fd F => F.k sc fun _ _ _ s H _ Q _ hr h => ?_
 obtain ⟨x, ka, b, j, pl, low, num, L, rs, cs, r, rfl, M, g, hpl, n0, n1, hl, hn, q⟩ := h
 refine ⟨_, (q12 (pst 4 sc.nd (pe_fn (q411 z) hr.m (by rfl) (q10 (q68 (pv 0) rfl) (q10 (q39 (q71 z) hr.m (pv 0) (q10 (pv 1) q11)) (q10 (pv 2) (q10 (pv 3) q11))))))
 (q15 (q19 (q39 (q70 z) hr.m (pv 0) (q10 (pe_fn (q123 z) hr.m (by rfl) (q10 (pv 4) q11)) (q10 (q27 (q10 (pv 1) q11)) q11)))))), ?_⟩
 obtain ⟨dx, hx⟩ := M.o
 obtain ⟨hw, _⟩ := M.sz g
 refine ⟨_, rfl, x, _, dx, _, _, rfl, hx, z.o_Makes, z.nB, rfl, _, rfl, x, dx, _, rfl, hx, rfl, _, rfl, x, ka, b, j, low, L, rs, cs, r, rfl, M, g, fun v hv => ?_⟩
 refine ⟨_, rfl, _, rfl, b, v, pl, low, num, L, r, rfl, SqT.of M.hb, M.hL, hv, hpl, by omega, n0, n1, fun u H1 s1 hu => ?_⟩
 have hil := q464 r pl num
 refine ⟨_, rfl, x, dx, _, rfl, s1 _ _ hx, rfl, _, rfl, u, _, rfl, hu, by rw [q59]; omega, _, rfl, szb rfl, fun p hp => ?_⟩
 obtain ⟨H2, gz, s2, e2⟩ := nwH hp (.tup [.int (j : Int)])
 rw [gz]
 have s12 := s1.trans s2
 exact ⟨x, ka, b, p, u, low, L, rs, cs, _, [(j : Int)], rfl, M.same s12, hu.same s2, e2, q516 hw n0 n1, by omega, hn, q.of s12⟩
theorem flp_in {low : Int} {e : Nat} {ns : List Int} (h : Wths low e ns) : Wths low e (ns.map (flp low e)) := fun x hx => by
 obtain ⟨n, hn, rfl⟩ := List.mem_map.mp hx
 have := h n hn
 unfold flp
 omega
theorem rev_in {low : Int} {e : Nat} {ns : List Int} (h : Wths low e ns) : Wths low e ns.reverse := fun x hx => h x (List.mem_reverse.mp hx)
theorem seg_in {low : Int} {e : Nat} {st en : Nat} (h : Wths low e ns) : Wths low e (segI ns st en) := fun x hx => h x (List.mem_of_mem_take (List.mem_of_mem_drop hx))
theorem app_in {low : Int} {e : Nat} (h : Wths low e ns) (h' : Wths low e ms) : Wths low e (ns ++ ms) := fun x hx => (List.mem_append.mp hx).elim (h x) (h' x)
theorem set_in {low num : Int} {e pl : Nat} {ns : List Int} (h : Wths low e ns) (h0 : low <= num) (h1 : num < low + 2 ^ e) : Wths low e (ns.take pl ++ num :: ns.drop (pl + 1)) := fun x hx => by
 rcases List.mem_append.mp hx with hx | hx
 ·exact h x (List.mem_of_mem_take hx)
 rcases List.mem_cons.mp hx with rfl | hx
 ·exact ⟨h0, h1⟩
 ·exact h x (List.mem_of_mem_drop hx)
theorem q691 {num : Int} {pl : Nat} {ns : List Int} (h : pl < ns.length) : (ns.take pl ++ num :: ns.drop (pl + 1)).length = ns.length := by
 rw [List.length_append, List.length_cons, List.length_take, List.length_drop]
 omega
theorem q268 (z : Bz K mg cA cB cC cD cE cF cG cH) : MCal P w K mg base 45 cG "taken_out" ["self", "make", "place"] (sp_M_taken_out K cG) := by
 have sc := q265
 refine z.d_M_taken_out.cal z.o_Makes fun f fd F => F.k sc fun _ _ _ s H _ Q _ hr h => ?_
 obtain ⟨x, ka, b, j, pl, low, n, L, rs, cs, r, rfl, M, g, gn, hn, q⟩ := h
 refine ⟨_, (q12 (pst 3 sc.nd (pe_fn (q184 z) hr.m (by rfl) (q10 (q68 (pv 0) rfl) (q10 (q39 (q71 z) hr.m (pv 0) (q10 (pv 1) q11)) (q10 (pv 2) q11)))))
 (q15 (q19 (q39 (q70 z) hr.m (pv 0) (q10 (pix q23 (pv 3) q13) (q10 (q27 (q10 (pv 1) q11)) q11)))))), ?_⟩
 obtain ⟨dx, hx⟩ := M.o
 obtain ⟨hw, hl⟩ := M.sz g
 have hpl := (List.getElem?_eq_some_iff.mp gn).1
 refine ⟨_, rfl, x, _, dx, _, _, rfl, hx, z.o_Makes, z.nB, rfl, _, rfl, x, dx, _, rfl, hx, rfl, _, rfl, x, ka, b, j, low, L, rs, cs, r, rfl, M, g, fun v hv => ?_⟩
 refine ⟨_, rfl, b, v, pl, low, n, L, r, rfl, SqT.of M.hb, M.hL, hv, hw, gn, by omega, fun p1 u H1 s1 e1 hu => ?_⟩
 have hdl := q332 hpl
 refine ⟨_, rfl, x, dx, _, rfl, s1 _ _ hx, rfl, _, rfl, p1, _, _, _, rfl, rfl, SqT.of e1, rfl, _, rfl, szb rfl, fun p hp => ?_⟩
 obtain ⟨H2, gz, s2, e2⟩ := nwH hp (.tup [.int (j : Int)])
 rw [gz]
 have s12 := s1.trans s2
 exact ⟨x, ka, b, p, u, low, L, rs, cs, _, [(j : Int)], rfl, M.same s12, hu.same s2, e2, q518 hw, by omega, hn, q.of s12⟩
theorem q478 (z : Bz K mg cA cB cC cD cE cF cG cH) : MCal P w K mg base 46 cG "set_at" pn3 (sp_M_set_at K cG) := by
 have sc := q458
 refine z.d_M_set_at.cal z.o_Makes fun f fd F => F.k sc fun _ _ _ s H _ Q _ hr h => ?_
 obtain ⟨x, ka, b, j, pl, low, n, num, L, rs, cs, r, rfl, M, g, gn, n0, n1, hn, q⟩ := h
 refine ⟨_, (q15 (q19 (q39 (q70 z) hr.m (pv 0) (q10 (pe_fn (q668 z) hr.m (by rfl) (q10 (q68 (pv 0) rfl) (q10 (q39 (q71 z) hr.m (pv 0) (q10 (pv 1) q11)) (q10 (pv 2) (q10 (pv 3) q11))))) (q10 (q27 (q10 (pv 1) q11)) q11))))), ?_⟩
 obtain ⟨dx, hx⟩ := M.o
 obtain ⟨hw, hl⟩ := M.sz g
 have hpl := (List.getElem?_eq_some_iff.mp gn).1
 refine ⟨_, rfl, x, dx, _, rfl, hx, rfl, _, rfl, x, _, dx, _, _, rfl, hx, z.o_Makes, z.nB, rfl, _, rfl, x, dx, _, rfl, hx, rfl, _, rfl, x, ka, b, j, low, L, rs, cs, r, rfl, M, g, fun v hv => ?_⟩
 refine ⟨_, rfl, _, rfl, b, v, pl, low, n, num, L, r, rfl, SqT.of M.hb, M.hL, hv, hw, gn, by omega, n0, n1, fun u H1 s1 hu => ?_⟩
 have hsl := q691 (num := num) hpl
 refine ⟨_, rfl, szb rfl, fun p hp => ?_⟩
 obtain ⟨H2, gz, s2, e2⟩ := nwH hp (.tup [.int (j : Int)])
 rw [gz]
 have s12 := s1.trans s2
 exact ⟨x, ka, b, p, u, low, L, rs, cs, _, [(j : Int)], rfl, M.same s12, hu.same s2, e2, set_in hw n0 n1, by omega, hn, q.of s12⟩
theorem q423 (z : Bz K mg cA cB cC cD cE cF cG cH) : MCal P w K mg base 44 cG "cut_out" pn4 (sp_M_cut_out K cG) := by
 have sc := q406
 refine z.d_M_cut_out.cal z.o_Makes fun f fd F => F.k sc fun _ _ _ s H _ Q _ hr h => ?_
 obtain ⟨x, ka, b, j, st, en, low, L, rs, cs, r, rfl, M, g, h1, h2, hn, q⟩ := h
 refine ⟨_, (q15 (q19 (q39 (q70 z) hr.m (pv 0) (q10 (pe_fn (q579 z) hr.m (by rfl) (q10 (q39 (q189 z) hr.m (pv 0) (q10 (pv 1) (q10 (pv 2) (q10 (pv 3) q11)))) q11)) (q10 (q27 (q10 (pv 1) q11)) q11))))), ?_⟩
 obtain ⟨dx, hx⟩ := M.o
 obtain ⟨hw, hl⟩ := M.sz g
 refine ⟨_, rfl, x, dx, _, rfl, hx, rfl, _, rfl, x, dx, _, rfl, hx, rfl, _, rfl, _, rfl, _, rfl, x, ka, b, j, st, en, low, L, rs, cs, r, rfl, M, g, h1, h2, fun p1 v H1 s1 hv e1 => ?_⟩
 refine ⟨L, M.hL, p1, v, st, en, low, r, rfl, e1, hv, h1, h2, by omega, fun u H2 s2 hu => ?_⟩
 have hsl := q335 (st := st) h2
 refine ⟨_, rfl, szb rfl, fun p hp => ?_⟩
 obtain ⟨H3, gz, s3, e3⟩ := nwH hp (.tup [.int (j : Int)])
 rw [gz]
 have s13 := s1.trans (s2.trans s3)
 exact ⟨x, ka, b, p, u, low, L, rs, cs, _, [(j : Int)], rfl, M.same s13, hu.same s3, e3, seg_in hw, by omega, hn, q.of s13⟩
theorem q479 (z : Bz K mg cA cB cC cD cE cF cG cH) : MCal P w K mg base 44 cG "joined" ["self", "one", "other"] (sp_M_joined K cG) := by
 have sc := q459
 refine z.d_M_joined.cal z.o_Makes fun f fd F => F.k sc fun _ _ _ s H _ Q _ hr h => ?_
 obtain ⟨x, ka, b, i, j, low, L, rs, cs, r, t, rfl, M, g, g', hrt, hn, q⟩ := h
 refine ⟨_, (q12 (pst 3 sc.nd (pe_fn (q683 z) hr.m (by rfl) (q10 (q39 (q71 z) hr.m (pv 0) (q10 (pv 1) q11)) (q10 (q39 (q71 z) hr.m (pv 0) (q10 (pv 2) q11)) q11))))
 (q15 (q19 (q39 (q70 z) hr.m (pv 0) (q10 (pe_fn (q123 z) hr.m (by rfl) (q10 (pv 3) q11)) (q10 (q27 (q10 (pv 1) (q10 (pv 2) q11))) q11)))))), ?_⟩
 obtain ⟨dx, hx⟩ := M.o
 obtain ⟨hw, hl⟩ := M.sz g
 obtain ⟨hw', hl'⟩ := M.sz g'
 refine ⟨_, rfl, x, dx, _, rfl, hx, rfl, _, rfl, x, ka, b, i, low, L, rs, cs, r, rfl, M, g, fun v hv => ?_⟩
 refine ⟨_, rfl, x, dx, _, rfl, hx, rfl, _, rfl, x, ka, b, j, low, L, rs, cs, t, rfl, M, g', fun v' hv' => ?_⟩
 refine ⟨L, M.hL, v, v', low, r, t, rfl, hv, hv', by omega, by omega, fun u H1 s1 hu => ?_⟩
 have hal : (r ++ t).length = r.length + t.length := List.length_append
 refine ⟨_, rfl, x, dx, _, rfl, s1 _ _ hx, rfl, _, rfl, u, _, rfl, hu, by rw [q59]; omega, _, rfl, _, rfl, szb rfl, fun p hp => ?_⟩
 obtain ⟨H2, gz, s2, e2⟩ := nwH hp (.tup [.int (i : Int), .int (j : Int)])
 rw [gz]
 have s12 := s1.trans s2
 exact ⟨x, ka, b, p, u, low, L, rs, cs, _, [(i : Int), (j : Int)], rfl, M.same s12, hu.same s2, e2, app_in hw hw', by omega, hn, q.of s12⟩
theorem q480 (z : Bz K mg cA cB cC cD cE cF cG cH) : MCal P w K mg base 43 cG "turned" pn2 (sp_M_turned K cG) := by
 have sc := q460
 refine z.d_M_turned.cal z.o_Makes fun f fd F => F.k sc fun _ _ _ s H _ Q _ hr h => ?_
 obtain ⟨x, ka, b, j, low, L, rs, cs, r, rfl, M, g, hn, q⟩ := h
 refine ⟨_, (q15 (q19 (q39 (q70 z) hr.m (pv 0) (q10 (pe_fn (q677 z) hr.m (by rfl) (q10 (q39 (q71 z) hr.m (pv 0) (q10 (pv 1) q11)) q11)) (q10 (q27 (q10 (pv 1) q11)) q11))))), ?_⟩
 obtain ⟨dx, hx⟩ := M.o
 obtain ⟨hw, hl⟩ := M.sz g
 refine ⟨_, rfl, x, dx, _, rfl, hx, rfl, _, rfl, x, dx, _, rfl, hx, rfl, _, rfl, x, ka, b, j, low, L, rs, cs, r, rfl, M, g, fun v hv => ?_⟩
 refine ⟨L, M.hL, v, low, r, rfl, hv, by omega, fun u H1 s1 hu => ?_⟩
 refine ⟨_, rfl, szb rfl, fun p hp => ?_⟩
 obtain ⟨H2, gz, s2, e2⟩ := nwH hp (.tup [.int (j : Int)])
 rw [gz]
 have s12 := s1.trans s2
 exact ⟨x, ka, b, p, u, low, L, rs, cs, _, [(j : Int)], rfl, M.same s12, hu.same s2, e2, rev_in hw, by rw [List.length_reverse]; omega, hn, q.of s12⟩
theorem q424 (z : Bz K mg cA cB cC cD cE cF cG cH) : MCal P w K mg base 43 cG "flipped" pn2 (sp_M_flipped K cG) := by
 have sc := q407
 refine z.d_M_flipped.cal z.o_Makes fun f fd F => F.k sc fun _ _ _ s H _ Q _ hr h => ?_
 obtain ⟨x, ka, b, j, low, L, rs, cs, r, rfl, M, g, hn, q⟩ := h
 refine ⟨_, (q15 (q19 (q39 (q70 z) hr.m (pv 0) (q10 (pe_fn (q577 z) hr.m (by rfl) (q10 (q39 (q71 z) hr.m (pv 0) (q10 (pv 1) q11)) q11)) (q10 (q27 (q10 (pv 1) q11)) q11))))), ?_⟩
 obtain ⟨dx, hx⟩ := M.o
 obtain ⟨hw, hl⟩ := M.sz g
 refine ⟨_, rfl, x, dx, _, rfl, hx, rfl, _, rfl, x, dx, _, rfl, hx, rfl, _, rfl, x, ka, b, j, low, L, rs, cs, r, rfl, M, g, fun v hv => ?_⟩
 refine ⟨L, M.hL, v, low, r, rfl, hv, by omega, fun u H1 s1 hu => ?_⟩
 refine ⟨_, rfl, szb rfl, fun p hp => ?_⟩
 obtain ⟨H2, gz, s2, e2⟩ := nwH hp (.tup [.int (j : Int)])
 rw [gz]
 have s12 := s1.trans s2
 exact ⟨x, ka, b, p, u, low, L, rs, cs, _, [(j : Int)], rfl, M.same s12, hu.same s2, e2, flp_in hw, by rw [List.length_map]; omega, hn, q.of s12⟩
theorem ok_M_row (z : Bz K mg cA cB cC cD cE cF cG cH) : MCal P w K mg base 44 cG "row" pn2 (sp_M_row K cG) := by
 have sc := sc_M_row
 refine z.d_M_row.cal z.o_Makes fun f fd F => F.k sc fun _ _ _ s H _ Q _ hr h => ?_
 obtain ⟨x, ka, b, j, low, L, rs, cs, r, rfl, M, g, q⟩ := h
 refine ⟨_, (q15 (q19 (pe_fn (q674 z) hr.m (by rfl) (q10 (q68 (pv 0) rfl) (q10 (q39 (q71 z) hr.m (pv 0) (q10 (pv 1) q11)) q11))))), ?_⟩
 obtain ⟨dx, hx⟩ := M.o
 obtain ⟨hw, hl⟩ := M.sz g
 refine ⟨_, rfl, x, _, dx, _, _, rfl, hx, z.o_Makes, z.nB, rfl, _, rfl, x, dx, _, rfl, hx, rfl, _, rfl, x, ka, b, j, low, L, rs, cs, r, rfl, M, g, fun v hv => ?_⟩
 exact ⟨b, v, low, L, r, rfl, SqT.of M.hb, M.hL, hv, by omega, hw, q⟩
theorem lg60 {n : Int} (h0 : -(10 ^ 60) < n) (h1 : n < 10 ^ 60) : n.natAbs.log2 < 1920 := by
 by_cases h : n.natAbs = 0
 ·rw [h]; decide
 ·have h2 : n.natAbs < 2 ^ 200 := Nat.lt_of_lt_of_le (show n.natAbs < 10 ^ 60 by omega) (by decide)
  have : n.natAbs.log2 < 200 := (Nat.log2_lt h).mpr h2
  omega
theorem q142 {n : Int} (h0 : -(10 ^ 50) < n) (h1 : n < 10 ^ 50) : (tx n).length <= 51 := (rd_int (x := tx n) (rd_fg h0 h1)).2
theorem sl51 {n : Nat} (h : n <= 100000) : n <= sizeLine := Nat.le_trans h (by decide)
def BdN (ns : List Int) : Prop := ∀ n ∈ ns, -(10 ^ 50) < n /\ n < 10 ^ 50
theorem join_ok {ns : List Int} (h : BdN ns) (hl : ns.length <= 1000) : JoinOk " " (ns.map tx) = true := by
 refine PyProof.Rows.joinOk_of_weight ?_ (by decide)
 have := StrLaws.sumLen_le (B := 51) (ns.map tx) (fun y hy => by
  obtain ⟨n, hn, rfl⟩ := List.mem_map.mp hy
  exact q142 (h n hn).1 (h n hn).2)
 rw [List.length_map] at this ⊢
 omega
def gTx : V -> V
 | .int n => .str (tx n)
 | v => v
theorem gTx_map (ns : List Int) : (ns.map V.int).map gTx = (ns.map tx).map V.str := by
 rw [List.map_map, List.map_map]
 rfl
theorem q425 {x : Str} {c : Nat} (h : x.cps.toList = c :: r) : Txt.startswith x "-" = decide (c = 45) := by
 have hx : x.length = x.cps.toList.length := by simp [Str.length]
 show (decide (0 + ("-" : Str).length <= x.length) && Builtin.Str.subAt x "-" 0) = _
 rw [StrLaws.subAt_eq, h, hx, h, show ("-" : Str).cps.toList = [45] by decide +kernel, show ("-" : Str).length = 1 by decide +kernel]
 have e1 : decide (0 + 1 <= (c :: r).length) = true := decide_eq_true (by rw [List.length_cons]; omega)
 rw [e1, Bool.true_and]
 show ([c] == [45]) = _
 by_cases z : c = 45
 ·subst z; rfl
 ·rw [decide_eq_false z]
  exact beq_eq_false_iff_ne.mpr fun y => z (List.cons.inj y).1
theorem starts45 {x : Str} (h : x.cps.toList = 45 :: r) : Txt.startswith x "-" = true := by
 rw [q425 h]
 rfl
theorem q583 {x : Str} {c : Nat} (h : x.cps.toList = c :: r) (hc : c ≠ 45) : Txt.startswith x "-" = false := by
 rw [q425 h, decide_eq_false hc]
theorem slice1 {x : Str} {c : Nat} (h : x.cps.toList = c :: r) : Txt.slice x (some 1) none = mkS r := by
 have e := StrLaws.sliceText_from (x := x) (i := 1) (by rw [h, List.length_cons]; omega)
 refine Eq.trans (show Txt.slice x (some 1) none = _ from e) ?_
 rw [h]
 show (⟨((r).take (((c :: r).length : Int) - 1).toNat).toArray⟩ : Str) = mkS r
 rw [List.take_of_length_le (by rw [List.length_cons]; omega)]
 rfl
inductive sp_show_number (u0 : Fg) (vs : List V) (H : Hp) (Q : VK) (E : XK) : Prop
 | mk (n : Int) (_ : vs = [.int n]) (_ : -(10 ^ 60) < n) (_ : n < 10 ^ 60) (_ : Q (.str (tx n)) H) : sp_show_number u0 vs H Q E
inductive sp_show_row (K : Fg) (vs : List V) (H : Hp) (Q : VK) (E : XK) : Prop
 | mk (r : Addr) (ns : List Int) (_ : vs = [.ref r]) (_ : SqL K H r (ns.map V.int)) (_ : BdN ns) (_ : ns.length <= 1000) (_ : ∀ H', Same H H' -> Q (.str (rowT ns)) H') : sp_show_row K vs H Q E
inductive sp_are_figures (u0 : Fg) (vs : List V) (H : Hp) (Q : VK) (E : XK) : Prop
 | mk (x : Str) (_ : vs = [.str x]) (_ : x.length <= 100000) (_ : ∀ H', Same H H' -> Q (.bl (figB x.cps.toList)) H') : sp_are_figures u0 vs H Q E
inductive sp_read_number (u0 : Fg) (vs : List V) (H : Hp) (Q : VK) (E : XK) : Prop
 | mk (x : Str) (n : Int) (_ : vs = [.str x]) (_ : rdN x.cps.toList = some n) (_ : ∀ H', Same H H' -> Q (.int n) H') : sp_read_number u0 vs H Q E
theorem q57 (z : Bz K mg cA cB cC cD cE cF cG cH) : Cal P w K mg base 1 "show_number" ["number"] (sp_show_number K) := by
 have sc := q261
 refine z.d_show_number.cal fun f fd F => F.k sc fun _ _ _ s H _ Q _ hr h => ?_
 obtain ⟨n, rfl, h0, h1, q⟩ := h
 refine ⟨_, (q15 (q19 (q32 q37 (by rfl) z.str_ q88 (q10 (pv 0) q11)))), ?_⟩
 exact ⟨_, rfl, n, rfl, lg60 h0 h1, q⟩
theorem q254 (z : Bz K mg cA cB cC cD cE cF cG cH) : Cal P w K mg base 2 "show_row" ["row"] (sp_show_row K) := by
 have sc := q449
 refine z.d_show_row.cal fun f fd F => F.k sc fun _ _ _ s H _ Q _ hr h => ?_
 obtain ⟨r, ns, rfl, hS, hb, hl, q⟩ := h
 refine ⟨_, (q15 (q19 (pe_bm PySem.F.plainAttrs_str PySem.F.slot_str_join PySem.F.type_str_join q145 q22 (q10 (q64 (cl := []) (cn := []) (N := []) (fr := []) (sc0 := q17 q175) rfl (q46 (pv 0)) (fun C s₂ H₂ fp => (pe_fn (q57 z) hr.m (by rfl) (q10 (pv 0) q11))) (by with_unfolding_all rfl) trivial rfl rfl rfl cok rfl) q11)))), ?_⟩
 refine ⟨rfl, _, rfl, r, rfl, ⟨_, hS⟩, fun D hD => q283 (K := K) (xs := ns.map V.int) (g := gTx) hS hD (by rw [List.length_map]; exact sl51 (by omega)) ?_ ?_⟩
 ·rintro x hx H1 Q1 s1 q1
  obtain ⟨n, hn, rfl⟩ := List.mem_map.mp hx
  have := hb n hn
  exact ⟨_, rfl, n, rfl, by omega, by omega, q1⟩
 ·rw [gTx_map]
  exact ⟨" ", D, ns.map tx, rfl, rfl, SqL.of q14, join_ok hb hl, q _ (q16 hD _)⟩
theorem q269 (z : Bz K mg cA cB cC cD cE cF cG cH) : Cal P w K mg base 1 "are_figures" ["text"] (sp_are_figures K) := by
 have sc := q263
 refine z.d_are_figures.cal fun f fd F => F.k sc fun _ _ _ s H _ Q _ hr h => ?_
 obtain ⟨x, rfl, hl, q⟩ := h
 obtain ⟨_, ft, hft, rfl⟩ := z.fig
 refine ⟨_, (q12 (ps_if (PW.pt (pw_or (q356 (pt_chain op_le op_le q13 (q76 q367 (by rfl) z.len_ bt_len (q10 (pv 0) q11)) q13)) (q80 (PW.pt (q271 (q18 op_eq (pix ix_str (pv 0) q13) q22 (q21 _)) (q173 (q18 op_ne (pv 0) q22 (q21 _))))))))
 (q15 (q19 pe_bl))
 q20)
 (q15 (q19 (q76 (call_all rfl) (by rfl) z.all_ bt_all (q10 (q64 (cl := []) (cn := []) (N := []) (fr := []) (sc0 := q17 q105) rfl (pi_str (pv 0)) (fun C s₂ H₂ fp => (q308 q597 (pv 0) (q436 (v := .str "0123456789") (u := .str "0123456789" ft) (by rfl) hft ⟨_, rfl⟩) rfl)) (by with_unfolding_all rfl) trivial rfl rfl rfl cok rfl) q11))))), ?_⟩
 have hz : x.length <= sizeLine := sl51 hl
 have hx : x.length = x.cps.toList.length := by simp [Str.length]
 have fin : (1 <= x.cps.toList.length /\ x.cps.toList.length <= 50) -> (!(decide (x.cps.toList.head? = some 48) && !decide (x.cps.toList = [48]))) = true -> ∀ D, H D = none -> Q (.bl (((x.cps.toList.map isD).all id))) (upd H D (.lst (x.cps.toList.map fun c => V.bl (isD c)))) := fun h1 h2 D hD => by
  have e : figB x.cps.toList = (x.cps.toList.map isD).all id := by
   unfold figB
   rw [decide_eq_true h1.1, decide_eq_true h1.2, h2, List.all_map]
   rfl
  rw [<- e]
  exact q _ (q16 hD _)
 have no : ∀ b : Bool, figB x.cps.toList = b -> Q (.bl b) H := fun b e => by rw [<- e]; exact q H (Same.refl H)
 refine ⟨_, rfl, x, rfl, hz, _, _, rfl, rfl, _, rfl, ?_⟩
 rw [hx]
 by_cases c1 : 1 <= x.cps.toList.length
 ·rw [decide_eq_true (show (1 : Int) <= (x.cps.toList.length : Int) by omega)]
  refine iteT ⟨_, _, rfl, rfl, _, rfl, ?_⟩
  by_cases c2 : x.cps.toList.length <= 50
  ·rw [decide_eq_true (show (x.cps.toList.length : Int) <= 50 by omega)]
   refine iteF ?_
   cases e : x.cps.toList with
   | nil => rw [e] at c1; exact absurd c1 (by decide)
   | cons c r =>
    refine ⟨_, rfl, x, 0, c, rfl, rfl, hz, by rw [e]; exact q41 (j := 0) rfl, rfl, _, rfl, ?_⟩
    by_cases c3 : c = 48
    ·subst c3
     rw [decide_eq_true (show V.str ⟨#[48]⟩ = V.str "0" from congrArg V.str (by decide +kernel))]
     refine iteT ⟨_, rfl, rfl, _, rfl, ?_⟩
     by_cases c4 : r = []
     ·subst c4
      rw [decide_eq_true (show V.str x = V.str "0" from congrArg V.str (q678 (by rw [e]; decide +kernel)))]
      refine iteF ?_
      exact ⟨_, rfl, x, rfl, fun D hD => q500 (x := x) (g := fun c => V.bl (isD c)) hD hz (fun c hc H1 Q1 s1 q1 => ⟨_, rfl, ⟨#[c]⟩, "0123456789", rfl, rfl, by rw [StrLaws.found_one]; exact q1⟩)
   ⟨D, x.cps.toList.map isD, rfl, SqL.of (by rw [List.map_map]; exact q14), fin ⟨c1, c2⟩ (by rw [e]; decide) D hD⟩⟩
     ·rw [decide_eq_false (show ¬ V.str x = V.str "0" from fun z => c4 (by
       have z1 : x.cps.toList = [48] := by rw [V.str.inj z]; decide +kernel
       rw [e] at z1
       exact (List.cons.inj z1).2))]
      refine iteT ?_
      refine no _ ?_
      unfold figB
      rw [e, decide_eq_false (show ¬ 48 :: r = [48] from fun z => c4 (List.cons.inj z).2)]
      simp
    ·rw [decide_eq_false (show ¬ V.str ⟨#[c]⟩ = V.str "0" from fun z => c3 (by
      have z1 : [c] = [48] := by
       have z2 := congrArg (fun y : Str => y.cps.toList) (V.str.inj z)
       rw [show ("0" : Str).cps.toList = [48] by decide +kernel] at z2
       exact z2
      exact (List.cons.inj z1).1))]
     refine iteF ?_
     refine iteF ?_
     exact ⟨_, rfl, x, rfl, fun D hD => q500 (x := x) (g := fun c => V.bl (isD c)) hD hz (fun c hc H1 Q1 s1 q1 => ⟨_, rfl, ⟨#[c]⟩, "0123456789", rfl, rfl, by rw [StrLaws.found_one]; exact q1⟩)
   ⟨D, x.cps.toList.map isD, rfl, SqL.of (by rw [List.map_map]; exact q14), fin ⟨c1, c2⟩ (by rw [e, decide_eq_false (show ¬ (c :: r).head? = some 48 from fun z => c3 (Option.some.inj z))]; rfl) D hD⟩⟩
  ·rw [decide_eq_false (show ¬ (x.cps.toList.length : Int) <= 50 by omega)]
   refine iteT ?_
   refine no _ ?_
   unfold figB
   rw [decide_eq_false c2]
   simp
 ·rw [decide_eq_false (show ¬ (1 : Int) <= (x.cps.toList.length : Int) by omega)]
  refine iteF ⟨_, rfl, ?_⟩
  refine iteT ?_
  refine no _ ?_
  unfold figB
  rw [decide_eq_false c1]
  rfl
theorem q270 (z : Bz K mg cA cB cC cD cE cF cG cH) : Cal P w K mg base 2 "read_number" ["text"] (sp_read_number K) := by
 have sc := q262
 refine z.d_read_number.cal fun f fd F => F.k sc fun _ _ _ s H _ Q _ hr h => ?_
 obtain ⟨x, n, rfl, hn, q⟩ := h
 refine ⟨_, (q12 (ps_if (q356 (q486 (q76 q494 (by rfl) z.isinstance_ q151 (q10 (pv 0) (q10 (q588 (v := .ty "str") (u := .type "str") (by rfl) z.str_ q88 rfl) q11)))))
 (q15 q36)
 q20)
 (q12 (pst 1 sc.nd (q93 (q486 (pe_bm PySem.F.plainAttrs_str PySem.F.slot_str_startswith PySem.F.type_str_startswith q633 (pv 0) (q10 q22 q11))) (q40 sl_str (pv 0) (q47 q13) q54) (pv 0)))
 (q12 (ps_if (PW.pt (pw_or (q18 op_eq (pv 0) q22 (q21 _)) (q80 (q356 (q486 (pe_fn (q269 z) hr.m (by rfl) (q10 (pv 1) q11)))))))
 (q15 q36)
 q20)
 (q15 (q19 (q32 q634 (by rfl) z.int_ q612 (q10 (pv 0) q11))))))), ?_⟩
 obtain ⟨hi, hl⟩ := rd_int hn
 have hz : x.length <= sizeLine := sl51 (by omega)
 refine ⟨_, rfl, _, _, _, _, rfl, .str _, q213, true, rfl, ?_⟩
 refine iteF ?_
 refine ⟨_, rfl, rfl, x, "-", rfl, rfl, _, rfl, ?_⟩
 cases e : x.cps.toList with
 | nil => rw [e] at hn; cases hn
 | cons c r =>
  rw [e, q201] at hn
  by_cases c1 : c = 45
  ·subst c1
   rw [if_pos rfl] at hn
   have hf : figB r = true /\ r ≠ [48] := by
    by_cases z : figB r = true /\ r ≠ [48]
    ·exact z
    ·rw [if_neg z] at hn; cases hn
   rw [starts45 e]
   refine iteT ⟨_, rfl, _, rfl, x, rfl, hz, ?_⟩
   rw [slice1 e]
   refine ⟨_, rfl, rfl, _, rfl, ?_⟩
   rw [decide_eq_false (show ¬ V.str x = V.str "-0" from fun z => hf.2 (by
    have z1 : x.cps.toList = [45, 48] := by rw [V.str.inj z]; decide +kernel
    rw [e] at z1
    exact (List.cons.inj z1).2))]
   refine iteF ⟨_, rfl, mkS r, rfl, by rw [mkS_len]; have := (q471 hf.1).2.2; omega, fun H1 s1 => ⟨_, rfl, ?_⟩⟩
   rw [mkS_l, hf.1]
   refine iteF ?_
   exact ⟨_, rfl, x, n, rfl, by omega, hi, q H1 s1⟩
  ·rw [if_neg c1] at hn
   have hf : figB (c :: r) = true := by
    by_cases z : figB (c :: r) = true
    ·exact z
    ·rw [if_neg z] at hn; cases hn
   rw [q583 e c1]
   refine iteF ⟨_, rfl, ?_⟩
   refine ⟨_, rfl, rfl, _, rfl, ?_⟩
   rw [decide_eq_false (show ¬ V.str x = V.str "-0" from fun z => c1 (by
    have z1 : x.cps.toList = [45, 48] := by rw [V.str.inj z]; decide +kernel
    rw [e] at z1
    exact (List.cons.inj z1).1))]
   refine iteF ⟨_, rfl, x, rfl, by omega, fun H1 s1 => ⟨_, rfl, ?_⟩⟩
   rw [e, hf]
   refine iteF ?_
   exact ⟨_, rfl, x, n, rfl, by omega, hi, q H1 s1⟩
theorem own2 (k : Same H H') (hr : H r = none) : Same H (upd H' r o) := fun c u z => by
 rw [q34 (q26 z hr)]
 exact k c u z
theorem q426 (x : Str) (w : Nat) : ∀ (cuts : List Nat) (a : Nat), (StrLaws.partsFrom x w a cuts).length = cuts.length + 1
 | [], a => rfl
 | c :: cs, a => by
  show (_ :: StrLaws.partsFrom x w _ cs).length = _
  rw [List.length_cons, q426 x w cs, List.length_cons]
theorem q203 (x y : Str) : (Builtin.Str.partsBetween x (Builtin.Str.occurrences x y 0 x.length (x.length + 1)) y.length).length <= x.length + 2 := by
 rw [StrLaws.partsBetween_eq, q426]
 have := StrLaws.occ_length_le x y 0 x.length (x.length + 1)
 omega
abbrev P3 := Nat × Nat × Nat
inductive Vl where
 | n (i : Int)
 | s (p : P3)
 | g (ps : List P3)
def p3s (p : P3) : List Int := [(p.1 : Int), (p.2.1 : Int), (p.2.2 : Int)]
def tP (p : P3) : Str := Str.join ⟨#[58]⟩ ((p3s p).map tx)
def tG (ps : List P3) : Str := Str.join ⟨#[43]⟩ (ps.map tP)
def Vl.wd : Vl -> Str
 | .n i => tx i
 | .s p => tP p
 | .g ps => tG ps
abbrev sayT (nm : Str) (xs : List Vl) : Str := Str.join ⟨#[32]⟩ (nm :: xs.map Vl.wd)
def SmP (p : P3) : Prop := p.1 <= 1000 /\ p.2.1 <= 1000 /\ p.2.2 <= 1000
def VlOk (k : Str) : Vl -> Prop
 | .n i => (-(10 ^ 50) < i /\ i < 10 ^ 50) /\ ((k = "count" /\ 0 <= i) \/ k = "number" \/ (k = "part" /\ 1 <= i))
 | .s p => k = "stretch" /\ SmP p
 | .g ps => k = "gathering" /\ ps ≠ [] /\ ps.length <= 8 /\ ∀ p ∈ ps, SmP p
def PtAt (K : Fg) (H : Hp) (v : V) (p : P3) : Prop := ∃ a, v = .ref a /\ SqT K H a ((p3s p).map V.int)
def PtsAt (K : Fg) (H : Hp) (xs : List V) (ps : List P3) : Prop := xs.length = ps.length /\ ∀ (j : Nat) (x : V) (p : P3), xs[j]? = some x -> ps[j]? = some p -> PtAt K H x p
def VlAt (K : Fg) (H : Hp) (v : V) : Vl -> Prop
 | .n i => v = .int i
 | .s p => PtAt K H v p
 | .g ps => ∃ D xs, v = .ref D /\ SqL K H D xs /\ PtsAt K H xs ps
def VlsAt (K : Fg) (H : Hp) (xs : List V) (ys : List Vl) : Prop := xs.length = ys.length /\ ∀ (j : Nat) (x : V) (y : Vl), xs[j]? = some x -> ys[j]? = some y -> VlAt K H x y
theorem PtAt.same (h : PtAt K H v p) (s : Same H H') : PtAt K H' v p := by
 obtain ⟨a, e, h⟩ := h
 exact ⟨a, e, s.seqT h⟩
theorem PtsAt.same (h : PtsAt K H xs ps) (s : Same H H') : PtsAt K H' xs ps := ⟨h.1, fun j x p h1 h2 => (h.2 j x p h1 h2).same s⟩
theorem VlAt.same (h : VlAt K H v x) (s : Same H H') : VlAt K H' v x := by
 cases x with
 | n i => exact h
 | s p => exact PtAt.same h s
 | g ps =>
  obtain ⟨D, xs, e, h1, h2⟩ := h
  exact ⟨D, xs, e, s.seq h1, h2.same s⟩
theorem q345 (k : Keep D H H') (e : H D = some (.lst zs)) (h : SqT K H a xs) : SqT K H' a xs := by
 rcases h with h | h
 ·rcases h with h | ⟨o, h⟩
  ·exact .inl (.inl (k _ _ (ne_of h e (by intro z; cases z)) h))
  ·exact .inl (.inr ⟨o, k _ _ (ne_of h e (by intro z; cases z)) h⟩)
 ·exact .inr h
theorem q692 {α : Type} {R : V -> α -> Prop} {xs : List V} {ps : List α} {x : V} {p : α} (h : xs.length = ps.length /\ ∀ (j : Nat) (x : V) (p : α), xs[j]? = some x -> ps[j]? = some p -> R x p) (hx : R x p) : (xs ++ [x]).length = (ps ++ [p]).length /\ ∀ (j : Nat) (y : V) (q : α), (xs ++ [x])[j]? = some y -> (ps ++ [p])[j]? = some q -> R y q := by
 refine ⟨by rw [List.length_append, List.length_append, h.1] <;> rfl, fun j y k h1 h2 => ?_⟩
 have hl := h.1
 rcases q130 h1 with ⟨a1, a2⟩ | ⟨a1, a2⟩
 ·rcases q130 h2 with ⟨b1, b2⟩ | ⟨b1, b2⟩
  ·exact h.2 j y k a2 b2
  ·omega
 ·rcases q130 h2 with ⟨b1, b2⟩ | ⟨b1, b2⟩
  ·omega
  ·rw [a2, b2]; exact hx
theorem q346 {c d : Nat} : ∀ {xs : List Str}, d ∈ (Str.join ⟨#[c]⟩ xs).cps.toList -> d = c \/ ∃ x ∈ xs, d ∈ x.cps.toList
 | [], h => by
  have e : (Str.join ⟨#[c]⟩ []).cps.toList = [] := rfl
  rw [e] at h
  cases h
 | [x], h => .inr ⟨x, List.mem_cons_self .., h⟩
 | x :: y :: r, h => by
  rw [q101, List.mem_append, List.mem_append] at h
  rcases h with h | h | h
  ·exact .inr ⟨x, List.mem_cons_self .., h⟩
  ·exact .inl (by simpa using h)
  ·rcases q346 h with e | ⟨z, h1, h2⟩
   ·exact .inl e
   ·exact .inr ⟨z, List.mem_cons_of_mem _ h1, h2⟩
theorem q171 {c B : Nat} : ∀ (xs : List Str), (∀ p ∈ xs, p.length <= B) -> (Str.join ⟨#[c]⟩ xs).length <= xs.length * (B + 1)
 | [], _ => by
  show (Str.join ⟨#[c]⟩ []).length <= 0 * _
  rw [Nat.zero_mul]
  exact Nat.le_refl 0
 | [x], h => by
  have := h x (List.mem_cons_self ..)
  show x.length <= 1 * (B + 1)
  omega
 | x :: y :: r, h => by
  have h1 := h x (List.mem_cons_self ..)
  have e : ∀ z : Str, z.length = z.cps.toList.length := fun z => by simp [Str.length]
  have ih := q171 (c := c) (y :: r) fun p hp => h p (List.mem_cons_of_mem _ hp)
  rw [e] at ih h1 ⊢
  rw [q101, List.length_append, List.length_append]
  show _ + (1 + _) <= ((y :: r).length + 1) * (B + 1)
  rw [Nat.add_mul]
  omega
theorem q693 {n : Nat} {c : Nat} (hc : c < 48 \/ 57 < c) : c ∉ fg (n : Int) := fun h => by
 have := q414 n c h
 omega
theorem q347 {c : Nat} (hc : c < 48 \/ 58 < c) : c ∉ (tP p).cps.toList := fun h => by
 rcases q346 h with e | ⟨x, h1, h2⟩
 ·omega
 ·obtain ⟨i, hi, rfl⟩ := List.mem_map.mp h1
  have hi' : i = (p.1 : Int) \/ i = (p.2.1 : Int) \/ i = (p.2.2 : Int) := by simpa [p3s] using hi
  rcases hi' with rfl | rfl | rfl <;> exact q693 (by omega) h2
theorem wd_free (x : Vl) : 32 ∉ x.wd.cps.toList := by
 cases x with
 | n i => exact fg_no32
 | s p => exact q347 (.inl (by decide))
 | g ps =>
  intro h
  rcases q346 h with e | ⟨x, h1, h2⟩
  ·exact absurd e (by decide)
  ·obtain ⟨p, _, rfl⟩ := List.mem_map.mp h1
   exact q347 (.inl (by decide)) h2
theorem q95 {n : Nat} (h : n <= 1000) : (tx (n : Int)).length <= 51 := q142 (by omega) (by omega)
theorem q427 (h : SmP p) : (tP p).length <= 156 := q171 (B := 51) _ fun x hx => by
 obtain ⟨i, hi, rfl⟩ := List.mem_map.mp hx
 have hi' : i = (p.1 : Int) \/ i = (p.2.1 : Int) \/ i = (p.2.2 : Int) := by simpa [p3s] using hi
 rcases hi' with rfl | rfl | rfl
 ·exact q95 h.1
 ·exact q95 h.2.1
 ·exact q95 h.2.2
theorem q694 {x : Vl} (h : VlOk k x) : x.wd.length <= 1300 := by
 cases x with
 | n i => exact Nat.le_trans (q142 h.1.1 h.1.2) (by decide)
 | s p => exact Nat.le_trans (q427 h.2) (by decide)
 | g ps =>
  have := q171 (c := 43) (B := 156) (ps.map tP) fun x hx => by
   obtain ⟨p, hp, rfl⟩ := List.mem_map.mp hx
   exact q427 (h.2.2.2 p hp)
  rw [List.length_map] at this
  have h8 := Nat.mul_le_mul h.2.2.1 (Nat.le_refl (156 + 1))
  exact Nat.le_trans this (Nat.le_trans h8 (by decide))
structure Say (nm : Str) (ks : List Str) (xs : List Vl) : Prop where
 len : ks.length = xs.length
 few : xs.length <= 200
 kd : (nm = "row" /\ ks = List.replicate xs.length ("number" : Str)) \/ (nm, ks) ∈ forms
 val : ∀ (i : Nat) (k : Str) (x : Vl), ks[i]? = some k -> xs[i]? = some x -> VlOk k x
def nms : List Str := "row" :: forms.map (·.1)
theorem Say.nm {nm : Str} {ks : List Str} {xs : List Vl} (s : Say nm ks xs) : nm ∈ nms := by
 rcases s.kd with ⟨h, _⟩ | h
 ·rw [h]; exact List.mem_cons_self ..
 ·exact List.mem_cons_of_mem _ (List.mem_map_of_mem (f := (·.1)) h)
theorem nms_free : ∀ x ∈ nms, 32 ∉ x.cps.toList := by decide +kernel
theorem nms_len : ∀ x ∈ nms, x.length <= 7 := by decide +kernel
theorem nms_lead : ∀ x ∈ nms, inV (.str x) [.str "paper", .str "shows"] = false := by decide +kernel
theorem q695 {xs : List Vl} (s : Say nm ks xs) : Txt.split (sayT nm xs) " " = nm :: xs.map Vl.wd := by
 rw [spc]
 refine q129 (by simp) fun p hp => ?_
 rcases List.mem_cons.mp hp with rfl | hp
 ·exact nms_free _ s.nm
 ·obtain ⟨m, _, rfl⟩ := List.mem_map.mp hp
  exact wd_free m
theorem say_len (s : Say nm ks xs) : (sayT nm xs).length <= 300000 := by
 have hl := s.len
 have := q171 (c := 32) (B := 1300) (nm :: xs.map Vl.wd) fun p hp => by
  rcases List.mem_cons.mp hp with rfl | hp
  ·exact Nat.le_trans (nms_len _ s.nm) (by decide)
  ·obtain ⟨m, hm, rfl⟩ := List.mem_map.mp hp
   obtain ⟨i, hi, e⟩ := List.getElem_of_mem hm
   exact q694 (s.val i ks[i] m (List.getElem?_eq_getElem (by omega)) (by rw [<- e]; exact List.getElem?_eq_getElem hi))
 have hf := s.few
 rw [List.length_cons, List.length_map] at this
 have h2 : (xs.length + 1) * (1300 + 1) <= 201 * 1301 := Nat.mul_le_mul (by omega) (by decide)
 exact Nat.le_trans this (by omega)
theorem sl300 {n : Nat} (h : n <= 400000) : n <= sizeLine := Nat.le_trans h (by decide)
def Fr (H : Hp) (v : V) : Prop := ∀ a, v = .ref a -> H a = none
inductive sp_number_of (u0 : Fg) (vs : List V) (H : Hp) (Q : VK) (E : XK) : Prop
 | mk (n : Int) (_ : vs = [.str (tx n)]) (_ : -(10 ^ 50) < n) (_ : n < 10 ^ 50) (_ : ∀ H', Same H H' -> Q (.int n) H') : sp_number_of u0 vs H Q E
inductive sp_count_of (u0 : Fg) (vs : List V) (H : Hp) (Q : VK) (E : XK) : Prop
 | mk (n : Int) (_ : vs = [.str (tx n)]) (_ : 0 <= n) (_ : n < 10 ^ 50) (_ : ∀ H', Same H H' -> Q (.int n) H') : sp_count_of u0 vs H Q E
inductive sp_part_of (u0 : Fg) (vs : List V) (H : Hp) (Q : VK) (E : XK) : Prop
 | mk (n : Int) (_ : vs = [.str (tx n)]) (_ : 1 <= n) (_ : n < 10 ^ 50) (_ : ∀ H', Same H H' -> Q (.int n) H') : sp_part_of u0 vs H Q E
inductive sp_spot_of (K : Fg) (vs : List V) (H : Hp) (Q : VK) (E : XK) : Prop
 | mk (p : P3) (_ : vs = [.str (tP p)]) (_ : SmP p) (_ : ∀ v H', Same H H' -> PtAt K H' v p -> Fr H v -> Q v H') : sp_spot_of K vs H Q E
inductive sp_spots_of (K : Fg) (vs : List V) (H : Hp) (Q : VK) (E : XK) : Prop
 | mk (ps : List P3) (_ : vs = [.str (tG ps)]) (_ : ps ≠ []) (_ : ps.length <= 8) (_ : (∀ p ∈ ps, SmP p)) (_ : ∀ (D : Addr) (xs : List V) (H' : Hp), Same H H' -> H' D = some (.lst xs) -> PtsAt K H' xs ps -> H D = none -> Q (.ref D) H') : sp_spots_of K vs H Q E
inductive sp_value_of (K : Fg) (vs : List V) (H : Hp) (Q : VK) (E : XK) : Prop
 | mk (k : Str) (x : Vl) (_ : vs = [.str k, .str x.wd]) (_ : VlOk k x) (_ : ∀ v H', Same H H' -> VlAt K H' v x -> Fr H v -> Q v H') : sp_value_of K vs H Q E
inductive sp_values_of (K : Fg) (vs : List V) (H : Hp) (Q : VK) (E : XK) : Prop
 | mk (ka wa : Addr) (nm : Str) (ks : List Str) (xs : List Vl) (_ : vs = [.ref ka, .ref wa]) (_ : Say nm ks xs) (_ : SqT K H ka (ks.map V.str)) (_ : SqL K H wa ((xs.map Vl.wd).map V.str)) (_ : ∀ (D : Addr) (ys : List V) (H' : Hp), Same H H' -> H' D = some (.lst ys) -> VlsAt K H' ys xs -> Q (.ref D) H') : sp_values_of K vs H Q E
inductive sp_kinds_of (K : Fg) (vs : List V) (H : Hp) (Q : VK) (E : XK) : Prop
 | mk (nm : Str) (ks : List Str) (xs : List Vl) (_ : vs = [.str "", .str nm, .int (xs.length : Int)]) (_ : Say nm ks xs) (_ : ∀ (a : Addr) (H' : Hp), Same H H' -> SqT K H' a (ks.map V.str) -> Q (.ref a) H') : sp_kinds_of K vs H Q E
inductive sp_read_said (K : Fg) (vs : List V) (H : Hp) (Q : VK) (E : XK) : Prop
 | mk (nm : Str) (ks : List Str) (xs : List Vl) (_ : vs = [.str (sayT nm xs)]) (_ : Say nm ks xs) (_ : ∀ (p D : Addr) (ys : List V) (H' : Hp), Same H H' -> H' p = some (.tup [.str "", .str nm, .ref D]) -> H' D = some (.lst ys) -> VlsAt K H' ys xs -> Q (.ref p) H') : sp_read_said K vs H Q E
theorem weq (h : a = b) : decide (V.str a = V.str b) = true := decide_eq_true (congrArg V.str h)
theorem wne (h : a ≠ b) : decide (V.str a = V.str b) = false := decide_eq_false fun z => h (V.str.inj z)
theorem q124 (z : Bz K mg cA cB cC cD cE cF cG cH) : Cal P w K mg base 3 "number_of" pn15 (sp_number_of K) := by
 have sc := q398
 refine z.d_number_of.cal fun f fd F => F.k sc fun _ _ _ s H _ Q _ hr h => ?_
 obtain ⟨n, rfl, h0, h1, q⟩ := h
 refine ⟨_, (q15 (ps_tryN rfl (q15 (q19 (pe_fn (q270 z) hr.m (by rfl) (q10 (pv 0) q11)))))), ?_⟩
 exact ⟨_, rfl, tx n, n, rfl, rd_fg h0 h1, q⟩
theorem q255 (z : Bz K mg cA cB cC cD cE cF cG cH) : Cal P w K mg base 4 "count_of" pn15 (sp_count_of K) := by
 have sc := q451
 refine z.d_count_of.cal fun f fd F => F.k sc fun _ _ _ s H _ Q _ hr h => ?_
 obtain ⟨n, rfl, h0, h1, q⟩ := h
 refine ⟨_, (q12 (pst 1 sc.nd (pe_fn (q124 z) hr.m (by rfl) (q10 (pv 0) q11)))
 (q12 (ps_if (q18 op_lt (pv 1) q13 (q21 _))
 (q15 q36)
 q20)
 (q15 (q19 (pv 1))))), ?_⟩
 refine ⟨_, rfl, n, rfl, by omega, h1, fun H1 s1 => ⟨_, rfl, _, _, rfl, rfl, _, rfl, ?_⟩⟩
 refine ite2 (fun c => absurd (of_decide_eq_true c) (by omega)) (fun _ => ?_)
 exact ⟨_, rfl, q H1 s1⟩
theorem q584 (z : Bz K mg cA cB cC cD cE cF cG cH) : Cal P w K mg base 4 "part_of" pn15 (sp_part_of K) := by
 have sc := q568
 refine z.d_part_of.cal fun f fd F => F.k sc fun _ _ _ s H _ Q _ hr h => ?_
 obtain ⟨n, rfl, h0, h1, q⟩ := h
 refine ⟨_, (q12 (pst 1 sc.nd (pe_fn (q124 z) hr.m (by rfl) (q10 (pv 0) q11)))
 (q12 (ps_if (q18 op_lt (pv 1) q13 (q21 _))
 (q15 q36)
 q20)
 (q15 (q19 (pv 1))))), ?_⟩
 refine ⟨_, rfl, n, rfl, by omega, h1, fun H1 s1 => ⟨_, rfl, _, _, rfl, rfl, _, rfl, ?_⟩⟩
 refine ite2 (fun c => absurd (of_decide_eq_true c) (by omega)) (fun _ => ?_)
 exact ⟨_, rfl, q H1 s1⟩
theorem q304 (z : Bz K mg cA cB cC cD cE cF cG cH) : Cal P w K mg base 5 "spot_of" pn15 (sp_spot_of K) := by
 have sc := q569
 refine z.d_spot_of.cal fun f fd F => F.k sc fun _ _ _ s H _ Q _ hr h => ?_
 obtain ⟨p, rfl, hp, q⟩ := h
 refine ⟨_, (q12 (pst 1 sc.nd (pe_bm PySem.F.plainAttrs_str PySem.F.slot_str_split PySem.F.type_str_split q198 (pv 0) (q10 q22 q11)))
 (q12 (ps_if (q18 op_ne (pln z.len_ (q10 (pv 1) q11)) q13 (q21 _))
 (q15 q36)
 q20)
 (q15 (q19 (q32 q312 (by rfl) z.tuple_ q126 (q10 (q64 (cl := []) (cn := []) (N := []) (fr := []) (sc0 := q17 q231) rfl (q46 (pv 1)) (fun C s₂ H₂ fp => (pe_fn (q255 z) hr.m (by rfl) (q10 (pv 0) q11))) (by with_unfolding_all rfl) trivial rfl rfl rfl cok rfl) q11)))))), ?_⟩
 have hl := q427 hp
 have hc := q203 (tP p) ":"
 have hs : Txt.split (tP p) ":" = (p3s p).map tx := by
  rw [show (":" : Str) = ⟨#[58]⟩ by decide +kernel]
  refine q129 (by simp [p3s]) fun x hx => ?_
  obtain ⟨i, hi, rfl⟩ := List.mem_map.mp hx
  have hi' : i = (p.1 : Int) \/ i = (p.2.1 : Int) \/ i = (p.2.2 : Int) := by simpa [p3s] using hi
  rcases hi' with rfl | rfl | rfl <;> exact q693 (.inr (by decide))
 refine ⟨_, rfl, rfl, _, ":", rfl, rfl, by decide +kernel, sl51 (by omega), sl51 (by omega), by rw [hs, List.length_map]; exact sl51 (by show 3 <= _; decide), fun l hl1 => ?_⟩
 rw [hs]
 obtain ⟨H1, gz, s1, e1⟩ := nwH hl1 (.lst (((p3s p).map tx).map V.str))
 rw [gz]
 refine ⟨_, rfl, l, _, rfl, .inl (SqL.of e1), rfl, _, rfl, iteNS rfl ?_⟩
 refine ⟨_, rfl, l, rfl, ⟨_, SqL.of e1⟩, fun D hD => q61 (K := K) (xs := ((p3s p).map tx).map V.str) (sl51 (by show 3 <= _; decide))
  (fun i ys H2 => ys = ((p3s p).take i).map V.int /\ i <= 3 /\ Same H1 H2 /\ H2 D = some (.lst ys)) ⟨rfl, Nat.zero_le _, q16 hD _, q14⟩
  (fun i ys H2 ⟨_, _, k2, _⟩ => SqL.of (k2 _ _ e1)) (fun i ys H2 ⟨e, hi, _, h4⟩ => ⟨h4, by rw [e, List.length_map, List.length_take]; show min i 3 = i; omega⟩) ?_ ?_⟩
 ·rintro i v ys H2 hv ⟨e, hi, k2, h4⟩
  rw [List.getElem?_map, List.getElem?_map] at hv
  cases hy : (p3s p)[i]? with
  | none => rw [hy] at hv; cases hv
  | some n =>
   rw [hy] at hv
   cases hv
   have hi' : n = (p.1 : Int) \/ n = (p.2.1 : Int) \/ n = (p.2.2 : Int) := by simpa [p3s] using List.mem_of_getElem? hy
   have hn : 0 <= n /\ n < 10 ^ 50 := by
    have := hp.1
    have := hp.2.1
    have := hp.2.2
    rcases hi' with rfl | rfl | rfl <;> omega
   refine ⟨_, rfl, n, rfl, hn.1, hn.2, fun H3 s3 => ⟨s3 _ _ h4, ?_, ?_, own2 (k2.trans s3) hD, q14⟩⟩
   ·rw [e, List.take_add_one, hy, List.map_append]
    rfl
   ·have : i < 3 := (List.getElem?_eq_some_iff.mp hy).1
    omega
 ·rintro ys H2 ⟨e, hi, k2, h4⟩
  have e' : ys = (p3s p).map V.int := e
  rw [e'] at h4
  refine ⟨D, _, rfl, .inl ⟨SqL.of h4, fun t ht => ?_⟩⟩
  exact q _ _ (s1.trans (k2.trans (q16 ht _))) ⟨t, rfl, SqT.of q14⟩ fun a ha => by cases ha; exact (s1.trans k2).free ht
theorem q481 (z : Bz K mg cA cB cC cD cE cF cG cH) : Cal P w K mg base 6 "spots_of" pn15 (sp_spots_of K) := by
 have sc := q452
 refine z.d_spots_of.cal fun f fd F => F.k sc fun _ _ _ s H _ Q _ hr h => ?_
 obtain ⟨ps, rfl, hne, h8, hp, q⟩ := h
 refine ⟨_, (q12 (pst 1 sc.nd (pe_bm PySem.F.plainAttrs_str PySem.F.slot_str_split PySem.F.type_str_split q198 (pv 0) (q10 q22 q11)))
 (q12 (ps_if (q18 op_gt (pln z.len_ (q10 (pv 1) q11)) q13 (q21 _))
 (q15 q36)
 q20)
 (q15 (q19 (q64 (cl := []) (cn := []) (N := []) (fr := []) (sc0 := q17 q176) rfl (q46 (pv 1)) (fun C s₂ H₂ fp => (pe_fn (q304 z) hr.m (by rfl) (q10 (pv 0) q11))) (by with_unfolding_all rfl) trivial rfl rfl rfl cok rfl))))), ?_⟩
 have hl : (tG ps).length <= 1300 := q694 (x := .g ps) (k := "gathering") ⟨rfl, hne, h8, hp⟩
 have hc := q203 (tG ps) "+"
 have hs : Txt.split (tG ps) "+" = ps.map tP := by
  rw [show ("+" : Str) = ⟨#[43]⟩ by decide +kernel]
  refine q129 (by simpa using hne) fun x hx => ?_
  obtain ⟨i, hi, rfl⟩ := List.mem_map.mp hx
  exact q347 (.inl (by decide))
 refine ⟨_, rfl, rfl, _, "+", rfl, rfl, by decide +kernel, sl51 (by omega), sl51 (by omega), by rw [hs, List.length_map]; exact sl51 (by omega), fun l hl1 => ?_⟩
 rw [hs]
 obtain ⟨H1, gz, s1, e1⟩ := nwH hl1 (.lst ((ps.map tP).map V.str))
 rw [gz]
 have hlen : ((ps.map tP).map V.str).length = ps.length := by rw [List.length_map, List.length_map]
 refine ⟨_, rfl, l, _, rfl, .inl (SqL.of e1), _, _, rfl, rfl, _, rfl, ?_⟩
 rw [hlen]
 refine ite2 (fun c => absurd (of_decide_eq_true c) (by omega)) (fun _ => ?_)
 refine ⟨_, rfl, l, rfl, ⟨_, SqL.of e1⟩, fun D hD => q61 (K := K) (xs := (ps.map tP).map V.str) (by rw [hlen]; exact sl51 (by omega))
  (fun i ys H2 => H2 D = some (.lst ys) /\ ys.length = i /\ Same H1 H2 /\ PtsAt K H2 ys (ps.take i)) ⟨q14, rfl, q16 hD _, ⟨rfl, fun j x p h1 _ => by cases h1⟩⟩
  (fun i ys H2 ⟨_, _, k2, _⟩ => SqL.of (k2 _ _ e1)) (fun i ys H2 ⟨h4, e, _, _⟩ => ⟨h4, e⟩) ?_ ?_⟩
 ·rintro i v ys H2 hv ⟨h4, e, k2, hA⟩
  rw [List.getElem?_map, List.getElem?_map] at hv
  cases hy : ps[i]? with
  | none => rw [hy] at hv; cases hv
  | some p =>
   rw [hy] at hv
   cases hv
   refine ⟨_, rfl, p, rfl, hp p (List.mem_of_getElem? hy), fun v H3 s3 hv3 _ => ?_⟩
   have e3 := s3 _ _ h4
   have kD : Keep D H3 (upd H3 D (.lst (ys ++ [v]))) := Keep.set D H3 _
   refine ⟨e3, q14, by rw [List.length_append, e] <;> rfl, own2 (k2.trans s3) hD, ?_⟩
   rw [List.take_add_one, hy]
   have up : ∀ x p, PtAt K H3 x p -> PtAt K (upd H3 D (.lst (ys ++ [v]))) x p := fun x p ⟨a, e, h⟩ => ⟨a, e, q345 kD e3 h⟩
   exact q692 ⟨hA.1, fun j x p h1 h2 => up x p ((hA.2 j x p h1 h2).same s3)⟩ (up v p hv3)
 ·rintro ys H2 ⟨h4, e, k2, hA⟩
  rw [hlen, List.take_length] at hA
  exact q D ys H2 (s1.trans k2) h4 hA (s1.free hD)
theorem q482 (z : Bz K mg cA cB cC cD cE cF cG cH) : Cal P w K mg base 7 "value_of" ["kind", "word"] (sp_value_of K) := by
 have sc := q454
 refine z.d_value_of.cal fun f fd F => F.k sc fun _ _ _ s H _ Q _ hr h => ?_
 obtain ⟨k, x, rfl, hk, q⟩ := h
 refine ⟨_, (q12 (ps_if (q18 op_eq (pv 0) q22 (q21 _))
 (q15 (q19 (pe_fn (q255 z) hr.m (by rfl) (q10 (pv 1) q11))))
 q20)
 (q12 (ps_if (q18 op_eq (pv 0) q22 (q21 _))
 (q15 (q19 (pe_fn (q124 z) hr.m (by rfl) (q10 (pv 1) q11))))
 q20)
 (q12 (ps_if (q18 op_eq (pv 0) q22 (q21 _))
 (q15 (q19 (pe_fn (q584 z) hr.m (by rfl) (q10 (pv 1) q11))))
 q20)
 (q12 (ps_if (q18 op_eq (pv 0) q22 (q21 _))
 (q15 (q19 (pe_fn (q304 z) hr.m (by rfl) (q10 (pv 1) q11))))
 q20)
 (q12 (ps_if (q18 op_eq (pv 0) q22 (q21 _))
 (q15 (q19 (pe_fn (q481 z) hr.m (by rfl) (q10 (pv 1) q11))))
 q20)
 (q12 q36
 (q12 q36
 (q12 q36
 (q15 q36))))))))), ?_⟩
 refine ⟨_, rfl, rfl, _, rfl, ?_⟩
 cases x with
 | n i =>
  obtain ⟨⟨h0, h1⟩, hk⟩ := hk
  have fin : ∀ H', Same H H' -> Q (.int i) H' := fun H' s' => q _ H' s' rfl (fun a ha => by cases ha)
  rcases hk with ⟨rfl, hk⟩ | rfl | ⟨rfl, hk⟩
  ·rw [weq rfl]
   exact iteT ⟨_, rfl, i, rfl, hk, h1, fin⟩
  ·rw [wne (by decide +kernel)]
   refine iteF ⟨_, rfl, rfl, _, rfl, ?_⟩
   rw [weq rfl]
   exact iteT ⟨_, rfl, i, rfl, h0, h1, fin⟩
  ·rw [wne (by decide +kernel)]
   refine iteF ⟨_, rfl, rfl, _, rfl, ?_⟩
   rw [wne (by decide +kernel)]
   refine iteF ⟨_, rfl, rfl, _, rfl, ?_⟩
   rw [weq rfl]
   exact iteT ⟨_, rfl, i, rfl, hk, h1, fin⟩
 | s p =>
  obtain ⟨rfl, hp⟩ := hk
  iterate 3 (rw [wne (by decide +kernel)]; refine iteF ⟨_, rfl, rfl, _, rfl, ?_⟩)
  rw [weq rfl]
  exact iteT ⟨_, rfl, p, rfl, hp, fun v H' s' hv hf => q v H' s' hv hf⟩
 | g ps =>
  obtain ⟨rfl, hne, h8, hp⟩ := hk
  iterate 4 (rw [wne (by decide +kernel)]; refine iteF ⟨_, rfl, rfl, _, rfl, ?_⟩)
  rw [weq rfl]
  exact iteT ⟨_, rfl, ps, rfl, hne, h8, hp, fun D xs H' s' hD hA hn => q _ H' s' ⟨D, xs, rfl, SqL.of hD, hA⟩ fun a ha => by cases ha; exact hn⟩
theorem q428 (z : Bz K mg cA cB cC cD cE cF cG cH) : Cal P w K mg base 8 "values_of" ["kinds", "words"] (sp_values_of K) := by
 have sc := q400
 refine z.d_values_of.cal fun f fd F => F.k sc fun _ _ _ s H _ Q _ hr h => ?_
 obtain ⟨ka, wa, nm, ks, xs, rfl, S, hka, hwa, q⟩ := h
 refine ⟨_, (q12 (ps_if (q18 op_ne (pln z.len_ (q10 (pv 1) q11)) (pln z.len_ (q10 (pv 0) q11)) (q21 _))
 (q15 q36)
 q20)
 (q15 (q19 (q499 (x := "kind") (cl := []) (cn := []) (TN := ["word"]) (N := []) (fr := []) (sc0 := q17 q147) rfl (pi_zipT rfl z.zip_ (q10 (pv 0) (q10 (pv 1) q11))) (fun C s₂ H₂ fp => (pe_fn (q482 z) hr.m (by rfl) (q10 (pv 0) (q10 (pv 1) q11)))) (fun C s₂ H₂ fp => q439) (fun C s₂ H₂ fp => (q621 (K := K) (n := 2) rfl rfl (q52 (q143 (i := 0) (show (["kind", "word"] : List Str).Nodup by decide +kernel) rfl (Or.inl rfl)) (q52 (q143 (i := 1) (show (["kind", "word"] : List Str).Nodup by decide +kernel) rfl (Or.inl rfl)) q115)))) (by with_unfolding_all rfl) trivial rfl rfl rfl ⟨by decide +kernel, by decide +kernel, by decide +kernel, by decide +kernel⟩ rfl)))), ?_⟩
 have hl := S.len
 have hf := S.few
 have l1 : ((xs.map Vl.wd).map V.str).length = xs.length := by rw [List.length_map, List.length_map]
 have l2 : (ks.map V.str).length = xs.length := by rw [List.length_map, hl]
 refine ⟨_, rfl, wa, _, rfl, .inl hwa, _, rfl, ka, _, rfl, .inr hka, rfl, _, rfl, ?_⟩
 rw [l1, l2]
 refine iteNS rfl ?_
 refine ⟨_, rfl, _, rfl, ka, wa, rfl, ⟨_, hka⟩, ⟨_, hwa⟩, fun D hD => ?_⟩
 refine q556 (K := K) (xs := ks.map V.str) (zs := (xs.map Vl.wd).map V.str) (by rw [l2]; exact sl51 (by omega)) (by rw [l1, l2]) (fun i ys H4 => H4 D = some (.lst ys) /\ ys.length = i /\ Same H H4 /\ VlsAt K H4 ys (xs.take i) /\ ∀ x ∈ ys, x ≠ .ref D) ⟨q14, rfl, q16 hD _, ⟨rfl, fun j x p h1 _ => by cases h1⟩, fun x hx => by cases hx⟩
  (fun i ys H4 ⟨_, _, k4, _⟩ => ⟨k4.seqT hka, k4.seq hwa⟩) (fun i ys H4 ⟨h4, e, _⟩ => ⟨h4, Nat.le_of_eq e⟩) ?_ ?_
 ·rintro i x y ys H4 p hx hy ⟨h4, e, k4, hA, hnD⟩ hp vs2 hvs2
  rw [List.getElem?_map] at hx hy
  rw [List.getElem?_map] at hy
  cases ek : ks[i]? with
  | none => rw [ek] at hx; cases hx
  | some k =>
   rw [ek] at hx
   cases hx
   cases en : xs[i]? with
   | none => rw [en] at hy; cases hy
   | some n =>
    rw [en] at hy
    cases hy
    have s5 := q16 hp (.tup [.str k, .str n.wd])
    match vs2, hvs2 with
    | [x0, x1], _ =>
     refine ⟨p, _, rfl, SqT.of q14, rfl, _, _, rfl, _, _, rfl, rfl, ⟨[_, _], rfl, rfl⟩, ?_⟩
     refine iteT ⟨_, rfl, _, rfl, k, n, rfl, S.val i k n ek en, fun v H6 s6 hv hfr => ?_⟩
     have s56 := s5.trans s6
     have e6 := s56 _ _ h4
     have kD : Keep D H6 (upd H6 D (.lst (ys ++ [v]))) := Keep.set D H6 _
     have up : ∀ x y, x ≠ .ref D -> VlAt K H6 x y -> VlAt K (upd H6 D (.lst (ys ++ [v]))) x y := fun x y hne h => by
      cases y with
      | n i => exact h
      | s p => obtain ⟨a, e, h⟩ := h; exact ⟨a, e, q345 kD e6 h⟩
      | g ps =>
       obtain ⟨D', zs, e, h1, h2⟩ := h
       exact ⟨D', zs, e, kD.seqL (fun z => hne (by rw [e, z])) h1, h2.1, fun j x p g1 g2 => by
        obtain ⟨a, e, h⟩ := h2.2 j x p g1 g2
        exact ⟨a, e, q345 kD e6 h⟩⟩
     have hvD : v ≠ .ref D := fun z => by
      have := hfr D z
      rw [s5 _ _ h4] at this
      cases this
     refine ⟨e6, q14, by rw [List.length_append, e] <;> rfl, own2 (k4.trans s56) hD, ?_, fun x hx => ?_⟩
     ·rw [List.take_add_one, en]
      exact q692 ⟨hA.1, fun j x p h1 h2 => up x p (hnD x (List.mem_of_getElem? h1)) ((hA.2 j x p h1 h2).same s56)⟩ (up v n hvD hv)
     ·rcases List.mem_append.mp hx with h | h
      ·exact hnD x h
      ·rw [List.mem_singleton.mp h]; exact hvD
 ·rintro ys H4 ⟨h4, e, k4, hA, _⟩
  rw [l2, List.take_length] at hA
  exact q D ys H4 k4 h4 hA
theorem q483 (z : Bz K mg cA cB cC cD cE cF cG cH) : Cal P w K mg base 1 "kinds_of" ["lead", "name", "many"] (sp_kinds_of K) := by
 have sc := q453
 refine z.d_kinds_of.cal fun f fd F => F.k sc fun _ _ _ s H _ Q _ hr h => ?_
 obtain ⟨nm, ks, xs, rfl, S, q⟩ := h
 obtain ⟨fa, hfa, hfb⟩ := z.frm
 refine ⟨_, (q12 (ps_if (PW.pt (q271 (q18 op_eq (pv 0) q22 (q21 _)) (q173 (q18 op_eq (pv 1) q22 (q21 _)))))
 (q15 (q19 (pe_op op_repT (q27 (q10 q22 q11)) (pv 2))))
 q20)
 (q12 (ps_if (PW.pt (pw_or (q18 q638 (pv 1) (q436 (v := .ref fa) (u := .ref fa) (by rfl) hfa rfl) rfl) (q80 (PW.pt (q271 (q18 op_ne (pv 0) q22 (q21 _)) (q173 pt_never))))))
 (q15 q36)
 q20)
 (q12 (ps_if (q18 op_eq (pv 0) q22 (q21 _))
 (q15 q36)
 q20)
 (q15 (q19 (pix ix_tabT (q436 (v := .ref fa) (u := .ref fa) (by rfl) hfa rfl) (pv 1))))))), ?_⟩
 have hf := S.few
 refine ⟨_, rfl, rfl, _, rfl, ?_⟩
 rw [weq rfl]
 refine iteT ⟨_, rfl, rfl, _, rfl, ?_⟩
 rcases S.kd with ⟨rfl, rfl⟩ | hk
 ·rw [weq rfl]
  refine iteT ⟨szb rfl, fun a ha => ⟨_, rfl, a, _, _, rfl, rfl, q14, by omega, fun p H' s' hp => ?_⟩⟩
  refine q p H' ((q16 ha _).trans s') ?_
  rw [List.map_replicate]
  exact hp
 ·have hn : nm ≠ "row" := by
   have : ∀ f ∈ forms, f.1 ≠ ("row" : Str) := by decide +kernel
   exact this _ hk
  obtain ⟨T, dd, h1, h2, h3⟩ := frm_use hfb hk
  rw [wne hn]
  refine iteF ⟨_, rfl, _, fa, _, rfl, rfl, T, _, rfl, ?_⟩
  rw [h2]
  refine iteF ⟨_, rfl, rfl, _, rfl, ?_⟩
  rw [weq rfl]
  refine iteF ?_
  refine ⟨_, rfl, rfl, _, rfl, ?_⟩
  rw [wne (by decide +kernel)]
  refine iteF ?_
  exact ⟨_, rfl, fa, _, _, dd, rfl, rfl, T, h1, q dd H (Same.refl H) (h3 H)⟩
theorem q429 (z : Bz K mg cA cB cC cD cE cF cG cH) : Cal P w K mg base 9 "read_said" ["row"] (sp_read_said K) := by
 have sc := q399
 refine z.d_read_said.cal fun f fd F => F.k sc fun _ _ _ s H _ Q _ hr h => ?_
 obtain ⟨nm, ks, xs, rfl, S, q⟩ := h
 refine ⟨_, (q12 (ps_if (q356 (q486 (q76 q494 (by rfl) z.isinstance_ q151 (q10 (pv 0) (q10 (q588 (v := .ty "str") (u := .type "str") (by rfl) z.str_ q88 rfl) q11)))))
 (q15 q36)
 q20)
 (q12 (pst 1 sc.nd (pe_bm PySem.F.plainAttrs_str PySem.F.slot_str_split PySem.F.type_str_split q198 (pv 0) (q10 q22 q11)))
 (q12 (pst 2 sc.nd (q93 (q18 q365 (pix q25 (pv 1) q13) (q27 (q10 q22 (q10 q22 q11))) rfl) (pix q25 (pv 1) q13) q22))
 (q12 (ps_if (q18 op_ne (pv 2) q22 (q21 _))
 (q15 (pst 1 sc.nd (q40 q96 (pv 1) (q47 q13) q54)))
 q20)
 (q12 (pst 3 sc.nd (q93 (q18 op_gt (pln z.len_ (q10 (pv 1) q11)) q13 (q21 _)) (pix q25 (pv 1) q13) q22))
 (q15 (q19 (q27 (q10 (pv 2) (q10 (pv 3) (q10 (pe_fn (q428 z) hr.m (by rfl) (q10 (pe_fn (q483 z) hr.m (by rfl) (q10 (pv 2) (q10 (pv 3) (q10 (pe_op q51 (pln z.len_ (q10 (pv 1) q11)) q13) q11)))) (q10 (q40 q96 (pv 1) (q47 q13) q54) q11))) q11))))))))))), ?_⟩
 have hl := say_len S
 have hc := q203 (sayT nm xs) " "
 have hs := q695 S
 have hf := S.few
 refine ⟨_, rfl, _, _, _, _, rfl, .str _, q213, true, rfl, ?_⟩
 refine iteF ?_
 refine ⟨_, rfl, rfl, _, " ", rfl, rfl, by decide +kernel, sl300 (by omega), sl300 (by omega), by rw [hs, List.length_cons, List.length_map]; exact sl51 (by omega), fun l hl1 => ?_⟩
 rw [hs]
 obtain ⟨H1, gz, s1, e1⟩ := nwH hl1 (.lst ((nm :: xs.map Vl.wd).map V.str))
 rw [gz]
 have hlen : ((nm :: xs.map Vl.wd).map V.str).length = xs.length + 1 := by rw [List.length_map, List.length_cons, List.length_map]
 have hat : atI ((nm :: xs.map Vl.wd).map V.str) 0 = some (.str nm) := q41 (j := 0) rfl
 refine ⟨_, rfl, l, _, _, _, rfl, rfl, SqL.of e1, hat, szb rfl, fun t ht => ?_⟩
 obtain ⟨H2, gz, s2, e2⟩ := nwH ht (.tup [.str "paper", .str "shows"])
 rw [gz]
 refine ⟨t, _, rfl, .inr (SqT.of e2), rfl, rfl, ?_⟩
 rw [nms_lead nm S.nm]
 refine ⟨_, rfl, ?_⟩
 refine iteF ?_
 refine ⟨_, rfl, rfl, _, rfl, ?_⟩
 rw [weq rfl]
 refine iteF ?_
 have e3 := s2 _ _ e1
 refine ⟨_, rfl, l, _, rfl, .inl (SqL.of e3), _, _, rfl, rfl, _, rfl, ?_⟩
 rw [hlen]
 refine ite2 (fun _ => ?_) (fun c => absurd (decide_eq_true (by omega)) c)
 refine ⟨_, rfl, l, _, _, _, rfl, rfl, SqL.of e3, hat, ?_⟩
 refine ⟨_, rfl, _, rfl, _, rfl, _, rfl, _, rfl, l, _, rfl, .inl (SqL.of e3), _, _, rfl, rfl, nm, ks, xs, by rw [hlen]; show [V.str "", V.str nm, V.int (((xs.length + 1 : Nat) : Int) - 1)] = _; rw [show ((xs.length + 1 : Nat) : Int) - 1 = (xs.length : Int) by omega], S, fun ka H3 s3 hka => ?_⟩
 refine ⟨_, rfl, _, rfl, l, _, rfl, SqL.of (s3 _ _ e3), fun wa hwa => ?_⟩
 have ec : cutV ((nm :: xs.map Vl.wd).map V.str) (some 1) none = (xs.map Vl.wd).map V.str := by
  unfold cutV
  rw [show (some (1 : Int)) = some ((1 : Nat) : Int) from rfl, HT.q715, HT.q714, hlen, Nat.min_eq_left (by omega)]
  exact List.take_of_length_le (by rw [List.length_drop, hlen]; exact Nat.le_refl _)
 rw [ec]
 obtain ⟨H4, gz, s4, e4⟩ := nwH hwa (.lst ((xs.map Vl.wd).map V.str))
 rw [gz]
 refine ⟨ka, wa, nm, ks, xs, rfl, S, s4.seqT hka, SqL.of e4, fun D ys H5 s5 hD hA => ⟨szb rfl, fun p hp => ?_⟩⟩
 have s6 := q16 hp (.tup [.str "", .str nm, .ref D])
 exact q p D ys _ (s1.trans (s2.trans (s3.trans (s4.trans (s5.trans s6))))) q14 (s6 _ _ hD) ⟨hA.1, fun j x y h1 h2 => (hA.2 j x y h1 h2).same s6⟩
inductive Dd (low : Int) (L : Nat) (rs : LL) : Str -> List Int -> List Int -> List Int -> Prop
 | row (r : List Int) (hw : Wths low L r) (hl : r.length <= 200) : Dd low L rs "row" r r []
 | put (j pl : Nat) (num : Int) (r : List Int) (g : rs[j]? = some r) (hp : pl <= r.length) (h0 : low <= num) (h1 : num < low + 2 ^ L) (hl : r.length <= 199) : Dd low L rs "put" [(j : Int), (pl : Int), num] (insAt r pl num) [(j : Int)]
 | take (j pl : Nat) (n : Int) (r : List Int) (g : rs[j]? = some r) (gn : r[pl]? = some n) : Dd low L rs "take" [(j : Int), (pl : Int)] (delAt r pl) [(j : Int)]
 | set (j pl : Nat) (n num : Int) (r : List Int) (g : rs[j]? = some r) (gn : r[pl]? = some n) (h0 : low <= num) (h1 : num < low + 2 ^ L) : Dd low L rs "set" [(j : Int), (pl : Int), num] (r.take pl ++ num :: r.drop (pl + 1)) [(j : Int)]
 | cut (j st en : Nat) (r : List Int) (g : rs[j]? = some r) (h0 : st <= en) (h1 : en <= r.length) : Dd low L rs "cut" [(j : Int), (st : Int), (en : Int)] (segI r st en) [(j : Int)]
 | join (i j : Nat) (r t : List Int) (g : rs[i]? = some r) (g' : rs[j]? = some t) (hl : r.length + t.length <= 200) : Dd low L rs "join" [(i : Int), (j : Int)] (r ++ t) [(i : Int), (j : Int)]
 | turn (j : Nat) (r : List Int) (g : rs[j]? = some r) : Dd low L rs "turn" [(j : Int)] r.reverse [(j : Int)]
 | flip (j : Nat) (r : List Int) (g : rs[j]? = some r) : Dd low L rs "flip" [(j : Int)] (r.map (flp low L)) [(j : Int)]
theorem q430 {ks : List Str} {xs : List Vl} (h : ks.length = xs.length) (hf : xs.length <= 200) (hk : (nm, ks) ∈ forms) (hv : ∀ p ∈ ks.zip xs, VlOk p.1 p.2) : Say nm ks xs :=
 ⟨h, hf, .inr hk, fun i k x h1 h2 => hv (k, x) (List.mem_of_getElem? (i := i) (by rw [List.getElem?_zip_eq_some]; exact ⟨h1, h2⟩))⟩
abbrev kCt : Str := "count"
abbrev kGt : Str := "gathering"
theorem ok_ct {a : Nat} (ha : a <= 1000) : VlOk kCt (.n (a : Int)) := ⟨⟨by omega, by omega⟩, .inl ⟨rfl, by omega⟩⟩
theorem say1 {a : Nat} (hk : (nm, [kCt]) ∈ forms) (ha : a <= 1000) : Say nm [kCt] [.n (a : Int)] := q430 rfl (by simp) hk fun p hp => by
 obtain rfl : p = (kCt, .n (a : Int)) := by simpa using hp
 exact ok_ct ha
theorem say2 {a b : Nat} (hk : (nm, [kCt, kCt]) ∈ forms) (ha : a <= 1000) (hb : b <= 1000) : Say nm [kCt, kCt] [.n (a : Int), .n (b : Int)] := q430 rfl (by simp) hk fun p hp => by
 rcases (by simpa using hp : p = (kCt, .n (a : Int)) \/ p = (kCt, .n (b : Int))) with rfl | rfl
 ·exact ok_ct ha
 ·exact ok_ct hb
theorem say3 {a b : Nat} {c : Int} (hk : (nm, [kCt, kCt, k]) ∈ forms) (ha : a <= 1000) (hb : b <= 1000) (hc : VlOk k (.n c)) : Say nm [kCt, kCt, k] [.n (a : Int), .n (b : Int), .n c] := q430 rfl (by simp) hk fun p hp => by
 rcases (by simpa using hp : p = (kCt, .n (a : Int)) \/ p = (kCt, .n (b : Int)) \/ p = (k, .n c)) with rfl | rfl | rfl
 ·exact ok_ct ha
 ·exact ok_ct hb
 ·exact hc
theorem p40 {L : Nat} (h : L <= 40) : (2 : Int) ^ L <= 2 ^ 40 := by
 have : (2 : Nat) ^ L <= 2 ^ 40 := Nat.pow_le_pow_right (by decide) h
 exact_mod_cast this
theorem Dd.say {low : Int} {L : Nat} {rs : LL} {ns r : List Int} (d : Dd low L rs nm ns r c) (hL : L <= 40) (hn : rs.length <= 100) (hl : ∀ r ∈ rs, r.length <= 200) (h0 : -(10 ^ 45) < low) (h1 : low < 10 ^ 45) : ∃ ks, Say nm ks (ns.map Vl.n) := by
 have hp := p40 hL
 have ix : ∀ {j : Nat} {r : List Int}, rs[j]? = some r -> j <= 1000 /\ r.length <= 200 := fun {j r} g => by
  have := (List.getElem?_eq_some_iff.mp g).1
  exact ⟨by omega, hl _ (List.mem_of_getElem? g)⟩
 have iy : ∀ {j : Nat} {n : Int} {r : List Int}, r[j]? = some n -> r.length <= 200 -> j <= 1000 := fun {j n r} g h => by
  have := (List.getElem?_eq_some_iff.mp g).1
  omega
 cases d with
 | row r hw hl =>
  refine ⟨List.replicate (ns.map Vl.n).length (("number" : Str)), ⟨List.length_replicate, by rw [List.length_map]; exact hl, .inl ⟨rfl, rfl⟩, fun i k x hk hx => ?_⟩⟩
  rw [List.getElem?_replicate] at hk
  split at hk
  ·have hk' := (Option.some.inj hk).symm
   rw [List.getElem?_map] at hx
   cases e : ns[i]? with
   | none => rw [e] at hx; cases hx
   | some n =>
    rw [e] at hx
    cases hx
    have := hw n (List.mem_of_getElem? e)
    exact ⟨⟨by omega, by omega⟩, .inr (.inl hk')⟩
  ·cases hk
 | put j pl num r g hp h2 h3 hl => exact ⟨_, say3 (k := "number") (by decide +kernel) (ix g).1 (by omega) ⟨⟨by omega, by omega⟩, .inr (.inl rfl)⟩⟩
 | take j pl n r g gn => exact ⟨_, say2 (by decide +kernel) (ix g).1 (iy gn (ix g).2)⟩
 | set j pl n num r g gn h2 h3 => exact ⟨_, say3 (k := "number") (by decide +kernel) (ix g).1 (iy gn (ix g).2) ⟨⟨by omega, by omega⟩, .inr (.inl rfl)⟩⟩
 | cut j st en r g h2 h3 =>
  have := (ix g).2
  exact ⟨_, say3 (k := kCt) (by decide +kernel) (ix g).1 (by omega) (ok_ct (by omega))⟩
 | join i j r t g g' hl => exact ⟨_, say2 (by decide +kernel) (ix g).1 (ix g').1⟩
 | turn j r g => exact ⟨_, say1 (by decide +kernel) (ix g).1⟩
 | flip j r g => exact ⟨_, say1 (by decide +kernel) (ix g).1⟩
theorem Dd.nm {low : Int} {L : Nat} {rs : LL} {nm : Str} {ns r c : List Int} (d : Dd low L rs nm ns r c) : nm ∈ (["row", "put", "take", "set", "cut", "join", "turn", "flip"] : List Str) := by
 cases d <;> decide +kernel
structure Dsk (C M : Addr) (H : Hp) (d x ka b : Addr) (low : Int) (L : Nat) (rs cs : LL) : Prop where
 o : ∃ dd, H d = some (.ins C dd [("bounds", .ref b), ("makes", .ref x)])
 m : Mks M H x ka b low L rs cs
 lo : -(10 ^ 45) < low
 hi : low < 10 ^ 45
theorem Dsk.keep {low : Int} {L : Nat} (D : Dsk C M H d x ka b low L rs cs) (k : Keep p H H') (e : H p = some (.lst ys)) (n : ka ≠ p) : Dsk C M H' d x ka b low L rs cs := by
 obtain ⟨dd, hd⟩ := D.o
 exact ⟨⟨dd, k _ _ (ne_of hd e (by intro z; cases z)) hd⟩, D.m.keep k e n, D.lo, D.hi⟩
theorem Dsk.same {low : Int} {L : Nat} (D : Dsk C M H d x ka b low L rs cs) (s : Same H H') : Dsk C M H' d x ka b low L rs cs := by
 obtain ⟨dd, hd⟩ := D.o
 exact ⟨⟨dd, s _ _ hd⟩, D.m.same s, D.lo, D.hi⟩
theorem Dsk.made {low : Int} {L : Nat} (D : Dsk C M H d x ka b low L rs cs) (k : Keep ka H H') (m : Mks M H' x ka b low L (rs ++ [r]) (cs ++ [c])) : Dsk C M H' d x ka b low L (rs ++ [r]) (cs ++ [c]) := by
 obtain ⟨dd, hd⟩ := D.o
 obtain ⟨es, h1, _⟩ := D.m.hk
 exact ⟨⟨dd, k _ _ (ne_of hd h1 (by intro z; cases z)) hd⟩, m, D.lo, D.hi⟩
inductive sp_I_Desk (u0 : Fg) (C : Addr) (M : Addr) (vs : List V) (H : Hp) (Q : VK) (E : XK) : Prop
 | mk (d b dd : Addr) (low : Int) (L : Nat) (_ : vs = [.ref d, .ref b]) (_ : H d = some (.ins C dd [])) (_ : H b = some (.tup [.int low, .int (L : Int)])) (_ : L <= 40) (_ : -(10 ^ 45) < low) (_ : low < 10 ^ 45) (_ : ∀ (x ka : Addr) (H' : Hp), H ka = none -> Keep d H H' -> Dsk C M H' d x ka b low L [[]] [[]] -> Q .non H') : sp_I_Desk u0 C M vs H Q E
inductive sp_M_made (u0 : Fg) (C : Addr) (M : Addr) (vs : List V) (H : Hp) (Q : VK) (E : XK) : Prop
 | mk (d x ka b v : Addr) (low : Int) (L : Nat) (rs cs : LL) (nm : Str) (ns r c : List Int) (_ : vs = [.ref d, .str nm, .ref v]) (_ : H v = some (.lst (ns.map V.int))) (_ : Dsk C M H d x ka b low L rs cs) (_ : rs.length <= 99) (_ : Dd low L rs nm ns r c) (_ : ∀ H', Keep ka H H' -> Dsk C M H' d x ka b low L (rs ++ [r]) (cs ++ [c]) -> Q (.int (rs.length : Int)) H') : sp_M_made u0 C M vs H Q E
def cT : Option (Int × Int) -> Str
 | none => "-"
 | some p => Txt.join ":" [tx p.1, tx p.2]
def lT (ps : List (Int × Int)) : Str := if ps = [] then "-" else Txt.join "," (ps.map fun p => cT (some p))
def StOk (rs : LL) (p : P3) : Prop := ∃ r, rs[p.1]? = some r /\ p.2.1 <= p.2.2 /\ p.2.2 <= r.length
def gOf (low : Int) (L : Nat) (rs : LL) (p : P3) : S3 := (grow low L (rs.getD p.1 []), p.2.1, p.2.2)
structure GoodG (L : Nat) (gs : List S3) : Prop where
 gd : ∀ g ∈ gs, GoodS L g
 ln : gs.length <= 8
 mn : manyS gs <= 900
inductive Pl (low : Int) (L : Nat) (gs : List S3) : Str -> List Int -> Str -> Prop
 | least (k : Int) (r : Int × Nat × Nat) (h0 : 0 <= k) (h1 : k < manyS gs) (h : nlS low L gs k = some r) : Pl low L gs "least" [k] (rowT [r.1, (r.2.1 : Int), (r.2.2 : Int)])
 | below (n : Int) : Pl low L gs "below" [n] (tx (beS low L gs n))
 | between (a b : Int) : Pl low L gs "between" [a, b] (tx (if b < a then 0 else beS low L gs (b + 1) - beS low L gs a))
 | up (n : Int) : Pl low L gs "up" [n] (cT (upS low L gs n))
 | down (n : Int) : Pl low L gs "down" [n] (cT (dnS low L gs n))
 | most : Pl low L gs "most" [] (cT ((caS 1 0 L low (fil gs)).foldl bstep none))
 | often (p : Int) (h0 : 1 <= p) (h1 : p <= 1000) : Pl low L gs "often" [p] (lT (caS p (manyS gs) L low (fil gs)))
theorem q348 : ∀ (ws : List Int) (p : Int × Int), 0 <= p.2 -> p.1 <= (ws.foldl stS p).1 /\ (ws.foldl stS p).1 <= p.1 + p.2
 | [], p, h => ⟨Int.le_refl _, by show p.1 <= _; omega⟩
 | w :: ws, p, h => by
  rw [List.foldl_cons]
  have hs : p.1 <= (stS p w).1 /\ (stS p w).1 + (stS p w).2 <= p.1 + p.2 /\ 0 <= (stS p w).2 := by
   unfold stS
   dsimp only
   split <;> omega
  have := q348 ws (stS p w) hs.2.2
  omega
theorem ml_rng : ∀ {ws : List Int} {gs : List S3}, B01 ws -> (∀ g ∈ gs, GoodS ws.length g) -> 0 <= mlS ws gs /\ mlS ws gs <= manyS gs
 | [], gs, _, h => ⟨Int.le_refl _, q65 h⟩
 | w :: ws, gs, hb, h => by
  have hw := hb w (List.mem_cons_self ..)
  have hs := q132 h
  have n0 := q65 (q56 (.inl rfl) h)
  have n1 := q65 (q56 (.inr rfl) h)
  have ih := ml_rng (ws := ws) (gs := gs.map (ld1 w)) (fun x hx => hb x (List.mem_cons_of_mem _ hx)) (q56 hw h)
  rw [mlS]
  rcases hw with rfl | rfl
  ·rw [if_neg (by decide)]; omega
  ·rw [if_pos rfl]; omega
theorem q305 {low n : Int} {L : Nat} (h : ∀ g ∈ gs, GoodS L g) : 0 <= beS low L gs n /\ beS low L gs n <= manyS gs := by
 have h0 := q65 h
 unfold beS
 split
 ·exact ⟨Int.le_refl _, h0⟩
 ·split
  ·exact ⟨h0, Int.le_refl _⟩
  ·exact ml_rng (q329 L _) (by rw [q199]; exact h)
def SmC (low : Int) (p : Int × Int) : Prop := low <= p.1 /\ p.1 <= low + 2 ^ 40 /\ -1000 <= p.2 /\ p.2 <= 1000
theorem q530 {L : Nat} {ws : List Int} (hb : B01 ws) (hl : ws.length = L) : ∀ {gs : List S3}, (∀ g ∈ gs, GoodS L g) -> 0 <= manyS (gs.map (lds ws))
 | [], _ => Int.le_refl _
 | g :: gs, h => by
  have h1 := q187 (e := 0) (q168 hb (by rw [Nat.zero_add, hl]; exact h g (List.mem_cons_self ..)))
  have := q530 hb hl (gs := gs) fun x hx => h x (List.mem_cons_of_mem _ hx)
  rw [List.map_cons, q50]
  omega
theorem lds_le : ∀ {ws : List Int} {g : S3}, B01 ws -> GoodS ws.length g -> lenS (lds ws g) <= lenS g
 | [], g, _, _ => Int.le_refl _
 | w :: ws, g, hb, h => by
  have hw := hb w (List.mem_cons_self ..)
  have ih := lds_le (ws := ws) (g := ld1 w g) (fun x hx => hb x (List.mem_cons_of_mem _ hx)) (q78 hw h)
  have hs := q474 h
  have n0 := q187 (q78 (.inl rfl) h)
  have n1 := q187 (q78 (.inr rfl) h)
  rw [q202]
  rcases hw with rfl | rfl <;> omega
theorem q696 {L : Nat} {ws : List Int} (hb : B01 ws) (hl : ws.length = L) : ∀ {gs : List S3}, (∀ g ∈ gs, GoodS L g) -> manyS (gs.map (lds ws)) <= manyS gs
 | [], _ => Int.le_refl _
 | g :: gs, h => by
  have h1 := lds_le hb (by rw [hl]; exact h g (List.mem_cons_self ..))
  have := q696 hb hl (gs := gs) fun x hx => h x (List.mem_cons_of_mem _ hx)
  rw [List.map_cons, q50, q50]
  omega
theorem cn_sm {low k : Int} {L : Nat} (hL : L <= 40) (G : GoodG L gs) : SmC low (cnS low L gs k) := by
 have h1 := q348 (wnS L gs k) (low, 2 ^ L) (Int.le_of_lt (p2pos L))
 have h2 := p40 hL
 have h3 := q530 (wn01 L gs k) (q253 L gs k) G.gd
 have h4 := q696 (wn01 L gs k) (q253 L gs k) G.gd
 have h5 := G.mn
 exact ⟨h1.1, Int.le_trans h1.2 (by show low + 2 ^ L <= _; omega), by show _ <= manyS _; omega, by show manyS _ <= _; omega⟩
theorem up_sm {low n : Int} {L : Nat} (hL : L <= 40) (G : GoodG L gs) : ∀ p, upS low L gs n = some p -> SmC low p := fun p h => by
 unfold upS at h
 split at h
 ·cases h
 ·cases h; exact cn_sm hL G
theorem dn_sm {low n : Int} {L : Nat} (hL : L <= 40) (G : GoodG L gs) : ∀ p, dnS low L gs n = some p -> SmC low p := fun p h => by
 unfold dnS at h
 split at h
 ·cases h
 ·cases h; exact cn_sm hL G
theorem q697 {part fl : Int} : ∀ {e : Nat} {low : Int} {gs : List S3}, (∀ g ∈ gs, GoodS e g) -> ∀ p ∈ caS part fl e low gs, low <= p.1 /\ p.1 < low + 2 ^ e /\ 0 <= p.2 /\ p.2 <= manyS gs
 | 0, low, gs, h, p, hp => by
  unfold caS at hp
  split at hp
  ·cases hp
  ·rw [List.mem_singleton.mp hp]
   exact ⟨Int.le_refl _, by show low < low + 1; omega, q65 h, Int.le_refl _⟩
 | e + 1, low, gs, h, p, hp => by
  unfold caS at hp
  split at hp
  ·cases hp
  ·have hp2 := p2pos e
   have e2 : (2 : Int) ^ (e + 1) = 2 ^ e + 2 ^ e := by rw [Int.pow_succ]; omega
   have hs := q132 h
   have g0 := q56 (.inl rfl) h
   have g1 := q56 (.inr rfl) h
   have n0 := q65 g0
   have n1 := q65 g1
   rcases List.mem_append.mp hp with hp | hp
   ·have := q697 (q67 g0) p hp
    rw [q69 g0] at this
    omega
   ·have := q697 (q67 g1) p hp
    rw [q69 g1] at this
    omega
theorem ca_sm {part fl low : Int} {L : Nat} (hL : L <= 40) (G : GoodG L gs) : ∀ p ∈ caS part fl L low (fil gs), SmC low p := fun p hp => by
 have h := q697 (q67 G.gd) p hp
 rw [q69 G.gd] at h
 have := p40 hL
 have := G.mn
 exact ⟨h.1, by omega, by omega, by omega⟩
theorem q349 : ∀ (ps : List (Int × Int)) (b : Option (Int × Int)) (q : Int × Int), ps.foldl bstep b = some q -> b = some q \/ q ∈ ps
 | [], b, q, h => .inl h
 | p :: ps, b, q, h => by
  rcases q349 ps _ q h with h | h
  ·unfold bstep at h
   cases b with
   | none => cases h; exact .inr (List.mem_cons_self ..)
   | some r =>
    dsimp only at h
    split at h
    ·cases h; exact .inr (List.mem_cons_self ..)
    ·exact .inl h
  ·exact .inr (List.mem_cons_of_mem _ h)
theorem cr_le : ∀ (l : List Int) (p : Int × Int), 0 <= p.1 -> (l.foldl crS p).2 <= p.2 + (p.1 + l.length) * l.length
 | [], p, _ => by show p.2 <= p.2 + (p.1 + 0) * 0; omega
 | m :: l, p, h0 => by
  rw [List.foldl_cons]
  have e : ∀ o : Int, 0 <= o -> (o + 1 + (l.length : Int)) * ((l.length : Int) + 1) = (o + 1 + l.length) * l.length + (o + 1 + l.length) := fun o _ => by rw [Int.mul_add, Int.mul_one]
  have hl : ((m :: l).length : Int) = (l.length : Int) + 1 := by rw [List.length_cons]; omega
  rw [hl, show p.1 + ((l.length : Int) + 1) = p.1 + 1 + l.length by omega, e p.1 h0]
  by_cases c : m = 1
  ·have ec : crS p m = (p.1 + 1, p.2) := by unfold crS; rw [if_pos c]
   rw [ec]
   have t : (l.foldl crS (p.1 + 1, p.2)).2 <= p.2 + (p.1 + 1 + l.length) * l.length := cr_le l (p.1 + 1, p.2) (by show 0 <= p.1 + 1; omega)
   omega
  ·have ec : crS p m = (p.1, p.2 + p.1) := by unfold crS; rw [if_neg c]
   rw [ec]
   have t : (l.foldl crS (p.1, p.2 + p.1)).2 <= p.2 + p.1 + (p.1 + l.length) * l.length := cr_le l (p.1, p.2 + p.1) h0
   have t2 : (p.1 + (l.length : Int)) * l.length <= (p.1 + 1 + l.length) * l.length := Int.mul_le_mul_of_nonneg_right (by omega) (by omega)
   omega
theorem q531 : ∀ {e : Nat} {g : S3}, GoodS e g -> q45 g.1 <= 400 -> 0 <= flS e g /\ flS e g <= 160000 * (2 ^ e - 1)
 | 0, g, _, _ => by show (0 : Int) <= 0 /\ (0 : Int) <= 160000 * (2 ^ 0 - 1); decide
 | e + 1, g, h, hz => by
  have hp2 := p2pos e
  have e2 : (2 : Int) ^ (e + 1) = 2 ^ e + 2 ^ e := by rw [Int.pow_succ]; omega
  rw [flS]
  split
  ·omega
  ·rename_i c
   have i0 := q531 (q78 (.inl rfl) h) (Int.le_trans (q343 (.inl rfl) h) hz)
   have i1 := q531 (q78 (.inr rfl) h) (Int.le_trans (q343 (.inr rfl) h) hz)
   have hk : (g.2.2 : Int) <= q45 g.1 := h.2.2
   have c0 : 0 <= crV (trMs g.1) g.2.1 g.2.2 := cr_no _ _ (Int.le_refl _) (Int.le_refl _)
   have c1 : crV (trMs g.1) g.2.1 g.2.2 <= 160000 := by
    have := cr_le (segI (trMs g.1) g.2.1 g.2.2) (0, 0) (Int.le_refl _)
    have t : crV (trMs g.1) g.2.1 g.2.2 <= 0 + (0 + ((segI (trMs g.1) g.2.1 g.2.2).length : Int)) * (segI (trMs g.1) g.2.1 g.2.2).length := this
    have hl : (segI (trMs g.1) g.2.1 g.2.2).length <= 400 := by
     unfold segI
     rw [List.length_drop, List.length_take]
     omega
    have t2 : (0 + ((segI (trMs g.1) g.2.1 g.2.2).length : Int)) * (segI (trMs g.1) g.2.1 g.2.2).length <= 400 * 400 := Int.mul_le_mul (by omega) (by omega) (by omega) (by decide)
    omega
   omega
abbrev qry : List V := [.str "least", .str "below", .str "between", .str "up", .str "down", .str "most", .str "often"]
theorem q698 (h : nm ∈ (["row", "put", "take", "set", "cut", "join", "turn", "flip"] : List Str)) : nm ≠ "show" /\ nm ≠ "falls" /\ inV (.str nm) qry = false := by
 have : ∀ x ∈ (["row", "put", "take", "set", "cut", "join", "turn", "flip"] : List Str), x ≠ "show" /\ x ≠ "falls" /\ inV (.str x) qry = false := by decide +kernel
 exact this _ h
theorem Mks.keepI {low : Int} {L : Nat} (M : Mks C H x ka b low L rs cs) (k : Keep p H H') (e : H p = some (.ins C' dp fs)) (n : x ≠ p) : Mks C H' x ka b low L rs cs := by
 obtain ⟨dx, hx⟩ := M.o
 obtain ⟨es, h1, h2, h3⟩ := M.hk
 have tk : TKeep H H' := fun _ _ => ⟨fun h => k _ _ (ne_of h e (by intro z; cases z)) h, fun _ h => k _ _ (ne_of h e (by intro z; cases z)) h⟩
 refine ⟨⟨dx, k _ _ n hx⟩, (tk _ _).1 M.hb, M.hL, M.len, M.few, ⟨es, k _ _ (ne_of h1 e (by intro z; cases z)) h1, h2, fun j r c hr hc => ?_⟩, M.ok⟩
 obtain ⟨p', a, v, e1, e2, e3, e4⟩ := h3 j r c hr hc
 exact ⟨p', a, v, e1, (tk _ _).1 e2, e3.tk tk, (tk _ _).1 e4⟩
def SmB (p : Int × Int) : Prop := (-(10 ^ 50) < p.1 /\ p.1 < 10 ^ 50) /\ -(10 ^ 50) < p.2 /\ p.2 < 10 ^ 50
theorem SmC.b {low : Int} (h : SmC low p) (h0 : -(10 ^ 45) < low) (h1 : low < 10 ^ 45) : SmB p := by
 obtain ⟨a, b, c, d⟩ := h
 exact ⟨⟨by omega, by omega⟩, by omega, by omega⟩
theorem c_bd {p : Int × Int} (h : SmB p) : BdN [p.1, p.2] := fun n hn => by
 rcases (by simpa using hn : n = p.1 \/ n = p.2) with rfl | rfl
 ·exact h.1
 ·exact h.2
theorem jn_ok {sep : Str} (hs : sep.length <= 16) {B : Nat} {xs : List Str} (h : ∀ x ∈ xs, x.length <= B) (hl : xs.length * B + xs.length <= 1048576) : JoinOk sep xs = true := by
 refine PyProof.Rows.joinOk_of_weight ?_ hs
 have := StrLaws.sumLen_le (B := B) xs h
 have e : xs.length * B = B * xs.length := Nat.mul_comm _ _
 omega
theorem q178 (c : Nat) (xs : List Str) : Txt.join ⟨#[c]⟩ xs = Str.join ⟨#[c]⟩ xs := PySem.StrLaws.glued_eq_join _ _
theorem cT_len (h : SmB p) : (cT (some p)).length <= 104 := by
 show (Txt.join ":" [tx p.1, tx p.2]).length <= _
 rw [show (":" : Str) = ⟨#[58]⟩ by decide +kernel, q178]
 refine q171 (B := 51) _ fun x hx => ?_
 rcases (by simpa using hx : x = tx p.1 \/ x = tx p.2) with rfl | rfl
 ·exact q142 h.1.1 h.1.2
 ·exact q142 h.2.1 h.2.2
inductive sp_show_counted (u0 : Fg) (vs : List V) (H : Hp) (Q : VK) (E : XK) : Prop
 | mk (v : V) (o : Option (Int × Int)) (_ : vs = [v]) (_ : CtV H v o) (_ : (∀ p, o = some p -> SmB p)) (_ : ∀ H', Same H H' -> Q (.str (cT o)) H') : sp_show_counted u0 vs H Q E
inductive sp_show_list (K : Fg) (vs : List V) (H : Hp) (Q : VK) (E : XK) : Prop
 | mk (D : Addr) (xs : List V) (ps : List (Int × Int)) (_ : vs = [.ref D]) (_ : SqL K H D xs) (_ : PsAt H xs ps) (_ : (∀ p ∈ ps, SmB p)) (_ : ps.length <= 1000) (_ : ∀ H', Same H H' -> Q (.str (lT ps)) H') : sp_show_list K vs H Q E
inductive sp_plain_answer (K : Fg) (vs : List V) (H : Hp) (Q : VK) (E : XK) : Prop
 | mk (b ga va : Addr) (xs : List V) (low : Int) (L : Nat) (gs : List S3) (nm : Str) (ns : List Int) (t : Str) (_ : vs = [.ref b, .ref ga, .str nm, .ref va]) (_ : SqT K H b [.int low, .int (L : Int)]) (_ : L <= 40) (_ : -(10 ^ 45) < low) (_ : low < 10 ^ 45) (_ : H ga = some (.lst xs)) (_ : GatAt H xs gs) (_ : GoodG L gs) (_ : SqL K H va (ns.map V.int)) (_ : Pl low L gs nm ns t) (_ : (∀ g ∈ gs, q45 g.1 <= 400)) (_ : ∀ H', Same H H' -> Q (.str t) H') : sp_plain_answer K vs H Q E
inductive sp_answer (K : Fg) (vs : List V) (H : Hp) (Q : VK) (E : XK) : Prop
 | mk (b ga va : Addr) (xs : List V) (low : Int) (L : Nat) (gs : List S3) (nm : Str) (ns : List Int) (t : Str) (_ : vs = [.ref b, .ref ga, .str "", .str nm, .ref va]) (_ : SqT K H b [.int low, .int (L : Int)]) (_ : L <= 40) (_ : -(10 ^ 45) < low) (_ : low < 10 ^ 45) (_ : H ga = some (.lst xs)) (_ : GatAt H xs gs) (_ : GoodG L gs) (_ : SqL K H va (ns.map V.int)) (_ : Pl low L gs nm ns t) (_ : (∀ g ∈ gs, q45 g.1 <= 400)) (_ : ∀ H', Same H H' -> Q (.str t) H') : sp_answer K vs H Q E
theorem nl_rng {low k : Int} {L : Nat} {r : Int × Nat × Nat} (hL : L <= 40) (G : GoodG L gs) (hz : ∀ g ∈ gs, q45 g.1 <= 400) (h0 : 0 <= k) (h1 : k < manyS gs) (h : nlS low L gs k = some r) : low <= r.1 /\ r.1 <= low + 2 ^ 40 /\ r.2.1 <= 8 /\ r.2.2 <= 400 := by
 have hs := q348 (wnS L gs k) (low, 2 ^ L) (Int.le_of_lt (p2pos L))
 have hp := p40 hL
 obtain ⟨c1, c2⟩ := q527 G.gd h0 h1
 unfold nlS naS at h
 obtain ⟨g', e, h2, h3⟩ := q341 c1 c2
 rw [List.getElem?_map] at e
 cases eg : gs[(pickS (gs.map (lds (wnS L gs k))) (k - mlS (wnS L gs k) gs)).1]? with
 | none => rw [eg] at e; cases e
 | some g =>
  rw [eg] at e h
  cases e
  have hgm := List.mem_of_getElem? eg
  have hgd := G.gd g hgm
  have hj := (List.getElem?_eq_some_iff.mp eg).1
  have h4 : GoodS 0 (lds (wnS L gs k) g) := q168 (wn01 L gs k) (by rw [Nat.zero_add, q253]; exact hgd)
  obtain ⟨i, e1, hi⟩ := q339 (p := (lds (wnS L gs k) g).2.1 + (pickS (gs.map (lds (wnS L gs k))) (k - mlS (wnS L gs k) gs)).2.toNat) (wn01 L gs k) (by rw [q253]; exact Nat.le_refl _) hgd.1 (by
   rw [<- q340]
   have := h4.2.2
   unfold lenS at h3
   omega)
  dsimp only at h
  rw [e1] at h
  cases h
  have := hz g hgm
  have := G.ln
  exact ⟨hs.1, Int.le_trans hs.2 (by show low + 2 ^ L <= _; omega), by show (pickS (gs.map (lds (wnS L gs k))) (k - mlS (wnS L gs k) gs)).1 <= 8; omega, by show i <= 400; omega⟩
theorem q72 (z : Bz K mg cA cB cC cD cE cF cG cH) : Cal P w K mg base 2 "show_counted" ["counted"] (sp_show_counted K) := by
 have sc := q240
 refine z.d_show_counted.cal fun f fd F => F.k sc fun _ _ _ s H _ Q _ hr h => ?_
 obtain ⟨v, o, rfl, hv, hb, q⟩ := h
 refine ⟨_, (q12 (ps_if (q18 q110 (pv 0) q62 (q21 _))
 (q15 (q19 q22))
 q20)
 (q15 (q19 (pe_bm PySem.F.plainAttrs_str PySem.F.slot_str_join PySem.F.type_str_join q145 q22 (q10 (q64 (cl := []) (cn := []) (N := []) (fr := []) (sc0 := q17 q97) rfl (q274 (pv 0)) (fun C s₂ H₂ fp => (pe_fn (q57 z) hr.m (by rfl) (q10 (pv 0) q11))) (by with_unfolding_all rfl) trivial rfl rfl rfl cok rfl) q11))))), ?_⟩
 refine ⟨_, rfl, rfl, _, rfl, ?_⟩
 cases o with
 | none =>
  cases (show v = .non from hv)
  exact ite2 (fun _ => q H (Same.refl H)) (fun c => absurd rfl c)
 | some p =>
  obtain ⟨a, rfl, ha⟩ := hv
  have hp := hb p rfl
  refine ite2 (fun c => absurd (of_decide_eq_true c) (by intro z; cases z)) (fun _ => ?_)
  refine ⟨rfl, _, rfl, a, rfl, ⟨_, SqT.of ha⟩, fun D hD => q314 (K := K) (xs := [p.1, p.2].map V.int) (sl51 (by show 2 <= _; decide))
   (fun i ys H2 => ys = (([p.1, p.2].map tx).take i).map V.str /\ i <= 2 /\ Same H H2 /\ H2 D = some (.lst ys)) ⟨rfl, Nat.zero_le _, q16 hD _, q14⟩ (fun i ys H2 ⟨_, _, k2, _⟩ => SqT.of (k2 _ _ ha))
   (fun i ys H2 ⟨e, hi, _, h4⟩ => ⟨h4, by rw [e, List.length_map, List.length_take]; show min i 2 = i; omega⟩) ?_ ?_⟩
  ·rintro i x ys H2 hx ⟨e, hi, k2, h4⟩
   obtain ⟨n, gn, rfl⟩ := q472 hx
   have hn := c_bd hp n (List.mem_of_getElem? gn)
   refine ⟨_, rfl, n, rfl, by omega, by omega, h4, ?_, ?_, own2 k2 hD, q14⟩
   ·rw [e, List.take_add_one, List.getElem?_map, gn, List.map_append]
    rfl
   ·have : i < 2 := (List.getElem?_eq_some_iff.mp gn).1
    omega
  ·rintro ys H2 ⟨e, hi, k2, h4⟩
   have e' : ys = [tx p.1, tx p.2].map V.str := e
   rw [e'] at h4
   refine ⟨":", D, [tx p.1, tx p.2], rfl, rfl, SqL.of h4, jn_ok (by decide +kernel) (B := 51) (fun x hx => ?_) (by show 2 * 51 + 2 <= 1048576; decide), q H2 k2⟩
   rcases (by simpa using hx : x = tx p.1 \/ x = tx p.2) with rfl | rfl
   ·exact q142 hp.1.1 hp.1.2
   ·exact q142 hp.2.1 hp.2.2
theorem q431 (z : Bz K mg cA cB cC cD cE cF cG cH) : Cal P w K mg base 3 "show_list" ["told"] (sp_show_list K) := by
 have sc := q395
 refine z.d_show_list.cal fun f fd F => F.k sc fun _ _ _ s H _ Q _ hr h => ?_
 obtain ⟨D0, xs, ps, rfl, hx0, hA, hb, hl, q⟩ := h
 refine ⟨_, (q12 (ps_if (q18 op_eq (pln z.len_ (q10 (pv 0) q11)) q13 (q21 _))
 (q15 (q19 q22))
 q20)
 (q15 (q19 (pe_bm PySem.F.plainAttrs_str PySem.F.slot_str_join PySem.F.type_str_join q145 q22 (q10 (q64 (cl := []) (cn := []) (N := []) (fr := []) (sc0 := q17 q146) rfl (q46 (pv 0)) (fun C s₂ H₂ fp => (pe_fn (q72 z) hr.m (by rfl) (q10 (pv 0) q11))) (by with_unfolding_all rfl) trivial rfl rfl rfl cok rfl) q11))))), ?_⟩
 have hxl := hA.1
 refine ⟨_, rfl, D0, _, rfl, .inl hx0, rfl, _, rfl, ?_⟩
 unfold lT at q
 by_cases c : ps = []
 ·rw [if_pos c] at q
  refine ite2 (fun _ => q H (Same.refl H)) (fun c2 => absurd (decide_eq_true (by rw [hxl, c]; rfl)) c2)
 ·rw [if_neg c] at q
  refine ite2 (fun c2 => absurd (V.int.inj (of_decide_eq_true c2)) (fun z => c (List.eq_nil_of_length_eq_zero (by omega)))) (fun _ => ?_)
  refine ⟨rfl, _, rfl, D0, rfl, ⟨_, hx0⟩, fun D hD => q61 (K := K) (xs := xs) (sl51 (by omega))
   (fun i ys H2 => ys = ((ps.take i).map fun p => cT (some p)).map V.str /\ i <= ps.length /\ Same H H2 /\ H2 D = some (.lst ys)) ⟨rfl, Nat.zero_le _, q16 hD _, q14⟩ (fun i ys H2 ⟨_, _, k2, _⟩ => k2.seq hx0)
   (fun i ys H2 ⟨e, hi, _, h4⟩ => ⟨h4, by rw [e, List.length_map, List.length_map, List.length_take]; omega⟩) ?_ ?_⟩
  ·rintro i x ys H2 hx ⟨e, hi, k2, h4⟩
   obtain ⟨p, gp, hpx⟩ := hA.get hx
   refine ⟨_, rfl, x, some p, rfl, hpx.tk (.same k2), (fun q0 h0 => by cases h0; exact hb p (List.mem_of_getElem? gp)), fun H3 s3 => ⟨s3 _ _ h4, ?_, ?_, own2 (k2.trans s3) hD, q14⟩⟩
   ·rw [e, List.take_add_one, gp, List.map_append, List.map_append]
    rfl
   ·have := (List.getElem?_eq_some_iff.mp gp).1
    omega
  ·rintro ys H2 ⟨e, hi, k2, h4⟩
   rw [hxl, List.take_length] at e
   rw [e] at h4
   refine ⟨",", D, ps.map fun p => cT (some p), rfl, rfl, SqL.of h4, jn_ok (by decide +kernel) (B := 104) (fun x hx => ?_) (by rw [List.length_map]; omega), q H2 k2⟩
   obtain ⟨p, hp, rfl⟩ := List.mem_map.mp hx
   exact cT_len (hb p hp)
theorem q256 (z : Bz K mg cA cB cC cD cE cF cG cH) : Cal P w K mg base 48 "plain_answer" pn11 (sp_plain_answer K) := by
 have sc := q239
 refine z.d_plain_answer.cal fun f fd F => F.k sc fun _ _ _ s H _ Q _ hr h => ?_
 obtain ⟨b, ga, va, xs, low, L, gs, nm, ns, t, rfl, hb, hL, lo0, lo1, hga, hg, G, hva, hpl, hz, q⟩ := h
 refine ⟨_, (q12 (ps_if (q18 op_eq (pv 2) q22 (q21 _))
 (q15 (q19 (pe_fn (q254 z) hr.m (by rfl) (q10 (q32 q368 (by rfl) z.list_ bt_list (q10 (pe_fn (q188 z) hr.m (by rfl) (q10 (pv 0) (q10 (pv 1) (q10 (pix q25 (pv 3) q13) q11)))) q11)) q11))))
 q20)
 (q12 (ps_if (q18 op_eq (pv 2) q22 (q21 _))
 (q15 (q19 (pe_fn (q57 z) hr.m (by rfl) (q10 (pe_fn (q131 z) hr.m (by rfl) (q10 (pv 0) (q10 (pv 1) (q10 (pix q25 (pv 3) q13) q11)))) q11))))
 q20)
 (q12 (ps_if (q18 op_eq (pv 2) q22 (q21 _))
 (q15 (q19 (pe_fn (q57 z) hr.m (by rfl) (q10 (pe_fn (q302 z) hr.m (by rfl) (q10 (pv 0) (q10 (pv 1) (q10 (pix q25 (pv 3) q13) (q10 (pix q25 (pv 3) q13) q11))))) q11))))
 q20)
 (q12 (ps_if (q18 op_eq (pv 2) q22 (q21 _))
 (q15 (q19 (pe_fn (q72 z) hr.m (by rfl) (q10 (pe_fn (q303 z) hr.m (by rfl) (q10 (pv 0) (q10 (pv 1) (q10 (pix q25 (pv 3) q13) q11)))) q11))))
 q20)
 (q12 (ps_if (q18 op_eq (pv 2) q22 (q21 _))
 (q15 (q19 (pe_fn (q72 z) hr.m (by rfl) (q10 (pe_fn (q186 z) hr.m (by rfl) (q10 (pv 0) (q10 (pv 1) (q10 (pix q25 (pv 3) q13) q11)))) q11))))
 q20)
 (q12 (ps_if (q18 op_eq (pv 2) q22 (q21 _))
 (q15 (q19 (pe_fn (q72 z) hr.m (by rfl) (q10 (pe_fn (q685 z) hr.m (by rfl) (q10 (pv 0) (q10 (pv 1) q11))) q11))))
 q20)
 (q15 (q19 (pe_fn (q431 z) hr.m (by rfl) (q10 (pe_fn (q525 z) hr.m (by rfl) (q10 (pv 0) (q10 (pv 1) (q10 (pix q25 (pv 3) q13) q11)))) q11)))))))))), ?_⟩
 have hl := G.ln
 have hm := G.mn
 have hm0 := q65 G.gd
 refine ⟨_, rfl, rfl, _, rfl, ?_⟩
 cases hpl with
 | least k r h0 h1 h =>
  rw [weq rfl]
  obtain ⟨r0, r1, r2, r3⟩ := nl_rng hL G hz h0 h1 h
  refine iteT ⟨_, rfl, _, rfl, _, rfl, va, _, _, _, rfl, rfl, hva, rfl, b, ga, xs, low, k, L, gs, r, rfl, hb, hL, hga, hg, G.gd, by omega, h0, h1, h, fun p H1 s1 hp => ?_⟩
  refine ⟨p, _, rfl, .inr hp, fun l hl1 => ?_⟩
  have s2 := q16 hl1 (.lst [.int r.1, .int (r.2.1 : Int), .int (r.2.2 : Int)])
  refine ⟨l, [r.1, (r.2.1 : Int), (r.2.2 : Int)], rfl, SqL.of q14, fun n hn => ?_, by show 3 <= _; decide, fun H3 s3 => q H3 (s1.trans (s2.trans s3))⟩
  rcases (by simpa using hn : n = r.1 \/ n = (r.2.1 : Int) \/ n = (r.2.2 : Int)) with rfl | rfl | rfl <;> omega
 | below n =>
  have hr := q305 (low := low) (n := n) G.gd
  rw [wne (by decide +kernel)]
  refine iteF ⟨_, rfl, rfl, _, rfl, ?_⟩
  rw [weq rfl]
  exact iteT ⟨_, rfl, _, rfl, _, rfl, va, _, _, _, rfl, rfl, hva, rfl, b, ga, xs, low, n, L, gs, rfl, hb, hL, SqL.of hga, hg, by omega, fun H1 s1 => ⟨_, rfl, by omega, by omega, q H1 s1⟩⟩
 | between a c =>
  have hr := q305 (low := low) (n := c + 1) G.gd
  have hr2 := q305 (low := low) (n := a) G.gd
  iterate 2 (rw [wne (by decide +kernel)]; refine iteF ⟨_, rfl, rfl, _, rfl, ?_⟩)
  rw [weq rfl]
  exact iteT ⟨_, rfl, _, rfl, _, rfl, va, _, _, _, rfl, rfl, hva, rfl, _, rfl, va, _, _, _, rfl, rfl, hva, rfl, b, ga, xs, low, a, c, L, gs, rfl, hb, hL, SqL.of hga, hg, by omega, fun H1 s1 => ⟨_, rfl, by split <;> omega, by split <;> omega, q H1 s1⟩⟩
 | up n =>
  iterate 3 (rw [wne (by decide +kernel)]; refine iteF ⟨_, rfl, rfl, _, rfl, ?_⟩)
  rw [weq rfl]
  exact iteT ⟨_, rfl, _, rfl, _, rfl, va, _, _, _, rfl, rfl, hva, rfl, b, ga, xs, low, n, L, gs, rfl, hb, hL, hga, hg, by omega, fun v H1 s1 hv => ⟨v, _, rfl, hv, fun p hp => (up_sm hL G p hp).b lo0 lo1, fun H2 s2 => q H2 (s1.trans s2)⟩⟩
 | down n =>
  iterate 4 (rw [wne (by decide +kernel)]; refine iteF ⟨_, rfl, rfl, _, rfl, ?_⟩)
  rw [weq rfl]
  exact iteT ⟨_, rfl, _, rfl, _, rfl, va, _, _, _, rfl, rfl, hva, rfl, b, ga, xs, low, n, L, gs, rfl, hb, hL, hga, hg, by omega, fun v H1 s1 hv => ⟨v, _, rfl, hv, fun p hp => (dn_sm hL G p hp).b lo0 lo1, fun H2 s2 => q H2 (s1.trans s2)⟩⟩
 | most =>
  iterate 5 (rw [wne (by decide +kernel)]; refine iteF ⟨_, rfl, rfl, _, rfl, ?_⟩)
  rw [weq rfl]
  refine iteT ⟨_, rfl, _, rfl, b, ga, xs, low, L, gs, rfl, hb, hL, SqL.of hga, hg, G.gd, by omega, hm, fun H1 v s1 hv => ⟨v, _, rfl, hv, fun p hp => ?_, fun H2 s2 => q H2 (s1.trans s2)⟩⟩
  rcases q349 _ _ p hp with h | h
  ·cases h
  ·exact (ca_sm hL G p h).b lo0 lo1
 | often p h0 h1 =>
  iterate 5 (rw [wne (by decide +kernel)]; refine iteF ⟨_, rfl, rfl, _, rfl, ?_⟩)
  rw [wne (by decide +kernel)]
  refine iteF ?_
  refine ⟨_, rfl, _, rfl, _, rfl, va, _, _, _, rfl, rfl, hva, rfl, b, ga, xs, low, p, L, gs, rfl, hb, hL, SqL.of hga, hg, G.gd, by omega, hm, by omega, h1, fun H1 D ys s1 hD _ hA => ⟨D, ys, _, rfl, SqL.of hD, hA, fun p hp => (ca_sm hL G p hp).b lo0 lo1, ?_, fun H2 s2 => q H2 (s1.trans s2)⟩⟩
  have := q418 (part := p) (fl := manyS gs) (low := low) (by omega) hm0 (q67 G.gd)
  rw [q69 G.gd] at this
  omega
theorem q699 (z : Bz K mg cA cB cC cD cE cF cG cH) : Cal P w K mg base 49 "answer" pn7 (sp_answer K) := by
 have sc := q654
 refine z.d_answer.cal fun f fd F => F.k sc fun _ _ _ s H _ Q _ hr h => ?_
 obtain ⟨b, ga, va, xs, low, L, gs, nm, ns, t, rfl, hb, hL, lo0, lo1, hga, hg, G, hva, hpl, hz, q⟩ := h
 refine ⟨_, (q12 (ps_if (q18 op_eq (pv 2) q22 (q21 _))
 (q15 q36)
 q20)
 (q12 (ps_if (q18 op_eq (pv 2) q22 (q21 _))
 (q15 q36)
 q20)
 (q15 (q19 (pe_fn (q256 z) hr.m (by rfl) (q10 (pv 0) (q10 (pv 1) (q10 (pv 3) (q10 (pv 4) q11))))))))), ?_⟩
 refine ⟨_, rfl, rfl, _, rfl, ?_⟩
 rw [wne (by decide +kernel)]
 refine iteF ⟨_, rfl, rfl, _, rfl, ?_⟩
 rw [wne (by decide +kernel)]
 refine iteF ?_
 exact ⟨_, rfl, _, rfl, _, rfl, _, rfl, b, ga, va, xs, low, L, gs, nm, ns, t, rfl, hb, hL, lo0, lo1, hga, hg, G, hva, hpl, hz, q⟩
abbrev kNb : Str := "number"
abbrev kPt : Str := "part"
abbrev kSt : Str := "stretch"
theorem q484 : ∀ (e : Nat) (low : Int) (ns : List Int), wfT e (grow low e ns)
 | 0, low, ns => by
  by_cases h : ns = []
  ·rw [h, q38]; exact q524 0
  ·rw [q30 h]; show (0 : Int) <= _; omega
 | e + 1, low, ns => by
  by_cases h : ns = []
  ·rw [h, q38]; exact q524 _
  ·have cn : ∀ m : Int, m = 0 \/ m = 1 -> (ns.map (mkOf (low + 2 ^ e))).count m = (ns.filter (hlf (low + 2 ^ e) m)).length := fun m hm => by
    have := q107 (ns := ns) (mid := low + 2 ^ e) (pl := ns.length) hm
    rw [List.take_length, List.take_of_length_le (by rw [List.length_map]; exact Nat.le_refl _)] at this
    rw [this, List.countP_eq_length_filter]
   have c0 := cn 0 (.inl rfl)
   have c1 := cn 1 (.inr rfl)
   rw [q33 h]
   refine ⟨fun x hx => ?_, ?_, ?_, q484 e _ _, q484 e _ _⟩
   ·obtain ⟨n, _, rfl⟩ := List.mem_map.mp hx
    unfold mkOf
    split
    ·exact .inl rfl
    ·exact .inr rfl
   ·rw [q59, c0]; rfl
   ·rw [q59, c1]; rfl
theorem q133 {low : Int} {L : Nat} (h : StOk rs p) (hl : ∀ r ∈ rs, r.length <= 200) : GoodS L (gOf low L rs p) /\ q45 (gOf low L rs p).1 <= 400 := by
 obtain ⟨r, g, h1, h2⟩ := h
 have e : rs.getD p.1 [] = r := by rw [List.getD_eq_getElem?_getD, g]; rfl
 have := hl r (List.mem_of_getElem? g)
 unfold gOf
 rw [e]
 refine ⟨⟨q484 _ _ _, h1, ?_⟩, ?_⟩
 ·rw [q59]
  show (p.2.2 : Int) <= _
  omega
 ·rw [q59]
  omega
theorem st_sm {rs : LL} (h : StOk rs p) (hn : rs.length <= 100) (hl : ∀ r ∈ rs, r.length <= 200) : SmP p := by
 obtain ⟨r, g, h1, h2⟩ := h
 have := hl r (List.mem_of_getElem? g)
 have := (List.getElem?_eq_some_iff.mp g).1
 exact ⟨by omega, by omega, by omega⟩
theorem q350 (h : VlsAt K H xs (y :: ys)) : ∃ x xs', xs = x :: xs' /\ VlAt K H x y /\ VlsAt K H xs' ys := by
 cases xs with
 | nil => exact absurd h.1 (by simp)
 | cons x xs => exact ⟨x, xs, rfl, h.2 0 x y rfl rfl, by have := h.1; rw [List.length_cons, List.length_cons] at this; omega, fun j a b h1 h2 => h.2 (j + 1) a b h1 h2⟩
theorem q204 : ∀ {ns : List Int} {xs : List V}, VlsAt K H xs (ns.map Vl.n) -> xs = ns.map V.int
 | [], xs, h => List.eq_nil_of_length_eq_zero h.1
 | n :: ns, xs, h => by
  obtain ⟨x, xs', rfl, h1, h2⟩ := q350 h
  rw [show x = .int n from h1, q204 h2]
  rfl
theorem say_g {ks : List Str} {ns : List Int} (hk : (nm, kGt :: ks) ∈ forms) (hl : ks.length = ns.length) (hf : ns.length <= 100) (hg : VlOk kGt (.g ps)) (hv : ∀ p ∈ ks.zip ns, VlOk p.1 (.n p.2)) : Say nm (kGt :: ks) (.g ps :: ns.map Vl.n) :=
 q430 (by rw [List.length_cons, List.length_cons, List.length_map, hl]) (by rw [List.length_cons, List.length_map]; omega) hk fun p hp => by
  rw [List.zip_cons_cons] at hp
  rcases List.mem_cons.mp hp with rfl | hp
  ·exact hg
  ·rw [List.zip_map_right] at hp
   obtain ⟨q, hq, rfl⟩ := List.mem_map.mp hp
   exact hv q hq
theorem Pl.say {low : Int} {L : Nat} {ns : List Int} (h : Pl low L gs nm ns t) (hb : BdN ns) (hg : VlOk kGt (.g ps)) : ∃ ks, Say nm ks (.g ps :: ns.map Vl.n) := by
 have nb : ∀ n ∈ ns, VlOk "number" (.n n) := fun n hn => ⟨hb n hn, .inr (.inl rfl)⟩
 cases h with
 | least k r h0 h1 h =>
  refine ⟨_, say_g (ks := [kCt]) (by decide +kernel) rfl (by simp) hg fun p hp => ?_⟩
  obtain rfl : p = (kCt, k) := by simpa using hp
  exact ⟨hb k (List.mem_cons_self ..), .inl ⟨rfl, h0⟩⟩
 | below n =>
  refine ⟨_, say_g (ks := [kNb]) (by decide +kernel) rfl (by simp) hg fun p hp => ?_⟩
  obtain rfl : p = (kNb, n) := by simpa using hp
  exact nb n (List.mem_cons_self ..)
 | between a b =>
  refine ⟨_, say_g (ks := [kNb, kNb]) (by decide +kernel) rfl (by simp) hg fun p hp => ?_⟩
  rcases (by simpa using hp : p = (kNb, a) \/ p = (kNb, b)) with rfl | rfl
  ·exact nb a (by simp)
  ·exact nb b (by simp)
 | up n =>
  refine ⟨_, say_g (ks := [kNb]) (by decide +kernel) rfl (by simp) hg fun p hp => ?_⟩
  obtain rfl : p = (kNb, n) := by simpa using hp
  exact nb n (List.mem_cons_self ..)
 | down n =>
  refine ⟨_, say_g (ks := [kNb]) (by decide +kernel) rfl (by simp) hg fun p hp => ?_⟩
  obtain rfl : p = (kNb, n) := by simpa using hp
  exact nb n (List.mem_cons_self ..)
 | most => exact ⟨_, say_g (ks := []) (by decide +kernel) rfl (by simp) hg fun p hp => by cases hp⟩
 | often p h0 h1 =>
  refine ⟨_, say_g (ks := [kPt]) (by decide +kernel) rfl (by simp) hg fun q hq => ?_⟩
  obtain rfl : q = (kPt, p) := by simpa using hq
  exact ⟨hb p (List.mem_cons_self ..), .inr (.inr ⟨rfl, h0⟩)⟩
theorem Pl.nm {low : Int} {L : Nat} {gs : List S3} {nm t : Str} {ns : List Int} (h : Pl low L gs nm ns t) : nm ≠ "show" /\ nm ≠ "falls" /\ inV (.str nm) qry = true := by
 cases h <;> decide +kernel
def AskOk (low : Int) (L : Nat) (rs : LL) (y t : Str) : Prop :=
 (∃ (j : Nat) (r : List Int), y = sayT "show" [.n (j : Int)] /\ rs[j]? = some r /\ t = rowT r) \/
 (∃ p : P3, y = sayT "falls" [.s p] /\ StOk rs p /\ t = tx (flS L (gOf low L rs p))) \/
 (∃ (nm : Str) (ps : List P3) (ns : List Int), y = sayT nm (.g ps :: ns.map Vl.n) /\ ps ≠ [] /\ ps.length <= 8 /\ (∀ p ∈ ps, StOk rs p) /\ manyS (ps.map (gOf low L rs)) <= 900 /\ BdN ns /\ ns.length <= 10 /\ Pl low L (ps.map (gOf low L rs)) nm ns t)
inductive sp_M_stretch_at (K : Fg) (C : Addr) (M : Addr) (vs : List V) (H : Hp) (Q : VK) (E : XK) : Prop
 | mk (d x ka b : Addr) (v : V) (low : Int) (L : Nat) (rs cs : LL) (p : P3) (_ : vs = [.ref d, v]) (_ : Dsk C M H d x ka b low L rs cs) (_ : PtAt K H v p) (_ : StOk rs p) (_ : ∀ v' H', Same H H' -> StrAt H' v' (gOf low L rs p) -> Q v' H') : sp_M_stretch_at K C M vs H Q E
inductive sp_M_say (u0 : Fg) (C : Addr) (M : Addr) (vs : List V) (H : Hp) (Q : VK) (E : XK) : Prop
 | mk (d x ka b : Addr) (low : Int) (L : Nat) (rs cs : LL) (y : Str) (_ : vs = [.ref d, .str y]) (_ : Dsk C M H d x ka b low L rs cs) (_ : ((∃ t, AskOk low L rs y t /\ ∀ H', Same H H' -> Q (.str t) H') \/
  (∃ (nm : Str) (ns r c : List Int), y = sayT nm (ns.map Vl.n) /\ rs.length <= 99 /\ Dd low L rs nm ns r c /\ ∀ H', Keep ka H H' -> Dsk C M H' d x ka b low L (rs ++ [r]) (cs ++ [c]) -> Q (.str (tx (rs.length : Int))) H'))) : sp_M_say u0 C M vs H Q E
theorem q700 (z : Bz K mg cA cB cC cD cE cF cG cH) : ICal P w K mg base 4 cH pn18 (sp_I_Desk K cH cG) := by
 have sc := q661
 refine z.d_I_Desk.cal fun f fd F => F.k sc fun _ _ _ s H _ Q _ hr h => ?_
 obtain ⟨d, b, dd, low, L, rfl, hd, hb, hL, h0, h1, q⟩ := h
 refine ⟨_, (q12 (q491 (pv 0) (pv 1) rfl)
 (q15 (q491 (pv 0) (pe_mk (q581 z) hr.m (by rfl) z.m_Makes (q10 (pv 1) q11)) rfl))), ?_⟩
 refine ⟨_, rfl, _, rfl, d, _, dd, _, rfl, hd, z.o_Desk, z.dB, by decide, ?_⟩
 have hbd : b ≠ d := ne_of hb hd (by intro z; cases z)
 have k1 : Keep d H (upd H d (.ins cH dd (putF "bounds" (.ref b) []))) := Keep.set d H _
 have e1 : upd H d (.ins cH dd (putF "bounds" (.ref b) [])) d = some (.ins cH dd [("bounds", .ref b)]) := q14
 generalize upd H d (.ins cH dd (putF "bounds" (.ref b) [])) = H1 at *
 refine ⟨_, rfl, fun x dx hx hdx hne => ?_⟩
 have ha : ∀ c o, H1 c = some o -> upd (upd H1 dx (.own x)) x (.ins cG dx []) c = some o := fun c o hc => by
  rw [q34 (q26 hc hx), q34 (q26 hc hdx)]
  exact hc
 have ex : upd (upd H1 dx (.own x)) x (.ins cG dx []) x = some (.ins cG dx []) := q14
 generalize upd (upd H1 dx (.own x)) x (.ins cG dx []) = H2 at *
 refine ⟨x, b, dx, low, L, rfl, ex, ha _ _ (k1 _ _ hbd hb), hL, fun ka H3 hka k3 M3 => ⟨rfl, ?_⟩⟩
 have hdx3 : d ≠ x := q26 e1 hx
 have e3 := k3 _ _ hdx3 (ha _ _ e1)
 refine ⟨_, rfl, d, _, dd, _, rfl, e3, z.o_Desk, z.dM, by show 1 < 1000; decide, ?_⟩
 have k4 : Keep d H3 (upd H3 d (.ins cH dd (putF "makes" (.ref x) [("bounds", .ref b)]))) := Keep.set d H3 _
 have e4 : upd H3 d (.ins cH dd (putF "makes" (.ref x) [("bounds", .ref b)])) d = some (.ins cH dd [("bounds", .ref b), ("makes", .ref x)]) := q14
 generalize upd H3 d (.ins cH dd (putF "makes" (.ref x) [("bounds", .ref b)])) = H4 at *
 have hka0 : H ka = none := by
  cases e : H ka with
  | none => rfl
  | some o =>
   exfalso
   by_cases hkd : ka = d
   ·rw [hkd, ha _ _ e1] at hka; cases hka
   ·rw [ha _ _ (k1 _ _ hkd e)] at hka; cases hka
 have M4 := M3.keepI k4 e3 (Ne.symm hdx3)
 refine q x ka H4 hka0 ?_ ⟨⟨dd, e4⟩, M4, h0, h1⟩
 intro c o hc hco
 refine k4 _ _ hc (k3 _ _ ?_ (ha _ _ (k1 _ _ hc hco)))
 exact q26 (k1 _ _ hc hco) hx
theorem q701 (z : Bz K mg cA cB cC cD cE cF cG cH) : MCal P w K mg base 47 cH "made" ["self", "name", "values"] (sp_M_made K cH cG) := by
 have sc := q662
 refine z.d_M_made.cal z.o_Desk fun f fd F => F.k sc fun _ _ _ s H _ Q _ hr h => ?_
 obtain ⟨d, x, ka, b, v, low, L, rs, cs, nm, ns, r, c, rfl, hv, D, hn, dd, q⟩ := h
 refine ⟨_, (q12 (ps_if (q18 op_eq (pv 1) q22 (q21 _))
 (q15 (q19 (q39 (q476 z) hr.m (q68 (pv 0) rfl) (q10 (pv 2) q11))))
 q20)
 (q12 (ps_if (q18 op_eq (pv 1) q22 (q21 _))
 (q15 (q19 (q39 (q477 z) hr.m (q68 (pv 0) rfl) (q10 (pix q25 (pv 2) q13) (q10 (pix q25 (pv 2) q13) (q10 (pix q25 (pv 2) q13) q11))))))
 q20)
 (q12 (ps_if (q18 op_eq (pv 1) q22 (q21 _))
 (q15 (q19 (q39 (q268 z) hr.m (q68 (pv 0) rfl) (q10 (pix q25 (pv 2) q13) (q10 (pix q25 (pv 2) q13) q11)))))
 q20)
 (q12 (ps_if (q18 op_eq (pv 1) q22 (q21 _))
 (q15 (q19 (q39 (q478 z) hr.m (q68 (pv 0) rfl) (q10 (pix q25 (pv 2) q13) (q10 (pix q25 (pv 2) q13) (q10 (pix q25 (pv 2) q13) q11))))))
 q20)
 (q12 (ps_if (q18 op_eq (pv 1) q22 (q21 _))
 (q15 (q19 (q39 (q423 z) hr.m (q68 (pv 0) rfl) (q10 (pix q25 (pv 2) q13) (q10 (pix q25 (pv 2) q13) (q10 (pix q25 (pv 2) q13) q11))))))
 q20)
 (q12 (ps_if (q18 op_eq (pv 1) q22 (q21 _))
 (q15 (q19 (q39 (q479 z) hr.m (q68 (pv 0) rfl) (q10 (pix q25 (pv 2) q13) (q10 (pix q25 (pv 2) q13) q11)))))
 q20)
 (q12 (ps_if (q18 op_eq (pv 1) q22 (q21 _))
 (q15 (q19 (q39 (q480 z) hr.m (q68 (pv 0) rfl) (q10 (pix q25 (pv 2) q13) q11))))
 q20)
 (q15 (q19 (q39 (q424 z) hr.m (q68 (pv 0) rfl) (q10 (pix q25 (pv 2) q13) q11))))))))))), ?_⟩
 obtain ⟨di, hd⟩ := D.o
 have M := D.m
 obtain ⟨xi, hx⟩ := M.o
 refine ⟨_, rfl, rfl, _, rfl, ?_⟩
 cases dd with
 | row r hw hl =>
  rw [weq rfl]
  refine iteT ?_
  refine ⟨_, rfl, d, _, di, _, _, rfl, hd, z.o_Desk, z.dM, rfl, x, xi, _, rfl, hx, rfl, _, rfl, x, ka, b, v, low, L, rs, cs, _, rfl, M, SqL.of hv, hw, hl, hn, fun H' k m => q H' k (D.made k m)⟩
 | put j pl num r g hp h0 h1 hl =>
  rw [wne (by decide +kernel)]
  refine iteF ⟨_, rfl, rfl, _, rfl, ?_⟩
  rw [weq rfl]
  refine iteT ?_
  exact ⟨_, rfl, d, _, di, _, _, rfl, hd, z.o_Desk, z.dM, rfl, x, xi, _, rfl, hx, rfl, _, rfl, v, _, _, _, rfl, rfl, SqL.of hv, rfl, _, rfl, v, _, _, _, rfl, rfl, SqL.of hv, rfl, _, rfl, v, _, _, _, rfl, rfl, SqL.of hv, rfl, x, ka, b, j, pl, low, num, L, rs, cs, r, rfl, M, g, hp, h0, h1, hl, hn, fun H' k m => q H' k (D.made k m)⟩
 | take j pl n r g gn =>
  iterate 2 (rw [wne (by decide +kernel)]; refine iteF ⟨_, rfl, rfl, _, rfl, ?_⟩)
  rw [weq rfl]
  refine iteT ?_
  exact ⟨_, rfl, d, _, di, _, _, rfl, hd, z.o_Desk, z.dM, rfl, x, xi, _, rfl, hx, rfl, _, rfl, v, _, _, _, rfl, rfl, SqL.of hv, rfl, _, rfl, v, _, _, _, rfl, rfl, SqL.of hv, rfl, x, ka, b, j, pl, low, n, L, rs, cs, r, rfl, M, g, gn, hn, fun H' k m => q H' k (D.made k m)⟩
 | set j pl n num r g gn h0 h1 =>
  iterate 3 (rw [wne (by decide +kernel)]; refine iteF ⟨_, rfl, rfl, _, rfl, ?_⟩)
  rw [weq rfl]
  refine iteT ?_
  exact ⟨_, rfl, d, _, di, _, _, rfl, hd, z.o_Desk, z.dM, rfl, x, xi, _, rfl, hx, rfl, _, rfl, v, _, _, _, rfl, rfl, SqL.of hv, rfl, _, rfl, v, _, _, _, rfl, rfl, SqL.of hv, rfl, _, rfl, v, _, _, _, rfl, rfl, SqL.of hv, rfl, x, ka, b, j, pl, low, n, num, L, rs, cs, r, rfl, M, g, gn, h0, h1, hn, fun H' k m => q H' k (D.made k m)⟩
 | cut j st en r g h0 h1 =>
  iterate 4 (rw [wne (by decide +kernel)]; refine iteF ⟨_, rfl, rfl, _, rfl, ?_⟩)
  rw [weq rfl]
  refine iteT ?_
  exact ⟨_, rfl, d, _, di, _, _, rfl, hd, z.o_Desk, z.dM, rfl, x, xi, _, rfl, hx, rfl, _, rfl, v, _, _, _, rfl, rfl, SqL.of hv, rfl, _, rfl, v, _, _, _, rfl, rfl, SqL.of hv, rfl, _, rfl, v, _, _, _, rfl, rfl, SqL.of hv, rfl, x, ka, b, j, st, en, low, L, rs, cs, r, rfl, M, g, h0, h1, hn, fun H' k m => q H' k (D.made k m)⟩
 | join i j r t g g' hl =>
  iterate 5 (rw [wne (by decide +kernel)]; refine iteF ⟨_, rfl, rfl, _, rfl, ?_⟩)
  rw [weq rfl]
  refine iteT ?_
  exact ⟨_, rfl, d, _, di, _, _, rfl, hd, z.o_Desk, z.dM, rfl, x, xi, _, rfl, hx, rfl, _, rfl, v, _, _, _, rfl, rfl, SqL.of hv, rfl, _, rfl, v, _, _, _, rfl, rfl, SqL.of hv, rfl, x, ka, b, i, j, low, L, rs, cs, r, t, rfl, M, g, g', hl, hn, fun H' k m => q H' k (D.made k m)⟩
 | turn j r g =>
  iterate 6 (rw [wne (by decide +kernel)]; refine iteF ⟨_, rfl, rfl, _, rfl, ?_⟩)
  rw [weq rfl]
  refine iteT ?_
  exact ⟨_, rfl, d, _, di, _, _, rfl, hd, z.o_Desk, z.dM, rfl, x, xi, _, rfl, hx, rfl, _, rfl, v, _, _, _, rfl, rfl, SqL.of hv, rfl, x, ka, b, j, low, L, rs, cs, r, rfl, M, g, hn, fun H' k m => q H' k (D.made k m)⟩
 | flip j r g =>
  iterate 6 (rw [wne (by decide +kernel)]; refine iteF ⟨_, rfl, rfl, _, rfl, ?_⟩)
  rw [wne (by decide +kernel)]
  refine iteF ?_
  exact ⟨_, rfl, d, _, di, _, _, rfl, hd, z.o_Desk, z.dM, rfl, x, xi, _, rfl, hx, rfl, _, rfl, v, _, _, _, rfl, rfl, SqL.of hv, rfl, x, ka, b, j, low, L, rs, cs, r, rfl, M, g, hn, fun H' k m => q H' k (D.made k m)⟩
theorem q125 (z : Bz K mg cA cB cC cD cE cF cG cH) : MCal P w K mg base 4 cH "stretch_at" ["self", "spot"] (sp_M_stretch_at K cH cG) := by
 have sc := q243
 refine z.d_M_stretch_at.cal z.o_Desk fun f fd F => F.k sc fun _ _ _ s H _ Q _ hr h => ?_
 obtain ⟨d, x, ka, b, v, low, L, rs, cs, p, rfl, D, ⟨a, rfl, ha⟩, hst, q⟩ := h
 refine ⟨_, (q15 (q19 (q39 (q189 z) hr.m (q68 (pv 0) rfl) (q10 (pix q23 (pv 1) q13) (q10 (pix q23 (pv 1) q13) (q10 (pix q23 (pv 1) q13) q11)))))), ?_⟩
 obtain ⟨di, hd⟩ := D.o
 have M := D.m
 obtain ⟨xi, hx⟩ := M.o
 obtain ⟨r, g, h1, h2⟩ := hst
 have e : rs.getD p.1 [] = r := by rw [List.getD_eq_getElem?_getD, g]; rfl
 refine ⟨_, rfl, d, _, di, _, _, rfl, hd, z.o_Desk, z.dM, rfl, x, xi, _, rfl, hx, rfl, _, rfl, a, _, _, _, rfl, rfl, ha, rfl, _, rfl, a, _, _, _, rfl, rfl, ha, rfl, _, rfl, a, _, _, _, rfl, rfl, ha, rfl, x, ka, b, p.1, p.2.1, p.2.2, low, L, rs, cs, r, rfl, M, g, h1, h2, fun p1 v1 H1 s1 hv hp1 => ?_⟩
 refine q _ H1 s1 ⟨p1, v1, rfl, hp1, ?_⟩
 unfold gOf
 rw [e]
 exact hv
theorem q205 (z : Bz K mg cA cB cC cD cE cF cG cH) : MCal P w K mg base 50 cH "say" pn24 (sp_M_say K cH cG) := by
 have sc := sc_M_say
 refine z.d_M_say.cal z.o_Desk fun f fd F => F.k sc fun _ _ _ s H _ Q _ hr h => ?_
 obtain ⟨d, x, ka, b, low, L, rs, cs, y, rfl, D, q⟩ := h
 refine ⟨_, (q12 (pst 2 sc.nd (pe_fn (q429 z) hr.m (by rfl) (q10 (pv 1) q11)))
 (q12 (pst 3 sc.nd (pix q23 (pv 2) q13))
 (q12 (pst 4 sc.nd (pix q23 (pv 2) q13))
 (q12 (pst 5 sc.nd (pix q23 (pv 2) q13))
 (q12 (ps_if (q18 op_eq (pv 4) q22 (q21 _))
 (q15 (q19 (pe_fn (q254 z) hr.m (by rfl) (q10 (q39 (ok_M_row z) hr.m (q68 (pv 0) rfl) (q10 (pix q25 (pv 5) q13) q11)) q11))))
 q20)
 (q12 (ps_if (q18 op_eq (pv 4) q22 (q21 _))
 (q15 (q19 (pe_fn (q57 z) hr.m (by rfl) (q10 (pe_fn (q529 z) hr.m (by rfl) (q10 (q39 (q125 z) hr.m (pv 0) (q10 (pix q25 (pv 5) q13) q11)) q11)) q11))))
 q20)
 (q12 (ps_if (q18 q365 (pv 4) (q27 (q10 q22 (q10 q22 (q10 q22 (q10 q22 (q10 q22 (q10 q22 (q10 q22 q11)))))))) rfl)
 (q12 (q280 (i := 6) (cl := [("self", s.heap.objs.size + 1 + 0)]) (cn := ["self"]) (N := ["self"]) (fr := [0]) (sc0 := q17 q446) sc.nd rfl (Or.inl rfl) rfl (q46 (pix q25 (pv 5) q13)) (fun C s₂ H₂ fp => (q39 (q125 z) hr.m (pv 1) (q10 (pv 0) q11))) (by with_unfolding_all rfl) ⟨by with_unfolding_all rfl, trivial⟩ rfl rfl rfl cok rfl (by with_unfolding_all rfl) (.inl rfl))
 (q15 (q19 (pe_fn (q699 z) hr.m (by rfl) (q10 (q68 (pv 0) rfl) (q10 (pv 6) (q10 (pv 3) (q10 (pv 4) (q10 (q40 q96 (pv 5) (q47 q13) q54) q11)))))))))
 q20)
 (q15 (q19 (pe_fn (q57 z) hr.m (by rfl) (q10 (q39 (q701 z) hr.m (pv 0) (q10 (pv 4) (q10 (pv 5) q11))) q11))))))))))), ?_⟩
 obtain ⟨di, hd⟩ := D.o
 have M := D.m
 obtain ⟨xi, hx⟩ := M.o
 have few := M.few
 have hl2 : ∀ r ∈ rs, r.length <= 200 := fun r hr => (M.ok r hr).2
 have hbd : ∀ {j : Nat} {r : List Int}, rs[j]? = some r -> BdN r /\ r.length <= 1000 /\ j <= 1000 := fun {j r} g => by
  obtain ⟨hw, hl⟩ := M.sz g
  have hp := p40 M.hL
  have := D.lo
  have := D.hi
  have := (List.getElem?_eq_some_iff.mp g).1
  exact ⟨fun n hn => by have := hw n hn; omega, by omega, by omega⟩
 rcases q with ⟨t, ⟨j, r, rfl, g, rfl⟩ | ⟨sp, rfl, hst, rfl⟩ | ⟨nm, ps, ns, rfl, hne, h8, hst, hmn, hb, hnl, pl⟩, q⟩ | ⟨nm, ns, r, c, rfl, hn, dd, q⟩
 ·obtain ⟨hb, hl, hj⟩ := hbd g
  refine ⟨_, rfl, _, _, _, rfl, say1 (by decide +kernel) hj, fun p v ys H1 s1 ep ev hA => ?_⟩
  obtain rfl : ys = [.int (j : Int)] := q204 (ns := [(j : Int)]) hA
  refine ⟨_, rfl, p, _, _, _, rfl, rfl, SqT.of ep, rfl, ?_⟩
  refine ⟨_, rfl, p, _, _, _, rfl, rfl, SqT.of ep, rfl, ?_⟩
  refine ⟨_, rfl, p, _, _, _, rfl, rfl, SqT.of ep, rfl, ?_⟩
  refine ⟨_, rfl, rfl, _, rfl, ?_⟩
  rw [weq rfl]
  refine iteT ?_
  refine ⟨_, rfl, d, _, di, _, _, rfl, s1 _ _ hd, z.o_Desk, z.dM, rfl, x, xi, _, rfl, s1 _ _ hx, rfl, _, rfl, v, _, _, _, rfl, rfl, SqL.of ev, rfl, x, ka, b, j, low, L, rs, cs, r, rfl, M.same s1, g, fun H2 D2 s2 e2 _ => ?_⟩
  exact ⟨D2, r, rfl, SqL.of e2, hb, hl, fun H3 s3 => q H3 (s1.trans (s2.trans s3))⟩
 ·obtain ⟨hgd, hsz⟩ := q133 (low := low) (L := L) hst hl2
  have hfl := q531 hgd hsz
  have hp2 := p40 M.hL
  have S : Say "falls" [kSt] [.s sp] := q430 rfl (by simp) (by decide +kernel) fun p hp => by
   obtain rfl : p = (kSt, .s sp) := by simpa using hp
   exact ⟨rfl, st_sm hst few hl2⟩
  refine ⟨_, rfl, _, _, _, rfl, S, fun p v ys H1 s1 ep ev hA => ?_⟩
  obtain ⟨y0, ys', rfl, hy0, hA'⟩ := q350 hA
  refine ⟨_, rfl, p, _, _, _, rfl, rfl, SqT.of ep, rfl, ?_⟩
  refine ⟨_, rfl, p, _, _, _, rfl, rfl, SqT.of ep, rfl, ?_⟩
  refine ⟨_, rfl, p, _, _, _, rfl, rfl, SqT.of ep, rfl, ?_⟩
  refine ⟨_, rfl, rfl, _, rfl, ?_⟩
  rw [wne (by decide +kernel)]
  refine iteF ⟨_, rfl, rfl, _, rfl, ?_⟩
  rw [weq rfl]
  refine iteT ?_
  refine ⟨_, rfl, d, di, _, rfl, s1 _ _ hd, rfl, _, rfl, v, _, _, _, rfl, rfl, SqL.of ev, q41 (j := 0) rfl, d, x, ka, b, y0, low, L, rs, cs, sp, rfl, D.same s1, hy0, hst, fun v' H2 s2 hv' => ?_⟩
  exact ⟨v', L, _, rfl, hv', hgd, hsz, M.hL, fun H3 s3 => ⟨_, rfl, by omega, by omega, q H3 (s1.trans (s2.trans s3))⟩⟩
 ·have hok : VlOk kGt (.g ps) := ⟨rfl, hne, h8, fun p hp => st_sm (hst p hp) few hl2⟩
  obtain ⟨ks, S⟩ := pl.say hb hok
  have G : GoodG L (ps.map (gOf low L rs)) := ⟨fun g hg => by
   obtain ⟨p, hp, rfl⟩ := List.mem_map.mp hg
   exact (q133 (hst p hp) hl2).1, by rw [List.length_map]; exact h8, hmn⟩
  have hz : ∀ g ∈ ps.map (gOf low L rs), q45 g.1 <= 400 := fun g hg => by
   obtain ⟨p, hp, rfl⟩ := List.mem_map.mp hg
   exact (q133 (hst p hp) hl2).2
  refine ⟨_, rfl, nm, ks, _, rfl, S, fun p v ys H1 s1 ep ev hA => ?_⟩
  obtain ⟨y0, ys', rfl, hy0, hA'⟩ := q350 hA
  obtain rfl : ys' = ns.map V.int := q204 hA'
  obtain ⟨ga, gx, rfl, hga, hgx⟩ := hy0
  refine ⟨_, rfl, p, _, _, _, rfl, rfl, SqT.of ep, rfl, ?_⟩
  refine ⟨_, rfl, p, _, _, _, rfl, rfl, SqT.of ep, rfl, ?_⟩
  refine ⟨_, rfl, p, _, _, _, rfl, rfl, SqT.of ep, rfl, ?_⟩
  refine ⟨_, rfl, rfl, _, rfl, ?_⟩
  rw [wne pl.nm.1]
  refine iteF ⟨_, rfl, rfl, _, rfl, ?_⟩
  rw [wne pl.nm.2.1]
  refine iteF ⟨_, rfl, szb rfl, fun tq htq => ?_⟩
  obtain ⟨H2, gz, s2, e2⟩ := nwH htq (.tup qry)
  rw [gz]
  refine ⟨tq, qry, rfl, .inr (SqT.of e2), rfl, rfl, ?_⟩
  rw [pl.nm.2.2]
  refine ⟨_, rfl, ?_⟩
  refine iteT ?_
  have s12 := s1.trans s2
  have ev2 := s2 _ _ ev
  refine ⟨_, rfl, v, _, _, _, rfl, rfl, SqL.of ev2, q41 (j := 0) rfl, ga, rfl, ⟨_, s2.seq hga⟩, fun D3 hD3 => ?_⟩
  refine q61 (K := K) (xs := gx) (sl51 (by rw [hgx.1]; omega)) (fun i ys H4 => H4 D3 = some (.lst ys) /\ ys.length = i /\ Same H2 H4 /\ GatAt H4 ys ((ps.take i).map (gOf low L rs))) ⟨q14, rfl, q16 hD3 _, GatAt.nil _⟩ (fun i ys H4 ⟨_, _, e, _⟩ => e.seq (s2.seq hga)) (fun i ys H4 ⟨e1, e2, _, _⟩ => ⟨e1, e2⟩) ?_ ?_
  ·rintro i y ys H4 hy ⟨e1, e4, s4, hg4⟩
   have hi : i < ps.length := by rw [<- hgx.1]; exact (List.getElem?_eq_some_iff.mp hy).1
   have gi : ps[i]? = some ps[i] := List.getElem?_eq_getElem hi
   generalize ps[i] = sp at gi
   have s14 := s12.trans s4
   refine ⟨_, rfl, d, di, _, rfl, s14 _ _ hd, rfl, _, rfl, d, x, ka, b, y, low, L, rs, cs, sp, rfl, D.same s14, (hgx.2 i y sp hy gi).same (s2.trans s4), hst sp (List.mem_of_getElem? gi), fun v' H5 s5 hv' => ?_⟩
   have e5 := s5 _ _ e1
   have tk : TKeep H5 (upd H5 D3 (.lst (ys ++ [v']))) := TKeep.set e5
   refine ⟨e5, q14, by rw [List.length_append, e4] <;> rfl, own2 (s4.trans s5) hD3, ?_⟩
   rw [List.take_add_one, gi, List.map_append]
   exact ((hg4.same s5).tk tk).snoc (hv'.tk tk)
  ·rintro ys H4 ⟨e1, e4, s4, hg4⟩
   rw [hgx.1, List.take_length] at hg4
   have s14 := s12.trans s4
   have ev4 := s4 _ _ ev2
   refine ⟨_, rfl, d, _, di, _, _, rfl, s14 _ _ hd, z.o_Desk, z.dB, rfl, _, rfl, _, rfl, _, rfl, _, rfl, _, rfl, v, _, rfl, SqL.of ev4, fun wa hwa => ?_⟩
   have ec : cutV (V.ref ga :: ns.map V.int) (some 1) none = ns.map V.int := by
    unfold cutV
    rw [show (some (1 : Int)) = some ((1 : Nat) : Int) from rfl, HT.q715, HT.q714, List.length_cons, Nat.min_eq_left (by omega)]
    exact List.take_of_length_le (by rw [List.length_drop, List.length_cons]; exact Nat.le_refl _)
   rw [ec]
   have s5 := q16 hwa (.lst (ns.map V.int))
   exact ⟨b, D3, wa, ys, low, L, _, nm, ns, t, rfl, SqT.of (s5 _ _ (s14 _ _ M.hb)), M.hL, D.lo, D.hi, s5 _ _ e1, hg4.same s5, G, SqL.of q14, pl, hz, fun H6 s6 => q H6 (s14.trans (s5.trans s6))⟩
 ·obtain ⟨ks, S⟩ := dd.say M.hL M.few hl2 D.lo D.hi
  refine ⟨_, rfl, nm, ks, _, rfl, S, fun p v ys H1 s1 ep ev hA => ?_⟩
  obtain rfl : ys = ns.map V.int := q204 hA
  refine ⟨_, rfl, p, _, _, _, rfl, rfl, SqT.of ep, rfl, ?_⟩
  refine ⟨_, rfl, p, _, _, _, rfl, rfl, SqT.of ep, rfl, ?_⟩
  refine ⟨_, rfl, p, _, _, _, rfl, rfl, SqT.of ep, rfl, ?_⟩
  refine ⟨_, rfl, rfl, _, rfl, ?_⟩
  rw [wne (q698 dd.nm).1]
  refine iteF ⟨_, rfl, rfl, _, rfl, ?_⟩
  rw [wne (q698 dd.nm).2.1]
  refine iteF ⟨_, rfl, szb rfl, fun t ht => ?_⟩
  obtain ⟨H2, gz, s2, e2⟩ := nwH ht (.tup qry)
  rw [gz]
  refine ⟨t, qry, rfl, .inr (SqT.of e2), rfl, rfl, ?_⟩
  rw [(q698 dd.nm).2.2]
  refine ⟨_, rfl, ?_⟩
  refine iteF ?_
  have s12 := s1.trans s2
  refine ⟨_, rfl, d, di, _, rfl, s12 _ _ hd, rfl, _, rfl, _, rfl, d, x, ka, b, v, low, L, rs, cs, nm, ns, r, c, rfl, s2 _ _ ev, D.same s12, hn, dd, fun H3 k3 D3 => ?_⟩
  exact ⟨_, rfl, by omega, by omega, q H3 ((Keep.same s12).trans k3) D3⟩
abbrev q351 : Nat := 0
abbrev q172 : Nat := 40
inductive spe__law_grown (K : Fg) (e : Nat) (vs : List V) (H : Hp) (Q : VK) (E : XK) : Prop
 | mk (a : Addr) (os : List Int) (_ : vs = [.int (e : Int), .ref a]) (_ : SqL K H a (os.map V.int)) (_ : os.length <= 1000) (_ : ∀ (H' : Hp) (v : V), Same H H' -> q29 H' v (grow 0 e os) -> Q v H') : spe__law_grown K e vs H Q E
def q352 (K : Fg) : Sp := fun vs H Q E => ∃ e, e <= q172 /\ spe__law_grown K e vs H Q E
inductive sp__law_tree (K : Fg) (vs : List V) (H : Hp) (Q : VK) (E : XK) : Prop
 | mk (b r : Addr) (low : Int) (L : Nat) (ns : List Int) (_ : vs = [.ref b, .ref r]) (_ : SqT K H b [.int low, .int (L : Int)]) (_ : L <= 40) (_ : SqL K H r (ns.map V.int)) (_ : ns.length <= 1000) (_ : ∀ (H' : Hp) (v : V), Same H H' -> q29 H' v (grow low L ns) -> Q v H') : sp__law_tree K vs H Q E
theorem q353 (z : Bz K mg cA cB cC cD cE cF cG cH) : Cal P w K mg base 41 "_law_grown" ["_law_levels", "_law_offsets"] (q352 K) := by
 have sc := q323
 refine z.d__law_grown.recur (k := q351) (sp := spe__law_grown K) q172 fun e hen c__law_grown f fd F => F.k sc fun _ _ _ s H _ Q _ hr h => ?_
 obtain ⟨a, os, rfl, ha, hl, q⟩ := h
 refine ⟨_, (q12 (ps_if (q18 (op_eqL hr.units) (pv 1) (q35 q11) (q21 _))
 (q15 (q19 q62))
 q20)
 (q12 (ps_if (q18 op_eq (pv 0) q13 (q21 _))
 (q15 (q19 (q27 (q10 q22 (q10 (pln z.len_ (q10 (pv 1) q11)) q11)))))
 q20)
 (q12 (pst 2 sc.nd (pe_op q275 q13 (pe_op q51 (pv 0) q13)))
 (q12 (pst 3 sc.nd (q32 q90 (by rfl) z.tuple_ q126 (q10 (q64 (cl := [("_law_half", s.heap.objs.size + 1 + 0)]) (cn := ["_law_half"]) (N := ["_law_half"]) (fr := [2]) (sc0 := q17 q79) rfl (q46 (pv 1)) (fun C s₂ H₂ fp => (q32 q359 (by rfl) z.int_ q612 (q10 (q308 op_ge (pv 0) (pv 1) (q21 _)) q11))) (by with_unfolding_all rfl) ⟨by with_unfolding_all rfl, trivial⟩ rfl rfl rfl cok rfl) q11)))
 (q12 (pst 4 sc.nd (pe_fn c__law_grown (hr.mono (Nat.le_refl _)) (by rfl) (q10 (pe_op q51 (pv 0) q13) (q10 (q117 (cl := [("_law_half", s.heap.objs.size + 1 + 0)]) (cn := ["_law_half"]) (N := ["_law_half"]) (fr := [2]) (sc0 := q17 q79) rfl (q46 (pv 1)) (fun C s₂ H₂ fp => (pv 0)) (fun C s₂ H₂ fp => (q18 op_lt (pv 0) (pv 1) (q21 _))) (by with_unfolding_all rfl) ⟨by with_unfolding_all rfl, trivial⟩ rfl rfl rfl cok rfl) q11))))
 (q15 (q19 (q27 (q10 q22 (q10 (pv 3) (q10 (pv 4) (q10 (pe_fn c__law_grown (hr.mono (Nat.le_refl _)) (by rfl) (q10 (pe_op q51 (pv 0) q13) (q10 (q117 (cl := [("_law_half", s.heap.objs.size + 1 + 0)]) (cn := ["_law_half"]) (N := ["_law_half"]) (fr := [2]) (sc0 := q17 q79) rfl (q46 (pv 1)) (fun C s₂ H₂ fp => (pe_op q51 (pv 0) (pv 1))) (fun C s₂ H₂ fp => (q18 op_ge (pv 0) (pv 1) (q21 _))) (by with_unfolding_all rfl) ⟨by with_unfolding_all rfl, trivial⟩ rfl rfl rfl cok rfl) q11))) q11)))))))))))), ?_⟩
 have hz : os.length <= sizeLine := sz hl
 refine ⟨_, rfl, szb rfl, fun p0 hp0 => ?_⟩
 have s0 := q16 hp0 (.lst [])
 refine ⟨a, p0, os, [], rfl, rfl, s0.seq ha, SqL.of q14, _, rfl, ?_⟩
 have ha := s0.seq ha
 refine ite2 (fun c => ?_) (fun c => ?_)
 ·have e0 : os = [] := of_decide_eq_true c
  subst e0
  exact q _ .non s0 (by rw [q38]; rfl)
 ·have hne : os ≠ [] := fun z => c (decide_eq_true z)
  generalize hH0 : upd H p0 (.lst []) = H0 at *
  refine ⟨_, rfl, rfl, _, rfl, ?_⟩
  refine ite2 (fun c2 => ?_) (fun c2 => ?_)
  ·have e0' : ((e : Nat) : Int) = 0 := V.int.inj (of_decide_eq_true c2)
   have e0 : e = 0 := by omega
   subst e0
   refine ⟨_, rfl, a, _, rfl, .inl ha, szb rfl, fun p hp => q _ _ (s0.trans (q16 hp _)) ?_⟩
   rw [q30 hne]
   refine ⟨p, rfl, ?_⟩
   rw [q14, List.length_map]
  ·cases e with
   | zero => exact absurd (decide_eq_true rfl) c2
   | succ e =>
    have hen' : e + 1 <= 40 := hen
    have ee : (((e + 1 : Nat) : Int) - 1) = (e : Int) := by omega
    refine ⟨_, rfl, _, _, rfl, rfl, _, _, rfl, rfl, ⟨by omega, by omega, by decide⟩, ?_⟩
    dsimp only
    rw [ee, q216]
    refine ⟨_, rfl, a, rfl, ⟨_, ha⟩, fun D hD => ?_⟩
    refine q152 (g := fun n => .int (mkOf (2 ^ e) n)) ha hD hz (fun n _ H1 Q1 _ q1 => ?_) ?_
    ·refine ⟨_, rfl, _, rfl, _, _, rfl, rfl, .inr ⟨_, rfl, ?_⟩⟩
     unfold mkOf at q1
     by_cases c3 : n < 2 ^ e
     ·rw [if_pos c3] at q1
      rw [if_neg (by intro z; have := of_decide_eq_true z; omega)]
      exact q1
     ·rw [if_neg c3] at q1
      rw [if_pos (decide_eq_true (by omega))]
      exact q1
    have s1 := q16 hD (.lst (os.map fun n => V.int (mkOf (2 ^ e) n)))
    refine ⟨D, _, rfl, SqL.of q14, fun m H2 s2 hm => ?_⟩
    have s02 : Same H0 H2 := s1.trans s2
    have hm' : TupF H2 m ((os.map (mkOf (2 ^ e))).map V.int) := by rw [List.map_map]; exact hm
    refine ⟨_, rfl, _, _, rfl, rfl, _, rfl, a, rfl, ⟨_, s02.seq ha⟩, fun D2 hD2 => ?_⟩
    refine q104 (p := fun n => decide (n < 2 ^ e)) (g := V.int) (s02.seq ha) hD2 hz (fun n _ H1 Q1 _ q1 => ⟨_, rfl, _, rfl, _, _, rfl, rfl, _, rfl, q1⟩) (fun n _ _ H1 Q1 _ q1 => ⟨_, rfl, q1⟩) ?_
    refine ⟨D2, _, congrArg (fun t => [V.int t, V.ref D2]) ee, SqL.of q14, Nat.le_trans (List.length_filter_le _ _) hl, fun H3 lo s3 hlo => ?_⟩
    have s03 : Same H0 H3 := s02.trans ((q16 hD2 _).trans s3)
    refine ⟨_, rfl, _, rfl, _, rfl, _, _, rfl, rfl, _, rfl, a, rfl, ⟨_, s03.seq ha⟩, fun D3 hD3 => ?_⟩
    refine q104 (p := fun n => decide ((2 : Int) ^ e <= n)) (g := fun n => V.int (n - 2 ^ e)) (s03.seq ha) hD3 hz (fun n _ H1 Q1 _ q1 => ⟨_, rfl, _, rfl, _, _, rfl, rfl, _, rfl, q1⟩) (fun n _ _ H1 Q1 _ q1 => ⟨_, rfl, _, rfl, _, _, rfl, rfl, q1⟩) ?_
    have eu : (os.filter fun n => decide ((2 : Int) ^ e <= n)).map (fun n => V.int (n - 2 ^ e)) = ((os.filter fun n => decide ((2 : Int) ^ e <= n)).map fun n => n - 2 ^ e).map V.int := by rw [List.map_map]; rfl
    rw [eu]
    refine ⟨D3, _, congrArg (fun t => [V.int t, V.ref D3]) ee, SqL.of q14, by rw [List.length_map]; exact Nat.le_trans (List.length_filter_le _ _) hl, fun H4 hi s4 hhi => ?_⟩
    have s34 : Same H3 H4 := (q16 hD3 _).trans s4
    have hhi' : q29 H4 hi (grow (2 ^ e) e (os.filter fun n => decide ((2 : Int) ^ e <= n))) := by
     have z := q85 (-(2 ^ e)) e (2 ^ e) (os.filter fun n => decide ((2 : Int) ^ e <= n))
     rw [Int.add_right_neg] at z
     rw [<- z]
     exact hhi
    refine ⟨szb rfl, fun p hp => q _ _ (s0.trans (s03.trans (s34.trans (q16 hp _)))) ?_⟩
    rw [q33 hne, Int.zero_add]
    have sp := q16 hp (.tup [.str "part", .ref m, lo, hi])
    have s24 : Same H2 H4 := (q16 hD2 _).trans (s3.trans s34)
    exact ⟨p, m, lo, hi, rfl, q14, (hm'.same s24).same sp, (hlo.same s34).same sp, hhi'.same sp⟩
theorem q432 (z : Bz K mg cA cB cC cD cE cF cG cH) : Cal P w K mg base 42 "_law_tree" ["_law_bounds_here", "_law_row"] (sp__law_tree K) := by
 have sc := q403
 refine z.d__law_tree.cal fun f fd F => F.k sc fun _ _ _ s H _ Q _ hr h => ?_
 obtain ⟨b, r, low, L, ns, rfl, hb, hL, hr', hl, q⟩ := h
 refine ⟨_, (q15 (q19 (pe_fn (q353 z) hr.m (by rfl) (q10 (pix q23 (pv 0) q13) (q10 (q64 (cl := [("_law_bounds_here", s.heap.objs.size + 1 + 0)]) (cn := ["_law_bounds_here"]) (N := ["_law_bounds_here"]) (fr := [0]) (sc0 := q17 q148) rfl (q46 (pv 1)) (fun C s₂ H₂ fp => (pe_op q51 (pv 0) (pix (q215 (K := K) rfl) (pv 1) q13))) (by with_unfolding_all rfl) ⟨by with_unfolding_all rfl, trivial⟩ rfl rfl rfl cok rfl) q11))))), ?_⟩
 refine ⟨_, rfl, b, _, _, _, rfl, rfl, hb, rfl, _, rfl, r, rfl, ⟨_, hr'⟩, fun D hD => ?_⟩
 refine q152 (g := fun n => .int (n - low)) hr' hD (sz hl) (fun n _ H1 Q1 s1 q1 => ⟨_, rfl, _, rfl, b, _, _, _, rfl, rfl, s1.seqT hb, rfl, _, _, rfl, rfl, q1⟩) ?_
 have eu : ns.map (fun n => V.int (n - low)) = (ns.map fun n => n - low).map V.int := by rw [List.map_map]; rfl
 rw [eu]
 exact ⟨L, hL, D, _, rfl, SqL.of q14, by rw [List.length_map]; exact hl, fun H' v s' ht => q H' v ((q16 hD _).trans s') (by
  have z := q85 (-low) L low ns
  rw [Int.add_right_neg] at z
  rw [<- z]
  exact ht)⟩
def wdT : V -> Str
 | .int n => tx n
 | .str y => y
 | _ => ⟨#[]⟩
def WdOk : V -> Prop
 | .int n => -(10 ^ 50) < n /\ n < 10 ^ 50
 | .str y => y.length <= 1300
 | _ => False
theorem wok_n {ns : List Int} (h : BdN ns) : ∀ x ∈ ns.map V.int, WdOk x := fun x hx => by
 obtain ⟨n, hn, rfl⟩ := List.mem_map.mp hx
 exact h n hn
theorem nb {a b : Nat} (h : Nat.ble a b = true := by rfl) : a <= b := Nat.le_of_ble_eq_true h
theorem wok_s {y : Str} (hy : y.length <= 1300) (h : ∀ x ∈ xs, WdOk x) : ∀ x ∈ V.str y :: xs, WdOk x := fun x hx => by
 rcases List.mem_cons.mp hx with rfl | hx
 ·exact hy
 ·exact h x hx
theorem wok_w {y : Str} (h : ∀ x ∈ xs, WdOk x) (hy : y.length <= 1300 := by decide +kernel) : ∀ x ∈ V.str y :: xs, WdOk x := wok_s hy h
theorem q702 (ns : List Int) : (ns.map V.int).map wdT = ns.map tx := by rw [List.map_map]; rfl
theorem wdT_len (h : WdOk x) : (wdT x).length <= 1300 := by
 cases x with
 | int n => exact Nat.le_trans (q142 h.1 h.2) (by decide)
 | str y => exact h
 | _ => exact h.elim
theorem q703 (ns : List Int) : Str.join ⟨#[32]⟩ (ns.map tx) = rowT ns := by
 unfold rowT
 rw [spc]
 exact (q178 32 _).symm
theorem app_len (a b : Str) : (a ++ b).length = a.length + b.length := by
 have e : ∀ x : Str, x.length = x.cps.toList.length := fun x => by simp [Str.length]
 rw [e, e a, e b, PyProof.Rows.cps_toList_append, List.length_append]
inductive sp__law_words (K : Fg) (vs : List V) (H : Hp) (Q : VK) (E : XK) : Prop
 | mk (a : Addr) (xs : List V) (_ : vs = [.ref a]) (_ : (SqL K H a xs \/ SqT K H a xs)) (_ : xs.length <= 300) (_ : (∀ x ∈ xs, WdOk x)) (_ : ∀ H', Same H H' -> Q (.str (Str.join ⟨#[32]⟩ (xs.map wdT))) H') : sp__law_words K vs H Q E
theorem said {xs : List V} (hl : G l = none) (h3 : xs.length <= 300) (hw : ∀ x ∈ xs, WdOk x) (q : ∀ H', Same G H' -> Q (.str (Str.join ⟨#[32]⟩ (xs.map wdT))) H') : sp__law_words K [.ref l] (upd G l (.lst xs)) Q E := ⟨l, _, rfl, .inl (SqL.of q14), h3, hw, fun H' s => q H' ((q16 hl _).trans s)⟩
inductive sp__law_shown (u0 : Fg) (vs : List V) (H : Hp) (Q : VK) (E : XK) : Prop
 | mk (v : V) (o : Option (Int × Int)) (_ : vs = [v]) (_ : CtV H v o) (_ : (∀ p, o = some p -> SmB p)) (_ : Q (.str (cT o)) H) : sp__law_shown u0 vs H Q E
theorem q28 (z : Bz K mg cA cB cC cD cE cF cG cH) : Cal P w K mg base 2 "_law_words" ["_law_words_here"] (sp__law_words K) := by
 have sc := q324
 refine z.d__law_words.cal fun f fd F => F.k sc fun _ _ _ s H _ Q _ hr h => ?_
 obtain ⟨a, xs, rfl, ha, hl, hx, q⟩ := h
 refine ⟨_, (q15 (q19 (pe_bm PySem.F.plainAttrs_str PySem.F.slot_str_join PySem.F.type_str_join q145 q22 (q10 (q64 (cl := []) (cn := []) (N := []) (fr := []) (sc0 := q17 q121) rfl (pi_seq (pv 0)) (fun C s₂ H₂ fp => (q32 q642 (by rfl) z.str_ q88 (q10 (pv 0) q11))) (by with_unfolding_all rfl) trivial rfl rfl rfl cok rfl) q11)))), ?_⟩
 have hz : xs.length <= sizeLine := sl51 (by omega)
 have fin : ∀ (D : Addr) (ys : List V) (H2 : Hp), ys = ((xs.map wdT).take xs.length).map V.str /\ xs.length <= xs.length /\ Same H H2 /\ H2 D = some (.lst ys) -> ∃ a D' ts, (V.str " ") = .str a /\ [V.ref D] = [.ref D'] /\ SqL K H2 D' (ts.map V.str) /\ JoinOk a ts = true /\ Q (.str (Txt.join a ts)) H2 := by
  rintro D ys H2 ⟨e, _, k2, h4⟩
  rw [List.take_of_length_le (by rw [List.length_map]; exact Nat.le_refl _)] at e
  rw [e] at h4
  refine ⟨" ", D, xs.map wdT, rfl, rfl, SqL.of h4, jn_ok (by decide +kernel) (B := 1300) (fun t ht => ?_) (by rw [List.length_map]; omega), ?_⟩
  ·obtain ⟨x, h1, rfl⟩ := List.mem_map.mp ht
   exact wdT_len (hx x h1)
  ·rw [spc, q178]
   exact q H2 k2
 have step : ∀ (D : Addr) (hD : H D = none) (i : Nat) (x : V) (ys : List V) (H2 : Hp), xs[i]? = some x -> (ys = ((xs.map wdT).take i).map V.str /\ i <= xs.length /\ Same H H2 /\ H2 D = some (.lst ys)) -> ∃ y, [x] = [y] /\ ((∃ j, y = .int j /\ j.natAbs.log2 < 1920 /\ H2 D = some (.lst ys) /\ ys ++ [V.str (toString j)] = ((xs.map wdT).take (i + 1)).map V.str /\ i + 1 <= xs.length /\ Same H (upd H2 D (.lst (ys ++ [V.str (toString j)]))) /\ upd H2 D (.lst (ys ++ [V.str (toString j)])) D = some (.lst (ys ++ [V.str (toString j)]))) \/ ∃ z, y = .str z /\ H2 D = some (.lst ys) /\ ys ++ [V.str z] = ((xs.map wdT).take (i + 1)).map V.str /\ i + 1 <= xs.length /\ Same H (upd H2 D (.lst (ys ++ [V.str z]))) /\ upd H2 D (.lst (ys ++ [V.str z])) D = some (.lst (ys ++ [V.str z]))) := by
  rintro D hD i x ys H2 gx ⟨e, hi, k2, h4⟩
  have ok := hx x (List.mem_of_getElem? gx)
  have hlt := (List.getElem?_eq_some_iff.mp gx).1
  have et : ys ++ [V.str (wdT x)] = ((xs.map wdT).take (i + 1)).map V.str := by
   rw [e, List.take_add_one, List.getElem?_map, gx, List.map_append]
   rfl
  refine ⟨x, rfl, ?_⟩
  cases x with
  | int n => exact .inl ⟨n, rfl, lg60 (by have := ok.1; omega) (by have := ok.2; omega), h4, et, hlt, own2 k2 hD, q14⟩
  | str z => exact .inr ⟨z, rfl, h4, et, hlt, own2 k2 hD, q14⟩
  | _ => exact ok.elim
 rcases ha with ha | ha
 ·exact ⟨rfl, _, rfl, a, rfl, .inl ⟨⟨_, ha⟩, fun D hD => q61 (K := K) (xs := xs) hz (fun i ys H2 => ys = ((xs.map wdT).take i).map V.str /\ i <= xs.length /\ Same H H2 /\ H2 D = some (.lst ys)) ⟨rfl, Nat.zero_le _, q16 hD _, q14⟩ (fun i ys H2 ⟨_, _, k2, _⟩ => k2.seq ha)
   (fun i ys H2 ⟨e, hi, _, h4⟩ => ⟨h4, by rw [e, List.length_map, List.length_take, List.length_map]; omega⟩) (fun i x ys H2 gx h2 => ⟨_, rfl, step D hD i x ys H2 gx h2⟩) (fun ys H2 h2 => fin D ys H2 h2)⟩⟩
 ·exact ⟨rfl, _, rfl, a, rfl, .inr ⟨⟨_, ha⟩, fun D hD => q314 (K := K) (xs := xs) hz (fun i ys H2 => ys = ((xs.map wdT).take i).map V.str /\ i <= xs.length /\ Same H H2 /\ H2 D = some (.lst ys)) ⟨rfl, Nat.zero_le _, q16 hD _, q14⟩ (fun i ys H2 ⟨_, _, k2, _⟩ => k2.seqT ha)
   (fun i ys H2 ⟨e, hi, _, h4⟩ => ⟨h4, by rw [e, List.length_map, List.length_take, List.length_map]; omega⟩) (fun i x ys H2 gx h2 => ⟨_, rfl, step D hD i x ys H2 gx h2⟩) (fun ys H2 h2 => fin D ys H2 h2)⟩⟩
theorem q82 (z : Bz K mg cA cB cC cD cE cF cG cH) : Cal P w K mg base 2 "_law_shown" ["_law_told"] (sp__law_shown K) := by
 have sc := q325
 refine z.d__law_shown.cal fun f fd F => F.k sc fun _ _ _ s H _ Q _ hr h => ?_
 obtain ⟨v, o, rfl, hv, hb, q⟩ := h
 refine ⟨_, (q12 (ps_if (q18 q110 (pv 0) q62 (q21 _))
 (q15 (q19 q22))
 q20)
 (q15 (q19 (pe_op q84 (pe_op q84 (q32 q37 (by rfl) z.str_ q88 (q10 (pix q23 (pv 0) q13) q11)) q22) (q32 q37 (by rfl) z.str_ q88 (q10 (pix q23 (pv 0) q13) q11)))))), ?_⟩
 refine ⟨_, rfl, rfl, _, rfl, ?_⟩
 cases o with
 | none =>
  cases (show v = .non from hv)
  exact ite2 (fun _ => q) (fun c => absurd rfl c)
 | some p =>
  obtain ⟨a, rfl, ha⟩ := hv
  have hp := hb p rfl
  have l1 := q142 hp.1.1 hp.1.2
  have l2 := q142 hp.2.1 hp.2.2
  have lc : (":" : Str).length = 1 := by decide +kernel
  have e : tx p.1 ++ ":" ++ tx p.2 = cT (some p) := by
   show _ = Txt.join ":" [tx p.1, tx p.2]
   rw [show (":" : Str) = ⟨#[58]⟩ by decide +kernel, q178]
   rfl
  rw [<- e] at q
  obtain ⟨⟨h1, h2⟩, h3, h4⟩ := hp
  refine ite2 (fun c => absurd (of_decide_eq_true c) (by intro z; cases z)) (fun _ => ?_)
  refine ⟨_, rfl, a, _, _, _, rfl, rfl, SqT.of ha, rfl, _, rfl, lg60 (by omega) (by omega), _, _, rfl, rfl, sl51 (by show (tx p.1).length + _ <= _; omega), _, rfl, a, _, _, _, rfl, rfl, SqT.of ha, rfl, _, rfl, lg60 (by omega) (by omega), _, _, rfl, rfl, sl51 (by show (tx p.1 ++ ":").length + (tx p.2).length <= _; rw [app_len]; omega), q⟩
def RwsAt (H : Hp) (pen rl : Addr) (rs : LL) : Prop := ∃ ras : List Addr, H rl = some (.lst (ras.map V.ref)) /\ ras.length = rs.length /\ ∀ (j : Nat) (r : List Int), rs[j]? = some r -> ∃ ra, ras[j]? = some ra /\ ra ≠ pen /\ H ra = some (.lst (r.map V.int))
theorem q532 {l : List Addr} (P : PenN H pen) (h : H rl = some (.lst (l.map V.ref))) : rl ≠ pen := by
 obtain ⟨c, n, hp⟩ := P
 refine ne_of h hp ?_
 intro e
 cases l with
 | nil => cases e
 | cons a l => simp at e
theorem RwsAt.pen {H H' : Hp} {l pen : Addr} {rs : LL} (h : RwsAt H pen l rs) (P : PenN H pen) (k : Keep pen H H') : RwsAt H' pen l rs := by
 obtain ⟨ras, e1, e2, e3⟩ := h
 refine ⟨ras, k _ _ (q532 P e1) e1, e2, fun j r g => ?_⟩
 obtain ⟨ra, g1, g2, g3⟩ := e3 j r g
 exact ⟨ra, g1, g2, k _ _ g2 g3⟩
theorem q102 : BdN [] := fun n h => by cases h
theorem q60 {n : Int} (h0 : -(10 ^ 50) < n) (h1 : n < 10 ^ 50) (h : BdN ns) : BdN (n :: ns) := fun m hm => by
 rcases List.mem_cons.mp hm with rfl | hm
 ·exact ⟨h0, h1⟩
 ·exact h m hm
theorem row_wd (nm : Str) (ns : List Int) : ([V.str nm] ++ ns.map V.int).map wdT = nm :: (ns.map Vl.n).map Vl.wd := by
 rw [List.map_append, q702, List.map_map]
 rfl
inductive sp__law_made (u0 : Fg) (vs : List V) (H : Hp) (Q : VK) (E : XK) : Prop
 | mk (pen b rl : Addr) (low : Int) (L : Nat) (rs : LL) (N : Nat) (_ : vs = [.ref pen, .ref b, .ref rl]) (_ : PenN H pen) (_ : RwsAt H pen rl rs) (_ : H b = some (.tup [.int low, .int (L : Int)])) (_ : L <= 40) (_ : 0 < rs.length) (_ : rs.length <= 99) (_ : (∀ r ∈ rs, Wths low L r /\ r.length <= N)) (_ : 41 <= N) (_ : N <= 150) (_ : -(10 ^ 40) < low) (_ : low < 10 ^ 40) (_ : ∀ (p ra : Addr) (nm : Str) (ns r c : List Int) (H' : Hp), H' p = some (.tup [.str (sayT nm (ns.map Vl.n)), .ref ra]) -> H' ra = some (.lst (r.map V.int)) -> H ra = none -> r.length <= N + 1 -> Dd low L rs nm ns r c -> Wths low L r -> Keep pen H H' -> PenN H' pen -> Q (.ref p) H') : sp__law_made u0 vs H Q E
theorem q433 (z : Bz K mg cA cB cC cD cE cF cG cH) : Cal P w K mg base 4 "_law_made" pn0 (sp__law_made K) := by
 have sc := q404
 refine z.d__law_made.cal fun f fd F => F.k sc fun _ _ _ s H _ Q _ hr h => ?_
 obtain ⟨pen, b, rl, low, L, rs, N, rfl, P0, R0, hb, hL, hne, hn, hN, hN1, hN2, lo0, lo1, q⟩ := h
 refine ⟨_, (q12 (pst 3 sc.nd (pe_fn (q24 z) hr.m (by rfl) (q10 (pv 0) (q10 (pln z.len_ (q10 (pv 2) q11)) q11))))
 (q12 (pst 4 sc.nd (pix q25 (pv 2) (pv 3)))
 (q12 (pst 5 sc.nd (pe_fn (q24 z) hr.m (by rfl) (q10 (pv 0) (q10 q13 q11))))
 (q12 (pst 6 sc.nd (pe_fn (q24 z) hr.m (by rfl) (q10 (pv 0) (q10 (pe_op q31 (pln z.len_ (q10 (pv 4) q11)) q13) q11))))
 (q12 (pst 7 sc.nd (pe_op q31 (pix q23 (pv 1) q13) (pe_fn (q24 z) hr.m (by rfl) (q10 (pv 0) (q10 (pe_op q275 q13 (pix q23 (pv 1) q13)) q11)))))
 (q12 (ps_if (PW.pt (pw_or (q18 op_lt (pv 5) q13 (q21 _)) (q80 (q18 op_lt (pln z.len_ (q10 (pv 2) q11)) q13 (q21 _)))))
 (q12 (pst 8 sc.nd (pe_fn (q244 z) hr.m (by rfl) (q10 (pv 0) (q10 (pv 1) (q10 q13 q11)))))
 (q15 (q19 (q27 (q10 (pe_fn (q28 z) hr.m (by rfl) (q10 (pe_op q179 (q35 (q10 q22 q11)) (pv 8)) q11)) (q10 (pv 8) q11))))))
 q20)
 (q12 (ps_if (PW.pt (pw_or (q18 op_eq (pv 5) q13 (q21 _)) (q80 (q18 (op_eqL hr.units) (pv 4) (q35 q11) (q21 _)))))
 (q15 (q19 (q27 (q10 (pe_fn (q28 z) hr.m (by rfl) (q10 (q35 (q10 q22 (q10 (pv 3) (q10 (pv 6) (q10 (pv 7) q11))))) q11)) (q10 (pe_op q179 (pe_op q179 (q40 q96 (pv 4) q54 (q47 (pv 6))) (q35 (q10 (pv 7) q11))) (q40 q96 (pv 4) (q47 (pv 6)) q54)) q11)))))
 q20)
 (q12 (q318 (ps_if (q18 op_eq (pv 5) q13 (q21 _))
 (q12 (pst 9 sc.nd (pe_fn (q24 z) hr.m (by rfl) (q10 (pv 0) (q10 (pln z.len_ (q10 (pv 2) q11)) q11))))
 (q15 (ps_if (q18 op_lt (pe_op q31 (pln z.len_ (q10 (pv 4) q11)) (pln z.len_ (q10 (pix q25 (pv 2) (pv 9)) q11))) q13 (q21 _))
 (q15 (q19 (q27 (q10 (pe_fn (q28 z) hr.m (by rfl) (q10 (q35 (q10 q22 (q10 (pv 3) (q10 (pv 9) q11)))) q11)) (q10 (pe_op q179 (pv 4) (pix q25 (pv 2) (pv 9))) q11)))))
 q20)))
 q20))
 (q12 (ps_if (q18 op_eq (pv 5) q13 (q21 _))
 (q15 (q19 (q27 (q10 (pe_fn (q28 z) hr.m (by rfl) (q10 (q35 (q10 q22 (q10 (pv 3) q11))) q11)) (q10 (pe_rev (pv 4)) q11)))))
 q20)
 (q12 (ps_if (q18 op_eq (pv 5) q13 (q21 _))
 (q12 (pst 10 sc.nd (pe_op q51 (pe_op q31 (pe_op q98 q13 (pix q23 (pv 1) q13)) (pe_op q275 q13 (pix q23 (pv 1) q13))) q13))
 (q15 (q19 (q27 (q10 (pe_fn (q28 z) hr.m (by rfl) (q10 (q35 (q10 q22 (q10 (pv 3) q11))) q11)) (q10 (q64 (cl := [("_law_last", s.heap.objs.size + 1 + 0)]) (cn := ["_law_last"]) (N := ["_law_last"]) (fr := [10]) (sc0 := q17 q149) rfl (q46 (pv 4)) (fun C s₂ H₂ fp => (pe_op q51 (pv 1) (pv 0))) (by with_unfolding_all rfl) ⟨by with_unfolding_all rfl, trivial⟩ rfl rfl rfl cok rfl) q11))))))
 q20)
 (q12 (ps_if (q18 op_eq (pv 5) q13 (q21 _))
 (q12 (pst 11 sc.nd (pe_op q31 (pv 6) (pe_fn (q24 z) hr.m (by rfl) (q10 (pv 0) (q10 (pe_op q51 (pe_op q31 (pln z.len_ (q10 (pv 4) q11)) q13) (pv 6)) q11)))))
 (q15 (q19 (q27 (q10 (pe_fn (q28 z) hr.m (by rfl) (q10 (q35 (q10 q22 (q10 (pv 3) (q10 (pv 6) (q10 (pv 11) q11))))) q11)) (q10 (q40 q96 (pv 4) (q47 (pv 6)) (q47 (pv 11))) q11))))))
 q20)
 (q12 (pst 6 sc.nd (pe_op q134 (pv 6) (pln z.len_ (q10 (pv 4) q11))))
 (q12 (ps_if (q18 op_eq (pv 5) q13 (q21 _))
 (q15 (q19 (q27 (q10 (pe_fn (q28 z) hr.m (by rfl) (q10 (q35 (q10 q22 (q10 (pv 3) (q10 (pv 6) q11)))) q11)) (q10 (pe_op q179 (q40 q96 (pv 4) q54 (q47 (pv 6))) (q40 q96 (pv 4) (q47 (pe_op q31 (pv 6) q13)) q54)) q11)))))
 q20)
 (q15 (q19 (q27 (q10 (pe_fn (q28 z) hr.m (by rfl) (q10 (q35 (q10 q22 (q10 (pv 3) (q10 (pv 6) (q10 (pv 7) q11))))) q11)) (q10 (pe_op q179 (pe_op q179 (q40 q96 (pv 4) q54 (q47 (pv 6))) (q35 (q10 (pv 7) q11))) (q40 q96 (pv 4) (q47 (pe_op q31 (pv 6) q13)) q54)) q11)))))))))))))))))), ?_⟩
 obtain ⟨ras, hrl, hras, hrE⟩ := R0
 have hlen : (ras.map V.ref).length = rs.length := by rw [List.length_map]; exact hras
 have hrlp := q532 P0 hrl
 have hbp := P0.ne hb
 have hp2 := p2pos L
 have hq2 := p2le hL
 have hp4 := p40 hL
 refine hid fun U eU => ?_
 refine ⟨_, rfl, _, rfl, rl, _, rfl, .inl (SqL.of hrl), pen, _, rfl, P0, by rw [hlen]; omega, by rw [hlen]; omega, fun mv H1 k1 P1 m0 m1 => ?_⟩
 rw [hlen] at m1
 obtain ⟨m, rfl⟩ := Int.eq_ofNat_of_zero_le m0
 obtain ⟨r, g⟩ : ∃ r, rs[m]? = some r := ⟨rs[m]'(by omega), List.getElem?_eq_getElem _⟩
 obtain ⟨ra, gra, hrap, hra⟩ := hrE m r g
 obtain ⟨hw, hlr⟩ := hN r (List.mem_of_getElem? g)
 have hlm : (r.map V.int).length = r.length := List.length_map _
 apply hdn eU; intro U eU
 refine ⟨_, rfl, _, rfl, rl, _, _, _, rfl, rfl, SqL.of (k1 _ _ hrlp hrl), q41 (by rw [List.getElem?_map, gra]; rfl), ?_⟩
 apply hdn eU; intro U eU
 refine ⟨_, rfl, pen, 9, rfl, P1, by decide, by decide, fun wv H2 k2 P2 w0 w1 => ?_⟩
 have k02 := k1.trans k2
 apply hdn eU; intro U eU
 refine ⟨_, rfl, _, rfl, ra, _, rfl, .inl (SqL.of (k02 _ _ hrap hra)), _, _, rfl, rfl, pen, _, rfl, P2, by omega, by rw [hlm]; omega, fun pv H3 k3 P3 p0 p1 => ?_⟩
 rw [hlm] at p1
 obtain ⟨pl, rfl⟩ := Int.eq_ofNat_of_zero_le p0
 have k03 := k02.trans k3
 have hb3 := k03 _ _ hbp hb
 apply hdn eU; intro U eU
 refine ⟨_, rfl, b, _, _, _, rfl, rfl, SqT.of hb3, rfl, _, rfl, _, rfl, b, _, _, _, rfl, rfl, SqT.of hb3, rfl, _, _, rfl, rfl, ⟨by omega, by omega, by decide⟩, ?_⟩
 dsimp only
 rw [q216]
 refine ⟨pen, _, rfl, P3, hp2, by omega, fun yv H4 k4 P4 y0 y1 => ⟨_, _, rfl, rfl, ?_⟩⟩
 have k04 := k03.trans k4
 obtain ⟨y, hy⟩ : ∃ y, y = low + yv := ⟨_, rfl⟩
 dsimp only
 rw [<- hy]
 have y2 : low <= y := by omega
 have y3 : y < low + 2 ^ L := by omega
 have hplr : pl <= r.length := by omega
 have hml : m <= 1000 := by omega
 clear k1 k2 k3 k4 k02 k03 P1 P2 P3 hb3 y0 y1 hy
 have fin : ∀ (G0 G2 : Hp) (ra' : Addr) (nm : Str) (ns r' c' : List Int), Keep pen H G0 -> PenN G0 pen -> Same G0 G2 -> G2 ra' = some (.lst (r'.map V.int)) -> H ra' = none -> r'.length <= N + 1 -> Dd low L rs nm ns r' c' -> Wths low L r' ->
   ∀ p, G2 p = none -> Q (.ref p) (upd G2 p (.tup [.str (sayT nm (ns.map Vl.n)), .ref ra'])) := by
  intro G0 G2 ra' nm ns r' c' k0 PP ss e1 e0 e2 dd ww p hp
  have t1 := q16 hp (.tup [.str (sayT nm (ns.map Vl.n)), .ref ra'])
  have s1 := ss.trans t1
  exact q p ra' nm ns r' c' _ q14 (t1 _ _ e1) e0 e2 dd ww (k0.trans (.same s1)) (PP.same s1)
 have fr : ∀ {G0 G1 : Hp} {a : Addr}, Keep pen H G0 -> PenN G0 pen -> Same G0 G1 -> G1 a = none -> H a = none := fun k p s h => (p.same s).free (k.trans (.same s)) h
 have bm : ∀ {ns : List Int}, BdN ns -> BdN ((m : Int) :: ns) := fun h => q60 (by omega) (by omega) h
 apply hdn eU; intro U eU
 refine ⟨_, rfl, _, _, rfl, rfl, _, rfl, ?_⟩
 refine ite2 (fun c1 => iteT ?_) (fun c1 => ⟨_, rfl, rl, _, rfl, .inl (SqL.of (k04 _ _ hrlp hrl)), _, _, rfl, rfl, _, rfl, ite2 (fun c2 => ?_) (fun c2 => ?_)⟩)
 iterate 2
  ·refine ⟨_, rfl, _, rfl, pen, b, low, 8, L, rfl, P4, k04 _ _ hbp hb, hL, by decide, by decide, fun rn ns H5 k5 P5 hrn hrn0 hnl hnw => ?_⟩
   have hbn : BdN ns := fun n hn => by have := hnw n hn; omega
   have hrnp := fr k04 P4 (Same.refl _) hrn0
   refine ⟨szb rfl, fun q1 hq1 => ?_⟩
   obtain ⟨H6, gz, t6, e6⟩ := nwH hq1 (.lst [.str "row"])
   rw [gz]
   refine ⟨_, rfl, q1, rn, _, _, rfl, rfl, e6, t6 _ _ hrn, sz (by simp only [List.length_append, List.length_map, List.length_cons, List.length_nil]; omega), fun q2 hq2 => ?_⟩
   refine said hq2 (by rw [List.length_append, List.length_map]; show 1 + _ <= _; omega) (wok_w (wok_n hbn)) fun H8 s8 => ?_
   rw [row_wd]
   have s58 := t6.trans s8
   exact ⟨_, rfl, szb rfl, fun p hp => fin H5 H8 rn "row" ns ns [] (k04.trans k5) P5 s58 (s58 _ _ hrn) hrnp (by omega) (.row ns hnw (by omega)) hnw p hp⟩
 apply hdn eU; intro U eU
 refine ⟨_, rfl, rfl, _, rfl, ?_⟩
 have hra4 := k04 _ _ hrap hra
 refine ite2 (fun c3 => iteT ?a) (fun c3 => ⟨_, rfl, szb rfl, fun p0 hp0 => ⟨ra, p0, r, [], rfl, rfl, SqL.of ((q16 hp0 _) _ _ hra4), SqL.of q14, _, rfl, ite2 (fun c4 => ?b) (fun c4 => ?c)⟩⟩)
 case' b =>
  have sG := q16 hp0 (.lst [])
  generalize upd H4 p0 (.lst []) = G at *
 case' a =>
  obtain ⟨G, eG⟩ : ∃ G, G = H4 := ⟨_, rfl⟩
  have sG : Same H4 G := by rw [eG]; exact Same.refl _
  rw [<- eG]
 iterate 2
  ·refine ⟨_, rfl, _, rfl, _, rfl, szb rfl, fun l hl => said hl nb (wok_w (wok_n (ns := [(m : Int), (pl : Int), y]) (bm (q60 (by omega) (by omega) (q60 (by omega) (by omega) q102))))) fun G5 s5 => ?_⟩
   have sG5 := sG.trans s5
   have P5 := P4.same sG5
   have hra5 := sG5 _ _ hra4
   refine ⟨_, rfl, _, rfl, _, rfl, ra, _, rfl, SqL.of hra5, fun q1 hq1 => ?_⟩
   rw [q106]
   obtain ⟨G6, gz, t6, e6⟩ := nwH hq1 (.lst ((r.take pl).map V.int))
   rw [gz]
   refine ⟨_, rfl, szb rfl, fun q2 hq2 => ?_⟩
   obtain ⟨G7, gz, t7, e7⟩ := nwH hq2 (.lst [.int y])
   rw [gz]
   refine ⟨q1, q2, _, _, rfl, rfl, t7 _ _ e6, e7, sz (by simp only [List.length_append, List.length_map, List.length_take, List.length_drop, List.length_cons, List.length_nil]; omega), fun q3 hq3 => ?_⟩
   obtain ⟨G8, gz, t8, e8⟩ := nwH hq3 (.lst ((r.take pl).map V.int ++ [.int y]))
   rw [gz]
   have t58 : Same G5 G8 := t6.trans (t7.trans t8)
   refine ⟨_, rfl, _, rfl, _, rfl, ra, _, rfl, SqL.of (t58 _ _ hra5), fun q4 hq4 => ?_⟩
   rw [q108]
   obtain ⟨G9, gz, t9, e9⟩ := nwH hq4 (.lst ((r.drop pl).map V.int))
   rw [gz]
   refine ⟨q3, q4, _, _, rfl, rfl, t9 _ _ e8, e9, sz (by simp only [List.length_append, List.length_map, List.length_take, List.length_drop, List.length_cons, List.length_nil]; omega), fun q5 hq5 => ?_⟩
   have en : (r.take pl).map V.int ++ [.int y] ++ (r.drop pl).map V.int = (insAt r pl y).map V.int := by unfold insAt; simp
   rw [en]
   have t10 := q16 hq5 (.lst ((insAt r pl y).map V.int))
   have e10 := @q14 G9 q5 (.lst ((insAt r pl y).map V.int))
   have hq5p : H q5 = none := fr (k04.trans (.same sG5)) P5 (t58.trans t9) hq5
   generalize upd G9 q5 (.lst ((insAt r pl y).map V.int)) = G10 at *
   have hil := q464 r pl y
   exact ⟨szb rfl, fun p hp => fin G5 G10 q5 "put" _ _ _ (k04.trans (.same sG5)) P5 (t58.trans (t9.trans t10)) e10 hq5p (by omega) (.put m pl y r g hplr y2 y3 (by omega)) (q516 hw y2 y3) p hp⟩
 have hne0 : r ≠ [] := fun z => c4 (decide_eq_true z)
 have hr0 : 0 < r.length := List.length_pos_iff.mpr hne0
 have k05 : Keep pen H (upd H4 p0 (.lst [])) := k04.trans (.same (q16 hp0 _))
 have P5 : PenN (upd H4 p0 (.lst [])) pen := P4.same (q16 hp0 _)
 generalize upd H4 p0 (.lst []) = H5 at *
 clear k04 P4 hra4 hp0
 apply hdn eU; intro U eU
 refine ⟨fun σ' G => ∃ v9, σ' = [some (.ref pen), some (.ref b), some (.ref rl), some (.int (m : Int)), some (.ref ra), some (.int wv), some (.int (pl : Int)), some (.int y), none, v9, none, none] /\ Keep pen H G /\ PenN G pen, ?_, ?_⟩
 ·refine ⟨_, rfl, rfl, _, rfl, ?_⟩
  refine ite2 (fun c5 => ?_) (fun c5 => ⟨_, rfl, k05, P5⟩)
  refine ⟨_, rfl, _, rfl, rl, _, rfl, .inl (SqL.of (k05 _ _ hrlp hrl)), pen, _, rfl, P5, by rw [hlen]; omega, by rw [hlen]; omega, fun ov H6 k6 P6 o0 o1 => ?_⟩
  rw [hlen] at o1
  obtain ⟨o, rfl⟩ := Int.eq_ofNat_of_zero_le o0
  have k06 := k05.trans k6
  obtain ⟨t, g'⟩ : ∃ t, rs[o]? = some t := ⟨rs[o]'(by omega), List.getElem?_eq_getElem _⟩
  obtain ⟨ta, gta, htap, hta⟩ := hrE o t g'
  have hra6 := k06 _ _ hrap hra
  have hta6 := k06 _ _ htap hta
  have hrl6 := k06 _ _ hrlp hrl
  obtain ⟨hwt, hlt⟩ := hN t (List.mem_of_getElem? g')
  have hlm' : (t.map V.int).length = t.length := List.length_map _
  have got : (ras.map V.ref)[o]? = some (.ref ta) := by rw [List.getElem?_map, gta]; rfl
  refine ⟨_, rfl, ra, _, rfl, .inl (SqL.of hra6), _, rfl, _, rfl, rl, _, _, _, rfl, rfl, SqL.of hrl6, q41 got, ta, _, rfl, .inl (SqL.of hta6), _, _, rfl, rfl, _, _, rfl, rfl, _, rfl, ?_⟩
  rw [hlm, hlm']
  refine ite2 (fun c6 => ?_) (fun c6 => ⟨_, rfl, k06, P6⟩)
  have hsum := of_decide_eq_true c6
  refine ⟨_, rfl, _, rfl, szb rfl, fun l hl => said hl nb (wok_w (wok_n (ns := [(m : Int), (o : Int)]) (bm (q60 (by omega) (by omega) q102)))) fun G5 s65 => ?_⟩
  have P7 := P6.same s65
  refine ⟨_, rfl, _, rfl, _, rfl, rl, _, _, _, rfl, rfl, SqL.of (s65 _ _ hrl6), q41 got, ra, ta, _, _, rfl, rfl, s65 _ _ hra6, s65 _ _ hta6, sz (by simp only [List.length_append, List.length_map]; omega), fun q5 hq5 => ?_⟩
  rw [<- List.map_append]
  exact ⟨szb rfl, fun p hp => fin G5 _ q5 "join" _ _ _ (k06.trans (.same s65)) P7 (q16 hq5 _) q14 (fr (k06.trans (.same s65)) P7 (Same.refl _) hq5) (by rw [List.length_append]; omega) (.join m o r t g g' (by omega)) (app_in hw hwt) p hp⟩
 rintro σ' G ⟨v9, rfl, k06, P6⟩
 have hra6 := k06 _ _ hrap hra
 have hb6 := k06 _ _ hbp hb
 clear k05 P5
 apply hdn eU; intro U eU
 refine ⟨_, rfl, rfl, _, rfl, ?_⟩
 refine ite2 (fun c6 => ?_) (fun c6 => ?_)
 ·refine ⟨_, rfl, szb rfl, fun l hl => said hl nb (wok_w (wok_n (ns := [(m : Int)]) (bm q102))) fun G5 s65 => ?_⟩
  have P7 := P6.same s65
  refine ⟨_, rfl, ra, _, rfl, SqL.of (s65 _ _ hra6), fun q5 hq5 => ?_⟩
  rw [<- List.map_reverse]
  exact ⟨szb rfl, fun p hp => fin G5 _ q5 "turn" _ _ _ (k06.trans (.same s65)) P7 (q16 hq5 _) q14 (fr (k06.trans (.same s65)) P7 (Same.refl _) hq5) (by rw [List.length_reverse]; omega) (.turn m r g) (rev_in hw) p hp⟩
 apply hdn eU; intro U eU
 refine ⟨_, rfl, rfl, _, rfl, ?_⟩
 refine ite2 (fun c7 => ?_) (fun c7 => ?_)
 ·refine ⟨_, rfl, b, _, _, _, rfl, rfl, SqT.of hb6, rfl, _, _, rfl, rfl, .inl ⟨by decide, by decide⟩, _, rfl, b, _, _, _, rfl, rfl, SqT.of hb6, rfl, _, _, rfl, rfl, ⟨by omega, by omega, by decide⟩, ?_⟩
  dsimp only
  rw [q216]
  refine ⟨_, _, rfl, rfl, _, _, rfl, rfl, ?_⟩
  refine ⟨_, rfl, szb rfl, fun l hl => said hl nb (wok_w (wok_n (ns := [(m : Int)]) (bm q102))) fun G5 s65 => ?_⟩
  have P7 := P6.same s65
  have hra5 := s65 _ _ hra6
  refine ⟨_, rfl, ra, rfl, ⟨_, SqL.of hra5⟩, fun D hD => ?_⟩
  refine q152 (g := fun n => V.int (flp low L n)) (SqL.of hra5) hD (sz (by omega)) (fun n _ G5 Q1 _ q1 => ⟨_, rfl, _, rfl, _, _, rfl, rfl, q1⟩) ?_
  have ef : ∀ g : Int -> Int, (r.map fun n => V.int (g n)) = (r.map g).map V.int := fun g => by rw [List.map_map]; rfl
  rw [ef (flp low L)]
  exact ⟨szb rfl, fun p hp => fin G5 _ D "flip" _ _ _ (k06.trans (.same s65)) P7 (q16 hD _) q14 (fr (k06.trans (.same s65)) P7 (Same.refl _) hD) (by rw [List.length_map]; omega) (.flip m r g) (flp_in hw) p hp⟩
 apply hdn eU; intro U eU
 refine ⟨_, rfl, rfl, _, rfl, ?_⟩
 refine ite2 (fun c8 => ?_) (fun c8 => ?_)
 ·refine ⟨_, rfl, _, rfl, _, rfl, ra, _, rfl, .inl (SqL.of hra6), _, _, rfl, rfl, _, rfl, _, _, rfl, rfl, pen, _, rfl, P6, by rw [hlm]; omega, by rw [hlm]; omega, fun ev H7 k7 P7 e0 e1 => ⟨_, _, rfl, rfl, ?_⟩⟩
  rw [hlm] at e1
  obtain ⟨en, hen⟩ : ∃ en : Nat, (pl : Int) + ev = (en : Int) := Int.eq_ofNat_of_zero_le (by omega)
  dsimp only
  rw [hen]
  refine ⟨_, rfl, _, rfl, _, rfl, szb rfl, fun l hl => said hl nb (wok_w (wok_n (ns := [(m : Int), (pl : Int), (en : Int)]) (bm (q60 (by omega) (by omega) (q60 (by omega) (by omega) q102))))) fun G5 s75 => ?_⟩
  have P8 := P7.same s75
  have k07 := k06.trans k7
  refine ⟨_, rfl, _, rfl, _, rfl, _, rfl, _, rfl, ra, _, rfl, SqL.of (s75 _ _ (k07 _ _ hrap hra)), fun q1 hq1 => ?_⟩
  rw [q671 _ _ _ (by omega) (by omega)]
  have hsl := q335 (ns := r) (st := pl) (en := en) (by omega)
  exact ⟨szb rfl, fun p hp => fin G5 _ q1 "cut" _ _ _ (k07.trans (.same s75)) P8 (q16 hq1 _) q14 (fr (k07.trans (.same s75)) P8 (Same.refl _) hq1) (by omega) (.cut m pl en r g (by omega) (by omega)) (seg_in hw) p hp⟩
 apply hdn eU; intro U eU
 refine ⟨_, rfl, _, rfl, ra, _, rfl, .inl (SqL.of hra6), _, _, rfl, rfl, by rw [hlm]; omega, ?_⟩
 obtain ⟨pc, hpc, hpl'⟩ : ∃ pc : Nat, (pl : Int) % (((r.map V.int).length : Nat) : Int) = (pc : Int) /\ pc < r.length := by
  rw [hlm]
  exact ⟨pl % r.length, rfl, Nat.mod_lt _ hr0⟩
 dsimp only
 rw [hpc]
 apply hdn eU; intro U eU
 refine ⟨_, rfl, rfl, _, rfl, ?_⟩
 refine ite2 (fun c9 => ?_) (fun c9 => ?_)
 ·refine ⟨_, rfl, _, rfl, szb rfl, fun l hl => said hl nb (wok_w (wok_n (ns := [(m : Int), (pc : Int)]) (bm (q60 (by omega) (by omega) q102)))) fun G5 s65 => ?_⟩
  have P7 := P6.same s65
  have hra5 := s65 _ _ hra6
  refine ⟨_, rfl, _, rfl, _, rfl, ra, _, rfl, SqL.of hra5, fun q1 hq1 => ?_⟩
  rw [q106]
  obtain ⟨G6, gz, t6, e6⟩ := nwH hq1 (.lst ((r.take pc).map V.int))
  rw [gz]
  refine ⟨_, rfl, _, rfl, _, _, rfl, rfl, _, rfl, ra, _, rfl, SqL.of (t6 _ _ hra5), fun q4 hq4 => ?_⟩
  rw [show ((pc : Int) + 1) = ((pc + 1 : Nat) : Int) by omega, q108]
  obtain ⟨G9, gz, t9, e9⟩ := nwH hq4 (.lst ((r.drop (pc + 1)).map V.int))
  rw [gz]
  refine ⟨q1, q4, _, _, rfl, rfl, t9 _ _ e6, e9, sz (by simp only [List.length_append, List.length_map, List.length_take, List.length_drop, List.length_cons, List.length_nil]; omega), fun q5 hq5 => ?_⟩
  have en : (r.take pc).map V.int ++ (r.drop (pc + 1)).map V.int = (delAt r pc).map V.int := by unfold delAt; simp
  rw [en]
  have hil := q332 hpl'
  have s59 := t6.trans t9
  exact ⟨szb rfl, fun p hp => fin G5 _ q5 "take" _ _ _ (k06.trans (.same s65)) P7 (s59.trans (q16 hq5 _)) q14 (fr (k06.trans (.same s65)) P7 s59 hq5) (by omega) (.take m pc _ r g (List.getElem?_eq_getElem hpl')) (q518 hw) p hp⟩
 apply hde eU
 refine ⟨_, rfl, _, rfl, _, rfl, szb rfl, fun l hl => said hl nb (wok_w (wok_n (ns := [(m : Int), (pc : Int), y]) (bm (q60 (by omega) (by omega) (q60 (by omega) (by omega) q102))))) fun G5 s65 => ?_⟩
 have P7 := P6.same s65
 have hra5 := s65 _ _ hra6
 refine ⟨_, rfl, _, rfl, _, rfl, ra, _, rfl, SqL.of hra5, fun q1 hq1 => ?_⟩
 rw [q106]
 obtain ⟨G6, gz, t6, e6⟩ := nwH hq1 (.lst ((r.take pc).map V.int))
 rw [gz]
 refine ⟨_, rfl, szb rfl, fun q2 hq2 => ?_⟩
 obtain ⟨G7, gz, t7, e7⟩ := nwH hq2 (.lst [.int y])
 rw [gz]
 refine ⟨q1, q2, _, _, rfl, rfl, t7 _ _ e6, e7, sz (by simp only [List.length_append, List.length_map, List.length_take, List.length_drop, List.length_cons, List.length_nil]; omega), fun q3 hq3 => ?_⟩
 obtain ⟨G8, gz, t8, e8⟩ := nwH hq3 (.lst ((r.take pc).map V.int ++ [.int y]))
 rw [gz]
 have t58 : Same G5 G8 := t6.trans (t7.trans t8)
 refine ⟨_, rfl, _, rfl, _, _, rfl, rfl, _, rfl, ra, _, rfl, SqL.of (t58 _ _ hra5), fun q4 hq4 => ?_⟩
 rw [show ((pc : Int) + 1) = ((pc + 1 : Nat) : Int) by omega, q108]
 obtain ⟨G9, gz, t9, e9⟩ := nwH hq4 (.lst ((r.drop (pc + 1)).map V.int))
 rw [gz]
 refine ⟨q3, q4, _, _, rfl, rfl, t9 _ _ e8, e9, sz (by simp only [List.length_append, List.length_map, List.length_take, List.length_drop, List.length_cons, List.length_nil]; omega), fun q5 hq5 => ?_⟩
 have hil := q691 (num := y) hpl'
 have hsi := set_in (pl := pc) hw y2 y3
 have en : (r.take pc).map V.int ++ [.int y] ++ (r.drop (pc + 1)).map V.int = (r.take pc ++ y :: r.drop (pc + 1)).map V.int := by simp
 rw [en]
 have dd : Dd low L rs "set" _ _ _ := .set m pc _ y r g (List.getElem?_eq_getElem hpl') y2 y3
 generalize r.take pc ++ y :: r.drop (pc + 1) = r' at *
 have s59 := t58.trans t9
 exact ⟨szb rfl, fun p hp => fin G5 _ q5 "set" _ _ _ (k06.trans (.same s65)) P7 (s59.trans (q16 hq5 _)) q14 (fr (k06.trans (.same s65)) P7 s59 hq5) (by omega) dd hsi p hp⟩
inductive sp__law_some (u0 : Fg) (vs : List V) (H : Hp) (Q : VK) (E : XK) : Prop
 | mk (pen b rl : Addr) (low : Int) (L : Nat) (rs : LL) (_ : vs = [.ref pen, .ref b, .ref rl]) (_ : PenN H pen) (_ : RwsAt H pen rl rs) (_ : H b = some (.tup [.int low, .int (L : Int)])) (_ : L <= 40) (_ : 0 < rs.length) (_ : rs.length <= 100) (_ : (∀ r ∈ rs, r.length <= 200)) (_ : ∀ (p ga : Addr) (xs : List V) (ps : List P3) (H' : Hp), H' p = some (.tup [.ref ga, .str (tG ps)]) -> H' ga = some (.lst xs) -> GatAt H' xs (ps.map (gOf low L rs)) -> ps ≠ [] -> ps.length <= 3 -> (∀ p ∈ ps, StOk rs p) -> ga ≠ pen -> Keep pen H H' -> PenN H' pen -> Q (.ref p) H') : sp__law_some u0 vs H Q E
theorem q704 {low : Int} {L : Nat} (hl : ∀ r ∈ rs, r.length <= 200) : ∀ {ps : List P3}, (∀ p ∈ ps, StOk rs p) -> manyS (ps.map (gOf low L rs)) <= 200 * (ps.length : Int)
 | [], _ => Int.le_refl _
 | p :: ps, h => by
  obtain ⟨r, g, h1, h2⟩ := h p (List.mem_cons_self ..)
  have := hl r (List.mem_of_getElem? g)
  have ih := q704 (low := low) (L := L) hl (ps := ps) fun x hx => h x (List.mem_cons_of_mem _ hx)
  have e : lenS (gOf low L rs p) = (p.2.2 : Int) - (p.2.1 : Int) := rfl
  rw [List.map_cons, q50, e, List.length_cons]
  omega
theorem q434 (z : Bz K mg cA cB cC cD cE cF cG cH) : Cal P w K mg base 43 "_law_some" pn0 (sp__law_some K) := by
 have sc := q405
 refine z.d__law_some.cal fun f fd F => F.k sc fun _ _ _ s H _ Q _ hr h => ?_
 obtain ⟨pen, b, rl, low, L, rs, rfl, P0, R0, hb, hL, hne, hn, hN, q⟩ := h
 refine ⟨_, (q12 (pst 3 sc.nd (q35 q11))
 (q12 (pst 4 sc.nd (q35 q11))
 (q12 (q81 PassesOwn.never rfl (q86 rfl z.range_ (q10 (pe_op q31 q13 (pe_fn (q24 z) hr.m (by rfl) (q10 (pv 0) (q10 q13 q11)))) q11)) (pgn 5 sc.nd)
 (q12 (pst 6 sc.nd (pix q25 (q35 (q10 (pe_fn (q24 z) hr.m (by rfl) (q10 (pv 0) (q10 (pln z.len_ (q10 (pv 2) q11)) q11))) (q10 (pe_op q51 (pln z.len_ (q10 (pv 2) q11)) q13) q11))) (pe_fn (q24 z) hr.m (by rfl) (q10 (pv 0) (q10 q13 q11)))))
 (q12 (pst 7 sc.nd (pix q25 (pv 2) (pv 6)))
 (q12 (pst 8 sc.nd (pe_fn (q24 z) hr.m (by rfl) (q10 (pv 0) (q10 (pe_op q31 (pln z.len_ (q10 (pv 7) q11)) q13) q11))))
 (q12 (pst 9 sc.nd (pe_op q31 (pv 8) (pe_fn (q24 z) hr.m (by rfl) (q10 (pv 0) (q10 (pe_op q51 (pe_op q31 (pln z.len_ (q10 (pv 7) q11)) q13) (pv 8)) q11)))))
 (q12 (q318 (ps_if (q18 op_gt (pe_fn (q24 z) hr.m (by rfl) (q10 (pv 0) (q10 q13 q11))) q13 (q21 _))
 (q15 (ps_par (i := 8) (j := 9) rfl sc.nd rfl rfl (by decide) rfl rfl (q10 q13 (q10 (pln z.len_ (q10 (pv 7) q11)) q11)) (by with_unfolding_all rfl)))
 q20))
 (q12 (q73 (pe_bm PySem.F.plainAttrs_list PySem.F.slot_list_append PySem.F.type_list_append q55 (pv 3) (q10 (q27 (q10 (pe_fn (q432 z) hr.m (by rfl) (q10 (pv 1) (q10 (pv 7) q11))) (q10 (pv 8) (q10 (pv 9) q11)))) q11)))
 (q15 (q73 (pe_bm PySem.F.plainAttrs_list PySem.F.slot_list_append PySem.F.type_list_append q55 (pv 4) (q10 (pe_bm PySem.F.plainAttrs_str PySem.F.slot_str_join PySem.F.type_str_join q145 q22 (q10 (q35 (q10 (q32 q37 (by rfl) z.str_ q88 (q10 (pv 6) q11)) (q10 (q32 q37 (by rfl) z.str_ q88 (q10 (pv 8) q11)) (q10 (q32 q37 (by rfl) z.str_ q88 (q10 (pv 9) q11)) q11)))) q11)) q11)))))))))))
 (q15 (q19 (q27 (q10 (pv 3) (q10 (pe_bm PySem.F.plainAttrs_str PySem.F.slot_str_join PySem.F.type_str_join q145 q22 (q10 (pv 4) q11)) q11)))))))), ?_⟩
 obtain ⟨ras, hrl, hras, hrE⟩ := R0
 have hlen : (ras.map V.ref).length = rs.length := by rw [List.length_map]; exact hras
 have hrlp := q532 P0 hrl
 have hbp := P0.ne hb
 refine hid fun U eU => ?_
 refine ⟨szb rfl, fun ga hga => ?_⟩
 have hgap := P0.fresh hga
 obtain ⟨H1, gz, s1, e1⟩ := nwH hga (.lst [])
 rw [gz]
 have P1 := P0.same s1
 apply hdn eU; intro U eU
 refine ⟨szb rfl, fun wa hwa => ?_⟩
 have hwap := P1.fresh hwa
 have hgw : ga ≠ wa := q26 e1 hwa
 have hwa0 : H wa = none := s1.free hwa
 have s2 := q16 hwa (.lst [])
 have e2 := @q14 H1 wa (.lst [])
 have e1' := s2 _ _ e1
 generalize upd H1 wa (.lst []) = H2 at *
 have P2 := P1.same s2
 have k02 : Keep pen H H2 := .same (s1.trans s2)
 apply hdn eU; intro U eU
 refine ⟨_, rfl, pen, 3, rfl, P2, by decide, by decide, fun n H3 k3 PC n0 n1 => ⟨_, _, rfl, rfl, _, rfl, by omega, by omega, q87 (n := (1 + n).toNat) (fun i σ G => ∃ (ps : List P3) (xs : List V) (v5 v6 v7 v8 v9 : Option V), σ = [some (.ref pen), some (.ref b), some (.ref rl), some (.ref ga), some (.ref wa), v5, v6, v7, v8, v9] /\ ps.length = i /\ (∀ p ∈ ps, StOk rs p) /\ G ga = some (.lst xs) /\ GatAt G xs (ps.map (gOf low L rs)) /\ G wa = some (.lst ((ps.map tP).map V.str)) /\ Keep pen H G /\ PenN G pen)
  ⟨[], [], _, _, _, _, _, rfl, rfl, (fun p hp => by cases hp), k3 _ _ hgap e1', GatAt.nil _, k3 _ _ hwap e2, k02.trans k3, PC⟩ ?_ ?_⟩⟩
 ·rintro i σ G hi ⟨ps, xs, v5, v6, v7, v8, v9, rfl, hpl, hst, gga, gat, gwa, kG, PG⟩
  have hi3 : i < 3 := by omega
  have hrlG := kG _ _ hrlp hrl
  refine hid fun U eU => ?_
  refine ⟨_, rfl, _, rfl, rl, _, rfl, .inl (SqL.of hrlG), pen, _, rfl, PG, by rw [hlen]; omega, by rw [hlen]; omega, fun mv G1 k1 P1 m0 m1 => ?_⟩
  rw [hlen] at m1
  refine ⟨_, rfl, rl, _, rfl, .inl (SqL.of (k1 _ _ hrlp hrlG)), _, _, rfl, rfl, szb rfl, fun l hl => ?_⟩
  rw [hlen]
  have hlp := P1.fresh hl
  refine ⟨_, rfl, pen, 2, rfl, P1.new hl _, by decide, by decide, fun cv G2 k2 P2 c0 c1 => ?_⟩
  have k02 : Keep pen G G2 := k1.trans ((Keep.new hl _).trans k2)
  obtain ⟨mk, hm, hat⟩ := q127 (l := [mv, (rs.length : Int) - 1]) c0 c1
  have hmk : 0 <= mk /\ mk < rs.length := by
   simp only [List.mem_cons, List.not_mem_nil, or_false] at hm
   omega
  obtain ⟨m, rfl⟩ := Int.eq_ofNat_of_zero_le hmk.1
  refine ⟨l, _, _, _, rfl, rfl, SqL.of (k2 _ _ hlp q14), hat, ?_⟩
  obtain ⟨r, g⟩ : ∃ r, rs[m]? = some r := ⟨rs[m]'(by omega), List.getElem?_eq_getElem _⟩
  obtain ⟨ra, gra, hrap, hra⟩ := hrE m r g
  have hlr := hN r (List.mem_of_getElem? g)
  have hlm : (r.map V.int).length = r.length := List.length_map _
  apply hdn eU; intro U eU
  refine ⟨_, rfl, _, rfl, rl, _, _, _, rfl, rfl, SqL.of (k02 _ _ hrlp hrlG), q41 (by rw [List.getElem?_map, gra]; rfl), ?_⟩
  have hraG := kG _ _ hrap hra
  apply hdn eU; intro U eU
  refine ⟨_, rfl, _, rfl, ra, _, rfl, .inl (SqL.of (k02 _ _ hrap hraG)), _, _, rfl, rfl, pen, _, rfl, P2, by omega, by rw [hlm]; omega, fun sv G3 k3 PC s0 s1 => ?_⟩
  rw [hlm] at s1
  obtain ⟨st, rfl⟩ := Int.eq_ofNat_of_zero_le s0
  have k03 := k02.trans k3
  apply hdn eU; intro U eU
  refine ⟨_, rfl, _, rfl, _, rfl, ra, _, rfl, .inl (SqL.of (k03 _ _ hrap hraG)), _, _, rfl, rfl, _, rfl, _, _, rfl, rfl, pen, _, rfl, PC, by rw [hlm]; omega, by rw [hlm]; omega, fun ev G4 k4 P4 e0 e1 => ⟨_, _, rfl, rfl, ?_⟩⟩
  rw [hlm] at e1
  have k04 := k03.trans k4
  obtain ⟨en, hen⟩ : ∃ en : Nat, (st : Int) + ev = (en : Int) := Int.eq_ofNat_of_zero_le (by omega)
  dsimp only
  rw [hen]
  apply hdn eU; intro U eU
  refine ⟨fun σ' G' => ∃ st en : Nat, σ' = [some (.ref pen), some (.ref b), some (.ref rl), some (.ref ga), some (.ref wa), some (.int (0 + (i : Int))), some (.int (m : Int)), some (.ref ra), some (.int (st : Int)), some (.int (en : Int))] /\ st <= en /\ en <= r.length /\ Keep pen G G' /\ PenN G' pen, ?_, ?_⟩
  ·refine ⟨_, rfl, pen, 3, rfl, P4, by decide, by decide, fun u G5 k5 P5 u0 u1 => ⟨_, _, rfl, rfl, _, rfl, ?_⟩⟩
   refine ite2 (fun c => ?_) (fun c => ⟨st, en, rfl, by omega, by omega, k04.trans k5, P5⟩)
   refine ⟨_, rfl, ra, _, rfl, .inl (SqL.of ((k04.trans k5) _ _ hrap hraG)), _, _, rfl, ?_⟩
   rw [hlm]
   exact ⟨0, r.length, rfl, by omega, Nat.le_refl _, k04.trans k5, P5⟩
  clear k1 k2 k3 k4 k02 k03 k04 P1 P2 PC P4 hen e0 e1 s0 s1 hat hm hl hlp
  rintro σ' G5 ⟨st, en, rfl, hse, her, k5, P5⟩
  have hb5 := k5 _ _ hbp (kG _ _ hbp hb)
  have hra5 := k5 _ _ hrap hraG
  have hga5 := k5 _ _ hgap gga
  have hwa5 := k5 _ _ hwap gwa
  apply hdn eU; intro U eU
  refine ⟨_, rfl, .inl ⟨rfl, _, SqL.of hga5⟩, _, rfl, _, rfl, b, ra, low, L, r, rfl, SqT.of hb5, hL, SqL.of hra5, by omega, fun G6 v s6 hv => ?_⟩
  refine ⟨_, rfl, _, rfl, szb rfl, fun p hp => ?_⟩
  obtain ⟨G7, gz, s7, e7⟩ := nwH hp (.tup [v, .int (st : Int), .int (en : Int)])
  rw [gz]
  have s57 := s6.trans s7
  have hga7 := s57 _ _ hga5
  have hwa7 := s57 _ _ hwa5
  have gat7 : GatAt G7 xs (ps.map (gOf low L rs)) := (gat.tk (PG.tk k5)).same s57
  have hxl : xs.length = i := by rw [gat.1, List.length_map]; exact hpl
  have hv7 : StrAt G7 (.ref p) (gOf low L rs (m, st, en)) := by
   refine ⟨p, v, rfl, e7, ?_⟩
   have e : rs.getD m [] = r := by rw [List.getD_eq_getElem?_getD, g]; rfl
   show q29 G7 v (grow low L (rs.getD m []))
   rw [e]
   exact hv.same s7
  refine ⟨ga, _, _, rfl, rfl, hga7, sz (by omega), ?_⟩
  have tk : TKeep G7 (upd G7 ga (.lst (xs ++ [.ref p]))) := TKeep.set hga7
  have e8 := @q14 G7 ga (.lst (xs ++ [.ref p]))
  have w8 : upd G7 ga (.lst (xs ++ [.ref p])) wa = some (.lst ((ps.map tP).map V.str)) := by rw [q34 (Ne.symm hgw)]; exact hwa7
  have k8 : Keep pen H (upd G7 ga (.lst (xs ++ [.ref p]))) := (kG.trans (k5.trans (.same s57))).own hga
  have P8 : PenN (upd G7 ga (.lst (xs ++ [.ref p]))) pen := (P5.same s57).other hgap _
  have gat8 := (gat7.snoc hv7).tk tk
  generalize upd G7 ga (.lst (xs ++ [.ref p])) = G8 at *
  apply hde eU
  refine ⟨_, rfl, .inl ⟨rfl, _, SqL.of w8⟩, rfl, _, rfl, _, rfl, lg60 (by omega) (by omega), _, rfl, _, rfl, lg60 (by omega) (by omega), _, rfl, _, rfl, lg60 (by omega) (by omega), szb rfl, fun l hl => ?_⟩
  have sp : SmP (m, st, en) := ⟨by show m <= 1000; omega, by show st <= 1000; omega, by show en <= 1000; omega⟩
  have s9 := q16 hl (.lst (((p3s (m, st, en)).map tx).map V.str))
  refine ⟨":", l, (p3s (m, st, en)).map tx, rfl, rfl, SqL.of q14, jn_ok (by decide +kernel) (B := 51) (fun x hx => ?_) (by show 3 * 51 + 3 <= 1048576; decide), ?_⟩
  ·obtain ⟨j, hj, rfl⟩ := List.mem_map.mp hx
   rcases (by simpa [p3s] using hj : j = (m : Int) \/ j = (st : Int) \/ j = (en : Int)) with rfl | rfl | rfl
   ·exact q95 sp.1
   ·exact q95 sp.2.1
   ·exact q95 sp.2.2
  have et : Txt.join ":" ((p3s (m, st, en)).map tx) = tP (m, st, en) := by
   rw [show (":" : Str) = ⟨#[58]⟩ by decide +kernel]
   exact q178 58 _
  rw [et]
  have w9 := s9 _ _ w8
  have k9 := k8.trans (.same s9)
  have P9 := P8.same s9
  have gat9 := gat8.same s9
  have e9 := s9 _ _ e8
  refine ⟨wa, _, _, rfl, rfl, w9, sz (by rw [List.length_map, List.length_map]; omega), ?_⟩
  refine ⟨ps ++ [(m, st, en)], xs ++ [.ref p], _, _, _, _, _, rfl, by rw [List.length_append, hpl]; rfl, fun x hx => ?_, by rw [q34 hgw]; exact e9, ?_, ?_, k9.own hwa0, P9.other hwap _⟩
  ·rcases List.mem_append.mp hx with h | h
   ·exact hst x h
   ·rw [List.mem_singleton.mp h]
    exact ⟨r, g, hse, her⟩
  ·rw [List.map_append]
   exact gat9.tk (TKeep.set w9)
  ·rw [q14, List.map_append, List.map_append]
   rfl
 ·rintro σ G ⟨ps, xs, v5, v6, v7, v8, v9, rfl, hpl, hst, gga, gat, gwa, kG, PG⟩
  have hp3 : ps.length <= 3 := by omega
  have hp0 : ps ≠ [] := fun z => by rw [z] at hpl; have : 0 = (1 + n).toNat := hpl; omega
  apply hde eU
  refine ⟨_, rfl, rfl, _, rfl, "+", wa, ps.map tP, rfl, rfl, SqL.of gwa, jn_ok (by decide +kernel) (B := 156) (fun x hx => ?_) (by rw [List.length_map]; omega), szb rfl, fun p hp => ?_⟩
  ·obtain ⟨y, hy, rfl⟩ := List.mem_map.mp hx
   exact q427 (st_sm (hst y hy) hn hN)
  ·rw [show Txt.join "+" (ps.map tP) = tG ps by rw [show ("+" : Str) = ⟨#[43]⟩ by decide +kernel]; exact q178 43 _]
   have s' : Same G (upd G p (.tup [.ref ga, .str (tG ps)])) := q16 hp _
   exact q p ga xs ps _ q14 (s' _ _ gga) (gat.same s') hp0 hp3 hst hgap (kG.trans (.same s')) (PG.same s')
theorem q354 {α : Type} {l : List α} {j : Nat} {x y : α} (h : l[j]? = some x) : (l ++ [y])[j]? = some x := by
 rw [List.getElem?_append_left (List.getElem?_eq_some_iff.mp h).1]
 exact h
theorem StOk.grow (r : List Int) (h : StOk rs p) : StOk (rs ++ [r]) p := by
 obtain ⟨t, g, h1⟩ := h
 exact ⟨t, q354 g, h1⟩
theorem q533 {low : Int} {L : Nat} (r : List Int) (h : StOk rs p) : gOf low L (rs ++ [r]) p = gOf low L rs p := by
 obtain ⟨t, g, h1⟩ := h
 unfold gOf
 rw [List.getD_eq_getElem?_getD, List.getD_eq_getElem?_getD, q354 g, g]
theorem q705 {low : Int} {L : Nat} {ps : List P3} (r : List Int) (h : ∀ p ∈ ps, StOk rs p) : ps.map (gOf low L (rs ++ [r])) = ps.map (gOf low L rs) := List.map_congr_left fun p hp => q533 r (h p hp)
theorem AskOk.grow {low : Int} {L : Nat} (r : List Int) (h : AskOk low L rs y t) : AskOk low L (rs ++ [r]) y t := by
 rcases h with ⟨j, r', h1, h2, h3⟩ | ⟨p, h1, h2, h3⟩ | ⟨nm, ps, ns, h1, h2, h3, h4, h5, h6⟩
 ·exact .inl ⟨j, r', h1, q354 h2, h3⟩
 ·exact .inr (.inl ⟨p, h1, h2.grow r, by rw [q533 r h2]; exact h3⟩)
 ·exact .inr (.inr ⟨nm, ps, ns, h1, h2, h3, fun p hp => (h4 p hp).grow r, by rw [q705 r h4]; exact ⟨h5, h6⟩⟩)
theorem q534 (h : nm' = nm ++ ⟨#[32]⟩) (x : Vl) : nm' ++ x.wd = sayT nm [x] := by
 subst h
 rfl
inductive sp__law_question (u0 : Fg) (vs : List V) (H : Hp) (Q : VK) (E : XK) : Prop
 | mk (pen b rl : Addr) (low : Int) (L : Nat) (rs : LL) (_ : vs = [.ref pen, .ref b, .ref rl]) (_ : PenN H pen) (_ : RwsAt H pen rl rs) (_ : H b = some (.tup [.int low, .int (L : Int)])) (_ : L <= 40) (_ : 0 < rs.length) (_ : rs.length <= 100) (_ : (∀ r ∈ rs, Wths low L r /\ r.length <= 200)) (_ : -(10 ^ 40) < low) (_ : low < 10 ^ 40) (_ : ∀ (p : Addr) (y t : Str) (H' : Hp), H' p = some (.tup [.str y, .str t]) -> AskOk low L rs y t -> Keep pen H H' -> PenN H' pen -> Q (.ref p) H') : sp__law_question u0 vs H Q E
theorem q195 (z : Bz K mg cA cB cC cD cE cF cG cH) : Cal P w K mg base 48 "_law_question" pn0 (sp__law_question K) := by
 have sc := q192
 refine z.d__law_question.cal fun f fd F => F.k sc fun _ _ _ s H _ Q _ hr h => ?_
 obtain ⟨pen, b, rl, low, L, rs, rfl, P0, R0, hb, hL, hne, hn, hN, lo0, lo1, q⟩ := h
 refine ⟨_, (q12 (pst 3 sc.nd (pe_fn (q24 z) hr.m (by rfl) (q10 (pv 0) (q10 q13 q11))))
 (q12 (q272 (pe_fn (q434 z) hr.m (by rfl) (q10 (pv 0) (q10 (pv 1) (q10 (pv 2) q11)))) (q206 rfl (q52 (pgn 4 sc.nd) (q52 (pgn 5 sc.nd) q115))))
 (q12 (pst 6 sc.nd (pe_op q51 (pe_op q31 (pix q23 (pv 1) q13) (pe_fn (q24 z) hr.m (by rfl) (q10 (pv 0) (q10 (pe_op q31 (pe_op q275 q13 (pix q23 (pv 1) q13)) q13) q11)))) q13))
 (q12 (pst 7 sc.nd (pe_op q31 (pv 6) (pe_fn (q24 z) hr.m (by rfl) (q10 (pv 0) (q10 (pe_op q275 q13 (pix q23 (pv 1) q13)) q11)))))
 (q12 (ps_if (q18 op_eq (pv 3) q13 (q21 _))
 (q12 (pst 8 sc.nd (pe_fn (q24 z) hr.m (by rfl) (q10 (pv 0) (q10 (pln z.len_ (q10 (pv 2) q11)) q11))))
 (q15 (q19 (q27 (q10 (pe_op q84 q22 (q32 q37 (by rfl) z.str_ q88 (q10 (pv 8) q11))) (q10 (pe_fn (q28 z) hr.m (by rfl) (q10 (pix q25 (pv 2) (pv 8)) q11)) q11))))))
 q20)
 (q12 (q318 (ps_if (PW.pt (q271 (q18 op_eq (pv 3) q13 (q21 _)) (q173 (q18 op_gt (pe_fn (q48 z) hr.m (by rfl) (q10 (pv 4) q11)) q13 (q21 _)))))
 (q12 (pst 9 sc.nd (pe_fn (q24 z) hr.m (by rfl) (q10 (pv 0) (q10 (pe_fn (q48 z) hr.m (by rfl) (q10 (pv 4) q11)) q11))))
 (q15 (q19 (q27 (q10 (pe_fn (q28 z) hr.m (by rfl) (q10 (q35 (q10 q22 (q10 (pv 5) (q10 (pv 9) q11)))) q11)) (q10 (pe_fn (q28 z) hr.m (by rfl) (q10 (pe_fn (q188 z) hr.m (by rfl) (q10 (pv 1) (q10 (pv 4) (q10 (pv 9) q11)))) q11)) q11))))))
 q20))
 (q12 (ps_if (q18 op_eq (pv 3) q13 (q21 _))
 (q15 (q19 (q27 (q10 (pe_fn (q28 z) hr.m (by rfl) (q10 (q35 (q10 q22 (q10 (pv 5) (q10 (pv 6) q11)))) q11)) (q10 (q32 q37 (by rfl) z.str_ q88 (q10 (pe_fn (q131 z) hr.m (by rfl) (q10 (pv 1) (q10 (pv 4) (q10 (pv 6) q11)))) q11)) q11)))))
 q20)
 (q12 (ps_if (q18 op_eq (pv 3) q13 (q21 _))
 (q15 (q19 (q27 (q10 (pe_fn (q28 z) hr.m (by rfl) (q10 (q35 (q10 q22 (q10 (pv 5) (q10 (pv 6) (q10 (pv 7) q11))))) q11)) (q10 (q32 q37 (by rfl) z.str_ q88 (q10 (pe_fn (q302 z) hr.m (by rfl) (q10 (pv 1) (q10 (pv 4) (q10 (pv 6) (q10 (pv 7) q11))))) q11)) q11)))))
 q20)
 (q12 (ps_if (q18 op_eq (pv 3) q13 (q21 _))
 (q15 (q19 (q27 (q10 (pe_fn (q28 z) hr.m (by rfl) (q10 (q35 (q10 q22 (q10 (pv 5) (q10 (pv 6) q11)))) q11)) (q10 (pe_fn (q82 z) hr.m (by rfl) (q10 (pe_fn (q303 z) hr.m (by rfl) (q10 (pv 1) (q10 (pv 4) (q10 (pv 6) q11)))) q11)) q11)))))
 q20)
 (q12 (ps_if (q18 op_eq (pv 3) q13 (q21 _))
 (q15 (q19 (q27 (q10 (pe_fn (q28 z) hr.m (by rfl) (q10 (q35 (q10 q22 (q10 (pv 5) (q10 (pv 6) q11)))) q11)) (q10 (pe_fn (q82 z) hr.m (by rfl) (q10 (pe_fn (q186 z) hr.m (by rfl) (q10 (pv 1) (q10 (pv 4) (q10 (pv 6) q11)))) q11)) q11)))))
 q20)
 (q12 (ps_if (q18 op_eq (pv 3) q13 (q21 _))
 (q12 (pst 10 sc.nd (pe_op q31 q13 (pe_fn (q24 z) hr.m (by rfl) (q10 (pv 0) (q10 q13 q11)))))
 (q12 (q280 (i := 11) (cl := []) (cn := []) (N := []) (fr := []) (sc0 := q17 q91) sc.nd rfl (Or.inl rfl) rfl (q46 (pe_fn (q525 z) hr.m (by rfl) (q10 (pv 1) (q10 (pv 4) (q10 (pv 10) q11))))) (fun C s₂ H₂ fp => (pe_fn (q82 z) hr.m (by rfl) (q10 (pv 0) q11))) (by with_unfolding_all rfl) trivial rfl rfl rfl cok rfl (by with_unfolding_all rfl) (.inl rfl))
 (q15 (q19 (q27 (q10 (pe_fn (q28 z) hr.m (by rfl) (q10 (q35 (q10 q22 (q10 (pv 5) (q10 (pv 10) q11)))) q11)) (q10 (pix q25 (q35 (q10 (pe_bm PySem.F.plainAttrs_str PySem.F.slot_str_join PySem.F.type_str_join q145 q22 (q10 (pv 11) q11)) (q10 q22 q11))) (q32 q359 (by rfl) z.int_ q612 (q10 (q308 (q623 hr.units) (pv 11) (q35 q11) (q21 _)) q11))) q11)))))))
 q20)
 (q12 (ps_if (q18 op_eq (pv 3) q13 (q21 _))
 (q15 (q19 (q27 (q10 (pe_op q84 q22 (pix q25 (pe_bm PySem.F.plainAttrs_str PySem.F.slot_str_split PySem.F.type_str_split q198 (pv 5) (q10 q22 q11)) q13)) (q10 (q32 q37 (by rfl) z.str_ q88 (q10 (pe_fn (q529 z) hr.m (by rfl) (q10 (pix q25 (pv 4) q13) q11)) q11)) q11)))))
 q20)
 (q15 (q19 (q27 (q10 (pe_op q84 q22 (pv 5)) (q10 (pe_fn (q82 z) hr.m (by rfl) (q10 (pe_fn (q685 z) hr.m (by rfl) (q10 (pv 1) (q10 (pv 4) q11))) q11)) q11))))))))))))))))), ?_⟩
 have hp2 := p2pos L
 have hq2 := p2le hL
 have hp4 := p40 hL
 have hbp := P0.ne hb
 have hl2 : ∀ r ∈ rs, r.length <= 200 := fun r h => (hN r h).2
 refine hid fun U eU => ?_
 refine ⟨_, rfl, pen, 9, rfl, P0, by decide, by decide, fun wv H1 k1 P1 w0 w1 => ?_⟩
 apply hdn eU; intro U eU
 refine ⟨_, rfl, _, rfl, _, rfl, pen, b, rl, low, L, rs, rfl, P1, R0.pen P0 k1, k1 _ _ hbp hb, hL, hne, hn, hl2, fun pp ga xs ps H2 epp hga gat hp0 hp3 hst hgap k2 P2 => ?_⟩
 refine ⟨pp, _, rfl, SqT.of epp, rfl, _, _, rfl, _, _, rfl, rfl, ?_⟩
 have k02 := k1.trans k2
 have hb2 := k02 _ _ hbp hb
 apply hdn eU; intro U eU
 refine ⟨_, rfl, b, _, _, _, rfl, rfl, SqT.of hb2, rfl, _, rfl, _, rfl, b, _, _, _, rfl, rfl, SqT.of hb2, rfl, _, _, rfl, rfl, ⟨by omega, by omega, by decide⟩, ?_⟩
 dsimp only
 rw [q216]
 refine ⟨_, _, rfl, rfl, pen, _, rfl, P2, by omega, by omega, fun yv H3 k3 PC y0 y1 => ⟨_, _, rfl, rfl, _, _, rfl, rfl, ?_⟩⟩
 have k03 := k02.trans k3
 have hb3 := k03 _ _ hbp hb
 obtain ⟨num, hy⟩ : ∃ y, y = low + yv - 1 := ⟨_, rfl⟩
 dsimp only
 rw [<- hy]
 apply hdn eU; intro U eU
 refine ⟨_, rfl, _, rfl, _, rfl, b, _, _, _, rfl, rfl, SqT.of hb3, rfl, _, _, rfl, rfl, ⟨by omega, by omega, by decide⟩, ?_⟩
 dsimp only
 rw [q216]
 refine ⟨pen, _, rfl, PC, by omega, by omega, fun zv H4 k4 P4 z0 z1 => ⟨_, _, rfl, rfl, ?_⟩⟩
 have k04 := k03.trans k4
 obtain ⟨num2, hy2⟩ : ∃ y, y = num + zv := ⟨_, rfl⟩
 dsimp only
 rw [<- hy2]
 have y2 : -(10 ^ 50) < num /\ num < 10 ^ 50 := by omega
 have y3 : -(10 ^ 50) < num2 /\ num2 < 10 ^ 50 := by omega
 have hga4 := k4 _ _ hgap (k3 _ _ hgap hga)
 have gat4 := gat.tk ((P2.tk k3).trans (PC.tk k4))
 have hb4 := k04 _ _ hbp hb
 have R4 := R0.pen P0 k04
 clear y0 y1 z0 z1 hy hy2 k1 k2 k3 k4 k02 k03 P1 P2 PC hb2 hb3 gat hga epp
 have fin : ∀ (G0 G2 : Hp) (y t : Str), Keep pen H G0 -> PenN G0 pen -> Same G0 G2 -> AskOk low L rs y t -> ∀ p, G2 p = none -> Q (.ref p) (upd G2 p (.tup [.str y, .str t])) := by
  intro G0 G2 y t k0 PP ss ok p hp
  have s1 := ss.trans (q16 hp (.tup [.str y, .str t]))
  exact q p y t _ q14 ok (k0.trans (.same s1)) (PP.same s1)
 have hG : GoodG L (ps.map (gOf low L rs)) := ⟨fun g hg => by
  obtain ⟨p, hp, rfl⟩ := List.mem_map.mp hg
  exact (q133 (hst p hp) hl2).1, by rw [List.length_map]; omega, by have := q704 (low := low) (L := L) hl2 hst; omega⟩
 have hz : ∀ g ∈ ps.map (gOf low L rs), q45 g.1 <= 400 := fun g hg => by
  obtain ⟨p, hp, rfl⟩ := List.mem_map.mp hg
  exact (q133 (hst p hp) hl2).2
 have hgl := hG.ln
 have hgm := hG.mn
 have hm0 := q65 hG.gd
 have hwl : (tG ps).length <= 1300 := q694 (x := .g ps) (k := "gathering") ⟨rfl, hp0, by omega, fun p hp => st_sm (hst p hp) hn hl2⟩
 have ask : ∀ {nm t : Str} {ns : List Int}, BdN ns -> ns.length <= 10 -> Pl low L (ps.map (gOf low L rs)) nm ns t -> AskOk low L rs (sayT nm (.g ps :: ns.map Vl.n)) t := fun hb hl hp => .inr (.inr ⟨_, ps, _, rfl, hp0, by omega, hst, hgm, hb, hl, hp⟩)
 have b1 : BdN [num] := q60 y2.1 y2.2 q102
 apply hdn eU; intro U eU
 refine ⟨_, rfl, rfl, _, rfl, ?_⟩
 refine ite2 (fun c => ?_) (fun c => ?_)
 ·obtain ⟨ras, hrl, hras, hrE⟩ := R4
  have hlen : (ras.map V.ref).length = rs.length := by rw [List.length_map]; exact hras
  have hrlp := q532 P4 hrl
  refine ⟨_, rfl, _, rfl, rl, _, rfl, .inl (SqL.of hrl), pen, _, rfl, P4, by rw [hlen]; omega, by rw [hlen]; omega, fun mv H5 k5 P5 m0 m1 => ?_⟩
  rw [hlen] at m1
  obtain ⟨m, rfl⟩ := Int.eq_ofNat_of_zero_le m0
  obtain ⟨r, g⟩ : ∃ r, rs[m]? = some r := ⟨rs[m]'(by omega), List.getElem?_eq_getElem _⟩
  obtain ⟨ra, gra, hrap, hra⟩ := hrE m r g
  obtain ⟨hw, hlr⟩ := hN r (List.mem_of_getElem? g)
  have lsh : ("show " : Str).length <= 5 := by decide +kernel
  have lj : (tx (m : Int)).length <= 51 := q95 (by omega)
  refine ⟨_, rfl, _, rfl, lg60 (by omega) (by omega), _, _, rfl, rfl, sl51 (by show ("show " : Str).length + (tx (m : Int)).length <= _; omega), ?_⟩
  refine ⟨_, rfl, _, rfl, rl, _, _, _, rfl, rfl, SqL.of (k5 _ _ hrlp hrl), q41 (by rw [List.getElem?_map, gra]; rfl), ?_⟩
  refine ⟨ra, _, rfl, .inl (SqL.of (k5 _ _ hrap hra)), by rw [List.length_map]; omega, wok_n (fun n hn => by have := hw n hn; omega), fun H6 s6 => ⟨szb rfl, fun p hp => ?_⟩⟩
  rw [q702, q703]
  exact fin H5 H6 _ _ (k04.trans k5) P5 s6 (.inl ⟨m, r, q534 (by decide +kernel) (.n (m : Int)), g, rfl⟩) p hp
 apply hdn eU; intro U eU
 refine ⟨fun σ' G => σ' = [some (.ref pen), some (.ref b), some (.ref rl), some (.int wv), some (.ref ga), some (.str (tG ps)), some (.int num), some (.int num2), none, none, none, none] /\ Same H4 G, ?_, ?_⟩
 ·refine ⟨_, rfl, rfl, _, rfl, ?_⟩
  refine ite2 (fun c => ?_) (fun c => iteF ⟨rfl, Same.refl _⟩)
  refine ⟨_, rfl, ga, xs, _, rfl, SqL.of hga4, gat4, by omega, fun H5 s5 => ⟨_, _, rfl, rfl, _, rfl, ?_⟩⟩
  refine ite2 (fun c2 => ?_) (fun c2 => ⟨rfl, s5⟩)
  have hpos : 0 < manyS (ps.map (gOf low L rs)) := of_decide_eq_true c2
  refine ⟨_, rfl, _, rfl, ga, xs, _, rfl, SqL.of (s5 _ _ hga4), gat4.same s5, by omega, fun H6 s6 => ⟨pen, _, rfl, (P4.same s5).same s6, hpos, by omega, fun kv H7 k7 P7 k0 k1 => ?_⟩⟩
  have s46 := s5.trans s6
  have hga7 := k7 _ _ hgap (s46 _ _ hga4)
  have gat7 := (gat4.same s46).tk ((P4.same s46).tk k7)
  have hb7 := k7 _ _ hbp (s46 _ _ hb4)
  have bk : BdN [kv] := q60 (by omega) (by omega) q102
  refine ⟨_, rfl, _, rfl, szb rfl, fun l hl => said hl nb (wok_w (wok_s hwl (wok_n (ns := [kv]) bk))) fun H8 s78 => ?_⟩
  obtain ⟨rr, hrr⟩ := nl_some (low := low) hG.gd k0 k1
  obtain ⟨r0, r1, r2, r3⟩ := nl_rng hL hG hz k0 k1 hrr
  refine ⟨_, rfl, _, rfl, _, rfl, b, ga, xs, low, kv, L, _, rr, rfl, SqT.of (s78 _ _ hb7), hL, s78 _ _ hga7, gat7.same s78, hG.gd, by omega, k0, k1, hrr, fun p9 H9 s9 hp9 => ?_⟩
  refine ⟨p9, _, rfl, .inr hp9, nb, wok_n (ns := [rr.1, (rr.2.1 : Int), (rr.2.2 : Int)]) (q60 (by omega) (by omega) (q60 (by omega) (by omega) (q60 (by omega) (by omega) q102))), fun H10 s10 => ⟨szb rfl, fun p hp => ?_⟩⟩
  have e := q703 [rr.1, (rr.2.1 : Int), (rr.2.2 : Int)]
  exact fin H7 H10 _ _ (k04.trans ((Keep.same s46).trans k7)) P7 (s78.trans (s9.trans s10)) (ask bk nb (e ▸ .least kv rr k0 k1 hrr)) p hp
 rintro σ' G ⟨rfl, s5⟩
 have k05 := k04.trans (.same s5)
 have P5 := P4.same s5
 have hb5 := s5 _ _ hb4
 have hga5 := s5 _ _ hga4
 have gat5 := gat4.same s5
 clear k04 P4 hb4 hga4 gat4 R4
 apply hdn eU; intro U eU
 refine ⟨_, rfl, rfl, _, rfl, ?_⟩
 refine ite2 (fun c => ?_) (fun c => ?_)
 ·refine ⟨_, rfl, _, rfl, szb rfl, fun l hl => said hl nb (wok_w (wok_s hwl (wok_n (ns := [num]) b1))) fun H8 s78 => ?_⟩
  have hr := q305 (low := low) (n := num) hG.gd
  exact ⟨_, rfl, _, rfl, _, rfl, b, ga, xs, low, num, L, _, rfl, SqT.of (s78 _ _ hb5), hL, SqL.of (s78 _ _ hga5), gat5.same s78, by omega, fun H9 s9 => ⟨_, rfl, lg60 (by omega) (by omega), szb rfl, fun p hp => fin G H9 _ _ k05 P5 (s78.trans s9) (ask b1 nb (.below num)) p hp⟩⟩
 apply hdn eU; intro U eU
 refine ⟨_, rfl, rfl, _, rfl, ?_⟩
 refine ite2 (fun c => ?_) (fun c => ?_)
 ·have b2 : BdN [num, num2] := q60 y2.1 y2.2 (q60 y3.1 y3.2 q102)
  refine ⟨_, rfl, _, rfl, _, rfl, szb rfl, fun l hl => said hl nb (wok_w (wok_s hwl (wok_n (ns := [num, num2]) b2))) fun H8 s78 => ?_⟩
  have hr := q305 (low := low) (n := num2 + 1) hG.gd
  have hr2 := q305 (low := low) (n := num) hG.gd
  exact ⟨_, rfl, _, rfl, _, rfl, _, rfl, b, ga, xs, low, num, num2, L, _, rfl, SqT.of (s78 _ _ hb5), hL, SqL.of (s78 _ _ hga5), gat5.same s78, by omega, fun H9 s9 => ⟨_, rfl, lg60 (by split <;> omega) (by split <;> omega), szb rfl, fun p hp => fin G H9 _ _ k05 P5 (s78.trans s9) (ask b2 nb (.between num num2)) p hp⟩⟩
 apply hdn eU; intro U eU
 refine ⟨_, rfl, rfl, _, rfl, ?_⟩
 refine ite2 (fun c => ?_) (fun c => ?_)
 ·refine ⟨_, rfl, _, rfl, szb rfl, fun l hl => said hl nb (wok_w (wok_s hwl (wok_n (ns := [num]) b1))) fun H8 s78 => ?_⟩
  exact ⟨_, rfl, _, rfl, _, rfl, b, ga, xs, low, num, L, _, rfl, SqT.of (s78 _ _ hb5), hL, s78 _ _ hga5, gat5.same s78, by omega, fun v H9 s9 hv => ⟨v, _, rfl, hv, (fun p hp => (up_sm hL hG p hp).b (by omega) (by omega)), szb rfl, fun p hp => fin G H9 _ _ k05 P5 (s78.trans s9) (ask b1 nb (.up num)) p hp⟩⟩
 apply hdn eU; intro U eU
 refine ⟨_, rfl, rfl, _, rfl, ?_⟩
 refine ite2 (fun c => ?_) (fun c => ?_)
 ·refine ⟨_, rfl, _, rfl, szb rfl, fun l hl => said hl nb (wok_w (wok_s hwl (wok_n (ns := [num]) b1))) fun H8 s78 => ?_⟩
  exact ⟨_, rfl, _, rfl, _, rfl, b, ga, xs, low, num, L, _, rfl, SqT.of (s78 _ _ hb5), hL, s78 _ _ hga5, gat5.same s78, by omega, fun v H9 s9 hv => ⟨v, _, rfl, hv, (fun p hp => (dn_sm hL hG p hp).b (by omega) (by omega)), szb rfl, fun p hp => fin G H9 _ _ k05 P5 (s78.trans s9) (ask b1 nb (.down num)) p hp⟩⟩
 apply hdn eU; intro U eU
 refine ⟨_, rfl, rfl, _, rfl, ?_⟩
 refine ite2 (fun c => ?_) (fun c => ?_)
 ·refine ⟨_, rfl, pen, 9, rfl, P5, by decide, by decide, fun pv H6 k6 P6 p0 p1 => ⟨_, _, rfl, rfl, ?_⟩⟩
  obtain ⟨part, hpart⟩ : ∃ y, y = 1 + pv := ⟨_, rfl⟩
  dsimp only
  rw [<- hpart]
  have hb6 := k6 _ _ hbp hb5
  have hga6 := k6 _ _ hgap hga5
  have gat6 := gat5.tk (P5.tk k6)
  have hca := q418 (part := part) (fl := manyS (ps.map (gOf low L rs))) (low := low) (by omega) hm0 (q67 hG.gd)
  rw [q69 hG.gd] at hca
  have hsm := fun p hp => (ca_sm (low := low) (part := part) (fl := manyS (ps.map (gOf low L rs))) hL hG p hp).b (by omega) (by omega)
  have hplO : Pl low L (ps.map (gOf low L rs)) "often" [part] _ := .often part (by omega) (by omega)
  unfold lT at hplO
  refine ⟨_, rfl, _, rfl, _, rfl, b, ga, xs, low, part, L, _, rfl, SqT.of hb6, hL, SqL.of hga6, gat6, hG.gd, by omega, hgm, by omega, by omega, fun H7 D0 ys s7 hD0 _ hA => ?_⟩
  generalize caS part (manyS (ps.map (gOf low L rs))) L low (fil (ps.map (gOf low L rs))) = cs at *
  have hxl := hA.1
  refine ⟨D0, rfl, ⟨_, SqL.of hD0⟩, fun D hD => q61 (K := K) (xs := ys) (sl51 (by omega))
   (fun i zs H2 => zs = ((cs.take i).map fun p => cT (some p)).map V.str /\ i <= cs.length /\ Same H7 H2 /\ H2 D = some (.lst zs)) ⟨rfl, Nat.zero_le _, q16 hD _, q14⟩ (fun i zs H2 ⟨_, _, k2, _⟩ => SqL.of (k2 _ _ hD0))
   (fun i zs H2 ⟨e, hi, _, h4⟩ => ⟨h4, by rw [e, List.length_map, List.length_map, List.length_take]; omega⟩) ?_ ?_⟩
  ·rintro i x zs H2 hx ⟨e, hi, k2, h4⟩
   obtain ⟨p, gp, hpx⟩ := hA.get hx
   refine ⟨_, rfl, x, some p, rfl, hpx.tk (.same k2), (fun q0 h0 => by cases h0; exact hsm p (List.mem_of_getElem? gp)), h4, ?_, ?_, own2 k2 hD, q14⟩
   ·rw [e, List.take_add_one, gp, List.map_append, List.map_append]
    rfl
   ·have := (List.getElem?_eq_some_iff.mp gp).1
    omega
  ·rintro zs H8 ⟨e, hi, s8, h4⟩
   rw [hxl, List.take_length] at e
   rw [e] at h4
   have s68 := s7.trans s8
   have bk : BdN [part] := q60 (by omega) (by omega) q102
   refine ⟨_, rfl, _, rfl, szb rfl, fun l hl => said hl nb (wok_w (wok_s hwl (wok_n (ns := [part]) bk))) fun H9 s89 => ?_⟩
   have h49 := s89 _ _ h4
   refine ⟨rfl, _, rfl, ",", D, cs.map fun p => cT (some p), rfl, rfl, SqL.of h49, jn_ok (by decide +kernel) (B := 104) (fun x hx => ?_) (by rw [List.length_map]; omega), szb rfl, fun l2 hl2 => ?_⟩
   ·obtain ⟨p, hp, rfl⟩ := List.mem_map.mp hx
    exact cT_len (hsm p hp)
   obtain ⟨jt, hjt⟩ : ∃ y, y = Txt.join "," (cs.map fun p => cT (some p)) := ⟨_, rfl⟩
   rw [<- hjt] at hplO ⊢
   obtain ⟨H10, gz, t10, e10⟩ := nwH hl2 (.lst [.str jt, .str "-"])
   rw [gz]
   refine ⟨_, rfl, szb rfl, fun l3 hl3 => ?_⟩
   have t11 := q16 hl3 (.lst [])
   refine ⟨D, l3, _, rfl, rfl, SqL.of (t11 _ _ (t10 _ _ h49)), SqL.of q14, .inr ⟨_, rfl, ?_⟩⟩
   have s611 := s68.trans (s89.trans (t10.trans t11))
   have e11 := t11 _ _ e10
   generalize upd H10 l3 (.lst []) = H11 at *
   cases cs with
   | nil =>
    rw [if_pos rfl] at hplO
    exact ⟨l2, _, _, _, rfl, rfl, SqL.of e11, rfl, szb rfl, fun p hp => fin H6 H11 _ _ (k05.trans k6) P6 s611 (ask bk nb hplO) p hp⟩
   | cons a cs =>
    rw [if_neg (by simp)] at hplO
    exact ⟨l2, _, _, _, rfl, rfl, SqL.of e11, rfl, szb rfl, fun p hp => fin H6 H11 _ _ (k05.trans k6) P6 s611 (ask bk nb hplO) p hp⟩
 apply hdn eU; intro U eU
 refine ⟨_, rfl, rfl, _, rfl, ?_⟩
 refine ite2 (fun c => ?_) (fun c => ?_)
 ·have hc := q203 (tG ps) "+"
  have hs : Txt.split (tG ps) "+" = ps.map tP := by
   rw [show ("+" : Str) = ⟨#[43]⟩ by decide +kernel]
   refine q129 (by simpa using hp0) fun x hx => ?_
   obtain ⟨i, hi, rfl⟩ := List.mem_map.mp hx
   exact q347 (.inl (by decide))
  refine ⟨_, rfl, rfl, _, "+", rfl, rfl, by decide +kernel, sl51 (by omega), sl51 (by omega), by rw [hs, List.length_map]; exact sl51 (by omega), fun l hl => ?_⟩
  rw [hs]
  obtain ⟨H6, gz, s6, e6⟩ := nwH hl (.lst ((ps.map tP).map V.str))
  rw [gz]
  obtain ⟨p0, pr, rfl⟩ := List.exists_cons_of_ne_nil hp0
  obtain ⟨x0, xr, rfl⟩ : ∃ x xr, xs = x :: xr := by
   cases xs with
   | nil => exact absurd gat5.1 (by simp)
   | cons x xr => exact ⟨x, xr, rfl⟩
  have hst0 := hst p0 (List.mem_cons_self ..)
  have ltp := q427 (st_sm hst0 hn hl2)
  have lfl : ("falls " : Str).length <= 6 := by decide +kernel
  obtain ⟨hgd, hsz⟩ := q133 (low := low) (L := L) hst0 hl2
  have hfl := q531 hgd hsz
  have hv0 := (gat5.2 0 x0 (gOf low L rs p0) rfl rfl).tk (.same s6)
  refine ⟨l, _, _, _, rfl, rfl, SqL.of e6, q41 (j := 0) rfl, _, _, rfl, rfl, sl51 (by show ("falls " : Str).length + (tP p0).length <= _; omega), ?_⟩
  refine ⟨_, rfl, ga, _, _, _, rfl, rfl, SqL.of (s6 _ _ hga5), q41 (j := 0) rfl, x0, L, gOf low L rs p0, rfl, hv0, hgd, hsz, hL, fun H7 s7 => ⟨_, rfl, lg60 (by omega) (by omega), szb rfl, fun p hp => ?_⟩⟩
  exact fin G H7 _ _ k05 P5 (s6.trans s7) (.inr (.inl ⟨p0, q534 (by decide +kernel) (.s p0), hst0, rfl⟩)) p hp
 apply hde eU
 have lmo : ("most " : Str).length <= 5 := by decide +kernel
 refine ⟨_, rfl, _, _, rfl, rfl, sl51 (by show ("most " : Str).length + (tG ps).length <= _; omega), ?_⟩
 refine ⟨_, rfl, _, rfl, b, ga, xs, low, L, _, rfl, SqT.of hb5, hL, SqL.of hga5, gat5, hG.gd, by omega, hgm, fun H7 v s7 hv => ⟨v, _, rfl, hv, fun p hp => ?_, szb rfl, fun p hp => ?_⟩⟩
 ·rcases q349 _ _ p hp with h | h
  ·cases h
  ·exact (ca_sm hL hG p h).b (by omega) (by omega)
 ·exact fin G H7 _ _ k05 P5 s7 (q534 (nm := "most") (nm' := "most ") (by decide +kernel) (.g ps) ▸ ask (nm := "most") q102 (Nat.zero_le _) .most) p hp
def RefL (H : Hp) (k : Addr) : Prop := ∃ (p : Addr) (es : List V), H k = some (.lst (.ref p :: es))
theorem RefL.ints {l : List Int} (h : RefL H k) (e : H a = some (.lst (l.map V.int))) : a ≠ k := by
 obtain ⟨p, es, h⟩ := h
 refine ne_of e h ?_
 intro z
 cases l with
 | nil => cases z
 | cons a l => simp at z
theorem Mks.first {low : Int} {L : Nat} {rs : LL} (M : Mks C H x ka b low L rs cs) (h : 0 < rs.length) : RefL H ka := by
 obtain ⟨es, e1, e2, e3⟩ := M.hk
 have := M.len
 obtain ⟨p, a, v, q1, _⟩ := e3 0 _ _ (List.getElem?_eq_getElem h) (List.getElem?_eq_getElem (by omega))
 cases es with
 | nil => cases q1
 | cons u es =>
  obtain rfl : u = .ref p := Option.some.inj q1
  exact ⟨p, es, e1⟩
theorem RefL.pen {H : Hp} {k pen : Addr} (h : RefL H k) (P : PenN H pen) : k ≠ pen := by
 obtain ⟨p, es, e⟩ := h
 obtain ⟨c, n, hp⟩ := P
 exact ne_of e hp (by intro z; cases z)
theorem PenN.keep (P : PenN H pen) (k : Keep p H H') (n : p ≠ pen) : PenN H' pen := by
 obtain ⟨c, m, h⟩ := P
 exact ⟨c, m, k _ _ (Ne.symm n) h⟩
def RwL (G : Hp) (pen al rl : Addr) (rs : LL) : Prop := ∃ ras : List Addr, G rl = some (.lst (ras.map V.ref)) /\ ras.length = rs.length /\ al ∉ ras /\ ∀ (j : Nat) (r : List Int), rs[j]? = some r -> ∃ ra, ras[j]? = some ra /\ ra ≠ pen /\ G ra = some (.lst (r.map V.int))
theorem RwL.rws (h : RwL G pen al rl rs) : RwsAt G pen rl rs := by
 obtain ⟨ras, a, b, _, c⟩ := h
 exact ⟨ras, a, b, c⟩
theorem RwL.ref {rs : LL} (h : RwL G pen al rl rs) (hn : 0 < rs.length) : RefL G rl := by
 obtain ⟨ras, e1, e2, _⟩ := h
 cases ras with
 | nil => exact absurd e2 (by show ¬ 0 = rs.length; omega)
 | cons p es => exact ⟨p, es.map V.ref, e1⟩
theorem RwL.kp (h : RwL G pen al rl rs) (k : Keep p G G') (n1 : rl ≠ p) (n2 : p = pen \/ p = al \/ RefL G p) : RwL G' pen al rl rs := by
 obtain ⟨ras, e1, e2, e3, e4⟩ := h
 refine ⟨ras, k _ _ n1 e1, e2, e3, fun j r g => ?_⟩
 obtain ⟨ra, g1, g2, g3⟩ := e4 j r g
 refine ⟨ra, g1, g2, k _ _ ?_ g3⟩
 rcases n2 with rfl | rfl | n2
 ·exact g2
 ·exact fun z => e3 (z ▸ List.mem_of_getElem? g1)
 ·exact n2.ints g3
theorem RwL.same (h : RwL G pen al rl rs) (s : Same G G') : RwL G' pen al rl rs := by
 obtain ⟨ras, e1, e2, e3, e4⟩ := h
 refine ⟨ras, s _ _ e1, e2, e3, fun j r g => ?_⟩
 obtain ⟨ra, g1, g2, g3⟩ := e4 j r g
 exact ⟨ra, g1, g2, s _ _ g3⟩
theorem RwL.snoc {rs : LL} {r : List Int} {ras : List Addr} (h : RwL G pen al rl rs) (e : G rl = some (.lst (ras.map V.ref))) (hr : G ra = some (.lst (r.map V.int))) (hn : 0 < rs.length) (n1 : ra ≠ pen) (n2 : ra ≠ al) (k : Keep rl G G') (h' : G' rl = some (.lst (ras.map V.ref ++ [.ref ra]))) : RwL G' pen al rl (rs ++ [r]) := by
 have R := h.ref hn
 obtain ⟨ras', e1, e2, e4, e3⟩ := h
 have he : ras' = ras := by
  rw [e] at e1
  have := HO.lst.inj (Option.some.inj e1)
  exact (List.map_inj_right (fun a b h => by injection h)).mp this.symm
 subst he
 refine ⟨ras' ++ [ra], by rw [List.map_append]; exact h', by rw [List.length_append, List.length_append, e2]; rfl, fun z => ?_, fun j r1 g => ?_⟩
 ·rcases List.mem_append.mp z with z | z
  ·exact e4 z
  ·exact n2 (List.mem_singleton.mp z).symm
 ·by_cases hj : j < rs.length
  ·rw [List.getElem?_append_left hj] at g
   obtain ⟨ra1, g1, g2, g3⟩ := e3 j r1 g
   exact ⟨ra1, by rw [List.getElem?_append_left (by omega)]; exact g1, g2, k _ _ (R.ints g3) g3⟩
  ·have hj' : j = rs.length := by
    have := (List.getElem?_eq_some_iff.mp g).1
    rw [List.length_append] at this
    have t2 : j < rs.length + 1 := this
    omega
   subst hj'
   rw [List.getElem?_append_right (Nat.le_refl _), Nat.sub_self] at g
   obtain rfl : r = r1 := Option.some.inj g
   exact ⟨ra, by rw [List.getElem?_append_right (by omega), show rs.length - ras'.length = 0 by omega]; rfl, n1, k _ _ (R.ints hr) hr⟩
def AsAt (G : Hp) (al : Addr) (low : Int) (L : Nat) (rs : LL) (n : Nat) : Prop := ∃ qs : List Addr, G al = some (.lst (qs.map V.ref)) /\ qs.length = n /\ ∀ q ∈ qs, ∃ y t, G q = some (.tup [.str y, .str t]) /\ AskOk low L rs y t
theorem AsAt.kp {low : Int} {L n : Nat} (h : AsAt G al low L rs n) (k : Keep p G G') (n1 : al ≠ p) (e : G p = some (.lst xs)) : AsAt G' al low L rs n := by
 obtain ⟨qs, e1, e2, e3⟩ := h
 refine ⟨qs, k _ _ n1 e1, e2, fun q hq => ?_⟩
 obtain ⟨y, t, h1, h2⟩ := e3 q hq
 exact ⟨y, t, k _ _ (ne_of h1 e (by intro z; cases z)) h1, h2⟩
theorem AsAt.same {low : Int} {L n : Nat} (h : AsAt G al low L rs n) (s : Same G G') : AsAt G' al low L rs n := by
 obtain ⟨qs, e1, e2, e3⟩ := h
 refine ⟨qs, s _ _ e1, e2, fun q hq => ?_⟩
 obtain ⟨y, t, h1, h2⟩ := e3 q hq
 exact ⟨y, t, s _ _ h1, h2⟩
theorem AsAt.grow {low : Int} {L n : Nat} (h : AsAt G al low L rs n) (r : List Int) : AsAt G al low L (rs ++ [r]) n := by
 obtain ⟨qs, e1, e2, e3⟩ := h
 refine ⟨qs, e1, e2, fun q hq => ?_⟩
 obtain ⟨y, t, h1, h2⟩ := e3 q hq
 exact ⟨y, t, h1, h2.grow r⟩
structure Tb (C M : Addr) (G : Hp) (pen d x ka b rl al : Addr) (low : Int) (L i n : Nat) (rs cs : LL) : Prop where
 d1 : Dsk C M G d x ka b low L rs cs
 ro : RwL G pen al rl rs
 aq : AsAt G al low L rs n
 n : rs.length = 1 + i
 le : ∀ r ∈ rs, r.length <= 41 + i
 rk : rl ≠ ka
 ak : al ≠ ka
 ar : al ≠ rl
 ap : al ≠ pen
 p : PenN G pen
theorem Tb.same {low : Int} {L i n : Nat} (T : Tb C M G pen d x ka b rl al low L i n rs cs) (s : Same G G') : Tb C M G' pen d x ka b rl al low L i n rs cs :=
 ⟨T.d1.same s, T.ro.same s, T.aq.same s, T.n, T.le, T.rk, T.ak, T.ar, T.ap, T.p.same s⟩
theorem Tb.pen {C M : Addr} {G G' : Hp} {pen d x ka b rl al : Addr} {low : Int} {L i n : Nat} {rs cs : LL} (T : Tb C M G pen d x ka b rl al low L i n rs cs) (k : Keep pen G G') (P : PenN G' pen) : Tb C M G' pen d x ka b rl al low L i n rs cs := by
 obtain ⟨xs, h⟩ := T.p.at
 have hn := T.n
 have hp : 0 < rs.length := by omega
 exact ⟨T.d1.keep k h ((T.d1.m.first hp).pen T.p), T.ro.kp k ((T.ro.ref hp).pen T.p) (.inl rfl), T.aq.kp k T.ap h, T.n, T.le, T.rk, T.ak, T.ar, T.ap, P⟩
theorem Dsk.bd {low : Int} {L j : Nat} {r : List Int} (D : Dsk C M H d x ka b low L rs cs) (g : rs[j]? = some r) : BdN r /\ r.length <= 200 := by
 obtain ⟨hw, hl⟩ := D.m.sz g
 have hp := p40 D.m.hL
 have := D.lo
 have := D.hi
 exact ⟨fun n hn => by have := hw n hn; omega, hl⟩
abbrev k_law : Nat := 60
abbrev sp_law (K : Fg) : Sp := spLaw K
theorem ok_law (z : Bz K mg cA cB cC cD cE cF cG cH) : ∀ (f : Addr) (fd : FuncData), Fun K "law" "law" s_law f fd -> FnOk P w K mg base CX0 k_law f fd ["_law_script"] (sp_law K) := by
 have sc := sc_law
 intro f fd F
 refine F.k sc fun _ _ _ s H _ Q _ hr h => ?_
 obtain ⟨a, scs, rfl, hS, h63, hO, q⟩ := h
 refine ⟨_, (q12 (pst 1 sc.nd (pe_fn (q461 z) hr.m (by rfl) (q10 (pe_fn (q409 z) hr.m (by rfl) (q10 (pv 0) (q10 q13 q11))) q11)))
 (q12 (pst 2 sc.nd (pe_fn (q266 z) hr.m (by rfl) (q10 (pv 1) q11)))
 (q12 (pst 3 sc.nd (pe_mk (q700 z) hr.m (by rfl) z.m_Desk (q10 (pv 2) q11)))
 (q12 (pst 4 sc.nd (q35 (q10 (q35 q11) q11)))
 (q12 (pst 5 sc.nd (q35 q11))
 (q12 (q81 PassesOwn.never rfl (q86 rfl z.range_ (q10 (pe_op q31 q13 (pe_fn (q24 z) hr.m (by rfl) (q10 (pv 1) (q10 q13 q11)))) q11)) (pgn 6 sc.nd)
 (q12 (q272 (pe_fn (q433 z) hr.m (by rfl) (q10 (pv 1) (q10 (pv 2) (q10 (pv 4) q11)))) (q206 rfl (q52 (pgn 7 sc.nd) (q52 (pgn 8 sc.nd) q115))))
 (q12 (ps_if (q18 op_ne (q39 (q205 z) hr.m (pv 3) (q10 (pv 7) q11)) (q32 q37 (by rfl) z.str_ q88 (q10 (pln z.len_ (q10 (pv 4) q11)) q11)) (q21 _))
 (q15 (q19 pe_bl))
 q20)
 (q12 (q73 (pe_bm PySem.F.plainAttrs_list PySem.F.slot_list_append PySem.F.type_list_append q55 (pv 4) (q10 (pv 8) q11)))
 (q12 (q272 (pe_fn (q195 z) hr.m (by rfl) (q10 (pv 1) (q10 (pv 2) (q10 (pv 4) q11)))) (q206 rfl (q52 (pgn 9 sc.nd) (q52 (pgn 10 sc.nd) q115))))
 (q12 (ps_if (q18 op_ne (q39 (q205 z) hr.m (pv 3) (q10 (pv 9) q11)) (pv 10) (q21 _))
 (q15 (q19 pe_bl))
 q20)
 (q15 (q73 (pe_bm PySem.F.plainAttrs_list PySem.F.slot_list_append PySem.F.type_list_append q55 (pv 5) (q10 (q27 (q10 (pv 9) (q10 (pv 10) q11))) q11))))))))))
 (q12 (q81 PassesOwn.never rfl (q46 (pv 5)) (q206 rfl (q52 (pgn 9 sc.nd) (q52 (pgn 10 sc.nd) q115)))
 (q15 (ps_if (q18 op_ne (q39 (q205 z) hr.m (pv 3) (q10 (pv 9) q11)) (pv 10) (q21 _))
 (q15 (q19 pe_bl))
 q20)))
 (q15 (q19 (q308 (op_eqAlk hr.units) (q64 (cl := [("_law_desk", s.heap.objs.size + 1 + 0)]) (cn := ["_law_desk"]) (N := ["_law_desk"]) (fr := [3]) (sc0 := q17 s_law) rfl (q86 rfl z.range_ (q10 (pln z.len_ (q10 (pv 4) q11)) q11)) (fun C s₂ H₂ fp => (q39 (q205 z) hr.m (pv 1) (q10 (pe_op q84 q22 (q32 q37 (by rfl) z.str_ q88 (q10 (pv 0) q11))) q11))) (by with_unfolding_all rfl) ⟨by with_unfolding_all rfl, trivial⟩ rfl rfl rfl cok rfl) (q64 (cl := []) (cn := []) (N := []) (fr := []) (sc0 := q17 s_law) rfl (q46 (pv 4)) (fun C s₂ H₂ fp => (pe_fn (q28 z) hr.m (by rfl) (q10 (pv 0) q11))) (by with_unfolding_all rfl) trivial rfl rfl rfl cok rfl) (q21 _))))))))))), ?_⟩
 refine hid fun U eU => ?_
 refine ⟨_, rfl, a, scs, 0, rfl, hS, h63, by decide, by decide, fun c0 => ⟨c0, rfl, fun pen hpen => ?_⟩⟩
 have P1 : PenN (upd H pen (.lst [.int c0, .int 0])) pen := ⟨_, _, q14⟩
 generalize upd H pen (.lst [.int c0, .int 0]) = H1 at *
 apply hdn eU; intro U eU
 refine ⟨_, rfl, pen, rfl, P1, fun b low L H2 k2 P2 hb hL lo0 lo1 => ?_⟩
 apply hdn eU; intro U eU
 refine ⟨_, rfl, fun d di hd hdi hne => ?_⟩
 have s1 : Same H2 (upd (upd H2 di (.own d)) d (.ins cH di [])) := (q16 hdi _).trans (q16 (by rw [q34 (Ne.symm hne)]; exact hd) _)
 refine ⟨d, b, di, low, L, rfl, q14, s1 _ _ hb, hL, by omega, by omega, fun x ka H3 hka kx D3 => ⟨rfl, ?_⟩⟩
 have s3 : Same H2 H3 := fun c o hc => kx _ _ (q26 hc hd) (s1 _ _ hc)
 have PC := P2.same s3
 apply hdn eU; intro U eU
 refine ⟨szb rfl, fun ia hia => ?_⟩
 have s6 := q16 hia (.lst [])
 have e6 := @q14 H3 ia (.lst [])
 have hiap := PC.fresh hia
 generalize upd H3 ia (.lst []) = H6 at *
 refine ⟨szb rfl, fun rl hrl => ?_⟩
 have s7 := q16 hrl (.lst [.ref ia])
 have e7 := @q14 H6 rl (.lst [.ref ia])
 have hrk : rl ≠ ka := by
  obtain ⟨es, h1, _⟩ := D3.m.hk
  exact Ne.symm (q26 (s6 _ _ h1) hrl)
 have e6' := s7 _ _ e6
 generalize upd H6 rl (.lst [.ref ia]) = H7 at *
 have s37 := s6.trans s7
 have D7 := D3.same s37
 have P7 := PC.same s37
 apply hdn eU; intro U eU
 refine ⟨szb rfl, fun al hal => ?_⟩
 have s8 := q16 hal (.lst [])
 have T8 : Tb cH cG (upd H7 al (.lst [])) pen d x ka b rl al low L 0 0 [[]] [[]] := by
  refine ⟨D7.same s8, ⟨[ia], s8 _ _ e7, rfl, ?_, fun j r g => ?_⟩, ⟨[], q14, rfl, fun q hq => by cases hq⟩, rfl, fun r h => by rw [List.mem_singleton.mp h]; exact Nat.zero_le _, hrk, ?_, ?_, P7.fresh hal, P7.same s8⟩
  ·exact fun z => q26 e6' hal (List.mem_singleton.mp z).symm
  ·cases j with
   | zero => exact ⟨ia, rfl, hiap, by cases g; exact s8 _ _ e6'⟩
   | succ j => cases g
  ·obtain ⟨es, h1, _⟩ := D7.m.hk
   exact Ne.symm (q26 h1 hal)
  ·exact Ne.symm (q26 e7 hal)
 generalize upd H7 al (.lst []) = H8 at *
 clear s1 s3 s6 s7 s8 s37 P1 P2 PC P7 D3 D7 hb hka hd hdi hne hia hrl e6 e6' e7 hpen hS hO hal kx k2 hiap hrk
 apply hdn eU; intro U eU
 refine ⟨_, rfl, pen, 13, rfl, T8.p, by decide, by decide, fun n G8 k8 P8 h0 h1 => ⟨_, _, rfl, rfl, _, rfl, by omega, by omega, q87 (n := (2 + n).toNat) (fun i σ G => ∃ (rs cs : LL) (v6 v7 v8 v9 v10 : Option V), σ = [some (.ref a), some (.ref pen), some (.ref b), some (.ref d), some (.ref rl), some (.ref al), v6, v7, v8, v9, v10] /\ Tb cH cG G pen d x ka b rl al low L i i rs cs)
  ⟨[[]], [[]], _, _, _, _, _, rfl, T8.pen k8 P8⟩ ?_ ?_⟩⟩
 ·rintro i σ G hi ⟨rs, cs, v6, v7, v8, v9, v10, rfl, T⟩
  have hi13 : i < 15 := by omega
  have hrn := T.n
  have hpos : 0 < rs.length := by omega
  refine hid fun U eU => ?_
  refine ⟨_, rfl, _, rfl, _, rfl, pen, b, rl, low, L, rs, 41 + i, rfl, T.p, T.ro.rws, T.d1.m.hb, hL, hpos, by omega, fun r hr => ⟨(T.d1.m.ok r hr).1, T.le r hr⟩, by omega, by omega, lo0, lo1, fun p ra nm ns r c G1 ep era hra0 hrl dl ww k1 P1 => ?_⟩
  have T1 := T.pen k1 P1
  have hrap : ra ≠ pen := T.p.fresh hra0
  have hraa : ra ≠ al := by
   obtain ⟨qs, e, _⟩ := T.aq
   exact Ne.symm (q26 e hra0)
  refine ⟨p, _, rfl, SqT.of ep, rfl, _, _, rfl, _, _, rfl, rfl, ?_⟩
  obtain ⟨di, hd⟩ := T1.d1.o
  apply hdn eU; intro U eU
  refine ⟨_, rfl, d, di, _, rfl, hd, rfl, _, rfl, d, x, ka, b, low, L, rs, cs, _, rfl, T1.d1, .inr ⟨nm, ns, r, c, rfl, by omega, dl, fun G2 k2 D2 => ?_⟩⟩
  have RK : RefL G1 ka := T1.d1.m.first hpos
  obtain ⟨kp, kes, hke⟩ := id RK
  have R2 := T1.ro.kp k2 T.rk (.inr (.inr RK))
  have A2 := T1.aq.kp k2 T.ak hke
  have P2 := T1.p.keep k2 (RK.pen T1.p)
  have era2 := k2 _ _ (RK.ints era) era
  obtain ⟨ras, el, hras, _⟩ := id R2
  have hlen : (ras.map V.ref).length = rs.length := by rw [List.length_map]; exact hras
  have hal : (rs ++ [r]).length = rs.length + 1 := by rw [List.length_append]; rfl
  refine ⟨_, rfl, rl, _, rfl, .inl (SqL.of el), _, rfl, lg60 (by omega) (by omega), rfl, _, rfl, iteNS (by rw [hlen]; rfl) ?_⟩
  apply hdn eU; intro U eU
  refine ⟨_, rfl, .inl ⟨rfl, _, SqL.of el⟩, _, rfl, rl, _, _, rfl, rfl, el, by rw [hlen]; exact q66 (by omega), ?_⟩
  have k3 : Keep rl G2 (upd G2 rl (.lst (ras.map V.ref ++ [.ref ra]))) := Keep.set rl G2 _
  have R3 : RwL (upd G2 rl (.lst (ras.map V.ref ++ [.ref ra]))) pen al rl (rs ++ [r]) := R2.snoc el era2 hpos hrap hraa k3 q14
  generalize upd G2 rl (.lst (ras.map V.ref ++ [.ref ra])) = G3 at *
  have T3 : Tb cH cG G3 pen d x ka b rl al low L (i + 1) i (rs ++ [r]) (cs ++ [c]) := by
   refine ⟨D2.keep k3 el (Ne.symm T.rk), R3, (A2.kp k3 T.ar el).grow r, by omega, fun r1 h1 => ?_, T.rk, T.ak, T.ar, T.ap, P2.keep k3 ((R2.ref hpos).pen P2)⟩
   rcases List.mem_append.mp h1 with h | h
   ·have := T.le _ h; omega
   ·rw [List.mem_singleton.mp h]; omega
  clear T1 RK R2 A2 P2 D2 era2 R3 el hke hd ep era k1 k2 k3 dl ww hras hlen P1
  apply hdn eU; intro U eU
  refine ⟨_, rfl, _, rfl, _, rfl, pen, b, rl, low, L, rs ++ [r], rfl, T3.p, T3.ro.rws, T3.d1.m.hb, hL, by omega, by omega, fun r1 h1 => ⟨(T3.d1.m.ok r1 h1).1, by have := T3.le r1 h1; omega⟩, lo0, lo1, fun p2 y t G4 ep2 hask k4 P4 => ?_⟩
  have T4 := T3.pen k4 P4
  refine ⟨p2, _, rfl, SqT.of ep2, rfl, _, _, rfl, _, _, rfl, rfl, ?_⟩
  obtain ⟨di, hd⟩ := T4.d1.o
  apply hdn eU; intro U eU
  refine ⟨_, rfl, d, di, _, rfl, hd, rfl, _, rfl, d, x, ka, b, low, L, _, _, _, rfl, T4.d1, .inl ⟨t, hask, fun G5 s5 => ?_⟩⟩
  have T5 := T4.same s5
  refine ⟨_, rfl, rfl, _, rfl, iteNS rfl ?_⟩
  obtain ⟨qs, eq, hql, hqA⟩ := T5.aq
  apply hde eU
  refine ⟨_, rfl, .inl ⟨rfl, _, SqL.of eq⟩, _, rfl, _, rfl, szb rfl, fun tq htq => ?_⟩
  obtain ⟨G6, gz, s6, e6⟩ := nwH htq (.tup [.str y, .str t])
  rw [gz]
  have T6 := T5.same s6
  have eq6 := s6 _ _ eq
  have hqm : (qs.map V.ref).length = i := by rw [List.length_map]; exact hql
  refine ⟨al, _, _, rfl, rfl, eq6, by rw [hqm]; exact q66 (by omega), ?_⟩
  have k7 : Keep al G6 (upd G6 al (.lst (qs.map V.ref ++ [.ref tq]))) := Keep.set al G6 _
  have hne7 : tq ≠ al := ne_of e6 eq6 (by intro z; cases z)
  refine ⟨_, _, _, _, _, _, _, rfl, T6.d1.keep k7 eq6 (Ne.symm T.ak), T6.ro.kp k7 (Ne.symm T.ar) (.inr (.inl rfl)), ⟨qs ++ [tq], by rw [q14, List.map_append]; rfl, by rw [List.length_append, hql]; rfl, fun u hu => ?_⟩, T6.n, T6.le, T.rk, T.ak, T.ar, T.ap, T6.p.keep k7 T.ap⟩
  rcases List.mem_append.mp hu with h | h
  ·obtain ⟨y1, t1, h1, h2⟩ := hqA u h
   exact ⟨y1, t1, k7 _ _ (ne_of (s6 _ _ h1) eq6 (by intro z; cases z)) (s6 _ _ h1), h2⟩
  ·rw [List.mem_singleton.mp h]
   exact ⟨y, t, k7 _ _ hne7 e6, hask⟩
 ·rintro σ G ⟨rs, cs, v6, v7, v8, v9, v10, rfl, T⟩
  have hrn := T.n
  have hpos : 0 < rs.length := by omega
  obtain ⟨qs, eq, hql, hqA⟩ := T.aq
  apply hdn eU; intro U eU
  refine ⟨_, rfl, al, rfl, ⟨_, SqL.of eq⟩, q306 (K := K) (a := al) (xs := qs.map V.ref) (fun j σ G' => ∃ w9 w10 : Option V, σ = [some (.ref a), some (.ref pen), some (.ref b), some (.ref d), some (.ref rl), some (.ref al), v6, v7, v8, w9, w10] /\ Same G G') ⟨_, _, rfl, Same.refl _⟩ (fun j σ G' _ ⟨_, _, _, s'⟩ => SqL.of (s' _ _ eq)) ?_ ?_⟩
  ·rintro j v σ G' gv ⟨w9, w10, rfl, s'⟩
   obtain ⟨u, hu, rfl⟩ := List.mem_map.mp (List.mem_of_getElem? gv)
   obtain ⟨y, t, h1, hask⟩ := hqA u hu
   have D' := T.d1.same s'
   obtain ⟨di, hd⟩ := D'.o
   refine ⟨u, _, rfl, SqT.of (s' _ _ h1), rfl, _, _, rfl, _, _, rfl, rfl, ?_⟩
   refine ⟨_, rfl, d, di, _, rfl, hd, rfl, _, rfl, d, x, ka, b, low, L, _, _, _, rfl, D', .inl ⟨t, hask, fun G5 s5 => ?_⟩⟩
   exact ⟨_, rfl, rfl, _, rfl, iteNS rfl ⟨_, _, rfl, s'.trans s5⟩⟩
  ·rintro σ G' ⟨w9, w10, rfl, s'⟩
   have D' := T.d1.same s'
   obtain ⟨ras, el, hras, _, hrE⟩ := T.ro.same s'
   have hlen : (ras.map V.ref).length = rs.length := by rw [List.length_map]; exact hras
   have few := T.d1.m.few
   obtain ⟨ts, hts⟩ : ∃ ts, ts = rs.map fun r => V.str (rowT r) := ⟨_, rfl⟩
   have tget : ∀ {j : Nat} {r : List Int}, rs[j]? = some r -> ts[j]? = some (.str (rowT r)) := fun g => by rw [hts, List.getElem?_map, g]; rfl
   have tlen : ts.length = rs.length := by rw [hts, List.length_map]
   apply hde eU
   refine ⟨_, rfl, rl, _, rfl, .inl (SqL.of el), ?_⟩
   rw [hlen]
   refine ⟨_, rfl, by omega, by omega, fun D hD => q547 (n := (rs.length : Int).toNat) (sl51 (by omega)) (fun i ys H2 => ys = ts.take i /\ i <= rs.length /\ Same G' H2 /\ H2 D = some (.lst ys)) ⟨rfl, Nat.zero_le _, q16 hD _, q14⟩ (fun i ys H2 ⟨e, hi, _, h4⟩ => ⟨h4, by rw [e, List.length_take]; omega⟩) ?_ ?_⟩
   ·rintro i ys H2 hi ⟨e, hi2, s2, h4⟩
    have hi' : i < rs.length := by omega
    have g : rs[i]? = some rs[i] := List.getElem?_eq_getElem hi'
    generalize rs[i] = r at g
    have lsh : ("show " : Str).length <= 5 := by decide +kernel
    have lj : (tx (0 + (i : Int))).length <= 51 := by rw [Int.zero_add]; exact q95 (by omega)
    have D2 := D'.same s2
    obtain ⟨di, hd⟩ := D2.o
    refine ⟨_, rfl, d, di, _, rfl, hd, rfl, _, rfl, _, rfl, lg60 (by omega) (by omega), _, _, rfl, rfl, sl51 (by show ("show " : Str).length + (tx (0 + (i : Int))).length <= _; omega), ?_⟩
    refine ⟨d, x, ka, b, low, L, rs, cs, _, rfl, D2, .inl ⟨rowT r, .inl ⟨i, r, by rw [Int.zero_add]; exact q534 (by decide +kernel) (.n (i : Int)), g, rfl⟩, fun H3 s3 => ⟨s3 _ _ h4, ?_, hi', own2 (s2.trans s3) hD, q14⟩⟩⟩
    rw [e, List.take_add_one, tget g]
    rfl
   ·rintro ys H2 ⟨e, hi, s2, h4⟩
    rw [List.take_of_length_le (by omega)] at e
    rw [e] at h4
    have el2 := s2 _ _ el
    refine ⟨_, rfl, rl, rfl, ⟨_, SqL.of el2⟩, fun D2 hD2 => q61 (K := K) (xs := ras.map V.ref) (by rw [hlen]; exact sl51 (by omega)) (fun i zs H3 => zs = ts.take i /\ i <= rs.length /\ Same H2 H3 /\ H3 D2 = some (.lst zs)) ⟨rfl, Nat.zero_le _, q16 hD2 _, q14⟩ (fun i zs H3 ⟨_, _, k3, _⟩ => SqL.of (k3 _ _ el2)) (fun i zs H3 ⟨e, hi, _, h5⟩ => ⟨h5, by rw [e, List.length_take]; omega⟩) ?_ ?_⟩
    ·rintro i v zs H3 hv ⟨e, hi, k3, h5⟩
     have hi' : i < rs.length := by rw [<- hlen]; exact (List.getElem?_eq_some_iff.mp hv).1
     have g : rs[i]? = some rs[i] := List.getElem?_eq_getElem hi'
     generalize rs[i] = r at g
     obtain ⟨ra, gra, _, hra⟩ := hrE i r g
     obtain rfl : v = .ref ra := by
      rw [List.getElem?_map, gra] at hv
      exact (Option.some.inj hv).symm
     obtain ⟨hb, hl⟩ := D'.bd g
     refine ⟨_, rfl, ra, _, rfl, .inl (SqL.of (k3 _ _ (s2 _ _ hra))), by rw [List.length_map]; omega, wok_n hb, fun H4 s4 => ?_⟩
     rw [q702, q703]
     refine ⟨s4 _ _ h5, ?_, hi', own2 (k3.trans s4) hD2, q14⟩
     rw [e, List.take_add_one, tget g]
     rfl
    ·rintro zs H3 ⟨e, hi, k3, h5⟩
     rw [hlen, List.take_of_length_le (by omega)] at e
     rw [e] at h5
     refine ⟨1, D, D2, rfl, rfl, .lst (SqL.of (k3 _ _ h4)) (SqL.of h5) rfl (fun j u v h1 h2 => ?_), by decide, q _⟩
     rw [h1] at h2
     obtain rfl := Option.some.inj h2
     have hm := List.mem_of_getElem? h1
     rw [hts] at hm
     obtain ⟨r, _, rfl⟩ := List.mem_map.mp hm
     exact .flat rfl
end My
open PySem PySem.W PyProof.Rows
set_option maxRecDepth 100000 in
set_option maxHeartbeats 0 in
theorem PySem.Challenge.cw_manyleast_k68_whole_a_desk_told_by_funct_holds : PySem.Challenge.rw_manyleast_k68_whole_a_desk_told_by_funct.Holds := by
 refine MyQ.hd ?_
 k_fill
 refine L2.walkL (k := My.k_law) (l := PySem.Challenge.rw_manyleast_k68_whole_a_desk_told_by_funct) ⟨rfl, by decide, by decide⟩ rfl rfl (fun w h Y => PySem.W.km_in_of Y) ?F
 case F =>
  intro w mg fa h KX G hmg
  have d_law : L2.Def (L2.KOf KX) mg "law" My.s_law ["_law_script"] := by
   dsimp only [L2.KOf]
   refine' L2.q717 KX G ?a ?l ?c ?k ?b
   (case a => k_is); (case l => k_is); (case c => k_is); (case k => k_is)
   (case b => exact fun _ _ _ _ _ _ us hl => match us, hl with | [_], _ => rfl)
  obtain ⟨cA, cB, cC, cD, cE, cF, cG, cH, z⟩ : ∃ cA cB cC cD cE cF cG cH : Addr, My.Bz (L2.KOf KX) mg cA cB cC cD cE cF cG cH := by
   dsimp only [L2.KOf]
   refine' ⟨_, _, _, _, _, _, _, _, ⟨PySem.W.mg_none_of KX G ?z0, PySem.W.mg_none_of KX G ?z1, PySem.W.mg_none_of KX G ?z2, PySem.W.mg_none_of KX G ?z3, PySem.W.mg_none_of KX G ?z4, PySem.W.mg_none_of KX G ?z5, PySem.W.mg_none_of KX G ?z6, PySem.W.mg_none_of KX G ?z7, PySem.W.mg_none_of KX G ?z8, PySem.W.mg_none_of KX G ?z9, PySem.W.mg_none_of KX G ?z10, PySem.W.mg_none_of KX G ?z11, PySem.W.mg_none_of KX G ?z12, PySem.W.mg_none_of KX G ?z13, PySem.W.mg_of KX G ?m0, PySem.W.mg_of KX G ?m1, PySem.W.mg_of KX G ?m2, PySem.W.mg_of KX G ?m3, PySem.W.mg_of KX G ?m4, PySem.W.mg_of KX G ?m5, PySem.W.mg_of KX G ?m6, PySem.W.mg_of KX G ?m7, ?y0_0, ?y1_0, ?y2_0, ?y3_0, ⟨"0123456789", 874, PySem.W.mg_of KX G ?fgs, rfl⟩, ⟨842, PySem.W.mg_of KX G ?fra, ?frb⟩, ⟨?o0_0, ?o0_1, ?o0_2, ?o0_3⟩, ⟨?o1_0, ?o1_1, ?o1_2, ?o1_3⟩, ⟨_, _, ⟨?my0_0, ?my0_1, ?my0_2, ?my0_3⟩, L2.q710 ?ml0 ?mc0 ?mk0, ?mb0⟩, ⟨_, _, ⟨?my1_0, ?my1_1, ?my1_2⟩, L2.q710 ?ml1 ?mc1 ?mk1, ?mb1⟩, ⟨_, _, ⟨?my2_0, ?my2_1, ?my2_2⟩, L2.q710 ?ml2 ?mc2 ?mk2, ?mb2⟩, ⟨_, _, ⟨?my3_0, ?my3_1, ?my3_2⟩, L2.q710 ?ml3 ?mc3 ?mk3, ?mb3⟩, ⟨_, _, ⟨?my4_0, ?my4_1, ?my4_2⟩, L2.q710 ?ml4 ?mc4 ?mk4, ?mb4⟩, ⟨_, _, ⟨?my5_0, ?my5_1, ?my5_2⟩, L2.q710 ?ml5 ?mc5 ?mk5, ?mb5⟩, ⟨_, _, ⟨?my6_0, ?my6_1, ?my6_2⟩, L2.q710 ?ml6 ?mc6 ?mk6, ?mb6⟩, ⟨_, _, ⟨?my7_0, ?my7_1, ?my7_2⟩, L2.q710 ?ml7 ?mc7 ?mk7, ?mb7⟩, ⟨_, _, ⟨?my8_0, ?my8_1, ?my8_2⟩, L2.q710 ?ml8 ?mc8 ?mk8, ?mb8⟩, ⟨_, _, ⟨?my9_0, ?my9_1, ?my9_2⟩, L2.q710 ?ml9 ?mc9 ?mk9, ?mb9⟩, ⟨_, _, ⟨?my10_0, ?my10_1, ?my10_2⟩, L2.q710 ?ml10 ?mc10 ?mk10, ?mb10⟩, ⟨_, _, ⟨?my11_0, ?my11_1, ?my11_2⟩, L2.q710 ?ml11 ?mc11 ?mk11, ?mb11⟩, ⟨_, _, ⟨?my12_0, ?my12_1, ?my12_2⟩, L2.q710 ?ml12 ?mc12 ?mk12, ?mb12⟩, ⟨_, _, ⟨?my13_0, ?my13_1, ?my13_2⟩, L2.q710 ?ml13 ?mc13 ?mk13, ?mb13⟩, ⟨_, _, ⟨?my14_0, ?my14_1, ?my14_2, ?my14_3⟩, L2.q710 ?ml14 ?mc14 ?mk14, ?mb14⟩, ⟨_, _, ⟨?my15_0, ?my15_1, ?my15_2⟩, L2.q710 ?ml15 ?mc15 ?mk15, ?mb15⟩, ⟨_, _, ⟨?my16_0, ?my16_1, ?my16_2⟩, L2.q710 ?ml16 ?mc16 ?mk16, ?mb16⟩, ⟨_, _, ⟨?my17_0, ?my17_1, ?my17_2⟩, L2.q710 ?ml17 ?mc17 ?mk17, ?mb17⟩, L2.q717 KX G ?a0 ?l0 ?c0 ?k0 (fun _ _ _ _ _ _ => L2.mt1 fun _ => rfl), L2.q717 KX G ?a1 ?l1 ?c1 ?k1 (fun _ _ _ _ _ _ => L2.mt1 fun _ => rfl), L2.q717 KX G ?a2 ?l2 ?c2 ?k2 (fun _ _ _ _ _ _ => L2.mt2 fun _ _ => rfl), L2.q717 KX G ?a3 ?l3 ?c3 ?k3 (fun _ _ _ _ _ _ => L2.mt2 fun _ _ => rfl), L2.q717 KX G ?a4 ?l4 ?c4 ?k4 (fun _ _ _ _ _ _ => L2.mt2 fun _ _ => rfl), L2.q717 KX G ?a5 ?l5 ?c5 ?k5 (fun _ _ _ _ _ _ => L2.mt3 fun _ _ _ => rfl), L2.q717 KX G ?a6 ?l6 ?c6 ?k6 (fun _ _ _ _ _ _ => L2.mt3 fun _ _ _ => rfl), L2.q717 KX G ?a7 ?l7 ?c7 ?k7 (fun _ _ _ _ _ _ => L2.mt3 fun _ _ _ => rfl), L2.q717 KX G ?a8 ?l8 ?c8 ?k8 (fun _ _ _ _ _ _ => L2.mt2 fun _ _ => rfl), L2.q717 KX G ?a9 ?l9 ?c9 ?k9 (fun _ _ _ _ _ _ => L2.mt3 fun _ _ _ => rfl), L2.q717 KX G ?a10 ?l10 ?c10 ?k10 (fun _ _ _ _ _ _ => L2.mt2 fun _ _ => rfl), L2.q717 KX G ?a11 ?l11 ?c11 ?k11 (fun _ _ _ _ _ _ => L2.mt1 fun _ => rfl), L2.q717 KX G ?a12 ?l12 ?c12 ?k12 (fun _ _ _ _ _ _ => L2.mt2 fun _ _ => rfl), L2.q717 KX G ?a13 ?l13 ?c13 ?k13 (fun _ _ _ _ _ _ => L2.mt3 fun _ _ _ => rfl), L2.q717 KX G ?a14 ?l14 ?c14 ?k14 (fun _ _ _ _ _ _ => L2.mt3 fun _ _ _ => rfl), L2.q717 KX G ?a15 ?l15 ?c15 ?k15 (fun _ _ _ _ _ _ => L2.mt3 fun _ _ _ => rfl), L2.q717 KX G ?a16 ?l16 ?c16 ?k16 (fun _ _ _ _ _ _ => L2.mt1 fun _ => rfl), L2.q717 KX G ?a17 ?l17 ?c17 ?k17 (fun _ _ _ _ _ _ => L2.mt1 fun _ => rfl), L2.q717 KX G ?a18 ?l18 ?c18 ?k18 (fun _ _ _ _ _ _ => L2.mt2 fun _ _ => rfl), L2.q717 KX G ?a19 ?l19 ?c19 ?k19 (fun _ _ _ _ _ _ => L2.mt2 fun _ _ => rfl), L2.q717 KX G ?a20 ?l20 ?c20 ?k20 (fun _ _ _ _ _ _ => L2.mt3 fun _ _ _ => rfl), L2.q717 KX G ?a21 ?l21 ?c21 ?k21 (fun _ _ _ _ _ _ => L2.mt3 fun _ _ _ => rfl), L2.q717 KX G ?a22 ?l22 ?c22 ?k22 (fun _ _ _ _ _ _ => L2.mt3 fun _ _ _ => rfl), L2.q717 KX G ?a23 ?l23 ?c23 ?k23 (fun _ _ _ _ _ _ => L2.mt3 fun _ _ _ => rfl), L2.q717 KX G ?a24 ?l24 ?c24 ?k24 (fun _ _ _ _ _ _ => L2.mt2 fun _ _ => rfl), L2.q717 KX G ?a25 ?l25 ?c25 ?k25 (fun _ _ _ _ _ _ => L2.mt3 fun _ _ _ => rfl), L2.q717 KX G ?a26 ?l26 ?c26 ?k26 (fun _ _ _ _ _ _ => L2.mt4 fun _ _ _ _ => rfl), L2.q717 KX G ?a27 ?l27 ?c27 ?k27 (fun _ _ _ _ _ _ => L2.mt2 fun _ _ => rfl), L2.q717 KX G ?a28 ?l28 ?c28 ?k28 (fun _ _ _ _ _ _ => L2.mt2 fun _ _ => rfl), L2.q717 KX G ?a29 ?l29 ?c29 ?k29 (fun _ _ _ _ _ _ => L2.mt3 fun _ _ _ => rfl), L2.q717 KX G ?a30 ?l30 ?c30 ?k30 (fun _ _ _ _ _ _ => L2.mt5 fun _ _ _ _ _ => rfl), L2.q717 KX G ?a31 ?l31 ?c31 ?k31 (fun _ _ _ _ _ _ => L2.mt3 fun _ _ _ => rfl), L2.q717 KX G ?a32 ?l32 ?c32 ?k32 (fun _ _ _ _ _ _ => L2.mt3 fun _ _ _ => rfl), L2.q717 KX G ?a33 ?l33 ?c33 ?k33 (fun _ _ _ _ _ _ => L2.mt3 fun _ _ _ => rfl), L2.q717 KX G ?a34 ?l34 ?c34 ?k34 (fun _ _ _ _ _ _ => L2.mt1 fun _ => rfl), L2.q717 KX G ?a35 ?l35 ?c35 ?k35 (fun _ _ _ _ _ _ => L2.mt1 fun _ => rfl), L2.q717 KX G ?a36 ?l36 ?c36 ?k36 (fun _ _ _ _ _ _ => L2.mt1 fun _ => rfl), L2.q717 KX G ?a37 ?l37 ?c37 ?k37 (fun _ _ _ _ _ _ => L2.mt1 fun _ => rfl), L2.q717 KX G ?a38 ?l38 ?c38 ?k38 (fun _ _ _ _ _ _ => L2.mt5 fun _ _ _ _ _ => rfl), L2.q717 KX G ?a39 ?l39 ?c39 ?k39 (fun _ _ _ _ _ _ => L2.mt4 fun _ _ _ _ => rfl), L2.q717 KX G ?a40 ?l40 ?c40 ?k40 (fun _ _ _ _ _ _ => L2.mt1 fun _ => rfl), L2.q717 KX G ?a41 ?l41 ?c41 ?k41 (fun _ _ _ _ _ _ => L2.mt1 fun _ => rfl), L2.q716 KX G ?a42 ?l42 ?c42 ?k42 (fun _ _ _ _ _ _ => L2.mt4 fun _ _ _ _ => rfl), L2.q717 KX G ?a43 ?l43 ?c43 ?k43 (fun _ _ _ _ _ _ => L2.mt3 fun _ _ _ => rfl), L2.q717 KX G ?a44 ?l44 ?c44 ?k44 (fun _ _ _ _ _ _ => L2.mt4 fun _ _ _ _ => rfl), L2.q716 KX G ?a45 ?l45 ?c45 ?k45 (fun _ _ _ _ _ _ => L2.mt3 fun _ _ _ => rfl), L2.q717 KX G ?a46 ?l46 ?c46 ?k46 (fun _ _ _ _ _ _ => L2.mt2 fun _ _ => rfl), L2.q716 KX G ?a47 ?l47 ?c47 ?k47 (fun _ _ _ _ _ _ => L2.mt4 fun _ _ _ _ => rfl), L2.q716 KX G ?a48 ?l48 ?c48 ?k48 (fun _ _ _ _ _ _ => L2.mt1 fun _ => rfl), L2.q716 KX G ?a49 ?l49 ?c49 ?k49 (fun _ _ _ _ _ _ => L2.mt2 fun _ _ => rfl), L2.q716 KX G ?a50 ?l50 ?c50 ?k50 (fun _ _ _ _ _ _ => L2.mt1 fun _ => rfl), L2.q716 KX G ?a51 ?l51 ?c51 ?k51 (fun _ _ _ _ _ _ => L2.mt1 fun _ => rfl), L2.q717 KX G ?a52 ?l52 ?c52 ?k52 (fun _ _ _ _ _ _ => L2.mt1 fun _ => rfl), L2.q717 KX G ?a53 ?l53 ?c53 ?k53 (fun _ _ _ _ _ _ => L2.mt1 fun _ => rfl), L2.q717 KX G ?a54 ?l54 ?c54 ?k54 (fun _ _ _ _ _ _ => L2.mt1 fun _ => rfl), L2.q717 KX G ?a55 ?l55 ?c55 ?k55 (fun _ _ _ _ _ _ => L2.mt2 fun _ _ => rfl), L2.q717 KX G ?a56 ?l56 ?c56 ?k56 (fun _ _ _ _ _ _ => L2.mt1 fun _ => rfl), L2.q717 KX G ?a57 ?l57 ?c57 ?k57 (fun _ _ _ _ _ _ => L2.mt1 fun _ => rfl), L2.q717 KX G ?a58 ?l58 ?c58 ?k58 (fun _ _ _ _ _ _ => L2.mt1 fun _ => rfl), L2.q717 KX G ?a59 ?l59 ?c59 ?k59 (fun _ _ _ _ _ _ => L2.mt1 fun _ => rfl), L2.q717 KX G ?a60 ?l60 ?c60 ?k60 (fun _ _ _ _ _ _ => L2.mt1 fun _ => rfl), L2.q717 KX G ?a61 ?l61 ?c61 ?k61 (fun _ _ _ _ _ _ => L2.mt1 fun _ => rfl), L2.q717 KX G ?a62 ?l62 ?c62 ?k62 (fun _ _ _ _ _ _ => L2.mt3 fun _ _ _ => rfl), L2.q717 KX G ?a63 ?l63 ?c63 ?k63 (fun _ _ _ _ _ _ => L2.mt2 fun _ _ => rfl), L2.q717 KX G ?a64 ?l64 ?c64 ?k64 (fun _ _ _ _ _ _ => L2.mt2 fun _ _ => rfl), L2.q717 KX G ?a65 ?l65 ?c65 ?k65 (fun _ _ _ _ _ _ => L2.mt2 fun _ _ => rfl), L2.q717 KX G ?a66 ?l66 ?c66 ?k66 (fun _ _ _ _ _ _ => L2.mt1 fun _ => rfl), L2.q717 KX G ?a67 ?l67 ?c67 ?k67 (fun _ _ _ _ _ _ => L2.mt2 fun _ _ => rfl), L2.q717 KX G ?a68 ?l68 ?c68 ?k68 (fun _ _ _ _ _ _ => L2.mt1 fun _ => rfl), L2.q717 KX G ?a69 ?l69 ?c69 ?k69 (fun _ _ _ _ _ _ => L2.mt3 fun _ _ _ => rfl), L2.q717 KX G ?a70 ?l70 ?c70 ?k70 (fun _ _ _ _ _ _ => L2.mt2 fun _ _ => rfl), L2.q717 KX G ?a71 ?l71 ?c71 ?k71 (fun _ _ _ _ _ _ => L2.mt2 fun _ _ => rfl), L2.q717 KX G ?a72 ?l72 ?c72 ?k72 (fun _ _ _ _ _ _ => L2.mt1 fun _ => rfl), L2.q717 KX G ?a73 ?l73 ?c73 ?k73 (fun _ _ _ _ _ _ => L2.mt3 fun _ _ _ => rfl), L2.q717 KX G ?a74 ?l74 ?c74 ?k74 (fun _ _ _ _ _ _ => L2.mt3 fun _ _ _ => rfl), L2.q717 KX G ?a75 ?l75 ?c75 ?k75 (fun _ _ _ _ _ _ => L2.mt1 fun _ => rfl), L2.q717 KX G ?a76 ?l76 ?c76 ?k76 (fun _ _ _ _ _ _ => L2.mt3 fun _ _ _ => rfl)⟩⟩
   (case z0 => k_is)
   (case z1 => k_is)
   (case z2 => k_is)
   (case z3 => k_is)
   (case z4 => k_is)
   (case z5 => k_is)
   (case z6 => k_is)
   (case z7 => k_is)
   (case z8 => k_is)
   (case z9 => k_is)
   (case z10 => k_is)
   (case z11 => k_is)
   (case z12 => k_is)
   (case z13 => k_is)
   (case m0 => k_is)
   (case m1 => k_is)
   (case m2 => k_is)
   (case m3 => k_is)
   (case m4 => k_is)
   (case m5 => k_is)
   (case m6 => k_is)
   (case m7 => k_is)
   (case y0_0 => first | k_is | kernel_rfl | (unfold L2.q135; first | k_is | kernel_rfl))
   (case y1_0 => first | k_is | kernel_rfl | (unfold L2.q135; first | k_is | kernel_rfl))
   (case y2_0 => first | k_is | kernel_rfl | (unfold L2.q135; first | k_is | kernel_rfl))
   (case y3_0 => first | k_is | kernel_rfl | (unfold L2.q135; first | k_is | kernel_rfl))
   (case fgs => first | k_is | kernel_rfl | (unfold L2.q135; first | k_is | kernel_rfl))
   (case fra => first | k_is | kernel_rfl | (unfold L2.q135; first | k_is | kernel_rfl))
   (case frb => first | k_is | kernel_rfl | (unfold L2.q135; first | k_is | kernel_rfl))
   (case o0_0 => first | k_is | kernel_rfl)
   (case o0_1 => first | k_is | kernel_rfl)
   (case o0_2 => first | k_is | kernel_rfl)
   (case o0_3 => first | k_is | kernel_rfl)
   (case o1_0 => first | k_is | kernel_rfl)
   (case o1_1 => first | k_is | kernel_rfl)
   (case o1_2 => first | k_is | kernel_rfl)
   (case o1_3 => first | k_is | kernel_rfl)
   (case my0_1 => first | k_is | kernel_rfl)
   (case my0_0 => first | k_is | kernel_rfl)
   (case my0_2 => first | k_is | kernel_rfl)
   (case my0_3 => first | k_is | kernel_rfl)
   (case ml0 => k_is); (case mc0 => k_is); (case mk0 => k_is)
   (case mb0 => exact L2.mt2 fun _ _ => rfl)
   (case my1_0 => first | k_is | kernel_rfl)
   (case my1_1 => first | k_is | kernel_rfl)
   (case my1_2 => first | k_is | kernel_rfl)
   (case ml1 => k_is); (case mc1 => k_is); (case mk1 => k_is)
   (case mb1 => exact L2.mt2 fun _ _ => rfl)
   (case my2_0 => first | k_is | kernel_rfl)
   (case my2_1 => first | k_is | kernel_rfl)
   (case my2_2 => first | k_is | kernel_rfl)
   (case ml2 => k_is); (case mc2 => k_is); (case mk2 => k_is)
   (case mb2 => exact L2.mt4 fun _ _ _ _ => rfl)
   (case my3_0 => first | k_is | kernel_rfl)
   (case my3_1 => first | k_is | kernel_rfl)
   (case my3_2 => first | k_is | kernel_rfl)
   (case ml3 => k_is); (case mc3 => k_is); (case mk3 => k_is)
   (case mb3 => exact L2.mt3 fun _ _ _ => rfl)
   (case my4_0 => first | k_is | kernel_rfl)
   (case my4_1 => first | k_is | kernel_rfl)
   (case my4_2 => first | k_is | kernel_rfl)
   (case ml4 => k_is); (case mc4 => k_is); (case mk4 => k_is)
   (case mb4 => exact L2.mt4 fun _ _ _ _ => rfl)
   (case my5_0 => first | k_is | kernel_rfl)
   (case my5_1 => first | k_is | kernel_rfl)
   (case my5_2 => first | k_is | kernel_rfl)
   (case ml5 => k_is); (case mc5 => k_is); (case mk5 => k_is)
   (case mb5 => exact L2.mt4 fun _ _ _ _ => rfl)
   (case my6_0 => first | k_is | kernel_rfl)
   (case my6_1 => first | k_is | kernel_rfl)
   (case my6_2 => first | k_is | kernel_rfl)
   (case ml6 => k_is); (case mc6 => k_is); (case mk6 => k_is)
   (case mb6 => exact L2.mt3 fun _ _ _ => rfl)
   (case my7_0 => first | k_is | kernel_rfl)
   (case my7_1 => first | k_is | kernel_rfl)
   (case my7_2 => first | k_is | kernel_rfl)
   (case ml7 => k_is); (case mc7 => k_is); (case mk7 => k_is)
   (case mb7 => exact L2.mt2 fun _ _ => rfl)
   (case my8_0 => first | k_is | kernel_rfl)
   (case my8_1 => first | k_is | kernel_rfl)
   (case my8_2 => first | k_is | kernel_rfl)
   (case ml8 => k_is); (case mc8 => k_is); (case mk8 => k_is)
   (case mb8 => exact L2.mt2 fun _ _ => rfl)
   (case my9_0 => first | k_is | kernel_rfl)
   (case my9_1 => first | k_is | kernel_rfl)
   (case my9_2 => first | k_is | kernel_rfl)
   (case ml9 => k_is); (case mc9 => k_is); (case mk9 => k_is)
   (case mb9 => exact L2.mt2 fun _ _ => rfl)
   (case my10_0 => first | k_is | kernel_rfl)
   (case my10_1 => first | k_is | kernel_rfl)
   (case my10_2 => first | k_is | kernel_rfl)
   (case ml10 => k_is); (case mc10 => k_is); (case mk10 => k_is)
   (case mb10 => exact L2.mt2 fun _ _ => rfl)
   (case my11_0 => first | k_is | kernel_rfl)
   (case my11_1 => first | k_is | kernel_rfl)
   (case my11_2 => first | k_is | kernel_rfl)
   (case ml11 => k_is); (case mc11 => k_is); (case mk11 => k_is)
   (case mb11 => exact L2.mt4 fun _ _ _ _ => rfl)
   (case my12_0 => first | k_is | kernel_rfl)
   (case my12_1 => first | k_is | kernel_rfl)
   (case my12_2 => first | k_is | kernel_rfl)
   (case ml12 => k_is); (case mc12 => k_is); (case mk12 => k_is)
   (case mb12 => exact L2.mt2 fun _ _ => rfl)
   (case my13_0 => first | k_is | kernel_rfl)
   (case my13_1 => first | k_is | kernel_rfl)
   (case my13_2 => first | k_is | kernel_rfl)
   (case ml13 => k_is); (case mc13 => k_is); (case mk13 => k_is)
   (case mb13 => exact L2.mt3 fun _ _ _ => rfl)
   (case my14_1 => first | k_is | kernel_rfl)
   (case my14_0 => first | k_is | kernel_rfl)
   (case my14_2 => first | k_is | kernel_rfl)
   (case my14_3 => first | k_is | kernel_rfl)
   (case ml14 => k_is); (case mc14 => k_is); (case mk14 => k_is)
   (case mb14 => exact L2.mt2 fun _ _ => rfl)
   (case my15_0 => first | k_is | kernel_rfl)
   (case my15_1 => first | k_is | kernel_rfl)
   (case my15_2 => first | k_is | kernel_rfl)
   (case ml15 => k_is); (case mc15 => k_is); (case mk15 => k_is)
   (case mb15 => exact L2.mt2 fun _ _ => rfl)
   (case my16_0 => first | k_is | kernel_rfl)
   (case my16_1 => first | k_is | kernel_rfl)
   (case my16_2 => first | k_is | kernel_rfl)
   (case ml16 => k_is); (case mc16 => k_is); (case mk16 => k_is)
   (case mb16 => exact L2.mt2 fun _ _ => rfl)
   (case my17_0 => first | k_is | kernel_rfl)
   (case my17_1 => first | k_is | kernel_rfl)
   (case my17_2 => first | k_is | kernel_rfl)
   (case ml17 => k_is); (case mc17 => k_is); (case mk17 => k_is)
   (case mb17 => exact L2.mt3 fun _ _ _ => rfl)
   (case a0 | l0 | c0 | k0 => k_is)
   (case a1 | l1 | c1 | k1 => k_is)
   (case a2 | l2 | c2 | k2 => k_is)
   (case a3 | l3 | c3 | k3 => k_is)
   (case a4 | l4 | c4 | k4 => k_is)
   (case a5 | l5 | c5 | k5 => k_is)
   (case a6 | l6 | c6 | k6 => k_is)
   (case a7 | l7 | c7 | k7 => k_is)
   (case a8 | l8 | c8 | k8 => k_is)
   (case a9 | l9 | c9 | k9 => k_is)
   (case a10 | l10 | c10 | k10 => k_is)
   (case a11 | l11 | c11 | k11 => k_is)
   (case a12 | l12 | c12 | k12 => k_is)
   (case a13 | l13 | c13 | k13 => k_is)
   (case a14 | l14 | c14 | k14 => k_is)
   (case a15 | l15 | c15 | k15 => k_is)
   (case a16 | l16 | c16 | k16 => k_is)
   (case a17 | l17 | c17 | k17 => k_is)
   (case a18 | l18 | c18 | k18 => k_is)
   (case a19 | l19 | c19 | k19 => k_is)
   (case a20 | l20 | c20 | k20 => k_is)
   (case a21 | l21 | c21 | k21 => k_is)
   (case a22 | l22 | c22 | k22 => k_is)
   (case a23 | l23 | c23 | k23 => k_is)
   (case a24 | l24 | c24 | k24 => k_is)
   (case a25 | l25 | c25 | k25 => k_is)
   (case a26 | l26 | c26 | k26 => k_is)
   (case a27 | l27 | c27 | k27 => k_is)
   (case a28 | l28 | c28 | k28 => k_is)
   (case a29 | l29 | c29 | k29 => k_is)
   (case a30 | l30 | c30 | k30 => k_is)
   (case a31 | l31 | c31 | k31 => k_is)
   (case a32 | l32 | c32 | k32 => k_is)
   (case a33 | l33 | c33 | k33 => k_is)
   (case a34 | l34 | c34 | k34 => k_is)
   (case a35 | l35 | c35 | k35 => k_is)
   (case a36 | l36 | c36 | k36 => k_is)
   (case a37 | l37 | c37 | k37 => k_is)
   (case a38 | l38 | c38 | k38 => k_is)
   (case a39 | l39 | c39 | k39 => k_is)
   (case a40 | l40 | c40 | k40 => k_is)
   (case a41 | l41 | c41 | k41 => k_is)
   (case a42 | l42 | c42 | k42 => k_is)
   (case a43 | l43 | c43 | k43 => k_is)
   (case a44 | l44 | c44 | k44 => k_is)
   (case a45 | l45 | c45 | k45 => k_is)
   (case a46 | l46 | c46 | k46 => k_is)
   (case a47 | l47 | c47 | k47 => k_is)
   (case a48 | l48 | c48 | k48 => k_is)
   (case a49 | l49 | c49 | k49 => k_is)
   (case a50 | l50 | c50 | k50 => k_is)
   (case a51 | l51 | c51 | k51 => k_is)
   (case a52 | l52 | c52 | k52 => k_is)
   (case a53 | l53 | c53 | k53 => k_is)
   (case a54 | l54 | c54 | k54 => k_is)
   (case a55 | l55 | c55 | k55 => k_is)
   (case a56 | l56 | c56 | k56 => k_is)
   (case a57 | l57 | c57 | k57 => k_is)
   (case a58 | l58 | c58 | k58 => k_is)
   (case a59 | l59 | c59 | k59 => k_is)
   (case a60 | l60 | c60 | k60 => k_is)
   (case a61 | l61 | c61 | k61 => k_is)
   (case a62 | l62 | c62 | k62 => k_is)
   (case a63 | l63 | c63 | k63 => k_is)
   (case a64 | l64 | c64 | k64 => k_is)
   (case a65 | l65 | c65 | k65 => k_is)
   (case a66 | l66 | c66 | k66 => k_is)
   (case a67 | l67 | c67 | k67 => k_is)
   (case a68 | l68 | c68 | k68 => k_is)
   (case a69 | l69 | c69 | k69 => k_is)
   (case a70 | l70 | c70 | k70 => k_is)
   (case a71 | l71 | c71 | k71 => k_is)
   (case a72 | l72 | c72 | k72 => k_is)
   (case a73 | l73 | c73 | k73 => k_is)
   (case a74 | l74 | c74 | k74 => k_is)
   (case a75 | l75 | c75 | k75 => k_is)
   (case a76 | l76 | c76 | k76 => k_is)
  exact L2.law_mk d_law (fun base => My.ok_law (base := base) z) hmg
#print axioms PySem.Challenge.cw_manyleast_k68_whole_a_desk_told_by_funct_holds
