import PyProof.Rows.All
import Wide.All
import OpenK.AllK
import Wide.FinOn
import Lean
import PyProof.EqAt
import PyProof.EqKinds
import PyProof.TupleCall
import KE.KTryMore
import KE.KRevSl
import KE.KSortTup
import KE.KItemsList
import KE.KSortKey
import PyProof.Rows.SetFrom
import KE.KLam
import PyProof.NeKinds
import PyProof.IsiH_list
import KE.KDictOf
import PySem.Challenge.RW_manyleast_k40_whole_told_papers_lie_with
set_option Elab.async false
set_option linter.all false
set_option maxRecDepth 100000
set_option maxHeartbeats 4000000
def fnt:false ≠ true:=Bool.noConfusion
def nf {p:Prop} (z:false=true):p:=absurd z fnt
def nr {α:Type} {a:α} {p:Prop} (z:¬ a=a):p:=absurd rfl z
def na {p q:Prop} [Decidable p] (h:p) (z:¬ decide p=true):q:=absurd (decide_eq_true h) z
def ny {p q:Prop} [Decidable p] (h:¬ p) (z:decide p=true):q:=absurd (of_decide_eq_true z) h
namespace PySem.W.Fast
def tw7674292497303504648:=()
def tw1600396345302884861:=()
def tw3318930204785009659:=()
def tw2175422074033584067:=()
def tw14982489590524725864:=()
def tw5653367016992809184:=()
def tw12308553820031160994:=()
def tw5103910922866265774:=()
def tw1115929213973382088:=()
def tw7704981422072863698:=()
def tw10674067043680467898:=()
def tw13289690519574658945:=()
def tw8406167087015551452:=()
def tw13181623349232852244:=()
def tw1575110450732024092:=()
def tw7705844590803021129:=()
def tw16330521978762534902:=()
def tw12109578091334022303:=()
def tw6442598024378944114:=()
def tw8387977697896384227:=()
def tw5543881179064118069:=()
def tw204416394771109489:=()
def tw8795766956512786128:=()
def tw14826499366414050920:=()
def tw16023561596762684905:=()
def tw5886414156432050711:=()
def tw10776569594758732305:=()
def tw3313165750111610149:=()
def tw2659083171236825624:=()
def tw13479588002707102239:=()
def tw1187478091160774648:=()
def tw3251786441892902534:=()
def tw2478687752371587528:=()
def tw4344256219701867515:=()
def tw10048816432922542669:=()
def tw15337901735698961701:=()
def tw4413209752999012450:=()
def tw8037673160584739394:=()
def tw6590170009088736220:=()
def tw16039470834707422454:=()
def tw16270905453106340941:=()
def tw3372637119799379252:=()
def tw17543331788088331501:=()
def tw4066328193345442044:=()
def tw1136097862803032843:=()
def tw4989752409047614439:=()
def tw2640517176969667911:=()
def tw12822463278888256752:=()
def tw10832747873455014894:=()
def tw11189239964411898533:=()
def tw3695023827613771029:=()
def tw17848417410149431110:=()
def tw8944570376034065166:=()
def tw17097151078496092382:=()
def tw2745378658709315504:=()
def tw15791378732498521703:=()
def tw14792579508260885592:=()
def tw4961258962502810436:=()
def tw16316514481622999022:=()
def tw17486315937911341988:=()
def tw11704966299223008444:=()
def tw12898935375424084938:=()
def tw8726686090494935559:=()
def tw8299587165046571585:=()
def tw10409003194638929243:=()
def tw15017498350615152487:=()
def tw14782018082280542048:=()
def tw12493364927238303292:=()
def tw6864627946063444615:=()
def tw11270171831386580612:=()
def tw9937092732693852872:=()
def tw15698701137761156408:=()
def tw2515147683548321767:=()
def tw2610878706196575380:=()
def tw4815639213182940869:=()
def tw528191112706905720:=()
def tw17819051917567742862:=()
def tw4272310698141147462:=()
def tw8469631976431751410:=()
def tw14812091148204673768:=()
def tw5601082147876943838:=()
def tw3772719875106906533:=()
def tw18405275960795730846:=()
def tw5887128229681561205:=()
def tw698818206398992135:=()
def tw7033123226975928093:=()
def tw8643274757629856961:=()
def tw15755722664435919614:=()
def tw191736159529225122:=()
def tw15398974502709059195:=()
def tw4428514896798540001:=()
def tw11599396805172193718:=()
def tw8671316591209415617:=()
def tw1754144696484785813:=()
def tw508768140701256891:=()
def tw8667215590884245030:=()
def tw16785603591046713906:=()
def tw18437741578303973484:=()
def tw15552394390470468643:=()
def tw9933985296693649337:=()
def tw1340611242074686334:=()
def tw10582798219273898823:=()
def tw13264165192970377661:=()
def tw4142010180246591321:=()
def tw12755112207726893488:=()
def tw3298300010936634344:=()
def tw13164717751046234774:=()
def tw1009135605508506968:=()
def tw4844919589645535085:=()
def tw14293001285050034306:=()
def tw12651082617264386299:=()
def tw11288216728676369268:=()
def tw3527853041542063372:=()
def tw6078404495086772986:=()
def tw18068323108987239918:=()
def tw3924395597765895423:=()
def tw15565584389326581863:=()
def tw4420261934667453287:=()
def tw875299224719475661:=()
def tw2918246702564738169:=()
def tw9529454967832367545:=()
def tw14916225686565035847:=()
def tw3438187778459393123:=()
def tw6968009936451361993:=()
def tw4748583799389997970:=()
def tw1309202734339608732:=()
def tw17963368263820307054:=()
def tw13621764292831103558:=()
def tw4950589735927936166:=()
def tw7761107803168033057:=()
def tw7912642910817192086:=()
def tw6557436029715433057:=()
def tw10681865433266786909:=()
def tw9648657426526094934:=()
def tw17775384146817740528:=()
def tw4431118429425593007:=()
def tw11749588713537377060:=()
def tw4429960525625888610:=()
def tw11887137725222702075:=()
def tw14779488989934752405:=()
def tw16042305462272429958:=()
def tw14590554241645140732:=()
def tw16586445673651656187:=()
def tw17023123218843384309:=()
def tw8952840872546439171:=()
def tw15381410110896658450:=()
def tw9550716036455223890:=()
def tw2246297048838052279:=()
def tw3562859311043964014:=()
def tw7680101059923337797:=()
def tw5677398921097938060:=()
def tw18073099967072575201:=()
def tw17216985733618570366:=()
def tw2297964913455375542:=()
def tw15018477175967828603:=()
def tw12414339555337455141:=()
def tw3223989944468558646:=()
def tw6916206897447758838:=()
def tw12026716509971077025:=()
def tw7814172746864783220:=()
def tw3171279331266756781:=()
def tw2182167179563949717:=()
def tw14676474121868903871:=()
def tw15681391376519199319:=()
def tw3389192785804387262:=()
def tw3072404116491829383:=()
def tw1963387934230081508:=()
def tw2207217210086020726:=()
def tw17044819959649551243:=()
def tw4692928888188244601:=()
def tw18235452253149247878:=()
def tw11565066897794326154:=()
def tw4604139818626484484:=()
def tw18078619283636933777:=()
def tw4983928325486299255:=()
def tw6376415523024199260:=()
def tw14428464832636438383:=()
def tw8552113705682161241:=()
def tw480278111867222062:=()
def tw15430456094236794606:=()
def tw14911805265737935263:=()
def tw5188951482470000806:=()
def tw4247745577103242744:=()
def tw6472956451160256859:=()
def tw11705138545887059525:=()
def tw16158868878642706968:=()
def tw15026383968613363534:=()
def tw2120457735356467843:=()
def tw4808950543253363581:=()
def tw144659140826314361:=()
def tw4950580800906469354:=()
def tw13690118669981414490:=()
def tw9377072233891000151:=()
def tw4230939364532708203:=()
def tw6932776233077646467:=()
def tw3452351148927849873:=()
def tw33629291032162940:=()
def tw3618129029108379041:=()
def tw9980838293368238746:=()
def tw17731241378077780531:=()
def tw1363473646964845656:=()
def tw7164447993671083142:=()
def tw15739421511342611067:=()
def tw6203324808043542537:=()
def tw16602414045665831649:=()
def tw5954155343702517267:=()
def tw2140310516834484182:=()
def tw4495318095693314834:=()
def tw2353099961009879568:=()
def tw12369536728580865824:=()
def tw1485493585128531333:=()
def tw7776016063620975759:=()
def tw8507300812334302929:=()
def tw3249111543083589531:=()
def tw18238567125629267890:=()
def tw8228753614773283151:=()
def tw612008121336243751:=()
def tw11343903489246459256:=()
def tw4143777134573641084:=()
def tw11223049913137328173:=()
def tw1859628274250455520:=()
def tw14676908826619030799:=()
def tw17109187352924961561:=()
def tw11699809319675599399:=()
def tw15915806478239237007:=()
def tw17882394903723346866:=()
def tw3203964364932667806:=()
def tw13599809739172481258:=()
def tw9057703355865801191:=()
def tw15603339954407093263:=()
def tw17944970265626361695:=()
def tw15523127495285566071:=()
def tw4088144234151177072:=()
def tw15905912420688748548:=()
def tw1227006098917210663:=()
def tw18024155805704515402:=()
def tw8837010606522363093:=()
def tw10926635696150222162:=()
def tw17602089171715195962:=()
def tw6234057829302764384:=()
def tw17937800105000055360:=()
def tw9760111895251921728:=()
def tw14366585254422855137:=()
def tw3745408631365147495:=()
def tw5292012071361942795:=()
def tw3620856892647408467:=()
def tw7654607311794919399:=()
def tw9885852853804880371:=()
def tw12000967465500802181:=()
def tw6628119156497107250:=()
def tw8853813002755587140:=()
def tw689096795711285700:=()
def tw15079362820179193744:=()
def tw12495214420855687126:=()
def tw11885624622457937270:=()
def tw3120346165206571232:=()
def tw9076072592305284689:=()
def tw14395782871525961079:=()
def tw9107689523670181856:=()
def tw12855495260564303276:=()
def tw10336556913703776536:=()
def tw15568258831191555420:=()
def tw13305298859380553211:=()
def tw13767260738629300338:=()
def tw297738783912879456:=()
def tw322295246221327223:=()
def tw17112086195055807262:=()
def tw14017121464172096563:=()
def tw508037691183021049:=()
def tw12574383615001655546:=()
def tw13965862743891884663:=()
def tw8724661656438207836:=()
def tw11516297942970172145:=()
def tw909316783026513908:=()
def tw10191239657598446345:=()
def tw18443185604178646013:=()
def tw10196020907070153890:=()
def tw13741008209235051298:=()
def tw4004120644863606594:=()
def tw2327721491251436090:=()
def tw2705130897364207962:=()
def tw11102700100208000855:=()
def tw11977646088073847918:=()
def tw10417425706776611645:=()
def tw13966456347038353127:=()
def tw17637979102295490783:=()
def tw6684263576911574636:=()
def tw18085040587513518195:=()
def tw5926090636028907017:=()
def tw5852682639967837176:=()
def tw6559644494775957954:=()
def tw8477670951307206872:=()
def tw13878754149126678279:=()
def tw11203456374039024713:=()
def tw17901681112765655948:=()
def tw10337434231580791950:=()
def tw13207504287123180351:=()
def tw17988845477219354645:=()
def tw18302063642845257522:=()
def tw16972992519164167638:=()
def tw712090011266550194:=()
def tw15817266053677822114:=()
def tw14985858801390555760:=()
def tw2176950028731537476:=()
def tw15568607915717550782:=()
def tw1069839481671484912:=()
def tw18395454504429595746:=()
def tw11774659008337028895:=()
def tw11641909142981106098:=()
def tw5269187590147569246:=()
def tw17204108299387176123:=()
def tw8651476451653079170:=()
def tw3717407646597466838:=()
def tw13842336184649019670:=()
def tw712982457105604903:=()
def tw9789781930301466288:=()
def tw15792308993584768533:=()
def tw9426228723414505348:=()
def tw10990553549537488598:=()
def tw13259977382368533591:=()
end PySem.W.Fast
namespace MyQ
open PySem PySem.W PyProof.Rows List
set_option maxRecDepth 100000 in
set_option maxHeartbeats 0 in
open_top hd for PySem.Challenge.rw_manyleast_k40_whole_told_papers_lie_with
end MyQ
local macro_rules|`(tactic|walk_at "a")=>`(tactic|(first | exact .inl rfl | exact .inr rfl | assumption))
local macro_rules|`(tactic|walk_at "b")=>`(tactic|(first | exact Or.inl rfl | exact Or.inr (Or.inl rfl) | exact Or.inr (Or.inr rfl)))
local macro_rules|`(tactic|walk_at "c")=>`(tactic|(first | exact Or.inl rfl | exact Or.inr rfl))
local macro_rules|`(tactic|walk_at "d")=>`(tactic|(intro vs H Q E h;first | (cases h;subst_vars;rfl) | ((repeat (first | obtain ⟨rfl,_⟩:=h | obtain ⟨_,h⟩:=h));rfl)))
set_option autoImplicit true
abbrev Fg:=PySem.W.Frag
abbrev VS:=PySem.Value->PySem.Shared->Prop
abbrev LL:=List (List Int)
abbrev Mg:=PySem.Str->Option PySem.Value
section
open PySem PySem.Spec PyProof.Rows PySem.W List
def ZA:type_of% @decide_eq_true:=@decide_eq_true
def ZC:type_of% @wpAny_bind:=@wpAny_bind
def ZE:type_of% @Heap.get?_push_of_some:=@Heap.get?_push_of_some
def ZF:type_of% @of_decide_eq_true:=@of_decide_eq_true
def ZH:type_of% @Nat.le_refl:=@Nat.le_refl
def ZI:type_of% @decide_eq_false:=@decide_eq_false
def ZJ:type_of% @if_neg:=@if_neg
def ZL:type_of% @if_pos:=@if_pos
def ZM:type_of% @wpAny_pure:=@wpAny_pure
def ZN:type_of% @length_map:=@length_map
def ZP:type_of% @kasC_bind:=@kasC_bind
def ZQ:type_of% @Nat.le_trans:=@Nat.le_trans
def ZR:type_of% @getElem?_eq_getElem:=@getElem?_eq_getElem
def ZT:type_of% @Heap.get?_push_size:=@Heap.get?_push_size
def ZU:type_of% @length_append:=@length_append
def ZV:type_of% @kasC_pure:=@kasC_pure
def ZW:type_of% @Heap.lt_size:=@Heap.lt_size
def ZX:type_of% @Array.length_toList:=@Array.length_toList
def ZY:type_of% @mem_cons_of_mem:=@mem_cons_of_mem
def ZZ:type_of% @decide_eq_true_eq:=@decide_eq_true_eq
def WA:type_of% @Nat.zero_le:=@Nat.zero_le
def WB:type_of% @Nat.lt_of_lt_of_le:=@Nat.lt_of_lt_of_le
def WC:type_of% @Bool.and_eq_true:=@Bool.and_eq_true
def WD:type_of% @mem_cons_self:=@mem_cons_self
def WE:type_of% @Nat.ne_of_lt:=@Nat.ne_of_lt
def WG:type_of% @size_toArray:=@size_toArray
def WH:type_of% @Array.getElem?_toList:=@Array.getElem?_toList
def WL:type_of% @Bool.and_false:=@Bool.and_false
def WM:type_of% @getElem?_map:=@getElem?_map
def WN:type_of% @Array.toList_append:=@Array.toList_append
def WO:type_of% @Array.getElem?_eq_getElem:=@Array.getElem?_eq_getElem
def WP:type_of% @Bool.false_and:=@Bool.false_and
def WQ:type_of% @mem_of_getElem?:=@mem_of_getElem?
def WR:type_of% @Nat.le_add_left:=@Nat.le_add_left
def WS:type_of% @map_append:=@map_append
def WT:type_of% @length_cons:=@length_cons
def WV:type_of% @mem_append_right:=@mem_append_right
def WW:type_of% @take_add_one:=@take_add_one
def WZ:type_of% @take_of_length_le:=@take_of_length_le
def YA:type_of% @PySem.W.mg_none_of:=@PySem.W.mg_none_of
def YB:type_of% @wpAny_newObj_type:=@wpAny_newObj_type
def YC:type_of% @length_filter_le:=@length_filter_le
def YD:type_of% @PySem.F.plainAttrs_list:=@PySem.F.plainAttrs_list
def YE:type_of% @Int.emod_lt_of_pos:=@Int.emod_lt_of_pos
def YF:type_of% @take_length:=@take_length
def YG:type_of% @PySem.mem_of_lookup:=@PySem.mem_of_lookup
def YH:type_of% @PySem.F.slot_list_append:=@PySem.F.slot_list_append
def YI:type_of% @PySem.F.type_list_append:=@PySem.F.type_list_append
def YJ:type_of% @wpAny_mono:=@wpAny_mono
def YK:type_of% @Int.pow_succ:=@Int.pow_succ
def YM:type_of% @Int.emod_nonneg:=@Int.emod_nonneg
def YN:type_of% @countP_cons:=@countP_cons
def YO:type_of% @filter_cons:=@filter_cons
def YQ:type_of% @wpAny_setField_rec:=@wpAny_setField_rec
def YR:type_of% @filter_cons_of_pos:=@filter_cons_of_pos
def YS:type_of% @filter_cons_of_neg:=@filter_cons_of_neg
def YT:type_of% @getElem?_append_right:=@getElem?_append_right
def YV:type_of% @decide_eq_false_iff_not:=@decide_eq_false_iff_not
def YW:type_of% @wpAny_holding:=@wpAny_holding
def YX:type_of% @getElem?_append_left:=@getElem?_append_left
def YZ:type_of% @append_assoc:=@append_assoc
end
local macro_rules(kind:=Lean.Parser.Term.structInst)|`({})=>`(by omega)
local macro_rules|`(∅)=>`(by decide)
local macro_rules|`(tactic|exists $[$es],*)=>`(tactic|refine ⟨$[$es],*, ?_⟩)
local macro_rules|`(tactic|lia)=>`(tactic|omega)
def eA{l:List α}{i:Nat}{a:α}(h:l[i]?=some a):∃ h:i<l.length,l[i]=a:=List.getElem?_eq_some_iff.mp h
def eB{a b:α}{l:List α}(h:a∈b::l):a=b\/a∈l:=List.mem_cons.mp h
def eC{a:α}{l m:List α}(h:a∈l++m):a∈l\/a∈m:=List.mem_append.mp h
def eD{a b:α}(h:a∈[b]):a=b:=List.mem_singleton.mp h
def eE{f:α->β}{b:β}{l:List α}(h:b∈l.map f):∃ a,a∈l/\f a=b:=List.mem_map.mp h
section
variable {a b c d e f g h r s t u v x y:Nat}{i j k l m n o p q z:Int}{A B C D:Prop}
def W1(_:a<b):b-(a+1)<b-a:={}
def W2(_:a+1<=b):c+b-1=c+(b-1):={}
def W3(_:a=b)(_:b<c):c-b=c-b-1+1:={}
def W4(_:a<b):c+b-1=c+(b-1):={}
def W5:i+j-i=j:={}
def W6(_:a+1<=b):c+b-(a+1)=c+(b-(a+1)):={}
def W7:a+b-a=b:={}
def W8:a+1+b=a+b+1:={}
def W9(_:a<=b)(_:¬a=b):a<b:={}
def W10:i*2=2*i:={}
def W11(_:0<a):a-1<a:={}
def W12:a<=a+b:={}
def W13(_:¬i<j):j<=i:={}
def W14(_:¬a<b):b<=a:={}
def W15(_:a<=b):a+(b-a)=b:={}
def W16:a-b<=a:={}
def W17(_:i<j):k+i<k+j:={}
def W18:i*2/2=i:={}
def W19(_:a<b):a+1<=b:={}
def W20(_:a<b):c+a<c+b:={}
def W21(_:a<b):a<=b:={}
def W22(_:a<=100):a<=1000:={}
def W23(_:a=b)(_:b<c)(_:c-b=d+1):c-(b+1)=d:={}
def W24(_:0<a)(_:b<a)(_:¬b=a-1):b<a-1:={}
def W25(_:i=1\/i=2\/i=3\/i=8):1<=i/\i<=8:={}
def W26(_:a<=b)(_:b<c):b-a<=c:={}
def W27:a+b+1=a+1+b:={}
def W28(_:a<b+c)(_:b<=a):a-b<c:={}
def W29:((a:Int)+(b:Int)*1).toNat=a+b:={}
def W30:i=i+2^0-1:={}
def W31:(↑(a+1):Int)-1=(a:Int):={}
def W32:(a:Int)+(b:Int)=(↑(a+b):Int):={}
def W33(_:a<b)(_:b<=c):a<c:={}
def W34(_:a<b)(_:c=a):b-(a+1)<b-a:={}
def W35(_:0<a):a-1<=a:={}
def W36:i*2=i+i:={}
def W37:a+b+1=a+(b+1):={}
def W38:0<=(a:Int):={}
def W39(_:¬a=0):a-1<a:={}
def W40(_:a=b)(_:c<b+1)(_:d+1<=b)(_:b+1-(d+1+1)<=c)(_:¬c=b):b-(d+1)<=c:={}
def W41(_:1<=a)(_:b=c)(_:d+1<=c)(_:a+1<=c):c-(d+1)<=c-1:={}
def W42(_:a<=b)(_:¬a<b):a=b:={}
def W43(_:0<i)(_:i=(a:Int)):0<a:={}
def W44(_:a=b+c):a+1=b+1+c:={}
def W45(_:a<=b):¬b<a:={}
def W46(_:a<b+1)(_:¬a=b):a<b:={}
def W47(_:i<j):¬j<=i:={}
def W48(_:a=b+c):a+1=b+(c+1):={}
def W49:i<=j/\j<=i↔j=i:={}
def W50(_:a<=b+c)(_:b<=d+1):a<=d+(c+1):={}
def W51(_:a=b):b-1<=b:={}
def W52:a<=b+a:={}
def W53:i+(j-i)=j:={}
def W54(_:a<=40):0<=(a:Int):={}
def W55(_:0<i)(_:0<=j)(_:j<i)(_:i<=1099511627776):k<=k+j:={}
def W56(_:a+1<=b):c<=c+b-(a+1):={}
def W57(_:a-1<b):a-1<=b:={}
def W58(_:(a:Int)*1<=0):a=0:={}
def W59(_:¬i<=j):j<i:={}
def W60(_:a=b+c)(_:¬d<c):b+d=a+(d-c):={}
def W61(_:a<=b):c+a<=c+b:={}
def W62(_:a<b)(_:a=b):False:={}
def W63(_:a+1<b):a<b:={}
def W64:a+(b+1)=a+1+b:={}
def W65(_:i<=j)(_:k=j)(_:k<=i):k=i:={}
def W66(_:a<=b):c+b-(c+a)<=c+b:={}
def W67(_:a<b-c)(_:c<b):c+a<b:={}
def W68(_:2<=a):0<a:={}
def W69(_:0<=i)(_:a=b)(_:b<j.toNat)(_:c=(1+i).toNat)(_:i<4):(c:Int)<10^60:={}
def W70(_:a<=b)(_:¬c>=a):(c+a)/2<=b:={}
def W71(_:i<=j)(_:k=j)(_:k<=i):j=i:={}
def W72(_:0<i)(_:i<=1099511627776):i<10^60:={}
def W73(_:a+b=c+(b-d))(_:c=a+d)(_:¬e<d):a+e=c+(e-d):={}
def W74:¬(a:Int)<0:={}
def W75(_:1<=a)(_:2<=b)(_:c+a+b<=d+e)(_:¬b-1=1):c+1+a+(b-1)<=d+e:={}
def W76(_:a=b)(_:c<d)(_:e+d<=b):e+c<a:={}
def W77:a<=a:={}
def W78(_:a<=b)(_:¬a<c):¬(d+b-(d+b-(d+a))<d+c/\d+c<=d+b):={}
def W79(_:a<b)(_:c<a):c<b:={}
def W80(_:1<=a)(_:2<=b)(_:c+a+b<=d+e)(_:¬b-1=1):a+(b-1)<=d+e:={}
def W81(_:a<=b)(_:b<a):False:={}
def W82(_:i=j):¬i<j:={}
def W83(_:0<a)(_:b<a)(_:a-1<=b):b=a-1:={}
def W84(_:a<=b)(_:b<=c):a<=c:={}
def W85(_:1<=i):0<=i:={}
def W86(_:a+1<=b):a<=b:={}
def W87(_:a<=40):(a:Int)<=1000000:={}
def W88(_:a>1):a-1<a:={}
def W89(_:a>1):a-1<=a:={}
def W90(_:a=b-c+d)(_:¬e<b+d):b+d<=e:={}
def W91(_:a+b=c)(_:d<c)(_:¬d<a):d-a<b:={}
def W92(_:i<=j):¬j<i:={}
def W93(_:0<a)(_:b<c+a):b-c<a:={}
def W94(_:a<b)(_:c<=a):c<b:={}
def W95(_:a<=b):(b:Int)-(a:Int)=(↑(b-a):Int):={}
def W96(_:1<=a)(_:b=c)(_:a+1<=c):c-1<c:={}
def W97(_:0<i)(_:0<=j)(_:i<=1099511627776):k<=k+j:={}
def W98(_:a<b):(a:Int)<(b:Int):={}
def W99(_:i<j):¬i=j:={}
def W100(_:a+b=c):(a:Int)+(b:Int)=(c:Int):={}
def W101(_:a=b)(_:c<b+1)(_:¬c=b):c<b:={}
def W102(_:a<b)(_:c=b):a<c:={}
def W103(_:i+0*j=k):i=k:={}
def W104:0+a+b<=a+b:={}
def W105(_:a=b)(_:c<b+1):c<=b:={}
def W106:i-j+j=i:={}
def W107(_:a+1<b)(_:¬a+1+1=b):a+1+1<b:={}
def W108(_:0<a)(_:a<=b):a-1<b:={}
def W109(_:a<=b-c)(_:c<=b):c+a<=b:={}
def W110(_:2<=a)(_:a<=b):a-1<b:={}
def W111:-2^62<=(a:Int):={}
def W112(_:¬a>0):a=0:={}
def W113(_:i<10000000):i+1+1<100000000:={}
def W114(_:a<=40):-2^62<=(a:Int):={}
end
namespace L2
open PySem PySem.Spec PyProof.Rows List
abbrev Key:=Sum Int Str
noncomputable def keyIs:Key->Value->Bool
 | .inl k,v=>Value.isInt k v
 | .inr x,v=>Value.isStrOf x v
noncomputable def keyH(w:World):Key->Int
 | .inl k=>hashInt k
 | .inr x=>hashStr w x
theorem q43:∀{k:Key}{v:Value},keyIs k v=true->(∃ i t,k=Sum.inl i/\v=Value.int i t)\/(∃ x t,k=Sum.inr x/\v=Value.str x t)
 | .inl i,v,h=>by
  obtain⟨t,e⟩:=Value.isInt_shape (k:=i) (v:=v) h
  exact .inl ⟨i,t,rfl,e⟩
 | .inr x,v,h=>by
  obtain⟨t,e⟩:=Value.isStrOf_shape (x:=x) (v:=v) h
  exact .inr ⟨x,t,rfl,e⟩
def q641(i:Int)(t:Tok):keyIs (.inl i) (.int i t)=true:=by simp[keyIs,Value.isInt]
def q642(x:Str)(t:Tok):keyIs (.inr x) (.str x t)=true:=by simp[keyIs,Value.isStrOf]
def key_ll(a b:Int):decide ((Sum.inl a:Key)=Sum.inl b)=(a==b):=by
 by_cases e:a=b
 ·subst e;simp
 ·have h:¬(Sum.inl a:Key)=Sum.inl b:=λq=>e (Sum.inl.inj q)
  rw[ZI h]
  exact(beq_eq_false_iff_ne.mpr e).symm
def key_rr(a b:Str):decide ((Sum.inr a:Key)=Sum.inr b)=decide (a=b):=by
 by_cases e:a=b
 ·subst e;simp
 ·have h:¬(Sum.inr a:Key)=Sum.inr b:=λq=>e (Sum.inr.inj q)
  rw[ZI h,ZI e]
def key_lr(a:Int)(b:Str):decide ((Sum.inl a:Key)=Sum.inr b)=false:=ZI (λq=>nomatch q)
def key_rl(a:Str)(b:Int):decide ((Sum.inr a:Key)=Sum.inl b)=false:=ZI (λq=>nomatch q)
noncomputable def q116(prog:Program)(w:World):PySem.KeyKind prog w Key where
 is:=keyIs
 hash:=keyH w
 inj:=λv a b ha hb=>by
  rcases q43 ha with ⟨i,t,rfl,rfl⟩ | ⟨x,t,rfl,rfl⟩
  ·rcases q43 hb with ⟨j,u,rfl,e⟩ | ⟨y,u,rfl,e⟩
   ·injection e with e1 _;rw[e1]
   ·exact nomatch e
  ·rcases q43 hb with ⟨j,u,rfl,e⟩ | ⟨y,u,rfl,e⟩
   ·exact nomatch e
   ·injection e with e1 _;rw[e1]
 byValue:=λk v h=>by
  rcases q43 h with ⟨i,t,rfl,rfl⟩ | ⟨x,t,rfl,rfl⟩ <;> rfl
 pyHash:=λhv h=>by
  rcases q43 hv with ⟨i,t,rfl,rfl⟩ | ⟨x,t,rfl,rfl⟩
  ·exact wpAny_pyHash_int h
  ·exact wpAny_pyHash_str h
 eqBool:=λhu hv h=>by
  rcases q43 hu with ⟨i,t,rfl,rfl⟩ | ⟨x,t,rfl,rfl⟩
  ·rcases q43 hv with ⟨j,u,rfl,rfl⟩ | ⟨y,u,rfl,rfl⟩
   ·rw[key_ll]at h;exact wpAny_eqBool_int h
   ·rw[key_lr]at h;exact SeqAt.EqAt.int_str i t y u _ _ _ _ h
  ·rcases q43 hv with ⟨j,u,rfl,rfl⟩ | ⟨y,u,rfl,rfl⟩
   ·rw[key_rl]at h;exact SeqAt.EqAt.str_int x t j u _ _ _ _ h
   ·rw[key_rr]at h;exact wpAny_eqBool_str h
 «strs»:=λk x t v h=>by
  rcases q43 h with ⟨i,u,rfl,e⟩ | ⟨y,u,rfl,e⟩
  ·exact nomatch e
  ·injection e with e1 _
   subst e1
   cases v <;> rfl
def q512(prog:Program)(w:World)(i:Int)(t:Tok):(q116 prog w).is (.inl i) (.int i t)=true:=q641 i t
def q513(prog:Program)(w:World)(x:Str)(t:Tok):(q116 prog w).is (.inr x) (.str x t)=true:=q642 x t
inductive V where
 | non | bl (b:Bool) | int (i:Int) | str (x:Str) | byt (b:Array UInt8) | flt (b:UInt64) | ref (a:Addr) | ty (n:String)
 deriving DecidableEq
def RelV:V->Value->Prop
 | .non,u=>u=Value.none
 | .bl b,u=>u=Value.bool b
 | .int i,u=>∃ t,u=Value.int i t
 | .str x,u=>∃ t,u=Value.str x t
 | .byt b,u=>∃ t,u=Value.bytes b t
 | .flt b,u=>∃ t,u=Value.float b t
 | .ref a,u=>u=Value.ref a
 | .ty n,u=>u=Value.type n
abbrev Vals:List V->List Value->Prop:=Paired RelV
def Vals.length{xs:List V}{us:List Value}(r:Vals xs us):xs.length=us.length:=Paired.length r
theorem Vals.get:∀{xs:List V}{us:List Value}{i:Nat}{x:V},Vals xs us->xs[i]? = some x -> ∃ u,us[i]? = some u/\RelV x u
 | _,_,_,_,.nil,e=>by simp at e
 | _,_,0,_,.cons r _,e=>by simp at e;subst e;exact⟨_,rfl,r⟩
 | _,_,i+1,x,.cons _ t,e=>by
  obtain⟨u,h1,h2⟩:=Vals.get (i:=i) (x:=x) t (by simpa using e)
  exact⟨u,by simpa using h1,h2⟩
theorem Vals.set{x:V}{u:Value}(r:RelV x u):∀{xs:List V}{us:List Value}(i:Nat),Vals xs us->Vals (xs.set i x) (us.set i u)
 | _,_,_,.nil=>.nil
 | _,_,0,.cons _ t=>.cons r t
 | _,_,i+1,.cons q t=>.cons q (Vals.set r i t)
theorem Vals.append:∀{xs ys:List V}{us ws:List Value},Vals xs us->Vals ys ws->Vals (xs++ys) (us++ws)
 | _,_,_,_,.nil,s=>s
 | _,_,_,_,.cons r t,s=>.cons r (Vals.append t s)
theorem Vals.take:∀{xs:List V}{us:List Value}(n:Nat),Vals xs us->Vals (xs.take n) (us.take n)
 | _,_,0,_=>.nil
 | _,_,_+1,.nil=>.nil
 | _,_,n+1,.cons r t=>.cons r (Vals.take n t)
theorem Vals.drop:∀{xs:List V}{us:List Value}(n:Nat),Vals xs us->Vals (xs.drop n) (us.drop n)
 | _,_,0,r=>r
 | _,_,_+1,.nil=>.nil
 | _,_,n+1,.cons _ t=>Vals.drop n t
def RelO:Option V->Option Value->Prop
 | some v,some u=>RelV v u
 | none,none=>True
 | _,_=>False
def KV{κ:Type}:List (κ×V)->List (κ×Value)->Prop:=Paired λ(p:κ×V) (q:κ×Value)=>p.1=q.1/\RelV p.2 q.2
noncomputable def kV:Key->V
 | .inl i=>.int i
 | .inr x=>.str x
inductive HO where
 | lst (xs:List V)
 | tup (xs:List V)
 | dK (kvs:List (Key×V)) | dT (kvs:List (List Key×V))
 | set (S:Int->Bool) (n:Nat)
 | ins (C dx:Addr) (fs:List (Str×V))
 | own (x:Addr)
 | xd (fs:List (Str×V))
 | met (f x:Addr)
 | rng (lo hi:Int)
 | frz (o:Obj) (u:HO)
 | tbl (ps:Array Value)
 | ext (φ:Heap->Prop)
abbrev Hp:=Addr->Option HO
noncomputable def upd(H:Hp)(a:Addr)(o:HO):Hp:=λb=>if b=a then some o else H b
def q12:upd H a o a=some o:=by unfold upd;rw[ZL rfl]
def q27(h:b≠a):upd H a o b=H b:=by unfold upd;rw[ZJ h]
def q85:upd (upd H a o) a u=upd H a u:=by
 funext b;unfold upd;split <;> rfl
def ne_of{H:Hp}{a b:Addr}{o u:HO}(h:H a=some o)(h':H b=some u)(d:o≠u):a≠b:=by
 intro e;subst e;rw[h]at h';exact d (Option.some.inj h')
def q25{H:Hp}{a b:Addr}{o:HO}(h:H a=some o)(h':H b=none):a≠b:=by
 intro e;subst e;rw[h]at h';cases h'
section
variable (P:Program)(w:World)
noncomputable def ObjOk(H:Hp)(h:Heap)(a:Addr):HO->Prop
 | .lst xs=>xs.length<=sizeLine /\ ∃(its:List Value)(n:Nat),Vals xs its/\h.get? a=some { cls:=.type "list", data:=.seq its.toArray n }
 | .tup xs=>xs.length<=sizeLine /\ ∃ its:List Value,Vals xs its/\IsTup h a its.toArray
 | .dK kvs=>kvs.length<=sizeLine/\(a==sysModules)=false /\ ∃ vs,KV kvs vs/\h.DictOf (q116 P w) a vs
 | .dT kvs=>kvs.length<=sizeLine/\(a==sysModules)=false /\ ∃ xs:List (List Key×Addr×Value),
   Paired (λ(p:List Key×V) (q:List Key×Addr×Value)=>p.1=q.1/\H q.2.1=some (.tup (p.1.map kV))/\RelV p.2 q.2.2) kvs xs /\
   ∃ o es ep,h.get? a=some o/\o.ExactDict/\o.data = .dict es ep/\es.toList=xs.map (entryOfKey (tupleKind (q116 P w)))/\(xs.map (·.1)).Nodup
 | .set S n=>h.SetOf (intKind P w) a S n
 | .ins C dx fs=>H dx=some (.own a)/\fs.length<=1000/\dx≠a/\h.get? a=some (PySem.W.instObj C dx) /\
   ∃ mA,h.Ns1 dx mA/\(∀ f,RelO (fs.lookup f) (mA f))/\PySem.Within mA (fs.map (·.1))
 | .own _=>∃ o,h.get? a=some o
 | .xd fs=>∃ mA,h.Ns1 a mA /\ ∀ f,RelO (fs.lookup f) (mA f)
 | .rng lo hi=>∃ t u v,h.get? a=some { cls:=.type "range", data:=.fields #[.int lo t,.int hi u,.int 1 v] }
 | .frz o u=>h.get? a=some o/\ObjOk H h a u
 | .tbl ps=>h.get? a=some { cls:=.none,data:=.fields ps }
 | .met f x=>h.get? a=some (PySem.W.methodObj (.ref f) (.ref x))
 | .ext φ=>φ h/\(∃ o,h.get? a=some o) /\ ∀ h1 h2:Heap,φ h1->(∀ o,h1.get? a=some o->h2.get? a=some o)->φ h2
noncomputable def HOk(H:Hp)(h:Heap):Prop:=∀ a o,H a=some o->ObjOk P w H h a o
end
section
variable {P:Program}{w:World}{H H':Hp}{h h':Heap}{a:Addr}{o:HO}
def ObjOk.lt(x:ObjOk P w H h a o):a<h.objs.size:=by
 cases o with
 | lst xs=>obtain⟨_,_,_,_,e⟩:=x;exact ZW e
 | tup xs=>obtain⟨_,_,_,p⟩:=x;exact p.lt
 | dK kvs=>obtain⟨_,_,_,_,o,_,_,e,_⟩:=x;exact ZW e
 | dT kvs=>obtain⟨_,_,_,_,o,_,_,e,_⟩:=x;exact ZW e
 | set S n=>obtain⟨o,_,_,_,e,_⟩:=x;exact ZW e
 | ins C dx fs=>obtain⟨_,_,_,e,_⟩:=x;exact ZW e
 | own y=>obtain⟨_,e⟩:=x;exact ZW e
 | xd fs=>obtain⟨_,⟨_,_,_,e,_⟩,_⟩:=x;exact ZW e
 | rng lo hi=>obtain⟨_,_,_,e⟩:=x;exact ZW e
 | frz ob u=>obtain⟨e,_⟩:=x;exact ZW e
 | tbl ps=>exact ZW (show h.get? a=some _ from x)
 | met f y=>exact ZW (show h.get? a=some _ from x)
 | ext φ=>obtain⟨_,⟨_,e⟩,_⟩:=x;exact ZW e
theorem Paired.mapP{α β:Type}{F G:α->β->Prop}:∀{l₁:List α}{l₂:List β},Paired F l₁ l₂->(∀ a b,F a b->G a b)->Paired G l₁ l₂
 | _,_,.nil,_=>.nil
 | _,_,.cons r t,f=>.cons (f _ _ r) (Paired.mapP t f)
theorem ObjOk.stay(x:ObjOk P w H h a o)(k:∀ b u,(b=a\/H b=some (.own a))->h.get? b=some u->h'.get? b=some u)
  (ho:∀ b,H b=some (.own a)->H' b=some (.own a)) (ht:∀ b xs,H b=some (.tup xs)->H' b=some (.tup xs)):ObjOk P w H' h' a o:=by
 induction o with
 | lst xs=>obtain⟨z,its,n,r,e⟩:=x;exact⟨z,its,n,r,k _ _ (.inl rfl) e⟩
 | tup xs=>obtain⟨z,its,r,ob,e,c⟩:=x;exact⟨z,its,r,ob,k _ _ (.inl rfl) e,c⟩
 | dK kvs=>obtain⟨z,y,vs,r,ob,es,ep,e,c⟩:=x;exact⟨z,y,vs,r,ob,es,ep,k _ _ (.inl rfl) e,c⟩
 | dT kvs=>
  obtain⟨z,y,xs,r,ob,es,ep,e,c⟩:=x
  exact⟨z,y,xs,Paired.mapP r λp q z=>⟨z.1,ht _ _ z.2.1,z.2.2⟩,ob,es,ep,k _ _ (.inl rfl) e,c⟩
 | set S n=>obtain⟨ob,es,ep,t,e,c⟩:=x;exact⟨ob,es,ep,t,k _ _ (.inl rfl) e,c⟩
 | ins C dx fs=>
  obtain⟨d,z,ne,e,mA,⟨od,es,ep,e2,c⟩,r⟩:=x
  exact⟨ho _ d,z,ne,k _ _ (.inl rfl) e,mA,⟨od,es,ep,k _ _ (.inr d) e2,c⟩,r⟩
 | own y=>obtain⟨ob,e⟩:=x;exact⟨ob,k _ _ (.inl rfl) e⟩
 | xd fs=>obtain⟨mA,⟨od,es,ep,e,c⟩,r⟩:=x;exact⟨mA,⟨od,es,ep,k _ _ (.inl rfl) e,c⟩,r⟩
 | rng lo hi=>obtain⟨t,u,v,e⟩:=x;exact⟨t,u,v,k _ _ (.inl rfl) e⟩
 | frz ob u ih=>obtain⟨e,q⟩:=x;exact⟨k _ _ (.inl rfl) e,ih q⟩
 | tbl ps=>
  have e:h.get? a=some { cls:=.none,data:=.fields ps }:=x
  show h'.get? a=some { cls:=.none,data:=.fields ps }
  exact k a _ (.inl rfl) e
 | met f y=>
  have e:h.get? a=some (PySem.W.methodObj (.ref f) (.ref y)):=x
  show h'.get? a=some (PySem.W.methodObj (.ref f) (.ref y))
  exact k a _ (.inl rfl) e
 | ext φ=>obtain⟨p,⟨o,e⟩,st⟩:=x;exact⟨st _ _ p λo q=>k _ _ (.inl rfl) q,⟨o,k _ _ (.inl rfl) e⟩,st⟩
def HOk.lt(x:HOk P w H h)(e:H a=some o):a<h.objs.size:=(x a o e).lt
def HOk.fresh(x:HOk P w H h)(e:h.objs.size<=a):H a=none:=by
 cases q:H a with
 | none=>rfl
 | some u=>exact absurd (WB (x.lt q) e) (Nat.lt_irrefl _)
def HOk.kept(x:HOk P w H h)(k:∀ b u,h.get? b=some u->h'.get? b=some u):HOk P w H h':=λa o e=>
 (x a o e).stay (λb u _ q=>k b u q) (λ_ q=>q) λ_ _ q=>q
def HOk.laid(x:HOk P w H h)(k:∀ b u,h.get? b=some u->h'.get? b=some u)(hp:h.objs.size<=a)(new:ObjOk P w (upd H a o) h' a o):HOk P w (upd H a o) h':=λb u e=>by
 have hn:=x.fresh hp
 by_cases hb:b=a
 ·subst hb;rw[q12]at e;cases e;exact new
 ·rw[q27 hb]at e
  exact(x b u e).stay (λc v _ q=>k c v q) (λc q=>by rw[q27 (q25 q hn)];exact q) λc xs q=>by rw[q27 (q25 q hn)];exact q
end
def Rd(H:Hp)(a:Addr)(u:HO):Prop:=H a=some u \/ ∃ o,H a=some (.frz o u)
def Rd.ok(r:Rd H a u)(x:HOk P w H h):ObjOk P w H h a u:=by
 rcases r with r | ⟨o,r⟩
 ·exact x a u r
 ·obtain⟨_,q⟩:=x a _ r
  exact q
def Mut:Option HO->Prop
 | some (.lst _)=>True
 | some (.dK _)=>True
 | some (.dT _)=>True
 | some (.set _ _)=>True
 | some (.ins _ _ _)=>True
 | some (.ext _)=>True
 | _=>False
section
variable {P:Program}{w:World}{H:Hp}{h h':Heap}{x e:Addr}{o':HO}
def HOk.write(ok:HOk P w H h)(mu:Mut (H x))(he:e=x\/H e=some (.own x))(k:∀ b u,b≠e->h.get? b=some u->h'.get? b=some u)(heo:∃ u,h'.get? e=some u)
  (new:ObjOk P w (upd H x o') h' x o'):HOk P w (upd H x o') h':=λb u q=>by
 have nown:∀ c y,H c=some (.own y)->c≠x:=λc y r z=>by subst z;rw[r]at mu;exact mu
 have ntup:∀ c xs,H c=some (.tup xs)->c≠x:=λc xs r z=>by subst z;rw[r]at mu;exact mu
 by_cases hb:b=x
 ·subst hb;rw[q12]at q;cases q;exact new
 ·rw[q27 hb]at q
  by_cases hbe:b=e
  ·have q':H b=some (.own x):=by
    rcases he with z | z
    ·exact absurd (hbe.trans z) hb
    ·rw[hbe];exact z
   rw[q]at q';cases q'
   obtain⟨v,hv⟩:=heo
   exact⟨v,by rw[hbe];exact hv⟩
  ·refine(ok b u q).stay (λc v hc r=>k c v ?_ r) (λc r=>by rw[q27 (nown c b r)];exact r) λc xs r=>by rw[q27 (ntup c xs r)];exact r
   rcases hc with rfl | hc
   ·exact hbe
   ·rintro rfl
    rcases he with z | z
    ·exact nown c b hc z
    ·rw[hc]at z;cases z;exact hb rfl
end
structure Un(fs ex:List Addr)(H H':Hp)(h h':Heap):Prop where
 keep:∀ b o,h.get? b=some o->H b=none->b ∉ fs->b ∉ ex->h'.get? b=some o
 slot:∀ b o,h.get? b=some o->H b=none->b∈fs->b ∉ ex -> ∃ sl,h'.get? b=some { o with slots:=sl }
 free:∀ b o,h.get? b=some o->H b=none->b ∉ ex->H' b=none
 there:∀ b o,h.get? b=some o->b ∉ ex -> ∃ o',h'.get? b=some o'
 tups:∀ b xs,H b=some (.tup xs)->H' b=some (.tup xs)
 frzs:∀ b o u,H b=some (.frz o u)->H' b=some (.frz o u)
 tbls:∀ b ps,H b=some (.tbl ps) -> ∃ more,H' b=some (.tbl (ps++more))
section
variable{fs fs' ex ex':List Addr}{H H1 H2:Hp}{h h1 h2 h':Heap}{a x e:Addr}{o:HO}
def Un.any(u:Un fs ex H H1 h h1)(q:h.get? b=some ob)(n:H b=none)(hx:b ∉ ex):∃ sl,h1.get? b=some { ob with slots:=sl }:=by
 by_cases hb:b∈fs
 ·exact u.slot b ob q n hb hx
 ·exact⟨ob.slots,u.keep b ob q n hb hx⟩
def Un.kept(k:∀ b u,h.get? b=some u->h'.get? b=some u):Un fs ex H H h h':=
 ⟨λb ob q _ _ _=>k b ob q,λb ob q _ _ _=>⟨ob.slots,k b ob q⟩,λ_ _ _ n _=>n,λb ob q _=>⟨ob,k b ob q⟩,λ_ _ q=>q,λ_ _ _ q=>q,λ_ ps q=>⟨#[],by rw[q];simp⟩⟩
def Un.refl:Un fs ex H H h h:=Un.kept λ_ _ q=>q
def Un.laid(k:∀ b u,h.get? b=some u->h'.get? b=some u)(hp:h.objs.size<=a)(hn:H a=none):Un fs ex H (upd H a o) h h' where
 keep:=λb u q _ _ _=>k b u q
 slot:=λb u q _ _ _=>⟨u.slots,k b u q⟩
 free:=λb u q n _=>by rw[q27 (WE (WB (ZW q) hp))];exact n
 there:=λb u q _=>⟨u,k b u q⟩
 tups:=λb xs q=>by rw[q27 (q25 q hn)];exact q
 frzs:=λb u xs q=>by rw[q27 (q25 q hn)];exact q
 tbls:=λb ps q=>⟨#[],by rw[q27 (q25 q hn),q];simp⟩
def Un.write(mu:Mut (H x))(he:e=x\/H e=some (.own x))(k:∀ b u,b≠e->h.get? b=some u->h'.get? b=some u)(heo:∃ u,h'.get? e=some u):Un fs ex H (upd H x o) h h':=by
 have hx:∀ b,H b=none->b≠x:=λb n z=>by subst z;rw[n]at mu;exact mu
 have hb:∀ b,H b=none->b≠e:=λb n z=>by
  subst z
  rcases he with r | r
  ·exact hx b n r
  ·rw[n]at r;cases r
 have hm:∀ b u,H b=some u -> ¬ Mut (some u)->b≠x:=λb u q nm z=>by subst z;rw[q]at mu;exact nm mu
 refine⟨λb u q n _ _=>k b u (hb b n) q,λb u q n _ _=>⟨u.slots,k b u (hb b n) q⟩,λb u q n _=>by rw[q27 (hx b n)];exact n,λb u q _=>?_,
  λb xs q=>by rw[q27 (hm b _ q λz=>z)];exact q,λb u xs q=>by rw[q27 (hm b _ q λz=>z)];exact q,λb ps q=>⟨#[],by rw[q27 (hm b _ q λz=>z),q];simp⟩⟩
 by_cases hbe:b=e
 ·subst hbe;exact heo
 ·exact⟨u,k b u hbe q⟩
end
noncomputable def trk(h:Heap)(H:Hp):List Addr:=(List.range h.objs.size).filter λa=>(H a).isSome
noncomputable def hidT(h:Heap)(H:Hp):Heap:=PySem.W.hideAll h (trk h H)
def q643(h:Heap)(H:Hp):(hidT h H).objs.size=h.objs.size:=PySem.W.hideAll_size _ _
def hidT_get{h:Heap}(e:h.get? b=some o)(n:H b=none):(hidT h H).get? b=some o:=
 PySem.W.hideAll_get _ e λhm=>by
  have q:(H b).isSome=true:=(List.mem_filter.mp hm).2
  rw[n]at q;simp at q
def of_hidT{h:Heap}(e:(hidT h H).get? b=some o):h.get? b=some o/\H b=none:=by
 have e':h.get? b=some o:=PySem.W.of_hideAll (trk h H) e
 exists e'
 cases q:H b with
 | none=>rfl
 | some x=>
  have hm:b∈trk h H:=List.mem_filter.mpr ⟨List.mem_range.mpr (ZW e'),by simp[q]⟩
  have z:(hidT h H).get? b=none:=PySem.W.hideAll_none (trk h H) hm
  rw[z]at e;cases e
noncomputable def allNews(g h:Heap)(L:Addr):List (Addr×Obj):=(List.range h.objs.size).filterMap λa=>if a=L\/(g.get? a).isSome=true then none else(h.get? a).map λo=>(a,o)
noncomputable def rest(g h:Heap)(L d:Addr):List (Addr×Obj):=(allNews g h L).filter λp=>decide (p.1≠d)
structure Mod(K:Fg)(mg:Mg)(base:Heap):Prop where
 kin:K.In base
 glob:base.Ns mainGlobals mg
 blt:∃ mb,base.Ns builtinsNs mb /\ ∀ x:Str,x ≠ "__name__" -> mb x=bootBuiltins x
 nolimit:base.NoLimit
structure Cx where
 prog:Program
 w:World
 K:Fg
 mg:Mg
 base:Heap
 A:Around
 N:List Str
 s₀:Shared
 H₀:Hp
 env:Env
 outer:List Env
 stack:List Env
 ex:List Addr
 fn:Str->Bool
 calm:Bool
 pn:List (Addr×Obj)
 xe:VS
variable {X:Cx}
noncomputable def frs(l:List Env):List Addr:=l.filterMap (·.frame)
noncomputable abbrev Cx.fs(X:Cx):List Addr:=frs X.outer
def Vis(sc:Scope)(x:Str):Prop:=sc.names.lookup x=some .local\/sc.names.lookup x=some .cell\/sc.names.lookup x=some .free
def Loc(sc:Scope)(x:Str):Prop:=sc.names.lookup x=some .local\/sc.names.lookup x=some .cell
noncomputable def Look(env:Env)(h:Heap)(m:Mg)(x:Str)(u:Value):Prop:=
 (env.kindOf x=some .local/\m x=some u)\/((env.kindOf x=some .cell\/env.kindOf x=some .free) /\ ∃ c,env.cells.lookup x=some c/\h.IsCell c (some u))
structure Cx.Ok(X:Cx):Prop where
 mod:Mod X.K X.mg X.base
 kind:X.env.scope.kind = .function
 glob:X.env.globals=mainGlobals
 blt:X.env.builtins=builtinsNs
 above:X.s₀.heap.objs.size<=X.env.locals
 inj:∀ x y c,X.env.cells.lookup x=some c->X.env.cells.lookup y=some c->x=y
 has:∀ x,(X.env.kindOf x=some .cell\/X.env.kindOf x=some .free) -> ∃ c,X.env.cells.lookup x=some c
 cab:∀ x c,X.fn x=true->X.env.cells.lookup x=some c->X.s₀.heap.objs.size<=c
 hd:X.calm=true->X.A.handled=none
 frames:X.A.frames=some X.stack
 stk:X.stack=X.outer\/(X.stack=X.env::X.outer/\X.env.frame=some X.env.locals)
 exf:∀ b∈X.ex,b≠X.env.locals /\ ∀ x c,X.env.cells.lookup x=some c->c≠b
 bs:∀ b o,X.base.get? b=some o->X.s₀.heap.get? b=some o/\X.H₀ b=none
 bsz:X.base.objs.size<=X.s₀.heap.objs.size
 noex:∀ b o,X.base.get? b=some o->b ∉ X.ex
 exfs:∀ b∈X.ex,b ∉ X.fs
 funs:X.s₀.heap.FunFrames X.base X.outer
 frf:∀ b∈X.fs,X.H₀ b=none
structure Inv(X:Cx)(pins:List (Addr×Obj))(σ:List (Option V))(H:Hp)(s:Shared):Prop where
 ok:X.Ok
 os:s.os=X.s₀.os
 bare:AllBare s.gens
 base:Un X.fs X.ex X.H₀ H X.s₀.heap s.heap
 loc:∃ m,s.heap.Ns X.env.locals m /\ ∀(i:Nat)(x:Str)(v:V),X.N[i]? = some x->σ[i]? = some (some v)->Vis X.env.scope x -> ∃ u,RelV v u/\Look X.env s.heap m x u
 cell:∀ x c,X.env.cells.lookup x=some c -> ∃ v,s.heap.IsCell c v
 free:H X.env.locals=none
 freeC:∀ x c,X.env.cells.lookup x=some c->H c=none
 pin:∀ p∈X.pn++pins,s.heap.get? p.1=some p.2/\H p.1=none/\p.1≠X.env.locals/\p.1 ∉ X.fs /\ ∀ v,p.2.data ≠ .cell v
 hok:HOk X.prog X.w H s.heap
 len:σ.length=X.N.length
section
variable {pins:List (Addr×Obj)}{σ:List (Option V)}{H H':Hp}{s:Shared}{h':Heap}
def Cx.Ok.nofr(ok:X.Ok)(e:X.base.get? b=some o):b ∉ X.fs:=λhb=>by
 have:=(ok.funs.mem hb).1
 rw[e]at this;cases this
def Inv.bs(I:Inv X pins σ H s):∀ b o,X.base.get? b=some o->s.heap.get? b=some o/\H b=none:=λb o e=>
 ⟨I.base.keep b o (I.ok.bs b o e).1 (I.ok.bs b o e).2 (I.ok.nofr e) (I.ok.noex b o e),I.base.free b o (I.ok.bs b o e).1 (I.ok.bs b o e).2 (I.ok.noex b o e)⟩
def Inv.bk(I:Inv X pins σ H s):∀ b o,X.base.get? b=some o->s.heap.get? b=some o:=λb o e=>(I.bs b o e).1
def Inv.mod(I:Inv X pins σ H s):Mod X.K X.mg X.base:=I.ok.mod
def Inv.kIn(I:Inv X pins σ H s):X.K.In s.heap:=I.ok.mod.kin.keeps I.bk
def Inv.lt(I:Inv X pins σ H s):X.env.locals<s.heap.objs.size:=let ⟨_,hn,_⟩:=I.loc;hn.lt
def Inv.sz(I:Inv X pins σ H s):X.s₀.heap.objs.size<=s.heap.objs.size:=ZQ I.ok.above (Nat.le_of_lt I.lt)
def Inv.nofs(I:Inv X pins σ H s)(h:s.heap.objs.size<=a):a ∉ X.fs:=λhb=>by
 obtain⟨_,o,ho,_⟩:=I.ok.funs.mem hb
 exact absurd (WB (ZW ho) (ZQ I.sz h)) (Nat.lt_irrefl _)
def Inv.cne(I:Inv X pins σ H s):∀ x c,X.env.cells.lookup x=some c->c≠X.env.locals:=λx c e z=>by
 obtain⟨v,o,ho,hd⟩:=I.cell x c e
 obtain⟨m,⟨o',es,ep,ho',hd',_⟩,_⟩:=I.loc
 rw[z,ho']at ho;cases ho;rw[hd']at hd;cases hd
def Inv.funs(I:Inv X pins σ H s):s.heap.FunFrames X.base X.outer:=by
 have all:∀(l:List Env),(∀ b∈frs l,b∈X.fs)->X.s₀.heap.FunFrames X.base l->s.heap.FunFrames X.base l:=by
  intro l
  induction l with
  | nil=>intro _ _;trivial
  | cons env r ih=>
   intro hs hl
   obtain⟨hk,⟨L,o,hf,hn,ho,hd⟩,hr⟩:=hl
   have hL:L∈X.fs:=hs L (by unfold frs;rw[filterMap_cons,hf];exact WD)
   obtain⟨sl,e⟩:=I.base.slot L o ho (I.ok.frf L hL) hL λz=>I.ok.exfs L z hL
   exact⟨hk,⟨L,_,hf,hn,e,hd⟩,ih (λb hb=>hs b (by unfold frs;rw[filterMap_cons,hf];exact ZY _ hb)) hr⟩
 exact all X.outer (λ_ hb=>hb) I.ok.funs
def Inv.stack(I:Inv X pins σ H s):s.heap.FunFrames X.base X.stack:=by
 rcases I.ok.stk with e | ⟨e,hf⟩
 ·rw[e];exact I.funs
 ·rw[e]
  obtain⟨m,hn,_⟩:=I.loc
  refine .cons (by rw[I.ok.kind];decide) hf hn ?_ I.funs
  exact Heap.get?_none_of_le (ZQ I.ok.bsz I.ok.above)
def Inv.stkSub(I:Inv X pins σ H s):∀ b∈frs X.stack,b∈X.env.locals::X.fs:=λb hb=>by
 rcases I.ok.stk with e | ⟨e,hf⟩
 ·rw[e]at hb;exact ZY _ hb
 ·rw[e]at hb
  unfold frs at hb
  rw[filterMap_cons,hf]at hb
  exact hb
def Inv.stkFree(I:Inv X pins σ H s):∀ b∈frs X.stack,H b=none:=λb hb=>by
 rcases eB (I.stkSub b hb)with e | hb
 ·rw[e];exact I.free
 ·obtain⟨_,o,ho,_⟩:=I.ok.funs.mem hb
  exact I.base.free b o ho (I.ok.frf b hb) λz=>I.ok.exfs b z hb
def Inv.step{g':Array GenState}{t':Nat}{d':Drawn}{ch:List Addr}(I:Inv X pins σ H s)
  (hch:∀ b∈ch,(b∈X.ex\/X.s₀.heap.objs.size<=b)/\b≠X.env.locals/\(∀ x c,X.env.cells.lookup x=some c->c≠b) /\ ∀ p∈X.pn++pins,p.1≠b)
  (keep:∀ b o,b≠X.env.locals->b ∉ X.fs->b ∉ ch->s.heap.get? b=some o->H b=none->h'.get? b=some o)
  (slot:∀ b o,b≠X.env.locals->b∈X.fs->b ∉ ch->s.heap.get? b=some o->H b=none -> ∃ sl,h'.get? b=some { o with slots:=sl }) (free:∀ b o,b ∉ ch->s.heap.get? b=some o->H b=none->H' b=none)
  (there:∀ b o,b ∉ ch->s.heap.get? b=some o -> ∃ o',h'.get? b=some o')
  (tups:∀ b xs,H b=some (.tup xs)->H' b=some (.tup xs)) (frzs:∀ b o u,H b=some (.frz o u)->H' b=some (.frz o u)) (tbls:∀ b ps,H b=some (.tbl ps) -> ∃ more,H' b=some (.tbl (ps++more)))
  (ns:∀ m,s.heap.Ns X.env.locals m->h'.Ns X.env.locals m) (hok:HOk X.prog X.w H' h') (hg:AllBare g') :
  Inv X pins σ H' { s with heap:=h',gens:=g',drawn:=d',toks:=t' }:=by
 have neL:∀ b o,X.s₀.heap.get? b=some o->b≠X.env.locals:=λb o e=>WE (WB (ZW e) I.ok.above)
 have neC:∀ b o,X.s₀.heap.get? b=some o->b ∉ X.ex->b ∉ ch:=λb o e hx hb=>by
  rcases(hch b hb).1 with z | z
  ·exact hx z
  ·exact absurd (WB (ZW e) z) (Nat.lt_irrefl _)
 have cellK:∀ x c,X.env.cells.lookup x=some c -> ∀ v,s.heap.IsCell c v->h'.IsCell c v:=λx c e v ⟨o,ho,hd⟩=>by
  have nch:c ∉ ch:=λz=>(hch c z).2.2.1 x c e rfl
  by_cases hc:c∈X.fs
  ·obtain⟨sl,q⟩:=slot c o (I.cne x c e) hc nch ho (I.freeC x c e)
   exact⟨_,q,hd⟩
  ·exact⟨o,keep c o (I.cne x c e) hc nch ho (I.freeC x c e),hd⟩
 refine⟨I.ok,I.os,hg,⟨λb o e n hb hx=>?_,λb o e n hb hx=>?_,λb o e n hx=>?_,λb o e hx=>?_,λb xs e=>tups b xs (I.base.tups b xs e),λb o xs e=>frzs b o xs (I.base.frzs b o xs e),λb ps e=>?_⟩,?_,λx c e=>?_,?_,λx c e=>?_,λp hp=>?_,hok,I.len⟩
 ·exact keep b o (neL b o e) hb (neC b o e hx) (I.base.keep b o e n hb hx) (I.base.free b o e n hx)
 ·obtain⟨sl,e1⟩:=I.base.slot b o e n hb hx
  obtain⟨sl',e2⟩:=slot b _ (neL b o e) hb (neC b o e hx) e1 (I.base.free b o e n hx)
  exact⟨sl',e2⟩
 ·obtain⟨o',e1⟩:=I.base.there b o e hx
  exact free b o' (neC b o e hx) e1 (I.base.free b o e n hx)
 ·obtain⟨o',e1⟩:=I.base.there b o e hx
  exact there b o' (neC b o e hx) e1
 ·obtain⟨m1,e1⟩:=I.base.tbls b ps e
  obtain⟨m2,e2⟩:=tbls b _ e1
  exact⟨m1++m2,by rw[e2,Array.append_assoc]⟩
 ·obtain⟨m,hn,hl⟩:=I.loc
  refine⟨m,ns m hn,λi x v e1 e2 e3=>?_⟩
  obtain⟨u,r,l⟩:=hl i x v e1 e2 e3
  exists u,r
  rcases l with l | ⟨k,c,e,z⟩
  ·exact .inl l
  ·exact .inr ⟨k,c,e,cellK x c e _ z⟩
 ·obtain⟨v,z⟩:=I.cell x c e
  exact⟨v,cellK x c e v z⟩
 ·obtain⟨m,⟨o,_,_,ho,_⟩,_⟩:=I.loc
  exact free _ o (λz=>(hch _ z).2.1 rfl) ho I.free
 ·obtain⟨v,o,ho,hd⟩:=I.cell x c e
  exact free c o (λz=>(hch c z).2.2.1 x c e rfl) ho (I.freeC x c e)
 ·obtain⟨e,n,ne,nf,d⟩:=I.pin p hp
  have nch:p.1 ∉ ch:=λz=>(hch p.1 z).2.2.2 p hp rfl
  exact⟨keep p.1 p.2 ne nf nch e n,free p.1 p.2 nch e n,ne,nf,d⟩
def Inv.un{t':Nat}(I:Inv X pins σ H s)(u:Un X.fs [] H H' s.heap h')(hok:HOk X.prog X.w H' h'):Inv X pins σ H' { s with heap:=h',toks:=t' }:=by
 obtain⟨m,⟨o,es,ep,ho,r⟩,_⟩:=id I.loc
 obtain⟨sl,hL⟩:=u.any ho I.free (by simp)
 exact I.step (g':=s.gens) (d':=s.drawn) (ch:=[]) (λ_ z=>nomatch z) (λb o _ hb _ e n=>u.keep b o e n hb (by simp)) (λb o _ hb _ e n=>u.slot b o e n hb (by simp)) (λb o _ e n=>u.free b o e n (by simp)) (λb o _ e=>u.there b o e (by simp)) u.tups u.frzs u.tbls (λm' hm=>by
  obtain⟨o',es',ep',ho',r'⟩:=hm
  rw[ho]at ho';cases ho'
  exact⟨_,es',ep',hL,r'⟩) hok I.bare
def Inv.call{g':Array GenState}{t':Nat}{d':Drawn}{ch:List Addr}(I:Inv X pins σ H s)(u:Un (frs X.stack) ch H H' s.heap h')(hok:HOk X.prog X.w H' h')(hg:AllBare g')
  (hch:∀ b∈ch,(b∈X.ex\/X.s₀.heap.objs.size<=b)/\b≠X.env.locals/\(∀ x c,X.env.cells.lookup x=some c->c≠b) /\ ∀ p∈X.pn++pins,p.1≠b) :
  Inv X pins σ H' { s with heap:=h',gens:=g',drawn:=d',toks:=t' }:=by
 obtain⟨m,⟨o,es,ep,ho,r⟩,_⟩:=id I.loc
 obtain⟨sl,hL⟩:=u.any ho I.free λz=>(hch _ z).2.1 rfl
 exact I.step (ch:=ch) hch (λb o hL hb hc e n=>u.keep b o e n (λz=>(eB (I.stkSub b z)).elim hL hb) hc) (λb o _ _ hc e n=>u.any e n hc) (λb o hc e n=>u.free b o e n hc) (λb o hc e=>u.there b o e hc) u.tups u.frzs u.tbls (λm' hm=>by
  obtain⟨o',es',ep',ho',r'⟩:=hm
  rw[ho]at ho';cases ho'
  exact⟨_,es',ep',hL,r'⟩) hok hg
def Inv.turned{t':Nat}{it:Addr}(I:Inv X pins σ H s)(k:∀ b o,b≠it->s.heap.get? b=some o->h'.get? b=some o)(hn:H it=none)(hL:it≠X.env.locals)
  (h1:it∈X.ex\/X.s₀.heap.objs.size<=it) (h2:∀ x c,X.env.cells.lookup x=some c->c≠it) (h3:∀ p∈X.pn++pins,p.1≠it):Inv X pins σ H { s with heap:=h',toks:=t' }:=by
 have nit:∀ b u,H b=some u->b≠it:=λb u e z=>by rw[z,hn]at e;cases e
 refine I.step (g':=s.gens) (d':=s.drawn) (ch:=[it]) (λb hb=>?_) (λb o _ _ hc e _=>k b o (λz=>hc (by simp[z])) e) (λb o _ _ hc e _=>⟨o.slots,k b o (λz=>hc (by simp[z])) e⟩) (λ_ _ _ _ n=>n)
  (λb o hc e=>⟨o,k b o (λz=>hc (by simp[z])) e⟩) (λ_ _ e=>e) (λ_ _ _ e=>e) (λb ps e=>⟨#[],by rw[e];simp⟩) (λm hm=>?_) (λb u e=>?_) I.bare
 ·have e:b=it:=by simpa using hb
  subst e
  exact⟨h1,hL,h2,h3⟩
 ·obtain⟨o,es,ep,ho,r⟩:=hm
  exact⟨o,es,ep,k _ o (Ne.symm hL) ho,r⟩
 ·refine(I.hok b u e).stay (λc v hc q=>k c v ?_ q) (λ_ q=>q) λ_ _ q=>q
  rcases hc with z | z
  ·rw[z];exact nit b u e
  ·exact nit c _ z
def Inv.tok(I:Inv X pins σ H s)(t:Nat):Inv X pins σ H { s with toks:=t }:=I.un (h':=s.heap) (t':=t) Un.refl I.hok
def Inv.kept{t':Nat}(I:Inv X pins σ H s)(k:∀ b u,s.heap.get? b=some u->h'.get? b=some u):Inv X pins σ H { s with heap:=h',toks:=t' }:=I.un (Un.kept k) (I.hok.kept k)
def Inv.laid{t':Nat}(I:Inv X pins σ H s)(k:∀ b u,s.heap.get? b=some u->h'.get? b=some u)(hp:s.heap.objs.size<=a)(new:ObjOk X.prog X.w (upd H a o) h' a o) :
  Inv X pins σ (upd H a o) { s with heap:=h',toks:=t' }:=I.un (Un.laid k hp (I.hok.fresh hp)) (I.hok.laid k hp new)
def Inv.write{t':Nat}(I:Inv X pins σ H s)(mu:Mut (H x))(he:e=x\/H e=some (.own x))(k:∀ b u,b≠e->s.heap.get? b=some u->h'.get? b=some u)(heo:∃ u,h'.get? e=some u)
  (new:ObjOk X.prog X.w (upd H x o) h' x o):Inv X pins σ (upd H x o) { s with heap:=h',toks:=t' }:=I.un (Un.write mu he k heo) (I.hok.write mu he k heo new)
def Inv.pins_of(I:Inv X pins σ H s)(h:∀ p∈pins',s.heap.get? p.1=some p.2/\H p.1=none/\p.1≠X.env.locals/\p.1 ∉ X.fs /\ ∀ v,p.2.data ≠ .cell v):Inv X pins' σ H s:=
 ⟨I.ok,I.os,I.bare,I.base,I.loc,I.cell,I.free,I.freeC,λp hp=>(eC hp).elim (λz=>I.pin p (mem_append_left _ z)) (h p),I.hok,I.len⟩
def q547{N:List Str}(hN:N.Nodup){i j:Nat}(a:N[i]? = some x)(b:N[j]? = some x):i=j:=by
 obtain⟨h1,e1⟩:=eA a
 obtain⟨h2,e2⟩:=eA b
 exact(getElem_inj hN).mp (e1.trans e2.symm)
def q293{M:Model}{A:Around}{E:VS}{i:Nat}(I:Inv X pins σ H s)(hN:X.N.Nodup)(hi:X.N[i]? = some x)(hx:Loc X.env.scope x)(r:RelV v u)
  (h:∀ s',Inv X pins (σ.set i (some v)) H s'->(∃ a,Heap.SameBut a s.heap s'.heap/\(a=X.env.locals\/X.env.cells.lookup x=some a))->Q () s') (hf:X.fn x=true\/X.env.scope.names.lookup x=some .local:=by walk_at "a"):wpAny M A (storeName X.env x u) Q E s:=by
 obtain⟨m,hn,hl⟩:=id I.loc
 have hcls:(X.env.scope.kind == .class||(X.env.scope.kind == .module&&X.env.locals != X.env.globals))=false:=by rw[I.ok.kind];rfl
 have hiσ:i<σ.length:=by rw[I.len];exact(eA hi).1
 have cne:=I.cne
 have tracked:∀{a:Addr}{h':Heap},(∃ o,s.heap.get? a=some o/\H a=none)->Heap.SameBut a s.heap h'->HOk X.prog X.w H h':=fun {a h'} ha hs b ob e=>by
  obtain⟨_,_,hfree⟩:=ha
  refine(I.hok b ob e).stay (λc w' hc q=>(hs.2 c ?_).trans q) (λ_ q=>q) λ_ _ q=>q
  rintro rfl
  rcases hc with rfl | hc
  ·rw[hfree]at e;cases e
  ·rw[hfree]at hc;cases hc
 rcases hx with hk | hk
 ·refine wpAny_storeName_local hk hn (λh' hn' hs=>?_) hcls
  obtain⟨oL,_,_,hoL,_⟩:=id hn
  refine h _ ⟨I.ok,I.os,I.bare,⟨λb o e n hb hx=>?_,λb o e n hb hx=>?_,I.base.free,λb o e hx=>?_,I.base.tups,I.base.frzs,I.base.tbls⟩,⟨_,hn',λj y v' e1 e2 e3=>?_⟩,λy c e=>?_,I.free,I.freeC,λp hp=>?_,tracked ⟨oL,hoL,I.free⟩ hs,by simpa using I.len⟩ ⟨_,hs,.inl rfl⟩
  ·exact(hs.2 b (WE (WB (ZW e) I.ok.above))).trans (I.base.keep b o e n hb hx)
  ·obtain⟨sl,e1⟩:=I.base.slot b o e n hb hx
   exact⟨sl,(hs.2 b (WE (WB (ZW e) I.ok.above))).trans e1⟩
  ·obtain⟨o',e1⟩:=I.base.there b o e hx
   exact⟨o',(hs.2 b (WE (WB (ZW e) I.ok.above))).trans e1⟩
  ·by_cases hj:j=i
   ·subst hj
    rw[hi]at e1;cases e1
    rw[getElem?_set_self hiσ]at e2
    cases e2
    exact⟨u,r,.inl ⟨hk,by simp⟩⟩
   ·rw[getElem?_set_ne (Ne.symm hj)]at e2
    obtain⟨u',r',q⟩:=hl j y v' e1 e2 e3
    exists u',r'
    rcases q with ⟨k,e⟩ | ⟨k,c,e,z⟩
    ·refine .inl ⟨k,?_⟩
     have:y≠x:=λe=>hj (q547 hN e1 (e▸hi))
     simp[this,e]
    ·exact .inr ⟨k,c,e,z.sameBut hs (cne y c e)⟩
  ·obtain⟨w',z⟩:=I.cell y c e
   exact⟨w',z.sameBut hs (cne y c e)⟩
  ·obtain⟨e,n,ne,nf,d⟩:=I.pin p hp
   exact⟨(hs.2 p.1 ne).trans e,n,ne,nf,d⟩
 ·have hfn:X.fn x=true:=by
   rcases hf with z | z
   ·exact z
   ·rw[z]at hk;cases hk
  obtain⟨c,hc⟩:=I.ok.has x (.inl hk)
  obtain⟨w',z⟩:=I.cell x c hc
  refine wpAny_storeName_cell I.ok.kind hk hc z (λh' hc' hs=>?_)
  obtain⟨oc,hoc,hocd⟩:=id z
  refine h { s with heap:=h' } ⟨I.ok,I.os,I.bare,⟨λb o e n hb hx=>?_,λb o e n hb hx=>?_,I.base.free,λb o e hx=>?_,I.base.tups,I.base.frzs,I.base.tbls⟩,⟨m,hn.sameBut hs (Ne.symm (cne x c hc)),λj y v' e1 e2 e3=>?_⟩,λy c' e=>?_,I.free,I.freeC,λp hp=>?_,tracked ⟨oc,hoc,I.freeC x c hc⟩ hs,by simpa using I.len⟩ ⟨c,hs,.inr hc⟩
  ·exact(hs.2 b (WE (WB (ZW e) (I.ok.cab x c hfn hc)))).trans (I.base.keep b o e n hb hx)
  ·obtain⟨sl,e1⟩:=I.base.slot b o e n hb hx
   exact⟨sl,(hs.2 b (WE (WB (ZW e) (I.ok.cab x c hfn hc)))).trans e1⟩
  ·obtain⟨o',e1⟩:=I.base.there b o e hx
   exact⟨o',(hs.2 b (WE (WB (ZW e) (I.ok.cab x c hfn hc)))).trans e1⟩
  ·by_cases hj:j=i
   ·subst hj
    rw[hi]at e1;cases e1
    rw[getElem?_set_self hiσ]at e2
    cases e2
    exact⟨u,r,.inr ⟨.inl hk,c,hc,hc'⟩⟩
   ·rw[getElem?_set_ne (Ne.symm hj)]at e2
    obtain⟨u',r',q⟩:=hl j y v' e1 e2 e3
    exists u',r'
    rcases q with q | ⟨k,c',e,z'⟩
    ·exact .inl q
    ·refine .inr ⟨k,c',e,z'.sameBut hs ?_⟩
     rintro rfl
     exact hj (q547 hN e1 (I.ok.inj _ _ _ e hc▸hi))
  ·by_cases hcc:c'=c
   ·subst hcc;exact⟨_,hc'⟩
   ·obtain⟨w2,z2⟩:=I.cell y c' e
    exact⟨w2,z2.sameBut hs hcc⟩
  ·obtain⟨e,n,ne,nf,d⟩:=I.pin p hp
   refine⟨(hs.2 p.1 ?_).trans e,n,ne,nf,d⟩
   intro q
   rw[q,hoc]at e
   have q':oc=p.2:=Option.some.inj e
   exact d w' (by rw[<- q'];exact hocd)
def q280{M:Model}{A:Around}{E:VS}{i:Nat}(I:Inv X pins σ H s)(hN:X.N.Nodup)(hi:X.N[i]? = some x)(hx:Loc X.env.scope x)(r:RelV v u)
  (h:∀ s',Inv X pins (σ.set i (some v)) H s'->Q () s') (hf:X.fn x=true\/X.env.scope.names.lookup x=some .local:=by walk_at "a"):wpAny M A (storeName X.env x u) Q E s:=
 q293 I hN hi hx r (λs' I' _=>h s' I') hf
def Inv.call'{s':Shared}(I:Inv X pins σ H s)(ho:s'.os=s.os)(u:Un (frs X.stack) ch H H' s.heap s'.heap)(hok:HOk X.prog X.w H' s'.heap)(hg:AllBare s'.gens)
  (hch:∀ b∈ch,(b∈X.ex\/X.s₀.heap.objs.size<=b)/\b≠X.env.locals/\(∀ x c,X.env.cells.lookup x=some c->c≠b) /\ ∀ p∈X.pn++pins,p.1≠b):Inv X pins σ H' s':=by
 obtain⟨h',g',d',t',o'⟩:=s'
 have e:o'=s.os:=ho
 subst e
 exact I.call (g':=g') (t':=t') (d':=d') u hok hg hch
end
abbrev XK:=Value->Option Addr->Hp->Prop
abbrev St:=List (Option V)
abbrev VK:=V->Hp->Prop
abbrev TE:=St->Hp->VK->Prop
abbrev TT:=St->Hp->(Bool->Hp->Prop)->Prop
abbrev TA:=St->Hp->(List V->Hp->Prop)->Prop
structure Ends where
 nx:St->Hp->Prop
 rt:VK
 bk:St->Hp->Prop:=λ_ _=>False
 ct:St->Hp->Prop:=λ_ _=>False
abbrev TS:=Ends->St->Hp->Prop
inductive EP(X:Cx)(pins:List (Addr×Obj))(σ:St)(Q:VK)(u:Value)(s':Shared):Prop
 |mk(v:V)(H':Hp)(_:Inv X pins σ H' s')(_:RelV v u)(_:Q v H')
inductive TP(X:Cx)(pins:List (Addr×Obj))(σ:St)(Q:Bool->Hp->Prop)(b:Bool)(s':Shared):Prop
 |mk(H':Hp)(_:Inv X pins σ H' s')(_:Q b H')
inductive AP(X:Cx)(pins:List (Addr×Obj))(σ:St)(Q:List V->Hp->Prop)(us:List Value)(s':Shared):Prop
 |mk(vs:List V)(H':Hp)(_:Inv X pins σ H' s')(_:Vals vs us)(_:Q vs H')
inductive NP(X:Cx)(pins:List (Addr×Obj))(N:St->Hp->Prop)(s':Shared):Prop
 |mk(σ':St)(H':Hp)(_:Inv X pins σ' H' s')(_:N σ' H')
inductive RP(X:Cx)(pins:List (Addr×Obj))(R:VK)(u:Value)(s':Shared):Prop
 |mk(v:V)(σ':St)(H':Hp)(_:Inv X pins σ' H' s')(_:RelV v u)(_:R v H')
def SP(X:Cx)(pins:List (Addr×Obj))(D:Ends)(f:Flow)(s':Shared):Prop:=
 match f with
 | .next=>NP X pins D.nx s'
 | .brk=>NP X pins D.bk s'
 | .cont=>NP X pins D.ct s'
 | .ret u=>RP X pins D.rt u s'
def PE(X:Cx)(e:Expr)(t:TE):Prop:=
 ∀(pins:List (Addr×Obj)) (s:Shared) (σ:St) (H:Hp) (Q:VK),Inv X pins σ H s->t σ H Q->wpAny (model X.prog X.w) X.A (eval e X.env) (EP X pins σ Q) X.xe s
def PT(X:Cx)(e:Expr)(t:TT):Prop:=
 ∀(pins:List (Addr×Obj)) (s:Shared) (σ:St) (H:Hp) (Q:Bool->Hp->Prop),Inv X pins σ H s->t σ H Q->wpAny (model X.prog X.w) X.A (isTrue e X.env (eval e X.env)) (TP X pins σ Q) X.xe s
def PW(X:Cx)(e:Expr)(t:TT):Prop:=
 ∀(whole:Sem Value) (pins:List (Addr×Obj)) (s:Shared) (σ:St) (H:Hp) (Q:Bool->Hp->Prop),Inv X pins σ H s->t σ H Q->wpAny (model X.prog X.w) X.A (isTrue e X.env whole) (TP X pins σ Q) X.xe s
def PW.pt(h:PW X e t):PT X e t:=h _
def PA(X:Cx)(es:List Expr)(t:TA):Prop:=
 ∀(pos:Pos) (pins:List (Addr×Obj)) (s:Shared) (σ:St) (H:Hp) (Q:List V->Hp->Prop),Inv X pins σ H s->t σ H Q->wpAny (model X.prog X.w) X.A (spliced (backTo pos (starEach es X.env))) (AP X pins σ Q) X.xe s
def PS(X:Cx)(st:Stmt)(t:TS):Prop:=
 ∀(pins:List (Addr×Obj)) (s:Shared) (σ:St) (H:Hp) (D:Ends),Inv X pins σ H s->t D σ H->wpAny (model X.prog X.w) X.A (exec st X.env) (SP X pins D) X.xe s
def PSs(X:Cx)(st:List Stmt)(t:TS):Prop:=
 ∀(pins:List (Addr×Obj)) (s:Shared) (σ:St) (H:Hp) (D:Ends),Inv X pins σ H s->t D σ H->wpAny (model X.prog X.w) X.A (execs st X.env) (SP X pins D) X.xe s
def thn{α:Type}{t:Sem α}{Q Q':α->Shared->Prop}{M:Model}{A:Around}{E:VS}{s:Shared}(h:wpAny M A t Q E s)(hQ:∀ a s,Q a s->Q' a s):wpAny M A t Q' E s:=YJ h hQ λ_ _ x=>x
section
inductive tVar(i:Nat)(σ:St)(H:Hp)(Q:VK):Prop
 |mk(v:V)(_:σ[i]? = some (some v))(_:Q v H)
def tC(v:V):TE:=λ_ H Q=>Q v H
def q644{i:Nat}{pos:Pos}(hN:X.N[i]? = some x)(hv:Vis X.env.scope x)(hd:(x==("__debug__" : Str))=false:=by decide) (hcd:(x==("__classdict__" : Str))=false:=by decide):PE X (.Name x pos) (tVar i):=by
 intro pins s σ H Q I h
 obtain⟨v,e,h⟩:=h
 obtain⟨m,hn,hl⟩:=I.loc
 obtain⟨u,r,l⟩:=hl i x v hN e hv
 have fin:EP X pins σ Q u s:=⟨v,H,I,r,h⟩
 rcases l with ⟨hk,hm⟩ | ⟨hk,c,hc,hcell⟩
 ·exact wpAny_Name (wpAny_loadName_local I.ok.kind hk hn hm fin) hd
 ·rcases hk with hk | hk
  ·exact wpAny_Name (wpAny_loadName_cell I.ok.kind hk hc hcell fin) hd
  ·exact wpAny_Name (wpAny_loadName_free I.ok.kind hk hc hcell fin hcd) hd
def q14{i j pos}:PE X (.Constant (.int i) j pos) (tC (.int i)):=λ_ _ _ H _ I h=>wpAny_Constant_int ⟨.int i,H,I.tok _,⟨_,rfl⟩,h⟩
def pe_bl{b j pos}:PE X (.Constant (.bool b) j pos) (tC (.bl b)):=λ_ _ _ H _ I h=>Constant_bool ⟨.bl b,H,I,rfl,h⟩
def q65{j pos}:PE X (.Constant .none j pos) (tC .non):=λ_ _ _ H _ I h=>Constant_none ⟨.non,H,I,rfl,h⟩
def q34{x j pos}:PE X (.Constant (.str x) j pos) (tC (.str x)):=λ_ _ _ H _ I h=>Calls.Constant_str ⟨.str x,H,I.tok _,⟨_,rfl⟩,h⟩
def Gl(X:Cx)(x:Str):Prop:=X.env.kindOf x=some .globalImplicit
def q645{E:VS}{pos:Pos}(I:Inv X pins σ H s)(hg:Gl X x)(hm:X.mg x=some u)(h:Q u s)
  (hd:(x==("__debug__" : Str))=false:=by decide):wpAny (model X.prog X.w) X.A (eval (.Name x pos) X.env) Q E s:=
 Calls.Name_function_global I.ok.kind hg (Calls.loadGlobal_global (by rw[I.ok.glob];exact I.mod.glob.keeps I.bk) hm h) hd
def q367{E:VS}{pos:Pos}(I:Inv X pins σ H s)(hg:Gl X x)(hm:X.mg x=none)(hv:bootBuiltins x=some u)(h:Q u s)
  (hn:x ≠ "__name__" := by decide) (hd:(x==("__debug__" : Str))=false:=by decide):wpAny (model X.prog X.w) X.A (eval (.Name x pos) X.env) Q E s:=by
 obtain⟨mb,h1,h2⟩:=I.mod.blt
 exact Calls.Name_function_global I.ok.kind hg (Calls.loadGlobal_builtin (by rw[I.ok.glob];exact I.mod.glob.keeps I.bk) hm (by rw[I.ok.blt];exact h1.keeps I.bk) ((h2 x hn).trans hv) h) hd
def q294{pos:Pos}(hg:Gl X x)(hm:X.mg x=none)(hv:bootBuiltins x=some u)(r:RelV v u)(hn:x ≠ "__name__" := by decide) (hd:(x==("__debug__" : Str))=false:=by decide):PE X (.Name x pos) (tC v):=
 λ_ _ _ H _ I h=>q367 I hg hm hv ⟨v,H,I,r,h⟩ hn hd
variable{a b:Expr}{ta tb:TE}{pos:Pos}
inductive isB(x:V)(H:Hp)(Q:Bool->Hp->Prop):Prop
 |mk(c:Bool)(_:x = .bl c)(_:Q c H)
def tB(t:TE):TT:=λσ H Q=>t σ H λx H1=>isB x H1 Q
def q99{e:Expr}(h:PE X e t)(he:∀ whole,isTrue e X.env whole=(do let v <- whole;standAt e.pos;holding [v] (truthy v)):=by intro _;rfl):PT X e (tB t):=by
 intro pins s σ H Q I hw
 refine isTrue_plain (thn (h pins s σ H _ I hw) λv s1 ⟨x,H1,I1,r1,q1⟩=>?_) (he _)
 obtain⟨d,rfl,q⟩:=q1
 cases r1
 exact wpAny_truthy_bool ⟨H1,I1,q⟩
variable{tA tB':TT}{rest:List Expr}
def tAnd(t u:TT):TT:=λσ H Q=>t σ H λc H1=>if c=true then u σ H1 Q else Q false H1
def tOr(t u:TT):TT:=λσ H Q=>t σ H λc H1=>if c=true then Q true H1 else u σ H1 Q
def tNot(t:TT):TT:=λσ H Q=>t σ H λc H1=>Q (!c) H1
def q117(ha:PT X a tA):PW X (.BoolOp .And [a] pos) tA:=by
 intro wh pins s σ H Q I h
 refine isTrue_and (thn (ha pins s σ H Q I h) λc s1 e=>?_)
 cases c with
 | true=>exact isTrue_and_nil e
 | false=>exact e
def q111(ha:PT X a tA):PW X (.BoolOp .Or [a] pos) tA:=by
 intro wh pins s σ H Q I h
 refine isTrue_or (thn (ha pins s σ H Q I h) λc s1 e=>?_)
 cases c with
 | false=>exact isTrue_or_nil e
 | true=>exact e
def q148(ha:PT X a tA)(hb:PW X (.BoolOp .And (b::rest) pos) tB'):PW X (.BoolOp .And (a::b::rest) pos) (tAnd tA tB'):=by
 intro wh pins s σ H Q I h
 refine isTrue_and (thn (ha pins s σ H _ I h) λc s1 ⟨H1,I1,q1⟩=>?_)
 cases c with
 | true=>exact hb wh pins s1 σ H1 Q I1 q1
 | false=>exact⟨H1,I1,q1⟩
def pw_or(ha:PT X a tA)(hb:PW X (.BoolOp .Or (b::rest) pos) tB'):PW X (.BoolOp .Or (a::b::rest) pos) (tOr tA tB'):=by
 intro wh pins s σ H Q I h
 refine isTrue_or (thn (ha pins s σ H _ I h) λc s1 ⟨H1,I1,q1⟩=>?_)
 cases c with
 | true=>exact⟨H1,I1,q1⟩
 | false=>exact hb wh pins s1 σ H1 Q I1 q1
def q149(ha:PT X a tA):PT X (.UnaryOp .Not a pos) (tNot tA):=by
 intro pins s σ H Q I h
 exact isTrue_not (thn (ha pins s σ H (λc H1=>Q (!c) H1) I h) λc s' ⟨H1,I1,q⟩=>⟨H1,I1,q⟩)
def tAndV(ta tb:TE):TE:=λσ H Q=>ta σ H λx H1=>isB x H1 λc H1=>if c=true then tb σ H1 Q else Q (.bl false) H1
def tOrV(ta tb:TE):TE:=λσ H Q=>ta σ H λx H1=>isB x H1 λc H1=>if c=true then Q (.bl true) H1 else tb σ H1 Q
def tNotV(ta:TE):TE:=λσ H Q=>ta σ H λx H1=>isB x H1 λc H1=>Q (.bl (!c)) H1
def q250{op}(h:PE X a t):PE X (.BoolOp op [a] pos) t:=λpins s σ H Q I hw=>BoolOp_one (h pins s σ H Q I hw)
def q150(ha:PE X a ta)(hb:PE X (.BoolOp .And (b::rest) pos) tb):PE X (.BoolOp .And (a::b::rest) pos) (tAndV ta tb):=by
 intro pins s σ H Q I h
 refine BoolOp_and (thn (ha pins s σ H _ I h) λv s1 ⟨x,H1,I1,r1,q1⟩=>?_)
 obtain⟨c,rfl,q1⟩:=q1
 cases r1
 refine wpAny_truthy_bool ?_
 cases c with
 | true=>exact hb pins s1 σ H1 Q I1 q1
 | false=>exact⟨.bl false,H1,I1,rfl,q1⟩
def pe_or(ha:PE X a ta)(hb:PE X (.BoolOp .Or (b::rest) pos) tb):PE X (.BoolOp .Or (a::b::rest) pos) (tOrV ta tb):=by
 intro pins s σ H Q I h
 refine BoolOp_or (thn (ha pins s σ H _ I h) λv s1 ⟨x,H1,I1,r1,q1⟩=>?_)
 obtain⟨c,rfl,q1⟩:=q1
 cases r1
 refine wpAny_truthy_bool ?_
 cases c with
 | false=>exact hb pins s1 σ H1 Q I1 q1
 | true=>exact⟨.bl true,H1,I1,rfl,q1⟩
def pe_not(ha:PE X a ta):PE X (.UnaryOp .Not a pos) (tNotV ta):=by
 intro pins s σ H Q I h
 refine UnaryOp_ (thn (ha pins s σ H _ I h) λv s1 ⟨x,H1,I1,r1,q1⟩=>?_)
 obtain⟨c,rfl,q1⟩:=q1
 cases r1
 exact not_of (wpAny_truthy_bool ⟨.bl (!c),H1,I1,rfl,q1⟩)
def tIf(t:TT)(ta tb:TE):TE:=λσ H Q=>t σ H λc H1=>if c=true then ta σ H1 Q else tb σ H1 Q
def pe_ifExp(hc:PT X c tA)(ha:PE X a ta)(hb:PE X b tb):PE X (.IfExp c a b pos) (tIf tA ta tb):=by
 intro pins s σ H Q I h
 refine wpAny_IfExp (thn (hc pins s σ H _ I h) λd s1 ⟨H1,I1,q1⟩=>?_)
 cases d with
 | true=>exact ha pins s1 σ H1 Q I1 q1
 | false=>exact hb pins s1 σ H1 Q I1 q1
end
def SqL(K:Fg)(H:Hp)(a:Addr)(xs:List V):Prop:=
 Rd H a (.lst xs) \/
  ∃(o:Obj)(its:Array Value)(n:Nat),K.lookup a=some o/\o.cls = .type "list" /\ o.dict=none/\o.data = .seq its n/\its.size<=sizeLine/\Vals xs its.toList
def SqT(K:Fg)(H:Hp)(a:Addr)(xs:List V):Prop:=
 Rd H a (.tup xs) \/
  ∃(o:Obj)(its:Array Value)(n:Nat),K.lookup a=some o/\o.cls = .type "tuple" /\ o.data = .seq its n/\its.size<=sizeLine/\Vals xs its.toList
noncomputable def absV:Value->Option V
 | .none=>some .non
 | .bool b=>some (.bl b)
 | .int i _=>some (.int i)
 | .str x _=>some (.str x)
 | .bytes b _=>some (.byt b)
 | .float b _=>some (.flt b)
 | .ref a=>some (.ref a)
 | .type n=>some (.ty n)
 | _=>none
def RelV.abs(r:RelV x u):absV u=some x:=by
 cases x with
 | non=>cases r;rfl
 | bl _=>cases r;rfl
 | int _=>obtain⟨t,rfl⟩:=r;rfl
 | str _=>obtain⟨t,rfl⟩:=r;rfl
 | byt _=>obtain⟨t,rfl⟩:=r;rfl
 | flt _=>obtain⟨t,rfl⟩:=r;rfl
 | ref _=>cases r;rfl
 | ty _=>cases r;rfl
def RelV.inj(r:RelV x u)(q:RelV y u):x=y:=Option.some.inj (r.abs.symm.trans q.abs)
theorem Vals.inj:∀{xs ys:List V}{us:List Value},Vals xs us->Vals ys us->xs=ys
 | _,_,_,.nil,.nil=>rfl
 | _,_,_,.cons r t,.cons r' t'=>by rw[r.inj r',Vals.inj t t']
section
variable {pins:List (Addr×Obj)}{σ:St}{H:Hp}{s:Shared}{a:Addr}{xs ys:List V}
def SqL.of{K:Fg}(h:H a=some (.lst xs)):SqL K H a xs:=.inl (.inl h)
def SqT.of{K:Fg}(h:H a=some (.tup xs)):SqT K H a xs:=.inl (.inl h)
def Inv.list(I:Inv X pins σ H s)(h:SqL X.K H a xs):∃ its:List Value,Vals xs its/\PlainL s.heap a its.toArray/\xs.length<=sizeLine:=by
 rcases h with h | ⟨o,its,n,hk,hc,hd,hs,hz,r⟩
 ·obtain⟨z,its,n,r,e⟩:=h.ok I.hok
  exact⟨its,r,⟨_,n,e,rfl,rfl,rfl⟩,z⟩
 ·exists its.toList,r,⟨o,n,I.kIn a o hk,hc,hd,by simpa using hs⟩
  have e:=r.length
  simp only[ZX]at e
  lia
def Inv.tuple(I:Inv X pins σ H s)(h:SqT X.K H a xs):∃ its:List Value,Vals xs its/\IsTup s.heap a its.toArray/\xs.length<=sizeLine:=by
 rcases h with h | ⟨o,its,n,hk,hc,hs,hz,r⟩
 ·obtain⟨z,its,r,p⟩:=h.ok I.hok
  exact⟨its,r,p,z⟩
 ·exists its.toList,r,⟨o,I.kIn a o hk,hc,n,by simpa using hs⟩
  have e:=r.length
  simp only[ZX]at e
  lia
def Inv.list_inj(I:Inv X pins σ H s)(h:SqL X.K H a xs)(h':SqL X.K H a ys):xs=ys:=by
 obtain⟨its,r,⟨o,n,e,_,_,d⟩,_⟩:=I.list h
 obtain⟨its',r',⟨o',n',e',_,_,d'⟩,_⟩:=I.list h'
 rw[e]at e';cases e'
 rw[d]at d'
 injection d' with d1 _
 have:its=its':=by simpa using congrArg Array.toList d1
 subst this
 exact r.inj r'
def Inv.tuple_inj(I:Inv X pins σ H s)(h:SqT X.K H a xs)(h':SqT X.K H a ys):xs=ys:=by
 obtain⟨its,r,⟨o,e,_,n,d⟩,_⟩:=I.tuple h
 obtain⟨its',r',⟨o',e',_,n',d'⟩,_⟩:=I.tuple h'
 rw[e]at e';cases e'
 rw[d]at d'
 injection d' with d1 _
 have:its=its':=by simpa using congrArg Array.toList d1
 subst this
 exact r.inj r'
end
noncomputable abbrev Cx.wish(X:Cx)(E:VS):Cx:={ X with xe:=E }
noncomputable abbrev Cx.nox(X:Cx):Cx:=X.wish λ_ _=>False
def Cx.Ok.wish{X:Cx}(ok:X.Ok)(E:VS):(X.wish E).Ok:=
 ⟨ok.mod,ok.kind,ok.glob,ok.blt,ok.above,ok.inj,ok.has,ok.cab,ok.hd,ok.frames,ok.stk,ok.exf,ok.bs,ok.bsz,ok.noex,ok.exfs,ok.funs,ok.frf⟩
def Cx.Ok.unwish{X:Cx}(ok:(X.wish E).Ok):X.Ok:=
 ⟨ok.mod,ok.kind,ok.glob,ok.blt,ok.above,ok.inj,ok.has,ok.cab,ok.hd,ok.frames,ok.stk,ok.exf,ok.bs,ok.bsz,ok.noex,ok.exfs,ok.funs,ok.frf⟩
section
variable {pins:List (Addr×Obj)}{σ:St}{H:Hp}{s:Shared}{E:VS}
def Inv.wish(I:Inv X pins σ H s)(E:VS):Inv (X.wish E) pins σ H s:=⟨I.ok.wish E,I.os,I.bare,I.base,I.loc,I.cell,I.free,I.freeC,I.pin,I.hok,I.len⟩
def Inv.unwish(I:Inv (X.wish E) pins σ H s):Inv X pins σ H s:=⟨I.ok.unwish,I.os,I.bare,I.base,I.loc,I.cell,I.free,I.freeC,I.pin,I.hok,I.len⟩
def SP.unwish(h:SP (X.wish E) pins D f s'):SP X pins D f s':=by
 cases f with
 | next=>obtain⟨σ',H',I,q⟩:=h;exact⟨σ',H',I.unwish,q⟩
 | brk=>obtain⟨σ',H',I,q⟩:=h;exact⟨σ',H',I.unwish,q⟩
 | cont=>obtain⟨σ',H',I,q⟩:=h;exact⟨σ',H',I.unwish,q⟩
 | ret u=>obtain⟨v,σ',H',I,r,q⟩:=h;exact⟨v,σ',H',I.unwish,r,q⟩
def PSs.nox{st:List Stmt}{t:TS}(h:PSs X.nox st t):PSs X st t:=λpins s σ H D I hw=>
 YJ (h pins s σ H D (I.wish _) hw) (λ_ _ q=>q.unwish) λ_ _ z=>False.elim z
end
section
variable {st:Stmt}{rest:List Stmt}{t u:TS}{e:Expr}{te:TE}{pos:Pos}
def tNext:TS:=λD σ H=>D.nx σ H
def tSeq(t u:TS):TS:=λD σ H=>t { D with nx:=u D } σ H
def q22:PSs X [] tNext:=λ_ _ σ H _ I h=>wpAny_execs_nil ⟨σ,H,I,h⟩
def q11(h1:PS X st t)(h2:PSs X rest u):PSs X (st::rest) (tSeq t u):=by
 intro pins s σ H D I h
 refine wpAny_execs_cons (thn (h1 pins s σ H { D with nx:=u D } I h) λf s1 q=>?_)
 cases f with
 | next=>
  obtain⟨σ',H',I',q⟩:=q
  exact h2 pins s1 σ' H' D I' q
 | ret v=>exact q
 | brk=>exact q
 | cont=>exact q
def q16(h1:PS X st t):PSs X [st] t:=by
 intro pins s σ H D I h
 refine wpAny_execs_cons (thn (h1 pins s σ H D I h) λf s1 q=>?_)
 cases f with
 | next=>exact wpAny_execs_nil q
 | ret v=>exact q
 | brk=>exact q
 | cont=>exact q
def Inv.quiet(I:Inv X pins σ H s):interactive X.env=false:=by simp[interactive,I.ok.kind]
def tDrop(te:TE):TS:=λD σ H=>te σ H λ_ H1=>D.nx σ H1
def q129(he:PE X e te)(hs:swapsWith e none pos.line X.env=pure false:=by rfl):PS X (.Expr e pos) (tDrop te):=by
 intro pins s σ H D I h
 exact wpAny_Expr_any (thn (he pins s σ H _ I h) λv s1 ⟨x,H1,I1,r1,q1⟩=>⟨σ,H1,I1,q1⟩) I.quiet hs
def tRet(te:TE):TS:=λD σ H=>te σ H D.rt
def q20(he:PE X e te):PS X (.Return (some e) pos) (tRet te):=by
 intro pins s σ H D I h
 exact wpAny_Return_some (thn (he pins s σ H _ I h) λv s1 ⟨x,H1,I1,r1,q1⟩=>⟨x,σ,H1,I1,r1,q1⟩)
def tIfS(c:TT)(t u:TS):TS:=λD σ H=>c σ H λb H1=>if b=true then t D σ H1 else u D σ H1
def ps_if(hc:PT X c tc)(ha:PSs X a t)(hb:PSs X b u):PS X (.If c a b pos) (tIfS tc t u):=by
 intro pins s σ H D I h
 refine wpAny_If (thn (hc pins s σ H _ I h) λd s1 ⟨H1,I1,q1⟩=>?_)
 cases d with
 | true=>exact ha pins s1 σ H1 D I1 q1
 | false=>exact hb pins s1 σ H1 D I1 q1
def tNever:TS:=λ_ _ _=>False
def q201:PS X st tNever:=λ_ _ _ _ _ _ h=>h.elim
end
abbrev TG:=V->St->Hp->(St->Hp->Prop)->Prop
abbrev TGs:=List V->St->Hp->(St->Hp->Prop)->Prop
def PG(X:Cx)(target:Expr)(t:TG):Prop:=
 ∀(pins:List (Addr×Obj)) (s:Shared) (σ:St) (H:Hp) (v:V) (u:Value) (Q:St->Hp->Prop),Inv X pins σ H s->RelV v u->t v σ H Q ->
  wpAny (model X.prog X.w) X.A (assign target X.env u) (λ_ s'=>NP X pins Q s') X.xe s
def PGs(X:Cx)(ts:List Expr)(t:TGs):Prop:=
 ∀(pins:List (Addr×Obj)) (s:Shared) (σ:St) (H:Hp) (vs:List V) (us:List Value) (Q:St->Hp->Prop),Inv X pins σ H s->Vals vs us->t vs σ H Q ->
  wpAny (model X.prog X.w) X.A (assignInOrder ((assignEach ts X.env).map (·.2)) us) (λ_ s'=>NP X pins Q s') X.xe s
abbrev TSet:=V->V->V->Hp->(Hp->Prop)->Prop
def PSet(X:Cx)(t:TSet):Prop:=
 ∀(pins:List (Addr×Obj)) (s:Shared) (σ:St) (H:Hp) (o i v:V) (ov iv u:Value) (Q:Hp->Prop),Inv X pins σ H s->RelV o ov->RelV i iv->RelV v u->t o i v H Q ->
  wpAny (model X.prog X.w) X.A (setItem ov iv u) (λ_ s'=>∃ H',Inv X pins σ H' s'/\Q H') X.xe s
section
variable {pos:Pos}
def gName(i:Nat):TG:=λv σ H Q=>Q (σ.set i (some v)) H
def q100{i:Nat}(hN:X.N.Nodup)(hi:X.N[i]? = some x)(hx:Loc X.env.scope x)(hf:X.fn x=true\/X.env.scope.names.lookup x=some .local:=by walk_at "a"):PG X (.Name x pos) (gName i):=by
 intro pins s σ H v u Q I r h
 exact wpAny_assign_Name (q280 I hN hi hx r (λs' I'=>⟨_,H,I',h⟩) hf)
def gNil:TGs:=λvs σ H Q=>vs=[]/\Q σ H
inductive gCons(t:TG)(u:TGs)(vs:List V)(σ:St)(H:Hp)(Q:St->Hp->Prop):Prop
 |mk(v:V)(r:List V)(_:vs=v::r)(_:t v σ H λσ' H'=>u r σ' H' Q)
def q71:PGs X [] gNil:=by
 intro pins s σ H vs us Q I r h
 obtain⟨e,h⟩:=h
 subst e
 cases r
 exact assignInOrder_nil ⟨σ,H,I,h⟩
theorem q28(h1:PG X e t)(h2:PGs X es u)
  (hs:(assignEach (e::es) X.env).map (·.2)=assign e X.env::(assignEach es X.env).map (·.2):=by rfl):PGs X (e::es) (gCons t u):=by
 intro pins s σ H vs us Q I r h
 obtain⟨v,vr,e1,h⟩:=h
 subst e1
 cases r with
 | cons r rr=>
  rw[hs]
  refine assignInOrder_cons (thn (h1 pins s σ H _ _ _ I r h) λ_ s1 ⟨σ1,H1,I1,q1⟩=>?_)
  exact h2 pins s1 σ1 H1 _ _ Q I1 rr q1
inductive gTup(K:Fg)(n:Nat)(t:TGs)(v:V)(σ:St)(H:Hp)(Q:St->Hp->Prop):Prop
 |mk(a:Addr)(xs:List V)(_:v = .ref a)(_:SqT K H a xs)(_:xs.length=n)(_:t xs σ H Q)
def q151{k:Nat}{n:Nat}(hc:X.calm=true)(h:PGs X es t)
  (hn:(assignEach es X.env).length=n:=by rfl) (hst:(assignEach es X.env).findIdx? (·.1)=none:=by rfl):PG X (.Tuple es k pos) (gTup X.K n t):=by
 intro pins s σ H v u Q I r hw
 obtain⟨a,xs,e1,hq,hl,hw⟩:=hw
 subst e1
 cases r
 obtain⟨its,rv,ht,hz⟩:=I.tuple hq
 refine assign_Tuple_tuple (I.ok.hd hc) ht (by simp[hn,<- hl,rv.length]) hst λh' hx=>?_
 have I1:Inv X pins σ H { s with heap:=h' }:=I.kept (t':=s.toks) λb o e=>hx b o (WE (ZW e)) e
 exact h pins _ σ H xs _ Q I1 (by simpa using rv) hw
def gSub(to ti:TE)(t:TSet):TG:=λv σ H Q=>to σ H λo H1=>ti σ H1 λi H2=>t o i v H2 λH3=>Q σ H3
def q646(ho:PE X o to)(hi:PE X i ti)(hs:PSet X t)
  (ha:∀ v,assign (.Subscript o i pos) X.env v=(do
   let ov <- holding [v] (eval o X.env)
   let iv <- holding [v,ov] (eval i X.env)
   standAt pos
   holding [v,ov,iv] (setItem ov iv v)
   release [v,ov,iv] []):=by intro _;rfl):PG X (.Subscript o i pos) (gSub to ti t):=by
 intro pins s σ H v u Q I r h
 rw[ha]
 refine ZC (YW (thn (ho pins s σ H _ I h) λov s1 ⟨x,H1,I1,r1,q1⟩=>?_))
 refine ZC (YW (thn (hi pins s1 σ H1 _ I1 q1) λiv s2 ⟨y,H2,I2,r2,q2⟩=>?_))
 refine ZC (wpAny_standAt (ZC (YW (thn (hs pins s2 σ H2 x y v ov iv u _ I2 r1 r2 r q2) λ_ s3 ⟨H3,I3,q3⟩=>?_))))
 exact wpAny_release ⟨σ,H3,I3,q3⟩
noncomputable def tAsg(te:TE)(g:TG):TS:=λD σ H=>te σ H λx H1=>g x σ H1 D.nx
def q251(he:PE X e te)(hg:PG X tg g)(hs:swapsWithSole [tg] e pos.line X.env=pure false:=by rfl)(hw:swappedStores [tg] e X.env=pure none:=by rfl)
  (h1:(assignEach [tg] X.env).map (·.2)=[assign tg X.env]:=by rfl):PS X (.Assign [tg] e pos) (tAsg te g):=by
 intro pins s σ H D I h
 refine wpAny_Assign_stores (thn (he pins s σ H _ I h) λv s1 ⟨x,H1,I1,r1,q1⟩=>?_) hs hw
 rw[h1]
 exact thn (hg pins s1 σ H1 x v _ I1 r1 q1) λ_ s2 q=>q
def ps_set{i:Nat}(hN:X.N.Nodup)(hi:X.N[i]? = some x)(hx:Loc X.env.scope x)(he:PE X e te)(hs:swapsWith e (some (.Name x pos')) pos.line X.env=pure false:=by rfl)(hf:X.fn x=true\/X.env.scope.names.lookup x=some .local:=by walk_at "a") :
  PS X (.Assign [.Name x pos'] e pos) (tAsg te (gName i)):=by
 intro pins s σ H D I h
 refine wpAny_Assign_Name (thn (he pins s σ H _ I h) λv s1 ⟨y,H1,I1,r1,q1⟩=>?_) hs
 exact q280 I1 hN hi hx r1 (λs2 I2=>⟨_,H1,I2,q1⟩) hf
end
section
variable {pos:Pos}
inductive tWhile(c:TT)(tb:TS)(D:Ends)(σ:St)(H:Hp):Prop
 |mk(W:Nat->St->Hp->Prop)(_:(∃ m,W m σ H))(_:∀ m σ H,W m σ H->c σ H λb H1=>if b=true then ∃ N:St->Hp->Prop,(∀ σ' H',N σ' H' -> ∃ m',m'<m/\W m' σ' H')/\tb { D with nx:=N,ct:=N,bk:=D.nx } σ H1 else D.nx σ H1)
def ps_while(hp:PassesOwn (model X.prog X.w) X.A X.env X.xe)(hc:PT X c tc)(hb:PSs X body tb):PS X (.While c body [] pos) (tWhile tc tb):=by
 intro pins s σ H D I h
 obtain⟨W,⟨m0,w0⟩,turn⟩:=h
 refine wpAny_While (codeAny_whileLoop (λn s'=>∃ σ' H',Inv X pins σ' H' s'/\W n σ' H') ?_ m0 ⟨σ,H,I,w0⟩)
 rintro n s1 ⟨σ1,H1,I1,w1⟩
 refine wpAny_passesOwn hp (thn (hc pins s1 σ1 H1 _ I1 (turn n σ1 H1 w1)) λb s2 ⟨H2,I2,q2⟩=>?_)
 cases b with
 | true=>
  obtain⟨N,hN,q2⟩:=q2
  rw[ZL rfl]
  refine wpAny_passesOwn hp (thn (hb pins s2 σ1 H2 _ I2 q2) λf s3 q3=>?_)
  cases f with
  | next=>
   obtain⟨σ3,H3,I3,n3⟩:=q3
   obtain⟨m',hm,w3⟩:=hN σ3 H3 n3
   exact⟨m',hm,σ3,H3,I3,w3⟩
  | cont=>
   obtain⟨σ3,H3,I3,n3⟩:=q3
   obtain⟨m',hm,w3⟩:=hN σ3 H3 n3
   exact⟨m',hm,σ3,H3,I3,w3⟩
  | brk=>exact q3
  | ret v=>exact q3
 | false=>
  rw[ZJ fnt]
  exact wpAny_execs_nil ⟨σ1,H2,I2,q2⟩
end
structure It where
 go:Nat->Hp->Prop
 yld:Nat->Hp->V->Hp->Prop
 stop:Nat->Hp->Prop
noncomputable def FpOk(X:Cx)(pins:List (Addr×Obj))(H:Hp)(b:Addr):Prop:=
 H b=none/\b≠X.env.locals/\b ∉ X.fs/\(b∈X.ex\/X.s₀.heap.objs.size<=b)/\(∀ x c,X.env.cells.lookup x=some c->c≠b) /\ ∀ p∈X.pn++pins,p.1≠b
def Inv.fpOk{s:Shared}(I:Inv X pins σ H s)(hb:s.heap.objs.size<=b)(hn:H' b=none):FpOk X pins H' b:=by
 refine⟨hn,Nat.ne_of_gt (WB I.lt hb),I.nofs hb,.inr (ZQ I.sz hb),λx c e z=>?_,λp hp z=>?_⟩
 ·obtain⟨v,q⟩:=I.cell x c e
  exact absurd (WB q.lt (by rw[z];exact hb)) (Nat.lt_irrefl _)
 ·exact absurd (WB (ZW (I.pin p hp).1) (by rw[z];exact hb)) (Nat.lt_irrefl _)
structure Turn(P:Program)(w:World)(K:Fg)(tg:Expr)(J:It)(fp:List Addr)(it:Addr)(tn:Nat->Heap->Prop):Prop where
 mem:it∈fp
 obj:∀ i h,tn i h -> ∀ b∈fp,∃ o,h.get? b=some o /\ ∀ v,o.data ≠ .cell v
 keep:∀ i h h',tn i h->(∀ b∈fp,∀ o,h.get? b=some o->h'.get? b=some o)->tn i h'
 item:∀(X:Cx),X.prog=P->X.w=w->X.K=K->X.calm=true -> ∀(i:Nat) (pins:List (Addr×Obj)) (s:Shared) (σ:St) (H:Hp) (E:VS),Inv X pins σ H s->(∀ b∈fp,FpOk X pins H b)->tn i s.heap->J.go i H ->
  wpAny (model P w) X.A (pyNext (.ref it)) (λr s1=>∃ u,r=some u /\
   wpAny (model P w) X.A (letOwnedTupleGo tg (.ref it) u) (λ_ s2=>∃ x H',Inv X pins σ H' s2/\RelV x u/\J.yld i H x H'/\tn (i+1) s2.heap /\ ∀ b∈fp,H' b=none) E s1) E s
 done:∀(X:Cx),X.prog=P->X.w=w->X.K=K->X.calm=true -> ∀(i:Nat) (pins:List (Addr×Obj)) (s:Shared) (σ:St) (H:Hp) (E:VS),Inv X pins σ H s->(∀ b∈fp,FpOk X pins H b)->tn i s.heap->J.stop i H ->
  wpAny (model P w) X.A (pyNext (.ref it)) (λr s1=>r=none/\Inv X pins σ H s1) E s
 self:∀(A:Around)(i:Nat)(s:Shared)(Q:VS)(E:VS),tn i s.heap->Q (.ref it) s->wpAny (model P w) A (pyIter (.ref it)) Q E s
abbrev TI:=St->Hp->(It->Hp->Prop)->Prop
inductive PIE(X:Cx)(pins:List (Addr×Obj))(σ:St)(tg:Expr)(R:It->Hp->Prop)(itv:Value)(s2:Shared):Prop
 |mk(it:Addr)(fp:List Addr)(tn:Nat->Heap->Prop)(J:It)(H':Hp)(_:itv = .ref it)(_:Inv X pins σ H' s2)(_:Turn X.prog X.w X.K tg J fp it tn)(_:tn 0 s2.heap)(_:∀ b∈fp,FpOk X pins H' b)(_:R J H')
def PI(X:Cx)(tg itr:Expr)(wi:TI):Prop:=
 ∀(pins:List (Addr×Obj)) (s:Shared) (σ:St) (H:Hp) (R:It->Hp->Prop),Inv X pins σ H s->wi σ H R ->
  wpAny (model X.prog X.w) X.A (eval itr X.env) (λv s1=>wpAny (model X.prog X.w) X.A (pyIter v) (PIE X pins σ tg R) X.xe s1) X.xe s
def go_of{s:Shared}{o:Obj}(ho:s.heap.get? it=some o)(hc:o.cls = .type n)(hd:o.data = .fields vs)
  (hn:["enumerate", "zip", "dict_itemiterator", "dict_reverseitemiterator", "odict_iterator", "itertools.zip_longest", "itertools.pairwise"].contains n=false) (hQ:Q () s):wpAny M A (letOwnedTupleGo tg (.ref it) u) Q E s:=by
 unfold letOwnedTupleGo
 cases tg <;> first
  | exact ZM hQ
  | (cases u <;> first
    | exact ZM hQ
    | (refine ZC (wpAny_load ho ?_)
       rw[hc,hd]
       show wpAny M A (if(["enumerate", "zip", "dict_itemiterator", "dict_reverseitemiterator", "odict_iterator", "itertools.zip_longest", "itertools.pairwise"].contains n&&vs[0]?==some (rawInt _))=true then _ else _) Q E s
       rw[ZJ (by intro h;rw[hn,WP]at h;cases h)]
       exact ZM hQ))
def Itl(K:Fg)(a:Addr):It:=
 ⟨λi H=>∃ xs x,SqL K H a xs/\xs[i]? = some x,λi H x H'=>H'=H /\ ∀ xs,SqL K H a xs->xs[i]? = some x,λi H=>∃ xs,SqL K H a xs/\xs.length<=i⟩
noncomputable def Itt(K:Fg)(a:Addr):It:=
 ⟨λi H=>∃ xs x,SqT K H a xs/\xs[i]? = some x,λi H x H'=>H'=H /\ ∀ xs,SqT K H a xs->xs[i]? = some x,λi H=>∃ xs,SqT K H a xs/\xs.length<=i⟩
noncomputable def Itr(lo:Int)(n:Nat):It:=⟨λi _=>i<n,λi H x H'=>H'=H/\x = .int (lo+i),λi _=>n<=i⟩
def q647{P:Program}{w:World}{K:Fg}{tg:Expr}(a it:Addr):Turn P w K tg (Itl K a) [it] it (λi h=>h.IsListIter it a i) where
 mem:=by simp
 obj:=λi h st b hb=>by
  have e:b=it:=by simpa using hb
  subst e
  obtain⟨o,e,c,d⟩:=st
  exact⟨o,e,λv z=>by rw[d]at z;cases z⟩
 keep:=λi h h' st k=>st.at λo e=>k it (by simp) o e
 item:=by
  intro X hP hw hK hc i pins s σ H E I hf st hg
  subst hP hw hK
  obtain⟨xs,x,hq,hx⟩:=hg
  obtain⟨its,rv,p,hz⟩:=I.list hq
  obtain⟨u,hu,ru⟩:=rv.get hx
  obtain⟨f0,f1,f2,f3,f4,f5⟩:=hf it (by simp)
  refine wpAny_pyNext_list_item st p.isList (x:=u) (by simpa using hu) λh' st' sb=>?_
  have I1:Inv X pins σ H { s with heap:=h' }:=I.turned (t':=s.toks) (λb o hb e=>(sb.2 b hb).trans e) f0 f1 f3 f4 f5
  obtain⟨o,e,c,d⟩:=id st'
  exact⟨u,rfl,go_of (s:={ s with heap:=h' }) e c d ∅ ⟨x,H,I1,ru,⟨rfl,λys hy=>by rw[I.list_inj hy hq];exact hx⟩,st',λb hb=>(hf b hb).1⟩⟩
 done:=by
  intro X hP hw hK hc i pins s σ H E I hf st hg
  subst hP hw hK
  obtain⟨xs,hq,hx⟩:=hg
  obtain⟨its,rv,p,hz⟩:=I.list hq
  obtain⟨f0,f1,f2,f3,f4,f5⟩:=hf it (by simp)
  have hl:=rv.length
  exact wpAny_pyNext_list_end (I.ok.hd hc) st p.isList (by simp;lia) λh' eb=>⟨rfl,I.turned (t':=s.toks) (λb o hb e=>eb b o hb e) f0 f1 f3 f4 f5⟩
 self:=λ_ _ _ _ _ st h=>wpAny_pyIter_listiter st h
def q593{P:Program}{w:World}{K:Fg}{tg:Expr}(a it:Addr):Turn P w K tg (Itt K a) [it] it (λi h=>h.IsTupleIter it a i) where
 mem:=by simp
 obj:=λi h st b hb=>by
  have e:b=it:=by simpa using hb
  subst e
  obtain⟨o,e,c,d⟩:=st
  exact⟨o,e,λv z=>by rw[d]at z;cases z⟩
 keep:=λi h h' st k=>st.at λo e=>k it (by simp) o e
 item:=by
  intro X hP hw hK hc i pins s σ H E I hf st hg
  subst hP hw hK
  obtain⟨xs,x,hq,hx⟩:=hg
  obtain⟨its,rv,p,hz⟩:=I.tuple hq
  obtain⟨u,hu,ru⟩:=rv.get hx
  obtain⟨f0,f1,f2,f3,f4,f5⟩:=hf it (by simp)
  refine wpAny_pyNext_tuple_item st (show s.heap.IsTuple a its.toArray from p) (x:=u) (by simpa using hu) λh' st' sb=>?_
  have I1:Inv X pins σ H { s with heap:=h' }:=I.turned (t':=s.toks) (λb o hb e=>(sb.2 b hb).trans e) f0 f1 f3 f4 f5
  obtain⟨o,e,c,d⟩:=id st'
  exact⟨u,rfl,go_of (s:={ s with heap:=h' }) e c d ∅ ⟨x,H,I1,ru,⟨rfl,λys hy=>by rw[I.tuple_inj hy hq];exact hx⟩,st',λb hb=>(hf b hb).1⟩⟩
 done:=by
  intro X hP hw hK hc i pins s σ H E I hf st hg
  subst hP hw hK
  obtain⟨xs,hq,hx⟩:=hg
  obtain⟨its,rv,p,hz⟩:=I.tuple hq
  obtain⟨f0,f1,f2,f3,f4,f5⟩:=hf it (by simp)
  have hl:=rv.length
  exact wpAny_pyNext_tuple_end (I.ok.hd hc) st (show s.heap.IsTuple a its.toArray from p) (by simp;lia) λh' eb=>⟨rfl,I.turned (t':=s.toks) (λb o hb e=>eb b o hb e) f0 f1 f3 f4 f5⟩
 self:=λ_ _ _ _ _ st h=>wpAny_pyIter_tupleiter st h
def q594{P:Program}{w:World}{K:Fg}{tg:Expr}(it:Addr)(lo:Int)(n:Nat):Turn P w K tg (Itr lo n) [it] it (λi h=>IsRangeIter h it (lo+(i:Nat)*1) ((n:Int)-(i:Nat)) 1) where
 mem:=by simp
 obj:=λi h st b hb=>by
  have e:b=it:=by simpa using hb
  subst e
  exact⟨_,st,λv z=>by
   have z':Data.fields _=Data.cell v:=z
   cases z'⟩
 keep:=λi h h' st k=>k it (by simp) _ st
 item:=by
  intro X hP hw hK hc i pins s σ H E I hf st hg
  subst hP hw hK
  obtain⟨f0,f1,f2,f3,f4,f5⟩:=hf it (by simp)
  have W:=Walks.range (prog:=X.prog) (w:=X.w) (I.ok.hd hc) it lo 1 n
  refine W.item i s _ _ hg st λv h' tk hv st' kk=>?_
  obtain⟨t,rfl⟩:=hv
  have I1:Inv X pins σ H { s with heap:=h',toks:=tk }:=I.turned (λb o hb e=>kk b o (by simpa using hb) e) f0 f1 f3 f4 f5
  refine⟨_,rfl,go_of (s:={ s with heap:=h',toks:=tk }) (n := "range_iterator") st' rfl rfl ∅ ⟨.int (lo+i),H,I1,⟨t,?_⟩,⟨rfl,rfl⟩,st',λb hb=>(hf b hb).1⟩⟩
  rw[Int.mul_one]
 done:=by
  intro X hP hw hK hc i pins s σ H E I hf st hg
  subst hP hw hK
  obtain⟨f0,f1,f2,f3,f4,f5⟩:=hf it (by simp)
  exact wpAny_pyNext_range_end (I.ok.hd hc) st (by have:n<=i:=hg;lia) λh' eb=>⟨rfl,I.turned (t':=s.toks) (λb o hb e=>eb b o hb e) f0 f1 f3 f4 f5⟩
 self:=λ_ _ _ _ _ st h=>wpAny_pyIter_rangeiter st h
section
variable {tg:Expr}
inductive jList(K:Fg)(x:V)(H:Hp)(R:It->Hp->Prop):Prop
 |mk(a:Addr)(_:x = .ref a)(_:∃ xs,SqL K H a xs)(_:R (Itl K a) H)
def iList(K:Fg)(tl:TE):TI:=λσ H R=>tl σ H λx H1=>jList K x H1 R
inductive jTup(K:Fg)(x:V)(H:Hp)(R:It->Hp->Prop):Prop
 |mk(a:Addr)(_:x = .ref a)(_:∃ xs,SqT K H a xs)(_:R (Itt K a) H)
def iTup(K:Fg)(tl:TE):TI:=λσ H R=>tl σ H λx H1=>jTup K x H1 R
def q31{l:Expr}{tl:TE}(hl:PE X l tl):PI X tg l (iList X.K tl):=by
 intro pins s σ H R I h
 refine thn (hl pins s σ H _ I h) λv s1 ⟨x,H1,I1,r1,q1⟩=>?_
 obtain⟨a,e,⟨xs,hq⟩,q⟩:=q1
 subst e
 cases r1
 obtain⟨its,rv,p,hz⟩:=I1.list hq
 refine wpAny_pyIter_list p.isList ?_
 refine⟨s1.heap.objs.size,[s1.heap.objs.size],_,_,H1,rfl,I1.kept (t':=s1.toks) λb o e=>ZE _ e,q647 a _,⟨_,ZT _ rfl,rfl,rfl⟩,λb hb=>?_,q⟩
 have e:b=s1.heap.objs.size:=by simpa using hb
 subst e
 exact I1.fpOk (ZH _) (I1.hok.fresh (ZH _))
def q435{l:Expr}{tl:TE}(hl:PE X l tl):PI X tg l (iTup X.K tl):=by
 intro pins s σ H R I h
 refine thn (hl pins s σ H _ I h) λv s1 ⟨x,H1,I1,r1,q1⟩=>?_
 obtain⟨a,e,⟨xs,hq⟩,q⟩:=q1
 subst e
 cases r1
 obtain⟨its,rv,p,hz⟩:=I1.tuple hq
 refine wpAny_pyIter_tuple (show s1.heap.IsTuple a its.toArray from p) ?_
 refine⟨s1.heap.objs.size,[s1.heap.objs.size],_,_,H1,rfl,I1.kept (t':=s1.toks) λb o e=>ZE _ e,q593 a _,⟨_,ZT _ rfl,rfl,rfl⟩,λb hb=>?_,q⟩
 have e:b=s1.heap.objs.size:=by simpa using hb
 subst e
 exact I1.fpOk (ZH _) (I1.hok.fresh (ZH _))
def q548{s:Shared}{lo hi:Int}{t u v:Tok}{tk:Nat}(I:Inv X pins σ H s)(h1:-(2^62)<=lo)(h2:lo<2^62)(h3:-(2^62)<=hi)(h4:hi<2^62)
  (q:R (Itr lo (hi-lo).toNat) H):wpAny (model X.prog X.w) X.A (pyIter (.ref s.heap.objs.size)) (PIE X pins σ tg R) E { s with heap:=s.heap.push { cls:=.type "range", data:=.fields #[.int lo t,.int hi u,.int 1 v] },toks:=tk }:=by
 refine wpAny_pyIter_range (IsRange.new ..) (small_one h1 h2 h3 h4) ?_
 have I1:Inv X pins σ H { s with heap:=s.heap.push { cls:=.type "range", data:=.fields #[.int lo t,.int hi u,.int 1 v] },toks:=tk }:=I.kept λb o e=>ZE _ e
 refine⟨(s.heap.push { cls:=.type "range", data:=.fields #[.int lo t,.int hi u,.int 1 v] }).objs.size,[(s.heap.push { cls:=.type "range", data:=.fields #[.int lo t,.int hi u,.int 1 v] }).objs.size],_,_,H,rfl,
  I1.kept (t':=tk) λb o e=>ZE _ e,q594 _ lo (hi-lo).toNat,?_,λb hb=>?_,q⟩
 ·have e1:lo+((0:Nat):Int)*1=lo:=by simp
  have e2:(((hi-lo).toNat:Nat):Int)-((0:Nat):Int)=Builtin.Range.rangeSize lo hi 1:=by rw[rangeSize_one];split <;> lia
  show IsRangeIter _ _ (lo+((0:Nat):Int)*1) ((((hi-lo).toNat:Nat):Int)-((0:Nat):Int)) 1
  rw[e1,e2]
  exact ZT _ rfl
 ·have e:b=(s.heap.push { cls:=.type "range", data:=.fields #[.int lo t,.int hi u,.int 1 v] }).objs.size:=by simpa using hb
  subst e
  exact I1.fpOk (ZH _) (I1.hok.fresh (ZH _))
inductive jRng1(vs:List V)(H:Hp)(R:It->Hp->Prop):Prop
 |mk(j:Int)(_:vs=[.int j])(_:-(2^62)<=j)(_:j<2^62)(_:R (Itr 0 j.toNat) H)
def iRng1(ta:TA):TI:=λσ H R=>ta σ H λvs H1=>jRng1 vs H1 R
inductive jRng2(vs:List V)(H:Hp)(R:It->Hp->Prop):Prop
 |mk(i j:Int)(_:vs=[.int i,.int j])(_:-(2^62)<=i/\i<2^62 /\ -(2^62)<=j/\j<2^62)(_:R (Itr i (j-i).toNat) H)
def iRng2(ta:TA):TI:=λσ H R=>ta σ H λvs H1=>jRng2 vs H1 R
def q80{p pos:Pos}(hg:Gl X "range") (hm:X.mg "range" = none) (ha:PA X [a] ta) (hs:starEach [a] X.env=[(false,eval a X.env)]:=by rfl):PI X tg (.Call (.Name "range" p) [a] [] pos) (iRng1 ta):=by
 intro pins s σ H R I h
 refine Call_ (q367 I hg hm boot_range (PyProof.Rows.callWith_type1 (thn (ha pos pins s σ H _ I h) λus s1 ⟨vs,H1,I1,r1,q1⟩=>?_) hs rfl))
 obtain⟨j,e,q1,q2,q⟩:=q1
 subst e
 cases r1 with
 | cons r rr=>
  cases rr
  obtain⟨t,rfl⟩:=r
  exact call_range_1 (q548 I1 {} {} q1 q2 (by simpa using q))
def q648{p pos:Pos}(hg:Gl X "range") (hm:X.mg "range" = none) (ha:PA X [a,b] ta) (hs:starEach [a,b] X.env=[(false,eval a X.env),(false,eval b X.env)]:=by rfl) (hs2:starEach [b] X.env=[(false,eval b X.env)]:=by rfl) :
  PI X tg (.Call (.Name "range" p) [a,b] [] pos) (iRng2 ta):=by
 intro pins s σ H R I h
 refine Call_ (q367 I hg hm boot_range (PyProof.Rows.callWith_type1 (thn (ha pos pins s σ H _ I h) λus s1 ⟨vs,H1,I1,r1,q1⟩=>?_) (by rw[hs,hs2]) (by rw[hs2];rfl)))
 obtain⟨i,j,e,⟨q1,q2,q3,q4⟩,q⟩:=q1
 subst e
 cases r1 with
 | cons r rr=>
  cases rr with
  | cons r' rr=>
   cases rr
   obtain⟨t,rfl⟩:=r
   obtain⟨t',rfl⟩:=r'
   exact call_range_2 (q548 I1 q1 q2 q3 q4 q)
noncomputable def tFor(wi:TI)(g:TG)(tb:TS):TS:=λD σ H=>wi σ H λJ H1=>∃ W:Nat->Nat->St->Hp->Prop,(∃ m,W 0 m σ H1) /\ ∀ i m σ H,W i m σ H ->
 (J.stop i H/\D.nx σ H)\/(J.go i H /\ ∃ N:St->Hp->Prop,(∀ σ' H',N σ' H' -> ∃ m',m'<m/\W (i+1) m' σ' H') /\ ∀ x H',J.yld i H x H'->g x σ H' λσ2 H2=>tb { D with nx:=N,ct:=N,bk:=D.nx } σ2 H2)
noncomputable def q549(fp:List Addr)(h:Heap):List (Addr×Obj):=fp.filterMap λb=>(h.get? b).map λo=>(b,o)
def q95{h:Heap}(hb:b∈fp)(e:h.get? b=some o):(b,o)∈q549 fp h:=List.mem_filterMap.mpr ⟨b,hb,by rw[e];rfl⟩
def q649{h:Heap}{p:Addr×Obj}(hp:p∈q549 fp h):p.1∈fp/\h.get? p.1=some p.2:=by
 obtain⟨b,hb,e⟩:=List.mem_filterMap.mp hp
 cases q:h.get? b with
 | none=>rw[q]at e;cases e
 | some o=>
  rw[q]at e
  have e':(b,o)=p:=Option.some.inj e
  subst e'
  exact⟨hb,q⟩
def Inv.pinned{s:Shared}(I:Inv X pins σ H s)(hf:∀ b∈fp,FpOk X pins H b)(ho:∀ b∈fp,∃ o,s.heap.get? b=some o /\ ∀ v,o.data ≠ .cell v):Inv X (pins++q549 fp s.heap) σ H s:=
 I.pins_of λp hp=>(eC hp).elim (λz=>I.pin p (WV _ z)) λz=>by
  obtain⟨hb,e⟩:=q649 z
  obtain⟨f0,f1,f2,_⟩:=hf p.1 hb
  obtain⟨o,e',d⟩:=ho p.1 hb
  rw[e]at e';cases e'
  exact⟨e,f0,f1,f2,d⟩
def Inv.unpinned(I:Inv X (pins++pl) σ H s):Inv X pins σ H s:=I.pins_of λp hp=>I.pin p (WV _ (mem_append_left _ hp))
def q62{pos:Pos}(hp:PassesOwn (model X.prog X.w) X.A X.env X.xe)(hc:X.calm=true)(hi:PI X tg itr wi)(hg:PG X tg g)(hb:PSs X body tb)
  (hs:∀ x,foldedSetIterable itr X.env x=pure x:=by intro _;rfl):PS X (.For tg itr body [] pos) (tFor wi g tb):=by
 intro pins s σ H D I h
 refine wpAny_For (thn (hi pins s σ H _ I h) λv s1 h1=>thn h1 λitv s2 h2=>?_) hs
 obtain⟨it,fp,tn,J,H2,e,I2,T,st2,f2,W,⟨m0,w0⟩,turn⟩:=h2
 subst e
 have stat:∀{H':Hp},(∀ b∈fp,H' b=none) -> ∀ b∈fp,FpOk X pins H' b:=λhn b hb=>⟨hn b hb,(f2 b hb).2⟩
 refine codeAny_forLoop_any (λn s'=>∃ i σ' H',Inv X pins σ' H' s'/\tn i s'.heap/\(∀ b∈fp,H' b=none)/\W i n σ' H') ?_ m0 ⟨0,σ,H2,I2,st2,λb hb=>(f2 b hb).1,w0⟩
 rintro n s3 ⟨i,σ3,H3,I3,st3,fr3,w3⟩
 rcases turn i n σ3 H3 w3 with ⟨stop,qn⟩ | ⟨go,N,hN,step⟩
 ·refine wpAny_passesOwn hp (thn (T.done X rfl rfl rfl hc i pins s3 σ3 H3 X.xe I3 (stat fr3) st3 stop) λr s4 ⟨hr,I4⟩=>?_)
  subst hr
  exact wpAny_execs_nil ⟨σ3,H3,I4,qn⟩
 ·refine wpAny_passesOwn hp (thn (T.item X rfl rfl rfl hc i pins s3 σ3 H3 X.xe I3 (stat fr3) st3 go) λr s4 ⟨u,hr,h4⟩=>?_)
  subst hr
  refine wpAny_passesOwn hp (thn h4 λ_ s5 ⟨x,H5,I5,r5,y5,st5,fr5⟩=>?_)
  have I5':=I5.pinned (stat fr5) (T.obj _ _ st5)
  refine wpAny_passesOwn hp (thn (hg _ s5 σ3 H5 x u _ I5' r5 (step x H5 y5)) λ_ s6 ⟨σ6,H6,I6,q6⟩=>?_)
  refine wpAny_passesOwn hp (thn (hb _ s6 σ6 H6 _ I6 q6) λf s7 q7=>?_)
  have again:∀{σ7:St}{H7:Hp},Inv X (pins++q549 fp s5.heap) σ7 H7 s7->N σ7 H7 -> ∃ m,m<n /\ ∃ i σ' H',Inv X pins σ' H' s7/\tn i s7.heap/\(∀ b∈fp,H' b=none)/\W i m σ' H':=fun {σ7 H7} I7 n7=>by
   obtain⟨m',hm,w7⟩:=hN σ7 H7 n7
   refine⟨m',hm,i+1,σ7,H7,I7.unpinned,T.keep _ _ _ st5 λb hb o e=>(I7.pin (b,o) (WV _ (WV _ (q95 hb e)))).1,λb hb=>?_,w7⟩
   obtain⟨o,e,d⟩:=T.obj _ _ st5 b hb
   exact(I7.pin (b,o) (WV _ (WV _ (q95 hb e)))).2.1
  cases f with
  | next=>obtain⟨σ7,H7,I7,n7⟩:=q7;exact again I7 n7
  | cont=>obtain⟨σ7,H7,I7,n7⟩:=q7;exact again I7 n7
  | brk=>obtain⟨σ7,H7,I7,q7⟩:=q7;exact⟨σ7,H7,I7.unpinned,q7⟩
  | ret v=>obtain⟨x7,σ7,H7,I7,r7,q7⟩:=q7;exact⟨x7,σ7,H7,I7.unpinned,r7,q7⟩
end
def q112{K:Fg}{a:Addr}{xs:List V}{g:TG}{tb:TS}{D:Ends}{σ:St}{H:Hp}(Pv:Nat->St->Hp->Prop)(h0:Pv 0 σ H)(hl:∀ i σ H,i<=xs.length->Pv i σ H->SqL K H a xs)
  (hs:∀ i x σ H,xs[i]? = some x->Pv i σ H->g x σ H λσ2 H2=>tb { D with nx:=Pv (i+1),ct:=Pv (i+1),bk:=D.nx } σ2 H2) (hd:∀ σ H,Pv xs.length σ H->D.nx σ H) :
  ∃ W:Nat->Nat->St->Hp->Prop,(∃ m,W 0 m σ H) /\ ∀ i m σ H,W i m σ H ->
   ((Itl K a).stop i H/\D.nx σ H)\/((Itl K a).go i H /\ ∃ N:St->Hp->Prop,(∀ σ' H',N σ' H' -> ∃ m',m'<m/\W (i+1) m' σ' H') /\ ∀ x H',(Itl K a).yld i H x H'->g x σ H' λσ2 H2=>tb { D with nx:=N,ct:=N,bk:=D.nx } σ2 H2):=by
 exists λi m σ H=>m=xs.length-i/\i<=xs.length/\Pv i σ H,⟨xs.length,by simp,WA _,h0⟩
 rintro i m σ H ⟨rfl,hi,p⟩
 have q:=hl i σ H hi p
 by_cases hlt:i<xs.length
 ·refine .inr ⟨⟨xs,xs[i],q,by simp[hlt]⟩,Pv (i+1),λσ' H' p'=>⟨xs.length-(i+1),(W1 hlt),rfl,hlt,p'⟩,λx H' y=>?_⟩
  obtain⟨e,y⟩:=y
  subst e
  exact hs i x σ _ (y xs q) p
 ·have e:i=xs.length:=(W42 hi hlt)
  subst e
  exact .inl ⟨⟨xs,q,ZH _⟩,hd σ H p⟩
def q295{K:Fg}{a:Addr}{xs:List V}{g:TG}{tb:TS}{D:Ends}{σ:St}{H:Hp}(Pv:Nat->St->Hp->Prop)(h0:Pv 0 σ H)(hl:∀ i σ H,i<=xs.length->Pv i σ H->SqT K H a xs)
  (hs:∀ i x σ H,xs[i]? = some x->Pv i σ H->g x σ H λσ2 H2=>tb { D with nx:=Pv (i+1),ct:=Pv (i+1),bk:=D.nx } σ2 H2) (hd:∀ σ H,Pv xs.length σ H->D.nx σ H) :
  ∃ W:Nat->Nat->St->Hp->Prop,(∃ m,W 0 m σ H) /\ ∀ i m σ H,W i m σ H ->
   ((Itt K a).stop i H/\D.nx σ H)\/((Itt K a).go i H /\ ∃ N:St->Hp->Prop,(∀ σ' H',N σ' H' -> ∃ m',m'<m/\W (i+1) m' σ' H') /\ ∀ x H',(Itt K a).yld i H x H'->g x σ H' λσ2 H2=>tb { D with nx:=N,ct:=N,bk:=D.nx } σ2 H2):=by
 exists λi m σ H=>m=xs.length-i/\i<=xs.length/\Pv i σ H,⟨xs.length,by simp,WA _,h0⟩
 rintro i m σ H ⟨rfl,hi,p⟩
 have q:=hl i σ H hi p
 by_cases hlt:i<xs.length
 ·refine .inr ⟨⟨xs,xs[i],q,by simp[hlt]⟩,Pv (i+1),λσ' H' p'=>⟨xs.length-(i+1),{},rfl,hlt,p'⟩,λx H' y=>?_⟩
  obtain⟨e,y⟩:=y
  subst e
  exact hs i x σ _ (y xs q) p
 ·have e:i=xs.length:={}
  subst e
  exact .inl ⟨⟨xs,q,ZH _⟩,hd σ H p⟩
def q101{lo:Int}{n:Nat}{g:TG}{tb:TS}{D:Ends}{σ:St}{H:Hp}(Pv:Nat->St->Hp->Prop)(h0:Pv 0 σ H)
  (hs:∀ i σ H,i<n->Pv i σ H->g (.int (lo+i)) σ H λσ2 H2=>tb { D with nx:=Pv (i+1),ct:=Pv (i+1),bk:=D.nx } σ2 H2) (hd:∀ σ H,Pv n σ H->D.nx σ H) :
  ∃ W:Nat->Nat->St->Hp->Prop,(∃ m,W 0 m σ H) /\ ∀ i m σ H,W i m σ H ->
   ((Itr lo n).stop i H/\D.nx σ H)\/((Itr lo n).go i H /\ ∃ N:St->Hp->Prop,(∀ σ' H',N σ' H' -> ∃ m',m'<m/\W (i+1) m' σ' H') /\ ∀ x H',(Itr lo n).yld i H x H'->g x σ H' λσ2 H2=>tb { D with nx:=N,ct:=N,bk:=D.nx } σ2 H2):=by
 exists λi m σ H=>m=n-i/\i<=n/\Pv i σ H,⟨n,by simp,WA _,h0⟩
 rintro i m σ H ⟨rfl,hi,p⟩
 by_cases hlt:i<n
 ·refine .inr ⟨hlt,Pv (i+1),λσ' H' p'=>⟨n-(i+1),(W1 hlt),rfl,hlt,p'⟩,λx H' y=>?_⟩
  obtain⟨e,y⟩:=y
  subst e y
  exact hs i σ _ hlt p
 ·have e:i=n:=(W42 hi hlt)
  subst e
  exact .inl ⟨ZH _,hd σ H p⟩
theorem while_by(Pv:St->Hp->Prop)(μ:St->Hp->Nat)(h0:Pv σ H)
  (hs:∀ σ H,Pv σ H->c σ H λb H1=>if b=true then tb { D with nx:=λσ' H'=>Pv σ' H'/\μ σ' H'<μ σ H,ct:=λσ' H'=>Pv σ' H'/\μ σ' H'<μ σ H,bk:=D.nx } σ H1 else D.nx σ H1)
  (mono:∀ σ H Q Q',(∀ b H1,Q b H1->Q' b H1)->c σ H Q->c σ H Q'):tWhile c tb D σ H:=by
 exists λm σ H=>m=μ σ H/\Pv σ H,⟨_,rfl,h0⟩
 rintro m σ H ⟨rfl,p⟩
 refine mono σ H _ _ (λb H1 q=>?_) (hs σ H p)
 cases b with
 | true=>exact⟨_,λσ' H' ⟨p',l⟩=>⟨_,l,rfl,p'⟩,q⟩
 | false=>exact q
abbrev R2:=V->V->Hp->VK->Prop
def OpR(X:Cx)(f:Value->Value->Sem Value)(r:R2):Prop:=
 ∀(pins:List (Addr×Obj)) (s:Shared) (σ:St) (H:Hp) (x y:V) (v u:Value) (Q:VK),Inv X pins σ H s->RelV x v->RelV y u->r x y H Q ->
  wpAny (model X.prog X.w) X.A (f v u) (EP X pins σ Q) X.xe s
def UnR(X:Cx)(f:Value->Sem Value)(r:V->Hp->VK->Prop):Prop:=
 ∀(pins:List (Addr×Obj)) (s:Shared) (σ:St) (H:Hp) (x:V) (v:Value) (Q:VK),Inv X pins σ H s->RelV x v->r x H Q ->
  wpAny (model X.prog X.w) X.A (f v) (EP X pins σ Q) X.xe s
def CallR(X:Cx)(f:Value)(r:List V->Hp->VK->Prop):Prop:=
 ∀(pins:List (Addr×Obj)) (s:Shared) (σ:St) (H:Hp) (xs:List V) (us:List Value) (Q:VK),Inv X pins σ H s->Vals xs us->r xs H Q ->
  wpAny (model X.prog X.w) X.A (call f us) (EP X pins σ Q) X.xe s
def tOp(r:R2)(ta tb:TE):TE:=λσ H Q=>ta σ H λx H1=>tb σ H1 λy H2=>r x y H2 Q
def tUn(r:V->Hp->VK->Prop)(ta:TE):TE:=λσ H Q=>ta σ H λx H1=>r x H1 Q
inductive rI(C:Int->Int->Prop)(g:Int->Int->V)(x y:V)(H:Hp)(Q:VK):Prop
 |mk(i j:Int)(_:x = .int i)(_:y = .int j)(_:C i j)(_:Q (g i j) H)
inductive rI0(g:Int->Int->V)(x y:V)(H:Hp)(Q:VK):Prop
 |mk(i j:Int)(_:x = .int i)(_:y = .int j)(_:Q (g i j) H)
inductive rU(g:Int->V)(x:V)(H:Hp)(Q:VK):Prop
 |mk(i)(_:x = .int i)(_:Q (g i) H)
section
variable{a b c:Expr}{ta tb tc:TE}{pos:Pos}
def binT(ha:PE X a ta)(hb:PE X b tb){pins:List (Addr×Obj)}{s:Shared}{σ:St}{H:Hp}{R:V->V->Hp->Prop}(I:Inv X pins σ H s)
  (h:ta σ H λx H1=>tb σ H1 λy H2=>R x y H2) {Q:VS} {f:Value->Value->Sem Value}
  (hf:∀ v u s2 x y H2,Inv X pins σ H2 s2->RelV x v->RelV y u->R x y H2->wpAny (model X.prog X.w) X.A (f v u) Q X.xe s2) :
  wpAny (model X.prog X.w) X.A (eval a X.env) (λv s₁=>wpAny (model X.prog X.w) X.A (eval b X.env) (λu s₂=>wpAny (model X.prog X.w) X.A (f v u) Q X.xe s₂) X.xe s₁) X.xe s:=by
 refine thn (ha pins s σ H _ I h) λv s1 ⟨x,H1,I1,r1,q1⟩=>?_
 refine thn (hb pins s1 σ H1 _ I1 q1) λu s2 ⟨y,H2,I2,r2,q2⟩=>?_
 exact hf v u s2 x y H2 I2 r1 r2 q2
def pe_op{op:Operator}{r:R2}(ho:OpR X (binaryOp op) r)(ha:PE X a ta)(hb:PE X b tb):PE X (.BinOp a op b pos) (tOp r ta tb):=by
 intro pins s σ H Q I h
 exact wpAny_BinOp (binT ha hb I h λv u s2 x y H2 I2 rx ry q=>ho pins s2 σ H2 x y v u Q I2 rx ry q)
def pe_un(ho:UnR X (unaryOp op) r)(ha:PE X a ta):PE X (.UnaryOp op a pos) (tUn r ta):=by
 intro pins s σ H Q I h
 exact UnaryOp_ (thn (ha pins s σ H _ I h) λv s1 ⟨x,H1,I1,r1,q1⟩=>ho pins s1 σ H1 x v Q I1 r1 q1)
def opI{f:Value->Value->Sem Value}{C:Int->Int->Prop}{g:Int->Int->Int}
  (rule:∀(i j:Int)(t u:Tok)(s:Shared)(Q:VS)(E:VS),C i j->Q (.int (g i j) s.toks) { s with toks:=s.toks+1 }->wpAny (model X.prog X.w) X.A (f (.int i t) (.int j u)) Q E s) :
  OpR X f (rI C λi j=>.int (g i j)):=by
 intro pins s σ H x y v u Q I rx ry h
 obtain⟨i,j,rfl,rfl,hc,q⟩:=h
 obtain⟨t,rfl⟩:=rx
 obtain⟨t',rfl⟩:=ry
 exact rule i j t t' s _ _ hc ⟨.int (g i j),H,I.tok _,⟨_,rfl⟩,q⟩
def opI0{f:Value->Value->Sem Value}{g:Int->Int->Int}
  (rule:∀(i j:Int)(t u:Tok)(s:Shared)(Q:VS)(E:VS),Q (.int (g i j) s.toks) { s with toks:=s.toks+1 }->wpAny (model X.prog X.w) X.A (f (.int i t) (.int j u)) Q E s) :
  OpR X f (rI0 λi j=>.int (g i j)):=by
 intro pins s σ H x y v u Q I rx ry h
 obtain⟨i,j,rfl,rfl,q⟩:=h
 obtain⟨t,rfl⟩:=rx
 obtain⟨t',rfl⟩:=ry
 exact rule i j t t' s _ _ ⟨.int (g i j),H,I.tok _,⟨_,rfl⟩,q⟩
def opB0{f:Value->Value->Sem Value}{g:Int->Int->Bool}
  (rule:∀(i j:Int)(t u:Tok)(s:Shared)(Q:VS)(E:VS),Q (.bool (g i j)) s->wpAny (model X.prog X.w) X.A (f (.int i t) (.int j u)) Q E s) :
  OpR X f (rI0 λi j=>.bl (g i j)):=by
 intro pins s σ H x y v u Q I rx ry h
 obtain⟨i,j,rfl,rfl,q⟩:=h
 obtain⟨t,rfl⟩:=rx
 obtain⟨t',rfl⟩:=ry
 exact rule i j t t' s _ _ ⟨.bl (g i j),H,I,rfl,q⟩
def CPow(i j:Int):Prop:=0<=j/\j<=1000000/\i.natAbs<2^64
def CMul(i j:Int):Prop:=(-(2^64)<i/\i<2^64)\/(-(2^64)<j/\j<2^64)
def CMul.ok{i j:Int}(h:CMul i j):IntMulOk i j:=by
 rcases h with ⟨h1,h2⟩ | ⟨h1,h2⟩
 ·exact .of_left (intBits_le_64 h1 h2)
 ·exact .of_right (intBits_le_64 h1 h2)
def q29:OpR X (binaryOp .Add) (rI0 λi j=>.int (i+j)):=opI0 λ_ _ _ _ _ _ _ q=>add_int q
def q47:OpR X (binaryOp .Sub) (rI0 λi j=>.int (i-j)):=opI0 λ_ _ _ _ _ _ _ q=>sub_int q
def q113:OpR X (binaryOp .Mult) (rI CMul λi j=>.int (i*j)):=opI λ_ _ _ _ _ _ _ hc q=>mul_int q hc.ok
def q145:OpR X (binaryOp .Mod) (rI (λ_ j=>0<j) λi j=>.int (i%j)):=opI λi j _ _ _ _ _ hc q=>by
 have h1:(0:Int)<j:=hc
 exact mod_int' {} (by rw[Int.fmod_eq_emod_of_nonneg i {}];exact q)
def q436:OpR X (binaryOp .Pow) (rI CPow λi j=>.int (i^j.toNat)):=opI λ_ _ _ _ _ _ _ hc q=>pow_int_small hc.1 hc.2.1 hc.2.2 q
def q252:OpR X (binaryOp .LShift) (rI CPow λi j=>.int (i*2^j.toNat)):=opI λ_ _ _ _ _ _ _ hc q=>lshift_int_small hc.1 hc.2.1 hc.2.2 q
def unI{f:Value->Sem Value}{g:Int->Int}
  (rule:∀(i:Int)(t:Tok)(s:Shared)(Q:VS)(E:VS),Q (.int (g i) s.toks) { s with toks:=s.toks+1 }->wpAny (model X.prog X.w) X.A (f (.int i t)) Q E s) :
  UnR X f (rU λi=>.int (g i)):=by
 intro pins s σ H x v Q I rx h
 obtain⟨i,rfl,q⟩:=h
 obtain⟨t,rfl⟩:=rx
 exact rule i t s _ _ ⟨.int (g i),H,I.tok _,⟨_,rfl⟩,q⟩
def un_neg:UnR X (unaryOp .USub) (rU λi=>.int (-i)):=unI λ_ _ _ _ _ q=>neg_int q
end
noncomputable def scal:V->V->Bool
 | .non,.non=>true | .non,.int _=>true | .int _,.non=>true | .non,.bl _=>true | .bl _,.non=>true | .non,.str _=>true | .str _,.non=>true
 | .int _,.int _=>true | .bl _,.bl _=>true | .str _,.str _=>true | .byt _,.byt _=>true
 | .int _,.str _=>true | .str _,.int _=>true | .bl _,.str _=>true | .str _,.bl _=>true
 | _,_=>false
noncomputable def rEq:R2:=λx y H Q=>scal x y=true/\Q (.bl (decide (x=y))) H
noncomputable def rNe:R2:=λx y H Q=>scal x y=true/\Q (.bl (!decide (x=y))) H
def dec_int{i j:Int}:decide (V.int i=V.int j)=(i==j):=by
 rw[Bool.eq_iff_iff]
 simp
def dec_bl{i j:Bool}:decide (V.bl i=V.bl j)=(i==j):=by
 rw[Bool.eq_iff_iff]
 simp
def q650:decide (V.str i=V.str j)=(i==j):=by
 rw[Bool.eq_iff_iff]
 simp
def q651{i j:Array UInt8}:decide (V.byt i=V.byt j)=(i.toList==j.toList):=by
 rw[Bool.eq_iff_iff]
 cases i
 cases j
 simp
section
variable{a b c:Expr}{ta tb tc:TE}{pos:Pos}
def q36{k k':Bool}(I:Inv X pins σ H s)(q:Q (.bl k) H)(e:k=k'):EP X pins σ Q (.bool k') s:=by
 subst e
 exact⟨.bl k,H,I,rfl,q⟩
def op_eq:OpR X (compareOp .Eq) rEq:=by
 intro pins s σ H x y v u Q I rx ry h
 obtain⟨hs,q⟩:=h
 cases x with
 | non=>
  cases rx
  cases y with
  | non=>cases ry;exact PySem.EqNone.eq_none_none (q36 I q (by simp))
  | bl j=>cases ry;exact PySem.EqNone.eq_none_bool (q36 I q (by simp))
  | int j=>obtain⟨t',rfl⟩:=ry;exact PySem.EqNone.eq_none_int (q36 I q (by simp))
  | str j=>obtain⟨t',rfl⟩:=ry;exact PySem.EqNone.eq_none_str (q36 I q (by simp))
  | _=>exact absurd (show false=true from hs) fnt
 | bl i=>
  cases rx
  cases y with
  | non=>cases ry;exact PySem.EqNone.eq_bool_none (q36 I q (by simp))
  | bl j=>cases ry;exact eq_bool (q36 I q dec_bl)
  | str j=>obtain⟨t',rfl⟩:=ry;exact PySem.EqMixed.eq_bool_str (q36 I q (by simp))
  | _=>exact absurd (show false=true from hs) fnt
 | int i=>
  obtain⟨t,rfl⟩:=rx
  cases y with
  | non=>cases ry;exact PySem.EqNone.eq_int_none (q36 I q (by simp))
  | int j=>obtain⟨t',rfl⟩:=ry;exact eq_int (q36 I q dec_int)
  | str j=>obtain⟨t',rfl⟩:=ry;exact PySem.EqMixed.eq_int_str (q36 I q (by simp))
  | _=>exact absurd (show false=true from hs) fnt
 | str i=>
  obtain⟨t,rfl⟩:=rx
  cases y with
  | non=>cases ry;exact PySem.EqNone.eq_str_none (q36 I q (by simp))
  | bl j=>cases ry;exact PySem.EqMixed.eq_str_bool (q36 I q (by simp))
  | int j=>obtain⟨t',rfl⟩:=ry;exact PySem.EqMixed.eq_str_int (q36 I q (by simp))
  | str j=>obtain⟨t',rfl⟩:=ry;exact eq_str (q36 I q q650)
  | _=>exact absurd (show false=true from hs) fnt
 | byt i=>
  obtain⟨t,rfl⟩:=rx
  cases y with
  | byt j=>obtain⟨t',rfl⟩:=ry;exact PySem.W.eq_bytes (q36 I q q651)
  | _=>exact absurd (show false=true from hs) fnt
 | _=>cases y <;> exact absurd (show false=true from hs) fnt
def op_ne:OpR X (compareOp .NotEq) rNe:=by
 intro pins s σ H x y v u Q I rx ry h
 obtain⟨hs,q⟩:=h
 cases x with
 | non=>
  cases rx
  cases y with
  | non=>cases ry;exact PySem.EqNone.ne_none_none (q36 I q (by simp))
  | bl j=>cases ry;exact PySem.EqNone.ne_none_bool (q36 I q (by simp))
  | int j=>obtain⟨t',rfl⟩:=ry;exact PySem.EqNone.ne_none_int (q36 I q (by simp))
  | str j=>obtain⟨t',rfl⟩:=ry;exact PySem.EqNone.ne_none_str (q36 I q (by simp))
  | _=>exact absurd (show false=true from hs) fnt
 | bl i=>
  cases rx
  cases y with
  | non=>cases ry;exact PySem.EqNone.ne_bool_none (q36 I q (by simp))
  | bl j=>cases ry;exact ne_bool (q36 I q (congrArg not dec_bl))
  | str j=>obtain⟨t',rfl⟩:=ry;exact PySem.EqMixed.ne_bool_str (q36 I q (by simp))
  | _=>exact absurd (show false=true from hs) fnt
 | int i=>
  obtain⟨t,rfl⟩:=rx
  cases y with
  | non=>cases ry;exact PySem.EqNone.ne_int_none (q36 I q (by simp))
  | int j=>obtain⟨t',rfl⟩:=ry;exact ne_int (q36 I q (congrArg not dec_int))
  | str j=>obtain⟨t',rfl⟩:=ry;exact PySem.EqMixed.ne_int_str (q36 I q (by simp))
  | _=>exact absurd (show false=true from hs) fnt
 | str i=>
  obtain⟨t,rfl⟩:=rx
  cases y with
  | non=>cases ry;exact PySem.EqNone.ne_str_none (q36 I q (by simp))
  | bl j=>cases ry;exact PySem.EqMixed.ne_str_bool (q36 I q (by simp))
  | int j=>obtain⟨t',rfl⟩:=ry;exact PySem.EqMixed.ne_str_int (q36 I q (by simp))
  | str j=>obtain⟨t',rfl⟩:=ry;exact ne_str (q36 I q (congrArg not q650))
  | _=>exact absurd (show false=true from hs) fnt
 | byt i=>
  obtain⟨t,rfl⟩:=rx
  cases y with
  | byt j=>obtain⟨t',rfl⟩:=ry;exact PySem.W.ne_bytes (q36 I q (congrArg not q651))
  | _=>exact absurd (show false=true from hs) fnt
 | _=>cases y <;> exact absurd (show false=true from hs) fnt
def op_lt:OpR X (compareOp .Lt) (rI0 λi j=>.bl (decide (i<j))):=opB0 λ_ _ _ _ _ _ _ q=>lt_int q
def op_le:OpR X (compareOp .LtE) (rI0 λi j=>.bl (decide (i<=j))):=opB0 λ_ _ _ _ _ _ _ q=>le_int q
def op_gt:OpR X (compareOp .Gt) (rI0 λi j=>.bl (decide (j<i))):=opB0 λ_ _ _ _ _ _ _ q=>gt_int q
def op_ge:OpR X (compareOp .GtE) (rI0 λi j=>.bl (decide (j<=i))):=opB0 λ_ _ _ _ _ _ _ q=>ge_int q
def q253:OpR X (compareOp .Is) (λx y H Q=>y = .non/\Q (.bl (decide (x = .non))) H):=by
 intro pins s σ H x y v u Q I rx ry h
 obtain⟨rfl,q⟩:=h
 cases ry
 refine is_none_gen (q36 I q ?_)
 cases x <;> first
  | (cases rx;rfl)
  | (obtain⟨t,rfl⟩:=rx;rfl)
def q514:OpR X (compareOp .IsNot) (λx y H Q=>y = .non/\Q (.bl (!decide (x = .non))) H):=by
 intro pins s σ H x y v u Q I rx ry h
 obtain⟨rfl,q⟩:=h
 cases ry
 refine isnot_none_gen (q36 I q ?_)
 cases x <;> first
  | (cases rx;rfl)
  | (obtain⟨t,rfl⟩:=rx;rfl)
def q19(b:Expr)(h:op ≠ .In:=by decide)(h2:op ≠ .NotIn:=by decide):behindInMarks op b=false:=by
 have e1:(op==CmpOp.In)=false:=by cases op <;> first | rfl | exact absurd rfl h
 have e2:(op==CmpOp.NotIn)=false:=by cases op <;> first | rfl | exact absurd rfl h2
 cases b <;> simp[behindInMarks,e1,e2]
def q49{op:CmpOp}{r:R2}(ho:OpR X (compareOp op) r)(ha:PE X a ta)(hb:PE X b tb)(hm:behindInMarks op b=false):PE X (.Compare a [op] [b] pos) (tOp r ta tb):=by
 intro pins s σ H Q I h
 exact wpAny_Compare1 (binT ha hb I h λv u s2 x y H2 I2 rx ry q=>ho pins s2 σ H2 x y v u Q I2 rx ry q) hm
def tTest(t:TE):TT:=λσ H Q=>t σ H λx H'=>isB x H' Q
def q18(ho:OpR X (compareOp op) r)(ha:PE X a ta)(hb:PE X b tb)(hm:behindInMarks op b=false):PT X (.Compare a [op] [b] pos) (tTest (tOp r ta tb)):=by
 intro pins s σ H Q I h
 refine wpAny_isTrue_Compare1 (thn (ha pins s σ H _ I h) λv s1 ⟨x,H1,I1,r1,q1⟩=>thn (hb pins s1 σ H1 _ I1 q1) λu s2 ⟨y,H2,I2,r2,q2⟩=>
  thn (ho pins s2 σ H2 x y v u _ I2 r1 r2 q2) λc s3 ⟨z,H3,I3,r3,k,e,q3⟩=>?_) hm
 subst e
 cases r3
 exact wpAny_truthy_bool ⟨H3,I3,q3⟩
def tChain(r r':R2)(ta tb tc:TE):TE:=λσ H Q=>ta σ H λx H1=>tb σ H1 λy H2=>r x y H2 λz H3=>∃ k,z = .bl k /\
 (if k=true then tc σ H3 λw' H4=>r' y w' H4 Q else Q (.bl false) H3)
theorem q281(ho:OpR X (compareOp op) r)(ho':OpR X (compareOp op') r')(ha:PE X a ta)(hb:PE X b tb)(hc:PE X c tc)
  (hm:lastMarks [op,op'] [b,c]=false:=by with_unfolding_all rfl):PE X (.Compare a [op,op'] [b,c] pos) (tChain r r' ta tb tc):=by
 intro pins s σ H Q I h
 refine Compare_chain (thn (ha pins s σ H _ I h) λv s1 ⟨x,H1,I1,r1,q1⟩=>chain_link (thn (hb pins s1 σ H1 _ I1 q1) λu s2 ⟨y,H2,I2,r2,q2⟩=>
  thn (ho pins s2 σ H2 x y v u _ I2 r1 r2 q2) λd s3 ⟨z,H3,I3,r3,k,e,q3⟩=>?_)) hm
 subst e
 cases r3
 refine wpAny_truthy_bool ?_
 cases k with
 | false=>exact ite_ff ⟨.bl false,H3,I3,rfl,q3⟩
 | true=>exact ite_tt (chain_last (thn (hc pins s3 σ H3 _ I3 q3) λw' s4 ⟨z',H4,I4,r4,q4⟩=>ho' pins s4 σ H4 y z' u w' Q I4 r2 r4 q4))
theorem pt_chain(ho:OpR X (compareOp op) r)(ho':OpR X (compareOp op') r')(ha:PE X a ta)(hb:PE X b tb)(hc:PE X c tc)
  (hm:lastMarks [op,op'] [b,c]=false:=by with_unfolding_all rfl):PT X (.Compare a [op,op'] [b,c] pos) (tTest (tChain r r' ta tb tc)):=by
 intro pins s σ H Q I h
 refine isTrue_chain (thn (ha pins s σ H _ I h) λv s1 ⟨x,H1,I1,r1,q1⟩=>test_link (thn (hb pins s1 σ H1 _ I1 q1) λu s2 ⟨y,H2,I2,r2,q2⟩=>
  thn (ho pins s2 σ H2 x y v u _ I2 r1 r2 q2) λd s3 ⟨z,H3,I3,r3,k,e,q3⟩=>?_)) hm
 subst e
 cases r3
 refine wpAny_truthy_bool ?_
 cases k with
 | false=>
  obtain⟨k',e',q'⟩:=q3
  cases e'
  exact ite_ff ⟨H3,I3,q'⟩
 | true=>
  refine ite_tt (test_last (thn (hc pins s3 σ H3 _ I3 q3) λw' s4 ⟨z',H4,I4,r4,q4⟩=>thn (ho' pins s4 σ H4 y z' u w' _ I4 r2 r4 q4) λd' s5 ⟨z2,H5,I5,r5,k2,e2,q5⟩=>?_))
  subst e2
  cases r5
  exact wpAny_truthy_bool ⟨H5,I5,q5⟩
def q550:(sizeLine:Nat)<2^63:=by rw[sizeLine_eq];decide
def vals1(r:Vals [x] us):∃ u,us=[u]/\RelV x u:=by
 cases r with
 | cons r1 r2=>cases r2;exact⟨_,rfl,r1⟩
def vals2(r:Vals [x,y] us):∃ u w',us=[u,w']/\RelV x u/\RelV y w':=by
 cases r with
 | cons r1 r2=>
  cases r2 with
  | cons r3 r4=>cases r4;exact⟨_,_,rfl,r1,r3⟩
inductive q595  (xs:List V) (H:Hp) (Q:VK):Prop
 |mk(i j)(_:xs=[.int i,.int j])(_:Q (.int (if j > i then j else i)) H)
def q652(hc:X.calm=true):CallR X (.builtin "max") q595:=by
 intro pins s σ H xs us Q I r h
 obtain⟨i,j,rfl,q⟩:=h
 obtain⟨u,w',rfl,⟨t,rfl⟩,⟨t',rfl⟩⟩:=vals2 r
 refine max_two_ints (I.ok.hd hc) λh' tk k=>⟨_,H,I.kept k,?_,q⟩
 by_cases hj:j > i
 ·rw[ZL hj,ZL hj];exact⟨_,rfl⟩
 ·rw[ZJ hj,ZJ hj];exact⟨_,rfl⟩
def q437:CallR X (.type "int") (λxs H Q=>(∃ i,xs=[.int i]/\Q (.int i) H) \/ ∃ k,xs=[.bl k]/\Q (.int (if k then 1 else 0)) H):=by
 intro pins s σ H xs us Q I r h
 rcases h with ⟨i,rfl,q⟩ | ⟨k,rfl,q⟩
 ·obtain⟨u,rfl,t,rfl⟩:=vals1 r
  exact call_int_int ⟨.int i,H,I,⟨_,rfl⟩,q⟩
 ·obtain⟨u,rfl,r1⟩:=vals1 r
  cases r1
  exact call_int_bool ⟨.int (if k then 1 else 0),H,I.tok _,⟨_,rfl⟩,q⟩
end
structure ObjM(h:Heap)(x dx C:Addr)(mA:Mg):Prop where
 obj:h.get? x=some (PySem.W.instObj C dx)
 ns:h.Ns1 dx mA
 ne:dx≠x
def q653{h:Heap}(n:h.Ns1 dx mA):∃ od,h.get? dx=some od /\ ∀ name,PySem.W.lookIn name od=some (mA name):=by
 obtain⟨o,es,ep,ho,hd,hk,_,hm⟩:=n
 refine⟨o,ho,λname=>?_⟩
 have e:=hm name
 unfold nsFind findBy at e
 rw[<- Array.find?_toList]at e
 unfold PySem.W.lookIn
 rw[hd]
 dsimp only
 split
 ·rename_i y q
  rw[q]at e
  exact congrArg some e
 ·rename_i q
  rw[q]at e
  have a:es.toList.any (·.refKey)=false:=by
   rw[any_eq_false]
   intro y hy
   obtain⟨z,t,hkey⟩:=hk y (Array.mem_toList_iff.mp hy)
   simp[DictEntry.refKey,hkey]
  have a':¬ es.toList.any (·.refKey)=true:=by rw[a];exact fnt
  rw[ZJ a']
  exact congrArg some e
def ObjM.look(I:ObjM h x dx C mA):∃ od,PySem.W.InstAt h x (PySem.W.instObj C dx) C (some od) /\ ∀ name,PySem.W.lookIn name od=some (mA name):=
 let ⟨od,ho,hl⟩:=q653 I.ns
 ⟨od,⟨I.obj,rfl,rfl,ho⟩,hl⟩
section
variable {P:Program}{w:World}{H H':Hp}{h h':Heap}{a C dx:Addr}{fs fs':List (Str×V)}
def ins_get(hok:HOk P w H h)(e:H a=some (.ins C dx fs)):∃ mA,ObjM h a dx C mA/\(∀ f,RelO (fs.lookup f) (mA f))/\PySem.Within mA (fs.map (·.1))/\fs.length<=1000/\H dx=some (.own a):=by
 obtain⟨d,z,ne,ob,mA,n,r,q⟩:=(show ObjOk P w H h a (.ins C dx fs)from hok a _ e)
 exact⟨mA,⟨ob,n,ne⟩,r,q,z,d⟩
end
structure Cls(K:Fg)(C:Addr):Prop where
 pg:PySem.W.plainGet K C Str.empty=true
 hd:PySem.W.hasDictIn K C=true
 po:PySem.W.plainOver K C=true
 sa:PySem.W.findIn K (.ref C) "__setattr__" = some (some (.builtin "object.__setattr__"))
def Cls.get{K:Fg}{C:Addr}(c:Cls K C)(f:Str):PySem.W.plainGet K C f=true:=c.pg
structure Con(K:Fg)(C:Addr)(f:Str)(v:V)(u:Value):Prop where
 at_:PySem.W.findIn K (.ref C) f=some (some u)
 rel:RelV v u
 get:PySem.W.specialIn K u "__get__" = some none
 cp:PySem.W.copiedNames.contains f=false
structure Meth(K:Fg)(C:Addr)(m:Str)(f:Addr):Prop where
 at_:PySem.W.findIn K (.ref C) m=some (some (.ref f))
 fn:PySem.W.isFn K (.ref f)=true
 kp:PySem.W.keepIn K (.ref f)=true
section
variable {pins:List (Addr×Obj)}{σ:St}{H:Hp}{s:Shared}{A:Around}{E:VS}{Q:VS}{c:Value}{b:Bool}
inductive TyOf(K:Fg)(H:Hp):V->Value->Prop where
 | non:TyOf K H .non (.type "NoneType")
 | bl (x:Bool):TyOf K H (.bl x) (.type "bool")
 | int (i:Int):TyOf K H (.int i) (.type "int")
 | str (x:Str):TyOf K H (.str x) (.type "str")
 | flt (x:UInt64):TyOf K H (.flt x) (.type "float")
 | lst {a:Addr} {xs:List V} (e:H a=some (.lst xs)):TyOf K H (.ref a) (.type "list")
 | frz {a:Addr} {o:Obj} {xs:List V} (e:H a=some (.frz o (.lst xs))):TyOf K H (.ref a) (.type "list")
 | tup {a:Addr} {xs:List V} (e:H a=some (.tup xs)):TyOf K H (.ref a) (.type "tuple")
 | dK {a:Addr} {kvs:List (Key×V)} (e:H a=some (.dK kvs)):TyOf K H (.ref a) (.type "dict")
 | dT {a:Addr} {kvs:List (List Key×V)} (e:H a=some (.dT kvs)):TyOf K H (.ref a) (.type "dict")
 | ins {a C dx:Addr} {fs:List (Str×V)} (e:H a=some (.ins C dx fs)) (cl:Cls K C) (ha:PySem.W.findIn K (.ref C) "__class__" = some (some (.builtin "object.__class__")))
   (hn:PySem.W.specialIn K (.builtin "object.__class__") "__get__" = some (some (.builtin "getset_descriptor.__get__"))) (htk:PySem.W.takesIn K (.builtin "object.__class__")=some true)
   (hm:PySem.W.mroIn K C (.type "object")=some true):TyOf K H (.ref a) (.ref C)
def q654(I:Inv X pins σ H s)(rx:RelV x u)(ty:TyOf X.K H x t)(e:PySem.W.kitOne X.K t c=some b)(h:∀ tk,Q (.bool b) { s with toks:=tk }) :
  wpAny (model X.prog X.w) A (call (.builtin "isinstance") [u,c]) Q E s:=by
 cases ty with
 | non=>cases(show u=Value.none from rx);exact PySem.W.kia_one PySem.W.kitx_none I.kIn True.intro e (λz=>nomatch z) h
 | bl y=>cases(show u=Value.bool y from rx);exact PySem.W.kia_one PySem.W.kitx_bool I.kIn True.intro e (λz=>nomatch z) h
 | int i=>obtain⟨t,q⟩:=(show ∃ t,u=Value.int i t from rx);cases q;exact PySem.W.kia_one PySem.W.kitx_int I.kIn True.intro e (λz=>nomatch z) h
 | str y=>obtain⟨t,q⟩:=(show ∃ t,u=Value.str y t from rx);cases q;exact PySem.W.kia_one PySem.W.kitx_str I.kIn True.intro e (λz=>nomatch z) h
 | flt y=>obtain⟨t,q⟩:=(show ∃ t,u=Value.float y t from rx);cases q;exact PySem.W.kia_one PySem.W.kitx_float I.kIn True.intro e (λz=>nomatch z) h
 | @lst a xs ea=>
  cases(show u=Value.ref a from rx)
  obtain⟨_,_,n,_,h1⟩:=(show ObjOk X.prog X.w H s.heap a (.lst xs)from I.hok a _ ea)
  exact PySem.W.kia_one PySem.W.kitx_list I.kIn ⟨_,h1,rfl⟩ e (λz=>nomatch z) h
 | @frz a ob xs ea=>
  cases(show u=Value.ref a from rx)
  obtain⟨_,_,_,n,_,h1⟩:=(show ObjOk X.prog X.w H s.heap a (.frz ob (.lst xs))from I.hok a _ ea)
  exact PySem.W.kia_one PySem.W.kitx_list I.kIn ⟨_,h1,rfl⟩ e (λz=>nomatch z) h
 | @tup a xs ea=>
  cases(show u=Value.ref a from rx)
  obtain⟨_,_,_,p⟩:=(show ObjOk X.prog X.w H s.heap a (.tup xs)from I.hok a _ ea)
  obtain⟨o,h1,h2,_⟩:=p
  exact PySem.W.kia_one PySem.W.kitx_tuple I.kIn ⟨o,h1,h2⟩ e (λz=>nomatch z) h
 | @dK a kvs ea=>
  cases(show u=Value.ref a from rx)
  obtain⟨_,_,vs,_,p⟩:=(show ObjOk X.prog X.w H s.heap a (.dK kvs)from I.hok a _ ea)
  obtain⟨o,es,ep,h1,h2,_⟩:=p
  exact PySem.W.kia_one PySem.W.kitx_dict I.kIn ⟨o,h1,h2.1⟩ e (λz=>nomatch z) h
 | @dT a kvs ea=>
  cases(show u=Value.ref a from rx)
  obtain⟨_,_,xs,_,o,es,ep,h1,h2,_⟩:=(show ObjOk X.prog X.w H s.heap a (.dT kvs)from I.hok a _ ea)
  exact PySem.W.kia_one PySem.W.kitx_dict I.kIn ⟨o,h1,h2.1⟩ e (λz=>nomatch z) h
 | @ins a C dx fs ea cl ha hn htk hm=>
  cases(show u=Value.ref a from rx)
  obtain⟨mA,O,_⟩:=ins_get I.hok ea
  obtain⟨od,J,_⟩:=O.look
  exact PySem.W.kia_one (PySem.W.kitx_own (cl.get _) cl.hd ha hn htk hm) I.kIn J e (λz=>nomatch z) h
end
structure Room(k:Nat)(A:Around):Prop where
 hd:A.handled=none
 dp:A.depth+3*k+5<recursionLimit
 un:A.units+16*k+200<cLine
def Room.mono{j k:Nat}(r:Room k A)(h:j<=k):Room j A:=⟨r.hd,by have:=r.dp;lia,by have:=r.un;lia⟩
def Room.deeper{k:Nat}{A:Around}(r:Room (k+1) A)(env:Env):Room k (A.deeper env):=
 ⟨r.hd,by have:=r.dp;show A.depth+1+3*k+5<_;lia,by have:=r.un;show A.units+3+16*k+200<_;lia⟩
def Room.depth{k:Nat}{A:Around}(r:Room k A):A.depth<recursionLimit:=by have:=r.dp;lia
def Room.units{k:Nat}{A:Around}(r:Room k A):A.units+64<cLine:=by have:=r.un;lia
def tNil:TA:=λ_ H Q=>Q [] H
def tCons(ta:TE)(tr:TA):TA:=λσ H Q=>ta σ H λx H1=>tr σ H1 λxs H2=>Q (x::xs) H2
section
variable {e:Expr}{es:List Expr}{te:TE}{t:TA}{pos:Pos}
def q13:PA X [] tNil:=λ_ _ _ _ H Q I h=>Calls.spliced_nil ⟨[],H,I,.nil,h⟩
def q10(ha:PE X e te)(hr:PA X es t)(hs:starEach (e::es) X.env=(false,eval e X.env)::starEach es X.env:=by rfl):PA X (e::es) (tCons te t):=by
 intro pos pins s σ H Q I h
 rw[hs]
 show wpAny _ _ (spliced ((false,eval e X.env)::backTo pos (starEach es X.env))) _ _ s
 refine Calls.spliced_cons (thn (ha pins s σ H _ I h) λu s1 ⟨x,H1,I1,r1,q1⟩=>?_)
 exact thn (hr pos pins s1 σ H1 _ I1 q1) λus s2 ⟨xs,H2,I2,r2,q2⟩=>⟨x::xs,H2,I2,.cons r1 r2,q2⟩
noncomputable def tTup(t:TA):TE:=λσ H Q=>t σ H λxs H1=>xs.length<=sizeLine /\ ∀ p,H1 p=none->Q (.ref p) (upd H1 p (.tup xs))
noncomputable def tLst(t:TA):TE:=λσ H Q=>t σ H λxs H1=>xs.length<=sizeLine /\ ∀ p,H1 p=none->Q (.ref p) (upd H1 p (.lst xs))
def q30{x1}(h:PA X es t):PE X (.Tuple es x1 pos) (tTup t):=by
 intro pins s σ H Q I hq
 refine wpAny_Tuple_spliced (thn (h pos pins s σ H _ I hq) λus s1 ⟨xs,H1,I1,r,z,q⟩=>⟨by rw[<- r.length];exact z,?_⟩)
 have hf:H1 s1.heap.objs.size=none:=I1.hok.fresh (ZH _)
 refine⟨.ref s1.heap.objs.size,upd H1 s1.heap.objs.size (.tup xs),I1.laid (t':=s1.toks) (λb u e=>ZE _ e) (ZH _) ?_,rfl,q _ hf⟩
 exact⟨z,us,r,⟨_,ZT _ rfl,rfl,_,rfl⟩⟩
def q38(h:PA X es t):PE X (.List es pos) (tLst t):=by
 intro pins s σ H Q I hq
 refine wpAny_List_spliced (thn (h pos pins s σ H _ I hq) λus s1 ⟨xs,H1,I1,r,z,q⟩=>⟨by rw[<- r.length];exact z,?_⟩)
 have hf:H1 s1.heap.objs.size=none:=I1.hok.fresh (ZH _)
 refine⟨.ref s1.heap.objs.size,upd H1 s1.heap.objs.size (.lst xs),I1.laid (t':=s1.toks) (λb u e=>ZE _ e) (ZH _) ?_,rfl,q _ hf⟩
 exact⟨z,us,0,r,ZT _ rfl⟩
end
abbrev Sp:=List V->Hp->VK->XK->Prop
abbrev CXT:=List Env->Hp->Shared->XK->VS
structure Env0(P:Program)(w:World)(K:Fg)(mg:Mg)(base:Heap)(A:Around)(outer:List Env)(s:Shared)(H:Hp):Prop where
 frames:A.frames=some outer
 mod:Mod K mg base
 bs:∀ b o,base.get? b=some o->s.heap.get? b=some o/\H b=none
 bsz:base.objs.size<=s.heap.objs.size
 funs:s.heap.FunFrames base outer
 frf:∀ b∈frs outer,H b=none
 hok:HOk P w H s.heap
 bare:AllBare s.gens
inductive CE(outer:List Env)(P:Program)(w:World)(H:Hp)(s:Shared)(Q:VK)(u:Value)(s':Shared):Prop
 |mk(v:V)(H':Hp)(_:s'.os=s.os)(_:AllBare s'.gens)(_:Un (frs outer) [] H H' s.heap s'.heap)(_:HOk P w H' s'.heap)(_:RelV v u)(_:Q v H')
noncomputable def CR(CX:CXT)(outer:List Env)(P:Program)(w:World)(H:Hp)(s:Shared)(Q:VK)(E:XK)(r:Result)(s':Shared):Prop:=
 match r with
 | .ok (.ret u)=>CE outer P w H s Q u s'
 | .ok _=>False
 | .error e=>CX outer H s E e s'
structure FnOk(P:Program)(w:World)(K:Fg)(mg:Mg)(base:Heap)(CX:CXT)(k:Nat)(f:Addr)(fd:FuncData)(ps:List Str)(sp:Sp):Prop where
 len:∀ vs H Q E,sp vs H Q E->vs.length=ps.length
 run:∀(A:Around)(outer:List Env)(s:Shared)(H:Hp)(args:Args)(us:List Value)(vs:List V)(Q:VK)(E:XK),Room k A->Env0 P w K mg base A outer s H->BindsTo s fd args (ps.zip us)->Vals vs us->sp vs H Q E ->
  codeAny (model P w) A (.call (.ref f) args) (CR CX outer P w H s Q E) s
def FnOk.mono{P:Program}{w:World}{K:Fg}{mg:Mg}{base:Heap}{CX:CXT}{j k:Nat}{f:Addr}{fd:FuncData}{ps:List Str}{sp:Sp}(F:FnOk P w K mg base CX j f fd ps sp)(h:j<=k) :
  FnOk P w K mg base CX k f fd ps sp:=⟨F.len,λA outer s H args us vs Q E hr=>F.run A outer s H args us vs Q E (hr.mono h)⟩
section
variable {pins:List (Addr×Obj)}{σ:St}{H:Hp}{s s':Shared}
def Inv.env0(I:Inv X pins σ H s):Env0 X.prog X.w X.K X.mg X.base X.A X.stack s H:=
 ⟨I.ok.frames,I.ok.mod,I.bs,ZQ I.ok.bsz I.sz,I.stack,I.stkFree,I.hok,I.bare⟩
def Inv.after(I:Inv X pins σ H s)(h:CE X.stack X.prog X.w H s Q u s'):EP X pins σ Q u s':=by
 obtain⟨v,H',os,bare,un,hok,r,q⟩:=h
 obtain⟨hh,g,d,t,os'⟩:=s'
 obtain rfl:os'=s.os:=os
 exact⟨v,H',I.call (h':=hh) (g':=g) (d':=d) (t':=t) (ch:=[]) un hok bare (λb z=>absurd z (by simp)),r,q⟩
end
def tCall(sp:Sp)(dvs:List V)(E:XK)(t:TA):TE:=λσ H Q=>t σ H λvs H1=>sp (vs++dvs) H1 Q E
def Binds(K:Fg)(fd:FuncData)(ps:List Str)(ds:List Value):Prop:=
 ∀(s:Shared)(us:List Value),K.In s.heap->(us++ds).length=ps.length->BindsTo s fd ⟨us,[]⟩ (ps.zip (us++ds))
def Binds.all{K:Fg}{fd:FuncData}{ps:List Str}(h:∀ us:List Value,us.length=ps.length->bindArgs fd ⟨us,[]⟩=pure (ps.zip us)):Binds K fd ps []:=λs us _ hl=>by
 rw[append_nil]at hl ⊢
 exact .of_eq (h us hl)
def q655(CX:CXT)(X:Cx)(E:XK):Prop:=∀(pins:List (Addr×Obj)) (σ:St) (H:Hp) (s:Shared) (e:Value) (s':Shared),Inv X pins σ H s->CX X.stack H s E e s'->X.xe e s'
section
variable {CX:CXT}{k:Nat}{f C:Addr}{fd:FuncData}{ps:List Str}{sp:Sp}{dvs:List V}{ds:List Value}{E:XK}{x m:Str}{p pos apos:Pos}{e o:Expr}{es:List Expr}{ta:TE}{t:TA}
theorem run_fn(F:FnOk X.prog X.w X.K X.mg X.base CX k f fd ps sp)(hr:Room k X.A)(hb:Binds X.K fd ps ds)(hd:Vals dvs ds)(hx:q655 CX X E)
  (I:Inv X pins σ H s) (r:Vals vs us) (h:sp (vs++dvs) H Q E):wpAny (model X.prog X.w) X.A (call (.ref f) us) (EP X pins σ Q) X.xe s:=by
 have r2:Vals (vs++dvs) (us++ds):=r.append hd
 have hl:(us++ds).length=ps.length:=by rw[<- r2.length];exact F.len _ _ _ _ h
 refine wpAny_call (codeAny_mono (F.run X.A X.stack s H ⟨us,[]⟩ (us++ds) (vs++dvs) Q E hr I.env0 (hb s us I.kIn hl) r2 h) λr s' hq=>?_)
 cases r with
 | error e=>exact hx pins σ H s e s' I hq
 | ok fl=>
  cases fl with
  | ret u=>exact I.after hq
  | next=>exact False.elim hq
  | brk=>exact False.elim hq
  | cont=>exact False.elim hq
def pe_call(F:FnOk X.prog X.w X.K X.mg X.base CX k f fd ps sp)(hr:Room k X.A)(hg:Gl X x)(hm:X.mg x=some (.ref f))(hk:PySem.W.keepIn X.K (.ref f)=true)(hb:Binds X.K fd ps ds)(hd:Vals dvs ds)(hx:q655 CX X E)
  (ha:PA X (e::es) t) (hdb:(x==("__debug__" : Str))=false:=by decide) (he:starEach (e::es) X.env=(false,eval e X.env)::starEach es X.env:=by rfl) (hpl:(backTo pos (starEach es X.env)).any (·.1)=false:=by rfl) :
  PE X (.Call (.Name x p) (e::es) [] pos) (tCall sp dvs E t):=by
 intro pins s σ H Q I h
 refine wpAny_Call_Name_kw (q645 I hg hm ?_ hdb)
 refine PySem.W.callWith_K (h₀:=X.base) I.ok.mod.kin hk (thn (ha pos pins s σ H _ I h) λus s1 ⟨vs,H1,I1,r,q⟩=>⟨I1.kIn,?_⟩) he hpl
 exact run_fn F hr hb hd hx I1 r q
structure Mk(K:Fg)(C f:Addr):Prop where
 makes:PySem.W.makesIn K C=true
 init:PySem.W.findIn K (.ref C) "__init__" = some (some (.ref f))
 fn:PySem.W.isFn K (.ref f)=true
 kp:PySem.W.keepIn K (.ref C)=true
end
section
variable {CX:CXT}{k:Nat}{f C:Addr}{fd:FuncData}{ps ks:List Str}{sp:Sp}{E:XK}{x m:Str}{p pos apos kpos:Pos}{e o:Expr}{es:List Expr}{kws:List Keyword}{te ta:TE}{t tk:TA}{nm:Option Str}
structure KBinds(K:Fg)(fd:FuncData)(ps ks:List Str)(g:List Value->List Value->List Value)(gV:List V->List V->List V):Prop where
 to:∀(s:Shared)(us ws:List Value),K.In s.heap->(g us ws).length=ps.length->BindsTo s fd ⟨us,ks.zip ws⟩ (ps.zip (g us ws))
 rel:∀{vs:List V}{us:List Value}{zs:List V}{ws:List Value},Vals vs us->Vals zs ws->Vals (gV vs zs) (g us ws)
variable {g:List Value->List Value->List Value}{gV:List V->List V->List V}
end
structure FnScope(N P:List Str)(sc:Scope):Prop where
 kind:sc.kind = .function
 co:sc.isCoroutine=false
 gen:sc.isGenerator=false
 nd:N.Nodup
 pre:N.take P.length=P
 par:∀ x∈P,sc.names.lookup x=some .local\/sc.names.lookup x=some .cell
 nofree:∀ y∈sc.names,y.2 ≠ .free
theorem q438{kindOf:Str->Option NameKind}{x:Str}:∀{binds:List (Str×Value)} {m:Mg},(∀ v,(x,v) ∉ binds)->bindL kindOf binds m x=m x
 | [],_,_=>rfl
 | (n,v)::r,m,h=>by
  unfold bindL
  rw[q438 λw hw=>h w (ZY _ hw)]
  split
  ·have:x≠n:=by rintro rfl;exact h v WD
   simp[this]
  ·rfl
theorem q439{kindOf:Str->Option NameKind}{x:Str}:∀{binds:List (Str×Value)} {m:Mg},(∀ v,(x,v) ∉ binds)->bindC kindOf binds m x=m x
 | [],_,_=>rfl
 | (n,v)::r,m,h=>by
  unfold bindC
  rw[q439 λw hw=>h w (ZY _ hw)]
  split
  ·rfl
  ·have:x≠n:=by rintro rfl;exact h v WD
   simp[this]
theorem q440{kindOf:Str->Option NameKind}{x:Str}{v:Value}:∀{P:List Str}{vs:List Value}{i:Nat}{m:Mg},P.Nodup->P[i]? = some x->vs[i]? = some v->kindOf x=some .local ->
  bindL kindOf (P.zip vs) m x=some v
 | [],_,_,_,_,h,_,_=>by simp at h
 | _::_,[],_,_,_,_,h,_=>by simp at h
 | p::P,w::vs,0,m,nd,h1,h2,hk=>by
  simp at h1 h2;subst h1;subst h2
  show bindL kindOf ((p,w)::P.zip vs) m p=_
  unfold bindL
  rw[q438 λv hv=>(List.nodup_cons.mp nd).1 (of_mem_zip hv).1,ZL hk]
  simp
 | p::P,w::vs,i+1,m,nd,h1,h2,hk=>by
  show bindL kindOf ((p,w)::P.zip vs) m x=_
  unfold bindL
  exact q440 (i:=i) (List.nodup_cons.mp nd).2 (by simpa using h1) (by simpa using h2) hk
theorem q441{kindOf:Str->Option NameKind}{x:Str}{v:Value}:∀{P:List Str}{vs:List Value}{i:Nat}{m:Mg},P.Nodup->P[i]? = some x->vs[i]? = some v->kindOf x≠some .local ->
  bindC kindOf (P.zip vs) m x=some v
 | [],_,_,_,_,h,_,_=>by simp at h
 | _::_,[],_,_,_,_,h,_=>by simp at h
 | p::P,w::vs,0,m,nd,h1,h2,hk=>by
  simp at h1 h2;subst h1;subst h2
  show bindC kindOf ((p,w)::P.zip vs) m p=_
  unfold bindC
  rw[q439 λv hv=>(List.nodup_cons.mp nd).1 (of_mem_zip hv).1,ZJ hk]
  simp
 | p::P,w::vs,i+1,m,nd,h1,h2,hk=>by
  show bindC kindOf ((p,w)::P.zip vs) m x=_
  unfold bindC
  exact q441 (i:=i) (List.nodup_cons.mp nd).2 (by simpa using h1) (by simpa using h2) hk
noncomputable def start(N:List Str)(vs:List V):St:=vs.map some++List.replicate (N.length-vs.length) none
noncomputable def cxOf(CX:CXT)(P:Program)(w:World)(K:Fg)(mg:Mg)(base:Heap)(N:List Str)(qual:Str)(scope:Scope)(f:Addr)(cd:Value)(A:Around)(outer:List Env)(s:Shared)(H:Hp)(E:XK):Cx where
 prog:=P
 w:=w
 K:=K
 mg:=mg
 base:=base
 A:=A.deeper (envOfC qual scope s.heap.objs.size f cd)
 N:=N
 s₀:=s
 H₀:=H
 env:=envOfC qual scope s.heap.objs.size f cd
 outer:=outer
 stack:=envOfC qual scope s.heap.objs.size f cd::outer
 ex:=[]
 calm:=true
 fn:=λ_=>true
 pn:=[]
 xe:=λe s'=>wpAny (model P w) (A.deeper (envOfC qual scope s.heap.objs.size f cd)) (leaving (envOfC qual scope s.heap.objs.size f cd) e) (λ_ s''=>CX outer H s E e s'') (λe' s''=>CX outer H s E e' s'') s'
def q551{sc:Scope}{n:Nat}(h:sc.names.lookup x=some .cell):∃ c,(cellsFrom n sc.names []).lookup x=some c:=by
 have q:=PySem.W.cellsFrom_some sc.names n [] (.inl h)
 exact Option.isSome_iff_exists.mp q
def q656{CX:CXT}{P:Program}{w:World}{K:Fg}{mg:Mg}{base:Heap}{N ps:List Str}{qual:Str}{scope:Scope}{f:Addr}{cd:Value}{A:Around}{outer:List Env}{s s1:Shared}{H:Hp}{E:XK}{us:List Value}{vs:List V}
  (S:FnScope N ps scope) (hd:A.handled=none) (e0:Env0 P w K mg base A outer s H) (hl:vs.length=ps.length) (r:Vals vs us)
  (x:InCallC s s.heap.objs.size (bindL (envOfC qual scope s.heap.objs.size f cd).kindOf (ps.zip us) λ_=>none) (cellsFrom (s.heap.objs.size+1) scope.names []) (bindC (envOfC qual scope s.heap.objs.size f cd).kindOf (ps.zip us) λ_=>none) s1) :
  Inv (cxOf CX P w K mg base N qual scope f cd A outer s H E) [] (start N vs) H s1:=by
 have hpl:ps.length<=N.length:=by have:=congrArg List.length S.pre;rw[length_take]at this;lia
 obtain⟨h1,tk,rfl,hk⟩:=x.done
 have noA:∀ b:Addr,b ∉ (cxOf CX P w K mg base N qual scope f cd A outer s H E).ex:=λb z=>absurd (show b∈([]:List Addr)from z) (by simp)
 refine⟨⟨e0.mod,S.kind,rfl,rfl,ZH _,λy z c h1 h2=>?_,λy hy=>?_,λy c _ h=>?_,λ_=>hd,Around.frames_deeper e0.frames,.inr ⟨rfl,rfl⟩,λb z=>absurd z (noA b),e0.bs,e0.bsz,λb _ _=>noA b,λb z=>absurd z (noA b),e0.funs,e0.frf⟩,
  rfl,e0.bare,Un.kept hk,⟨_,x.toInCall.ns,λi y v h1 h2 h3=>?_⟩,λy c h=>⟨_,x.cell y c h⟩,e0.hok.fresh (ZH _),λy c h=>?_,λp hp=>absurd (show p∈([]:List (Addr×Obj))from hp) (by simp),e0.hok.kept hk,?_⟩
 ·exact name_of_addr x.apart (YG h1) (YG h2)
 ·have hy:scope.names.lookup y=some .cell\/scope.names.lookup y=some .free:=hy
  rcases hy with hy | hy
  ·exact q551 hy
  ·exact absurd rfl (S.nofree _ (YG hy))
 ·exact Nat.le_of_lt (x.above y c (YG h))
 ·have hi:i<vs.length:=by
   unfold start at h2
   by_cases hi:i<vs.length
   ·exact hi
   ·rw[YT (by simpa using hi)]at h2
    rw[getElem?_replicate]at h2
    split at h2 <;> cases h2
  have ha:vs[i]? = some v:=by
   unfold start at h2
   rw[YX (by simpa using hi),WM]at h2
   cases e:vs[i]? with
   | none=>rw[e]at h2;cases h2
   | some a=>rw[e]at h2;cases h2;rfl
  obtain⟨u,hu,rv⟩:=r.get ha
  have hp:ps[i]? = some y:=by
   rw[<- S.pre,getElem?_take_of_lt {}];exact h1
  have ndP:ps.Nodup:=by rw[<- S.pre];exact S.nd.sublist (take_sublist _ _)
  exists u,rv
  rcases S.par y (WQ hp)with k | k
  ·exact .inl ⟨k,q440 ndP hp hu k⟩
  ·obtain⟨c,e⟩:=q551 (n:=s.heap.objs.size+1) k
   refine .inr ⟨.inl k,c,e,?_⟩
   have q:=x.cell y c e
   rw[q441 ndP hp hu (by show scope.names.lookup y≠_;rw[k];decide)]at q
   exact q
 ·exact e0.hok.fresh (Nat.le_of_lt (x.above y c (YG h)))
 ·unfold start
  show _=N.length
  rw[ZU,ZN,length_replicate]
  lia
theorem fn_of{CX:CXT}{P:Program}{w:World}{K:Fg}{mg:Mg}{base:Heap}{k:Nat}{f:Addr}{name qual:Str}{params:Arguments}{body:List Stmt}{scope:Scope}{dV kV doc pm cdv ct oc:Value}{an od:Option Addr}
  {osl:Array (Option Value)} {N ps:List Str} {sp:Sp} (lk:K.lookup f=some ⟨oc,od,.func (PySem.W.fnOf name qual params body scope dV kV doc pm an cdv ct),osl⟩) (hcd:PySem.W.codeIn K cdv qual=true) (S:FnScope N ps scope)
  (len:∀ vs H Q E,sp vs H Q E->vs.length=ps.length)
  (hbody:∀(A:Around)(outer:List Env)(s:Shared)(H:Hp)(vs:List V)(Q:VK)(E:XK),Room k (A.deeper (envOfC qual scope s.heap.objs.size f cdv))->sp vs H Q E ->
   ∃ t,PSs (cxOf CX P w K mg base N qual scope f cdv A outer s H E) body t/\t { nx:=λ_ H'=>Q .non H',rt:=Q } (start N vs) H) :
  FnOk P w K mg base CX (k+1) f (PySem.W.fnOf name qual params body scope dV kV doc pm an cdv ct) ps sp:=by
 refine⟨len,λA outer s H args us vs Q E hr e0 hb r hsp=>?_⟩
 have hl:=len _ _ _ _ hsp
 have KX:K.In s.heap:=e0.mod.kin.keeps λb o e=>(e0.bs b o e).1
 have lim:s.heap.NoLimit:=e0.mod.nolimit.keeps λb o e=>(e0.bs b o e).1
 have hkind:∀ y∈ps.zip us,scope.names.lookup y.1=some .local\/(scope.names.lookup y.1=some .cell/\((cellsFrom (s.heap.objs.size+1) scope.names []).lookup y.1).isSome=true):=λ⟨n,v⟩ hy=>by
  rcases S.par n (of_mem_zip hy).1 with q | q
  ·exact .inl q
  ·exact .inr ⟨q,PySem.W.cellsFrom_some _ _ _ (.inl q)⟩
 refine codeAny_call_function hr.depth (KX _ _ lk) rfl S.co S.gen rfl (PySem.W.codeRec_of KX hcd) (hb _ _ _ _ ?_)
 refine wpAny_newFunctionEnv_cells S.kind hkind λenv he s1 x=>?_
 subst he
 refine⟨lim.keeps x.toInCall.keep,codeAny_func ?_⟩
 obtain⟨t,ht,hq⟩:=hbody A outer s H vs Q E (hr.deeper _) hsp
 have I:Inv (cxOf CX P w K mg base N qual scope f cdv A outer s H E) [] (start N vs) H s1:=q656 S hr.hd e0 hl r x
 refine YJ (ht [] s1 (start N vs) H _ I hq) (λfl s' hs=>?_) λe s' hs=>hs
 have fin:∀{σ':St}{H':Hp}{v:V}{u:Value},Inv (cxOf CX P w K mg base N qual scope f cdv A outer s H E) [] σ' H' s'->RelV v u->Q v H'->CE outer P w H s Q u s':=
  fun {σ' H' v u} J rv q=>⟨v,H',J.os,J.bare,J.base,J.hok,rv,q⟩
 cases fl with
 | ret u=>
  obtain⟨v,σ',H',J,rv,q⟩:=hs
  exact fin J rv q
 | next=>
  obtain⟨σ',H',J,q⟩:=hs
  exact fin (v:=V.non) (u:=Value.none) J rfl q
 | brk=>
  obtain⟨_,_,_,q⟩:=hs
  exact False.elim q
 | cont=>
  obtain⟨_,_,_,q⟩:=hs
  exact False.elim q
section
variable {x:Str}{p pos:Pos}{e:Expr}{es:List Expr}{t:TA}{id T:String}{r:List V->Hp->VK->Prop}
def tCB(r:List V->Hp->VK->Prop)(t:TA):TE:=λσ H Q=>t σ H λvs H1=>r vs H1 Q
def q44(hc:CallR X (.builtin id) r)(hg:Gl X x)(hm:X.mg x=none)(hv:bootBuiltins x=some (.builtin id))(ha:PA X (e::es) t)(hn:x ≠ "__name__" := by decide) (hdb:(x==("__debug__" : Str))=false:=by decide)
  (he:starEach (e::es) X.env=(false,eval e X.env)::starEach es X.env:=by rfl) (hpl:(backTo pos (starEach es X.env)).any (·.1)=false:=by rfl):PE X (.Call (.Name x p) (e::es) [] pos) (tCB r t):=by
 intro pins s σ H Q I h
 refine wpAny_Call_Name_kw (q367 I hg hm hv ?_ hn hdb)
 exact PyProof.Rows.callWith_builtin1 (thn (ha pos pins s σ H _ I h) λus s1 ⟨vs,H1,I1,r1,q1⟩=>hc pins s1 σ H1 vs us Q I1 r1 q1) he hpl
def q102(hc:CallR X (.type T) r)(hg:Gl X x)(hm:X.mg x=none)(hv:bootBuiltins x=some (.type T))(ha:PA X (e::es) t)(hn:x ≠ "__name__" := by decide) (hdb:(x==("__debug__" : Str))=false:=by decide)
  (he:starEach (e::es) X.env=(false,eval e X.env)::starEach es X.env:=by rfl) (hpl:(backTo pos (starEach es X.env)).any (·.1)=false:=by rfl):PE X (.Call (.Name x p) (e::es) [] pos) (tCB r t):=by
 intro pins s σ H Q I h
 refine wpAny_Call_Name_kw (q367 I hg hm hv ?_ hn hdb)
 exact PyProof.Rows.callWith_type1 (thn (ha pos pins s σ H _ I h) λus s1 ⟨vs,H1,I1,r1,q1⟩=>hc pins s1 σ H1 vs us Q I1 r1 q1) he hpl
end
end L2
namespace HT
set_option autoImplicit false
open PySem PyProof.Rows
section
open PySem.SeqAt
open PySem.AutoSeq1 (wpAny_loadPart')
open PySem.MeetsSeq PySem.MeetsSeq2 PySem.MeetsSeq3
end
section
variable {prog:Program}{w:World}{A:Around}{E:VS}{s:Shared}
noncomputable def sIx(n d:Nat):Option Int->Nat
 | none=>d
 | some v=>if v<0 then(v+(n:Int)).toNat else min v.toNat n
def q753(n d:Nat):sIx n d none=d:=rfl
def q754(n d k:Nat):sIx n d (some (k:Int))=min k n:=by
 show(if(k:Int)<0 then((k:Int)+(n:Int)).toNat else min (k:Int).toNat n)=min k n
 rw[ZJ W74,Int.toNat_natCast]
def sIx_le(n d:Nat)(hd:d<=n)(o:Option Int):sIx n d o<=n:=by
 cases o with
 | none=>exact hd
 | some v=>
  show(if v<0 then(v+(n:Int)).toNat else min v.toNat n)<=n
  by_cases hv:v<0
  ·rw[ZL hv];lia
  ·rw[ZJ hv];exact Nat.min_le_right _ _
def q657(v:Int)(n d:Nat):(if v<0 then max (v+(n:Int)) 0 else min v (n:Int))=((sIx n d (some v):Nat):Int):=by
 show(if v<0 then max (v+(n:Int)) 0 else min v (n:Int))=(((if v<0 then(v+(n:Int)).toNat else min v.toNat n):Nat):Int)
 by_cases hv:v<0
 ·simp only[ZL hv];lia
 ·simp only[ZJ hv];lia
def q596(lo hi:Option Int)(n:Nat):Builtin.Slice.sliceAdjust lo hi 1 (n:Int)=(((sIx n 0 lo:Nat):Int),((sIx n n hi:Nat):Int)):=by
 have h1:¬((1:Int)<0):={}
 unfold Builtin.Slice.sliceAdjust
 simp only[h1,if_false]
 refine Prod.ext ?_ ?_
 ·cases lo with
  | none=>rfl
  | some v=>exact q657 v n 0
 ·cases hi with
  | none=>rfl
  | some v=>exact q657 v n n
def q597(i j:Nat):Builtin.Slice.slicePlaces (i:Int) (j:Int) 1=j-i:=by
 unfold Builtin.Slice.slicePlaces
 have h1:(1:Int) > 0:={}
 simp only[h1,if_true,Int.ediv_one]
 split <;> lia
def q368{v:Value}{o:Option Int}{Q:Option Int->Shared->Prop}(p:IsPart v o)(h:Q o s):wpAny (model prog w) A (Builtin.Slice.slicePartIndex v) Q E s:=by
 cases p with
 | none=>exact slicePart_none h
 | int i t=>exact slicePart_int h
def q146{sl:Addr}{vl vu:Value}{lo hi:Option Int}{n:Nat}{Q:Int×Int×Nat->Shared->Prop}(hs:s.heap.IsSliceOf sl vl vu .none)(pl:IsPart vl lo)(pu:IsPart vu hi)
  (h:Q (((sIx n 0 lo:Nat):Int),1,sIx n n hi-sIx n 0 lo) s):wpAny (model prog w) A (Builtin.Slice.sliceApplied (.ref sl) (pure (n:Int))) Q E s:=by
 obtain⟨os,hos,hcs,hds⟩:=id hs
 unfold Builtin.Slice.sliceApplied Builtin.Slice.sliceFields
 refine ZC (ZC (wpAny_field hos hds (x:=vl) rfl (ZC (wpAny_field hos hds (x:=vu) rfl (ZC (wpAny_field hos hds (x:=.none) rfl (ZM ?_)))))))
 refine ZC (slicePart_none ?_)
 show wpAny _ _ (if((1:Int)==0)=true then _ else _) _ _ s
 rw[ZJ ∅]
 refine ZC (q368 pl (ZC (q368 pu (ZC (ZM ?_)))))
 show wpAny _ _ (match Builtin.Slice.sliceAdjust lo hi 1 (n:Int)with | (lo,hi)=>pure (lo,(1:Int),Builtin.Slice.slicePlaces lo hi 1)) _ _ s
 rw[q596 lo hi n]
 show wpAny _ _ (pure (((sIx n 0 lo:Nat):Int),(1:Int),Builtin.Slice.slicePlaces ((sIx n 0 lo:Nat):Int) ((sIx n n hi:Nat):Int) 1)) _ _ s
 rw[q597]
 exact ZM h
def pick_gen(xs:Array Value)(i k:Nat):((List.range k).filterMap λ(m:Nat)=>xs[((i:Int)+(m:Int)*1).toNat]?).toArray=((xs.toList.drop i).take k).toArray:=by
 have e:(λ(m:Nat)=>xs[((i:Int)+(m:Int)*1).toNat]?)=λm=>xs[i+m]?:=by
  funext m
  have:((i:Int)+(m:Int)*1).toNat=i+m:=W29
  rw[this]
 rw[e]
 have:=pick_run xs i k
 rw[List.filterMap_map]at this
 have e2:((λx=>xs[x]?)∘λx=>i+x)=λm=>xs[i+m]?:=rfl
 rw[e2]at this
 rw[this]
def q598{t sl:Addr}{items:Array Value}{vl vu:Value}{lo hi:Option Int}{Q:VS}(ht:IsTup s.heap t items)(hs:s.heap.IsSliceOf sl vl vu .none)(pl:IsPart vl lo)(pu:IsPart vu hi)
  (hw:¬(sIx items.size 0 lo=0/\sIx items.size items.size hi=items.size))
  (h:Q (.ref s.heap.objs.size) { s with heap:=s.heap.push { cls:=.type "tuple", data:=.seq ((items.toList.drop (sIx items.size 0 lo)).take (sIx items.size items.size hi-sIx items.size 0 lo)).toArray } })
  (hsz:items.size<=sizeLine):wpAny (model prog w) A (getItem (.ref t) (.ref sl)) Q E s:=by
 have htake:sizeOk (.seq ((items.toList.drop (sIx items.size 0 lo)).take (sIx items.size items.size hi-sIx items.size 0 lo)).toArray):=by
  show((items.toList.drop (sIx items.size 0 lo)).take (sIx items.size items.size hi-sIx items.size 0 lo)).toArray.size<=sizeLine
  rw[List.size_toArray,List.length_take,List.length_drop,ZX]
  lia
 have hj:sIx items.size items.size hi<=items.size:=sIx_le _ _ (ZH _) hi
 obtain⟨os,hos,hcs,hds⟩:=id hs
 have hTs:s.TypeIs (.ref sl) "slice" := ⟨os,hos,hcs⟩
 unfold getItem
 try with_reducible refine YW ?_
 first | refine ZC (ZM ?_) | skip
 refine ZC (wpAny_sequenceKey ht.typeIs ∅ ?_)
 refine ZC (wpAny_callSpecial?_slot (name:=Str.ofString "__getitem__") ht.typeIs PyProof.Rows.slot_tuple_getitem
  (wpAny_call_entry PyProof.Rows.slot_tuple_getitem ht.typeIs entry_tuple_getitem ?_ (args_tuple_getitem _ _)))
 show wpAny _ _ (Builtin.Tuple.tupleItemsOf (.ref t) >>= _) _ _ s
 refine ZC (tupleItemsOf_ ht ?_)
 refine ZC (wpAny_typeOf hTs ?_)
 rw[ZL ∅]
 refine ZC (q146 hs pl pu ?_)
 have hno:¬((((sIx items.size 0 lo:Nat):Int)==0&&(1:Int)==1&&(sIx items.size items.size hi-sIx items.size 0 lo)==items.size)=true):=by
  intro q
  rw[WC,WC]at q
  have q1:((sIx items.size 0 lo:Nat):Int)=0:=eq_of_beq q.1.1
  have q2:sIx items.size items.size hi-sIx items.size 0 lo=items.size:=eq_of_beq q.2
  exact hw ⟨{},{}⟩
 show wpAny _ _ (if(((sIx items.size 0 lo:Nat):Int)==0&&(1:Int)==1&&(sIx items.size items.size hi-sIx items.size 0 lo)==items.size)=true then _ else _) _ _ s
 rw[ZJ hno,pick_gen]
 first
  | exact ZC (m:=Builtin.Tuple.tupleExact _) (YB (ZM ⟨_,rfl,ZM h⟩) htake)
  | exact ZC (m:=Builtin.Tuple.tupleExact _) (YB (ZC (ZM (ZM ⟨_,rfl,ZM h⟩))) htake)
  | exact ZC (ZC (m:=Builtin.Tuple.tupleExact _) (YB (ZM (ZM ⟨_,rfl,ZM h⟩)) htake))
  | exact ZC (ZC (m:=Builtin.Tuple.tupleExact _) (YB (ZM ⟨_,rfl,ZM h⟩) htake))
end
end HT
namespace L2
open PySem PySem.Spec PyProof.Rows List
variable {X:Cx}
abbrev TO:=St->Hp->(Option Int->Hp->Prop)->Prop
def PO(X:Cx)(e:Option Expr)(t:TO):Prop:=
 ∀(pins:List (Addr×Obj)) (s:Shared) (σ:St) (H:Hp) (Q:Option Int->Hp->Prop),Inv X pins σ H s->t σ H Q ->
  wpAny (model X.prog X.w) X.A (evalPart e X.env) (λu s'=>∃ o H',Inv X pins σ H' s'/\IsPart u o/\Q o H') X.xe s
def q396:TO:=λ_ H Q=>Q none H
inductive jPart(x:V)(H:Hp)(Q:Option Int->Hp->Prop):Prop
 |mk(i:Int)(_:x = .int i)(_:Q (some i) H)
def tPart(t:TE):TO:=λσ H Q=>t σ H λx H1=>jPart x H1 Q
def q63{ns:List Int}:∀{us:List Value},Vals (ns.map V.int) us->IntsAre us ns:=by
 induction ns with
 | nil=>intro us r;rw[map_nil]at r;cases r;exact .nil
 | cons n ns ih=>
  intro us r
  rw[map_cons]at r
  cases r with
  | cons r1 r2=>
   obtain⟨t,e⟩:=r1
   subst e
   exact .cons n t (ih r2)
section
variable {e:Expr}{te:TE}{lo hi:Option Expr}{tl th:TO}{pos p2:Pos}
def q188:PO X none q396:=by
 intro pins s σ H Q I h
 rw[evalPart_none]
 exact ZM ⟨none,H,I,.none,h⟩
def q189(h:PE X e te):PO X (some e) (tPart te):=by
 intro pins s σ H Q I hw
 rw[evalPart_some]
 refine thn (h pins s σ H _ I hw) λu s1 ⟨x,H1,I1,r1,q1⟩=>?_
 obtain⟨i,rfl,q⟩:=q1
 obtain⟨t,rfl⟩:=r1
 exact⟨some i,H1,I1,.int i t,q⟩
def SlR(X:Cx)(r:V->Option Int->Option Int->Hp->VK->Prop):Prop:=
 ∀(pins:List (Addr×Obj)) (s:Shared) (σ:St) (H:Hp) (x:V) (v vl vu:Value) (lo hi:Option Int) (sl:Addr) (Q:VK),Inv X pins σ H s->RelV x v->s.heap.IsSliceOf sl vl vu .none->IsPart vl lo->IsPart vu hi->r x lo hi H Q ->
  ∃ T id,typeLookup (.type T) "__getitem__" = pure (some (.builtin id))/\s.TypeIs v T/\wpAny (model X.prog X.w) X.A (getItem v (.ref sl)) (EP X pins σ Q) X.xe s
def tSl(r:V->Option Int->Option Int->Hp->VK->Prop)(te:TE)(tl th:TO):TE:=λσ H Q=>te σ H λx H1=>tl σ H1 λl H2=>th σ H2 λu H3=>r x l u H3 Q
def q130(hr:SlR X r)(he:PE X e te)(hl:PO X lo tl)(hu:PO X hi th):PE X (.Subscript e (.Slice lo hi none p2) pos) (tSl r te tl th):=by
 intro pins s σ H Q I h
 refine Subscript_ (thn (he pins s σ H _ I h) λv s1 ⟨x,H1,I1,r1,q1⟩=>?_)
 refine wpAny_Slice (thn (hl pins s1 σ H1 _ I1 q1) λvl s2 ⟨l,H2,I2,pl,q2⟩=>thn (hu pins s2 σ H2 _ I2 q2) λvu s3 ⟨u,H3,I3,pu,q3⟩=>?_)
 rw[evalPart_none]
 refine ZM ?_
 have I4:Inv X pins σ H3 { s3 with heap:=s3.heap.push { cls:=.type "slice", data:=.fields #[vl,vu,.none] } }:=I3.kept (t':=s3.toks) λb ob q=>ZE _ q
 obtain⟨T,id,hT,ht,hg⟩:=hr pins { s3 with heap:=s3.heap.push { cls:=.type "slice", data:=.fields #[vl,vu,.none] } } σ H3 x v vl vu l u s3.heap.objs.size Q I4 r1 (Heap.IsSliceOf.new ..) pl pu q3
 show wpAny (model X.prog X.w) X.A (subscriptTail e (.Slice lo hi none p2) v (.ref s3.heap.objs.size)) (EP X pins σ Q) X.xe { s3 with heap:=s3.heap.push { cls:=.type "slice", data:=.fields #[vl,vu,.none] } }
 exact tail_any (ops:=[.ref s3.heap.objs.size,v]) ht hT hg (by with_unfolding_all rfl)
noncomputable def cutV(xs:List V)(lo hi:Option Int):List V:=(xs.drop (HT.sIx xs.length 0 lo)).take (HT.sIx xs.length xs.length hi-HT.sIx xs.length 0 lo)
def q190(xs:List V)(lo hi:Option Int):(cutV xs lo hi).length<=xs.length:=by
 unfold cutV
 rw[length_take,length_drop]
 lia
def Vals.nil_iff(r:Vals xs us):us=[]↔xs=[]:=by
 cases r with
 | nil=>simp
 | cons _ _=>simp
end
noncomputable def ixN(n:Nat)(i:Int):Option Nat:=if 0<=i then(if i<n then some i.toNat else none)else if -(n:Int)<=i then some (i+n).toNat else none
noncomputable def atI{α:Type}(xs:List α)(i:Int):Option α:=(ixN xs.length i).bind λj=>xs[j]?
def q658{n:Nat}{i:Int}{j:Nat}(h:ixN n i=some j):seqIndex? i n=some j/\j<n /\ -(n:Int)<=i/\i<n:=by
 unfold ixN at h
 by_cases h0:0<=i
 ·rw[ZL h0]at h
  by_cases h1:i<n
  ·rw[ZL h1]at h
   have e:i.toNat=j:=Option.some.inj h
   exact⟨by rw[seqIndex_of h0 h1,e],{},{},h1⟩
  ·rw[ZJ h1]at h;cases h
 ·rw[ZJ h0]at h
  by_cases h1:-(n:Int)<=i
  ·rw[ZL h1]at h
   have e:(i+n).toNat=j:=Option.some.inj h
   exact⟨by rw[seqIndex_neg {} h1,e],{},h1,{}⟩
  ·rw[ZJ h1]at h;cases h
def q659{α:Type}{xs:List α}{i:Int}{v:α}(h:atI xs i=some v):∃ j,seqIndex? i xs.length=some j/\xs[j]? = some v/\j<xs.length /\ -(xs.length:Int)<=i/\i<xs.length:=by
 unfold atI at h
 cases e:ixN xs.length i with
 | none=>rw[e]at h;cases h
 | some j=>
  rw[e]at h
  obtain⟨h1,h2,h3,h4⟩:=q658 e
  exact⟨j,h1,h,h2,h3,h4⟩
def q86{α:Type}{xs:List α}{j:Nat}{v:α}(h:xs[j]? = some v):atI xs (j:Int)=some v:=by
 have hj:j<xs.length:=(eA h).1
 have e:ixN xs.length (j:Int)=some j:=by
  unfold ixN
  rw[ZL W38,ZL (W98 hj)];simp
 unfold atI;rw[e];exact h
def q660(b:Expr):Prop:=∀ o i,subscripted b false o i=operate [o,i] (getItem o i)
def IxR(X:Cx)(r:R2):Prop:=
 ∀(value slice:Expr) (pins:List (Addr×Obj)) (s:Shared) (σ:St) (H:Hp) (x y:V) (v u:Value) (Q:VK),Inv X pins σ H s->RelV x v->RelV y u->r x y H Q ->
  subscripted slice false v u=operate [v,u] (getItem v u)->wpAny (model X.prog X.w) X.A (subscriptTail value slice v u) (EP X pins σ Q) X.xe s
def MtR(X:Cx)(id:String)(r:V->List V->Hp->VK->Prop):Prop:=
 ∀(pins:List (Addr×Obj)) (s:Shared) (σ:St) (H:Hp) (x:V) (xs:List V) (v:Value) (us:List Value) (Q:VK),Inv X pins σ H s->RelV x v->Vals xs us->r x xs H Q ->
  wpAny (model X.prog X.w) X.A (call (.builtin id) (v::us)) (EP X pins σ Q) X.xe s
section
variable{a b:Expr}{ta tb:TE}{pos:Pos}
def pe_ix(hr:IxR X r)(ha:PE X a ta)(hb:PE X b tb)(hs:q660 b):PE X (.Subscript a b pos) (tOp r ta tb):=by
 intro pins s σ H Q I h
 exact Subscript_ (binT ha hb I h λv u s2 x y H2 I2 rx ry q=>hr a b pins s2 σ H2 x y v u Q I2 rx ry q (hs _ _))
inductive rIxL(K:Fg)(x y:V)(H:Hp)(Q:VK):Prop
 |mk(p:Addr)(xs:List V)(i:Int)(v:V)(_:x = .ref p)(_:y = .int i)(_:SqL K H p xs)(_:atI xs i=some v)(_:Q v H)
inductive rIxT(K:Fg)(x y:V)(H:Hp)(Q:VK):Prop
 |mk(p:Addr)(xs:List V)(i:Int)(v:V)(_:x = .ref p)(_:y = .int i)(_:SqT K H p xs)(_:atI xs i=some v)(_:Q v H)
def q32:IxR X (rIxL X.K):=by
 intro value slice pins s σ H x y v u Q I rx ry h hs
 obtain⟨p,xs,i,z,rfl,rfl,hq,he,q⟩:=h
 cases rx
 obtain⟨t,rfl⟩:=ry
 obtain⟨its,r,pl,hz⟩:=I.list hq
 obtain⟨j,h1,h2,h3,h4,h5⟩:=q659 he
 obtain⟨w,ew,rw'⟩:=r.get h2
 have hl:=r.length
 have hn:=q550
 have fin:EP X pins σ Q w s:=⟨z,H,I,rw',q⟩
 by_cases h0:0<=i
 ·have hj:i.toNat=j:=by
   rw[seqIndex_of h0 h5]at h1
   exact Option.some.inj h1
  exact item_listR pl.isList h0 {} (by rw[hj];simpa using ew) fin hs
 ·have hj:(i+(its.toArray.size:Int)).toNat=j:=by
   rw[seqIndex_neg {} h4]at h1
   rw[WG,<- hl]
   exact Option.some.inj h1
  exact subscriptTail_builtinR (x:=w) pl.isList.typeIs slot_list_getitem.lookup
   (wpAny_getItem_list_neg (Q:=λr s'=>r=w/\EP X pins σ Q r s') pl.isList {} (by rw[WG] <;> lia) {} (by rw[hj];simpa using ew) ⟨rfl,fin⟩) hs
def q26:IxR X (rIxT X.K):=by
 intro value slice pins s σ H x y v u Q I rx ry h hs
 obtain⟨p,xs,i,z,rfl,rfl,hq,he,q⟩:=h
 cases rx
 obtain⟨t,rfl⟩:=ry
 obtain⟨its,r,pl,hz⟩:=I.tuple hq
 obtain⟨j,h1,h2,h3,h4,h5⟩:=q659 he
 obtain⟨w,ew,rw'⟩:=r.get h2
 have hl:=r.length
 have hn:=q550
 have fin:EP X pins σ Q w s:=⟨z,H,I,rw',q⟩
 exact subscriptTail_builtinR (x:=w) pl.typeIs slot_tuple_getitem.lookup
  (getItem_tuple (j:=j) (Q:=λr s'=>r=w/\EP X pins σ Q r s') pl {} {} (by rw[WG,<- hl];exact h1) (by simpa using ew) ⟨rfl,fin⟩) hs
def q599(its:List Value)(n j:Nat)(u:Value):Obj.mapSeq (·.setIfInBounds j u) { cls:=.type "list", data:=.seq its.toArray n } = { cls:=.type "list", data:=.seq (its.set j u).toArray n }:=by
 simp[Obj.mapSeq]
def Inv.lst{s:Shared}(I:Inv X pins σ H s)(h:H p=some (.lst xs)) :
  ∃(its:List Value)(n:Nat),Vals xs its/\s.heap.get? p=some { cls:=.type "list", data:=.seq its.toArray n }/\xs.length<=sizeLine:=by
 obtain⟨z,its,n,r,e⟩:=I.hok p _ h
 exact⟨its,n,r,e,z⟩
def Inv.lstUpd{s:Shared}{ys:List V}{its its':List Value}{n n':Nat}{f:Obj->Obj}(I:Inv X pins σ H s)(h:H p=some (.lst xs))
  (ho:s.heap.get? p=some { cls:=.type "list", data:=.seq its.toArray n }) (hf:f { cls:=.type "list", data:=.seq its.toArray n } = { cls:=.type "list", data:=.seq its'.toArray n' }) (r:Vals ys its') (hz:ys.length<=sizeLine) (t:Nat) :
  Inv X pins σ (upd H p (.lst ys)) { s with heap:=s.heap.update p f,toks:=t }:=by
 have e:(s.heap.update p f).get? p=some { cls:=.type "list", data:=.seq its'.toArray n' }:=by
  rw[Heap.get?_update_self f ho (by rw[hf] <;> rfl),hf]
 refine I.write (x:=p) (e:=p) (by rw[h];trivial) (.inl rfl) (λb u hb q=>(Heap.get?_update_other _ _ (Ne.symm hb)).trans q) ⟨_,e⟩ ?_
 exact⟨hz,its',n',r,e⟩
inductive rSetL  (o:V) (i:V) (v:V) (H:Hp) (Q:Hp->Prop):Prop
 |mk(p xs k j)(_:o = .ref p)(_:i = .int k)(_:H p=some (.lst xs))(_:ixN xs.length k=some j)(_:Q (upd H p (.lst (xs.set j v))))
def set_list:PSet X rSetL:=by
 intro pins s σ H o i v ov iv u Q I ro ri rv h
 obtain⟨p,xs,k,j,rfl,rfl,hp,hj,q⟩:=h
 cases ro
 obtain⟨t,rfl⟩:=ri
 obtain⟨its,n,r,ho,hz⟩:=I.lst hp
 obtain⟨h1,h2,h3,h4⟩:=q658 hj
 have hl:=r.length
 have hn:=q550
 have I':Inv X pins σ (upd H p (.lst (xs.set j v))) { s with heap:=s.heap.update p (Obj.mapSeq (·.setIfInBounds j u)) }:=
  I.lstUpd hp ho (q599 its n j u) (r.set rv j) (by rw[length_set];exact hz) s.toks
 by_cases h0:0<=k
 ·have hk:k.toNat=j:=by
   rw[seqIndex_of h0 h4]at h1
   exact Option.some.inj h1
  exact PySem.W.ki_setAt ho h0 {} (by rw[WG,<- hl];exact h4) (by rw[hk];exact⟨_,I',q⟩)
 ·have hk:(k+(its.toArray.size:Int)).toNat=j:=by
   rw[seqIndex_neg {} h3]at h1
   rw[WG,<- hl]
   exact Option.some.inj h1
  exact PySem.W.ki_setBack ho {} (by rw[WG,<- hl];exact h3) {} (by rw[hk];exact⟨_,I',q⟩)
def q442(lo hi:Option Int)(n:Nat):(sliceBounds lo hi none n).1=((HT.sIx n 0 lo:Nat):Int)/\(sliceBounds lo hi none n).2.1=((HT.sIx n n hi:Nat):Int)/\(sliceBounds lo hi none n).2.2=1:=by
 refine⟨?_,?_,rfl⟩
 ·cases lo with
  | none=>simp[sliceBounds,HT.sIx]
  | some i=>
   simp only[sliceBounds,HT.sIx,Option.getD_none,show(1:Int) > 0 by decide,if_true]
   by_cases h:i<0
   ·simp only[h,if_true] <;> lia
   ·simp only[h,if_false] <;> lia
 ·cases hi with
  | none=>simp[sliceBounds,HT.sIx]
  | some i=>
   simp only[sliceBounds,HT.sIx,Option.getD_none,show(1:Int) > 0 by decide,if_true]
   by_cases h:i<0
   ·simp only[h,if_true] <;> lia
   ·simp only[h,if_false] <;> lia
def q397(its:List Value)(lo hi:Option Int):slicePick its.toArray lo hi none=((its.drop (HT.sIx its.length 0 lo)).take (HT.sIx its.length its.length hi-HT.sIx its.length 0 lo)).toArray:=by
 obtain⟨h1,h2,h3⟩:=q442 lo hi its.toArray.size
 unfold slicePick
 rw[h1,h2,h3]
 simp only[sliceRange_one,pick_run,WG] <;> rfl
inductive rSlL(K:Fg)(x:V)(lo:Option Int)(hi:Option Int)(H:Hp)(Q:VK):Prop
 |mk(a xs)(_:x = .ref a)(_:SqL K H a xs)(_:∀ p,H p=none->Q (.ref p) (upd H p (.lst (cutV xs lo hi))))
def q296:SlR X (rSlL X.K):=by
 intro pins s σ H x v vl vu lo hi sl Q I rx hs pl pu h
 obtain⟨a,xs,rfl,hx,q⟩:=h
 cases rx
 obtain⟨its,r,ht,hz⟩:=I.list hx
 have hlen:=r.length
 exists "list", _,slot_list_getitem.lookup,ht.isList.typeIs
 refine wpAny_getItem_list_slice ht.isList hs pl pu .none (by simp) ?_ (by rw[WG] <;> lia)
 rw[q397,<- hlen]
 refine⟨.ref s.heap.objs.size,_,I.laid (t':=s.toks) (o:=.lst (cutV xs lo hi)) (λb ob q=>ZE _ q) (ZH _) ?_,rfl,q _ (I.hok.fresh (ZH _))⟩
 exact⟨ZQ (q190 xs lo hi) hz,_,0,(r.drop (HT.sIx xs.length 0 lo)).take (HT.sIx xs.length xs.length hi-HT.sIx xs.length 0 lo),ZT _ rfl⟩
noncomputable def flatV:V->Bool
 | .non=>true
 | .bl _=>true
 | .int _=>true
 | .str _=>true
 | _=>false
noncomputable def eqV:V->V->Bool
 | .non,.non=>true
 | .bl a,.bl b=>a==b
 | .bl a,.int b=>(if a then 1 else 0)==b
 | .int a,.bl b=>a==(if b then 1 else 0)
 | .int a,.int b=>a==b
 | .str a,.str b=>a==b
 | _,_=>false
def q661(ry:RelV y u)(rx:RelV x v)(fy:flatV y=true)(fx:flatV x=true):SeqAt.EqAt A s u v (eqV y x):=by
 cases y with
 | non=>
  cases ry
  cases x with
  | non=>cases rx;exact SeqAt.EqAt.same _
  | bl b=>cases rx;exact SeqAt.EqAt.none_bool b
  | int b=>obtain⟨t,rfl⟩:=rx;exact SeqAt.EqAt.none_int b t
  | str b=>obtain⟨t,rfl⟩:=rx;exact SeqAt.EqAt.none_str b t
  | _=>exact absurd (show false=true from fx) fnt
 | bl a=>
  cases ry
  cases x with
  | non=>cases rx;exact SeqAt.EqAt.bool_none a
  | bl b=>cases rx;exact SeqAt.EqAt.bool_bool a b
  | int b=>obtain⟨t,rfl⟩:=rx;exact SeqAt.EqAt.bool_int a b t
  | str b=>obtain⟨t,rfl⟩:=rx;exact SeqAt.EqAt.bool_str a b t
  | _=>exact absurd (show false=true from fx) fnt
 | int a=>
  obtain⟨t',rfl⟩:=ry
  cases x with
  | non=>cases rx;exact SeqAt.EqAt.int_none a t'
  | bl b=>cases rx;exact SeqAt.EqAt.int_bool a t' b
  | int b=>obtain⟨t,rfl⟩:=rx;exact SeqAt.EqAt.int_int a t' b t
  | str b=>obtain⟨t,rfl⟩:=rx;exact SeqAt.EqAt.int_str a t' b t
  | _=>exact absurd (show false=true from fx) fnt
 | str a=>
  obtain⟨t',rfl⟩:=ry
  cases x with
  | non=>cases rx;exact SeqAt.EqAt.str_none a t'
  | bl b=>cases rx;exact SeqAt.EqAt.str_bool a t' b
  | int b=>obtain⟨t,rfl⟩:=rx;exact SeqAt.EqAt.str_int a t' b t
  | str b=>obtain⟨t,rfl⟩:=rx;exact SeqAt.EqAt.str_str a t' b t
  | _=>exact absurd (show false=true from fx) fnt
 | _=>exact absurd (show false=true from fy) fnt
noncomputable def eqU(x:V)(u:Value):Bool:=match u with
 | .none=>eqV .non x
 | .bool b=>eqV (.bl b) x
 | .int i _=>eqV (.int i) x
 | .str z _=>eqV (.str z) x
 | _=>false
def eqU_of(r:RelV y u)(f:flatV y=true):eqU x u=eqV y x:=by
 cases y with
 | non=>cases r;rfl
 | bl b=>cases r;rfl
 | int i=>obtain⟨t,rfl⟩:=r;rfl
 | str z=>obtain⟨t,rfl⟩:=r;rfl
 | _=>exact absurd (show false=true from f) fnt
theorem q398{A:Around}{s:Shared}{x:V}{v:Value}(rx:RelV x v)(fx:flatV x=true):∀{xs:List V}{us:List Value},Vals xs us->xs.all flatV=true -> ∀ u∈us,SeqAt.EqAt A s u v (eqU x u)
 | _,_,.nil,_=>λu hu=>by cases hu
 | y::xs,u::us,.cons r t,f=>λu' hu=>by
  rw[all_cons,WC]at f
  rcases eB hu with rfl | hu
  ·rw[eqU_of r f.1];exact q661 r rx f.1 fx
  ·exact q398 rx fx t f.2 u' hu
inductive q131(K:Fg)(xs:List V)(H:Hp)(Q:VK):Prop
 |mk(p ys)(_:xs=[.ref p])(_:(SqL K H p ys\/SqT K H p ys))(_:Q (.int ys.length) H)
def q254:CallR X (.builtin "len") (q131 X.K):=by
 intro pins s σ H xs us Q I r h
 obtain⟨p,ys,rfl,hq,q⟩:=h
 obtain⟨u,rfl,rx⟩:=vals1 r
 cases rx
 have hn:=q550
 rcases hq with hq | hq
 ·obtain⟨its,r',pl,hz⟩:=I.list hq
  have hlen:=r'.length
  exact Calls.call_len_list pl.isList (by simp only[WG] <;> lia) ⟨.int ys.length,H,I.tok _,⟨s.toks+1,by rw[WG,hlen]⟩,q⟩
 ·obtain⟨its,r',pl,hz⟩:=I.tuple hq
  have hlen:=r'.length
  exact len_tuple pl (by simp only[WG] <;> lia) ⟨.int ys.length,H,I.tok _,⟨s.toks+1,by rw[WG,hlen]⟩,q⟩
def tyV(K:Fg)(T:String)(x:V)(H:Hp):Prop:=match x with
 | .str _=>T = "str"
 | .int _=>T = "int"
 | .ref p=>(T = "list" /\ ∃ xs,SqL K H p xs)\/(T = "tuple" /\ ∃ o,K.lookup p=some o/\o.cls = .type "tuple" /\ o.dict=none) \/
   (T = "dict" /\ ((∃ kvs,H p=some (.dK kvs)) \/ ∃ kvs,H p=some (.dT kvs)))\/(T = "set" /\ ∃ S n,H p=some (.set S n))
 | _=>False
theorem tyV_is{s:Shared}(I:Inv X pins σ H s)(r:RelV x v)(ty:tyV X.K T x H) :
  s.TypeIs v T /\ ∀ a,v = .ref a -> ∃ ob,s.heap.get? a=some ob/\ob.dict=none:=by
 cases x with
 | str z=>
  obtain⟨t,rfl⟩:=r
  cases(show T = "str" from ty)
  exact⟨typeIs_str s z t,λ_ e=>nomatch e⟩
 | int i=>
  obtain⟨t,rfl⟩:=r
  cases(show T = "int" from ty)
  exact⟨typeIs_int s i t,λ_ e=>nomatch e⟩
 | ref p=>
  cases r
  rcases ty with ⟨rfl,xs,hq⟩ | ⟨rfl,o,hk,hc,hd⟩ | ⟨rfl,hk⟩ | ⟨rfl,S,n,hk⟩
  ·obtain⟨its,_,pl,_⟩:=I.list hq
   refine⟨pl.isList.typeIs,λa e=>?_⟩
   cases e
   obtain⟨o,n,e,c,hd,_⟩:=pl
   exact⟨o,e,hd⟩
  ·refine⟨⟨o,I.kIn p o hk,hc⟩,λa e=>?_⟩
   cases e
   exact⟨o,I.kIn _ o hk,hd⟩
  ·have z:∃ o,s.heap.get? p=some o/\o.ExactDict:=by
    rcases hk with ⟨kvs,hk⟩ | ⟨kvs,hk⟩
    ·obtain⟨_,_,_,_,o,_,_,e,ex,_⟩:=I.hok p _ hk
     exact⟨o,e,ex⟩
    ·obtain⟨_,_,_,_,o,_,_,e,ex,_⟩:=I.hok p _ hk
     exact⟨o,e,ex⟩
   obtain⟨o,e,ex⟩:=z
   refine⟨⟨o,e,ex.1⟩,λa e2=>?_⟩
   cases e2
   exact⟨o,e,ex.2.1⟩
  ·obtain⟨o,_,_,_,e,ex,_⟩:=I.hok p _ hk
   refine⟨⟨o,e,ex.1⟩,λa e2=>?_⟩
   cases e2
   exact⟨o,e,ex.2.1⟩
 | _=>exact False.elim ty
def tBM(K:Fg)(T:String)(r:V->List V->Hp->VK->Prop)(to:TE)(t:TA):TE:=λσ H Q=>to σ H λx H1=>tyV K T x H1/\t σ H1 λxs H2=>r x xs H2 Q
variable{o e:Expr}{es:List Expr}{to:TE}{t:TA}{name:Str}{apos cpos:Pos}{T id:String}{r:V->List V->Hp->VK->Prop}
def pe_bm(pa:PlainAttrs T)(slot:Slot T name id)(hty:typeOf (.builtin id)=pure (.type "method_descriptor")) (hm:MtR X id r) (ho:PE X o to) (ha:PA X (e::es) t)
  (hbase:attributeBase o name X.env (eval o X.env)=eval o X.env:=by rfl)
  (hfew:((backTo cpos (starEach (e::es) X.env)).all (λx=>!x.1)&&(backToKw cpos (keywordEach [] X.env)).all (λx=>x.1.isSome)
   && decide ((e::es).length+([]:List Keyword).length+(if([]:List Keyword).isEmpty then 0 else 1)<30))=true:=by rfl)
  (hline:(apos.endLine==cpos.line)=true:=by rfl) (hs:starEach (e::es) X.env=(false,eval e X.env)::starEach es X.env:=by rfl) (hplain:(backTo cpos (starEach es X.env)).any (·.1)=false:=by rfl) :
  PE X (.Call (.Attribute o name apos) (e::es) [] cpos) (tBM X.K T r to t):=by
 intro pins s σ H Q I h
 refine wpAny_Call_method_late hbase hfew hline rfl (thn (ho pins s σ H _ I h) λv s1 ⟨x,H1,I1,r1,ty,q1⟩=>?_)
 obtain⟨h1,h2⟩:=tyV_is I1 r1 ty
 exists T,id,pa,slot,hty,h1,h2
 have hA:=ha cpos pins s1 σ H1 _ I1 q1
 rw[hs]at hA ⊢
 refine Calls.callWith_builtin (by show(false||(backTo cpos (starEach es X.env)).any (·.1))=false;rw[hplain] <;> rfl) (Calls.evalArgs_plain ?_)
 exact thn hA λus s2 ⟨vs,H2,I2,r2,q2⟩=>hm pins s2 σ H2 x vs v us Q I2 r1 r2 q2
/- xs.append(e),list.index on a module's tuple .. are MtR facts of 06m -/
end
def MtM(X:Cx)(id:String)(r:V->List V->Hp->VK->Prop):Prop:=
 ∀(pins:List (Addr×Obj)) (s:Shared) (σ:St) (H:Hp) (x:V) (xs:List V) (v:Value) (us:List Value) (Q:VK),Inv X pins σ H s->RelV x v->Vals xs us->r x xs H Q ->
  wpAny (model X.prog X.w) X.A (call (.builtin id) (v::us)) (EP X pins σ Q) X.xe s
theorem Vals.one:∀{x:V}{us:List Value},Vals [x] us -> ∃ u,us=[u]/\RelV x u
 | _,_,.cons r .nil=>⟨_,rfl,r⟩
section
variable {pins:List (Addr×Obj)}{σ:St}{H:Hp}{s:Shared}{l b:Addr}{xs ys zs:List V}
def Inv.lset{its its':List Value}{n:Nat}{f:Array Value->Array Value}{t':Nat}(I:Inv X pins σ H s)(hH:H l=some (.lst xs))
  (e:s.heap.get? l=some { cls:=.type "list", data:=.seq its.toArray n }) (hf:f its.toArray=its'.toArray) (hv:Vals ys its') (hz:ys.length<=sizeLine) :
  Inv X pins σ (upd H l (.lst ys)) { s with heap:=s.heap.update l (Obj.mapSeq f),toks:=t' }:=by
 have q:=PySem.IsL.update e f
 rw[hf]at q
 refine I.write (x:=l) (e:=l) (by rw[hH];exact trivial) (.inl rfl) (λb' u hb hu=>(Heap.get?_update_other s.heap (Obj.mapSeq f) (Ne.symm hb)).trans hu) ⟨_,q⟩ ?_
 exact⟨hz,its',_,hv,q⟩
def Inv.lnew{t':Nat}(I:Inv X pins σ H s)(hv:Vals ys its)(hz:ys.length<=sizeLine) :
  Inv X pins σ (upd H s.heap.objs.size (.lst ys)) { s with heap:=s.heap.push { cls:=.type "list", data:=.seq its.toArray },toks:=t' }:=
 I.laid (λ_ _ q=>ZE _ q) (ZH _) ⟨hz,its,0,hv,ZT _ rfl⟩
def Inv.fresh(I:Inv X pins σ H s):H s.heap.objs.size=none:=I.hok.fresh (ZH _)
def Inv.lstM(I:Inv X pins σ H s)(hH:H l=some (.lst xs)):xs.length<=sizeLine /\ ∃(its:List Value)(n:Nat),Vals xs its/\xs.length=its.length/\s.heap.get? l=some { cls:=.type "list", data:=.seq its.toArray n }:=by
 obtain⟨z,its,n,r,e⟩:=I.hok l _ hH
 exact⟨z,its,n,r,r.length,e⟩
end
inductive rAppend  (x:V) (vs:List V) (H:Hp) (Q:VK):Prop
 |mk(l xs y)(_:x = .ref l)(_:vs=[y])(_:H l=some (.lst xs))(_:xs.length<sizeLine)(_:Q .non (upd H l (.lst (xs++[y]))))
def q59:MtM X "list.append" rAppend:=by
 intro pins s σ H x vs v us Q I rx rv h
 obtain⟨l,xs,y,rfl,rfl,hH,hz,q⟩:=h
 cases rx
 obtain⟨u,rfl,ru⟩:=rv.one
 obtain⟨z,its,n,r,hl,e⟩:=I.lstM hH
 refine call_meets F.slot_list_append ⟨_,e,rfl⟩ F.entry_list_append (F.args_list_append_2 _ _) (PySem.list_append l its.toArray n u (by rw[WG];lia)) ⟨e,?_⟩
 refine⟨.non,_,I.lset (its':=its++[u]) hH e (by simp) (r.append (.cons ru .nil)) ?_,rfl,q⟩
 rw[ZU,length_singleton]
 lia
inductive rCat  (x:V) (y:V) (H:Hp) (Q:VK):Prop
 |mk(l b xs zs)(_:x = .ref l)(_:y = .ref b)(_:H l=some (.lst xs))(_:H b=some (.lst zs))(_:xs.length+zs.length<=sizeLine)(_:∀ p,H p=none->Q (.ref p) (upd H p (.lst (xs++zs))))
def q169:OpR X (binaryOp .Add) rCat:=by
 intro pins s σ H x y v u Q I rx ry h
 obtain⟨l,b,xs,zs,rfl,rfl,hH,hB,hz,q⟩:=h
 cases rx
 cases ry
 obtain⟨z,its,n,r,hl,e⟩:=I.lstM hH
 obtain⟨z2,its2,n2,r2,hl2,e2⟩:=I.lstM hB
 refine PySem.P.add_list e e2 ?_ (by rw[WG,WG];lia)
 have ea:its.toArray++its2.toArray=(its++its2).toArray:=by simp
 rw[ea]
 exact⟨.ref _,_,I.lnew (t':=s.toks) (r.append r2) (by rw[ZU];lia),rfl,q _ I.fresh⟩
section
variable {prog:Program}{w:World}{A:Around}{E:VS}{s:Shared}
set_option maxRecDepth 100000 in
end
end L2
namespace Att
set_option autoImplicit false
open PySem PySem.W PySem.Calls PyProof.Rows
def q297{P:Params}{h:Heap}:∀(ns:List Int)(vs:List Value),WellAll P h vs (ns.map WData.int)->IntsAre vs ns:=by
 intro ns
 induction ns with
 | nil=>
  intro vs w
  rw[List.map_nil]at w
  cases w
  exact .nil
 | cons n ns ih=>
  intro vs w
  rw[List.map_cons]at w
  cases w with
  | cons a b=>
   cases a
   exact .cons _ _ (ih _ b)
theorem q662{l:OpenLaw}{n:Nat}(hn:l.most=some n){P:Params}{h:Heap}{args:List WData}{vals:List Value}
  (hpre:l.row.toRowW.claim.pre args=true) (hwl:WellAll P h vals args) :
  ∃ a vs ns,vals=[Value.ref a]/\args=[WData.list (ns.map WData.int)]/\h.get? a=some { cls:=.type "list", data:=.seq vs.toArray }/\IntsAre vs ns/\ns.length<=n:=by
 have hsh:WShape.hasAll [] args [.list .int]=true:=(pre_splitW hpre).1
 have hc:l.pre.holds [] { args:=args }=true:=(pre_splitW hpre).2
 obtain⟨d,r,rfl,h1,h2⟩:=hasAllW_cons hsh
 obtain rfl:=hasAllW_nil h2
 obtain⟨xs,rfl,h3⟩:=hasW_list h1
 obtain⟨ns,rfl⟩:=items_int h3
 have hlen:ns.length<=n:=by
  unfold OpenLaw.pre at hc
  have h4:(WTm.not (.lt (.lit (.int (n:Int))) (.len (.arg 0)))).holds [] { args:=[.list (ns.map .int)] }=true:=by
   have h4:=(holds_andW hc).1
   rw[hn]at h4
   exact h4
  have h5:=condW_of h4 (w_not (w_lt w_lit (w_len_list (w_arg rfl))))
  rw[List.length_map]at h5
  refine Nat.le_of_not_lt λq=>?_
  have q':(n:Int)<((ns.length:Nat):Int):=(W98 q)
  first
   | (rw[ZA q']at h5;exact absurd h5 ∅)
   | (simp at h5;lia)
 cases hwl with
 | cons w1 w2=>
  cases w2
  cases w1 with
  | list ho hall=>exact⟨_,_,ns,rfl,rfl,ho,q297 ns _ hall,hlen⟩
def q663(l:OpenLaw)(args:List WData):l.row.toRowW.claim.post args (.bool true) args=true:=
 postW_of (r:=l.row.toRowW) (X:=(true==true))
  (show WShape.has [] (.bool true) .bool=true by first | rfl | decide | simp[WShape.has,WShape.arms,WShape.armsAll])
  (show(WTm.eq .res (.lit (.bool true))).value [] { args:=args,res:=some (.bool true),after:=args }=some (.bool (true==true))from w_eq_bool (w_res rfl) w_lit) rfl
def q750{l:OpenLaw}{n:Nat}{q:Program}{loose:List Str}{XP:(Mg)->Heap->Prop}{YP:World->Heap->Prop}{d:DefRec}
  (hn:l.most=some n) (hdf:d.params.defaults=[])
  (call:∀(w:World)(s₀ s₁:Shared)(mg mb:Mg)(fa:Addr)(o:Obj)(pm cd doc:Value)(a:Addr)(vs:List Value)(ns:List Int),
   Ground q loose [] XP w s₀ mg mb s₁.heap->YP w s₁.heap ->
   s₁.heap.get? fa=some o->o.data = .func (docDef d.name d.params d.body d.scope pm cd doc)->s₁.heap.CodeRec cd d.name->mg d.name=some (.ref fa) ->
   s₁.heap.get? a=some { cls:=.type "list", data:=.seq vs.toArray }->IntsAre vs ns->ns.length<=n->s₁.gens = #[] ->
   codeAny (model l.prog w) callerA (.call (.ref fa) ⟨[.ref a],[]⟩) (λr s'=>r = .ok (.ret (.bool true))/\OldK s₁.heap s'.heap/\s'.os=s₁.os/\AllBare s'.gens) s₁) :
  WalkO q loose XP YP l.row.toRowW d [] (λf vs=>PySem.call f vs):=by
 intro w s₀ s₁ mg mb G Y fa o pm cd doc dV kV ho hd hcd hD hmg hg args vals as hpre hlay hrd hwl hlo
 obtain rfl:dV = .none:=Dflts.none hD hdf
 obtain rfl:kV = .none:=Dflts.noKw hD
 obtain⟨a,vs,ns,rfl,rfl,hobj,hints,hlen⟩:=q662 hn hpre hwl
 refine enter_call (codeAny_mono (call w s₀ s₁ mg mb fa o pm cd doc a vs ns G Y ho (fd_plain hd) hcd hmg hobj hints hlen hg) λr s' hq=>?_)
 obtain⟨rfl,h2,h3,h4⟩:=hq
 exact⟨.inl ⟨.bool true,.bool true,[],rfl,λ_=>rfl,.bool true,q663 l _,λ_=>⟨List.Pairwise.nil,λ_ hm=>(nomatch hm)⟩⟩,h2,h3,h4⟩
end Att
namespace L2
open PySem PySem.Spec PyProof.Rows List
variable {X:Cx}
theorem q298:∀{vs:List Value}{ns:List Int},IntsAre vs ns->Vals (ns.map V.int) vs
 | _,_,.nil=>.nil
 | _,_,.cons n t h=>.cons ⟨t,rfl⟩ (q298 h)
def Only(H:Hp):Prop:=∀ b,H b=none \/ ∃ o xs,H b=some (.frz o (.lst xs))
noncomputable abbrev KOf{K:Fg}{h:Heap}(_:K.In h):Fg:=K
end L2
/- THE LAST THEOREM (shape;LID,My.* are yours):
  My.Adr: a structure of the addresses that your layer names (classes,functions);My.Txt K t: a structure (Prop) of the equations over K;
  My.txt_mk:{K} {implicit addresses ..} (e1:nsIn K mainGlobals "law" = some (some (.ref f))) (e2:K.lookup f=some ⟨oc,od,.func (fnOf "law" "law" params body scope dV kV doc pm an cdv ct),sl⟩) (e3:codeIn K cdv "law" = true) .. : ∃ t,My.Txt K t
set_option maxRecDepth 100000 in
set_option maxHeartbeats 0 in
theorem PySem.Challenge.cw_LID_holds : PySem.Challenge.rw_LID.Holds := by
 w_on;o_law;k_head;(case hw=>w_witness2)
 k_fill
 refine L2.walk_of (l:=PySem.Challenge.rw_LID) (n:=63) (k:=40) (x := "script") (CX:=λw=>..) (sp:=λ_=>My.sp_law) rfl ∅ rfl ⟨rfl,∅,∅⟩ (λw h Y=>PySem.W.kIn_of Y) ?F ?S ?C
 case F=>
  intro w mg fa h KX G hmg
  have T:∃ t,My.Txt (L2.KOf KX) t:=by
   dsimp only [L2.KOf]                          -- K must stand as «<heap const> w.params» for k_is
   refine' My.txt_mk ?e1 ?e2 ?e3 ..
   (case e1=>PySem.W.k_is)                    -- in the order: a name->its address->its object->its parts
   (case e2=>PySem.W.k_is)
   ..
  obtain⟨t,T⟩:=T
  have e0:=hmg.symm.trans (PySem.W.mg_of KX G T.law)
  cases e0                                       -- fa is the law's own address
  exact⟨_,λs u=>.of_eq rfl,λbase kb nb=>My.law_fn T kb nb⟩     -- if «.of_eq rfl» comes too early: refine' ⟨_,?b,λbase kb nb=>My.law_fn T kb nb⟩;exact λs u=>.of_eq rfl
 case S=>exact λw H a ns hl hO hS=>..
 case C=>exact ..
(the tactic k_is has no namespace: write k_is) -/
namespace L2
open PySem PySem.Spec PyProof.Rows List
variable {X:Cx}
noncomputable def q132(s:Stmt):Arguments:=match s with
 | .FunctionDef _ a _ _ _ _ _ _ _ _=>a
 | _=>{ posonlyargs:=[],args:=[],vararg:=none,kwonlyargs:=[],kw_defaults:=[],kwarg:=none,defaults:=[] }
noncomputable def q87(s:Stmt):List Stmt:=match s with
 | .FunctionDef _ _ b _ _ _ _ _ _ _=>b
 | _=>[]
noncomputable def q17(s:Stmt):Scope:=match s with
 | .FunctionDef _ _ _ _ _ _ sc _ _ _=>sc
 | _=>{ kind:=.function,names:=[],isGenerator:=false,isCoroutine:=false }
abbrev CX0:CXT:=λ_ _ _ _ _ _=>False
abbrev E0:XK:=λ_ _ _=>False
def pass0:q655 CX0 X E0:=λ_ _ _ _ _ _ _ h=>h.elim
structure Fun(K:Fg)(x qual:Str)(st:Stmt)(f:Addr)(fd:FuncData):Prop where
 ex:∃(oc:Value) (od:Option Addr) (kV doc pm:Value) (an:Option Addr) (cdv ct:Value) (osl:Array (Option Value)),
  fd=PySem.W.fnOf x qual (q132 st) (q87 st) (q17 st) .none kV doc pm an cdv ct/\K.lookup f=some ⟨oc,od,.func fd,osl⟩/\PySem.W.codeIn K cdv qual=true
 kp:PySem.W.keepIn K (.ref f)=true
section
variable {P:Program}{w:World}{K:Fg}{mg:Mg}{base:Heap}
def Fun.ok{x qual:Str}{st:Stmt}{f:Addr}{fd:FuncData}{N ps:List Str}{k:Nat}{sp:Sp}(F:Fun K x qual st f fd)(S:FnScope N ps (q17 st))(len:∀ vs H Q E,sp vs H Q E->vs.length=ps.length)
  (hbody:∀(cdv:Value)(A:Around)(outer:List Env)(s:Shared)(H:Hp)(vs:List V)(Q:VK)(E:XK),Room k (A.deeper (envOfC qual (q17 st) s.heap.objs.size f cdv))->sp vs H Q E ->
   ∃ t,PSs (cxOf CX0 P w K mg base N qual (q17 st) f cdv A outer s H E).nox (q87 st) t/\t { nx:=λ_ H'=>Q .non H',rt:=Q } (start N vs) H):FnOk P w K mg base CX0 (k+1) f fd ps sp:=by
 obtain⟨oc,od,kV,doc,pm,an,cdv,ct,osl,rfl,lk,hcd⟩:=F.ex
 refine fn_of lk hcd S len λA outer s H vs Q E hr hsp=>?_
 obtain⟨t,h,q⟩:=hbody cdv A outer s H vs Q E hr hsp
 exact⟨t,h.nox,q⟩
def fun_mk{x qual:Str}{st:Stmt}{f:Addr}{oc:Value}{od an:Option Addr}{osl:Array (Option Value)}{kV doc pm cdv ct:Value}(l:K.lookup f=some ⟨oc,od,.func (PySem.W.fnOf x qual (q132 st) (q87 st) (q17 st) .none kV doc pm an cdv ct),osl⟩)
  (c:PySem.W.codeIn K cdv qual=true) (k:PySem.W.keepIn K (.ref f)=true):Fun K x qual st f (PySem.W.fnOf x qual (q132 st) (q87 st) (q17 st) .none kV doc pm an cdv ct):=⟨⟨oc,od,kV,doc,pm,an,cdv,ct,osl,rfl,l,c⟩,k⟩
end
def q81{n:Nat}(h:n<=1000):n<sizeLine:=Nat.lt_of_le_of_lt h ∅
def pv(i:Nat){pos:Pos}(hN:X.N[i]? = some x:=by rfl)(hv:Vis X.env.scope x:=by walk_at "b") (hd:(x==("__debug__" : Str))=false:=by decide)
  (hcd:(x==("__classdict__" : Str))=false:=by decide):PE X (.Name x pos) (tVar i):=q644 hN hv hd hcd
def iteF{A B:Prop}(h:B):if false=true then A else B:=by
 rw[ZJ fnt]
 exact h
def iteT{A B:Prop}(h:A):if true=true then A else B:=by
 rw[ZL rfl]
 exact h
def ite2{c A B:Prop}[Decidable c](h1:c->A)(h2:¬ c->B):if c then A else B:=by
 by_cases h:c
 ·rw[ZL h]
  exact h1 h
 ·rw[ZJ h]
  exact h2 h
def Same(H H':Hp):Prop:=∀ b o,H b=some o->H' b=some o
def Same.refl(H:Hp):Same H H:=λ_ _ h=>h
def Same.trans(a:Same H H1)(b:Same H1 H2):Same H H2:=λc o h=>b c o (a c o h)
def Same.free(e:Same H H')(h:H' l=Option.none):H l=Option.none:=by
 cases q:H l with
 | none=>rfl
 | some o=>
  rw[e l o q]at h
  cases h
def Same.seq{K:Fg}{H H':Hp}{a:Addr}{xs:List V}(e:Same H H')(h:SqL K H a xs):SqL K H' a xs:=by
 rcases h with (h | ⟨o,h⟩) | h
 ·exact .inl (.inl (e _ _ h))
 ·exact .inl (.inr ⟨o,e _ _ h⟩)
 ·exact .inr h
section
variable {κ:Type}[DecidableEq κ]
noncomputable def valV(kvs:List (κ×V))(k:κ):Option V:=(kvs.find? λkv=>decide (kv.1=k)).map (·.2)
noncomputable def putK(kvs:List (κ×V))(k:κ)(v:V):List (κ×V):=
 if(kvs.any λkv=>decide (kv.1=k))=true then kvs.map (λkv=>if kv.1=k then(kv.1,v)else kv)else kvs++[(k,v)]
def q399{p:κ×V}(e:p.1=k):valV (p::r) k=some p.2:=by simp[valV,find?_cons,e]
def q400{p:κ×V}(e:¬ p.1=k):valV (p::r) k=valV r k:=by simp[valV,find?_cons,e]
theorem q552(k:κ):∀ kvs:List (κ×V),(kvs.any λkv=>decide (kv.1=k))=(valV kvs k).isSome
 | []=>rfl
 | p::r=>by
  rw[any_cons]
  by_cases e:p.1=k
  ·simp only[q399 e,ZA e,Bool.true_or,Option.isSome_some]
  ·rw[q400 e,ZI e,Bool.false_or];exact q552 k r
def q515(kvs:List (κ×V))(k:κ)(v:V):(putK kvs k v).length<=kvs.length+1:=by
 unfold putK
 split
 ·rw[ZN];lia
 ·rw[ZU,WT,length_nil];lia
def RelO.isSome_eq{o:Option V}{u:Option Value}(r:RelO o u):o.isSome=u.isSome:=by
 cases o with
 | none=>cases u with
  | none=>rfl
  | some _=>exact(show False from r).elim
 | some _=>cases u with
  | none=>exact(show False from r).elim
  | some _=>rfl
def KV.val(r:KV kvs vs)(k:κ):RelO (valV kvs k) (valueAt vs k):=by
 unfold KV at r
 induction r with
 | nil=>exact True.intro
 | @cons p q ps qs h t ih=>
  obtain⟨h1,h2⟩:=h
  by_cases e:p.1=k
  ·have e':q.1=k:=h1.symm.trans e
   have b:valueAt (q::qs) k=some q.2:=by simp[valueAt,find?_cons,e']
   rw[q399 e,b];exact h2
  ·have e':¬ q.1=k:=λz=>e (h1.trans z)
   have b:valueAt (q::qs) k=valueAt qs k:=by simp[valueAt,find?_cons,e']
   rw[q400 e,b];exact ih
end
def kV_is(r:RelV (kV k) u):(q116 P w).is k u=true:=by
 cases k with
 | inl i=>obtain⟨t,e⟩:=(show ∃ t,u=Value.int i t from r);subst e;exact q512 P w i t
 | inr x=>obtain⟨t,e⟩:=(show ∃ t,u=Value.str x t from r);subst e;exact q513 P w x t
theorem q443{P:Program}{w:World}:∀{ks:List Key}{us:List Value},Vals (ks.map kV) us->ItemsAre (q116 P w) ks us
 | [],_,r=>by rw[map_nil]at r;cases r;exact .nil
 | k::ks,_,r=>by
  rw[map_cons]at r
  cases r with
  | cons h t=>exact .cons (kV_is h) (q443 t)
noncomputable abbrev KT(H:Hp):List (List Key×V)->List (List Key×Addr×Value)->Prop:=Paired λp q=>p.1=q.1/\H q.2.1=some (.tup (p.1.map kV))/\RelV p.2 q.2.2
def KT.val(r:KT H kvs xs)(k:List Key):RelO (valV kvs k) ((atKey xs k).map (·.2)):=by
 induction r with
 | nil=>exact True.intro
 | @cons p q ps qs h t ih=>
  obtain⟨h1,_,h2⟩:=h
  by_cases e:p.1=k
  ·have e':q.1=k:=h1.symm.trans e
   have b:atKey (q::qs) k=some q.2:=by simp[atKey,find?_cons,e']
   rw[q399 e,b];exact h2
  ·have e':¬ q.1=k:=λz=>e (h1.trans z)
   have b:atKey (q::qs) k=atKey qs k:=by simp[atKey,find?_cons,e']
   rw[q400 e,b];exact ih
theorem KT.repl{kvs:List (List Key×V)}{xs:List (List Key×Addr×Value)}(r:KT H kvs xs)(k:List Key)(ry:RelV y u) :
  KT H (kvs.map λkv=>if kv.1=k then(kv.1,y)else kv) (xs.map (putAt k u)):=by
 induction r with
 | nil=>exact .nil
 | @cons p q ps qs h t ih=>
  rw[map_cons,map_cons]
  refine .cons ?_ ih
  obtain⟨h1,h2,h3⟩:=h
  unfold putAt
  by_cases e:p.1=k
  ·rw[ZL e,ZL (h1.symm.trans e)];exact⟨h1,h2,ry⟩
  ·rw[ZJ e,ZJ (λz=>e (h1.trans z))];exact⟨h1,h2,h3⟩
def KT.put(r:KT H kvs xs)(k:List Key)(hb:H b=some (.tup (k.map kV)))(ry:RelV y u) :
  KT H (putK kvs k y) (storedH xs k b u):=by
 have e:(kvs.any λkv=>decide (kv.1=k))=(atKey xs k).isSome:=by
  rw[q552,(r.val k).isSome_eq,Option.isSome_map]
 unfold putK storedH
 rw[e]
 by_cases q:(atKey xs k).isSome=true
 ·rw[ZL q,ZL q];exact r.repl k ry
 ·rw[ZJ q,ZJ q];exact Paired.snoc r ⟨rfl,hb,ry⟩
def KT.keeps(r:KT H kvs xs)(ht:∀ b ys,H b=some (.tup ys)->H' b=some (.tup ys)):KT H' kvs xs:=
 Paired.mapP r λ_ _ z=>⟨z.1,ht _ _ z.2.1,z.2.2⟩
section
variable {P:Program}{w:World}{H:Hp}{h:Heap}{a:Addr}
def rd_of(ok:HOk P w H h)(e:Rd H a u):ObjOk P w H h a u:=e.ok ok
def dk_rd{kvs:List (Key×V)}(ok:HOk P w H h)(e:Rd H a (.dK kvs)):kvs.length<=sizeLine/\(a==sysModules)=false /\ ∃ vs,KV kvs vs/\h.DictOf (q116 P w) a vs:=
 show ObjOk P w H h a (.dK kvs)from rd_of ok e
def q664{ks:List Key}(ok:HOk P w H h)(e:H a=some (.tup (ks.map kV))):(tupleKind (q116 P w)).is h ks a:=by
 obtain⟨_,its,r,o,h1,h2,n,h3⟩:=(show ObjOk P w H h a (.tup (ks.map kV))from ok a _ e)
 exact⟨o,its.toArray,n,h1,h2,h3,by simpa using q443 r⟩
def dt_rd{kvs:List (List Key×V)}(ok:HOk P w H h)(e:Rd H a (.dT kvs)):kvs.length<=sizeLine/\(a==sysModules)=false /\
  ∃ xs,KT H kvs xs/\h.DictOfH (tupleKind (q116 P w)) a xs:=by
 obtain⟨z,y,xs,r,o,es,ep,h1,h2,h3,h4,h5⟩:=(show ObjOk P w H h a (.dT kvs)from rd_of ok e)
 refine⟨z,y,xs,r,o,es,ep,h1,h2,h3,h4,λx hx=>?_,h5⟩
 have all:∀{l:List (List Key×V)} {m:List (List Key×Addr×Value)},KT H l m -> ∀ x∈m,(tupleKind (q116 P w)).is h x.1 x.2.1:=by
  intro l m q
  induction q with
  | nil=>intro x hx;exact nomatch hx
  | @cons p q ps qs hq t ih=>
   intro x hx
   rcases eB hx with e | hx
   ·subst e
    exact q664 ok (by rw[<- hq.1];exact hq.2.1)
   ·exact ih x hx
 exact all r x hx
end
noncomputable def DGet(H:Hp)(a:Addr)(y:V)(r:Option V):Prop:=
 (∃ kvs k,Rd H a (.dK kvs)/\y=kV k/\r=valV kvs k) \/ ∃ kvs k b,Rd H a (.dT kvs)/\y = .ref b/\H b=some (.tup (k.map kV))/\r=valV kvs k
def DGet.t{k:List Key}(e:H a=some (.dT kvs))(eb:H b=some (.tup (k.map kV))):DGet H a (.ref b) (valV kvs k):=.inr ⟨kvs,k,b,.inl e,rfl,eb,rfl⟩
section
variable {pins:List (Addr×Obj)}{σ:St}{H:Hp}{s:Shared}{a:Addr}{y v:V}{u r:Value}{o:Option V}{A:Around}{E:VS}
def Inv.big(I:Inv X pins σ H s):sysModules<s.heap.objs.size:=by
 have h:mainGlobals<s.heap.objs.size:=(I.mod.glob.keeps I.bk).lt
 exact Nat.lt_trans ∅ h
def d_notIn(hu:A.units+1<cLine)(I:Inv X pins σ H s)(g:DGet H a y o)(ry:RelV y u)(h:∀ s',Inv X pins σ H s'->Q (.bool (!o.isSome)) s') :
  wpAny (model X.prog X.w) A (compareOp .NotIn u (.ref a)) Q E s:=by
 rcases g with ⟨kvs,k,e,ey,l⟩ | ⟨kvs,k,b,e,ey,eb,l⟩
 ·subst ey
  obtain⟨z,hd,vs,rel,dd⟩:=dk_rd I.hok e
  refine wpAny_notIn_of (kV_is ry) hd dd.mapOf ?_
  rw[<- (rel.val k).isSome_eq,<- l]
  exact h _ (I.tok _)
 ·subst ey
  cases(show u=Value.ref b from ry)
  obtain⟨z,hd,xs,rel,dd⟩:=dt_rd I.hok e
  refine wpAny_notIn_heap (tupleKind_room_in1 hu) (q664 I.hok eb) hd dd ?_
  have q:=(rel.val k).isSome_eq
  rw[Option.isSome_map]at q
  rw[<- q,<- l]
  exact h _ (I.tok _)
end
def q15(h:H p=none)(o:HO):Same H (upd H p o):=λb u q=>by rw[q27 (q25 q h)];exact q
structure Def(K:Fg)(mg:Mg)(x:Str)(st:Stmt)(ps:List Str):Prop where
 ex:∃(f:Addr)(fd:FuncData),Fun K x x st f fd/\(∀ us:List Value,us.length=ps.length->bindArgs fd ⟨us,[]⟩=pure (ps.zip us))/\mg x=some (.ref f)
def q756{K:Fg}{h:Heap}{mg:Mg}{x:Str}{st:Stmt}{ps:List Str}{f:Addr}{oc:Value}{od an:Option Addr}{osl:Array (Option Value)}{kV doc pm cdv ct:Value}
  (KX:K.In h) (G:h.Ns mainGlobals mg) (a:PySem.W.nsIn K mainGlobals x=some (some (.ref f)))
  (l:K.lookup f=some ⟨oc,od,.func (PySem.W.fnOf x x (q132 st) (q87 st) (q17 st) .none kV doc pm an cdv ct),osl⟩)
  (c:PySem.W.codeIn K cdv x=true) (k:PySem.W.keepIn K (.ref f)=true)
  (b:∀(kV doc pm:Value)(an:Option Addr)(cdv ct:Value)(us:List Value),us.length=ps.length->bindArgs (PySem.W.fnOf x x (q132 st) (q87 st) (q17 st) .none kV doc pm an cdv ct) ⟨us,[]⟩=pure (ps.zip us)) :
  Def K mg x st ps:=⟨f,_,fun_mk l c k,b kV doc pm an cdv ct,PySem.W.mg_of KX G a⟩
structure Cal(P:Program)(w:World)(K:Fg)(mg:Mg)(base:Heap)(k:Nat)(x:Str)(ps:List Str)(sp:Sp):Prop where
 ex:∃(f:Addr)(fd:FuncData),FnOk P w K mg base CX0 k f fd ps sp/\Binds K fd ps []/\PySem.W.keepIn K (.ref f)=true/\mg x=some (.ref f)
def Def.cal{P:Program}{w:World}{K:Fg}{mg:Mg}{base:Heap}{k:Nat}{x:Str}{st:Stmt}{ps:List Str}{sp:Sp}(d:Def K mg x st ps)
  (F:∀(f:Addr)(fd:FuncData),Fun K x x st f fd->FnOk P w K mg base CX0 k f fd ps sp):Cal P w K mg base k x ps sp:=by
 obtain⟨f,fd,h1,h2,h3⟩:=d.ex
 exact⟨f,fd,F f fd h1,.all h2,h1.kp,h3⟩
section
variable {k:Nat}{x:Str}{ps:List Str}{sp:Sp}{p pos:Pos}{e:Expr}{es:List Expr}{t:TA}
def pe_fn(c:Cal X.prog X.w X.K X.mg X.base k x ps sp)(hr:Room k X.A)(hg:Gl X x)(ha:PA X (e::es) t)(hdb:(x==("__debug__" : Str))=false:=by decide)
  (he:starEach (e::es) X.env=(false,eval e X.env)::starEach es X.env:=by rfl) (hpl:(backTo pos (starEach es X.env)).any (·.1)=false:=by rfl) :
  PE X (.Call (.Name x p) (e::es) [] pos) (tCall sp [] E0 t):=by
 obtain⟨f,fd,F,B,kp,m⟩:=c.ex
 exact pe_call F hr hg m kp B .nil pass0 ha hdb he hpl
end
def q600{n:Nat}(h:n<10^60):n.log2<9000:=by
 by_cases h0:n=0
 ·subst h0;decide
 ·have h1:n.log2<200:=(Nat.log2_lt h0).mpr (WB h ∅)
  lia
def q91:OpR X (binaryOp .FloorDiv) (rI (λ_ j=>0<j/\j<10^60) λi j=>.int (i/j)):=opI λi j _ _ _ _ _ hc q=>by
 have h1:(0:Int)<j:=hc.1
 have h2:j<10^60:=hc.2
 exact floordiv_int {} (by rw[Int.fdiv_eq_ediv_of_nonneg i {}];exact q) (.inl (PyProof.noPylong_of_log2 (q600 {})))
inductive q665(K:Fg)(xs:List V)(H:Hp)(Q:VK):Prop
 |mk(x c t b)(_:xs=[x,.ty c])(_:TyOf K H x t)(_:PySem.W.kitOne K t (.type c)=some b)(_:Q (.bl b) H)
def q202:CallR X (.builtin "isinstance") (q665 X.K):=by
 intro pins s σ H xs us Q I r h
 obtain⟨x,c,t,b,rfl,ty,e,q⟩:=h
 obtain⟨u,w',rfl,ru,rw'⟩:=vals2 r
 cases rw'
 exact q654 I ru ty e λtk=>⟨.bl b,H,I.tok tk,rfl,q⟩
inductive q553(K:Fg)(x:V)(y:V)(H:Hp)(Q:VK):Prop
 |mk(a b xs ys)(_:x = .ref a)(_:y = .ref b)(_:SqT K H a xs)(_:SqT K H b ys)(_:xs.length+ys.length<=sizeLine)(_:∀ p H',Same H H'->SqT K H' p (xs++ys)->(H a=some (.tup xs)->H b=some (.tup ys)->H' p=some (.tup (xs++ys)))->Q (.ref p) H')
def q666:OpR X (binaryOp .Add) (q553 X.K):=by
 intro pins s σ H x y v u Q I rx ry h
 obtain⟨a,b,xs,ys,rfl,rfl,ha,hb,hz,q1⟩:=h
 cases rx
 cases ry
 obtain⟨its,r1,p1,_⟩:=I.tuple ha
 obtain⟨its2,r2,p2,_⟩:=I.tuple hb
 have hz':its.length+its2.length<=sizeLine:=by rw[<- r1.length,<- r2.length];exact hz
 obtain⟨⟨cls,dd,data,sl⟩,ho,hc,n,hd⟩:=id p1
 obtain⟨⟨cls2,dd2,data2,sl2⟩,ho2,hc2,n2,hd2⟩:=id p2
 simp only at hc hd hc2 hd2
 subst hc hd hc2 hd2
 have e:its.toArray++its2.toArray=(its++its2).toArray:=by simp
 by_cases hv:its=[]
 ·have hx:xs=[]:=r1.nil_iff.mp hv
  subst hx
  exact concat_meets ⟨_,ho,rfl⟩ ⟨_,ho2,rfl⟩ noFill_tuple_add seq_tuple_add PySem.F.slot_tuple_add PySem.F.entry_tuple_add (PySem.F.args_tuple_add_2 _ _)
   (tuple_addW0 a b its.toArray its2.toArray n n2 dd dd2 sl sl2 (by simp[hv])) ⟨ho,ho2,⟨.ref b,H,I,rfl,q1 b H (Same.refl H) (by simpa using hb) (λ_ z=>by simpa using z)⟩⟩
 ·by_cases hw:its2=[]
  ·have hy:ys=[]:=r2.nil_iff.mp hw
   subst hy
   exact concat_meets ⟨_,ho,rfl⟩ ⟨_,ho2,rfl⟩ noFill_tuple_add seq_tuple_add PySem.F.slot_tuple_add PySem.F.entry_tuple_add (PySem.F.args_tuple_add_2 _ _)
    (tuple_addW1 a b its.toArray its2.toArray n n2 dd dd2 sl sl2 (by simpa using hv) (by simp[hw])) ⟨ho,ho2,⟨.ref a,H,I,rfl,q1 a H (Same.refl H) (by simpa using ha) (λz _=>by simpa using z)⟩⟩
  ·refine concat_meets ⟨_,ho,rfl⟩ ⟨_,ho2,rfl⟩ noFill_tuple_add seq_tuple_add PySem.F.slot_tuple_add PySem.F.entry_tuple_add (PySem.F.args_tuple_add_2 _ _)
    (tuple_addW2 a b its.toArray its2.toArray n n2 dd dd2 sl sl2 (by simpa using hv) (by simpa using hw) (by rw[WG,WG];exact hz')) ⟨ho,ho2,?_⟩
   rw[e]
   refine⟨.ref s.heap.objs.size,_,I.laid (t':=s.toks) (o:=.tup (xs++ys)) (λb ob q=>ZE _ q) (ZH _) ?_,rfl,q1 _ _ (q15 (I.hok.fresh (ZH _)) _) (SqT.of q12) (λ_ _=>q12)⟩
   exact⟨by rw[ZU];exact hz,_,r1.append r2,IsTup.new _ _⟩
section
def q667:bootBuiltins "int" = some (.type "int"):=by decide +kernel
def bt_bool:bootBuiltins "bool" = some (.type "bool"):=by decide +kernel
def bt_str:bootBuiltins "str" = some (.type "str"):=by decide +kernel
def q203:bootBuiltins "tuple" = some (.type "tuple"):=by decide +kernel
def bt_dict:bootBuiltins "dict" = some (.type "dict"):=by decide +kernel
def bt_len:bootBuiltins "len" = some (.builtin "len"):=by decide +kernel
def q66:bootBuiltins "isinstance" = some (.builtin "isinstance"):=by decide +kernel
def bt_max:bootBuiltins "max" = some (.builtin "max"):=by decide +kernel
def bt_all:bootBuiltins "all" = some (.builtin "all"):=by decide +kernel
def bt_sum:bootBuiltins "sum" = some (.builtin "sum"):=by decide +kernel
def q299:bootBuiltins "sorted" = some (.builtin "sorted"):=by decide +kernel
end
section
variable {K:Fg}
def q516:PySem.W.kitOne K (.type "int") (.type "int")=some true:=by kernel_rfl
def q444:PySem.W.kitOne K (.type "int") (.type "bool")=some false:=by kernel_rfl
def q517:PySem.W.kitOne K (.type "str") (.type "str")=some true:=by kernel_rfl
end
def Keep(p:Addr)(H H':Hp):Prop:=∀ b o,b≠p->H b=some o->H' b=some o
def Keep.refl(p:Addr)(H:Hp):Keep p H H:=λ_ _ _ h=>h
def Keep.trans(a:Keep p H H1)(b:Keep p H1 H2):Keep p H H2:=λc o n h=>b c o n (a c o n h)
def Keep.same(s:Same H H'):Keep p H H':=λb o _ h=>s b o h
def Keep.set(p:Addr)(H:Hp)(o:HO):Keep p H (upd H p o):=λb u n h=>by rw[q27 n];exact h
def Keep.new(h:H q=none)(o:HO):Keep p H (upd H q o):=.same (q15 h o)
def Same.seqT{K:Fg}{H H':Hp}{a:Addr}{xs:List V}(e:Same H H')(h:SqT K H a xs):SqT K H' a xs:=by
 rcases h with (h | ⟨o,h⟩) | h
 ·exact .inl (.inl (e _ _ h))
 ·exact .inl (.inr ⟨o,e _ _ h⟩)
 ·exact .inr h
def sz{n:Nat}(h:n<=1000):n<=sizeLine:=Nat.le_of_lt (q81 h)
def szb{n:Nat}(h:Nat.ble n 1000=true):n<=sizeLine:=sz (Nat.le_of_ble_eq_true h)
def q79{l:List Int}{i:Int}(h0:0<=i)(h1:i<(l.length:Int)):∃ v,v∈l/\atI (l.map V.int) i=some (.int v):=by
 have hk:i.toNat<l.length:={}
 have ek:i=((i.toNat:Nat):Int):={}
 have q:atI (l.map V.int) ((i.toNat:Nat):Int)=some (.int l[i.toNat]):=q86 (by rw[WM,ZR hk] <;> rfl)
 rw[<- ek]at q
 exact⟨l[i.toNat],getElem_mem hk,q⟩
noncomputable def relN(scope sc0:Scope):List (Str×NameKind):=scope.names.map λ(n,k)=>if(k == .free&&sc0.kind == .function&&sc0.names.lookup n==some .cell) then(n,.cell) else(n,k)
def q88(env:Env):List (Str×Addr)->Prop
 | []=>True
 | (n,c)::r=>env.cells.lookup n=some c/\q88 env r
theorem q88.look{env:Env}:∀{cl:List (Str×Addr)} {n:Str} {c:Addr},q88 env cl->cl.lookup n=some c->env.cells.lookup n=some c
 | [],_,_,_,h=>by cases h
 | (m,d)::r,n,c,hc,h=>by
  rw[lookup_cons]at h
  cases hx:n==m with
  | true=>
   rw[hx]at h
   cases h
   rw[eq_of_beq hx]
   exact hc.1
  | false=>
   rw[hx]at h
   exact q88.look hc.2 h
def q300{cl:List (Str×Addr)}(h:n∈cl.map (·.1)):∃ c,cl.lookup n=some c:=by
 induction cl with
 | nil=>cases h
 | cons p r ih=>
  obtain⟨m,d⟩:=p
  rw[lookup_cons]
  cases hx:n==m with
  | true=>exact⟨d,rfl⟩
  | false=>
   rcases eB h with e | e
   ·have e':n=m:=e
    rw[e',beq_self_eq_true]at hx
    cases hx
   ·exact ih e
structure CompOk(scope sc0:Scope)(x:Str)(N cn:List Str):Prop where
 has:∀ p∈relN scope sc0,(p.2 = .cell\/p.2 = .free)->p.1∈cn
 nc:∀ p∈scope.names,p.2 ≠ .cell
 names:∀ p∈scope.names,p.2 = .local->scope.names.lookup p.1=some .local
 hx:scope.names.lookup x=some .local
 hx':(relN scope sc0).lookup x=some .local
 nd:(x::N).Nodup
 frs:∀ y∈N,(relN scope sc0).lookup y=some .cell/\sc0.names.lookup y=some .cell/\y∈cn
noncomputable def q50(X:Cx)(scope:Scope)(cl:List (Str×Addr))(C:Addr)(x:Str)(N:List Str)(s₂:Shared)(H₂:Hp)(fp:List Addr):Cx where
 prog:=X.prog
 w:=X.w
 K:=X.K
 mg:=X.mg
 base:=X.base
 A:=X.A
 N:=x::N
 s₀:=s₂
 H₀:=H₂
 env:=compEnvC scope cl C X.env
 outer:=X.stack
 stack:=X.stack
 ex:=fp
 fn:=λ_=>false
 calm:=X.calm
 pn:=[]
 xe:=λ_ _=>False
noncomputable def tComp(wi:TI)(te:TE)(fr:List Nat):TE:=λσ H Q=>wi σ H λJ H1=>∀ D,H1 D=none -> ∃ W:Nat->Nat->List V->Hp->Prop,(∃ m,W 0 m [] (upd H1 D (.lst []))) /\
 ∀ i m ys H2,W i m ys H2->H2 D=some (.lst ys)/\((J.stop i H2/\Q (.ref D) H2)\/(J.go i H2/\ys.length<sizeLine /\ ∃ N:V->Hp->Prop,(∀ y H3,N y H3->H3 D=some (.lst ys) /\ ∃ m',m'<m/\W (i+1) m' (ys++[y]) (upd H3 D (.lst (ys++[y])))) /\
  ∀ x H',J.yld i H2 x H'->te (some x::fr.map λj=>(σ[j]?).getD none) H' N))
def q369{α:Type}:∀{l:List (Str×α)} {x:Str} {a:α},l.lookup x=some a->(x,a)∈l:=λh=>YG h
abbrev nbOf(prog:Program)(w:World)(A:Around)(env:Env)(R:Result->Shared->Prop):VS:=notedBy (model prog w) A env λe s'=>R (.error e) s'
noncomputable def PTs(X:Cx)(ifs:List Expr)(tt:TT):Prop:=
 ∀(pins:List (Addr×Obj)) (s:Shared) (σ:St) (H:Hp) (Q:Bool->Hp->Prop),Inv X pins σ H s->tt σ H Q ->
  wpAny (model X.prog X.w) X.A (forIn ifs true λc r=>if r=true then do let ok <- isTrue c X.env (eval c X.env);pure (ForInStep.yield ok)else pure (ForInStep.yield r)) (TP X pins σ Q) X.xe s
def q518:PTs X [] (λ_ H Q=>Q true H):=λ_ _ _ H _ I h=>wpAny_tests_nil ⟨H,I,h⟩
def q668(h:PT X cc tt):PTs X [cc] tt:=λpins s σ H Q I hw=>wpAny_tests_one (h pins s σ H Q I hw)
structure CompOkG(scope sc0:Scope)(N cn:List Str):Prop where
 has:∀ p∈relN scope sc0,(p.2 = .cell\/p.2 = .free)->p.1∈cn
 nc:∀ p∈scope.names,p.2 ≠ .cell
 names:∀ p∈scope.names,p.2 = .local->scope.names.lookup p.1=some .local
 frs:∀ y∈N,(relN scope sc0).lookup y=some .cell/\sc0.names.lookup y=some .cell/\y∈cn
noncomputable def tCompG(k:Nat)(wi:TI)(gt:TG)(tt:TT)(te:TE)(fr:List Nat):TE:=λσ H Q=>wi σ H λJ H1=>∀ D,H1 D=none -> ∃ W:Nat->Nat->List V->Hp->Prop,(∃ m,W 0 m [] (upd H1 D (.lst []))) /\
 ∀ i m ys H2,W i m ys H2->H2 D=some (.lst ys)/\((J.stop i H2/\Q (.ref D) H2)\/(J.go i H2/\ys.length<sizeLine /\ ∃(N:V->Hp->Prop)(Z:Hp->Prop),(∀ y H3,N y H3->H3 D=some (.lst ys) /\ ∃ m',m'<m/\W (i+1) m' (ys++[y]) (upd H3 D (.lst (ys++[y]))))/\(∀ H3,Z H3 -> ∃ m',m'<m/\W (i+1) m' ys H3) /\
  ∀ x H',J.yld i H2 x H' -> ∀ vs:St,vs.length=k->gt x (vs++fr.map λj=>(σ[j]?).getD none) H' λσ' H3=>(∃ vs':St,vs'.length=k/\σ'=vs'++fr.map λj=>(σ[j]?).getD none)/\tt σ' H3 λb H4=>if b=true then te σ' H4 N else Z H4))
section
variable {prog:Program}{w:World}{A:Around}{R:Result->Shared->Prop}{s:Shared}
theorem q601(I:Nat->Shared->Prop)
  (turn:∀ n s,I n s->wpAny (model prog w) A (pyNext it) (λr s₁=>match r with
   | none=>R (.ok .next) s₁
   | some v=>wpAny (model prog w) A (letOwnedTupleGo target it v) (λ_ s₁'=>wpAny (model prog w) A (assign target env v) (λ_ s₂=>
     wpAny (model prog w) A (forIn ifs true λc r=>if r=true then do let ok <- isTrue c env (eval c env);pure (ForInStep.yield ok)else pure (ForInStep.yield r)) (λokb s₂'=>if okb=true then
     wpAny (model prog w) A (eval elt env) (λx s₃=>wpAny (model prog w) A (call (.builtin "list.append") [acc,x]) (λ_ s₄=>∃ m,m<n/\I m s₄) (nbOf prog w A env R) s₃) (nbOf prog w A env R) s₂'
     else ∃ m,m<n/\I m s₂') (nbOf prog w A env R) s₂) (nbOf prog w A env R) s₁') (nbOf prog w A env R) s₁) (nbOf prog w A env R) s)
  (n:Nat) (h:I n s) :
  codeAny (model prog w) A (.compLoop (.ListComp elt [⟨target,itr,ifs,0⟩] scope pos) 0 it acc env) R s:=by
 refine codeAny_loop rfl I (λn s hI=>?_) n h
 show wpAny _ _ ((compTurn (.ListComp elt [⟨target,itr,ifs,0⟩] scope pos) 0 it acc env).onRaise (λx=>do noteFrame x env;theTreesLotGoes x)) _ _ s
 refine wpAny_noted ?_
 rw[compTurn_list]
 refine ZC (wpAny_standAt (ZC (YJ (turn n s hI) (λr s₁ h₁=>?_) λ_ _ h'=>h')))
 cases r with
 | none=>exact ZM h₁
 | some v=>
  refine ZC (YJ h₁ (λ_ s₁' h₁'=>ZC (YJ h₁' (λ_ s₂ h₂=>ZC (YJ h₂ (λokb s₂' h₂'=>?_) λ_ _ h'=>h')) λ_ _ h'=>h')) λ_ _ h'=>h')
  cases okb with
  | false=>exact ZM ⟨rfl,h₂'⟩
  | true=>exact ZC (ZC (YJ h₂' (λx s₃ h₃=>ZC (YJ h₃ (λ_ s₄ h₄=>ZM (ZM ⟨rfl,h₄⟩)) λ_ _ h'=>h')) λ_ _ h'=>h'))
end
def q231{X:Cx}{elt itr tg:Expr}{ifs:List Expr}{x:Str}{pos:Pos}{scope sc0:Scope}{cl:List (Str×Addr)}{cn TN N:List Str}{fr:List Nat}{gt:TG}{tt:TT}{te:TE}{pins:List (Addr×Obj)}{σ:St}{H2:Hp}{s2:Shared}{it:Addr}{fp:List Addr}
  {tn:Nat->Heap->Prop} {J:It} {RR:Value->Addr->Result->Shared->Prop} {R:Hp->Prop} {E:VS} {W:Nat->Nat->List V->Hp->Prop} {m0:Nat}
  (hc:X.calm=true) (he:∀(C:Addr)(s₂:Shared)(H₂:Hp)(fp:List Addr),PE (q50 X scope cl C x (TN++N) s₂ H₂ fp) elt te) (hct:∀(C:Addr)(s₂:Shared)(H₂:Hp)(fp:List Addr),PTs (q50 X scope cl C x (TN++N) s₂ H₂ fp) ifs tt) (hgt:∀(C:Addr)(s₂:Shared)(H₂:Hp)(fp:List Addr),PG (q50 X scope cl C x (TN++N) s₂ H₂ fp) tg gt)
  (hcl:q88 X.env cl) (hcn:cl.map (·.1)=cn) (hsc:X.env.scope=sc0) (hk:scope.kind = .function) (hok:CompOkG scope sc0 N cn) (hfr:fr.map (λj=>X.N[j]?)=N.map some)
  (I2:Inv X pins σ H2 s2) (T:Turn X.prog X.w X.K tg J fp it tn) (st2:tn 0 s2.heap) (f2:∀ b∈fp,FpOk X pins H2 b)
  (w0:W 0 m0 [] (upd H2 s2.heap.objs.size (.lst [])))
  (turn:∀ i m ys H,W i m ys H->H s2.heap.objs.size=some (.lst ys)/\((J.stop i H/\R H)\/(J.go i H/\ys.length<sizeLine /\ ∃(N:V->Hp->Prop)(Z:Hp->Prop),
   (∀ y H3,N y H3->H3 s2.heap.objs.size=some (.lst ys) /\ ∃ m',m'<m/\W (i+1) m' (ys++[y]) (upd H3 s2.heap.objs.size (.lst (ys++[y]))))/\(∀ H3,Z H3 -> ∃ m',m'<m/\W (i+1) m' ys H3) /\
   ∀ x H',J.yld i H x H' -> ∀ vs:St,vs.length=TN.length+1->gt x (vs++fr.map λj=>(σ[j]?).getD none) H' λσ' H3=>(∃ vs':St,vs'.length=TN.length+1/\σ'=vs'++fr.map λj=>(σ[j]?).getD none)/\tt σ' H3 λb H4=>if b=true then te σ' H4 N else Z H4)))
  (hRR:∀(C:Addr)(H6:Hp)(s6:Shared)(m6:Mg),s6.heap.Ns C m6->Inv X pins σ H6 s6->FpOk X pins H6 C->R H6->RR (.ref s2.heap.objs.size) C (.ok .next) s6) :
  wpAny (model X.prog X.w) X.A (newList []) (λacc s₃=>wpAny (model X.prog X.w) X.A (newFunctionEnv scope X.env.globals cl [] X.env.qual none .none (some X.env)) (λcenv s₄=>
   codeAny (model X.prog X.w) X.A (.compStart (.ListComp elt [⟨tg,itr,ifs,0⟩] scope pos) 0 (.ref it) acc { cenv with scope:=relabel scope X.env }) (RR acc cenv.locals) s₄) E s₃) E s2:=by
 refine YB (wpAny_newFunctionEnv hok.nc (by intro y hy;simp at hy) (λh4 hns hsb=>?_) hk)
 dsimp only at hns hsb ⊢
 have rel:∀ y,(compEnvC scope cl 0 X.env).scope.names.lookup y=(relN scope sc0).lookup y:=λy=>by
  show(relabel scope X.env).names.lookup y=_
  unfold relabel relN Env.kindOf
  rw[hsc]
 generalize hD:s2.heap.objs.size=D at *
 have I3:Inv X pins σ (upd H2 D (.lst [])) { s2 with heap:=s2.heap.push { cls:=.type "list", dict:=none,data:=.seq ([]:List Value).toArray } }:=
  I2.laid (t':=s2.toks) (λb u e=>ZE _ e) (Nat.le_of_eq hD) ⟨WA _,[],0,.nil,by rw[<- hD];exact ZT _ rfl⟩
 have k23:∀ b u,s2.heap.get? b=some u->(s2.heap.push { cls:=.type "list", dict:=none,data:=.seq ([]:List Value).toArray }).get? b=some u:=λb u e=>ZE _ e
 have hsz:s2.heap.objs.size<=(s2.heap.push { cls:=.type "list", dict:=none,data:=.seq ([]:List Value).toArray }).objs.size:=by rw[Heap.size_push];exact Nat.le_succ _
 generalize hh3:s2.heap.push { cls:=.type "list", dict:=none,data:=.seq ([]:List Value).toArray }=h3 at *
 have k34:∀ b u,h3.get? b=some u->h4.get? b=some u:=λb u e=>(hsb.2 b (WE (ZW e))).trans (ZE _ e)
 generalize hC:h3.objs.size=C at *
 have I4:Inv X pins σ (upd H2 D (.lst [])) { s2 with heap:=h4,toks:=s2.toks+([]:List (Str×Value)).length }:=I3.kept (t':=s2.toks+0) k34
 generalize hH3:upd H2 D (.lst [])=H3 at *
 have ltC:∀ b o,s2.heap.get? b=some o->b<C:=λb o e=>WB (ZW e) hsz
 have lenF:fr.length=N.length:=by simpa using congrArg List.length hfr
 have fpo:∀ b∈fp,b≠C/\b ∉ frs X.stack:=λb hb=>by
  obtain⟨o,e,_⟩:=T.obj 0 s2.heap st2 b hb
  refine⟨WE (ltC b o e),λz=>?_⟩
  obtain⟨_,n1,n2,_⟩:=f2 b hb
  rcases eB (I2.stkSub b z)with q | q
  ·exact n1 q
  ·exact n2 q
 have H3C:H3 C=none:=I3.hok.fresh (Nat.le_of_eq hC)
 have okX:(q50 X scope cl C x (TN++N) { s2 with heap:=h3 } H3 fp).Ok:=by
  refine⟨I2.ok.mod,hk,I2.ok.glob,I2.ok.blt,Nat.le_of_eq hC,λy z c e1 e2=>I2.ok.inj y z c (hcl.look e1) (hcl.look e2),λy hy=>?_,λy c z=>(fnt z).elim,λz=>I2.ok.hd z,I2.ok.frames,.inl rfl,
   λb hb=>⟨(fpo b hb).1,λy c e=>(f2 b hb).2.2.2.2.1 y c (hcl.look e)⟩,λb o e=>I3.bs b o e,ZQ I2.ok.bsz I3.sz,λb o e hb=>?_,λb hb=>(fpo b hb).2,I3.stack,I3.stkFree⟩
  ·have hy':(relN scope sc0).lookup y=some .cell\/(relN scope sc0).lookup y=some .free:=by
    rcases hy with hy | hy
    ·exact .inl ((rel y).symm.trans hy)
    ·exact .inr ((rel y).symm.trans hy)
   have hm:y∈cn:=by
    rcases hy' with q | q
    ·exact hok.has (y,.cell) (q369 q) (.inl rfl)
    ·exact hok.has (y,.free) (q369 q) (.inr rfl)
   exact q300 (cl:=cl) (n:=y) (by rw[hcn];exact hm)
  ·rcases(f2 b hb).2.2.2.1 with z | z
   ·exact I2.ok.noex b o e z
   ·exact absurd (WB (ZW e) (ZQ I2.ok.bsz z)) (Nat.lt_irrefl _)
 have I5:Inv (q50 X scope cl C x (TN++N) { s2 with heap:=h3 } H3 fp) [] (List.replicate (TN.length+1) none++fr.map λj=>(σ[j]?).getD none) H3 { s2 with heap:=h4,toks:=s2.toks+([]:List (Str×Value)).length }:=by
  refine⟨okX,rfl,I4.bare,Un.kept k34,⟨_,hns,λi y v e1 e2 e3=>?_⟩,λy c e=>I4.cell y c (hcl.look e),H3C,λy c e=>I4.freeC y c (hcl.look e),λp hp=>absurd (show p∈([]:List (Addr×Obj))from hp) (by simp),I4.hok,by simp[q50,lenF];exact W8⟩
  by_cases hiT:i<TN.length+1
  ·exfalso
   rw[YX (by rw[length_replicate];exact hiT),getElem?_replicate,ZL hiT]at e2
   cases e2
  ·obtain⟨j,rfl⟩:∃ j,i=TN.length+1+j:=⟨i-(TN.length+1),{}⟩
   have e1':N[j]? = some y:=by
    have e1b:(x::(TN++N))[TN.length+1+j]? = some y:=e1
    rw[show TN.length+1+j=(TN.length+j)+1 by exact W8,getElem?_cons_succ,YT {},show TN.length+j-TN.length=j by lia]at e1b
    exact e1b
   have e2':(fr.map λj=>(σ[j]?).getD none)[j]? = some (some v):=by
    rw[YT (by rw[length_replicate];lia),length_replicate,show TN.length+1+j-(TN.length+1)=j by lia]at e2
    exact e2
   obtain⟨k,ek⟩:∃ k,fr[j]? = some k:=by
    have:j<fr.length:=by rw[lenF];exact(eA e1').1
    exact⟨fr[j],ZR this⟩
   rw[WM,ek]at e2'
   have e2'':(σ[k]?).getD none=some v:=Option.some.inj e2'
   have eσ:σ[k]? = some (some v):=by
    cases q:σ[k]? with
    | none=>rw[q]at e2'';cases e2''
    | some o=>rw[q]at e2'';exact congrArg some e2''
   have eN:X.N[k]? = some y:=by
    have z:=congrArg (λl=>l[j]?) hfr
    simp only[WM,ek,e1',Option.map_some]at z
    exact Option.some.inj z
   obtain⟨r1,r2,r3⟩:=hok.frs y (WQ e1')
   obtain⟨m,_,hl⟩:=I4.loc
   obtain⟨u,ru,look⟩:=hl k y v eN eσ (.inr (.inl (by rw[hsc];exact r2)))
   refine⟨u,ru,.inr ⟨.inl ((rel y).trans r1),?_⟩⟩
   rcases look with ⟨l1,_⟩ | ⟨_,c,l1,l2⟩
   ·exfalso
    have l1':X.env.scope.names.lookup y=some .local:=l1
    rw[hsc,r2]at l1'
    cases l1'
   ·obtain⟨c',l3⟩:=q300 (cl:=cl) (n:=y) (by rw[hcn];exact r3)
    have l4:=hcl.look l3
    rw[l1]at l4
    cases l4
    exact⟨c,l3,l2⟩
 have st4:tn 0 h4:=T.keep 0 s2.heap h4 st2 λb hb o e=>k34 b o (k23 b o e)
 have fp5:∀{H':Hp},(∀ b∈fp,H' b=none) -> ∀ b∈fp,FpOk (q50 X scope cl C x (TN++N) { s2 with heap:=h3 } H3 fp) [] H' b:=λhn b hb=>
  ⟨hn b hb,(fpo b hb).1,(fpo b hb).2,.inl hb,λy c e=>(f2 b hb).2.2.2.2.1 y c (hcl.look e),λp hp=>absurd (show p∈([]:List (Addr×Obj))from hp) (by simp)⟩
 have fr3:∀ b∈fp,H3 b=none:=λb hb=>by
  obtain⟨o,e,_⟩:=T.obj 0 s2.heap st2 b hb
  have:b≠D:=WE (hD▸ZW e)
  rw[<- hH3,q27 this]
  exact(f2 b hb).1
 have fin:∀(H6:Hp)(s6:Shared)(σ6:St),Inv (q50 X scope cl C x (TN++N) { s2 with heap:=h3 } H3 fp) [] σ6 H6 s6->Inv X pins σ H6 s6/\FpOk X pins H6 C:=by
  intro H6 s6 σ6 I6
  refine⟨I3.call' (s':=s6) (ch:=fp) I6.os ⟨I6.base.keep,I6.base.slot,I6.base.free,I6.base.there,I6.base.tups,I6.base.frzs,I6.base.tbls⟩ I6.hok I6.bare (λb hb=>?_),I3.fpOk (Nat.le_of_eq hC) I6.free⟩
  obtain⟨_,n1,_,n3,n4,n5⟩:=f2 b hb
  exact⟨n3,n1,n4,n5⟩
 have loop:codeAny (model X.prog X.w) X.A (.compLoop (.ListComp elt [⟨tg,itr,ifs,0⟩] scope pos) 0 (.ref it) (.ref D) (compEnvC scope cl C X.env))
   (RR (.ref D) C) { s2 with heap:=h4,toks:=s2.toks+([]:List (Str×Value)).length }:=by
  refine q601 (λn s'=>∃(i:Nat)(vs:St)(ys:List V)(H':Hp),vs.length=TN.length+1/\Inv (q50 X scope cl C x (TN++N) { s2 with heap:=h3 } H3 fp) [] (vs++fr.map λj=>(σ[j]?).getD none) H' s'/\tn i s'.heap/\(∀ b∈fp,H' b=none)/\W i n ys H') ?_ m0
   ⟨0,List.replicate (TN.length+1) none,[],H3,by simp,I5,st4,fr3,w0⟩
  rintro n s6 ⟨i,vs,ys,H6,hvs,I6,st6,fr6,w6⟩
  obtain⟨hDl,hw⟩:=turn i n ys H6 w6
  rcases hw with ⟨stop,qn⟩ | ⟨go,hlen,N',Z',hN',hZ',step⟩
  ·refine thn (T.done (q50 X scope cl C x (TN++N) { s2 with heap:=h3 } H3 fp) rfl rfl rfl hc i [] s6 _ H6 _ I6 (fp5 fr6) st6 stop) λr s7 ⟨hr,I7⟩=>?_
   subst hr
   obtain⟨m7,hn7,_⟩:=I7.loc
   obtain⟨J7,F7⟩:=fin H6 s7 _ I7
   exact hRR C H6 s7 m7 hn7 J7 F7 qn
  ·refine thn (T.item (q50 X scope cl C x (TN++N) { s2 with heap:=h3 } H3 fp) rfl rfl rfl hc i [] s6 _ H6 _ I6 (fp5 fr6) st6 go) λr s7 ⟨u,hr,h7⟩=>?_
   subst hr
   refine thn h7 λ_ s8 ⟨x8,H8,I8,r8,y8,st8,fr8⟩=>?_
   have I8':=I8.pinned (fp5 fr8) (T.obj _ _ st8)
   refine YJ (hgt C { s2 with heap:=h3 } H3 fp _ s8 _ H8 x8 u _ I8' r8 (step x8 H8 y8 vs hvs)) (λ_ s9 h9=>?_) λ_ _ z=>False.elim z
   obtain⟨σ9,H9a,I9,⟨vs9,hl9,e9⟩,n9a⟩:=h9
   subst e9
   refine YJ (hct C { s2 with heap:=h3 } H3 fp _ s9 _ H9a _ I9 n9a) (λokb s9b h9b=>?_) λ_ _ z=>False.elim z
   obtain⟨H9,I9b,n9⟩:=h9b
   cases okb with
   | false=>
    rw[ZJ fnt]at n9 ⊢
    obtain⟨m',hm,w9⟩:=hZ' _ n9
    refine⟨m',hm,i+1,vs9,ys,_,hl9,I9b.unpinned,T.keep _ _ _ st8 λb hb o e=>(I9b.pin (b,o) (WV _ (WV _ (q95 hb e)))).1,λb hb=>?_,w9⟩
    obtain⟨o,e,d⟩:=T.obj _ _ st8 b hb
    exact(I9b.pin (b,o) (WV _ (WV _ (q95 hb e)))).2.1
   | true=>
    rw[ZL rfl]at n9 ⊢
    refine YJ (he C { s2 with heap:=h3 } H3 fp _ s9b _ H9 _ I9b n9) (λy s10 h10=>?_) λ_ _ z=>False.elim z
    obtain⟨y10,H10,I10,r10,n10⟩:=h10
    obtain⟨hD10,m',hm,w10⟩:=hN' y10 H10 n10
    refine YJ (q59 (X:=q50 X scope cl C x (TN++N) { s2 with heap:=h3 } H3 fp) _ s10 _ H10 (.ref D) [y10] (.ref D) [y] (λ_ H'=>H'=upd H10 D (.lst (ys++[y10]))) I10 rfl (.cons r10 .nil) ⟨D,ys,y10,rfl,rfl,hD10,hlen,rfl⟩) (λ_ s11 h11=>?_) λ_ _ z=>False.elim z
    obtain⟨_,H11,I11,_,e11⟩:=h11
    subst e11
    refine⟨m',hm,i+1,vs9,ys++[y10],_,hl9,I11.unpinned,T.keep _ _ _ st8 λb hb o e=>(I11.pin (b,o) (WV _ (WV _ (q95 hb e)))).1,λb hb=>?_,w10⟩
    obtain⟨o,e,d⟩:=T.obj _ _ st8 b hb
    exact(I11.pin (b,o) (WV _ (WV _ (q95 hb e)))).2.1
 exact codeAny_compStart_list loop (T.self _ 0 _ _ _ st4 loop)
def q401{X:Cx}(hsc:X.env.scope=sc0)(h:(relN scope sc0).lookup x=some .local):(compEnvC scope cl C X.env).scope.names.lookup x=some .local:=by
 show(relabel scope X.env).names.lookup x=_
 rw[<- h]
 unfold relabel relN Env.kindOf
 rw[hsc]
theorem q445{X:Cx}{elt itr:Expr}{x:Str}{px pos:Pos}{scope sc0:Scope}{cl:List (Str×Addr)}{cn N:List Str}{fr:List Nat}{te:TE}{pins:List (Addr×Obj)}{σ:St}{H2:Hp}{s2:Shared}{it:Addr}{fp:List Addr}
  {tn:Nat->Heap->Prop} {J:It} {RR:Value->Addr->Result->Shared->Prop} {R:Hp->Prop} {E:VS} {W:Nat->Nat->List V->Hp->Prop} {m0:Nat}
  (hc:X.calm=true) (he:∀(C:Addr)(s₂:Shared)(H₂:Hp)(fp:List Addr),PE (q50 X scope cl C x N s₂ H₂ fp) elt te)
  (hcl:q88 X.env cl) (hcn:cl.map (·.1)=cn) (hsc:X.env.scope=sc0) (hk:scope.kind = .function) (hok:CompOk scope sc0 x N cn) (hfr:fr.map (λj=>X.N[j]?)=N.map some)
  (I2:Inv X pins σ H2 s2) (T:Turn X.prog X.w X.K (.Name x px) J fp it tn) (st2:tn 0 s2.heap) (f2:∀ b∈fp,FpOk X pins H2 b)
  (w0:W 0 m0 [] (upd H2 s2.heap.objs.size (.lst [])))
  (turn:∀ i m ys H,W i m ys H->H s2.heap.objs.size=some (.lst ys)/\((J.stop i H/\R H)\/(J.go i H/\ys.length<sizeLine /\ ∃ N:V->Hp->Prop,
   (∀ y H3,N y H3->H3 s2.heap.objs.size=some (.lst ys) /\ ∃ m',m'<m/\W (i+1) m' (ys++[y]) (upd H3 s2.heap.objs.size (.lst (ys++[y])))) /\
   ∀ x H',J.yld i H x H'->te (some x::fr.map λj=>(σ[j]?).getD none) H' N)))
  (hRR:∀(C:Addr)(H6:Hp)(s6:Shared)(m6:Mg),s6.heap.Ns C m6->Inv X pins σ H6 s6->FpOk X pins H6 C->R H6->RR (.ref s2.heap.objs.size) C (.ok .next) s6) :
  wpAny (model X.prog X.w) X.A (newList []) (λacc s₃=>wpAny (model X.prog X.w) X.A (newFunctionEnv scope X.env.globals cl [] X.env.qual none .none (some X.env)) (λcenv s₄=>
   codeAny (model X.prog X.w) X.A (.compStart (.ListComp elt [⟨.Name x px,itr,[],0⟩] scope pos) 0 (.ref it) acc { cenv with scope:=relabel scope X.env }) (RR acc cenv.locals) s₄) E s₃) E s2:=by
 refine q231 (TN:=[]) (gt:=gName 0) (tt:=λ_ H Q=>Q true H) hc he (λ_ _ _ _=>q518) (λ_ _ _ _=>q100 hok.nd rfl (.inl ?_) (.inr ?_)) hcl hcn hsc hk ⟨hok.has,hok.nc,hok.names,hok.frs⟩ hfr I2 T st2 f2 w0 (λi m ys H h=>?_) hRR
 ·exact q401 hsc hok.hx'
 ·exact q401 hsc hok.hx'
 obtain⟨a,b⟩:=turn i m ys H h
 exists a
 rcases b with b | ⟨g,l,N,h1,h2⟩
 ·exact .inl b
 refine .inr ⟨g,l,N,λ_=>False,h1,λ_ z=>z.elim,λx H' y vs hv=>?_⟩
 match vs,hv with
 | [v0],_=>exact⟨⟨[some x],rfl,rfl⟩,iteT (h2 x H' y)⟩
def Inv.let_go{s:Shared}(I:Inv X pins σ H s)(F:FpOk X pins H C)(sb:Heap.SameBut C s.heap h'):Inv X pins σ H { s with heap:=h' }:=by
 obtain⟨f0,f1,_,f3,f4,f5⟩:=F
 exact I.turned (t':=s.toks) (λb o hb e=>(sb.2 b hb).trans e) f0 f1 f3 f4 f5
def q133{X:Cx}{elt itr:Expr}{x:Str}{px pos:Pos}{scope sc0:Scope}{cl:List (Str×Addr)}{cn N:List Str}{fr:List Nat}{wi:TI}{te:TE}
  (hc:X.calm=true) (hi:PI X (.Name x px) itr wi) (he:∀(C:Addr)(s₂:Shared)(H₂:Hp)(fp:List Addr),PE (q50 X scope cl C x N s₂ H₂ fp) elt te)
  (hclos:closureFor scope X.env=pure cl) (hcl:q88 X.env cl) (hcn:cl.map (·.1)=cn) (hsc:X.env.scope=sc0) (hk:scope.kind = .function) (hok:CompOk scope sc0 x N cn)
  (hfr:fr.map (λj=>X.N[j]?)=N.map some) (hs:∀ v,foldedSetIterable itr X.env v=pure v:=by intro _;rfl) :
  PE X (.ListComp elt [⟨.Name x px,itr,[],0⟩] scope pos) (tComp wi te fr):=by
 intro pins s σ H Q I h
 rw[eval_ListComp]
 refine wpAny_comprehension_free (use:=none) rfl hs hclos hk hok.names (thn (hi pins s σ H _ I h) λv s1 h1=>thn h1 λitv s2 h2=>?_)
 obtain⟨it,fp,tn,J,H2,e,I2,T,st2,f2,hq⟩:=h2
 subst e
 obtain⟨W,⟨m0,w0⟩,turn⟩:=hq s2.heap.objs.size (I2.hok.fresh (ZH _))
 exact q445 (RR:=λacc C=>compPost (model X.prog X.w) X.A X.xe none (EP X pins σ Q) acc C) (R:=λH6=>Q (.ref s2.heap.objs.size) H6) hc he hcl hcn hsc hk hok hfr I2 T st2 f2 w0 turn
  λC H6 s6 m6 hn I6 F6 q=>⟨m6,hn,λh' sb=>⟨.ref s2.heap.objs.size,H6,I6.let_go F6 sb,rfl,q⟩⟩
noncomputable def tSetComp(i:Nat)(wi:TI)(te:TE)(fr:List Nat):TS:=λD σ H=>tComp wi te fr σ H λv H1=>D.nx (σ.set i (some v)) H1
def q232{X:Cx}{i:Nat}{y:Str}{py spos:Pos}{elt itr:Expr}{x:Str}{px pos:Pos}{scope sc0:Scope}{cl:List (Str×Addr)}{cn N:List Str}{fr:List Nat}{wi:TI}{te:TE}
  (hN:X.N.Nodup) (hiN:X.N[i]? = some y) (hy:Loc X.env.scope y)
  (hc:X.calm=true) (hi:PI X (.Name x px) itr wi) (he:∀(C:Addr)(s₂:Shared)(H₂:Hp)(fp:List Addr),PE (q50 X scope cl C x N s₂ H₂ fp) elt te)
  (hclos:closureFor scope X.env=pure cl) (hcl:q88 X.env cl) (hcn:cl.map (·.1)=cn) (hsc:X.env.scope=sc0) (hk:scope.kind = .function) (hok:CompOk scope sc0 x N cn)
  (hfr:fr.map (λj=>X.N[j]?)=N.map some) (hsw:swapsWith (.ListComp elt [⟨.Name x px,itr,[],0⟩] scope pos) (some (.Name y py)) spos.line X.env=pure true)
  (hf:X.fn y=true\/X.env.scope.names.lookup y=some .local) (hs:∀ v,foldedSetIterable itr X.env v=pure v:=by intro _;rfl) :
  PS X (.Assign [.Name y py] (.ListComp elt [⟨.Name x px,itr,[],0⟩] scope pos) spos) (tSetComp i wi te fr):=by
 intro pins s σ H D I h
 rw[exec_Assign_Name_used _ _ _ _ hsw]
 refine ZC (wpAny_standAt (ZC ?_))
 show wpAny _ X.A (do let _ <- comprehension (.ListComp elt [⟨.Name x px,itr,[],0⟩] scope pos) scope X.env _ (newList []) false (eval itr X.env) (some (assign (.Name y py) X.env))) _ _ s
 refine ZC (YJ (wpAny_comprehension_free (use:=some (assign (.Name y py) X.env)) (Q:=λ_ s'=>SP X pins D .next s') rfl hs hclos hk hok.names
  (thn (hi pins s σ H _ I h) λv s1 h1=>thn h1 λitv s2 h2=>?_)) (λ_ s' hq=>ZM (ZM hq)) λ_ _ e=>e)
 obtain⟨it,fp,tn,J,H2,e,I2,T,st2,f2,hq⟩:=h2
 subst e
 obtain⟨W,⟨m0,w0⟩,turn⟩:=hq s2.heap.objs.size (I2.hok.fresh (ZH _))
 refine q445 (RR:=λacc C=>compPost (model X.prog X.w) X.A X.xe (some (assign (.Name y py) X.env)) (λ_ s'=>SP X pins D .next s') acc C) (R:=λH6=>D.nx (σ.set i (some (.ref s2.heap.objs.size))) H6) hc he hcl hcn hsc hk hok hfr I2 T st2 f2 w0 turn
  λC H6 s6 m6 hn I6 F6 q=>?_
 show wpAny _ X.A (assign (.Name y py) X.env (.ref s2.heap.objs.size)) _ _ _
 refine wpAny_assign_Name (q293 (v:=.ref s2.heap.objs.size) I6 hN hiN hy rfl (λs7 I7 ⟨a,sb,ha⟩=>?_) hf)
 have neC:C≠a:=by
  rcases ha with ha | ha
  ·rw[ha];exact F6.2.1
  ·exact Ne.symm (F6.2.2.2.2.1 y a ha)
 exact⟨m6,hn.sameBut sb neC,λh' sb'=>⟨_,H6,I7.let_go F6 sb',q⟩⟩
def q162{lo:Int}{n:Nat}{T:V->Hp->(V->Hp->Prop)->Prop}{D:Addr}{H1:Hp}{R:Hp->Prop}(hn:n<=sizeLine)(Pv:Nat->List V->Hp->Prop)(h0:Pv 0 [] (upd H1 D (.lst [])))
  (hD:∀ i ys H,Pv i ys H->H D=some (.lst ys)/\ys.length=i)
  (hs:∀ i ys H,i<n->Pv i ys H->T (.int (lo+i)) H λy H3=>H3 D=some (.lst ys)/\Pv (i+1) (ys++[y]) (upd H3 D (.lst (ys++[y]))))
  (hd:∀ ys H,Pv n ys H->R H) :
  ∃ W:Nat->Nat->List V->Hp->Prop,(∃ m,W 0 m [] (upd H1 D (.lst []))) /\
   ∀ i m ys H2,W i m ys H2->H2 D=some (.lst ys)/\(((Itr lo n).stop i H2/\R H2)\/((Itr lo n).go i H2/\ys.length<sizeLine /\ ∃ N:V->Hp->Prop,(∀ y H3,N y H3->H3 D=some (.lst ys) /\ ∃ m',m'<m/\W (i+1) m' (ys++[y]) (upd H3 D (.lst (ys++[y])))) /\
    ∀ x H',(Itr lo n).yld i H2 x H'->T x H' N)):=by
 exists λi m ys H=>m=n-i/\i<=n/\Pv i ys H,⟨n,by simp,WA _,h0⟩
 rintro i m ys H2 ⟨rfl,hi,p⟩
 obtain⟨d1,d2⟩:=hD i ys H2 p
 exists d1
 by_cases hlt:i<n
 ·refine .inr ⟨hlt,{},λy H3=>H3 D=some (.lst ys)/\Pv (i+1) (ys++[y]) (upd H3 D (.lst (ys++[y]))),λy H3 ⟨z1,z2⟩=>⟨z1,n-(i+1),(W34 hlt d2),rfl,hlt,z2⟩,λx H' y=>?_⟩
  obtain⟨e,y⟩:=y
  subst e y
  exact hs i ys _ hlt p
 ·have e:i=n:={}
  subst e
  exact .inl ⟨ZH _,hd ys H2 p⟩
end L2
namespace HT
set_option autoImplicit false
open PySem PySem.Spec PyProof.Rows List
section
variable {prog:Program}{w:World}{A:Around}{E:VS}{s:Shared}
def q602{t sl:Addr}{items:Array Value}{vl vu:Value}{lo hi:Option Int}{Q:VS}(ht:IsTup s.heap t items)(hs:s.heap.IsSliceOf sl vl vu .none)(pl:IsPart vl lo)(pu:IsPart vu hi)
  (h0:sIx items.size 0 lo=0) (h1:sIx items.size items.size hi=items.size) (h:Q (.ref t) s):wpAny (model prog w) A (getItem (.ref t) (.ref sl)) Q E s:=by
 obtain⟨os,hos,hcs,hds⟩:=id hs
 have hTs:s.TypeIs (.ref sl) "slice" := ⟨os,hos,hcs⟩
 have hT:s.TypeIs (.ref t) "tuple" := ht.typeIs
 unfold getItem
 try with_reducible refine YW ?_
 first | refine ZC (ZM ?_) | skip
 refine ZC (wpAny_sequenceKey ht.typeIs ∅ ?_)
 refine ZC (wpAny_callSpecial?_slot (name:=Str.ofString "__getitem__") ht.typeIs PyProof.Rows.slot_tuple_getitem
  (wpAny_call_entry PyProof.Rows.slot_tuple_getitem ht.typeIs entry_tuple_getitem ?_ (args_tuple_getitem _ _)))
 show wpAny _ _ (Builtin.Tuple.tupleItemsOf (.ref t) >>= _) _ _ s
 refine ZC (tupleItemsOf_ ht ?_)
 refine ZC (wpAny_typeOf hTs ?_)
 rw[ZL ∅]
 refine ZC (q146 hs pl pu ?_)
 have hyes:((((sIx items.size 0 lo:Nat):Int)==0&&(1:Int)==1&&(sIx items.size items.size hi-sIx items.size 0 lo)==items.size)=true):=by
  rw[h0,h1];simp
 show wpAny _ _ (if(((sIx items.size 0 lo:Nat):Int)==0&&(1:Int)==1&&(sIx items.size items.size hi-sIx items.size 0 lo)==items.size)=true then _ else _) _ _ s
 rw[ZL hyes]
 first
  | exact ZC (wpAny_typeOf hT (ZM ⟨_,rfl,ZM h⟩))
  | exact ZM ⟨_,rfl,ZM h⟩
  | exact ZC (ZM ⟨_,rfl,ZM h⟩)
  | (wp_walk;exact⟨_,rfl,ZM h⟩)
  | (wp_walk;exact⟨_,rfl,h⟩)
end
end HT
namespace L2
open PySem PySem.Spec PyProof.Rows List
variable {X:Cx}
def TupF(H:Hp)(a:Addr)(xs:List V):Prop:=∃ o:Obj,H a=some (.frz o (.tup xs))/\o.cls = .type "tuple" /\ o.dict=none
def TupF.sq{K:Fg}{H:Hp}{a:Addr}{xs:List V}(h:TupF H a xs):SqT K H a xs:=by
 obtain⟨o,h,_⟩:=h
 exact .inl (.inr ⟨o,h⟩)
def TupF.same(h:TupF H a xs)(s:Same H H'):TupF H' a xs:=by
 obtain⟨o,h,c⟩:=h
 exact⟨o,s _ _ h,c⟩
section
inductive q446(K:Fg)(xs:List V)(H:Hp)(Q:VK):Prop
 |mk(p ys)(_:xs=[.ref p])(_:SqL K H p ys)(_:∀ l H',Same H H'->TupF H' l ys->Q (.ref l) H')
def q191:CallR X (.type "tuple") (q446 X.K):=by
 intro pins s σ H xs us Q I r h
 obtain⟨p,ys,rfl,hq,q⟩:=h
 obtain⟨u,rfl,rx⟩:=vals1 r
 cases rx
 obtain⟨its,r',pl,hz⟩:=I.list hq
 have hlen:=r'.length
 refine call_tuple_list pl.isList (λh' kp=>?_) (by simp only[WG] <;> lia)
 have I1:Inv X pins σ H { s with heap:=h' }:=I.kept (t':=s.toks) kp
 have I2:Inv X pins σ (upd H h'.objs.size (.frz { cls:=.type "tuple", data:=.seq its.toArray } (.tup ys))) { s with heap:=h'.push { cls:=.type "tuple", data:=.seq its.toArray } }:=
  I1.laid (t':=s.toks) (λb o e=>ZE _ e) (ZH _) (show ObjOk X.prog X.w _ _ _ (.frz _ (.tup ys)) from⟨ZT _ rfl,hz,its,r',IsTup.new _ _⟩)
 exact⟨.ref h'.objs.size,_,I2,rfl,q _ _ (q15 (I1.hok.fresh (ZH _)) _) ⟨_,q12,rfl,rfl⟩⟩
def cutV_all{xs:List V}{lo hi:Option Int}(h0:HT.sIx xs.length 0 lo=0)(h1:HT.sIx xs.length xs.length hi=xs.length):cutV xs lo hi=xs:=by
 unfold cutV
 rw[h0,h1,drop_zero,Nat.sub_zero,YF]
inductive Rsl_tupF  (x:V) (lo:Option Int) (hi:Option Int) (H:Hp) (Q:VK):Prop
 |mk(a xs)(_:x = .ref a)(_:TupF H a xs)(_:∀ p H',Same H H'->TupF H' p (cutV xs lo hi)->Q (.ref p) H')
def q669:SlR X Rsl_tupF:=by
 intro pins s σ H x v vl vu lo hi sl Q I rx hs pl pu h
 obtain⟨a,xs,rfl,hx,q⟩:=h
 cases rx
 obtain⟨its,r,ht,hz⟩:=I.tuple (hx.sq (K:=X.K))
 have hlen:its.toArray.size=xs.length:=by rw[WG];exact r.length.symm
 exists "tuple", _,PyProof.Rows.slot_tuple_getitem.lookup,ht.typeIs
 by_cases hw:HT.sIx xs.length 0 lo=0/\HT.sIx xs.length xs.length hi=xs.length
 ·refine HT.q602 ht hs pl pu (by rw[hlen];exact hw.1) (by rw[hlen];exact hw.2) ⟨.ref a,H,I,rfl,q a H (Same.refl H) ?_⟩
  rw[cutV_all hw.1 hw.2]
  exact hx
 ·refine HT.q598 ht hs pl pu (by rw[hlen];exact hw) ?_ (by rw[hlen];exact hz)
  rw[hlen]
  refine⟨.ref s.heap.objs.size,_,I.laid (t':=s.toks) (o:=.frz { cls:=.type "tuple", data:=.seq ((its.toArray.toList.drop (HT.sIx xs.length 0 lo)).take (HT.sIx xs.length xs.length hi-HT.sIx xs.length 0 lo)).toArray } (.tup (cutV xs lo hi))) (λb ob q=>ZE _ q) (ZH _) ?_,rfl,
   q _ _ (q15 (I.hok.fresh (ZH _)) _) ⟨_,q12,rfl,rfl⟩⟩
  exact⟨ZT _ rfl,ZQ (q190 xs lo hi) hz,_,(r.drop (HT.sIx xs.length 0 lo)).take (HT.sIx xs.length xs.length hi-HT.sIx xs.length 0 lo),IsTup.new _ _⟩
theorem q233{x:V}:∀{xs:List V}{us:List Value},Vals xs us->xs.all flatV=true->us.countP (eqU x)=xs.countP λy=>eqV y x
 | _,_,.nil,_=>rfl
 | y::xs,u::us,.cons r t,f=>by
  rw[all_cons,WC]at f
  rw[YN,YN,eqU_of r f.1,q233 t f.2]
inductive q603(K:Fg)(x:V)(xs:List V)(H:Hp)(Q:VK):Prop
 |mk(a ys v)(_:x = .ref a)(_:xs=[v])(_:SqT K H a ys)(_:flatV v=true)(_:ys.all flatV=true)(_:Q (.int (ys.countP λy=>eqV y v:Nat)) H)
def q670:MtR X "tuple.count" (q603 X.K):=by
 intro pins s σ H x xs v us Q I rx rv h
 obtain⟨a,ys,y,rfl,rfl,ha,f1,f2,q⟩:=h
 cases rx
 obtain⟨u,rfl,ru⟩:=rv.one
 obtain⟨its,r,p,hz⟩:=I.tuple ha
 obtain⟨⟨cls,dd,data,sl⟩,ho,hc,n,hd⟩:=id p
 simp only at hc hd
 subst hc hd
 refine call_meets F.slot_tuple_count ⟨_,ho,rfl⟩ F.entry_tuple_count (F.args_tuple_count_2 _ _) (SeqAt.tuple_countAt a its.toArray n dd sl u (eqU y)) ⟨ho,λz hz=>q398 ru f1 r f2 z (by simpa using hz),?_⟩
 refine⟨.int (ys.countP λy'=>eqV y' y:Nat),H,I.tok _,?_,q⟩
 rw[<- q233 r f2]
 exact⟨_,rfl⟩
def tBMF(T:String)(r:V->List V->Hp->VK->Prop)(to:TE)(t:TA):TE:=λσ H Q=>to σ H λx H1=>(∃ a o u,x = .ref a/\H1 a=some (.frz o u)/\o.cls = .type T/\o.dict=none)/\t σ H1 λxs H2=>r x xs H2 Q
variable{o e:Expr}{es:List Expr}{to:TE}{t:TA}{name:Str}{apos cpos:Pos}{T id:String}{r:V->List V->Hp->VK->Prop}
def pe_bmF(pa:PlainAttrs T)(slot:Slot T name id)(hty:typeOf (.builtin id)=pure (.type "method_descriptor")) (hm:MtR X id r) (ho:PE X o to) (ha:PA X (e::es) t)
  (hbase:attributeBase o name X.env (eval o X.env)=eval o X.env:=by rfl)
  (hfew:((backTo cpos (starEach (e::es) X.env)).all (λx=>!x.1)&&(backToKw cpos (keywordEach [] X.env)).all (λx=>x.1.isSome)
   && decide ((e::es).length+([]:List Keyword).length+(if([]:List Keyword).isEmpty then 0 else 1)<30))=true:=by rfl)
  (hline:(apos.endLine==cpos.line)=true:=by rfl) (hs:starEach (e::es) X.env=(false,eval e X.env)::starEach es X.env:=by rfl) (hplain:(backTo cpos (starEach es X.env)).any (·.1)=false:=by rfl) :
  PE X (.Call (.Attribute o name apos) (e::es) [] cpos) (tBMF T r to t):=by
 intro pins s σ H Q I h
 refine wpAny_Call_method_late hbase hfew hline rfl (thn (ho pins s σ H _ I h) λv s1 ⟨x,H1,I1,r1,ty,q1⟩=>?_)
 obtain⟨a,ob,u,rfl,hH,hc,hd⟩:=ty
 cases r1
 obtain⟨hg,_⟩:=I1.hok a _ hH
 exists T,id,pa,slot,hty,⟨ob,hg,hc⟩,λb eb=>?_
 ·cases eb
  exact⟨ob,hg,hd⟩
 have hA:=ha cpos pins s1 σ H1 _ I1 q1
 rw[hs]at hA ⊢
 refine Calls.callWith_builtin (by show(false||(backTo cpos (starEach es X.env)).any (·.1))=false;rw[hplain] <;> rfl) (Calls.evalArgs_plain ?_)
 exact thn hA λus s2 ⟨vs,H2,I2,r2,q2⟩=>hm pins s2 σ H2 (.ref a) vs (.ref a) us Q I2 rfl r2 q2
end
def q671(bs:List Bool):((List.range bs.length).all λi=>bs.getD i true)=bs.all id:=by
 rw[Bool.eq_iff_iff,all_eq_true,all_eq_true]
 constructor
 ·intro h b hb
  obtain⟨i,hi,rfl⟩:=List.mem_iff_getElem.mp hb
  have:=h i (List.mem_range.mpr hi)
  simpa [getD_eq_getElem?_getD,hi] using this
 ·intro h i hi
  have hi':=List.mem_range.mp hi
  have:=h bs[i] (getElem_mem hi')
  simpa [getD_eq_getElem?_getD,hi'] using this
inductive q672(K:Fg)(xs:List V)(H:Hp)(Q:VK):Prop
 |mk(p:Addr)(bs:List Bool)(_:xs=[.ref p])(_:SqL K H p (bs.map V.bl))(_:Q (.bl (bs.all id)) H)
def call_all(hc:X.calm=true):CallR X (.builtin "all") (q672 X.K):=by
 intro pins s σ H xs us Q I r h
 obtain⟨p,bs,rfl,hq,q⟩:=h
 obtain⟨u,rfl,rx⟩:=vals1 r
 cases rx
 obtain⟨its,r',pl,hz⟩:=I.list hq
 have hl:=r'.length
 rw[ZN]at hl
 obtain⟨o,n,ho,_⟩:=id pl
 have hlt:p<s.heap.objs.size:=ZW ho
 refine call_all_walk (wpAny_pyIter_list pl.isList ⟨s.heap.objs.size,_,_,_,_,_,λi=>bs.getD i true,rfl,Walks.list (A:=X.A.in1) (show X.A.in1.handled=none from I.ok.hd hc) s.heap.objs.size p (WE hlt) its.toArray,⟨⟨_,ZT _ rfl,rfl,rfl⟩,pl.isList.at λo e=>ZE _ e⟩,?_,?_⟩)
 ·intro i v s' Q' E' hv hQ'
  have hv':its[i]? = some v:=by simpa using hv
  have hi:i<bs.length:=by rw[hl];exact(eA hv').1
  obtain⟨u',hu',ru'⟩:=r'.get (i:=i) (x:=.bl bs[i]) (by rw[WM,ZR hi] <;> rfl)
  rw[hv']at hu'
  cases hu'
  cases ru'
  refine wpAny_truthy_bool ?_
  have e:bs.getD i true=bs[i]:=by simp[getD_eq_getElem?_getD,hi]
  rw[<- e]
  exact hQ'
 ·intro h' tk hk
  refine⟨.bl (bs.all id),H,I.kept (t':=tk) λb ob e=>hk b ob (by simp;exact WE (ZW e)) (ZE _ e),?_,q⟩
  show Value.bool _=Value.bool _
  congr 1
  rw[WG,<- hl]
  exact q671 bs
inductive Rop_neL(K:Fg)(x:V)(y:V)(H:Hp)(Q:VK):Prop
 |mk(a b:Addr)(ns ms:List Int)(_:x = .ref a)(_:y = .ref b)(_:SqL K H a (ns.map V.int))(_:SqL K H b (ms.map V.int))(_:Q (.bl (!decide (ns=ms))) H)
def q673(hu:X.A.units+64<cLine):OpR X (compareOp .NotEq) (Rop_neL X.K):=by
 intro pins s σ H x y v u Q I rx ry h
 obtain⟨a,b,ns,ms,rfl,rfl,ha,hb,q⟩:=h
 cases rx
 cases ry
 obtain⟨its,r1,p1,_⟩:=I.list ha
 obtain⟨its2,r2,p2,_⟩:=I.list hb
 exact PySem.W.ke_ne_ints p1.isList p2.isList (q63 r1) (q63 r2) hu ⟨.bl _,H,I,rfl,q⟩
def ctxV:Addr:=111
def Ctx(cls:Value)(vs:Array Value):Prop:=cls ≠ .ref ctxV->vs[2]? = some .none
def Exc(n:Nat)(h:Heap)(x:Addr)(cls:Value)(dd:Option Addr)(fl:Value):Prop:=
 ∃(oe:Obj)(vs:Array Value)(T:Addr)(oT:Obj)(ts:Array Value),(h.get? x=some oe/\oe.cls=cls/\oe.dict=dd/\oe.data = .fields vs/\vs[1]? = some (.ref T)/\Ctx cls vs) /\
  (n<=T/\T≠x)/\h.get? T=some oT/\oT.data = .fields ts/\ts[3]? = some fl
structure Fly(n:Nat)(fs:List Addr)(x:Addr)(h h':Heap):Prop where
 keep:∀ b o,h.get? b=some o->b<n->b≠x->b ∉ fs->h'.get? b=some o
 slot:∀ b o,h.get? b=some o->b∈fs -> ∃ sl,h'.get? b=some { o with slots:=sl }
 there:∀ b o,h.get? b=some o -> ∃ o',h'.get? b=some o'
structure Out(P:Program)(w:World)(outer:List Env)(H:Hp)(s:Shared)(x:Addr)(cls:Value)(dd:Option Addr)(n:Nat)(H':Hp)(fl:Value)(s':Shared):Prop where
 os:s'.os=s.os
 bare:AllBare s'.gens
 un:Un (frs outer) [] H H' s.heap s'.heap
 hok:HOk P w H' s'.heap
 exc:Exc n s'.heap x cls dd fl
 free:H' x=none
 new:s.heap.get? x=none
 old:s.heap.objs.size<=n
 low:∀ b u,H' b=some u->b<n
def CX1(P:Program)(w:World):CXT:=λouter H s E e s'=>∃(x:Addr)(cls:Value)(dd:Option Addr)(n:Nat)(H':Hp),e = .ref x/\Out P w outer H s x cls dd n H' .none s'/\E cls dd H'
section
variable {pins:List (Addr×Obj)}{σ:St}{H H':Hp}{s s':Shared}{x:Addr}{cls fl:Value}{dd:Option Addr}{n:Nat}
structure Away(X:Cx)(pins:List (Addr×Obj))(σ:St)(H:Hp)(s:Shared)(x:Addr)(cls:Value)(dd:Option Addr)(n:Nat)(fl:Value):Prop where
 inv:Inv X pins σ H s
 exc:Exc n s.heap x cls dd fl
 free:H x=none
 new:X.s₀.heap.get? x=none
 old:X.s₀.heap.objs.size<=n
 low:∀ b u,H b=some u->b<n
 loc:X.env.locals<n
end
structure Lv(X:Cx)(E:XK):Prop where
 xe:X.xe=λe s'=>wpAny (model X.prog X.w) X.A (leaving X.env e) (λ_ s''=>CX1 X.prog X.w X.outer X.H₀ X.s₀ E e s'') (λe' s''=>CX1 X.prog X.w X.outer X.H₀ X.s₀ E e' s'') s'
 ex:X.ex=[]
 stack:X.stack=X.env::X.outer
 frame:X.env.frame=some X.env.locals
 calm:X.calm=true
structure ECls(K:Fg)(C:Addr):Prop where
 ga:PySem.W.findIn K (.ref C) "__getattribute__" = some (some (.builtin "BaseException.__getattribute__"))
 gh:PySem.W.findIn K (.ref C) "__getattr__" = some none
 sb:PySem.W.subIn K (.ref C) (.type "BaseException")=some true
 cl:PySem.W.isClsIn K C=true
 fi:PySem.W.findIn K (.ref C) "__class__" = some (some (.builtin "object.__class__"))
 sp:PySem.W.specialIn K (.builtin "object.__class__") "__get__" = some (some (.builtin "getset_descriptor.__get__"))
 tk:PySem.W.takesIn K (.builtin "object.__class__")=some true
 mr:PySem.W.mroIn K C (.type "object")=some true
section
variable {prog:Program}{w:World}{A:Around}{E:VS}{s:Shared}
def q604{i:Nat}(a1:s.heap.IsTupleIter ia tp i)(a2:s.heap.IsTuple tp us)(a3:us[i]? = some u)
  (k:∀ h',h'.IsTupleIter ia tp (i+1)->Heap.SameBut ia s.heap h'->Q u { s with heap:=h' }):wpAny (model prog w) A (Builtin.SmallTypes.nextOf (.ref ia)) Q E s:=by
 obtain⟨o,b1,b2,b3⟩:=id a1
 obtain⟨ot,c1,_,nt,c2⟩:=a2
 unfold Builtin.SmallTypes.nextOf
 refine ZC (wpAny_callSpecial?_slot (name:=Str.ofString "__next__") a1.typeIs F.slot_tuple_iterator_next (wpAny_call_entry F.slot_tuple_iterator_next a1.typeIs F.entry_tuple_iterator_next ?_ (F.args_tuple_iterator_next_1 _)))
 show wpAny _ _ (field (.ref ia) 0 >>= _) _ _ s
 refine ZC (wpAny_field b1 b3 (x:=.ref tp) rfl ?_)
 show wpAny _ _ (if(Value.ref tp==Value.none)=true then _ else _) _ _ s
 rw[ZJ (show ¬((Value.ref tp==Value.none)=true)from fnt)]
 show wpAny _ _ (field (.ref ia) 1 >>= _) _ _ s
 refine ZC (wpAny_field b1 b3 (x:=.int i 0) rfl ?_)
 show wpAny _ _ (seqItems? (.ref tp) >>= _) _ _ s
 refine ZC (wpAny_seqItems c1 c2 ?_)
 simp only[Int.toNat_natCast,a3]
 refine ZC (wpAny_setField b1 b3 (by simp) (ZM ⟨u,rfl,ZM (k _ ?_ (Heap.SameBut.update ..))⟩))
 exact⟨_,Heap.get?_update_self _ b1 (Obj.isFreed_of_fields (Obj.data_mapFields b3 _)),(Obj.cls_mapFields ..).trans b2,by rw[Obj.data_mapFields b3];simp[rawInt]⟩
def q674{i:Nat}{Q:VS}(hh:A.handled=none)(a1:s.heap.IsTupleIter ia tp i)(a2:s.heap.IsTuple tp us)(a3:us[i]? = none)
  (k:∀ h' x,Heap.ExtBut ia s.heap h'->(∃ o,h'.get? x=some o/\o.cls = .type "StopIteration")->E (.ref x) { s with heap:=h' }):wpAny (model prog w) A (Builtin.SmallTypes.nextOf (.ref ia)) Q E s:=by
 obtain⟨o,b1,b2,b3⟩:=id a1
 obtain⟨ot,c1,_,nt,c2⟩:=a2
 unfold Builtin.SmallTypes.nextOf
 refine ZC (wpAny_callSpecial?_slot (name:=Str.ofString "__next__") a1.typeIs F.slot_tuple_iterator_next (wpAny_call_entry F.slot_tuple_iterator_next a1.typeIs F.entry_tuple_iterator_next ?_ (F.args_tuple_iterator_next_1 _)))
 show wpAny _ _ (field (.ref ia) 0 >>= _) _ _ s
 refine ZC (wpAny_field b1 b3 (x:=.ref tp) rfl ?_)
 show wpAny _ _ (if(Value.ref tp==Value.none)=true then _ else _) _ _ s
 rw[ZJ (show ¬((Value.ref tp==Value.none)=true)from fnt)]
 show wpAny _ _ (field (.ref ia) 1 >>= _) _ _ s
 refine ZC (wpAny_field b1 b3 (x:=.int i 0) rfl ?_)
 show wpAny _ _ (seqItems? (.ref tp) >>= _) _ _ s
 refine ZC (wpAny_seqItems c1 c2 ?_)
 simp only[Int.toNat_natCast,a3]
 refine ZC (wpAny_rule (ZC (wpAny_setField b1 b3 (by simp) ?_)))
 show wpAny _ _ (newExc (.type "StopIteration") [] >>= λ_=>_) _ _ _
 refine ZC ?_
 simp only[newExc,newTuple]
 refine ZC (YB ?_ (by size_fits))
 refine ZC (m:=firstArgMember _ _) (wpAny_of_eq (a:=Value.none) (by first | rfl | simp[firstArgMember]) (YB ?_ (by size_fits)))
 simp only[raiseNew]
 refine ZC (wpAny_handled ?_)
 first | rw[show A.in1.handled=none from hh] | (rw[hh];skip)
 exact ZC (ZM (wpAny_throw (k _ _ (((Heap.SameBut.update ..).extBut.push _).push _) ⟨_,ZT _ rfl,rfl⟩)))
def q605{i:Nat}{Q:Option Value->Shared->Prop}(e0:IsEnum s.heap en ia i was)(a1:s.heap.IsTupleIter ia tp i)(a2:s.heap.IsTuple tp us)(a3:us[i]? = some u)(ne:en≠ia)
  (k:∀ h',IsEnumOut h' en ia ((i:Int)+1) u s.heap.objs.size->h'.IsTupleIter ia tp (i+1)->h'.get? s.heap.objs.size=some { cls:=.type "tuple", data:=.seq #[.int i s.toks,u] } ->
   (∀ b o,b≠en->b≠ia->s.heap.get? b=some o->h'.get? b=some o)->Q (some (.ref s.heap.objs.size)) { s with heap:=h',toks:=s.toks+1 }) :
  wpAny (model prog w) A (pyNext (.ref en)) Q E s:=by
 have ty:s.TypeIs (.ref en) "enumerate" := ⟨_,e0,rfl⟩
 unfold pyNext
 refine ZC (wpAny_attempt (wpAny_callSpecial?_slot (name:=Str.ofString "__next__") ty F.slot_enumerate_next (wpAny_call_entry F.slot_enumerate_next ty F.entry_enumerate_next ?_ (F.args_enumerate_next_1 _))))
 obtain⟨h0,g,d,tk,os⟩:=s
 show wpAny _ _ (field (.ref en) 2 >>= _) _ _ _
 refine ZC (wpAny_field e0 rfl (x:=.ref ia) rfl (ZC (q604 a1 a2 a3 λh1 n1 s1=>?_)))
 replace s1:Heap.SameBut ia h0 h1:=s1
 have e1:IsEnum h1 en ia i was:=(s1.2 en ne).trans e0
 show wpAny _ _ (field (.ref en) 3 >>= _) _ _ ⟨h1,g,d,tk,os⟩
 refine ZC (wpAny_field e1 rfl (x:=rawInt i) rfl ?_)
 show wpAny _ _ (field (.ref en) 4 >>= _) _ _ ⟨h1,g,d,tk,os⟩
 refine ZC (wpAny_field e1 rfl (x:=.none) rfl ?_)
 show wpAny _ _ (mkInt i >>= _) _ _ ⟨h1,g,d,tk,os⟩
 refine ZC (wpAny_mkInt ?_)
 show wpAny _ _ (setField (.ref en) 3 (rawInt ((i:Int)+1)) >>= _) _ _ ⟨h1,g,d,tk+1,os⟩
 refine ZC (YQ e1 (by simp) λh2 e2 s2=>?_)
 replace s2:Heap.SameBut en h1 h2:=s2
 replace e2:IsEnum h2 en ia ((i:Int)+1) was:=e2
 show wpAny _ _ (setField (.ref en) 4 .none >>= _) _ _ ⟨h2,g,d,tk+1,os⟩
 refine ZC (YQ e2 (by simp) λh3 e3 s3=>?_)
 replace s3:Heap.SameBut en h2 h3:=s3
 replace e3:IsEnum h3 en ia ((i:Int)+1) was:=e3
 show wpAny _ _ (newTuple [.int i tk,u] >>= _) _ _ ⟨h3,g,d,tk+1,os⟩
 refine ZC (wpAny_newTuple ?_)
 have z3:h3.objs.size=h0.objs.size:=by rw[s3.1,s2.1,s1.1]
 have l0:en<h0.objs.size:=ZW e0
 have ni:ia≠en:=Ne.symm ne
 generalize hh4:h3.push { cls:=.type "tuple", data:=.seq #[.int i tk,u] }=h4
 have e4:IsEnum h4 en ia ((i:Int)+1) was:=by rw[<- hh4];exact ZE _ e3
 have t4:h4.get? h0.objs.size=some { cls:=.type "tuple", data:=.seq #[.int i tk,u] }:=by rw[<- hh4,<- z3];exact ZT _ rfl
 have k4:∀ b o,b≠en->b≠ia->h0.get? b=some o->h4.get? b=some o:=λb o m1 m2 q=>by
  rw[<- hh4]
  exact ZE _ (s3.extBut b o m1 (s2.extBut b o m1 (s1.extBut b o m2 q)))
 have n4:h4.IsTupleIter ia tp (i+1):=by
  rw[<- hh4]
  obtain⟨o,q,r⟩:=(n1.extBut s2.extBut ni).extBut s3.extBut ni
  exact⟨o,ZE _ q,r⟩
 show wpAny _ _ (Builtin.SmallTypes.ownedTupleIsFree (.ref en) >>= _) _ _ ⟨h4,g,d,tk+1,os⟩
 rw[z3]
 clear hh4
 refine ZC ?_
 unfold Builtin.SmallTypes.ownedTupleIsFree
 refine ZC (wpAny_field e4 rfl (x:=.none) rfl (ZM ?_))
 simp only[if_true]
 refine ZC (wpAny_rule (ZC (wpAny_field e4 rfl (x:=was) rfl (ZC (YQ e4 (by simp) λh5 e5 s5=>?_)))))
 replace s5:Heap.SameBut en h4 h5:=s5
 replace e5:IsEnum h5 en ia ((i:Int)+1) u:=e5
 show wpAny _ _ (Builtin.SmallTypes.ownedTupleHandOut (.ref en) (.ref h0.objs.size) >>= _) _ _ ⟨h5,g,d,tk+1,os⟩
 refine ZC ?_
 unfold Builtin.SmallTypes.ownedTupleHandOut
 refine ZC (YQ e5 (by simp) λh6 e6 s6=>?_)
 replace s6:Heap.SameBut en h5 h6:=s6
 replace e6:IsEnumOut h6 en ia ((i:Int)+1) u h0.objs.size:=e6
 refine YQ e6 (by simp) λh7 e7 s7=>?_
 replace s7:Heap.SameBut en h6 h7:=s7
 replace e7:IsEnumOut h7 en ia ((i:Int)+1) u h0.objs.size:=e7
 have up:∀ b o,b≠en->h4.get? b=some o->h7.get? b=some o:=λb o m q=>s7.extBut b o m (s6.extBut b o m (s5.extBut b o m q))
 refine ZC (wpAny_letGo (ZM ⟨_,rfl,ZM (k h7 e7 ?_ (up _ _ (Nat.ne_of_gt l0) t4) λb o m1 m2 q=>up b o m1 (k4 b o m1 m2 q))⟩))
 obtain⟨o,q,r⟩:=n4
 exact⟨o,up _ _ ni q,r⟩
def q675{i:Nat}(hh:A.handled=none)(e0:IsEnum s.heap en ia i was)(a1:s.heap.IsTupleIter ia tp i)(a2:s.heap.IsTuple tp us)(a3:us[i]? = none)
  (k:∀ h',Heap.ExtBut ia s.heap h'->Q none { s with heap:=h' }):wpAny (model prog w) A (pyNext (.ref en)) Q E s:=by
 have ty:s.TypeIs (.ref en) "enumerate" := ⟨_,e0,rfl⟩
 unfold pyNext
 refine ZC (wpAny_attempt (wpAny_callSpecial?_slot (name:=Str.ofString "__next__") ty F.slot_enumerate_next (wpAny_call_entry F.slot_enumerate_next ty F.entry_enumerate_next ?_ (F.args_enumerate_next_1 _))))
 show wpAny _ _ (field (.ref en) 2 >>= _) _ _ _
 refine ZC (wpAny_field e0 rfl (x:=.ref ia) rfl (ZC (q674 hh a1 a2 a3 λh' x q1 q2=>?_)))
 obtain⟨o,o1,o2⟩:=q2
 exact ZC (wpAny_isInstance (T := "StopIteration") (b:=true) ⟨o,o1,o2⟩ isSubtype_stop (ZM (k _ q1)))
end
noncomputable def Ite(K:Fg)(a:Addr):It:=
 ⟨λi H=>∃ xs x,SqT K H a xs/\xs[i]? = some x,λi H x H'=>∃ p y,x = .ref p/\H p=none/\H'=upd H p (.tup [.int i,y]) /\ ∀ xs,SqT K H a xs->xs[i]? = some y,λi H=>∃ xs,SqT K H a xs/\xs.length<=i⟩
def q676:2<=sizeLine:=szb rfl
def q606{P:Program}{w:World}{K:Fg}{es:List Expr}{x1:Nat}{pos:Pos}(a en ia:Addr)(ne:en≠ia) :
  Turn P w K (.Tuple es x1 pos) (Ite K a) [en,ia] en (λi h=>(∃ was,IsEnum h en ia (i:Nat) was)/\h.IsTupleIter ia a i) where
 mem:=by simp
 obj:=λi h st b hb=>by
  obtain⟨⟨was,q1⟩,o,q2,q3,q4⟩:=st
  rcases eB hb with z | z
  ·subst z
   exact⟨_,q1,λv y=>by cases y⟩
  ·have z':b=ia:=by simpa using z
   subst z'
   exact⟨o,q2,λv y=>by rw[q4]at y;cases y⟩
 keep:=λi h h' st k=>by
  obtain⟨⟨was,q1⟩,o,q2,q3⟩:=st
  exact⟨⟨was,k en (by simp) _ q1⟩,o,k ia (by simp) _ q2,q3⟩
 item:=by
  intro X hP hw hK hc i pins s σ H E I hf st hg
  subst hP hw hK
  obtain⟨⟨was,q1⟩,q2⟩:=st
  obtain⟨xs,x,hq,hx⟩:=hg
  obtain⟨its,rv,p,hz⟩:=I.tuple hq
  obtain⟨u,hu,ru⟩:=rv.get hx
  refine q605 q1 q2 (show s.heap.IsTuple a its.toArray from p) (u:=u) (by simpa using hu) ne λh1 e1 n1 t1 k1=>⟨_,rfl,?_⟩
  refine wpAny_letOwnedTupleGo_enum e1 λh2 e2 s2=>?_
  replace s2:Heap.SameBut en h1 h2:=s2
  have len:en<s.heap.objs.size:=ZW q1
  have t2:h2.get? s.heap.objs.size=some { cls:=.type "tuple", data:=.seq #[.int i s.toks,u] }:=(s2.2 _ (Nat.ne_of_gt len)).trans t1
  have kk:∀ b o,b≠en->b≠ia->s.heap.get? b=some o->h2.get? b=some o:=λb o m1 m2 q=>(s2.2 b m1).trans (k1 b o m1 m2 q)
  have fr:H s.heap.objs.size=none:=I.hok.fresh (ZH _)
  have f1:=hf en (by simp)
  have f2:=hf ia (by simp)
  have neq:∀ b,H b≠none->b≠en/\b≠ia:=λb m=>⟨λz=>m (z▸f1.1),λz=>m (z▸f2.1)⟩
  have un:Un (frs X.stack) [en,ia] H (upd H s.heap.objs.size (.tup [.int i,x])) s.heap h2:=by
   have nn:∀ b,b ∉ [en,ia]->b≠en/\b≠ia:=λb m=>⟨λz=>m (by simp[z]),λz=>m (by simp[z])⟩
   have np:∀ b o,s.heap.get? b=some o->b≠s.heap.objs.size:=λb o q=>WE (ZW q)
   exact⟨λb o q _ _ m=>kk b o (nn b m).1 (nn b m).2 q,λb o q _ _ m=>⟨o.slots,kk b o (nn b m).1 (nn b m).2 q⟩,λb o q m _=>by rw[q27 (np b o q)];exact m,λb o q m=>⟨o,kk b o (nn b m).1 (nn b m).2 q⟩,
    λb ys q=>by rw[q27 (q25 q fr)];exact q,λb o v q=>by rw[q27 (q25 q fr)];exact q,λb ps q=>⟨#[],by rw[q27 (q25 q fr),q];simp⟩⟩
  have hok:HOk X.prog X.w (upd H s.heap.objs.size (.tup [.int i,x])) h2:=λb ob e=>by
   by_cases hb:b=s.heap.objs.size
   ·subst hb
    rw[q12]at e
    cases e
    exact⟨q676,[.int i s.toks,u],.cons ⟨_,rfl⟩ (.cons ru .nil),⟨_,t2,rfl,_,rfl⟩⟩
   ·rw[q27 hb]at e
    refine(I.hok b ob e).stay (λc v z q=>?_) (λc q=>by rw[q27 (q25 q fr)];exact q) λc ys q=>by rw[q27 (q25 q fr)];exact q
    have m:H c≠none:=by
     rcases z with rfl | z
     ·rw[e];exact λy=>nomatch y
     ·rw[z];exact λy=>nomatch y
    exact kk c v (neq c m).1 (neq c m).2 q
  have J:Inv X pins σ (upd H s.heap.objs.size (.tup [.int i,x])) { s with heap:=h2,toks:=s.toks+1 }:=by
   refine I.call' (s':={ s with heap:=h2,toks:=s.toks+1 }) (ch:=[en,ia]) rfl un hok I.bare λb hb=>?_
   rcases eB hb with z | z
   ·subst z
    exact⟨f1.2.2.2.1,f1.2.1,f1.2.2.2.2.1,f1.2.2.2.2.2⟩
   ·have z':b=ia:=by simpa using z
    subst z'
    exact⟨f2.2.2.2.1,f2.2.1,f2.2.2.2.2.1,f2.2.2.2.2.2⟩
  refine⟨.ref s.heap.objs.size,_,J,rfl,⟨s.heap.objs.size,x,rfl,fr,rfl,λys hy=>by rw[I.tuple_inj hy hq];exact hx⟩,⟨⟨u,?_⟩,?_⟩,λb hb=>?_⟩
  ·have:((i+1:Nat):Int)=(i:Int)+1:={}
   rw[this]
   exact e2
  ·obtain⟨o,q,r⟩:=n1
   exact⟨o,(s2.2 ia (Ne.symm ne)).trans q,r⟩
  ·have hb':b=en\/b=ia:=by simpa using hb
   have lb:b<s.heap.objs.size:=by
    rcases hb' with z | z
    ·rw[z];exact len
    ·obtain⟨o,q,_⟩:=q2
     rw[z];exact ZW q
   rw[q27 (WE lb)]
   exact(hf b hb).1
 done:=by
  intro X hP hw hK hc i pins s σ H E I hf st hg
  subst hP hw hK
  obtain⟨⟨was,q1⟩,q2⟩:=st
  obtain⟨xs,hq,hx⟩:=hg
  obtain⟨its,rv,p,hz⟩:=I.tuple hq
  obtain⟨f0,f1,f2,f3,f4,f5⟩:=hf ia (by simp)
  have hl:=rv.length
  exact q675 (I.ok.hd hc) q1 q2 (show s.heap.IsTuple a its.toArray from p) (by simp;lia) λh' eb=>⟨rfl,I.turned (t':=s.toks) (λb o hb e=>eb b o hb e) f0 f1 f3 f4 f5⟩
 self:=λ_ _ _ _ _ st h=>by
  obtain⟨⟨was,q1⟩,_⟩:=st
  exact wpAny_pyIter_enum q1 h
def q677(tp:Addr)(us:Array Value)(n:Nat)(dct:Option Addr)(sl:Array (Option Value)) :
  Meets (Builtin.«enumerate.__new__» ⟨[.type "enumerate", .ref tp],[]⟩) (λ_ R s=>s.heap.get? tp=some { cls:=.type "tuple", dict:=dct,data:=.seq us n,slots:=sl } /\
   R (.ok (.ret (.ref (s.heap.push { cls:=.type "tuple_iterator", data:=.fields #[.ref tp,.int 0 0] }).objs.size)))
    { s with heap:=(s.heap.push { cls:=.type "tuple_iterator", data:=.fields #[.ref tp,.int 0 0] }).push { cls:=.type "enumerate", data:=.fields #[.none,.bool false,.ref s.heap.objs.size,rawInt 0,.none,.none] } }):=
 .of_wp λprog w A R s z=>by
  obtain⟨hp,g,d,tk,os⟩:=s
  obtain⟨z1,z2⟩:=z
  have sb:=sub_enumerate
  have T:Heap.IsTuple (Shared.heap ⟨hp,g,d,tk,os⟩) tp us:=⟨_,z1,rfl,n,rfl⟩
  wp_walk using AutoSeq1.wpAny_loadPart' z1
  refine wpAny_stack_any λst=>ZM ?_
  split
  ·rename_i c _ _ _ _ _
   cases(c==Value.type "enumerate")
   all_goals
    wp_walk using AutoSeq1.wpAny_loadPart' z1,wpAny_pyIter_tuple T
    exact⟨_,rfl,z2⟩
  ·wp_walk using AutoSeq1.wpAny_loadPart' z1,wpAny_pyIter_tuple T
   exact⟨_,rfl,z2⟩
section
variable {prog:Program}{w:World}{A:Around}{E:VS}{s:Shared}
def q607(T:s.heap.IsTuple tp us)
  (k:∀ h',IsEnum h' (s.heap.objs.size+1) s.heap.objs.size 0 .none->h'.IsTupleIter s.heap.objs.size tp 0->(∀ b o,s.heap.get? b=some o->h'.get? b=some o)->Q (.ref (s.heap.objs.size+1)) { s with heap:=h' }) :
  wpAny (model prog w) A (call (.type "enumerate") [.ref tp]) Q E s:=by
 obtain⟨⟨c,dct,dt,sl⟩,z1,z2,n,z3⟩:=T
 simp only at z2 z3
 subst z2 z3
 refine callType_new F.called_enumerate ∅ (F.typeCall_enumerate_1 _) (F.newCall_enumerate_1 _) (λobj=>F.args_object_init_2 obj _) F.entry_enumerate_new (q677 tp us n dct sl) ⟨z1,?_⟩
 generalize ho:({ cls:=.type "tuple_iterator", data:=.fields #[.ref tp,.int 0 0] }:Obj)=o1
 have y1:(s.heap.push o1).objs.size=s.heap.objs.size+1:=Heap.size_push ..
 have y2:∀ o2:Obj,o2.isFreed=false->((s.heap.push o1).push o2).get? (s.heap.objs.size+1)=some o2:=λo2 f=>by
  have:=ZT (s.heap.push o1) (o:=o2) f
  rwa [y1]at this
 show _/\_
 rw[y1]
 have y3:=y2 { cls:=.type "enumerate", data:=.fields #[.none,.bool false,.ref s.heap.objs.size,rawInt 0,.none,.none] } rfl
 refine⟨⟨_,y3,rfl⟩,k _ y3 ⟨o1,ZE _ (ZT _ (by rw[<- ho];rfl)),by rw[<- ho],by rw[<- ho];rfl⟩ λb o q=>ZE _ (ZE _ q)⟩
end
section
variable {es:List Expr}{x1:Nat}{tpos:Pos}
noncomputable def iEnum(K:Fg)(ta:TA):TI:=λσ H R=>ta σ H λvs H1=>∃ a,vs=[.ref a]/\(∃ xs,SqT K H1 a xs)/\R (Ite K a) H1
def pi_enum{l:Expr}{ta:TA}{p pos:Pos}(hg:Gl X "enumerate") (hm:X.mg "enumerate" = none) (ha:PA X [l] ta) (hs:starEach [l] X.env=[(false,eval l X.env)]:=by rfl) :
  PI X (.Tuple es x1 tpos) (.Call (.Name "enumerate" p) [l] [] pos) (iEnum X.K ta):=by
 intro pins s σ H R I h
 refine Call_ (q367 I hg hm boot_enumerate (PyProof.Rows.callWith_type1 (thn (ha pos pins s σ H _ I h) λus s1 ⟨vs,H1,I1,r1,q1⟩=>?_) hs rfl))
 obtain⟨a,e,⟨xs,hq⟩,q⟩:=q1
 subst e
 cases r1 with
 | cons r rr=>
  cases rr
  cases r
  obtain⟨its,rv,p,hz⟩:=I1.tuple hq
  refine q607 (show s1.heap.IsTuple a its.toArray from p) λh' e1 e2 k=>wpAny_pyIter_enum e1 ?_
  have I2:Inv X pins σ H1 { s1 with heap:=h' }:=I1.kept (t':=s1.toks) k
  refine⟨s1.heap.objs.size+1,[s1.heap.objs.size+1,s1.heap.objs.size],_,_,H1,rfl,I2,q606 a _ _ (Nat.succ_ne_self _),⟨⟨_,e1⟩,e2⟩,λb hb=>?_,q⟩
  have hb':s1.heap.objs.size<=b:=by
   have z:b=s1.heap.objs.size+1\/b=s1.heap.objs.size:=by simpa using hb
   rcases z with z | z
   ·rw[z];exact Nat.le_succ _
   ·rw[z];exact ZH _
  exact I1.fpOk hb' (I1.hok.fresh hb')
def for_enum{K:Fg}{a:Addr}{xs:List V}{g:TG}{tb:TS}{D:Ends}{σ:St}{H:Hp}(Pv:Nat->St->Hp->Prop)(h0:Pv 0 σ H)(hl:∀ i σ H,i<=xs.length->Pv i σ H->SqT K H a xs)
  (hs:∀ i x σ H p,xs[i]? = some x->Pv i σ H->H p=none->g (.ref p) σ (upd H p (.tup [.int i,x])) λσ2 H2=>tb { D with nx:=Pv (i+1),ct:=Pv (i+1),bk:=D.nx } σ2 H2) (hd:∀ σ H,Pv xs.length σ H->D.nx σ H) :
  ∃ W:Nat->Nat->St->Hp->Prop,(∃ m,W 0 m σ H) /\ ∀ i m σ H,W i m σ H ->
   ((Ite K a).stop i H/\D.nx σ H)\/((Ite K a).go i H /\ ∃ N:St->Hp->Prop,(∀ σ' H',N σ' H' -> ∃ m',m'<m/\W (i+1) m' σ' H') /\ ∀ x H',(Ite K a).yld i H x H'->g x σ H' λσ2 H2=>tb { D with nx:=N,ct:=N,bk:=D.nx } σ2 H2):=by
 exists λi m σ H=>m=xs.length-i/\i<=xs.length/\Pv i σ H,⟨xs.length,by simp,WA _,h0⟩
 rintro i m σ H ⟨rfl,hi,p⟩
 have q:=hl i σ H hi p
 by_cases hlt:i<xs.length
 ·refine .inr ⟨⟨xs,xs[i],q,by simp[hlt]⟩,Pv (i+1),λσ' H' p'=>⟨xs.length-(i+1),{},rfl,hlt,p'⟩,λx H' y=>?_⟩
  obtain⟨pp,yv,rfl,e2,rfl,y⟩:=y
  exact hs i yv σ _ pp (y xs q) p e2
 ·have e:i=xs.length:={}
  subst e
  exact .inl ⟨⟨xs,q,ZH _⟩,hd σ H p⟩
end
structure CalX(P:Program)(w:World)(K:Fg)(mg:Mg)(base:Heap)(k:Nat)(x:Str)(ps:List Str)(sp:Sp):Prop where
 ex:∃(f:Addr)(fd:FuncData),FnOk P w K mg base (CX1 P w) k f fd ps sp/\Binds K fd ps []/\PySem.W.keepIn K (.ref f)=true/\mg x=some (.ref f)
open PySem.Builtin.ObjectAttr in
structure XFld(K:Fg)(C:Addr)(f:Str):Prop where
 sa:PySem.W.findIn K (.ref C) "__setattr__" = some (some (.builtin "object.__setattr__"))
 na:PySem.W.findIn K (.ref C) f=some none
 hd:PySem.W.hasDictIn K C=true
noncomputable def q678(wi:TI)(tt:TT)(te:TE)(fr:List Nat):TE:=λσ H Q=>wi σ H λJ H1=>∀ D,H1 D=none -> ∃ W:Nat->Nat->List V->Hp->Prop,(∃ m,W 0 m [] (upd H1 D (.lst []))) /\
 ∀ i m ys H2,W i m ys H2->H2 D=some (.lst ys)/\((J.stop i H2/\Q (.ref D) H2)\/(J.go i H2/\ys.length<sizeLine /\ ∃ N:V->Hp->Prop,(∀ y H3,N y H3->H3 D=some (.lst ys) /\ ∃ m',m'<m/\W (i+1) m' (ys++[y]) (upd H3 D (.lst (ys++[y])))) /\
  ∀ x H',J.yld i H2 x H'->tt (some x::fr.map λj=>(σ[j]?).getD none) H' λb H3=>if b=true then te (some x::fr.map λj=>(σ[j]?).getD none) H3 N else ∃ m',m'<m/\W (i+1) m' ys H3))
theorem q301{X:Cx}{elt itr cc:Expr}{x:Str}{px pos:Pos}{scope sc0:Scope}{cl:List (Str×Addr)}{cn N:List Str}{fr:List Nat}{tt:TT}{te:TE}{pins:List (Addr×Obj)}{σ:St}{H2:Hp}{s2:Shared}{it:Addr}{fp:List Addr}
  {tn:Nat->Heap->Prop} {J:It} {RR:Value->Addr->Result->Shared->Prop} {R:Hp->Prop} {E:VS} {W:Nat->Nat->List V->Hp->Prop} {m0:Nat}
  (hc:X.calm=true) (he:∀(C:Addr)(s₂:Shared)(H₂:Hp)(fp:List Addr),PE (q50 X scope cl C x N s₂ H₂ fp) elt te) (hct:∀(C:Addr)(s₂:Shared)(H₂:Hp)(fp:List Addr),PT (q50 X scope cl C x N s₂ H₂ fp) cc tt)
  (hcl:q88 X.env cl) (hcn:cl.map (·.1)=cn) (hsc:X.env.scope=sc0) (hk:scope.kind = .function) (hok:CompOk scope sc0 x N cn) (hfr:fr.map (λj=>X.N[j]?)=N.map some)
  (I2:Inv X pins σ H2 s2) (T:Turn X.prog X.w X.K (.Name x px) J fp it tn) (st2:tn 0 s2.heap) (f2:∀ b∈fp,FpOk X pins H2 b)
  (w0:W 0 m0 [] (upd H2 s2.heap.objs.size (.lst [])))
  (turn:∀ i m ys H,W i m ys H->H s2.heap.objs.size=some (.lst ys)/\((J.stop i H/\R H)\/(J.go i H/\ys.length<sizeLine /\ ∃ N:V->Hp->Prop,
   (∀ y H3,N y H3->H3 s2.heap.objs.size=some (.lst ys) /\ ∃ m',m'<m/\W (i+1) m' (ys++[y]) (upd H3 s2.heap.objs.size (.lst (ys++[y])))) /\
   ∀ x H',J.yld i H x H'->tt (some x::fr.map λj=>(σ[j]?).getD none) H' λb H3=>if b=true then te (some x::fr.map λj=>(σ[j]?).getD none) H3 N else ∃ m',m'<m/\W (i+1) m' ys H3)))
  (hRR:∀(C:Addr)(H6:Hp)(s6:Shared)(m6:Mg),s6.heap.Ns C m6->Inv X pins σ H6 s6->FpOk X pins H6 C->R H6->RR (.ref s2.heap.objs.size) C (.ok .next) s6) :
  wpAny (model X.prog X.w) X.A (newList []) (λacc s₃=>wpAny (model X.prog X.w) X.A (newFunctionEnv scope X.env.globals cl [] X.env.qual none .none (some X.env)) (λcenv s₄=>
   codeAny (model X.prog X.w) X.A (.compStart (.ListComp elt [⟨.Name x px,itr,[cc],0⟩] scope pos) 0 (.ref it) acc { cenv with scope:=relabel scope X.env }) (RR acc cenv.locals) s₄) E s₃) E s2:=by
 refine q231 (TN:=[]) (gt:=gName 0) (tt:=tt) hc he (λC s h f=>q668 (hct C s h f)) (λ_ _ _ _=>q100 hok.nd rfl (.inl ?_) (.inr ?_)) hcl hcn hsc hk ⟨hok.has,hok.nc,hok.names,hok.frs⟩ hfr I2 T st2 f2 w0 (λi m ys H h=>?_) hRR
 ·exact q401 hsc hok.hx'
 ·exact q401 hsc hok.hx'
 obtain⟨a,b⟩:=turn i m ys H h
 exists a
 rcases b with b | ⟨g,l,N,h1,h2⟩
 ·exact .inl b
 refine .inr ⟨g,l,N,λH3=>∃ m',m'<m/\W (i+1) m' ys H3,h1,λ_ z=>z,λx H' y vs hv=>?_⟩
 match vs,hv with
 | [v0],_=>exact⟨⟨[some x],rfl,rfl⟩,h2 x H' y⟩
def q51{X:Cx}{elt itr cc:Expr}{x:Str}{px pos:Pos}{scope sc0:Scope}{cl:List (Str×Addr)}{cn N:List Str}{fr:List Nat}{wi:TI}{tt:TT}{te:TE}
  (hc:X.calm=true) (hi:PI X (.Name x px) itr wi) (he:∀(C:Addr)(s₂:Shared)(H₂:Hp)(fp:List Addr),PE (q50 X scope cl C x N s₂ H₂ fp) elt te) (hct:∀(C:Addr)(s₂:Shared)(H₂:Hp)(fp:List Addr),PT (q50 X scope cl C x N s₂ H₂ fp) cc tt)
  (hclos:closureFor scope X.env=pure cl) (hcl:q88 X.env cl) (hcn:cl.map (·.1)=cn) (hsc:X.env.scope=sc0) (hk:scope.kind = .function) (hok:CompOk scope sc0 x N cn)
  (hfr:fr.map (λj=>X.N[j]?)=N.map some) (hs:∀ v,foldedSetIterable itr X.env v=pure v:=by intro _;rfl) :
  PE X (.ListComp elt [⟨.Name x px,itr,[cc],0⟩] scope pos) (q678 wi tt te fr):=by
 intro pins s σ H Q I h
 rw[eval_ListComp]
 refine wpAny_comprehension_free (use:=none) rfl hs hclos hk hok.names (thn (hi pins s σ H _ I h) λv s1 h1=>thn h1 λitv s2 h2=>?_)
 obtain⟨it,fp,tn,J,H2,e,I2,T,st2,f2,hq⟩:=h2
 subst e
 obtain⟨W,⟨m0,w0⟩,turn⟩:=hq s2.heap.objs.size (I2.hok.fresh (ZH _))
 exact q301 (RR:=λacc C=>compPost (model X.prog X.w) X.A X.xe none (EP X pins σ Q) acc C) (R:=λH6=>Q (.ref s2.heap.objs.size) H6) hc he hct hcl hcn hsc hk hok hfr I2 T st2 f2 w0 turn
  λC H6 s6 m6 hn I6 F6 q=>⟨m6,hn,λh' sb=>⟨.ref s2.heap.objs.size,H6,I6.let_go F6 sb,rfl,q⟩⟩
noncomputable def q608(i:Nat)(wi:TI)(tt:TT)(te:TE)(fr:List Nat):TS:=λD σ H=>q678 wi tt te fr σ H λv H1=>D.nx (σ.set i (some v)) H1
def q447{X:Cx}{i:Nat}{spos:Pos}{scope:Scope}{cl:List (Str×Addr)}{N:List Str}{fr:List Nat}
  (hN:X.N.Nodup) (hiN:X.N[i]? = some y) (hy:Loc X.env.scope y)
  (hc:X.calm=true) (hi:PI X (.Name x px) itr wi) (he:∀(C:Addr)(s₂:Shared)(H₂:Hp)(fp:List Addr),PE (q50 X scope cl C x N s₂ H₂ fp) elt te) (hct:∀(C:Addr)(s₂:Shared)(H₂:Hp)(fp:List Addr),PT (q50 X scope cl C x N s₂ H₂ fp) cc tt)
  (hclos:closureFor scope X.env=pure cl) (hcl:q88 X.env cl) (hcn:cl.map (·.1)=cn) (hsc:X.env.scope=sc0) (hk:scope.kind = .function) (hok:CompOk scope sc0 x N cn)
  (hfr:fr.map (λj=>X.N[j]?)=N.map some) (hsw:swapsWith (.ListComp elt [⟨.Name x px,itr,[cc],0⟩] scope pos) (some (.Name y py)) spos.line X.env=pure true)
  (hf:X.fn y=true\/X.env.scope.names.lookup y=some .local) (hs:∀ v,foldedSetIterable itr X.env v=pure v:=by intro _;rfl) :
  PS X (.Assign [.Name y py] (.ListComp elt [⟨.Name x px,itr,[cc],0⟩] scope pos) spos) (q608 i wi tt te fr):=by
 intro pins s σ H D I h
 rw[exec_Assign_Name_used _ _ _ _ hsw]
 refine ZC (wpAny_standAt (ZC ?_))
 show wpAny _ X.A (do let _ <- comprehension (.ListComp elt [⟨.Name x px,itr,[cc],0⟩] scope pos) scope X.env _ (newList []) false (eval itr X.env) (some (assign (.Name y py) X.env))) _ _ s
 refine ZC (YJ (wpAny_comprehension_free (use:=some (assign (.Name y py) X.env)) (Q:=λ_ s'=>SP X pins D .next s') rfl hs hclos hk hok.names
  (thn (hi pins s σ H _ I h) λv s1 h1=>thn h1 λitv s2 h2=>?_)) (λ_ s' hq=>ZM (ZM hq)) λ_ _ e=>e)
 obtain⟨it,fp,tn,J,H2,e,I2,T,st2,f2,hq⟩:=h2
 subst e
 obtain⟨W,⟨m0,w0⟩,turn⟩:=hq s2.heap.objs.size (I2.hok.fresh (ZH _))
 refine q301 (RR:=λacc C=>compPost (model X.prog X.w) X.A X.xe (some (assign (.Name y py) X.env)) (λ_ s'=>SP X pins D .next s') acc C) (R:=λH6=>D.nx (σ.set i (some (.ref s2.heap.objs.size))) H6) hc he hct hcl hcn hsc hk hok hfr I2 T st2 f2 w0 turn
  λC H6 s6 m6 hn I6 F6 q=>?_
 show wpAny _ X.A (assign (.Name y py) X.env (.ref s2.heap.objs.size)) _ _ _
 refine wpAny_assign_Name (q293 (v:=.ref s2.heap.objs.size) I6 hN hiN hy rfl (λs7 I7 ⟨a,sb,ha⟩=>?_) hf)
 have neC:C≠a:=by
  rcases ha with ha | ha
  ·rw[ha];exact F6.2.1
  ·exact Ne.symm (F6.2.2.2.2.1 y a ha)
 exact⟨m6,hn.sameBut sb neC,λh' sb'=>⟨_,H6,I7.let_go F6 sb',q⟩⟩
def q302{K:Fg}{a:Addr}{xs:List V}{p:V->Bool}{g:V->V}{Tt:V->Hp->(Bool->Hp->Prop)->Prop}{Te:V->Hp->(V->Hp->Prop)->Prop}{D:Addr}{H1:Hp}{R:Hp->Prop}
  (ha:SqL K H1 a xs) (hD:H1 D=none) (hn:xs.length<=sizeLine) (hT:∀ x∈xs,∀(H:Hp)(Q:Bool->Hp->Prop),Same H1 H->Q (p x) H->Tt x H Q) (hE:∀ x∈xs,p x=true -> ∀(H:Hp)(Q:V->Hp->Prop),Same H1 H->Q (g x) H->Te x H Q)
  (hR:R (upd H1 D (.lst ((xs.filter p).map g)))) :
  ∃ W:Nat->Nat->List V->Hp->Prop,(∃ m,W 0 m [] (upd H1 D (.lst []))) /\
   ∀ i m ys H2,W i m ys H2->H2 D=some (.lst ys)/\(((Itl K a).stop i H2/\R H2)\/((Itl K a).go i H2/\ys.length<sizeLine /\ ∃ N:V->Hp->Prop,(∀ y H3,N y H3->H3 D=some (.lst ys) /\ ∃ m',m'<m/\W (i+1) m' (ys++[y]) (upd H3 D (.lst (ys++[y])))) /\
    ∀ x H',(Itl K a).yld i H2 x H'->Tt x H' λb H3=>if b=true then Te x H3 N else ∃ m',m'<m/\W (i+1) m' ys H3)):=by
 exists λi m ys H=>m=xs.length-i/\i<=xs.length/\ys=((xs.take i).filter p).map g/\H=upd H1 D (.lst ys),⟨xs.length,by simp,WA _,by simp,rfl⟩
 rintro i m ys H2 ⟨rfl,hi,hy,rfl⟩
 have sm:=q15 hD (.lst ys)
 have q:=sm.seq ha
 have hyl:ys.length<=i:=by
  rw[hy,ZN]
  exact ZQ (YC _ _) (by rw[length_take];exact Nat.min_le_left _ _)
 exists q12
 by_cases hlt:i<xs.length
 ·refine .inr ⟨⟨xs,xs[i],q,by simp[hlt]⟩,{},λy H3=>H3=upd H1 D (.lst ys)/\y=g xs[i]/\p xs[i]=true,λy H3 ⟨z1,z2,z3⟩=>⟨by rw[z1];exact q12,xs.length-(i+1),(W1 hlt),rfl,hlt,?eq,by rw[z1,q85]⟩,λx H' y=>?st⟩
  case eq=>
   rw[take_succ_eq_append_getElem hlt,filter_append,WS,<- hy,z2]
   simp[z3]
  case st=>
   obtain⟨e,y⟩:=y
   subst e
   have hx:xs[i]? = some x:=y xs q
   have hx':xs[i]=x:=by simpa [hlt] using hx
   have hm:x∈xs:=by rw[<- hx'];exact getElem_mem hlt
   refine hT x hm _ _ sm ?_
   by_cases hp:p x=true
   ·rw[ZL hp]
    exact hE x hm hp _ _ sm ⟨rfl,by rw[hx'],by rw[hx'];exact hp⟩
   ·rw[ZJ hp]
    refine⟨xs.length-(i+1),{},rfl,hlt,?_,rfl⟩
    rw[take_succ_eq_append_getElem hlt,filter_append,WS,<- hy,hx']
    simp[hp]
 ·have e:i=xs.length:=(W42 hi hlt)
  subst e
  refine .inl ⟨⟨xs,q,ZH _⟩,?_⟩
  rw[hy,YF]
  exact hR
section
variable {P:Program}{w:World}{K:Fg}{mg:Mg}{base:Heap}
def prevSp(sp:Nat->Sp):Nat->Sp
 | 0=>λ_ _ _ _=>False
 | e+1=>sp e
def Def.recur{sp:Nat->Sp}{x:Str}{st:Stmt}{ps:List Str}(d:Def K mg x st ps){k:Nat}(n:Nat)
  (step:∀ e,e<=n->Cal P w K mg base (e+k) x ps (prevSp sp e) -> ∀(f:Addr)(fd:FuncData),Fun K x x st f fd->FnOk P w K mg base CX0 (e+(k+1)) f fd ps (sp e)) :
  Cal P w K mg base (n+(k+1)) x ps (λvs H Q E=>∃ e,e<=n/\sp e vs H Q E):=by
 obtain⟨f,fd,h1,h2,h3⟩:=d.ex
 have all:∀ e,e<=n->FnOk P w K mg base CX0 (e+(k+1)) f fd ps (sp e):=by
  intro e
  induction e with
  | zero=>exact λhe=>step 0 he ⟨f,fd,⟨λ_ _ _ _ h=>h.elim,λ_ _ _ _ _ _ _ _ _ _ _ _ _ h=>h.elim⟩,.all h2,h1.kp,h3⟩ f fd h1
  | succ e ih=>exact λhe=>step (e+1) he ⟨f,fd,(ih (W86 he)).mono {},.all h2,h1.kp,h3⟩ f fd h1
 refine⟨f,fd,⟨?_,?_⟩,.all h2,h1.kp,h3⟩
 ·rintro vs H Q E ⟨e,he,h⟩
  exact(all e he).len vs H Q E h
 ·rintro A outer s H args us vs Q E hr he hb hv ⟨e,hle,h⟩
  exact(all e hle).run A outer s H args us vs Q E (hr.mono {}) he hb hv h
end
def q609{K:Fg}{a:Addr}{xs:List V}{g:V->V}{Te:V->Hp->(V->Hp->Prop)->Prop}{D:Addr}{H1:Hp}{R:Hp->Prop}
  (ha:SqL K H1 a xs) (hD:H1 D=none) (hn:xs.length<=sizeLine) (hE:∀ x∈xs,∀(H:Hp)(Q:V->Hp->Prop),Same H1 H->Q (g x) H->Te x H Q) (hR:R (upd H1 D (.lst (xs.map g)))) :
  ∃ W:Nat->Nat->List V->Hp->Prop,(∃ m,W 0 m [] (upd H1 D (.lst []))) /\
   ∀ i m ys H2,W i m ys H2->H2 D=some (.lst ys)/\(((Itl K a).stop i H2/\R H2)\/((Itl K a).go i H2/\ys.length<sizeLine /\ ∃ N:V->Hp->Prop,(∀ y H3,N y H3->H3 D=some (.lst ys) /\ ∃ m',m'<m/\W (i+1) m' (ys++[y]) (upd H3 D (.lst (ys++[y])))) /\
    ∀ x H',(Itl K a).yld i H2 x H'->Te x H' N)):=by
 exists λi m ys H=>m=xs.length-i/\i<=xs.length/\ys=(xs.take i).map g/\H=upd H1 D (.lst ys),⟨xs.length,by simp,WA _,by simp,rfl⟩
 rintro i m ys H2 ⟨rfl,hi,hy,rfl⟩
 have sm:=q15 hD (.lst ys)
 have q:=sm.seq ha
 have hyl:ys.length<=i:=by
  rw[hy,ZN,length_take];exact Nat.min_le_left _ _
 exists q12
 by_cases hlt:i<xs.length
 ·refine .inr ⟨⟨xs,xs[i],q,by simp[hlt]⟩,{},λy H3=>H3=upd H1 D (.lst ys)/\y=g xs[i],λy H3 ⟨z1,z2⟩=>⟨by rw[z1];exact q12,xs.length-(i+1),{},rfl,hlt,?eq,by rw[z1,q85]⟩,λx H' y=>?st⟩
  case eq=>
   rw[take_succ_eq_append_getElem hlt,WS,<- hy,z2]
   rfl
  case st=>
   obtain⟨e,y⟩:=y
   subst e
   have hx:xs[i]? = some x:=y xs q
   have hx':xs[i]=x:=by simpa [hlt] using hx
   have hm:x∈xs:=by rw[<- hx'];exact getElem_mem hlt
   exact hE x hm _ _ sm ⟨rfl,by rw[hx']⟩
 ·have e:i=xs.length:={}
  subst e
  refine .inl ⟨⟨xs,q,ZH _⟩,?_⟩
  rw[hy,YF]
  exact hR
inductive Rop_eqL(K:Fg)(x:V)(y:V)(H:Hp)(Q:VK):Prop
 |mk(a b:Addr)(ns ms:List Int)(_:x = .ref a)(_:y = .ref b)(_:SqL K H a (ns.map V.int))(_:SqL K H b (ms.map V.int))(_:Q (.bl (decide (ns=ms))) H)
def op_eqL(hu:X.A.units+64<cLine):OpR X (compareOp .Eq) (Rop_eqL X.K):=by
 intro pins s σ H x y v u Q I rx ry h
 obtain⟨a,b,ns,ms,rfl,rfl,ha,hb,q⟩:=h
 cases rx
 cases ry
 obtain⟨its,r1,p1,_⟩:=I.list ha
 obtain⟨its2,r2,p2,_⟩:=I.list hb
 exact PySem.W.ke_eq_ints p1.isList p2.isList (q63 r1) (q63 r2) hu ⟨.bl _,H,I,rfl,q⟩
inductive q402(K:Fg)(xs:List V)(H:Hp)(Q:VK):Prop
 |mk(p:Addr)(ns:List Int)(_:xs=[.ref p])(_:SqL K H p (ns.map V.int))(_:ns.length<64)(_:∀(l:Addr)(ms:List Int),H l=none->ms.Perm ns->ms.Pairwise (· <= ·)->Q (.ref l) (upd H l (.lst (ms.map V.int))))
def q448:CallR X (.builtin "sorted") (q402 X.K):=by
 intro pins s σ H xs us Q I r h
 obtain⟨p,ns,rfl,hq,h64,q⟩:=h
 obtain⟨u,rfl,rx⟩:=vals1 r
 cases rx
 obtain⟨its,r',pl,hz⟩:=I.list hq
 have hl:=r'.length
 rw[ZN]at hl hz
 refine PyProof.Rows.sorted_ints pl.isList (q63 r') {} λout ms a1 a2 a3=>?_
 obtain⟨e,he⟩:=PyProof.Rows.sortedAll_at s.heap its out
 have hml:ms.length=ns.length:=a2.length_eq
 refine⟨.ref (s.heap.objs.size+1),_,I.laid (t':=s.toks) (a:=s.heap.objs.size+1) (o:=.lst (ms.map V.int)) (λb ob z=>PyProof.Rows.sortedAll_old z) (Nat.le_succ _) ?_,rfl,q _ ms (I.hok.fresh (Nat.le_succ _)) a2 a3⟩
 exists by rw[ZN];lia,out.toList,e,q298 a1
 rw[he]
section
variable {K:Fg}
def q89(h:X.K=K):IxR X (rIxT K):=by subst h;exact q26
def q554(h:X.K=K):IxR X (rIxL K):=by subst h;exact q32
def q679(h:X.K=K):CallR X (.builtin "len") (q131 K):=by subst h;exact q254
def pe_bmK{o e:Expr}{es:List Expr}{to:TE}{t:TA}{name:Str}{apos cpos:Pos}{T id:String}{r:V->List V->Hp->VK->Prop}(h:X.K=K)
  (pa:PlainAttrs T) (slot:Slot T name id) (hty:typeOf (.builtin id)=pure (.type "method_descriptor")) (hm:MtR X id r) (ho:PE X o to) (ha:PA X (e::es) t)
  (hbase:attributeBase o name X.env (eval o X.env)=eval o X.env:=by rfl)
  (hfew:((backTo cpos (starEach (e::es) X.env)).all (λx=>!x.1)&&(backToKw cpos (keywordEach [] X.env)).all (λx=>x.1.isSome)&&decide ((e::es).length+([]:List Keyword).length+(if([]:List Keyword).isEmpty then 0 else 1)<30))=true:=by rfl)
  (hline:(apos.endLine==cpos.line)=true:=by rfl) (hs:starEach (e::es) X.env=(false,eval e X.env)::starEach es X.env:=by rfl) (hplain:(backTo cpos (starEach es X.env)).any (·.1)=false:=by rfl) :
  PE X (.Call (.Attribute o name apos) (e::es) [] cpos) (tBM K T r to t):=by subst h;exact pe_bm pa slot hty hm ho ha hbase hfew hline hs hplain
end
inductive Tr where
 | non
 | many (n:Int)
 | part (ms:List Int) (l r:Tr)
noncomputable def q58(H:Hp):V->Tr->Prop
 | v,.non=>v = .non
 | v,.many n=>∃ a,v = .ref a/\H a=some (.tup [.str "many", .int n])
 | v,.part ms l r=>∃ a m x y,v = .ref a/\H a=some (.tup [.str "part", .ref m,x,y])/\TupF H m (ms.map V.int)/\q58 H x l/\q58 H y r
def TKeep(H H':Hp):Prop:=∀ b xs,(H b=some (.tup xs)->H' b=some (.tup xs)) /\ ∀ o,H b=some (.frz o (.tup xs))->H' b=some (.frz o (.tup xs))
def TKeep.trans(a:TKeep H H1)(b:TKeep H1 H2):TKeep H H2:=λc xs=>⟨λh=>(b c xs).1 ((a c xs).1 h),λo h=>(b c xs).2 o ((a c xs).2 o h)⟩
def TKeep.same(s:Same H H'):TKeep H H':=λ_ _=>⟨s _ _,λ_=>s _ _⟩
def TKeep.keep(s:Keep p H H')(e:H p=some (.lst ys)):TKeep H H':=λ_ _=>⟨λh=>s _ _ (ne_of h e (by intro z;cases z)) h,λ_ h=>s _ _ (ne_of h e (by intro z;cases z)) h⟩
def TKeep.set(e:H p=some (.lst ys)):TKeep H (upd H p (.lst zs)):=.keep (Keep.set p H _) e
def TupF.tk(h:TupF H a xs)(s:TKeep H H'):TupF H' a xs:=by
 obtain⟨o,h,c⟩:=h
 exact⟨o,(s _ _).2 o h,c⟩
theorem q58.tk{H H':Hp}(s:TKeep H H'):∀{t:Tr}{v:V},q58 H v t->q58 H' v t
 | .non,_,h=>h
 | .many _,_,⟨a,e,h⟩=>⟨a,e,(s _ _).1 h⟩
 | .part _ _ _,_,⟨a,m,x,y,e,h,hm,hl,hr⟩=>⟨a,m,x,y,e,(s _ _).1 h,hm.tk s,q58.tk s hl,q58.tk s hr⟩
def q58.same(s:Same H H')(h:q58 H v t):q58 H' v t:=h.tk (.same s)
def eqAt_tup{A:Around}{xs ys:List V}(I:Inv X pins σ H s)(ha:SqT X.K H a xs)(hb:SqT X.K H b ys)(hl:xs.length=ys.length)
  (he:∀(j:Nat)(x y:V),xs[j]? = some x->ys[j]? = some y -> ∀ u v,RelV x u->RelV y v->SeqAt.EqAt A.in1 s u v true) (hu:A.units<cLine) :
  SeqAt.RcAt A s (.ref a) (.ref b) true/\SeqAt.RcNeAt A s (.ref a) (.ref b) false:=by
 obtain⟨its,r1,p1,_⟩:=I.tuple ha
 obtain⟨its2,r2,p2,_⟩:=I.tuple hb
 have l1:=r1.length
 have l2:=r2.length
 have hz:its.toArray.size=its2.toArray.size:=by rw[WG,WG];lia
 have el:∀(j:Nat)(h1:j<its.toArray.size)(h2:j<its2.toArray.size),SeqAt.EqAt A.in1 s its.toArray[j] its2.toArray[j] ((λ_=>true) j):=by
  intro j h1 h2
  have h1':j<xs.length:=by rw[WG]at h1;lia
  have h2':j<ys.length:=by rw[WG]at h2;lia
  obtain⟨v1,e1,r1'⟩:=r1.get (i:=j) (x:=xs[j]) (ZR h1')
  obtain⟨v2,e2,r2'⟩:=r2.get (i:=j) (x:=ys[j]) (ZR h2')
  have g1:its.toArray[j]=v1:=by
   have:=eA e1
   simpa using this.2
  have g2:its2.toArray[j]=v2:=by
   have:=eA e2
   simpa using this.2
  rw[g1,g2]
  exact he j _ _ (ZR h1') (ZR h2') _ _ r1' r2'
 have t0:((List.range (min its.toArray.size its2.toArray.size)).all (λ_=>true)&&its.toArray.size==its2.toArray.size)=true:=by
  rw[hz];simp
 constructor
 ·rw[<- t0]
  exact SeqAt.RcAt.tuples p1 p2 hu el
 ·have z:=SeqAt.RcNeAt.tuples (e:=λ_=>true) p1 p2 hu el
  rw[t0]at z
  exact z
def eqAt_ref(h:SeqAt.RcAt A s (.ref a) (.ref b) true):SeqAt.EqAt A s (.ref a) (.ref b) true:=by
 by_cases e:a=b
 ·subst e
  exact SeqAt.EqAt.same _
 ·exact .of_refs e h
def eqAt_int{i:Int}(r1:RelV (.int i) u)(r2:RelV (.int i) v):SeqAt.EqAt A s u v true:=by
 have z:=q661 (A:=A) (s:=s) r1 r2 rfl rfl
 have e:eqV (.int i) (.int i)=true:=by simp[eqV]
 rw[e]at z
 exact z
theorem q680{A:Around}{ns:List Int}(I:Inv X pins σ H s)(ha:SqT X.K H a (ns.map V.int))(hb:SqT X.K H b (ns.map V.int))(hu:A.units<cLine) :
  SeqAt.RcAt A s (.ref a) (.ref b) true/\SeqAt.RcNeAt A s (.ref a) (.ref b) false:=by
 refine eqAt_tup I ha hb rfl (λj x y h1 h2 u v r1 r2=>?_) hu
 rw[h1]at h2
 cases h2
 rw[WM]at h1
 cases e:ns[j]? with
 | none=>rw[e]at h1;cases h1
 | some n=>
  rw[e]at h1
  cases h1
  exact eqAt_int r1 r2
noncomputable def onI{α:Type}(f:Int->α)(d:α):V->α
 | .int n=>f n
 | _=>d
def filt_onI{p:Int->Bool}{g:Int->V}(ns:List Int):(((ns.map V.int).filter (onI p false)).map (onI g .non))=(ns.filter p).map g:=by
 induction ns with
 | nil=>rfl
 | cons n ns ih=>
  rw[map_cons,YO,YO]
  have e:onI p false (.int n)=p n:=rfl
  rw[e]
  by_cases h:p n=true
  ·rw[ZL h,ZL h,map_cons,map_cons,ih];rfl
  ·rw[ZJ h,ZJ h];exact ih
section
variable {K:Fg}{a:Addr}{ns:List Int}{p:Int->Bool}{g:Int->V}{Tt:V->Hp->(Bool->Hp->Prop)->Prop}{Te:V->Hp->(V->Hp->Prop)->Prop}{D:Addr}{H1:Hp}{R:Hp->Prop}
def q103(ha:SqL K H1 a (ns.map V.int))(hD:H1 D=none)(hn:ns.length<=sizeLine)(hT:∀ n∈ns,∀(H:Hp)(Q:Bool->Hp->Prop),Same H1 H->Q (p n) H->Tt (.int n) H Q)
  (hE:∀ n∈ns,p n=true -> ∀(H:Hp)(Q:V->Hp->Prop),Same H1 H->Q (g n) H->Te (.int n) H Q) (hR:R (upd H1 D (.lst ((ns.filter p).map g)))) :
  ∃ W:Nat->Nat->List V->Hp->Prop,(∃ m,W 0 m [] (upd H1 D (.lst []))) /\
   ∀ i m ys H2,W i m ys H2->H2 D=some (.lst ys)/\(((Itl K a).stop i H2/\R H2)\/((Itl K a).go i H2/\ys.length<sizeLine /\ ∃ N:V->Hp->Prop,(∀ y H3,N y H3->H3 D=some (.lst ys) /\ ∃ m',m'<m/\W (i+1) m' (ys++[y]) (upd H3 D (.lst (ys++[y])))) /\
    ∀ x H',(Itl K a).yld i H2 x H'->Tt x H' λb H3=>if b=true then Te x H3 N else ∃ m',m'<m/\W (i+1) m' ys H3)):=by
 refine q302 (p:=onI p false) (g:=onI g .non) ha hD (by rw[ZN];exact hn) (λx hx H Q s q=>?_) (λx hx hp H Q s q=>?_) (by rw[filt_onI];exact hR)
 ·obtain⟨n,hm,rfl⟩:=eE hx
  exact hT n hm H Q s q
 ·obtain⟨n,hm,rfl⟩:=eE hx
  exact hE n hm hp H Q s q
def q681(ha:SqL K H1 a (ns.map V.int))(hD:H1 D=none)(hn:ns.length<=sizeLine)(hE:∀ n∈ns,∀(H:Hp)(Q:V->Hp->Prop),Same H1 H->Q (g n) H->Te (.int n) H Q)(hR:R (upd H1 D (.lst (ns.map g)))) :
  ∃ W:Nat->Nat->List V->Hp->Prop,(∃ m,W 0 m [] (upd H1 D (.lst []))) /\
   ∀ i m ys H2,W i m ys H2->H2 D=some (.lst ys)/\(((Itl K a).stop i H2/\R H2)\/((Itl K a).go i H2/\ys.length<sizeLine /\ ∃ N:V->Hp->Prop,(∀ y H3,N y H3->H3 D=some (.lst ys) /\ ∃ m',m'<m/\W (i+1) m' (ys++[y]) (upd H3 D (.lst (ys++[y])))) /\
    ∀ x H',(Itl K a).yld i H2 x H'->Te x H' N)):=by
 refine q609 (g:=onI g .non) ha hD (by rw[ZN];exact hn) (λx hx H Q s q=>?_) (by rw[map_map];exact hR)
 obtain⟨n,hm,rfl⟩:=eE hx
 exact hE n hm H Q s q
end
def Keep.free(k:Keep p H H')(hl:H' l=none)(hp:H' p=some o):H l=none:=by
 cases e:H l with
 | none=>rfl
 | some u=>
  have n:l≠p:=λz=>by rw[z,hp]at hl;cases hl
  rw[k l u n e]at hl
  cases hl
def Keep.own(k:Keep p H H')(hr:H r=none):Keep p H (upd H' r o):=λc u hc z=>by
 rw[q27 (q25 z hr)]
 exact k c u hc z
def p2pos(L:Nat):(0:Int)<2^L:=by
 induction L with
 | zero=>decide
 | succ L ih=>rw[YK];lia
def p2le{L:Nat}(h:L<=40):(2:Int)^L<=1099511627776:=by
 have e:(2:Int)^L=((2^L:Nat):Int):=by simp
 have:2^L<=2^40:=Nat.pow_le_pow_right ∅ h
 rw[e]
 have e2:(2:Nat)^40=1099511627776:=∅
 lia
def q303(L:Nat):(1:Int)*2^((L:Int)).toNat=2^L:=by rw[Int.one_mul];rfl
def q403{X:Cx}{pos:Pos}{scope:Scope}{cl:List (Str×Addr)}{N:List Str}{fr:List Nat}
  (hc:X.calm=true) (hi:PI X tg itr wi) (he:∀(C:Addr)(s₂:Shared)(H₂:Hp)(fp:List Addr),PE (q50 X scope cl C x (TN++N) s₂ H₂ fp) elt te) (hct:∀(C:Addr)(s₂:Shared)(H₂:Hp)(fp:List Addr),PTs (q50 X scope cl C x (TN++N) s₂ H₂ fp) ifs tt) (hgt:∀(C:Addr)(s₂:Shared)(H₂:Hp)(fp:List Addr),PG (q50 X scope cl C x (TN++N) s₂ H₂ fp) tg gt)
  (hclos:closureFor scope X.env=pure cl) (hcl:q88 X.env cl) (hcn:cl.map (·.1)=cn) (hsc:X.env.scope=sc0) (hk:scope.kind = .function) (hok:CompOkG scope sc0 N cn)
  (hfr:fr.map (λj=>X.N[j]?)=N.map some) (hs:∀ v,foldedSetIterable itr X.env v=pure v:=by intro _;rfl) :
  PE X (.ListComp elt [⟨tg,itr,ifs,0⟩] scope pos) (tCompG (TN.length+1) wi gt tt te fr):=by
 intro pins s σ H Q I h
 rw[eval_ListComp]
 refine wpAny_comprehension_free (use:=none) rfl hs hclos hk hok.names (thn (hi pins s σ H _ I h) λv s1 h1=>thn h1 λitv s2 h2=>?_)
 obtain⟨it,fp,tn,J,H2,e,I2,T,st2,f2,hq⟩:=h2
 subst e
 obtain⟨W,⟨m0,w0⟩,turn⟩:=hq s2.heap.objs.size (I2.hok.fresh (ZH _))
 exact q231 (RR:=λacc C=>compPost (model X.prog X.w) X.A X.xe none (EP X pins σ Q) acc C) (R:=λH6=>Q (.ref s2.heap.objs.size) H6) hc he hct hgt hcl hcn hsc hk hok hfr I2 T st2 f2 w0 turn
  λC H6 s6 m6 hn I6 F6 q=>⟨m6,hn,λh' sb=>⟨.ref s2.heap.objs.size,H6,I6.let_go F6 sb,rfl,q⟩⟩
def q234{K:Fg}{a:Addr}{xs:List V}{Tn:V->Hp->(V->Hp->Prop)->(Hp->Prop)->Prop}{D:Addr}{H1:Hp}{R:Hp->Prop}(hn:xs.length<=sizeLine)(Pv:Nat->List V->Hp->Prop)(h0:Pv 0 [] (upd H1 D (.lst [])))
  (hl:∀ i ys H,Pv i ys H->SqL K H a xs) (hD:∀ i ys H,Pv i ys H->H D=some (.lst ys)/\ys.length<=i)
  (hs:∀ i x ys H,xs[i]? = some x->Pv i ys H->Tn x H (λy H3=>H3 D=some (.lst ys)/\Pv (i+1) (ys++[y]) (upd H3 D (.lst (ys++[y])))) (Pv (i+1) ys))
  (hd:∀ ys H,Pv xs.length ys H->R H) :
  ∃ W:Nat->Nat->List V->Hp->Prop,(∃ m,W 0 m [] (upd H1 D (.lst []))) /\
   ∀ i m ys H2,W i m ys H2->H2 D=some (.lst ys)/\(((Itl K a).stop i H2/\R H2)\/((Itl K a).go i H2/\ys.length<sizeLine /\ ∃(N:V->Hp->Prop)(Z:Hp->Prop),(∀ y H3,N y H3->H3 D=some (.lst ys) /\ ∃ m',m'<m/\W (i+1) m' (ys++[y]) (upd H3 D (.lst (ys++[y]))))/\(∀ H3,Z H3 -> ∃ m',m'<m/\W (i+1) m' ys H3) /\
    ∀ x H',(Itl K a).yld i H2 x H'->Tn x H' N Z)):=by
 exists λi m ys H=>m=xs.length-i/\i<=xs.length/\Pv i ys H,⟨xs.length,by simp,WA _,h0⟩
 rintro i m ys H2 ⟨rfl,hi,p⟩
 obtain⟨d1,d2⟩:=hD i ys H2 p
 have q:=hl i ys H2 p
 exists d1
 by_cases hlt:i<xs.length
 ·refine .inr ⟨⟨xs,xs[i],q,by simp[hlt]⟩,{},λy H3=>H3 D=some (.lst ys)/\Pv (i+1) (ys++[y]) (upd H3 D (.lst (ys++[y]))),Pv (i+1) ys,λy H3 ⟨z1,z2⟩=>⟨z1,xs.length-(i+1),{},rfl,hlt,z2⟩,λH3 z=>⟨xs.length-(i+1),{},rfl,hlt,z⟩,λx H' y=>?_⟩
  obtain⟨e,y⟩:=y
  subst e
  exact hs i x ys _ (y xs q) p
 ·have e:i=xs.length:={}
  subst e
  exact .inl ⟨⟨xs,q,ZH _⟩,hd ys H2 p⟩
inductive q610(K:Fg)(xs:List V)(H:Hp)(Q:VK):Prop
 |mk(p:Addr)(ns:List Int)(_:xs=[.ref p])(_:SqL K H p (ns.map V.int))(_:Q (.int ns.sum) H)
def q449(hc:X.calm=true):CallR X (.builtin "sum") (q610 X.K):=by
 intro pins s σ H xs us Q I r h
 obtain⟨p,ns,rfl,hq,q⟩:=h
 obtain⟨u,rfl,rx⟩:=vals1 r
 cases rx
 obtain⟨its,r',pl,hz⟩:=I.list hq
 have hi:=q63 r'
 obtain⟨ys,hx⟩:=hi.allInts.items
 have hl':s.heap.IsList p (intItems ys):=hx▸pl.isList
 refine sum_intListG (I.ok.hd hc) hl' λh' tk t' hk=>?_
 have e1:ns=ys.toList.map (·.1):=by
  rw[<- nums_intItems,<- hx]
  exact(show numsOf its.toArray.toList=ns from hi.numsOf).symm
 have e2:preSum (numAt ys) ys.size=ns.sum:=by
  rw[preSum_eq,WZ (by simp),e1]
 rw[e2]
 exact⟨.int ns.sum,H,I.kept (t':=tk) hk,⟨_,rfl⟩,q⟩
def q519{K:Fg}{es:List Expr}{k:Nat}{t:TGs}{n:Nat}{pos:Pos}(hK:X.K=K)(hc:X.calm=true)(h:PGs X es t)
  (hn:(assignEach es X.env).length=n:=by rfl) (hst:(assignEach es X.env).findIdx? (·.1)=none:=by rfl):PG X (.Tuple es k pos) (gTup K n t):=by subst hK;exact q151 hc h hn hst
def q64{K:Fg}{a:Addr}{xs:List V}{T:V->Hp->(V->Hp->Prop)->Prop}{D:Addr}{H1:Hp}{R:Hp->Prop}(hn:xs.length<=sizeLine)(Pv:Nat->List V->Hp->Prop)(h0:Pv 0 [] (upd H1 D (.lst [])))
  (hl:∀ i ys H,Pv i ys H->SqL K H a xs) (hD:∀ i ys H,Pv i ys H->H D=some (.lst ys)/\ys.length=i)
  (hs:∀ i x ys H,xs[i]? = some x->Pv i ys H->T x H λy H3=>H3 D=some (.lst ys)/\Pv (i+1) (ys++[y]) (upd H3 D (.lst (ys++[y]))))
  (hd:∀ ys H,Pv xs.length ys H->R H) :
  ∃ W:Nat->Nat->List V->Hp->Prop,(∃ m,W 0 m [] (upd H1 D (.lst []))) /\
   ∀ i m ys H2,W i m ys H2->H2 D=some (.lst ys)/\(((Itl K a).stop i H2/\R H2)\/((Itl K a).go i H2/\ys.length<sizeLine /\ ∃ N:V->Hp->Prop,(∀ y H3,N y H3->H3 D=some (.lst ys) /\ ∃ m',m'<m/\W (i+1) m' (ys++[y]) (upd H3 D (.lst (ys++[y])))) /\
    ∀ x H',(Itl K a).yld i H2 x H'->T x H' N)):=by
 exists λi m ys H=>m=xs.length-i/\i<=xs.length/\Pv i ys H,⟨xs.length,by simp,WA _,h0⟩
 rintro i m ys H2 ⟨rfl,hi,p⟩
 obtain⟨d1,d2⟩:=hD i ys H2 p
 have q:=hl i ys H2 p
 exists d1
 by_cases hlt:i<xs.length
 ·refine .inr ⟨⟨xs,xs[i],q,by simp[hlt]⟩,{},λy H3=>H3 D=some (.lst ys)/\Pv (i+1) (ys++[y]) (upd H3 D (.lst (ys++[y]))),λy H3 ⟨z1,z2⟩=>⟨z1,xs.length-(i+1),(W34 hlt d2),rfl,hlt,z2⟩,λx H' y=>?_⟩
  obtain⟨e,y⟩:=y
  subst e
  exact hs i x ys _ (y xs q) p
 ·have e:i=xs.length:={}
  subst e
  exact .inl ⟨⟨xs,q,ZH _⟩,hd ys H2 p⟩
end L2
namespace HT
set_option autoImplicit false
open PySem PySem.Spec PyProof.Rows List
section
open PySem.SeqAt
open PySem.AutoSeq1 (wpAny_loadPart')
open PySem.MeetsSeq PySem.MeetsSeq2 PySem.MeetsSeq3
end
end HT
namespace L2
open PySem PySem.Spec PyProof.Rows List
variable {X:Cx}
def op_catUK{K:Fg}(hK:X.K=K):OpR X (binaryOp .Add) (q553 K):=by subst hK;exact q666
def q114{K:Fg}{a:Addr}{xs:List V}{Tt:V->Hp->(Bool->Hp->Prop)->Prop}{Te:V->Hp->(V->Hp->Prop)->Prop}{D:Addr}{H1:Hp}{R:Hp->Prop}(hn:xs.length<=sizeLine)(Pv:Nat->List V->Hp->Prop)(h0:Pv 0 [] (upd H1 D (.lst [])))
  (hl:∀ i ys H,Pv i ys H->SqL K H a xs) (hD:∀ i ys H,Pv i ys H->H D=some (.lst ys)/\ys.length<=i)
  (hs:∀ i x ys H,xs[i]? = some x->Pv i ys H->Tt x H λb H3=>if b=true then Te x H3 (λy H4=>H4 D=some (.lst ys)/\Pv (i+1) (ys++[y]) (upd H4 D (.lst (ys++[y]))))else ∃ m',m'<xs.length-i/\m'=xs.length-(i+1)/\i+1<=xs.length/\Pv (i+1) ys H3)
  (hd:∀ ys H,Pv xs.length ys H->R H) :
  ∃ W:Nat->Nat->List V->Hp->Prop,(∃ m,W 0 m [] (upd H1 D (.lst []))) /\
   ∀ i m ys H2,W i m ys H2->H2 D=some (.lst ys)/\(((Itl K a).stop i H2/\R H2)\/((Itl K a).go i H2/\ys.length<sizeLine /\ ∃ N:V->Hp->Prop,(∀ y H3,N y H3->H3 D=some (.lst ys) /\ ∃ m',m'<m/\W (i+1) m' (ys++[y]) (upd H3 D (.lst (ys++[y])))) /\
    ∀ x H',(Itl K a).yld i H2 x H'->Tt x H' λb H3=>if b=true then Te x H3 N else ∃ m',m'<m/\W (i+1) m' ys H3)):=by
 exists λi m ys H=>m=xs.length-i/\i<=xs.length/\Pv i ys H,⟨xs.length,by simp,WA _,h0⟩
 rintro i m ys H2 ⟨rfl,hi,p⟩
 obtain⟨d1,d2⟩:=hD i ys H2 p
 have q:=hl i ys H2 p
 exists d1
 by_cases hlt:i<xs.length
 ·refine .inr ⟨⟨xs,xs[i],q,by simp[hlt]⟩,{},λy H3=>H3 D=some (.lst ys)/\Pv (i+1) (ys++[y]) (upd H3 D (.lst (ys++[y]))),λy H3 ⟨z1,z2⟩=>⟨z1,xs.length-(i+1),{},rfl,hlt,z2⟩,λx H' y=>?_⟩
  obtain⟨e,y⟩:=y
  subst e
  exact hs i x ys _ (y xs q) p
 ·have e:i=xs.length:={}
  subst e
  exact .inl ⟨⟨xs,q,ZH _⟩,hd ys H2 p⟩
def best_in{ys:Array (Int×Tok)}{k:Nat}(h:(intItems ys)[k]? = some v):∃ t,v = .int (numAt ys k) t/\k<ys.size:=by
 unfold intItems at h
 rw[Array.getElem?_map]at h
 cases e:ys[k]? with
 | none=>rw[e]at h;cases h
 | some y=>
  rw[e]at h
  refine⟨y.2,?_,(Array.getElem?_eq_some_iff.mp e).1⟩
  have e2:numAt ys k=y.1:=by
   unfold numAt
   simp[e,Array.getD_eq_getD_getElem?]
  rw[e2]
  exact(Option.some.inj h).symm
def num_mem{ys:Array (Int×Tok)}{k:Nat}(h:k<ys.size):numAt ys k∈ys.toList.map (·.1):=by
 refine List.mem_map.mpr ⟨ys[k],by simp,?_⟩
 unfold numAt
 simp[h]
def num_of{ys:Array (Int×Tok)}{a:Int}(h:a∈ys.toList.map (·.1)):∃ j,j<ys.size/\numAt ys j=a:=by
 obtain⟨y,hy,rfl⟩:=eE h
 obtain⟨j,hj,e⟩:=List.mem_iff_getElem.mp hy
 exists j,by simpa using hj
 unfold numAt
 have:ys[j]'(by simpa using hj)=y:=by simpa using e
 simp[this,show j<ys.size by simpa using hj]
inductive q611(K:Fg)(xs:List V)(H:Hp)(Q:VK):Prop
 |mk(p:Addr)(ns:List Int)(_:xs=[.ref p])(_:SqL K H p (ns.map V.int))(_:0<ns.length)(_:∀ M,M∈ns->(∀ a∈ns,a<=M)->Q (.int M) H)
def q682(hc:X.calm=true):CallR X (.builtin "max") (q611 X.K):=by
 intro pins s σ H xs us Q I r h
 obtain⟨p,ns,rfl,hq,hn,q⟩:=h
 obtain⟨u,rfl,rx⟩:=vals1 r
 cases rx
 obtain⟨its,r',pl,hz⟩:=I.list hq
 have hi:=q63 r'
 obtain⟨ys,hx⟩:=hi.allInts.items
 have hl':s.heap.IsList p (intItems ys):=hx▸pl.isList
 have e1:ns=ys.toList.map (·.1):=by
  rw[<- nums_intItems,<- hx]
  exact(show numsOf its.toArray.toList=ns from hi.numsOf).symm
 have hsz:0<ys.size:=by rw[e1]at hn;simpa using hn
 refine max_intList (I.ok.hd hc) hl' hsz λv h' tk hv hk=>?_
 obtain⟨t,rfl,hlt⟩:=best_in hv
 refine⟨.int _,H,I.kept (t':=tk) hk,⟨_,rfl⟩,q _ (by rw[e1];exact num_mem hlt) (λa ha=>?_)⟩
 rw[e1]at ha
 obtain⟨j,hj,rfl⟩:=num_of ha
 exact(argBest_gt (numAt ys) (ys.size-1)).2 j {}
section
def q683{A:Around}{p q:Int×Int}(I:Inv X pins σ H s)(ha:SqT X.K H a [.int p.1,.int p.2])(hb:SqT X.K H b [.int q.1,.int q.2])(hab:a=b->p=q)(hu:A.units+4<cLine) :
  SeqAt.EqAt A s (.ref b) (.ref a) (decide (q=p)):=by
 by_cases e:q=p
 ·subst e
  rw[ZA rfl]
  exact eqAt_ref (q680 (ns:=[q.1,q.2]) I hb ha {}).1
 ·rw[ZI e]
  have hne:b≠a:=λz=>e (hab z.symm).symm
  refine .of_refs hne ?_
  obtain⟨its,r1,p1,_⟩:=I.tuple hb
  obtain⟨its2,r2,p2,_⟩:=I.tuple ha
  have l1:its.length=2:=r1.length.symm
  have l2:its2.length=2:=r2.length.symm
  have z:=SeqAt.RcAt.tuples (A:=A) (e:=λj=>[q.1,q.2].getD j 0==[p.1,p.2].getD j 0) p1 p2 {} (λj h1 h2=>by
   have h1':j<2:=by rw[WG]at h1;lia
   obtain⟨v1,e1,r1'⟩:=r1.get (i:=j) (x:=.int ([q.1,q.2].getD j 0)) (by match j,h1' with | 0,_=>rfl | 1,_=>rfl)
   obtain⟨v2,e2,r2'⟩:=r2.get (i:=j) (x:=.int ([p.1,p.2].getD j 0)) (by match j,h1' with | 0,_=>rfl | 1,_=>rfl)
   have g1:its.toArray[j]=v1:=by
    have:=eA e1
    simpa using this.2
   have g2:its2.toArray[j]=v2:=by
    have:=eA e2
    simpa using this.2
   rw[g1,g2]
   exact q661 r1' r2' rfl rfl)
  have f:((List.range (min its.toArray.size its2.toArray.size)).all (λj=>[q.1,q.2].getD j 0==[p.1,p.2].getD j 0)&&its.toArray.size==its2.toArray.size)=false:=by
   rw[WG,WG,l1,l2]
   show(((q.1==p.1)&&((q.2==p.2)&&true))&&true)=false
   rw[Bool.and_true,Bool.and_true]
   by_cases c1:q.1=p.1
   ·have c2:¬ q.2=p.2:=λc2=>e (Prod.ext c1 c2)
    rw[beq_eq_false_iff_ne.mpr c2,WL]
   ·rw[beq_eq_false_iff_ne.mpr c1,WP]
  rw[f]at z
  exact z
def q192(H:Hp)(xs:List V)(ps:List (Int×Int)):Prop:=xs.length=ps.length /\ ∀(j:Nat)(x:V)(q:Int×Int),xs[j]? = some x->ps[j]? = some q -> ∃ b,x = .ref b/\H b=some (.tup [.int q.1,.int q.2])
variable{a b c d:Expr}{ta tb tc td:TE}{pos:Pos}
end
end L2
namespace TS
set_option autoImplicit false
open PySem PySem.W PyProof.Rows List
abbrev M2:=StateT SortSt Sem
noncomputable def gallop':Bool->Keyed->Array Keyed->Nat->Nat->Nat->M2 (Option Nat):=sortPriv% PySem.Builtin.gallop
noncomputable def mergeLo':Array Keyed->Array Keyed->M2 (Array Keyed):=sortPriv% PySem.Builtin.mergeLo
def mergeHi':Array Keyed->Array Keyed->M2 (Array Keyed):=sortPriv% PySem.Builtin.mergeHi
noncomputable def setMG':Nat->M2 Unit:=sortPriv% PySem.Builtin.setMinGallop
section
variable {prog:Program}{w:World}{A:Around}{E:VS}
theorem c_for{β:Type}{f:Nat->β->M2 (ForInStep β)}{Q:β->SortSt->Shared->Prop}(I:Nat->β->SortSt->Shared->Prop) :
  ∀(l:List Nat)(n:Nat)(b:β)(st:SortSt)(s:Shared),I n b st s->(∀ b st s,I (n+l.length) b st s->Q b st s) ->
  (∀ k x b st s,n<=k->k<n+l.length->I k b st s->kasC (model prog w) A E (f x b) (λr st' s'=>match r with | .done b'=>Q b' st' s' | .yield b'=>I (k+1) b' st' s') st s) ->
  kasC (model prog w) A E (forIn l b f) Q st s
 | [],n,b,st,s,hi,hq,_=>kasC_nil (hq b st s hi)
 | x::l,n,b,st,s,hi,hq,hs=>by
  refine kasC_cons (YJ (hs n x b st s (ZH _) (by simp) hi) (λr s' h=>?_) λ_ _ e=>e)
  obtain⟨r,st'⟩:=r
  cases r with
  | done b'=>exact h
  | yield b'=>
   refine c_for I l (n+1) b' st' s' h (λb st s hb=>hq b st s (by simpa [Nat.add_assoc,Nat.add_comm,Nat.add_left_comm] using hb)) (λk x b st s h1 h2 h3=>hs k x b st s (W86 h1) (by simp at h2 ⊢;lia) h3)
def c_range{β:Type}{f:Nat->β->M2 (ForInStep β)}{Q:β->SortSt->Shared->Prop}{n:Nat}{b:β}{st:SortSt}{s:Shared}(I:Nat->β->SortSt->Shared->Prop)(h0:I 0 b st s)(hq:∀ b st s,I n b st s->Q b st s)
  (hs:∀ k x b st s,k<n->I k b st s->kasC (model prog w) A E (f x b) (λr st' s'=>match r with | .done b'=>Q b' st' s' | .yield b'=>I (k+1) b' st' s') st s):kasC (model prog w) A E (forIn [0:n] b f) Q st s:=by
 refine kasC_range (c_for I (List.range' 0 (n-0)) 0 b st s h0 (λb st s h=>hq b st s ?_) (λk x b st s h1 h2 h3=>hs k x b st s ?_ h3))
 ·simpa using h
 ·simpa using h2
def q92{β:Type}{f:Nat->β->M2 (ForInStep β)}{Q:β->SortSt->Shared->Prop}{n:Nat}{b:β}{st:SortSt}{s:Shared}(I:Nat->β->SortSt->Shared->Prop)(R:β->SortSt->Shared->Prop)(h0:I 0 b st s)(he:∀ b st s,I n b st s->R b st s)
  (hs:∀ k x b st s,k<n->I k b st s->kasC (model prog w) A E (f x b) (λr st' s'=>match r with | .done b'=>R b' st' s' | .yield b'=>I (k+1) b' st' s') st s) (hR:∀ b st s,R b st s->Q b st s):kasC (model prog w) A E (forIn [0:n] b f) Q st s:=
 YJ (c_range I h0 he hs) (λr s' h=>hR _ _ _ h) λ_ _ e=>e
def q52{arr:Array Keyed}{i:Nat}{Q:Keyed->SortSt->Shared->Prop}{st:SortSt}{s:Shared}(hi:i<arr.size)(h:Q (kas_item arr i) st s):kasC (model prog w) A E (elem' arr i) Q st s:=by
 rw[elem'_eq]
 have e:arr[i]? = some (kas_item arr i):=by
  unfold kas_item
  simp[Array.getD,hi]
 rw[e]
 exact ZV h
def Good(prog:Program)(w:World)(A:Around)(E:VS)(κ:SortKind)(P:Keyed->Prop)(lt:Keyed->Keyed->Bool)(s:Shared):Prop:=
 ∀(x y:Keyed)(st:SortSt)(Q:Option Bool->SortSt->Shared->Prop),P x->P y->kindOf st=κ->Q (some (lt x y)) st s->kasC (model prog w) A E (lt' x y) Q st s
variable {κ:SortKind}{P:Keyed->Prop}{lt:Keyed->Keyed->Bool}
def q235{s:Shared}(G:Good prog w A E κ P lt s){left:Bool}{key:Keyed}{arr:Array Keyed}{base n hint k:Nat}{Q:Option Nat->SortSt->Shared->Prop}{st:SortSt}(hst:kindOf st=κ)(hk:P key)(hP:∀ i,i<n->P (kas_item arr (base+i)))
  (hsz:base+n<=arr.size) (hh:hint<n) (hkn:k<=n) (hB:∀ i,i<n->(if left=true then lt (kas_item arr (base+i)) key else !(lt key (kas_item arr (base+i))))=decide (i<k)) (h:Q (some k) st s) :
  kasC (model prog w) A E (gallop' left key arr base n hint) Q st s:=by
 have bey:∀(i:Nat)(Q':Option Bool->SortSt->Shared->Prop),i<n->Q' (some (decide (i<k))) st s->kasC (model prog w) A E (do
   let x <- elem' arr (base+i)
   if left=true then lt' x key else do
    let r <- lt' key x
    pure (Option.map (λx=>!x) r)) Q' st s:=by
  intro i Q' hi hq
  refine ZP (q52 {} ?_)
  have hb:=hB i hi
  cases left with
  | true=>
   rw[ZL rfl]at hb ⊢
   exact G _ _ _ _ (hP i hi) hk hst (by rw[hb];exact hq)
  | false=>
   rw[ZJ fnt]at hb ⊢
   refine ZP (G _ _ _ _ hk (hP i hi) hst (ZV ?_))
   show Q' (some (!(lt key (kas_item arr (base+i))))) st s
   rw[hb]
   exact hq
 refine ZP (bey hint _ hh ?_)
 dsimp only
 by_cases c:hint<k
 ·rw[ZL (ZA c)]
  refine ZP (q92 (λt r st' s'=>st'=st/\s'=s /\ ∃ la of,r=(none,la,of)/\la<of/\hint+la<k/\t+1<=of) (λr st' s'=>st'=st/\s'=s /\ ∃ la of,r=(none,la,of)/\la<of/\hint+la<k/\k<=hint+min of (n-hint))
   ⟨rfl,rfl,0,1,rfl,{},{},{}⟩ ?_ ?_ ?_)
  ·rintro r st' s' ⟨rfl,rfl,la,of,rfl,h1,h2,h3⟩
   exact⟨rfl,rfl,la,of,rfl,h1,h2,{}⟩
  ·rintro t x r st' s' ht ⟨rfl,rfl,la,of,rfl,h1,h2,h3⟩
   dsimp only
   by_cases c2:of>=n-hint
   ·rw[ZL c2]
    exact ZV ⟨rfl,rfl,la,of,rfl,h1,h2,{}⟩
   ·rw[ZJ c2]
    refine ZP (bey (hint+of) _ {} ?_)
    dsimp only
    by_cases c3:hint+of<k
    ·rw[ZJ (by simp[c3])]
     exact ZV ⟨rfl,rfl,of,2*of+1,rfl,{},c3,{}⟩
    ·rw[ZL (by simp[c3])]
     exact ZV ⟨rfl,rfl,la,of,rfl,h1,h2,{}⟩
  ·rintro r st' s' ⟨rfl,rfl,la,of,rfl,h1,h2,h3⟩
   dsimp only
   refine ZP (q92 (λt r st₂ s₂=>st₂=st'/\s₂=s' /\ ∃ lo hi,r=(none,lo,hi)/\lo<=k/\k<=hi/\hi<=n/\(hi-lo)+t<=n) (λr st₂ s₂=>st₂=st'/\s₂=s' /\ ∃ lo,r=(none,lo,k)) ⟨rfl,rfl,_,_,rfl,{},{},{},{}⟩ ?_ ?_ ?_)
   ·rintro r st₂ s₂ ⟨rfl,rfl,lo,hi,rfl,g1,g2,g3,g4⟩
    obtain rfl:hi=k:={}
    exact⟨rfl,rfl,lo,rfl⟩
   ·rintro t x r st₂ s₂ ht ⟨rfl,rfl,lo,hi,rfl,g1,g2,g3,g4⟩
    dsimp only
    by_cases c2:lo>=hi
    ·rw[ZL c2]
     obtain rfl:hi=k:={}
     exact ZV ⟨rfl,rfl,lo,rfl⟩
    ·rw[ZJ c2]
     refine ZP (bey (lo+(hi-lo)/2) _ {} ?_)
     dsimp only
     by_cases c3:lo+(hi-lo)/2<k
     ·rw[ZL (ZA c3)]
      exact ZV ⟨rfl,rfl,_,_,rfl,{},{},{},{}⟩
     ·rw[ZJ (by simp[c3])]
      exact ZV ⟨rfl,rfl,_,_,rfl,{},{},{},{}⟩
   ·rintro r st₂ s₂ ⟨rfl,rfl,lo,rfl⟩
    exact ZV h
 ·rw[ZJ (by simp[c])]
  refine ZP (q92 (λt r st' s'=>st'=st/\s'=s /\ ∃ la of,r=(none,la,of)/\la<of/\k<=hint-la/\la<=hint/\t+1<=of) (λr st' s'=>st'=st/\s'=s /\ ∃ la of,r=(none,la,of)/\la<of/\k<=hint-la/\la<=hint/\hint+1-min of (hint+1)<=k)
   ⟨rfl,rfl,0,1,rfl,{},{},{},{}⟩ ?_ ?_ ?_)
  ·rintro r st' s' ⟨rfl,rfl,la,of,rfl,h1,h2,h3,h4⟩
   exact⟨rfl,rfl,la,of,rfl,h1,h2,h3,{}⟩
  ·rintro t x r st' s' ht ⟨rfl,rfl,la,of,rfl,h1,h2,h3,h4⟩
   dsimp only
   by_cases c2:of>=hint+1
   ·rw[ZL c2]
    exact ZV ⟨rfl,rfl,la,of,rfl,h1,h2,h3,{}⟩
   ·rw[ZJ c2]
    refine ZP (bey (hint-of) _ {} ?_)
    dsimp only
    by_cases c3:hint-of<k
    ·rw[ZL (ZA c3)]
     exact ZV ⟨rfl,rfl,la,of,rfl,h1,h2,h3,{}⟩
    ·rw[ZJ (by simp[c3])]
     exact ZV ⟨rfl,rfl,of,2*of+1,rfl,{},{},{},{}⟩
  ·rintro r st' s' ⟨rfl,rfl,la,of,rfl,h1,h2,h3,h4⟩
   dsimp only
   refine ZP (q92 (λt r st₂ s₂=>st₂=st'/\s₂=s' /\ ∃ lo hi,r=(none,lo,hi)/\lo<=k/\k<=hi/\hi<=n/\(hi-lo)+t<=n) (λr st₂ s₂=>st₂=st'/\s₂=s' /\ ∃ lo,r=(none,lo,k)) ⟨rfl,rfl,_,_,rfl,{},{},(W26 h3 hh),{}⟩ ?_ ?_ ?_)
   ·rintro r st₂ s₂ ⟨rfl,rfl,lo,hi,rfl,g1,g2,g3,g4⟩
    obtain rfl:hi=k:={}
    exact⟨rfl,rfl,lo,rfl⟩
   ·rintro t x r st₂ s₂ ht ⟨rfl,rfl,lo,hi,rfl,g1,g2,g3,g4⟩
    dsimp only
    by_cases c2:lo>=hi
    ·rw[ZL c2]
     obtain rfl:hi=k:={}
     exact ZV ⟨rfl,rfl,lo,rfl⟩
    ·rw[ZJ c2]
     refine ZP (bey (lo+(hi-lo)/2) _ {} ?_)
     dsimp only
     by_cases c3:lo+(hi-lo)/2<k
     ·rw[ZL (ZA c3)]
      exact ZV ⟨rfl,rfl,_,_,rfl,{},{},{},{}⟩
     ·rw[ZJ (by simp[c3])]
      exact ZV ⟨rfl,rfl,_,_,rfl,{},{},{},{}⟩
   ·rintro r st₂ s₂ ⟨rfl,rfl,lo,rfl⟩
    exact ZV h
end
section
variable {P:Keyed->Prop}{lt:Keyed->Keyed->Bool}
structure Tot(P:Keyed->Prop)(lt:Keyed->Keyed->Bool):Prop where
 trans:∀ x y z,P x->P y->P z->lt y x=false->lt z y=false->lt z x=false
 asym:∀ x y,P x->P y->lt x y=true->lt y x=false
def Srt(lt:Keyed->Keyed->Bool)(l:List Keyed):Prop:=l.Pairwise λx y=>lt y x=false
structure MInv(lt:Keyed->Keyed->Bool)(al bl o:List Keyed)(i j:Nat):Prop where
 perm:o.Perm (al.take i++bl.take j)
 srt:Srt lt o
 ba:∀ x∈o,∀ y∈al.drop i,lt y x=false
 bb:∀ x∈o,∀ y∈bl.drop j,lt y x=false
def MInv.zero(al bl:List Keyed):MInv lt al bl [] 0 0:=⟨by simp,.nil,λx hx=>absurd hx (by simp),λx hx=>absurd hx (by simp)⟩
def q612(l:List Keyed)(i k:Nat):l.drop i=(l.drop i).take k++l.drop (i+k):=by
 rw[<- drop_drop,take_append_drop]
def q613(l:List Keyed)(i k:Nat):l.take (i+k)=l.take i++(l.drop i).take k:=take_add
def MInv.chunkA{al bl o:List Keyed}{i j:Nat}(m:MInv lt al bl o i j)(ha:Srt lt al)(k:Nat)(hc:∀ x∈(al.drop i).take k,∀ y∈bl.drop j,lt y x=false):MInv lt al bl (o++(al.drop i).take k) (i+k) j:=by
 have hd:=q612 al i k
 have hs:Srt lt (al.drop i):=List.Pairwise.sublist (drop_sublist i al) ha
 rw[hd]at hs
 have hs':=List.pairwise_append.mp hs
 have sub1:∀ y∈(al.drop i).take k,y∈al.drop i:=λy hy=>mem_of_mem_take hy
 have sub2:∀ y∈al.drop (i+k),y∈al.drop i:=λy hy=>by rw[hd];exact WV _ hy
 refine⟨?_,?_,λx hx y hy=>?_,λx hx y hy=>?_⟩
 ·rw[q613]
  refine(m.perm.append_right _).trans ?_
  rw[YZ,YZ]
  exact List.Perm.append_left _ perm_append_comm
 ·refine List.pairwise_append.mpr ⟨m.srt,?_,λx hx y hy=>m.ba x hx y (sub1 y hy)⟩
  have:=hs'.1
  simpa [take_take] using this
 ·rcases eC hx with h | h
  ·exact m.ba x h y (sub2 y hy)
  ·exact hs'.2.2 x (by simpa [take_take] using h) y hy
 ·rcases eC hx with h | h
  ·exact m.bb x h y hy
  ·exact hc x h y hy
def MInv.swap{al bl o:List Keyed}{i j:Nat}(m:MInv lt al bl o i j):MInv lt bl al o j i:=⟨m.perm.trans perm_append_comm,m.srt,m.bb,m.ba⟩
def MInv.chunkB{al bl o:List Keyed}{i j:Nat}(m:MInv lt al bl o i j)(hb:Srt lt bl)(k:Nat)(hc:∀ x∈(bl.drop j).take k,∀ y∈al.drop i,lt y x=false):MInv lt al bl (o++(bl.drop j).take k) i (j+k):=
 (m.swap.chunkA hb k hc).swap
def Fin2(lt:Keyed->Keyed->Bool)(al bl r:List Keyed):Prop:=r.Perm (al++bl)/\Srt lt r
def MInv.fin{al bl o:List Keyed}{i j:Nat}(m:MInv lt al bl o i j)(hi:al.length<=i)(hj:bl.length<=j):Fin2 lt al bl o:=by
 have p:=m.perm
 rw[WZ hi,WZ hj]at p
 exact⟨p,m.srt⟩
def MInv.doneB{al bl o:List Keyed}{i j:Nat}(m:MInv lt al bl o i j)(ha:Srt lt al)(hj:bl.length<=j):Fin2 lt al bl (o++al.drop i++bl.drop j):=by
 have e:bl.drop j=[]:=drop_of_length_le hj
 have z:=m.chunkA ha al.length (λx _ y hy=>by rw[e]at hy;cases hy)
 rw[e,append_nil]
 have e2:(al.drop i).take al.length=al.drop i:=WZ (by rw[length_drop];exact W16)
 rw[e2]at z
 exact z.fin W52 hj
def MInv.doneA{al bl o:List Keyed}{i j:Nat}(m:MInv lt al bl o i j)(hb:Srt lt bl)(hi:al.length<=i):Fin2 lt al bl (o++al.drop i++bl.drop j):=by
 have e:al.drop i=[]:=drop_of_length_le hi
 have z:=m.chunkB hb bl.length (λx _ y hy=>by rw[e]at hy;cases hy)
 rw[e,append_nil]
 have e2:(bl.drop j).take bl.length=bl.drop j:=WZ (by rw[length_drop];exact W16)
 rw[e2]at z
 exact z.fin hi W52
def MInv.lastA{al bl o:List Keyed}{i j:Nat}(m:MInv lt al bl o i j)(ha:Srt lt al)(hb:Srt lt bl)(hl:∀ x∈bl,∀ y∈al.drop i,lt y x=false):Fin2 lt al bl (o++bl.drop j++al.drop i):=by
 have z:=m.chunkB hb bl.length (λx hx y hy=>hl x (mem_of_mem_drop (mem_of_mem_take hx)) y hy)
 have e2:(bl.drop j).take bl.length=bl.drop j:=WZ (by rw[length_drop];exact W16)
 rw[e2]at z
 have z2:=z.doneB ha W52
 have e3:bl.drop (j+bl.length)=[]:=drop_of_length_le {}
 rw[e3,append_nil]at z2
 exact z2
theorem bound(B:Nat->Bool):∀ n,(∀ i j,i<=j->j<n->B j=true->B i=true) -> ∃ k,k<=n /\ ∀ i,i<n->B i=decide (i<k)
 | 0,_=>⟨0,ZH _,λi hi=>absurd hi (Nat.not_lt_zero _)⟩
 | n+1,h=>by
  obtain⟨k,hk,hB⟩:=bound B n λi j a b c=>h i j a {} c
  cases hn:B n with
  | true=>
   refine⟨n+1,ZH _,λi hi=>?_⟩
   rw[h i n {} {} hn,ZA hi]
  | false=>
   refine⟨k,{},λi hi=>?_⟩
   by_cases e:i=n
   ·rw[e,hn,ZI {}]
   ·exact hB i (W46 hi e)
def q55{a:Array Keyed}{i:Nat}(h:i<a.size):a.toList[i]? = some (kas_item a i):=by
 unfold kas_item
 simp[Array.getD,h]
def q24{a:Array Keyed}{i:Nat}(h:i<a.size):kas_item a i∈a.toList:=WQ (q55 h)
def q123{a:Array Keyed}{i:Nat}{y:Keyed}(h:y∈a.toList.drop i):∃ j,i<=j/\j<a.size/\y=kas_item a j:=by
 obtain⟨k,hk⟩:=mem_iff_getElem?.mp h
 rw[getElem?_drop]at hk
 have hl:=(eA hk).1
 have hl':i+k<a.size:=by simpa using hl
 exists i+k,W12,hl'
 rw[q55 hl']at hk
 exact(Option.some.inj hk).symm
def q370{a:Array Keyed}{i k:Nat}{y:Keyed}(h:y∈(a.toList.drop i).take k):∃ j,i<=j/\j<i+k/\j<a.size/\y=kas_item a j:=by
 obtain⟨m,hm⟩:=mem_iff_getElem?.mp h
 rw[getElem?_take]at hm
 by_cases c:m<k
 ·rw[ZL c,getElem?_drop]at hm
  have hl:=(eA hm).1
  have hl':i+m<a.size:=by simpa using hl
  exists i+m,W12,(W20 c),hl'
  rw[q55 hl']at hm
  exact(Option.some.inj hm).symm
 ·rw[ZJ c]at hm
  cases hm
def q115{a:Array Keyed}{i j:Nat}(T:Tot P lt)(h:Srt lt a.toList)(hP:∀ x∈a.toList,P x)(hij:i<j)(hj:j<a.size):lt (kas_item a j) (kas_item a i)=false:=by
 have hi:i<a.size:=(W79 hj hij)
 have z:=List.pairwise_iff_getElem.mp h i j (by simpa using hi) (by simpa using hj) hij
 have e1:=(eA (q55 hi)).2
 have e2:=(eA (q55 hj)).2
 rw[e1,e2]at z
 exact z
end
end TS
namespace TS
set_option autoImplicit false
open PySem PySem.W PyProof.Rows List
section
variable {P:Keyed->Prop}{lt:Keyed->Keyed->Bool}{a b out:Array Keyed}{i j k:Nat}
abbrev AInv(lt:Keyed->Keyed->Bool)(a b out:Array Keyed)(i j:Nat):Prop:=MInv lt a.toList b.toList out.toList i j
abbrev FinA(lt:Keyed->Keyed->Bool)(a b r:Array Keyed):Prop:=Fin2 lt a.toList b.toList r.toList
def q282(h:k<=a.size):(a.extract i k).toList=(a.toList.drop i).take (k-i):=by
 simp[extract_eq_take_drop]
def q236:(a.extract i a.size).toList=a.toList.drop i:=by
 rw[q282 (ZH _)]
 exact WZ (by simp)
def q204(h:i<a.size):(a.toList.drop i).take 1=[kas_item a i]:=by
 have e:=(eA (q55 h))
 obtain⟨h1,h2⟩:=e
 rw[drop_eq_getElem_cons h1,h2]
 rfl
def pushB(T:Tot P lt)(sb:Srt lt b.toList)(sa:Srt lt a.toList)(pa:∀ x∈a.toList,P x)(pb:∀ x∈b.toList,P x)(m:AInv lt a b out i j)(hi:i<a.size)(hj:j<b.size)(h:lt (kas_item b j) (kas_item a i)=true):AInv lt a b (out.push (kas_item b j)) i (j+1):=by
 have z:=m.chunkB sb 1 (λx hx y hy=>by
  rw[q204 hj]at hx
  cases eD hx
  obtain⟨j',h1,h2,rfl⟩:=q123 hy
  have q1:=T.asym _ _ (pb _ (q24 hj)) (pa _ (q24 hi)) h
  by_cases e:i=j'
  ·rw[<- e];exact q1
  ·exact T.trans _ _ _ (pb _ (q24 hj)) (pa _ (q24 hi)) (pa _ (q24 h2)) q1 (q115 T sa pa (W9 h1 e) h2))
 rw[q204 hj]at z
 simpa [AInv] using z
def pushA(T:Tot P lt)(sb:Srt lt b.toList)(sa:Srt lt a.toList)(pa:∀ x∈a.toList,P x)(pb:∀ x∈b.toList,P x)(m:AInv lt a b out i j)(hi:i<a.size)(h:j<b.size->lt (kas_item b j) (kas_item a i)=false):AInv lt a b (out.push (kas_item a i)) (i+1) j:=by
 have z:=m.chunkA sa 1 (λx hx y hy=>by
  rw[q204 hi]at hx
  cases eD hx
  obtain⟨j',h1,h2,rfl⟩:=q123 hy
  have hj:j<b.size:=(W94 h2 h1)
  have q1:=h hj
  by_cases e:j=j'
  ·rw[<- e];exact q1
  ·exact T.trans _ _ _ (pa _ (q24 hi)) (pb _ (q24 hj)) (pb _ (q24 h2)) q1 (q115 T sb pb (W9 h1 e) h2))
 rw[q204 hi]at z
 simpa [AInv] using z
def exA(T:Tot P lt)(sa:Srt lt a.toList)(pa:∀ x∈a.toList,P x){key:Keyed}(hk:P key)(n:Nat)(hn:i+n<=a.size):∃ k,k<=n /\ ∀ t,t<n->(if false=true then lt (kas_item a (i+t)) key else !(lt key (kas_item a (i+t))))=decide (t<k):=by
 refine bound _ n λt u htu hu h=>?_
 rw[ZJ fnt]at h ⊢
 rw[Bool.not_eq_true']at h ⊢
 by_cases e:t=u
 ·rw[e];exact h
 ·exact T.trans _ _ _ (pa _ (q24 {})) (pa _ (q24 {})) hk (q115 T sa pa {} {}) h
def exB(T:Tot P lt)(sb:Srt lt b.toList)(pb:∀ x∈b.toList,P x){key:Keyed}(hk:P key)(n:Nat)(hn:j+n<=b.size):∃ k,k<=n /\ ∀ t,t<n->(if true=true then lt (kas_item b (j+t)) key else !(lt key (kas_item b (j+t))))=decide (t<k):=by
 refine bound _ n λt u htu hu h=>?_
 rw[ZL rfl]at h ⊢
 by_cases e:t=u
 ·rw[e];exact h
 ·cases c:lt (kas_item b (j+t)) key with
  | true=>rfl
  | false=>
   have z:=T.trans _ _ _ hk (pb _ (q24 {})) (pb _ (q24 {})) c (q115 T sb pb (show j+t<j+u by lia) {})
   rw[h]at z
   cases z
def galA(T:Tot P lt)(sb:Srt lt b.toList)(sa:Srt lt a.toList)(pa:∀ x∈a.toList,P x)(pb:∀ x∈b.toList,P x)(m:AInv lt a b out i j)(hi:i<=a.size)(hj:j<b.size)(hk:k<=a.size-i)
  (h:∀ t,t<a.size-i->(if false=true then lt (kas_item a (i+t)) (kas_item b j)else !(lt (kas_item b j) (kas_item a (i+t))))=decide (t<k)) :
  AInv lt a b (out++a.extract i (i+k)) (i+k) j/\(i+k<a.size->lt (kas_item b j) (kas_item a (i+k))=true):=by
 constructor
 ·have z:=m.chunkA sa k (λx hx y hy=>by
   obtain⟨i',g1,g2,g3,rfl⟩:=q370 hx
   obtain⟨j',h1,h2,rfl⟩:=q123 hy
   have q:=h (i'-i) {}
   rw[ZJ fnt,show i+(i'-i)=i' by exact W15 g1,ZA (W28 g2 g1),Bool.not_eq_true']at q
   by_cases e:j=j'
   ·rw[<- e];exact q
   ·exact T.trans _ _ _ (pa _ (q24 g3)) (pb _ (q24 hj)) (pb _ (q24 h2)) q (q115 T sb pb (W9 h1 e) h2))
  have e:(out++a.extract i (i+k)).toList=out.toList++(a.toList.drop i).take k:=by
   rw[WN,q282 (W109 hk hi),show i+k-i=k by exact W7]
  show MInv lt _ _ (out++a.extract i (i+k)).toList _ _
  rw[e]
  exact z
 ·intro hlt
  have q:=h k {}
  rw[ZJ fnt,ZI {},Bool.not_eq_false']at q
  exact q
def galB(T:Tot P lt)(sb:Srt lt b.toList)(sa:Srt lt a.toList)(pa:∀ x∈a.toList,P x)(pb:∀ x∈b.toList,P x)(m:AInv lt a b out i j)(hi:i<a.size)(hj:j<=b.size)(hk:k<=b.size-j)
  (h:∀ t,t<b.size-j->(if true=true then lt (kas_item b (j+t)) (kas_item a i)else !(lt (kas_item a i) (kas_item b (j+t))))=decide (t<k)) :
  AInv lt a b (out++b.extract j (j+k)) i (j+k)/\(j+k<b.size->lt (kas_item b (j+k)) (kas_item a i)=false):=by
 constructor
 ·have z:=m.chunkB sb k (λx hx y hy=>by
   obtain⟨j',g1,g2,g3,rfl⟩:=q370 hx
   obtain⟨i',h1,h2,rfl⟩:=q123 hy
   have q:=h (j'-j) {}
   rw[ZL rfl,show j+(j'-j)=j' by exact W15 g1,ZA (W28 g2 g1)]at q
   have q1:=T.asym _ _ (pb _ (q24 g3)) (pa _ (q24 hi)) q
   by_cases e:i=i'
   ·rw[<- e];exact q1
   ·exact T.trans _ _ _ (pb _ (q24 g3)) (pa _ (q24 hi)) (pa _ (q24 h2)) q1 (q115 T sa pa (W9 h1 e) h2))
  have e:(out++b.extract j (j+k)).toList=out.toList++(b.toList.drop j).take k:=by
   rw[WN,q282 (W109 hk hj),show j+k-j=k by exact W7]
  show MInv lt _ _ (out++b.extract j (j+k)).toList _ _
  rw[e]
  exact z
 ·intro hlt
  have q:=h k {}
  rw[ZL rfl,ZI {}]at q
  exact q
def doneB(sa:Srt lt a.toList)(m:AInv lt a b out i j)(h:j=b.size):FinA lt a b (out++a.extract i a.size++b.extract j b.size):=by
 have z:=MInv.doneB m sa (by rw[h];simp)
 show Fin2 lt _ _ (out++a.extract i a.size++b.extract j b.size).toList
 rw[WN,WN,q236,q236]
 exact z
def doneA(sb:Srt lt b.toList)(m:AInv lt a b out i j)(h:i=a.size):FinA lt a b (out++a.extract i a.size++b.extract j b.size):=by
 have z:=MInv.doneA m sb (by rw[h];simp)
 show Fin2 lt _ _ (out++a.extract i a.size++b.extract j b.size).toList
 rw[WN,WN,q236,q236]
 exact z
def lastA(sa:Srt lt a.toList)(sb:Srt lt b.toList)(m:AInv lt a b out i j)(h:i+1=a.size)(hl:∀ x∈b.toList,lt (kas_item a (a.size-1)) x=false):FinA lt a b (out++b.extract j b.size++a.extract i a.size):=by
 have z:=MInv.lastA m sa sb (λx hx y hy=>by
  obtain⟨i',g1,g2,rfl⟩:=q123 hy
  have:i'=a.size-1:={}
  rw[this]
  exact hl x hx)
 show Fin2 lt _ _ (out++b.extract j b.size++a.extract i a.size).toList
 rw[WN,WN,q236,q236]
 exact z
end
section
variable {prog:Program}{w:World}{A:Around}{E:VS}{κ:SortKind}{P:Keyed->Prop}{lt:Keyed->Keyed->Bool}
def Kp(st st':SortSt):Prop:=kindOf st'=kindOf st/\arrOf st'=arrOf st/\pendingOf st'=pendingOf st/\failedOf st'=failedOf st
def Kp.refl(st:SortSt):Kp st st:=⟨rfl,rfl,rfl,rfl⟩
def Kp.trans{a b c:SortSt}(h:Kp a b)(g:Kp b c):Kp a c:=⟨g.1.trans h.1,g.2.1.trans h.2.1,g.2.2.1.trans h.2.2.1,g.2.2.2.trans h.2.2.2⟩
def q555{g:Nat}{Q:Unit->SortSt->Shared->Prop}{st:SortSt}{s:Shared}(h:∀ st',Kp st st'->Q () st' s):kasC (model prog w) A E (setMG' g) Q st s:=by
 refine kasC_modify (h _ ⟨rfl,rfl,rfl,rfl⟩)
end
end TS
namespace TS
set_option autoImplicit false
open PySem PySem.W PyProof.Rows List
section
variable {prog:Program}{w:World}{A:Around}{E:VS}{κ:SortKind}{P:Keyed->Prop}{lt:Keyed->Keyed->Bool}
def q163{β:Type}{f:Nat->β->M2 (ForInStep β)}{Q:β->SortSt->Shared->Prop}{n:Nat}{b:β}{st:SortSt}{s:Shared}(I:Nat->β->SortSt->Shared->Prop)(R:β->SortSt->Shared->Prop)(h0:I 0 b st s)(he:∀ b st s,I n b st s->R b st s)
  (hs:∀ k x b st s,k<n->I k b st s -> ∀ N:ForInStep β->SortSt->Shared->Prop,(∀{b st s},R b st s->N (.done b) st s)->(∀{b st s},I (k+1) b st s->N (.yield b) st s)->kasC (model prog w) A E (f x b) N st s) (hR:∀ b st s,R b st s->Q b st s):kasC (model prog w) A E (forIn [0:n] b f) Q st s:=
 q92 I R h0 he (λk x b st s hk hi=>hs k x b st s hk hi _ id id) hR
def c_J1{α:Type}(J:Unit->Nat->M2 α){c:Prop}{_d:Decidable c}{x y:Nat}{Q:α->SortSt->Shared->Prop}{st:SortSt}{s:Shared}(h:∀ g,kasC (model prog w) A E (J () g) Q st s):kasC (model prog w) A E (if c then J () x else J () y) Q st s:=by
 split <;> exact h _
def c_jp{α β γ:Type}(J:Unit->β->γ->M2 α){c:Prop}{_d:Decidable c}{x:M2 α}{o:β}{i:γ}{Q:α->SortSt->Shared->Prop}{st:SortSt}{s:Shared}(I:β->γ->Prop)(hJ:∀ o i,I o i->kasC (model prog w) A E (J () o i) Q st s)(hx:c->(∀ o i,I o i->kasC (model prog w) A E (J () o i) Q st s)->kasC (model prog w) A E x Q st s)(h0:¬ c->I o i):kasC (model prog w) A E (if c then x else J () o i) Q st s:=by
 by_cases h:c
 ·rw[ZL h]
  exact hx h hJ
 ·rw[ZJ h]
  exact hJ _ _ (h0 h)
def mergeLo_{s:Shared}(G:Good prog w A E κ P lt s)(T:Tot P lt){a b:Array Keyed}{Q:Array Keyed->SortSt->Shared->Prop}{st:SortSt}(hst:kindOf st=κ)(pa:∀ x∈a.toList,P x)(pb:∀ x∈b.toList,P x)(sa:Srt lt a.toList)(sb:Srt lt b.toList)
  (na:0<a.size) (nb:0<b.size) (h0:lt (kas_item b 0) (kas_item a 0)=true) (hl:∀ x∈b.toList,lt (kas_item a (a.size-1)) x=false) (h:∀ r st',Kp st st'->FinA lt a b r->Q r st' s):kasC (model prog w) A E (mergeLo' a b) Q st s:=by
 have m0:AInv lt a b (#[]:Array Keyed) 0 0:=MInv.zero _ _
 have m1:=pushB T sb sa pa pb m0 na nb h0
 refine ZP (kasC_lift (wpAny_rule ?_))
 refine ZP (q52 nb ?_)
 extract_lets -merge
 dsimp -zeta +zetaDelta only
 by_cases c1:1=b.size
 ·rw[ZL (by simp[<- c1])]
  exact ZV (h _ _ (Kp.refl _) (doneB sa m1 c1))
 rw[ZJ (by simpa using c1)]
 by_cases c2:0+1=a.size
 ·rw[ZL (by simp[<- c2])]
  exact ZV (h _ _ (Kp.refl _) (lastA sa sb m1 c2 hl))
 rw[ZJ (by simpa using c2)]
 refine ZP (kasC_get ?_)
 refine ZP (q163 (λt r st' s'=>Kp st st'/\s'=s /\ ∃ out i j mg,r=(none,out,i,j,mg)/\AInv lt a b out i j/\i+1<a.size/\j<b.size/\t<=i+j)
  (λr st' s'=>Kp st st'/\s'=s /\ ∃ res z,r=(some res,z)/\FinA lt a b res) ⟨Kp.refl _,rfl,_,_,_,_,rfl,m1,{},{},{}⟩ ?_ ?_ ?_)
 ·rintro r st' s' ⟨_,_,out,i,j,mg,_,_,h1,h2,h3⟩
  lia
 ·rintro t x r st' s' ht ⟨K1,rfl,out,i,j,mg,rfl,m,hi,hj,hij⟩ N dn yl
  dsimp -zeta only
  extract_lets -merge
  dsimp -zeta +zetaDelta only
  refine ZP (q163 (λu r st₂ s₂=>st₂=st'/\s₂=s' /\ ∃ out₂ i₂ j₂ ac bc,r=(none,out₂,i₂,j₂,ac,bc)/\AInv lt a b out₂ i₂ j₂/\i₂+1<a.size/\j₂<b.size/\u+(i+j)<=i₂+j₂)
   (λr st₂ s₂=>st₂=st'/\s₂=s'/\((∃ res z,r=(some res,z)/\FinA lt a b res) \/ ∃ out₂ i₂ j₂ ac bc,r=(none,out₂,i₂,j₂,ac,bc)/\AInv lt a b out₂ i₂ j₂/\i₂+1<a.size/\j₂<b.size/\i+j<=i₂+j₂))
   ⟨rfl,rfl,_,_,_,_,_,rfl,m,hi,hj,{}⟩ ?_ ?_ ?_)
  ·rintro r st₂ s₂ ⟨_,_,out₂,i₂,j₂,ac,bc,_,_,h1,h2,h3⟩
   lia
  ·rintro u x r st₂ s₂ hu ⟨rfl,rfl,out₂,i₂,j₂,ac,bc,rfl,m₂,hi₂,hj₂,hu₂⟩ N dn yl
   dsimp -zeta only
   extract_lets -merge
   dsimp -zeta +zetaDelta only
   refine ZP (q52 hj₂ (ZP (q52 (show i₂<a.size by exact W63 hi₂) ?_)))
   refine ZP (G _ _ _ _ (pb _ (q24 hj₂)) (pa _ (q24 (show i₂<a.size by lia))) (K1.1.trans hst) ?_)
   dsimp -zeta only
   cases hb:lt (kas_item b j₂) (kas_item a i₂) with
   | true=>
    rw[ZL rfl]
    refine ZP (q52 hj₂ ?_)
    have m₃:=pushB T sb sa pa pb m₂ {} hj₂ hb
    by_cases d1:j₂+1=b.size
    ·rw[ZL (by simp[<- d1])]
     exact ZV (dn ⟨rfl,rfl,.inl ⟨_,_,rfl,doneB sa m₃ d1⟩⟩)
    rw[ZJ (by simpa using d1)]
    by_cases d2:bc+1>=mg
    ·rw[ZL d2]
     exact ZV (dn ⟨rfl,rfl,.inr ⟨_,_,_,_,_,rfl,m₃,hi₂,{},{}⟩⟩)
    ·rw[ZJ d2]
     exact ZV (yl ⟨rfl,rfl,_,_,_,_,_,rfl,m₃,hi₂,{},{}⟩)
   | false=>
    rw[ZJ fnt]
    refine ZP (q52 (show i₂<a.size by lia) ?_)
    have m₃:=pushA T sb sa pa pb m₂ {} (λ_=>hb)
    by_cases d1:i₂+1+1=a.size
    ·rw[ZL (by simp[<- d1])]
     exact ZV (dn ⟨rfl,rfl,.inl ⟨_,_,rfl,lastA sa sb m₃ d1 hl⟩⟩)
    rw[ZJ (by simpa using d1)]
    by_cases d2:ac+1>=mg
    ·rw[ZL d2]
     exact ZV (dn ⟨rfl,rfl,.inr ⟨_,_,_,_,_,rfl,m₃,(W107 hi₂ d1),hj₂,{}⟩⟩)
    ·rw[ZJ d2]
     exact ZV (yl ⟨rfl,rfl,_,_,_,_,_,rfl,m₃,{},hj₂,{}⟩)
  ·rintro r st₂ s₂ ⟨rfl,rfl,hr⟩
   rcases hr with ⟨res,z,rfl,hf⟩ | ⟨out₂,i₂,j₂,ac,bc,rfl,m₂,hi₂,hj₂,hu₂⟩
   ·exact ZV (dn ⟨K1,rfl,_,_,rfl,hf⟩)
   dsimp -zeta only
   extract_lets -merge
   dsimp -zeta +zetaDelta only
   refine ZP (kasC_lift (wpAny_rule ?_))
   refine ZP (q163 (λu r st₃ s₃=>Kp st st₃/\s₃=s₂ /\ ∃ out₃ i₃ j₃ mg ac bc,r=(none,out₃,i₃,j₃,mg,ac,bc)/\AInv lt a b out₃ i₃ j₃/\i₃+1<a.size/\j₃<b.size/\u+(i₂+j₂)<=i₃+j₃)
    (λr st₃ s₃=>Kp st st₃/\s₃=s₂/\((∃ res z,r=(some res,z)/\FinA lt a b res) \/ ∃ out₃ i₃ j₃ mg ac bc,r=(none,out₃,i₃,j₃,mg,ac,bc)/\AInv lt a b out₃ i₃ j₃/\i₃+1<a.size/\j₃<b.size/\i₂+j₂+1<=i₃+j₃))
    ⟨K1,rfl,_,_,_,_,_,_,rfl,m₂,hi₂,hj₂,{}⟩ ?_ ?_ ?_)
   ·rintro r st₃ s₃ ⟨_,_,out₃,i₃,j₃,mg,ac,bc,_,_,h1,h2,h3⟩
    lia
   ·rintro u x r st₃ s₃ hu ⟨K3,rfl,out₃,i₃,j₃,mg,ac,bc,rfl,m₃,hi₃,hj₃,hu₃⟩ N dn yl
    dsimp -zeta only
    extract_lets -merge +onlyGivenNames _ _ _ _ _ _ _ _ _ _ _
    dsimp -zeta +zetaDelta only
    extract_lets -underBinder jp
    refine c_J1 jp λmgx=>?_
    dsimp -zeta only [jp]
    clear jp
    obtain⟨k,hk,hB⟩:=exA T sa pa (pb _ (q24 hj₃)) (a.size-i₃) (i:=i₃) {}
    obtain⟨m₄,hk4⟩:=galA T sb sa pa pb m₃ {} hj₃ hk hB
    have key:∀ st₄,Kp st st₄->kindOf st₄=κ:=λst₄ K4=>K4.1.trans hst
    refine ZP (q555 λst₄ K4=>?_)
    have K5:=K3.trans K4
    refine ZP (q52 hj₃ ?_)
    refine ZP (q235 G (key _ K5) (pb _ (q24 hj₃)) (λt ht=>pa _ (q24 {})) {} {} hk hB ?_)
    dsimp -zeta only
    extract_lets -merge +onlyGivenNames _
    dsimp -zeta +zetaDelta only
    extract_lets -underBinder jp
    refine c_jp jp (λo i'=>AInv lt a b o i' j₃/\i'+1<a.size/\lt (kas_item b j₃) (kas_item a i')=true/\i₃<=i') ?_ ?_ ?_
    ·rintro o i' ⟨m₄,hi4,hb4,hle⟩
     dsimp -zeta only [jp]
     clear jp
     refine ZP (q52 hj₃ ?_)
     extract_lets -merge
     dsimp -zeta +zetaDelta only
     have m₅:=pushB T sb sa pa pb m₄ (W63 hi4) hj₃ hb4
     by_cases d3:j₃+1=b.size
     ·rw[ZL (by simp[<- d3])]
      exact ZV (dn ⟨K5,rfl,.inl ⟨_,_,rfl,doneB sa m₅ d3⟩⟩)
     rw[ZJ (by simpa using d3)]
     have hi5:i'<a.size:={}
     refine ZP (q52 hi5 ?_)
     generalize o.push (kas_item b j₃)=o5 at m₅ ⊢
     have hj5:i₃+j₃<i'+(j₃+1)/\j₃+1<b.size:={}
     generalize j₃+1=j5 at m₅ hj5 ⊢
     obtain⟨k2,hk2,hB2⟩:=exB T sb pb (pa _ (q24 hi5)) (b.size-j5) (j:=j5) {}
     obtain⟨m₆,hk6⟩:=galB T sb sa pa pb m₅ hi5 {} hk2 hB2
     refine ZP (q235 G (key _ K5) (pa _ (q24 hi5)) (λt ht=>pb _ (q24 {})) {} {} hk2 hB2 ?_)
     dsimp -zeta only
     extract_lets -merge +onlyGivenNames _
     dsimp -zeta +zetaDelta only
     extract_lets -underBinder jp
     refine c_jp jp (λo j'=>AInv lt a b o i' j'/\j'<b.size/\lt (kas_item b j') (kas_item a i')=false/\j5<=j') ?_ ?_ ?_
     ·rintro o j' ⟨m₆,hj6,hb6,hl6⟩
      dsimp -zeta only [jp]
      clear jp
      refine ZP (q52 hi5 ?_)
      extract_lets -merge
      dsimp -zeta +zetaDelta only
      have m₇:=pushA T sb sa pa pb m₆ hi5 (λ_=>hb6)
      by_cases d5:i'+1+1=a.size
      ·rw[ZL (by simp[<- d5])]
       exact ZV (dn ⟨K5,rfl,.inl ⟨_,_,rfl,lastA sa sb m₇ d5 hl⟩⟩)
      rw[ZJ (by simpa using d5)]
      split
      ·exact ZV (dn ⟨K5,rfl,.inr ⟨_,_,_,_,_,_,rfl,m₇,(W107 hi4 d5),hj6,{}⟩⟩)
      ·exact ZV (yl ⟨K5,rfl,_,_,_,_,_,_,rfl,m₇,{},hj6,{}⟩)
     ·intro hk20 J
      clear_value jp
      dsimp -zeta +zetaDelta only
      by_cases d4:j5+k2=b.size
      ·rw[ZL (by simp[<- d4])]
       exact ZV (dn ⟨K5,rfl,.inl ⟨_,_,rfl,doneB sa m₆ d4⟩⟩)
      rw[ZJ (by simpa using d4)]
      exact J _ _ ⟨m₆,{},hk6 {},{}⟩
     ·intro hk20
      obtain rfl:k2=0:=(W112 hk20)
      exact⟨m₅,{},hk6 {},ZH _⟩
    ·intro hk0 J
     clear_value jp
     dsimp -zeta +zetaDelta only
     by_cases d1:i₃+k+1=a.size
     ·rw[ZL (by simp[<- d1])]
      exact ZV (dn ⟨K5,rfl,.inl ⟨_,_,rfl,lastA sa sb m₄ d1 hl⟩⟩)
     rw[ZJ (by simpa using d1)]
     by_cases d2:i₃+k=a.size
     ·rw[ZL (by simp[<- d2])]
      exact ZV (dn ⟨K5,rfl,.inl ⟨_,_,rfl,doneA sb m₄ d2⟩⟩)
     rw[ZJ (by simpa using d2)]
     exact J _ _ ⟨m₄,{},hk4 {},{}⟩
    ·intro hk0
     obtain rfl:k=0:=(W112 hk0)
     exact⟨m₃,hi₃,hk4 {},ZH _⟩
   ·rintro r st₃ s₃ ⟨K3,rfl,hr⟩
    rcases hr with ⟨res,z,rfl,hf⟩ | ⟨out₃,i₃,j₃,mg,ac,bc,rfl,m₃,hi₃,hj₃,hu₃⟩
    ·exact ZV (dn ⟨K3,rfl,_,_,rfl,hf⟩)
    dsimp -zeta only
    extract_lets -merge
    dsimp -zeta +zetaDelta only
    refine ZP (q555 λst₄ K4=>?_)
    exact ZV (yl ⟨K3.trans K4,rfl,_,_,_,_,rfl,m₃,hi₃,hj₃,{}⟩)
 ·rintro r st' s' ⟨K1,rfl,res,z,rfl,hf⟩
  exact ZV (h _ _ K1 hf)
end
end TS
namespace TS
set_option autoImplicit false
open PySem PySem.W PyProof.Rows List
section
variable {P:Keyed->Prop}{lt:Keyed->Keyed->Bool}
structure HInv(lt:Keyed->Keyed->Bool)(al bl o:List Keyed)(i j:Nat):Prop where
 perm:o.Perm (al.drop i++bl.drop j)
 srt:Srt lt o
 ba:∀ x∈al.take i,∀ y∈o,lt y x=false
 bb:∀ x∈bl.take j,∀ y∈o,lt y x=false
def HInv.swap{al bl o:List Keyed}{i j:Nat}(m:HInv lt al bl o i j):HInv lt bl al o j i:=⟨m.perm.trans perm_append_comm,m.srt,m.bb,m.ba⟩
def HInv.chunkA{al bl o:List Keyed}{i j:Nat}(m:HInv lt al bl o i j)(ha:Srt lt al)(at_:Nat)(h:at_<=i)(hi:i<=al.length)(hc:∀ x∈bl.take j,∀ y∈(al.take i).drop at_,lt y x=false):HInv lt al bl ((al.take i).drop at_++o) at_ j:=by
 have hs:Srt lt (al.take i):=List.Pairwise.sublist (take_sublist i al) ha
 have e0:(al.take i).take at_=al.take at_:=by rw[take_take,Nat.min_eq_left h]
 have e1:al.take i=al.take at_++(al.take i).drop at_:=by rw[<- e0,take_append_drop]
 have hs2:=hs
 rw[e1]at hs2
 have hs':=List.pairwise_append.mp hs2
 have e2:al.drop at_=(al.take i).drop at_++al.drop i:=by
  have z:al=al.take i++al.drop i:=(take_append_drop i al).symm
  have z2:=congrArg (List.drop at_) z
  rw[drop_append_of_le_length (by rw[length_take];lia)]at z2
  exact z2
 have sub1:∀ y∈(al.take i).drop at_,y∈al.take i:=λy hy=>mem_of_mem_drop hy
 have sub2:∀ y∈al.take at_,y∈al.take i:=λy hy=>by rw[e1];exact mem_append_left _ hy
 refine⟨?_,?_,λx hx y hy=>?_,λx hx y hy=>?_⟩
 ·rw[e2,YZ]
  exact m.perm.append_left _
 ·exact List.pairwise_append.mpr ⟨hs'.2.1,m.srt,λx hx y hy=>m.ba x (sub1 x hx) y hy⟩
 ·rcases eC hy with h' | h'
  ·exact hs'.2.2 x hx y h'
  ·exact m.ba x (sub2 x hx) y h'
 ·rcases eC hy with h' | h'
  ·exact hc x hx y h'
  ·exact m.bb x hx y h'
def HInv.chunkB{al bl o:List Keyed}{i j:Nat}(m:HInv lt al bl o i j)(hb:Srt lt bl)(at_:Nat)(h:at_<=j)(hj:j<=bl.length)(hc:∀ x∈al.take i,∀ y∈(bl.take j).drop at_,lt y x=false):HInv lt al bl ((bl.take j).drop at_++o) i at_:=
 (m.swap.chunkA hb at_ h hj hc).swap
def HInv.zero(al bl:List Keyed):HInv lt al bl [] al.length bl.length:=⟨by simp,.nil,λx hx y hy=>absurd hy (by simp),λx hx y hy=>absurd hy (by simp)⟩
def HInv.fin{al bl o:List Keyed}(m:HInv lt al bl o 0 0):Fin2 lt al bl o:=⟨by simpa using m.perm,m.srt⟩
variable{a b out:Array Keyed}{i j k:Nat}
abbrev BInv(lt:Keyed->Keyed->Bool)(a b out:Array Keyed)(i j:Nat):Prop:=HInv lt a.toList b.toList out.reverse.toList i j
def ext0(h:i<=a.size):(a.extract k i).toList=(a.toList.take i).drop k:=by
 rw[q282 h,drop_take]
def q304{x:Keyed}(h:x∈a.toList.take i):∃ t,t<i/\t<a.size/\x=kas_item a t:=by
 obtain⟨m,hm⟩:=mem_iff_getElem?.mp h
 rw[getElem?_take]at hm
 by_cases c:m<i
 ·rw[ZL c]at hm
  have hl:=(eA hm).1
  have hl':m<a.size:=by simpa using hl
  exists m,c,hl'
  rw[q55 hl']at hm
  exact(Option.some.inj hm).symm
 ·rw[ZJ c]at hm
  cases hm
def q556{x:Keyed}(h:x∈(a.toList.take i).drop k):∃ t,k<=t/\t<i/\t<a.size/\x=kas_item a t:=by
 obtain⟨m,hm⟩:=mem_iff_getElem?.mp h
 rw[getElem?_drop,getElem?_take]at hm
 by_cases c:k+m<i
 ·rw[ZL c]at hm
  have hl:=(eA hm).1
  have hl':k+m<a.size:=by simpa using hl
  exists k+m,W12,c,hl'
  rw[q55 hl']at hm
  exact(Option.some.inj hm).symm
 ·rw[ZJ c]at hm
  cases hm
def one_last(h0:0<i)(h:i<=a.size):(a.toList.take i).drop (i-1)=[kas_item a (i-1)]:=by
 obtain⟨t,rfl⟩:∃ t,i=t+1:=⟨i-1,{}⟩
 have e:=q55 (a:=a) (i:=t) {}
 rw[Nat.add_sub_cancel,WW,e,drop_append_of_le_length (by simp;lia),drop_of_length_le (by rw[length_take];lia)]
 rfl
def hgalA(T:Tot P lt)(sb:Srt lt b.toList)(sa:Srt lt a.toList)(pa:∀ x∈a.toList,P x)(pb:∀ x∈b.toList,P x)(m:BInv lt a b out i j)(hi:i<=a.size)(hj0:0<j)(hj:j<=b.size)(hk:k<=i)
  (h:∀ t,k<=t->t<i->lt (kas_item b (j-1)) (kas_item a t)=true):BInv lt a b (out++(a.extract k i).reverse) k j:=by
 have z:=m.chunkA sa k hk (by simpa using hi) (λx hx y hy=>by
  obtain⟨j',h1,h2,rfl⟩:=q304 hx
  obtain⟨t,g1,g2,g3,rfl⟩:=q556 hy
  have q:=T.asym _ _ (pb _ (q24 (W108 hj0 hj))) (pa _ (q24 g3)) (h t g1 g2)
  by_cases e:j'=j-1
  ·rw[e];exact q
  ·exact T.trans _ _ _ (pb _ (q24 h2)) (pb _ (q24 {})) (pa _ (q24 g3)) (q115 T sb pb (W24 hj0 h1 e) {}) q)
 have e:(out++(a.extract k i).reverse).reverse.toList=(a.toList.take i).drop k++out.reverse.toList:=by
  rw[<- ext0 hi]
  simp
 show HInv lt _ _ (out++(a.extract k i).reverse).reverse.toList _ _
 rw[e]
 exact z
def hgalB(T:Tot P lt)(sb:Srt lt b.toList)(sa:Srt lt a.toList)(pa:∀ x∈a.toList,P x)(pb:∀ x∈b.toList,P x)(m:BInv lt a b out i j)(hi0:0<i)(hi:i<=a.size)(hj:j<=b.size)(hk:k<=j)
  (h:∀ t,k<=t->t<j->lt (kas_item b t) (kas_item a (i-1))=false):BInv lt a b (out++(b.extract k j).reverse) i k:=by
 have z:=m.chunkB sb k hk (by simpa using hj) (λx hx y hy=>by
  obtain⟨i',h1,h2,rfl⟩:=q304 hx
  obtain⟨t,g1,g2,g3,rfl⟩:=q556 hy
  have q:=h t g1 g2
  by_cases e:i'=i-1
  ·rw[e];exact q
  ·exact T.trans _ _ _ (pa _ (q24 h2)) (pa _ (q24 (W108 hi0 hi))) (pb _ (q24 g3)) (q115 T sa pa (W24 hi0 h1 e) {}) q)
 have e:(out++(b.extract k j).reverse).reverse.toList=(b.toList.take j).drop k++out.reverse.toList:=by
  rw[<- ext0 hj]
  simp
 show HInv lt _ _ (out++(b.extract k j).reverse).reverse.toList _ _
 rw[e]
 exact z
def q557(h0:0<i)(h:i<=a.size):out++(a.extract (i-1) i).reverse=out.push (kas_item a (i-1)):=by
 apply Array.toList_inj.mp
 rw[WN,Array.toList_reverse,ext0 h,one_last h0 h]
 simp
def q684(T:Tot P lt)(sb:Srt lt b.toList)(sa:Srt lt a.toList)(pa:∀ x∈a.toList,P x)(pb:∀ x∈b.toList,P x)(m:BInv lt a b out i j)(hi0:0<i)(hi:i<=a.size)(hj0:0<j)(hj:j<=b.size)(h:lt (kas_item b (j-1)) (kas_item a (i-1))=true):BInv lt a b (out.push (kas_item a (i-1))) (i-1) j:=by
 rw[<- q557 hi0 hi]
 exact hgalA T sb sa pa pb m hi hj0 hj (W35 hi0) λt h1 h2=>by
  have:t=i-1:=(W83 hi0 h2 h1)
  rw[this];exact h
def hpushB(T:Tot P lt)(sb:Srt lt b.toList)(sa:Srt lt a.toList)(pa:∀ x∈a.toList,P x)(pb:∀ x∈b.toList,P x)(m:BInv lt a b out i j)(hi0:0<i)(hi:i<=a.size)(hj0:0<j)(hj:j<=b.size)(h:lt (kas_item b (j-1)) (kas_item a (i-1))=false):BInv lt a b (out.push (kas_item b (j-1))) i (j-1):=by
 rw[<- q557 hj0 hj]
 exact hgalB T sb sa pa pb m hi0 hi hj (W35 hj0) λt h1 h2=>by
  have:t=j-1:=(W83 hj0 h2 h1)
  rw[this];exact h
def q558(sb:Srt lt b.toList)(m:BInv lt a b out i j)(hj:j<=b.size)(h:i=0):FinA lt a b (a.extract 0 i++b.extract 0 j++out.reverse):=by
 subst h
 have z:=(m.chunkB sb 0 (WA _) (by simpa using hj) (λx hx=>absurd hx (by simp))).fin
 show Fin2 lt _ _ (a.extract 0 0++b.extract 0 j++out.reverse).toList
 rw[WN,WN,ext0 hj,ext0 (WA _)]
 simpa using z
def hdoneB(sa:Srt lt a.toList)(m:BInv lt a b out i j)(hi:i<=a.size)(h:j=0):FinA lt a b (a.extract 0 i++b.extract 0 j++out.reverse):=by
 subst h
 have z:=(m.chunkA sa 0 (WA _) (by simpa using hi) (λx hx=>absurd hx (by simp))).fin
 show Fin2 lt _ _ (a.extract 0 i++b.extract 0 0++out.reverse).toList
 rw[WN,WN,ext0 hi,ext0 (WA _)]
 simpa using z
def q559(sa:Srt lt a.toList)(sb:Srt lt b.toList)(m:BInv lt a b out i j)(hi:i<=a.size)(hj:j<=b.size)(h:j=1)(hf:∀ x∈a.toList,lt x (kas_item b 0)=false):FinA lt a b (b.extract 0 j++a.extract 0 i++out.reverse):=by
 subst h
 have z:=m.chunkA sa 0 (WA _) (by simpa using hi) (λx hx y hy=>by
  obtain⟨t,h1,h2,rfl⟩:=q304 hx
  have:t=0:={}
  subst this
  exact hf y (mem_of_mem_take (mem_of_mem_drop hy)))
 have z2:=(z.chunkB sb 0 (WA _) (by simpa using hj) (λx hx=>absurd hx (by simp))).fin
 show Fin2 lt _ _ (b.extract 0 1++a.extract 0 i++out.reverse).toList
 rw[WN,WN,ext0 hi,ext0 hj]
 simpa using z2
end
section
variable {prog:Program}{w:World}{A:Around}{E:VS}{κ:SortKind}{P:Keyed->Prop}{lt:Keyed->Keyed->Bool}
def mergeHi_{s:Shared}(G:Good prog w A E κ P lt s)(T:Tot P lt){a b:Array Keyed}{Q:Array Keyed->SortSt->Shared->Prop}{st:SortSt}(hst:kindOf st=κ)(pa:∀ x∈a.toList,P x)(pb:∀ x∈b.toList,P x)(sa:Srt lt a.toList)(sb:Srt lt b.toList)
  (na:0<a.size) (nb:0<b.size) (hl:lt (kas_item b (b.size-1)) (kas_item a (a.size-1))=true) (hf:∀ x∈a.toList,lt x (kas_item b 0)=false) (h:∀ r st',Kp st st'->FinA lt a b r->Q r st' s):kasC (model prog w) A E (mergeHi' a b) Q st s:=by
 have m0:BInv lt a b (#[]:Array Keyed) a.size b.size:=by
  have z:=HInv.zero (lt:=lt) a.toList b.toList
  simpa [BInv] using z
 have m1:=q684 T sb sa pa pb m0 na (ZH _) nb (ZH _) hl
 refine ZP (kasC_lift (wpAny_rule ?_))
 refine ZP (q52 (show a.size-1<a.size by exact W11 na) ?_)
 extract_lets -merge
 dsimp -zeta +zetaDelta only
 by_cases c1:a.size-1=0
 ·rw[ZL (by simp[c1])]
  exact ZV (h _ _ (Kp.refl _) (q558 sb m1 (ZH _) c1))
 rw[ZJ (by simpa using c1)]
 by_cases c2:b.size=1
 ·rw[ZL (by simp[c2])]
  exact ZV (h _ _ (Kp.refl _) (q559 sa sb m1 (W35 na) (ZH _) c2 hf))
 rw[ZJ (by simpa using c2)]
 refine ZP (kasC_get ?_)
 refine ZP (q163 (λt r st' s'=>Kp st st'/\s'=s /\ ∃ i j out mg,r=(none,i,j,out,mg)/\BInv lt a b out i j/\1<=i/\i<=a.size/\2<=j/\j<=b.size/\t+i+j<=a.size+b.size)
  (λr st' s'=>Kp st st'/\s'=s /\ ∃ res z,r=(some res,z)/\FinA lt a b res) ⟨Kp.refl _,rfl,_,_,_,_,rfl,m1,{},{},{},W77,{}⟩ ?_ ?_ ?_)
 ·rintro r st' s' ⟨_,_,i,j,out,mg,_,_,h1,h2,h3,h4,h5⟩
  lia
 ·rintro t x r st' s' ht ⟨K1,rfl,i,j,out,mg,rfl,m,hi0,hi,hj0,hj,hij⟩ N dn yl
  dsimp -zeta only
  extract_lets -merge
  dsimp -zeta +zetaDelta only
  refine ZP (q163 (λu r st₂ s₂=>st₂=st'/\s₂=s' /\ ∃ i₂ j₂ out₂ ac bc,r=(none,i₂,j₂,out₂,ac,bc)/\BInv lt a b out₂ i₂ j₂/\1<=i₂/\i₂<=a.size/\2<=j₂/\j₂<=b.size/\u+i₂+j₂<=i+j)
   (λr st₂ s₂=>st₂=st'/\s₂=s'/\((∃ res z,r=(some res,z)/\FinA lt a b res) \/ ∃ i₂ j₂ out₂ ac bc,r=(none,i₂,j₂,out₂,ac,bc)/\BInv lt a b out₂ i₂ j₂/\1<=i₂/\i₂<=a.size/\2<=j₂/\j₂<=b.size/\i₂+j₂<=i+j))
   ⟨rfl,rfl,_,_,_,_,_,rfl,m,hi0,hi,hj0,hj,W104⟩ ?_ ?_ ?_)
  ·rintro r st₂ s₂ ⟨_,_,i₂,j₂,out₂,ac,bc,_,_,h1,h2,h3,h4,h5⟩
   lia
  ·rintro u x r st₂ s₂ hu ⟨rfl,rfl,i₂,j₂,out₂,ac,bc,rfl,m₂,hi₂0,hi₂,hj₂0,hj₂,hu₂⟩ N dn yl
   dsimp -zeta only
   extract_lets -merge
   dsimp -zeta +zetaDelta only
   have ja:j₂-1<b.size:=(W110 hj₂0 hj₂)
   have ia:i₂-1<a.size:={}
   refine ZP (q52 ja (ZP (q52 ia ?_)))
   refine ZP (G _ _ _ _ (pb _ (q24 ja)) (pa _ (q24 ia)) (K1.1.trans hst) ?_)
   dsimp -zeta only
   cases hb:lt (kas_item b (j₂-1)) (kas_item a (i₂-1)) with
   | true=>
    rw[ZL rfl]
    refine ZP (q52 ia ?_)
    have m₃:=q684 T sb sa pa pb m₂ {} hi₂ (W68 hj₂0) hj₂ hb
    by_cases d1:i₂-1=0
    ·rw[ZL (by simp[d1])]
     exact ZV (dn ⟨rfl,rfl,.inl ⟨_,_,rfl,q558 sb m₃ hj₂ d1⟩⟩)
    rw[ZJ (by simpa using d1)]
    by_cases d2:ac+1>=mg
    ·rw[ZL d2]
     exact ZV (dn ⟨rfl,rfl,.inr ⟨_,_,_,_,_,rfl,m₃,{},(W57 ia),{},{},{}⟩⟩)
    ·rw[ZJ d2]
     exact ZV (yl ⟨rfl,rfl,_,_,_,_,_,rfl,m₃,{},{},{},{},{}⟩)
   | false=>
    rw[ZJ fnt]
    refine ZP (q52 ja ?_)
    have m₃:=hpushB T sb sa pa pb m₂ {} hi₂ {} hj₂ hb
    by_cases d1:j₂-1=1
    ·rw[ZL (by simp[d1])]
     exact ZV (dn ⟨rfl,rfl,.inl ⟨_,_,rfl,q559 sa sb m₃ hi₂ {} d1 hf⟩⟩)
    rw[ZJ (by simpa using d1)]
    by_cases d2:bc+1>=mg
    ·rw[ZL d2]
     exact ZV (dn ⟨rfl,rfl,.inr ⟨_,_,_,_,_,rfl,m₃,{},{},{},(W57 ja),(W80 hi₂0 hj₂0 hu₂ d1)⟩⟩)
    ·rw[ZJ d2]
     exact ZV (yl ⟨rfl,rfl,_,_,_,_,_,rfl,m₃,{},{},{},{},(W75 hi₂0 hj₂0 hu₂ d1)⟩)
  ·rintro r st₂ s₂ ⟨rfl,rfl,hr⟩
   rcases hr with ⟨res,z,rfl,hfin⟩ | ⟨i₂,j₂,out₂,ac,bc,rfl,m₂,hi₂0,hi₂,hj₂0,hj₂,hu₂⟩
   ·exact ZV (dn ⟨K1,rfl,_,_,rfl,hfin⟩)
   dsimp -zeta only
   extract_lets -merge
   dsimp -zeta +zetaDelta only
   refine ZP (kasC_lift (wpAny_rule ?_))
   refine ZP (q163 (λu r st₃ s₃=>Kp st st₃/\s₃=s₂ /\ ∃ i₃ j₃ out₃ mg ac bc,r=(none,i₃,j₃,out₃,mg,ac,bc)/\BInv lt a b out₃ i₃ j₃/\1<=i₃/\i₃<=a.size/\2<=j₃/\j₃<=b.size/\u+i₃+j₃<=i₂+j₂)
    (λr st₃ s₃=>Kp st st₃/\s₃=s₂/\((∃ res z,r=(some res,z)/\FinA lt a b res) \/ ∃ i₃ j₃ out₃ mg ac bc,r=(none,i₃,j₃,out₃,mg,ac,bc)/\BInv lt a b out₃ i₃ j₃/\1<=i₃/\i₃<=a.size/\2<=j₃/\j₃<=b.size/\1+i₃+j₃<=i₂+j₂))
    ⟨K1,rfl,_,_,_,_,_,_,rfl,m₂,hi₂0,hi₂,hj₂0,hj₂,W104⟩ ?_ ?_ ?_)
   ·rintro r st₃ s₃ ⟨_,_,i₃,j₃,out₃,mg,ac,bc,_,_,h1,h2,h3,h4,h5⟩
    lia
   ·rintro u x r st₃ s₃ hu ⟨K3,rfl,i₃,j₃,out₃,mg,ac,bc,rfl,m₃,hi₃0,hi₃,hj₃0,hj₃,hu₃⟩ N dn yl
    dsimp -zeta only
    extract_lets -merge +onlyGivenNames _ _ _ _ _ _ _ _ _ _ _
    dsimp -zeta +zetaDelta only
    extract_lets -underBinder jp
    refine c_J1 jp λmgx=>?_
    dsimp -zeta only [jp]
    clear jp
    have ja:j₃-1<b.size:=(W110 hj₃0 hj₃)
    obtain⟨k,hk,hB⟩:=exA T sa pa (pb _ (q24 ja)) i₃ (i:=0) {}
    have gA:∀ t,t<k->lt (kas_item b (j₃-1)) (kas_item a t)=false:=λt ht=>by
     have q:=hB t (W33 ht hk)
     rw[ZJ fnt,Nat.zero_add,ZA ht,Bool.not_eq_true']at q
     exact q
    have gB:∀ t,k<=t->t<i₃->lt (kas_item b (j₃-1)) (kas_item a t)=true:=λt h1 h2=>by
     have q:=hB t h2
     rw[ZJ fnt,Nat.zero_add,ZI (W45 h1),Bool.not_eq_false']at q
     exact q
    have m₄:=hgalA T sb sa pa pb m₃ hi₃ (W68 hj₃0) hj₃ hk gB
    have key:∀ st₄,Kp st st₄->kindOf st₄=κ:=λst₄ K4=>K4.1.trans hst
    refine ZP (q555 λst₄ K4=>?_)
    have K5:=K3.trans K4
    refine ZP (q52 ja ?_)
    refine ZP (q235 G (key _ K5) (pb _ (q24 ja)) (λt ht=>pa _ (q24 {})) {} {} hk hB ?_)
    dsimp -zeta only
    extract_lets -merge +onlyGivenNames _
    dsimp -zeta +zetaDelta only
    extract_lets -underBinder jp
    refine c_jp jp (λi' o=>BInv lt a b o i' j₃/\0<i'/\i'<=i₃/\lt (kas_item b (j₃-1)) (kas_item a (i'-1))=false) ?_ ?_ ?_
    ·rintro i' o ⟨m₄,hi4,hi4',hb4⟩
     dsimp -zeta only [jp]
     clear jp
     refine ZP (q52 ja ?_)
     extract_lets -merge
     dsimp -zeta +zetaDelta only
     have m₅:=hpushB T sb sa pa pb m₄ hi4 (W84 hi4' hi₃) (W68 hj₃0) {} hb4
     by_cases d3:j₃-1=1
     ·rw[ZL (by simp[d3])]
      exact ZV (dn ⟨K5,rfl,.inl ⟨_,_,rfl,q559 sa sb m₅ {} {} d3 hf⟩⟩)
     rw[ZJ (by simpa using d3)]
     have hi5:i'-1<a.size:={}
     refine ZP (q52 hi5 ?_)
     generalize o.push (kas_item b (j₃-1))=o5 at m₅ ⊢
     have hj5:2<=j₃-1/\j₃-1<j₃:={}
     generalize j₃-1=j5 at m₅ hj5 ⊢
     obtain⟨k2,hk2,hB2⟩:=exB T sb pb (pa _ (q24 hi5)) j5 (j:=0) {}
     have gA2:∀ t,t<k2->lt (kas_item b t) (kas_item a (i'-1))=true:=λt ht=>by
      have q:=hB2 t (W33 ht hk2)
      rw[ZL rfl,Nat.zero_add,ZA ht]at q
      exact q
     have gB2:∀ t,k2<=t->t<j5->lt (kas_item b t) (kas_item a (i'-1))=false:=λt h1 h2=>by
      have q:=hB2 t h2
      rw[ZL rfl,Nat.zero_add,ZI (W45 h1)]at q
      exact q
     refine ZP (q235 G (key _ K5) (pa _ (q24 hi5)) (λt ht=>pb _ (q24 {})) {} {} hk2 hB2 ?_)
     dsimp -zeta only
     extract_lets -merge +onlyGivenNames _
     dsimp -zeta +zetaDelta only
     extract_lets -underBinder jp
     refine c_jp jp (λj' o=>BInv lt a b o i' j'/\2<=j'/\j'<=j5/\lt (kas_item b (j'-1)) (kas_item a (i'-1))=true) ?_ ?_ ?_
     ·rintro j' o ⟨m₆,hj6,hj6',hb6⟩
      dsimp -zeta only [jp]
      clear jp
      refine ZP (q52 hi5 ?_)
      extract_lets -merge
      dsimp -zeta +zetaDelta only
      have m₇:=q684 T sb sa pa pb m₆ hi4 (W84 hi4' hi₃) (W68 hj6) {} hb6
      by_cases d6:i'-1=0
      ·rw[ZL (by simp[d6])]
       exact ZV (dn ⟨K5,rfl,.inl ⟨_,_,rfl,q558 sb m₇ {} d6⟩⟩)
      rw[ZJ (by simpa using d6)]
      split
      ·exact ZV (dn ⟨K5,rfl,.inr ⟨_,_,_,_,_,_,rfl,m₇,{},(W57 hi5),{},{},{}⟩⟩)
      ·exact ZV (yl ⟨K5,rfl,_,_,_,_,_,_,rfl,m₇,{},{},{},{},{}⟩)
     ·intro hz2 J
      clear_value jp
      dsimp -zeta +zetaDelta only
      have m₆:=hgalB T sb sa pa pb m₅ hi4 (W84 hi4' hi₃) {} (show k2<=j5 by lia) gB2
      by_cases d4:k2=1
      ·rw[ZL (by simp[d4])]
       exact ZV (dn ⟨K5,rfl,.inl ⟨_,_,rfl,q559 sa sb m₆ {} {} d4 hf⟩⟩)
      rw[ZJ (by simpa using d4)]
      by_cases d5:k2=0
      ·rw[ZL (by simp[d5])]
       exact ZV (dn ⟨K5,rfl,.inl ⟨_,_,rfl,hdoneB sa m₆ {} d5⟩⟩)
      rw[ZJ (by simpa using d5)]
      exact J _ _ ⟨m₆,{},{},gA2 _ (W39 d5)⟩
     ·intro hz2
      exact⟨m₅,{},ZH _,gA2 _ {}⟩
    ·intro hz J
     clear_value jp
     dsimp -zeta +zetaDelta only
     by_cases d1:k=0
     ·rw[ZL (by simp[d1])]
      exact ZV (dn ⟨K5,rfl,.inl ⟨_,_,rfl,q558 sb m₄ hj₃ d1⟩⟩)
     rw[ZJ (by simpa using d1)]
     exact J _ _ ⟨m₄,{},{},gA _ (W39 d1)⟩
    ·intro hz
     exact⟨m₃,{},ZH _,gA _ {}⟩
   ·rintro r st₃ s₃ ⟨K3,rfl,hr⟩
    rcases hr with ⟨res,z,rfl,hfin⟩ | ⟨i₃,j₃,out₃,mg,ac,bc,rfl,m₃,hi₃0,hi₃,hj₃0,hj₃,hu₃⟩
    ·exact ZV (dn ⟨K3,rfl,_,_,rfl,hfin⟩)
    dsimp -zeta only
    extract_lets -merge
    dsimp -zeta +zetaDelta only
    refine ZP (q555 λst₄ K4=>?_)
    exact ZV (yl ⟨K3.trans K4,rfl,_,_,_,_,rfl,m₃,hi₃0,hi₃,hj₃0,hj₃,{}⟩)
 ·rintro r st' s' ⟨K1,rfl,res,z,rfl,hfin⟩
  exact ZV (h _ _ K1 hfin)
end
end TS
namespace TS
set_option autoImplicit false
open PySem PySem.W PyProof.Rows List
section
variable {prog:Program}{w:World}{A:Around}{E:VS}
theorem c_upto{β:Type}{f:Nat->β->M2 (ForInStep β)}{R:β->SortSt->Shared->Prop}(I:Nat->β->SortSt->Shared->Prop) :
  ∀(m a:Nat)(b:β)(st:SortSt)(s:Shared),I a b st s->(∀ b st s,I (a+m) b st s->R b st s) ->
  (∀ k b st s,a<=k->k<a+m->I k b st s->kasC (model prog w) A E (f k b) (λr st' s'=>match r with | .done b'=>R b' st' s' | .yield b'=>I (k+1) b' st' s') st s) ->
  kasC (model prog w) A E (forIn (List.range' a m) b f) R st s
 | 0,a,b,st,s,hi,hq,_=>kasC_nil (hq b st s hi)
 | m+1,a,b,st,s,hi,hq,hs=>by
  rw[range'_succ]
  refine kasC_cons (YJ (hs a b st s (ZH _) {} hi) (λr s' h=>?_) λ_ _ e=>e)
  obtain⟨r,st'⟩:=r
  cases r with
  | done b'=>exact h
  | yield b'=>exact c_upto I m (a+1) b' st' s' h (λb st s hb=>hq b st s (by rw[show a+(m+1)=a+1+m by exact W64];exact hb)) (λk b st s h1 h2 h3=>hs k b st s (W86 h1) {} h3)
def q205{β:Type}{f:Nat->β->M2 (ForInStep β)}{Q:β->SortSt->Shared->Prop}{a n:Nat}{b:β}{st:SortSt}{s:Shared}(han:a<=n)(I:Nat->β->SortSt->Shared->Prop)(R:β->SortSt->Shared->Prop)(h0:I a b st s)(he:∀ b st s,I n b st s->R b st s)
  (hs:∀ k b st s,a<=k->k<n->I k b st s->kasC (model prog w) A E (f k b) (λr st' s'=>match r with | .done b'=>R b' st' s' | .yield b'=>I (k+1) b' st' s') st s) (hR:∀ b st s,R b st s->Q b st s):kasC (model prog w) A E (forIn [a:n] b f) Q st s:=by
 refine kasC_range (YJ (c_upto I (n-a) a b st s h0 (λb st s h=>he b st s (by rw[show a+(n-a)=n by exact W15 han]at h;exact h)) (λk b st s h1 h2 h3=>hs k b st s h1 {} h3)) (λr s' h=>hR _ _ _ h) λ_ _ e=>e)
end
section
variable {P:Keyed->Prop}{lt:Keyed->Keyed->Bool}
def q118{xs ys:Array Keyed}{i j:Nat}(h:xs[i]? = ys[j]?):kas_item xs i=kas_item ys j:=by
 unfold kas_item
 rw[Array.getD_eq_getD_getElem?,Array.getD_eq_getD_getElem?,h]
def q305{xs:Array Keyed}{src d:Nat}(hs:src<xs.size)(hd:d<=src)(t:Nat):kas_item (bubble xs src d) t=if t=src-d then kas_item xs src else if src-d<t/\t<=src then kas_item xs (t-1)else kas_item xs t:=by
 have e:=getElem?_bubble hs d hd t
 by_cases h1:t=src-d
 ·rw[ZL h1]at e ⊢;exact q118 e
 ·rw[ZJ h1]at e ⊢
  by_cases h2:src-d<t/\t<=src
  ·rw[ZL h2]at e ⊢;exact q118 e
  ·rw[ZJ h2]at e ⊢;exact q118 e
def q193{xs:Array Keyed}{i j:Nat}(hj:j<=xs.size)(t:Nat):kas_item (mirror xs i j ((j-i)/2)) t=if i<=t/\t<j then kas_item xs (i+j-1-t)else kas_item xs t:=by
 have e:=getElem?_mirror_all (i:=i) hj t
 by_cases h1:i<=t/\t<j
 ·rw[ZL h1]at e ⊢;exact q118 e
 ·rw[ZJ h1]at e ⊢;exact q118 e
structure Loc(xs ys:Array Keyed)(lo hi:Nat):Prop where
 size:ys.size=xs.size
 perm:ys.Perm xs
 out:∀ t,t<lo\/hi<=t->ys[t]? = xs[t]?
def Loc.refl(xs:Array Keyed)(lo hi:Nat):Loc xs xs lo hi:=⟨rfl,Array.Perm.refl _,λ_ _=>rfl⟩
def Loc.trans{xs ys zs:Array Keyed}{lo hi:Nat}(a:Loc xs ys lo hi)(b:Loc ys zs lo hi):Loc xs zs lo hi:=⟨b.size.trans a.size,b.perm.trans a.perm,λt ht=>(b.out t ht).trans (a.out t ht)⟩
def Loc.wide{xs ys:Array Keyed}{lo hi lo' hi':Nat}(a:Loc xs ys lo hi)(h1:lo'<=lo)(h2:hi<=hi'):Loc xs ys lo' hi':=⟨a.size,a.perm,λt ht=>a.out t {}⟩
def Loc.good{xs ys:Array Keyed}{lo hi:Nat}(a:Loc xs ys lo hi)(h:∀ x∈xs.toList,P x):∀ x∈ys.toList,P x:=λx hx=>h x ((Array.perm_iff_toList_perm.mp a.perm).mem_iff.mp hx)
def q614{xs:Array Keyed}{src d:Nat}(hs:src<xs.size)(hd:d<=src):Loc xs (bubble xs src d) (src-d) (src+1):=⟨bubble_size _ _ _,bubble_perm _ _ _,λt ht=>by
 rw[getElem?_bubble hs d hd t]
 by_cases h1:t=src-d
 ·lia
 ·rw[ZJ h1,ZJ {}]⟩
def q72{xs:Array Keyed}{i j:Nat}(hj:j<=xs.size):Loc xs (mirror xs i j ((j-i)/2)) i j:=⟨mirror_size _ _ _ _,mirror_perm _ _ _ _,λt ht=>by
 rw[getElem?_mirror_all hj t,ZJ {}]⟩
def Asc(lt:Keyed->Keyed->Bool)(xs:Array Keyed)(lo n:Nat):Prop:=∀ p q,p<q->q<n->lt (kas_item xs (lo+q)) (kas_item xs (lo+p))=false
def Su(st st':SortSt):Prop:=kindOf st'=kindOf st/\pendingOf st'=pendingOf st/\failedOf st'=failedOf st
def Su.refl(st:SortSt):Su st st:=⟨rfl,rfl,rfl⟩
def Su.trans{a b c:SortSt}(h:Su a b)(g:Su b c):Su a c:=⟨g.1.trans h.1,g.2.1.trans h.2.1,g.2.2.trans h.2.2⟩
def ins_asc(T:Tot P lt){xs:Array Keyed}{lo k l:Nat}(hp:∀ x∈xs.toList,P x)(hz:lo+k<xs.size)(hl:l<=k)(hs:Asc lt xs lo k)(h1:∀ t,t<l->lt (kas_item xs (lo+k)) (kas_item xs (lo+t))=false)(h2:∀ t,l<=t->t<k->lt (kas_item xs (lo+k)) (kas_item xs (lo+t))=true) :
  Asc lt (bubble xs (lo+k) (lo+k-(lo+l))) lo (k+1):=by
 have pm:∀ t,t<=k->P (kas_item xs (lo+t)):=λt ht=>hp _ (q24 {})
 intro p q hpq hq
 rw[q305 hz (W66 hl),q305 hz {}]
 by_cases q1:q=l
 ·rw[ZL {},ZJ {},ZJ {}]
  exact h1 p {}
 ·rw[ZJ (show ¬ lo+q=lo+k-(lo+k-(lo+l)) by lia)]
  by_cases q2:l<q
  ·rw[ZL (show lo+k-(lo+k-(lo+l))<lo+q/\lo+q<=lo+k by lia),show lo+q-1=lo+(q-1) by exact W4 hpq]
   by_cases p1:p=l
   ·rw[ZL {}]
    exact T.asym _ _ (pm k (ZH _)) (pm (q-1) {}) (h2 (q-1) {} {})
   ·rw[ZJ {}]
    by_cases p2:l<p
    ·rw[ZL {},show lo+p-1=lo+(p-1) by exact W4 p2]
     exact hs (p-1) (q-1) {} {}
    ·rw[ZJ (W78 hl p2)]
     exact hs p (q-1) {} {}
  ·rw[ZJ (W78 hl q2),ZJ {},ZJ {}]
   exact hs p q hpq {}
end
section
variable {prog:Program}{w:World}{A:Around}{E:VS}{κ:SortKind}{P:Keyed->Prop}{lt:Keyed->Keyed->Bool}
def q371{s:Shared}(G:Good prog w A E κ P lt s){i j:Nat}{Q:Option Bool->SortSt->Shared->Prop}{st:SortSt}(hst:kindOf st=κ)(hp:∀ x∈(arrOf st).toList,P x)(hi:i<(arrOf st).size)(hj:j<(arrOf st).size)
  (h:Q (some (lt (kas_item (arrOf st) i) (kas_item (arrOf st) j))) st s):kasC (model prog w) A E (ltAt' i j) Q st s:=by
 rw[ltAt'_eq]
 refine ZP (kasC_get (ZP (q52 hi (ZP (q52 hj ?_)))))
 exact G _ _ _ _ (hp _ (q24 hi)) (hp _ (q24 hj)) hst h
def c_move{k l:Nat}{Q:Unit->SortSt->Shared->Prop}{st:SortSt}{s:Shared}(h:∀ st',Su st st'->arrOf st'=bubble (arrOf st) k (k-l)->Q () st' s):kasC (model prog w) A E (moveDown' k l) Q st s:=by
 rw[moveDown'_eq]
 exact kasC_modify (h _ ⟨rfl,rfl,rfl⟩ rfl)
def c_rev{i j:Nat}{Q:Unit->SortSt->Shared->Prop}{st:SortSt}{s:Shared}(h:∀ st',Su st st'->arrOf st'=mirror (arrOf st) i j ((j-i)/2)->Q () st' s):kasC (model prog w) A E (reverseSlice' i j) Q st s:=by
 rw[reverseSlice'_eq]
 exact kasC_modify (h _ ⟨rfl,rfl,rfl⟩ rfl)
def q520{s:Shared}(G:Good prog w A E κ P lt s)(T:Tot P lt){lo n ok:Nat}{Q:Bool->SortSt->Shared->Prop}{st:SortSt}(hst:kindOf st=κ)(hp:∀ x∈(arrOf st).toList,P x)(hn:lo+n<=(arrOf st).size)(hok:ok<=n)(h1:1<=n)(hs:Asc lt (arrOf st) lo ok)
  (h:∀ st',Su st st'->Loc (arrOf st) (arrOf st') lo (lo+n)->Asc lt (arrOf st') lo n->Q true st' s):kasC (model prog w) A E (binarySort' lo n ok) Q st s:=by
 refine ZP (q205 (show max ok 1<=n by lia) (λk r st' s'=>s'=s/\r=(none,())/\Su st st'/\Loc (arrOf st) (arrOf st') lo (lo+n)/\Asc lt (arrOf st') lo k) (λr st' s'=>s'=s/\r=(none,())/\Su st st'/\Loc (arrOf st) (arrOf st') lo (lo+n)/\Asc lt (arrOf st') lo n)
  ⟨rfl,rfl,Su.refl _,Loc.refl _ _ _,λp q h1 h2=>hs p q h1 {}⟩ (λ_ _ _ h=>h) ?_ ?_)
 ·rintro k r st' s' hk1 hk2 ⟨rfl,rfl,S1,L1,A1⟩
  dsimp only
  have hp':=L1.good hp
  have hz:(arrOf st').size=(arrOf st).size:=L1.size
  refine ZP (q92 (λu r st₂ s₂=>st₂=st'/\s₂=s' /\ ∃ l r',r=(none,l,r')/\l<=r'/\r'<=k/\(r'-l)+u<=k/\(∀ t,t<l->lt (kas_item (arrOf st') (lo+k)) (kas_item (arrOf st') (lo+t))=false) /\ ∀ t,r'<=t->t<k->lt (kas_item (arrOf st') (lo+k)) (kas_item (arrOf st') (lo+t))=true)
   (λr st₂ s₂=>st₂=st'/\s₂=s' /\ ∃ l r',r=(none,l,r')/\l<=k/\(∀ t,t<l->lt (kas_item (arrOf st') (lo+k)) (kas_item (arrOf st') (lo+t))=false) /\ ∀ t,l<=t->t<k->lt (kas_item (arrOf st') (lo+k)) (kas_item (arrOf st') (lo+t))=true)
   ⟨rfl,rfl,0,k,rfl,{},W77,{},λt ht=>absurd ht (Nat.not_lt_zero _),λt h1 h2=>{}⟩ ?_ ?_ ?_)
  ·rintro r st₂ s₂ ⟨rfl,rfl,l,r',rfl,g1,g2,g3,g4,g5⟩
   exact⟨rfl,rfl,l,r',rfl,{},g4,λt h1 h2=>g5 t {} h2⟩
  ·rintro u x r st₂ s₂ hu ⟨rfl,rfl,l,r',rfl,g1,g2,g3,g4,g5⟩
   dsimp only
   by_cases c:l>=r'
   ·rw[ZL c]
    exact ZV ⟨rfl,rfl,l,r',rfl,{},g4,λt h1 h2=>g5 t {} h2⟩
   rw[ZJ c]
   refine ZP (q371 G (S1.1.trans hst) hp' (W76 hz hk2 hn) {} ?_)
   dsimp only
   have pm:∀ t,t<=k->P (kas_item (arrOf st₂) (lo+t)):=λt ht=>hp' _ (q24 {})
   cases hl:lt (kas_item (arrOf st₂) (lo+k)) (kas_item (arrOf st₂) (lo+(l+r')/2)) with
   | true=>
    rw[ZL rfl]
    refine ZV ⟨rfl,rfl,_,_,rfl,{},(W70 g2 c),{},g4,λt h1 h2=>?_⟩
    by_cases e:t=(l+r')/2
    ·rw[e];exact hl
    ·cases c2:lt (kas_item (arrOf st₂) (lo+k)) (kas_item (arrOf st₂) (lo+t)) with
     | true=>rfl
     | false=>
      have z:=T.trans _ _ _ (pm ((l+r')/2) {}) (pm t (W21 h2)) (pm k (ZH _)) (A1 _ _ {} h2) c2
      rw[hl]at z
      cases z
   | false=>
    rw[ZJ fnt]
    refine ZV ⟨rfl,rfl,_,_,rfl,{},{},{},λt ht=>?_,g5⟩
    by_cases e:t=(l+r')/2
    ·rw[e];exact hl
    ·exact T.trans _ _ _ (pm t {}) (pm ((l+r')/2) (W70 g2 c)) (pm k (ZH _)) (A1 _ _ {} {}) hl
  ·rintro r st₂ s₂ ⟨rfl,rfl,l,r',rfl,g1,g4,g5⟩
   dsimp only
   refine ZP (c_move λst₃ S3 e3=>ZV ⟨rfl,rfl,S1.trans S3,?_,?_⟩)
   ·rw[e3]
    exact L1.trans ((q614 (W76 hz hk2 hn) (W66 g1)).wide {} {})
   ·rw[e3]
    exact ins_asc T hp' {} g1 A1 g4 g5
 ·rintro r st' s' ⟨rfl,rfl,S1,L1,A1⟩
  exact ZV (h _ S1 L1 A1)
end
end TS
namespace TS
set_option autoImplicit false
open PySem PySem.W PyProof.Rows List
section
variable {P:Keyed->Prop}{lt:Keyed->Keyed->Bool}
def Desc(lt:Keyed->Keyed->Bool)(xs:Array Keyed)(lo n:Nat):Prop:=∀ p q,p<q->q<n->lt (kas_item xs (lo+p)) (kas_item xs (lo+q))=false
noncomputable def EqT(lt:Keyed->Keyed->Bool)(xs:Array Keyed)(lo i m:Nat):Prop:=∀ p q,i<=p->p<m->i<=q->q<m->lt (kas_item xs (lo+p)) (kas_item xs (lo+q))=false
def q152(T:Tot P lt){xs:Array Keyed}{lo m:Nat}(hp:∀ x∈xs.toList,P x)(hz:lo+m<xs.size)(h:Desc lt xs lo m)(h1:0<m->lt (kas_item xs (lo+m-1)) (kas_item xs (lo+m))=false):Desc lt xs lo (m+1):=by
 have pm:∀ t,t<=m->P (kas_item xs (lo+t)):=λt ht=>hp _ (q24 {})
 intro p q hpq hq
 by_cases e:q=m
 ·have z:=h1 {}
  rw[show lo+m-1=lo+(m-1) by lia]at z
  rw[e]
  by_cases e2:p=m-1
  ·rw[e2];exact z
  ·exact T.trans _ _ _ (pm m (ZH _)) (pm (m-1) {}) (pm p {}) z (h p (m-1) {} {})
 ·exact h p q hpq (W46 hq e)
def q560(T:Tot P lt){xs:Array Keyed}{lo m:Nat}(hp:∀ x∈xs.toList,P x)(hz:lo+m<xs.size)(h:Asc lt xs lo m)(h1:0<m->lt (kas_item xs (lo+m)) (kas_item xs (lo+m-1))=false):Asc lt xs lo (m+1):=by
 have pm:∀ t,t<=m->P (kas_item xs (lo+t)):=λt ht=>hp _ (q24 {})
 intro p q hpq hq
 by_cases e:q=m
 ·have z:=h1 {}
  rw[show lo+m-1=lo+(m-1) by lia]at z
  rw[e]
  by_cases e2:p=m-1
  ·rw[e2];exact z
  ·exact T.trans _ _ _ (pm p {}) (pm (m-1) {}) (pm m (ZH _)) (h p (m-1) {} {}) z
 ·exact h p q hpq {}
def q124{xs:Array Keyed}{lo i m t:Nat}(hz:lo+m<=xs.size)(ht:t<m):kas_item (mirror xs (lo+i) (lo+m) ((lo+m-(lo+i))/2)) (lo+t)=if i<=t then kas_item xs (lo+(i+m-1-t))else kas_item xs (lo+t):=by
 rw[q193 hz]
 by_cases c:i<=t
 ·rw[ZL {},ZL c,show lo+i+(lo+m)-1-(lo+t)=lo+(i+m-1-t) by lia]
 ·rw[ZJ {},ZJ c]
def q194{xs:Array Keyed}{lo i m:Nat}(hz:lo+m<=xs.size)(h:Desc lt xs lo m)(he:EqT lt xs lo i m):Desc lt (mirror xs (lo+i) (lo+m) ((lo+m-(lo+i))/2)) lo m:=by
 intro p q hpq hq
 rw[q124 hz (W79 hq hpq),q124 hz hq]
 by_cases c1:i<=p
 ·rw[ZL c1,ZL {}]
  exact he _ _ {} {} {} {}
 ·rw[ZJ c1]
  by_cases c2:i<=q
  ·rw[ZL c2]
   exact h _ _ {} {}
  ·rw[ZJ c2]
   exact h p q hpq hq
def q615{xs:Array Keyed}{lo m:Nat}(hz:lo+m<=xs.size)(h:Desc lt xs lo m):Asc lt (mirror xs lo (lo+m) ((lo+m-lo)/2)) lo m:=by
 have e:mirror xs lo (lo+m) ((lo+m-lo)/2)=mirror xs (lo+0) (lo+m) ((lo+m-(lo+0))/2):=rfl
 rw[e]
 intro p q hpq hq
 rw[q124 hz hq,q124 hz {},ZL (WA _),ZL (WA _)]
 exact h _ _ {} {}
end
section
variable {prog:Program}{w:World}{A:Around}{E:VS}{κ:SortKind}{P:Keyed->Prop}{lt:Keyed->Keyed->Bool}
def c_jS{α:Type}(J:Unit->M2 α){c:Prop}{_d:Decidable c}{x:M2 α}{Q:α->SortSt->Shared->Prop}{st:SortSt}{s:Shared}(I:SortSt->Prop)(hJ:∀ st,I st->kasC (model prog w) A E (J ()) Q st s)(hx:c->(∀ st,I st->kasC (model prog w) A E (J ()) Q st s)->kasC (model prog w) A E x Q st s)(h0:¬ c->I st):kasC (model prog w) A E (if c then x else J ()) Q st s:=by
 by_cases h:c
 ·rw[ZL h]
  exact hx h hJ
 ·rw[ZJ h]
  exact hJ _ (h0 h)
def q685{s:Shared}(G:Good prog w A E κ P lt s)(T:Tot P lt){lo nrem:Nat}{Q:Option Nat->SortSt->Shared->Prop}{st:SortSt}(hst:kindOf st=κ)(hp:∀ x∈(arrOf st).toList,P x)(hn:lo+nrem<=(arrOf st).size)(h1:1<=nrem)
  (h:∀ n st',1<=n->n<=nrem->Su st st'->Loc (arrOf st) (arrOf st') lo (lo+nrem)->Asc lt (arrOf st') lo n->Q (some n) st' s):kasC (model prog w) A E (countRun' lo nrem) Q st s:=by
 have irr:∀ x,P x->lt x x=false:=λx hx=>by
  cases c:lt x x with
  | false=>rfl
  | true=>exact c.symm.trans (T.asym x x hx hx c)
 refine ZP (q205 (show 1<=nrem by lia) (λk r st₉ s₉=>st₉=st/\s₉=s/\r=(none,k)/\Asc lt (arrOf st) lo k) (λr st₉ s₉=>st₉=st/\s₉=s /\ ∃ k,r=(none,k)/\1<=k/\k<=nrem/\Asc lt (arrOf st) lo k/\(k=nrem\/lt (kas_item (arrOf st) (lo+k)) (kas_item (arrOf st) (lo+k-1))=true))
  ⟨rfl,rfl,rfl,λp q a b=>absurd b {}⟩ (λr st₉ s₉ ⟨e1,e2,e3,e4⟩=>⟨e1,e2,nrem,e3,{},ZH _,e4,.inl rfl⟩) ?_ ?_)
 ·rintro k r st₉ s₉ hk1 hk2 ⟨rfl,rfl,rfl,A9⟩
  dsimp only
  refine ZP (q371 G hst hp {} {} ?_)
  dsimp only
  cases hl:lt (kas_item (arrOf st₉) (lo+k)) (kas_item (arrOf st₉) (lo+k-1)) with
  | true=>
   rw[ZL rfl]
   exact ZV ⟨rfl,rfl,k,rfl,hk1,(W21 hk2),A9,.inr hl⟩
  | false=>
   rw[ZJ fnt]
   exact ZV ⟨rfl,rfl,rfl,q560 T hp {} A9 λ_=>hl⟩
 ·rintro r st₁ s₁ ⟨rfl,rfl,n,rfl,g1,g2,A1,hbr⟩
  dsimp -zeta only
  extract_lets -merge -underBinder
  dsimp -zeta +zetaDelta only
  extract_lets -merge -underBinder jp
  by_cases c1:n=nrem
  ·rw[ZL (by simp[c1])]
   exact ZV (h n _ g1 g2 (Su.refl _) (Loc.refl _ _ _) A1)
  rw[ZJ (by simpa using c1)]
  have hbr':lt (kas_item (arrOf st₁) (lo+n)) (kas_item (arrOf st₁) (lo+n-1))=true:=by
   rcases hbr with z | z
   ·exact absurd z c1
   ·exact z
  have pm1:∀ t,t<=n->P (kas_item (arrOf st₁) (lo+t)):=λt ht=>hp _ (q24 {})
  rw[show lo+n-1=lo+(n-1) by lia]at hbr'
  have hge1:=T.asym _ _ (pm1 n (ZH _)) (pm1 (n-1) {}) hbr'
  refine c_jS jp (λst₂=>Su st₁ st₂/\Loc (arrOf st₁) (arrOf st₂) lo (lo+nrem)/\Desc lt (arrOf st₂) lo (n+1)) ?_ ?_ ?_
  ·rintro st₂ ⟨S2,L2,D2⟩
   dsimp -zeta +zetaDelta only
   clear jp
   refine ZP (kasC_lift (wpAny_rule ?_))
   refine ZP (q205 (show n+1<=nrem by lia) (λk r st₄ s₄=>s₄=s₁/\Su st₁ st₄/\Loc (arrOf st₁) (arrOf st₄) lo (lo+nrem) /\ ∃ q,r=(none,k,q)/\q+1<=k/\Desc lt (arrOf st₄) lo k/\EqT lt (arrOf st₄) lo (k-(q+1)) k)
    (λr st₄ s₄=>s₄=s₁/\Su st₁ st₄/\Loc (arrOf st₁) (arrOf st₄) lo (lo+nrem) /\ ∃ m q,r=(none,m,q)/\q+1<=m/\m<=nrem/\Desc lt (arrOf st₄) lo m/\EqT lt (arrOf st₄) lo (m-(q+1)) m)
    ⟨rfl,S2,L2,0,rfl,{},D2,λp q h1 h2 h3 h4=>by
     have ep:p=n:={}
     have eq':q=n:={}
     rw[ep,eq']
     exact irr _ (L2.good hp _ (q24 (by have:=L2.size;lia)))⟩ (λr st₄ s₄ ⟨e1,e2,e3,q,e4,e5,e6,e7⟩=>⟨e1,e2,e3,nrem,q,e4,e5,ZH _,e6,e7⟩) ?_ ?_)
   ·rintro k r st₄ s₄ hk1 hk2 ⟨rfl,S4,L4,q,rfl,hq,D4,E4⟩
    dsimp only
    have hz4:=L4.size
    have hp4:=L4.good hp
    have hk4:kindOf st₄=κ:=S4.1.trans hst
    have pm:∀ t,t<=k->P (kas_item (arrOf st₄) (lo+t)):=λt ht=>hp4 _ (q24 {})
    refine ZP (q371 G hk4 hp4 (W76 hz4 hk2 hn) {} ?_)
    dsimp only
    cases hl:lt (kas_item (arrOf st₄) (lo+k)) (kas_item (arrOf st₄) (lo+k-1)) with
    | true=>
     rw[ZL rfl]
     rw[show lo+k-1=lo+(k-1) by exact W2 hq]at hl
     have hge:=T.asym _ _ (pm k (ZH _)) (pm (k-1) {}) hl
     by_cases hq0:q > 0
     ·rw[ZL hq0]
      refine ZP (c_rev λst₅ S5 e5=>ZV ⟨rfl,S4.trans S5,?_,0,rfl,{},?_,λp q' h1 h2 h3 h4=>?_⟩)
      ·rw[e5]
       exact L4.trans ((q72 {}).wide (W56 hq) {})
      ·rw[e5,show lo+k-(q+1)=lo+(k-(q+1)) by exact W6 hq]
       have D5:=q194 {} D4 E4
       have hp5:=(q72 (xs:=arrOf st₄) (i:=lo+(k-(q+1))) (j:=lo+k) {}).good hp4
       have z1:kas_item (mirror (arrOf st₄) (lo+(k-(q+1))) (lo+k) ((lo+k-(lo+(k-(q+1))))/2)) (lo+k)=kas_item (arrOf st₄) (lo+k):=by
        rw[q193 {},ZJ {}]
       refine q152 T hp5 (by rw[mirror_size];lia) D5 λ_=>?_
       rw[show lo+k-1=lo+(k-1) by lia,z1,q124 {} {},ZL {}]
       exact T.trans _ _ _ (pm k (ZH _)) (pm (k-1) {}) (pm _ {}) hge (E4 _ _ {} {} {} {})
      ·have ep:p=k:={}
       have eq':q'=k:={}
       rw[ep,eq']
       refine irr _ ?_
       have L5:Loc (arrOf st₄) (arrOf st₅) (lo+k-(q+1)) (lo+k):=by
        rw[e5]
        exact q72 {}
       exact L5.good hp4 _ (q24 (by have:=L5.size;lia))
     ·rw[ZJ hq0]
      refine ZV ⟨rfl,S4,L4,0,rfl,{},q152 T hp4 {} D4 λ_=>?_,λp q' h1 h2 h3 h4=>?_⟩
      ·rw[show lo+k-1=lo+(k-1) by lia]
       exact hge
      ·have ep:p=k:={}
       have eq':q'=k:={}
       rw[ep,eq']
       exact irr _ (pm k (ZH _))
    | false=>
     rw[ZJ fnt]
     refine ZP (q371 G hk4 hp4 {} {} ?_)
     dsimp only
     cases hl2:lt (kas_item (arrOf st₄) (lo+k-1)) (kas_item (arrOf st₄) (lo+k)) with
     | true=>
      rw[ZL rfl]
      exact ZV ⟨rfl,S4,L4,k,q,rfl,hq,(W21 hk2),D4,E4⟩
     | false=>
      rw[ZJ fnt]
      refine ZV ⟨rfl,S4,L4,q+1,rfl,{},q152 T hp4 {} D4 λ_=>hl2,λp q' h1 h2 h3 h4=>?_⟩
      rw[show lo+k-1=lo+(k-1) by exact W2 hq]at hl hl2
      by_cases ep:p=k
      ·by_cases eq':q'=k
       ·rw[ep,eq']
        exact irr _ (pm k (ZH _))
       ·rw[ep]
        exact T.trans _ _ _ (pm q' (W105 ep h4)) (pm (k-1) (W51 ep)) (pm k (ZH _)) (E4 _ _ (W41 g1 ep hq hk1) (W96 g1 ep hk1) (W40 ep h4 hq h3 eq') (W101 ep h4 eq')) hl
      ·by_cases eq':q'=k
       ·rw[eq']
        exact T.trans _ _ _ (pm k (ZH _)) (pm (k-1) (W51 eq')) (pm p (W105 eq' h2)) hl2 (E4 _ _ (W40 eq' h2 hq h1 ep) (W101 eq' h2 ep) (W41 g1 eq' hq hk1) (W96 g1 eq' hk1))
       ·exact E4 _ _ {} {} {} (W46 h4 eq')
   ·rintro r st₄ s₄ ⟨rfl,S4,L4,m,q,rfl,hq,hm,D4,E4⟩
    dsimp -zeta only
    extract_lets -merge -underBinder
    dsimp -zeta +zetaDelta only
    extract_lets -merge -underBinder jp
    have hz4:=L4.size
    refine c_jS jp (λst₅=>Su st₁ st₅/\Loc (arrOf st₁) (arrOf st₅) lo (lo+nrem)/\Desc lt (arrOf st₅) lo m) ?_ ?_ ?_
    ·rintro st₅ ⟨S5,L5,D5⟩
     dsimp -zeta only [jp]
     clear jp
     have hz5:=L5.size
     refine ZP (c_rev λst₆ S6 e6=>?_)
     have L6:Loc (arrOf st₁) (arrOf st₆) lo (lo+nrem):=by
      rw[e6]
      exact L5.trans ((q72 {}).wide (ZH _) (W61 hm))
     have A6:Asc lt (arrOf st₆) lo m:=by
      rw[e6]
      exact q615 {} D5
     have hz6:=L6.size
     have hp6:=L6.good hp
     have hk6:kindOf st₆=κ:=(S5.trans S6).1.trans hst
     refine ZP (q205 (show m<=nrem by lia) (λk r st₉ s₉=>st₉=st₆/\s₉=s₄/\r=(none,k)/\Asc lt (arrOf st₆) lo k) (λr st₉ s₉=>st₉=st₆/\s₉=s₄ /\ ∃ k,r=(none,k)/\m<=k/\k<=nrem/\Asc lt (arrOf st₆) lo k/\(k=nrem\/lt (kas_item (arrOf st₆) (lo+k)) (kas_item (arrOf st₆) (lo+k-1))=true))
      ⟨rfl,rfl,rfl,A6⟩ (λr st₉ s₉ ⟨e1,e2,e3,e4⟩=>⟨e1,e2,nrem,e3,{},ZH _,e4,.inl rfl⟩) ?_ ?_)
     ·rintro k r st₉ s₉ hk1 hk2 ⟨rfl,rfl,rfl,A9⟩
      dsimp only
      refine ZP (q371 G hk6 hp6 {} {} ?_)
      dsimp only
      cases hl:lt (kas_item (arrOf st₉) (lo+k)) (kas_item (arrOf st₉) (lo+k-1)) with
      | true=>
       rw[ZL rfl]
       exact ZV ⟨rfl,rfl,k,rfl,hk1,(W21 hk2),A9,.inr hl⟩
      | false=>
       rw[ZJ fnt]
       exact ZV ⟨rfl,rfl,rfl,q560 T hp6 {} A9 λ_=>hl⟩
     ·rintro r st₇ s₇ ⟨rfl,rfl,k,rfl,g1,g2,g3,_⟩
      exact ZV (h k _ {} g2 (S5.trans S6) L6 g3)
    ·intro hq0 J
     clear_value jp
     refine ZP (c_rev λst₅ S5 e5=>J _ ⟨S4.trans S5,?_,?_⟩)
     ·rw[e5]
      exact L4.trans ((q72 {}).wide (W56 hq) (W61 hm))
     ·rw[e5,show lo+m-(q+1)=lo+(m-(q+1)) by exact W6 hq]
      exact q194 {} D4 E4
    ·exact λ_=>⟨S4,L4,D4⟩
  ·intro c2 J
   clear_value jp
   refine ZP (q371 G hst hp {} {} ?_)
   dsimp only
   cases hl0:lt (kas_item (arrOf st₁) lo) (kas_item (arrOf st₁) (lo+n-1)) with
   | true=>
    rw[ZL rfl]
    exact ZV (h n _ g1 g2 (Su.refl _) (Loc.refl _ _ _) A1)
   | false=>
    rw[ZJ fnt]
    rw[show lo+n-1=lo+(n-1) by lia]at hl0
    have hl0':lt (kas_item (arrOf st₁) (lo+0)) (kas_item (arrOf st₁) (lo+(n-1)))=false:=hl0
    have E1:EqT lt (arrOf st₁) lo 0 n:=λp q _ hp1 _ hq1=>by
     have z1:lt (kas_item (arrOf st₁) (lo+(n-1))) (kas_item (arrOf st₁) (lo+q))=false:=by
      by_cases e:q=n-1
      ·rw[e];exact irr _ (pm1 (n-1) {})
      ·exact A1 _ _ {} (W88 c2)
     have z2:lt (kas_item (arrOf st₁) (lo+p)) (kas_item (arrOf st₁) (lo+0))=false:=by
      by_cases e:p=0
      ·rw[e];exact irr _ (pm1 0 {})
      ·exact A1 _ _ {} {}
     have z3:=T.trans _ _ _ (pm1 q (W21 hq1)) (pm1 (n-1) (W89 c2)) (pm1 0 {}) z1 hl0'
     exact T.trans _ _ _ (pm1 q {}) (pm1 0 {}) (pm1 p (W21 hp1)) z3 z2
    refine ZP (c_rev λst₂ S2 e2=>?_)
    have L2:Loc (arrOf st₁) (arrOf st₂) lo (lo+nrem):=by
     rw[e2]
     exact(q72 {}).wide (ZH _) (W61 g2)
    have D2:Desc lt (arrOf st₂) lo (n+1):=by
     have D1:=q194 (i:=0) (show lo+n<=(arrOf st₁).size by lia) (λp q a b=>E1 p q (WA _) (W79 b a) (WA _) b) E1
     have hp2:=(q72 (xs:=arrOf st₁) (i:=lo) (j:=lo+n) {}).good hp
     have z1:kas_item (mirror (arrOf st₁) lo (lo+n) ((lo+n-lo)/2)) (lo+n)=kas_item (arrOf st₁) (lo+n):=by
      rw[q193 {},ZJ {}]
     rw[e2]
     refine q152 T hp2 (by rw[mirror_size];lia) D1 λ_=>?_
     have z2:=q124 (xs:=arrOf st₁) (lo:=lo) (i:=0) (m:=n) (t:=n-1) {} (W88 c2)
     rw[ZL (WA _)]at z2
     rw[show lo+n-1=lo+(n-1) by lia,z1]
     have z3:kas_item (mirror (arrOf st₁) lo (lo+n) ((lo+n-lo)/2)) (lo+(n-1))=kas_item (arrOf st₁) (lo+(0+n-1-(n-1))):=z2
     rw[z3]
     exact T.trans _ _ _ (pm1 n (ZH _)) (pm1 (n-1) (W89 c2)) (pm1 _ {}) hge1 (E1 _ _ (WA _) {} (WA _) {})
    exact J _ ⟨S2,L2,D2⟩
  ·intro c2
   have en:n=1:={}
   have D2:Desc lt (arrOf st₁) lo (n+1):=by
    refine q152 T hp {} (λp q a b=>absurd b {}) λ_=>?_
    rw[show lo+n-1=lo+(n-1) by lia]
    exact hge1
   have S2:=Su.refl st₁
   have L2:=Loc.refl (arrOf st₁) lo (lo+nrem)
   exact⟨S2,L2,D2⟩
end
end TS
namespace TS
set_option autoImplicit false
open PySem PySem.W PyProof.Rows List
section
variable {P:Keyed->Prop}{lt:Keyed->Keyed->Bool}
theorem set_list:∀(l:List Keyed)(xs:Array Keyed)(b off:Nat),b+off+l.length<=xs.size ->
  ((l.zipIdx off).foldl (λa x=>a.setIfInBounds (b+x.snd) x.fst) xs).toList=xs.toList.take (b+off)++l++xs.toList.drop (b+off+l.length)
 | [],xs,b,off,h=>by simp
 | x::l,xs,b,off,h=>by
  rw[WT]at h
  rw[zipIdx_cons,foldl_cons]
  have ih:=set_list l (xs.setIfInBounds (b+off) x) b (off+1) (by rw[Array.size_setIfInBounds];lia)
  rw[ih,Array.toList_setIfInBounds]
  have hl:b+off<xs.toList.length:=by simp;lia
  have tl:(xs.toList.take (b+off)).length=b+off:=by rw[length_take];lia
  have es:xs.toList.set (b+off) x=xs.toList.take (b+off)++x::xs.toList.drop (b+off+1):=by rw[set_eq_take_append_cons_drop,ZL hl]
  have e1:(xs.toList.set (b+off) x).take (b+(off+1))=xs.toList.take (b+off)++[x]:=by
   rw[es,take_append,tl,WZ {},show b+(off+1)-(b+off)=1 by lia]
   rfl
  have e2:(xs.toList.set (b+off) x).drop (b+(off+1)+l.length)=xs.toList.drop (b+off+(x::l).length):=by
   rw[drop_set,ZL {},WT]
   congr 1
   lia
  rw[e1,e2,YZ,YZ,YZ]
  rfl
def q561{xs:Array Keyed}{b e t:Nat}(he:e<=xs.size)(ht:b+t<e):kas_item (xs.extract b e) t=kas_item xs (b+t):=by
 refine q118 ?_
 rw[Array.getElem?_extract,ZL {}]
def q562{xs:Array Keyed}{b e:Nat}(he:e<=xs.size):(xs.extract b e).size=e-b:=by
 rw[Array.size_extract]
 lia
def q563{xs:Array Keyed}(h:∀ p q,p<q->q<xs.size->lt (kas_item xs q) (kas_item xs p)=false):Srt lt xs.toList:=by
 refine List.pairwise_iff_getElem.mpr λi j hi hj hij=>?_
 have hj':j<xs.size:=by simpa using hj
 have hi':i<xs.size:=by simpa using hi
 have e1:=(eA (q55 hi')).2
 have e2:=(eA (q55 hj')).2
 rw[e1,e2]
 exact h i j hij hj'
def q564{xs:Array Keyed}{y:Keyed}(h:y∈xs.toList):∃ t,t<xs.size/\y=kas_item xs t:=by
 obtain⟨j,_,h2,h3⟩:=q123 (i:=0) (a:=xs) (by simpa using h)
 exact⟨j,h2,h3⟩
end
section
variable {prog:Program}{w:World}{A:Around}{E:VS}{κ:SortKind}{P:Keyed->Prop}{lt:Keyed->Keyed->Bool}
def c_set{st₁ st:SortSt}{Q:PUnit->SortSt->Shared->Prop}{s:Shared}(h:Q ⟨⟩ st₁ s):kasC (model prog w) A E (set st₁:M2 PUnit) Q st s:=by
 unfold kasC
 rw[StateT.run_set]
 exact ZM h
def mergeAt_{s:Shared}(G:Good prog w A E κ P lt s)(T:Tot P lt){i sa na pw sb nb pw2:Nat}{Q:Bool->SortSt->Shared->Prop}{st:SortSt}(hst:kindOf st=κ)(hf:failedOf st=none)(hp:∀ x∈(arrOf st).toList,P x)
  (h1:(pendingOf st)[i]? = some (sa,na,pw)) (h2:(pendingOf st)[i+1]? = some (sb,nb,pw2)) (hsb:sb=sa+na) (hna:0<na) (hnb:0<nb) (hz:sb+nb<=(arrOf st).size) (A1:Asc lt (arrOf st) sa na) (A2:Asc lt (arrOf st) sb nb)
  (h:∀ st':SortSt,kindOf st'=κ->failedOf st'=none->pendingOf st'=((pendingOf st).setIfInBounds i (sa,na+nb,pw)).eraseIdxIfInBounds (i+1)->Loc (arrOf st) (arrOf st') sa (sb+nb)->Asc lt (arrOf st') sa (na+nb)->Q true st' s) :
  kasC (model prog w) A E (mergeAt' i) Q st s:=by
 have irr:∀ x,P x->lt x x=false:=λx hx=>by
  cases c:lt x x with
  | false=>rfl
  | true=>exact c.symm.trans (T.asym x x hx hx c)
 have p1:∀ t,t<na->P (kas_item (arrOf st) (sa+t)):=λt ht=>hp _ (q24 {})
 have p2:∀ t,t<nb->P (kas_item (arrOf st) (sb+t)):=λt ht=>hp _ (q24 {})
 refine ZP (kasC_get ?_)
 dsimp only
 rw[h1,h2]
 dsimp only
 refine ZP (c_set ?_)
 refine ZP (q52 (show sb<(arrOf st).size by lia) ?_)
 have pk:P (kas_item (arrOf st) sb):=p2 0 hnb
 obtain⟨k,hk,hB⟩:∃ k,k<=na /\ ∀ t,t<na->(if false=true then lt (kas_item (arrOf st) (sa+t)) (kas_item (arrOf st) sb)else !(lt (kas_item (arrOf st) sb) (kas_item (arrOf st) (sa+t))))=decide (t<k):=by
  refine bound _ na λt u htu hu hh=>?_
  rw[ZJ fnt,Bool.not_eq_true']at hh ⊢
  by_cases e:t=u
  ·rw[e];exact hh
  ·exact T.trans _ _ _ (p1 t (W94 hu htu)) (p1 u hu) pk (A1 t u (W9 htu e) hu) hh
 have B1:∀ t,t<k->lt (kas_item (arrOf st) sb) (kas_item (arrOf st) (sa+t))=false:=λt ht=>by
  have q:=hB t (W33 ht hk)
  rw[ZJ fnt,ZA ht,Bool.not_eq_true']at q
  exact q
 have B2:∀ t,k<=t->t<na->lt (kas_item (arrOf st) sb) (kas_item (arrOf st) (sa+t))=true:=λt g1 g2=>by
  have q:=hB t g2
  rw[ZJ fnt,ZI (W45 g1),Bool.not_eq_false']at q
  exact q
 have C1:∀ t,t<nb->lt (kas_item (arrOf st) (sb+t)) (kas_item (arrOf st) sb)=false:=λt ht=>by
  by_cases e:t=0
  ·rw[e];exact irr _ pk
  ·exact A2 0 t {} ht
 refine ZP (q235 G hst pk (λt ht=>p1 t ht) (show sa+na<=(arrOf st).size by lia) hna hk hB ?_)
 dsimp only
 have key:∀ t,t<k -> ∀ u,u<nb->lt (kas_item (arrOf st) (sb+u)) (kas_item (arrOf st) (sa+t))=false:=λt ht u hu=>
  T.trans _ _ _ (p1 t (W33 ht hk)) pk (p2 u hu) (B1 t ht) (C1 u hu)
 by_cases c1:na-k=0
 ·rw[ZL (by simp[c1])]
  refine ZV (h _ hst hf rfl (Loc.refl _ _ _) λp q hpq hq=>?_)
  by_cases q1:q<na
  ·exact A1 p q hpq q1
  ·have eq1:sa+q=sb+(q-na):=(W60 hsb q1)
   by_cases p3:p<na
   ·rw[eq1]
    exact key p {} (q-na) {}
   ·rw[eq1,show sa+p=sb+(p-na) by exact W73 eq1 hsb p3]
    exact A2 _ _ {} {}
 rw[ZJ (by simpa using c1)]
 replace c1:k<na:={}
 have elast:sa+k+(na-k)-1=sa+(na-1):={}
 rw[elast]
 clear elast
 have pl:P (kas_item (arrOf st) (sa+(na-1))):=p1 _ (W11 hna)
 refine ZP (q52 (show sa+(na-1)<(arrOf st).size by lia) ?_)
 obtain⟨k2,hk2,hB2⟩:∃ k2,k2<=nb /\ ∀ t,t<nb->(if true=true then lt (kas_item (arrOf st) (sb+t)) (kas_item (arrOf st) (sa+(na-1)))else !(lt (kas_item (arrOf st) (sa+(na-1))) (kas_item (arrOf st) (sb+t))))=decide (t<k2):=by
  refine bound _ nb λt u htu hu hh=>?_
  rw[ZL rfl]at hh ⊢
  by_cases e:t=u
  ·rw[e];exact hh
  ·cases c:lt (kas_item (arrOf st) (sb+t)) (kas_item (arrOf st) (sa+(na-1))) with
   | true=>rfl
   | false=>
    have z:=T.trans _ _ _ pl (p2 t (W94 hu htu)) (p2 u hu) c (A2 t u (W9 htu e) hu)
    rw[hh]at z
    cases z
 have B3:∀ t,t<k2->lt (kas_item (arrOf st) (sb+t)) (kas_item (arrOf st) (sa+(na-1)))=true:=λt ht=>by
  have q:=hB2 t (W33 ht hk2)
  rw[ZL rfl,ZA ht]at q
  exact q
 have B4:∀ t,k2<=t->t<nb->lt (kas_item (arrOf st) (sb+t)) (kas_item (arrOf st) (sa+(na-1)))=false:=λt g1 g2=>by
  have q:=hB2 t g2
  rw[ZL rfl,ZI (W45 g1)]at q
  exact q
 have key2:∀ t,t<na -> ∀ u,k2<=u->u<nb->lt (kas_item (arrOf st) (sb+u)) (kas_item (arrOf st) (sa+t))=false:=λt ht u g1 g2=>by
  by_cases e:t=na-1
  ·rw[e];exact B4 u g1 g2
  ·exact T.trans _ _ _ (p1 t ht) pl (p2 u g2) (A1 t (na-1) (W24 hna ht e) (W11 hna)) (B4 u g1 g2)
 refine ZP (q235 G hst pl (λt ht=>p2 t ht) (show sb+nb<=(arrOf st).size by lia) (W11 hnb) hk2 hB2 ?_)
 dsimp only
 by_cases c2:k2=0
 ·rw[ZL (by simp[c2])]
  refine ZV (h _ hst hf rfl (Loc.refl _ _ _) λp q hpq hq=>?_)
  by_cases q1:q<na
  ·exact A1 p q hpq q1
  ·have eq1:sa+q=sb+(q-na):=(W60 hsb q1)
   by_cases p3:p<na
   ·rw[eq1]
    exact key2 p p3 (q-na) {} {}
   ·rw[eq1,show sa+p=sb+(p-na) by exact W73 eq1 hsb p3]
    exact A2 _ _ {} {}
 rw[ZJ (by simpa using c2)]
 have xz:((arrOf st).extract (sa+k) sb).size=na-k:=by rw[q562 {}];lia
 have yz:((arrOf st).extract sb (sb+k2)).size=k2:=by rw[q562 {}];exact W7
 have xi:∀ t,t<na-k->kas_item ((arrOf st).extract (sa+k) sb) t=kas_item (arrOf st) (sa+(k+t)):=λt ht=>by
  rw[q561 {} {},show sa+k+t=sa+(k+t) by lia]
 have yi:∀ t,t<k2->kas_item ((arrOf st).extract sb (sb+k2)) t=kas_item (arrOf st) (sb+t):=λt ht=>q561 {} {}
 have xm:∀ z∈((arrOf st).extract (sa+k) sb).toList,∃ t,k<=t/\t<na/\z=kas_item (arrOf st) (sa+t):=λz hz'=>by
  obtain⟨t,g1,rfl⟩:=q564 hz'
  rw[xz]at g1
  exact⟨k+t,W12,(W67 g1 c1),xi t g1⟩
 have ym:∀ z∈((arrOf st).extract sb (sb+k2)).toList,∃ t,t<k2/\z=kas_item (arrOf st) (sb+t):=λz hz'=>by
  obtain⟨t,g1,rfl⟩:=q564 hz'
  rw[yz]at g1
  exact⟨t,g1,yi t g1⟩
 have px:∀ z∈((arrOf st).extract (sa+k) sb).toList,P z:=λz hz'=>by
  obtain⟨t,g1,g2,rfl⟩:=xm z hz'
  exact p1 t g2
 have py:∀ z∈((arrOf st).extract sb (sb+k2)).toList,P z:=λz hz'=>by
  obtain⟨t,g1,rfl⟩:=ym z hz'
  exact p2 t {}
 have sx:Srt lt ((arrOf st).extract (sa+k) sb).toList:=q563 λp q g1 g2=>by
  rw[xz]at g2
  rw[xi p {},xi q g2]
  exact A1 _ _ (W20 g1) (W67 g2 c1)
 have sy:Srt lt ((arrOf st).extract sb (sb+k2)).toList:=q563 λp q g1 g2=>by
  rw[yz]at g2
  rw[yi p {},yi q g2]
  exact A2 _ _ {} {}
 have xl:(arrOf st).toList.take (sa+k)++(((arrOf st).extract (sa+k) sb).toList++((arrOf st).extract sb (sb+k2)).toList)++(arrOf st).toList.drop (sb+k2)=(arrOf st).toList:=by
  rw[ext0 (show sb<=(arrOf st).size by lia),ext0 (show sb+k2<=(arrOf st).size by lia)]
  generalize (arrOf st).toList=l
  have e1:l.take sb=l.take (sa+k)++(l.take sb).drop (sa+k):=by
   have:(l.take sb).take (sa+k)=l.take (sa+k):=by rw[take_take,Nat.min_eq_left {}]
   rw[<- this,take_append_drop]
  have e2:l.take (sb+k2)=l.take sb++(l.take (sb+k2)).drop sb:=by
   have:(l.take (sb+k2)).take sb=l.take sb:=by rw[take_take,Nat.min_eq_left {}]
   rw[<- this,take_append_drop]
  rw[<- YZ,<- e1,<- e2,take_append_drop]
 have fin:∀(r:Array Keyed)(st₂:SortSt),arrOf st₂=arrOf st->FinA lt ((arrOf st).extract (sa+k) sb) ((arrOf st).extract sb (sb+k2)) r ->
   Loc (arrOf st) (List.foldl (λa x=>a.setIfInBounds (sa+k+x.snd) x.fst) (arrOf st₂) r.toList.zipIdx) sa (sb+nb)/\Asc lt (List.foldl (λa x=>a.setIfInBounds (sa+k+x.snd) x.fst) (arrOf st₂) r.toList.zipIdx) sa (na+nb):=by
  intro r st₂ K2 F
  rw[K2]
  have rz:r.toList.length=na-k+k2:=by
   rw[F.1.length_eq,ZU,ZX,ZX,xz,yz]
  clear xz yz
  have ys:=set_list r.toList (arrOf st) (sa+k) 0 {}
  generalize List.foldl (λa x=>a.setIfInBounds (sa+k+x.snd) x.fst) (arrOf st) r.toList.zipIdx=zs at ys ⊢
  rw[Nat.add_zero,rz,show sa+k+(na-k+k2)=sb+k2 by lia]at ys
  have tl:((arrOf st).toList.take (sa+k)).length=sa+k:=by rw[length_take,ZX];lia
  have gl:∀ t,zs[t]? = if t<sa+k then(arrOf st)[t]? else if t<sb+k2 then r.toList[t-(sa+k)]? else(arrOf st)[t]?:=λt=>by
   rw[<- WH,ys]
   by_cases g1:t<sa+k
   ·rw[ZL g1,YZ,YX {},getElem?_take,ZL g1,WH]
   ·rw[ZJ g1]
    by_cases g2:t<sb+k2
    ·rw[ZL g2,YX (by rw[ZU];lia),YT {},tl]
    ·rw[ZJ g2,YT (by rw[ZU];lia),getElem?_drop,ZU,tl,rz,WH]
     congr 1
     lia
  clear tl
  have pz:zs.toList.Perm (arrOf st).toList:=by
   rw[ys]
   refine List.Perm.trans ?_ (List.Perm.of_eq xl)
   exact(List.Perm.append_left _ F.1).append_right _
  have zz:zs.size=(arrOf st).size:=by
   have:=pz.length_eq
   simpa using this
  refine⟨⟨zz,Array.perm_iff_toList_perm.mpr pz,λt ht=>?_⟩,λp q hpq hq=>?_⟩
  ·rw[gl t]
   by_cases g1:t<sa+k
   ·rw[ZL g1]
   ·rw[ZJ g1,ZJ {}]
  ·clear zz
   have rm:∀ t,k<=t->t<na+k2->kas_item zs (sa+t)=kas_item r (t-k)/\((∃ u,k<=u/\u<na/\kas_item zs (sa+t)=kas_item (arrOf st) (sa+u)) \/ ∃ u,u<k2/\kas_item zs (sa+t)=kas_item (arrOf st) (sb+u)):=λt g1 g2=>by
    have e:=gl (sa+t)
    rw[ZJ {},ZL {},show sa+t-(sa+k)=t-k by lia,WH]at e
    have e2:=q118 e
    exists e2
    have hm:=q24 (a:=r) (i:=t-k) (by rw[<- ZX,rz];lia)
    rcases eC (F.1.mem_iff.mp hm)with z | z
    ·obtain⟨u,a1,a2,a3⟩:=xm _ z
     exact .inl ⟨u,a1,a2,e2.trans a3⟩
    ·obtain⟨u,a1,a3⟩:=ym _ z
     exact .inr ⟨u,a1,e2.trans a3⟩
   have lowi:∀ t,t<k->kas_item zs (sa+t)=kas_item (arrOf st) (sa+t):=λt ht=>q118 (by rw[gl,ZL (W20 ht)])
   have hii:∀ t,na+k2<=t->kas_item zs (sa+t)=kas_item (arrOf st) (sb+(t-na)):=λt ht=>by
    refine q118 ?_
    rw[gl,ZJ {},ZJ {},show sb+(t-na)=sa+t by lia]
   by_cases p3:p<k
   ·rw[lowi p p3]
    by_cases q1:q<k
    ·rw[lowi q q1]
     exact A1 p q hpq {}
    ·by_cases q2:q<na+k2
     ·rcases(rm q (W14 q1) q2).2 with ⟨u,a1,a2,a3⟩ | ⟨u,a1,a3⟩
      ·rw[a3]
       exact A1 p u {} a2
      ·rw[a3]
       exact key p p3 u {}
     ·rw[hii q (W90 rz q2)]
      exact key p p3 _ (W93 hnb hq)
   ·by_cases p4:p<na+k2
    ·by_cases q2:q<na+k2
     ·rw[(rm p (W14 p3) p4).1,(rm q {} q2).1]
      have z:=List.pairwise_iff_getElem.mp F.2 (p-k) (q-k) {} {} {}
      have e1:=(eA (q55 (a:=r) (i:=p-k) (by rw[<- ZX,rz];lia))).2
      have e2:=(eA (q55 (a:=r) (i:=q-k) (by rw[<- ZX,rz];lia))).2
      rw[e1,e2]at z
      exact z
     ·rw[hii q {}]
      rcases(rm p {} p4).2 with ⟨u,a1,a2,a3⟩ | ⟨u,a1,a3⟩
      ·rw[a3]
       exact key2 u a2 _ {} (W93 hnb hq)
      ·rw[a3]
       exact A2 u _ {} {}
    ·rw[hii p (W90 rz p4),hii q {}]
     exact A2 _ _ {} {}
 have x0:kas_item ((arrOf st).extract (sa+k) sb) 0=kas_item (arrOf st) (sa+k):=xi 0 {}
 have y0:kas_item ((arrOf st).extract sb (sb+k2)) 0=kas_item (arrOf st) sb:=yi 0 {}
 have xe:kas_item ((arrOf st).extract (sa+k) sb) (((arrOf st).extract (sa+k) sb).size-1)=kas_item (arrOf st) (sa+(na-1)):=by
  rw[xz,xi _ {}]
  congr 1
  lia
 have ye:kas_item ((arrOf st).extract sb (sb+k2)) (((arrOf st).extract sb (sb+k2)).size-1)=kas_item (arrOf st) (sb+(k2-1)):=by
  rw[yz,yi _ {}]
 by_cases c3:na-k<=k2
 ·rw[ZL c3]
  refine ZP (mergeLo_ G T hst px py sx sy (show 0<((arrOf st).extract (sa+k) sb).size by rw[xz];lia) (show 0<((arrOf st).extract sb (sb+k2)).size by rw[yz];lia) (by rw[x0,y0];exact B2 k (ZH _) {}) (λz hz'=>?_) λr st₂ K2 F=>?_)
  ·rw[xe]
   obtain⟨t,g1,rfl⟩:=ym z hz'
   exact T.asym _ _ (p2 t {}) pl (B3 t g1)
  ·obtain⟨f1,f2⟩:=fin r st₂ K2.2.1 F
   refine ZP (kasC_modify (ZP (kasC_get (ZV ?_))))
   have ef:failedOf st₂=none:=K2.2.2.2.trans hf
   show Q (failedOf st₂).isNone _ s
   rw[ef]
   exact h _ (K2.1.trans hst) ef K2.2.2.1 f1 f2
 ·rw[ZJ c3]
  refine ZP (mergeHi_ G T hst px py sx sy (show 0<((arrOf st).extract (sa+k) sb).size by rw[xz];lia) (show 0<((arrOf st).extract sb (sb+k2)).size by rw[yz];lia) (by rw[xe,ye];exact B3 _ {}) (λz hz'=>?_) λr st₂ K2 F=>?_)
  ·rw[y0]
   obtain⟨t,g1,g2,rfl⟩:=xm z hz'
   exact T.asym _ _ pk (p1 t g2) (B2 t g1 g2)
  ·obtain⟨f1,f2⟩:=fin r st₂ K2.2.1 F
   refine ZP (kasC_modify (ZP (kasC_get (ZV ?_))))
   have ef:failedOf st₂=none:=K2.2.2.2.trans hf
   show Q (failedOf st₂).isNone _ s
   rw[ef]
   exact h _ (K2.1.trans hst) ef K2.2.2.1 f1 f2
end
end TS
namespace TS
set_option autoImplicit false
open PySem PySem.W PyProof.Rows List
section
variable {P:Keyed->Prop}{lt:Keyed->Keyed->Bool}
noncomputable abbrev pr(p:Nat×Nat×Nat):Nat×Nat:=(p.1,p.2.1)
def Runs(lt:Keyed->Keyed->Bool)(xs:Array Keyed):Nat->List (Nat×Nat)->Nat->Prop
 | b,[],e=>b=e
 | b,(s,l)::r,e=>s=b/\0<l/\Asc lt xs b l/\Runs lt xs (b+l) r e
theorem Runs.le{xs:Array Keyed}:∀{l:List (Nat×Nat)} {b e:Nat},Runs lt xs b l e->b+l.length<=e
 | [],b,e,h=>by
  have:b=e:=h
  simp[this]
 | (s,l)::r,b,e,⟨_,h1,_,h2⟩=>by
  have:=h2.le
  rw[WT]
  lia
theorem Runs.app{xs:Array Keyed}:∀{l1 l2:List (Nat×Nat)} {b e:Nat},Runs lt xs b (l1++l2) e↔∃ m,Runs lt xs b l1 m/\Runs lt xs m l2 e
 | [],l2,b,e=>⟨λh=>⟨b,rfl,h⟩,λ⟨m,h1,h2⟩=>by
   have:b=m:=h1
   rw[this];exact h2⟩
 | (s,l)::r,l2,b,e=>⟨λ⟨h1,h2,h3,h4⟩=>by
   obtain⟨m,g1,g2⟩:=Runs.app.mp h4
   exact⟨m,⟨h1,h2,h3,g1⟩,g2⟩,λ⟨m,⟨h1,h2,h3,h4⟩,g⟩=>⟨h1,h2,h3,Runs.app.mpr ⟨m,h4,g⟩⟩⟩
def Asc.same{xs ys:Array Keyed}{b l:Nat}(h:∀ t,b<=t->t<b+l->kas_item ys t=kas_item xs t)(a:Asc lt xs b l):Asc lt ys b l:=λp q h1 h2=>by
 rw[h _ {} (W20 h2),h _ W12 {}]
 exact a p q h1 h2
theorem Runs.same{xs ys:Array Keyed}:∀{l:List (Nat×Nat)} {b e:Nat},(∀ t,b<=t->t<e->kas_item ys t=kas_item xs t)->Runs lt xs b l e->Runs lt ys b l e
 | [],b,e,_,h=>h
 | (s,l)::r,b,e,h,⟨h1,h2,h3,h4⟩=>by
  have hl:=h4.le
  exact⟨h1,h2,h3.same λt g1 g2=>h t g1 {},h4.same λt g1 g2=>h t {} g2⟩
def Loc.item{xs ys:Array Keyed}{lo hi t:Nat}(a:Loc xs ys lo hi)(h:t<lo\/hi<=t):kas_item ys t=kas_item xs t:=q118 (a.out t h)
def q686{α:Type}{l:List α}{i:Nat}(h:i+1<l.length):∃ l1 a b l2,l=l1++a::b::l2/\l1.length=i/\l[i]? = some a/\l[i+1]? = some b:=by
 have h0:i<l.length:=(W63 h)
 refine⟨l.take i,l[i],l[i+1],l.drop (i+2),?_,by rw[length_take];lia,ZR h0,ZR h⟩
 rw[<- drop_eq_getElem_cons h,<- drop_eq_getElem_cons h0,take_append_drop]
def q687{α:Type}(l1 l2:List α)(a b v:α):((l1++a::b::l2).set l1.length v).eraseIdx (l1.length+1)=l1++v::l2:=by
 induction l1 with
 | nil=>rfl
 | cons x l1 ih=>simpa using ih
def q688(pd:Array (Nat×Nat×Nat))(i:Nat)(f:Nat×Nat×Nat->Nat×Nat×Nat)(hf:∀ x,pr (f x)=pr x):(pd.modify i f).toList.map pr=pd.toList.map pr:=by
 apply ext_getElem?
 intro j
 rw[WM,WM,WH,WH,Array.getElem?_modify]
 by_cases c:i=j
 ·rw[ZL c]
  cases pd[j]? with
  | none=>rfl
  | some x=>simp[hf x]
 ·rw[ZJ c]
end
section
variable {prog:Program}{w:World}{A:Around}{E:VS}{κ:SortKind}{P:Keyed->Prop}{lt:Keyed->Keyed->Bool}
def ite_lt{c:Prop}[Decidable c]{a b n:Nat}(h1:a+1<n)(h2:b+1<n):(if c then a else b)+1<n:=by split <;> assumption
def c_iteF{α:Type}{c:Prop}[Decidable c]{x y:M2 α}{Q:α->SortSt->Shared->Prop}{st:SortSt}{s:Shared}(hc:¬ c)(h:kasC (model prog w) A E y Q st s):kasC (model prog w) A E (if c then x else y) Q st s:=by rw[ZJ hc];exact h
def q372{s:Shared}(G:Good prog w A E κ P lt s)(T:Tot P lt){i lo:Nat}{Q:Bool->SortSt->Shared->Prop}{st:SortSt}(hst:kindOf st=κ)(hf:failedOf st=none)(hp:∀ x∈(arrOf st).toList,P x)
  (hi:i+1<(pendingOf st).size) (hlo:lo<=(arrOf st).size) (hr:Runs lt (arrOf st) 0 ((pendingOf st).toList.map pr) lo)
  (h:∀ st':SortSt,kindOf st'=κ->failedOf st'=none->(pendingOf st').size+1=(pendingOf st).size->Loc (arrOf st) (arrOf st') 0 lo->Runs lt (arrOf st') 0 ((pendingOf st').toList.map pr) lo->Q true st' s) :
  kasC (model prog w) A E (mergeAt' i) Q st s:=by
 obtain⟨l1,⟨sa,na,pw⟩,⟨sb,nb,pw2⟩,l2,e,el,g1,g2⟩:=q686 (l:=(pendingOf st).toList) (i:=i) (by simpa using hi)
 rw[WH]at g1 g2
 rw[e,WS,map_cons,map_cons]at hr
 obtain⟨m,r1,rfl,na0,A1,hsb,nb0,A2,r2⟩:=Runs.app.mp hr
 have hsb':sb=sa+na:=hsb
 have na0':0<na:=na0
 have nb0':0<nb:=nb0
 have r2':Runs lt (arrOf st) (sa+na+nb) (l2.map pr) lo:=r2
 have hl2:=r2'.le
 have A2':Asc lt (arrOf st) sb nb:=by rw[hsb'];exact A2
 refine mergeAt_ G T hst hf hp g1 g2 hsb' na0' nb0' {} A1 A2' λst' k1 k2 k3 L A3=>?_
 have ep:(pendingOf st').toList=l1++(sa,na+nb,pw)::l2:=by
  rw[k3,Array.toList_eraseIdxIfInBounds,Array.toList_setIfInBounds,e,<- el]
  exact q687 l1 l2 _ _ _
 refine h st' k1 k2 ?_ (L.wide (WA _) {}) ?_
 ·rw[<- ZX,<- ZX,ep,e]
  simp
  lia
 ·rw[ep,WS,map_cons]
  refine Runs.app.mpr ⟨sa,r1.same λt _ ht=>L.item (.inl ht),rfl,(show 0<na+nb by lia),A3,?_⟩
  show Runs lt (arrOf st') (sa+(na+nb)) (l2.map pr) lo
  rw[<- Nat.add_assoc]
  exact r2'.same λt ht _=>L.item (.inr {})
def c_jN{α:Type}(J:Unit->Nat->M2 α){c:Prop}{_d:Decidable c}{x:M2 α}{n:Nat}{Q:α->SortSt->Shared->Prop}{st:SortSt}{s:Shared}(I:Nat->SortSt->Prop)(hJ:∀ n st,I n st->kasC (model prog w) A E (J () n) Q st s)(hx:c->(∀ n st,I n st->kasC (model prog w) A E (J () n) Q st s)->kasC (model prog w) A E x Q st s)(h0:¬ c->I n st):kasC (model prog w) A E (if c then x else J () n) Q st s:=by
 by_cases h:c
 ·rw[ZL h]
  exact hx h hJ
 ·rw[ZJ h]
  exact hJ _ _ (h0 h)
def q450{s:Shared}(G:Good prog w A E κ P lt s)(T:Tot P lt){Q:Unit->SortSt->Shared->Prop}{st:SortSt}(hst:kindOf st=κ)(hf:failedOf st=none)(hpd:pendingOf st = #[])(hp:∀ x∈(arrOf st).toList,P x)(hn:1<=(arrOf st).size)
  (h:∀ st':SortSt,failedOf st'=none->(arrOf st').Perm (arrOf st)->Asc lt (arrOf st') 0 (arrOf st').size->Q () st' s):kasC (model prog w) A E sortRuns' Q st s:=by
 refine ZP (kasC_get ?_)
 try dsimp -zeta only
 try extract_lets -merge -underBinder
 try dsimp -zeta +zetaDelta only
 refine ZP (q92 (λt r st' s'=>s'=s/\kindOf st'=κ/\failedOf st'=none/\Loc (arrOf st) (arrOf st') 0 (arrOf st).size /\ ∃ lo,r=(none,lo)/\lo<=(arrOf st).size/\t<=lo/\Runs lt (arrOf st') 0 ((pendingOf st').toList.map pr) lo)
  (λr st' s'=>s'=s/\kindOf st'=κ/\failedOf st'=none/\Loc (arrOf st) (arrOf st') 0 (arrOf st).size/\r=(none,(arrOf st).size)/\Runs lt (arrOf st') 0 ((pendingOf st').toList.map pr) (arrOf st).size)
  ⟨rfl,hst,hf,Loc.refl _ _ _,0,rfl,WA _,WA _,by rw[hpd];exact rfl⟩ ?_ ?_ ?_)
 ·rintro r st' s' ⟨e1,e2,e3,e4,lo,e5,e6,e7,e8⟩
  have e7':(arrOf st).size<=lo:=e7
  have el:lo=(arrOf st).size:={}
  subst el
  exact⟨e1,e2,e3,e4,e5,e8⟩
 ·rintro t x r st' s' ht ⟨rfl,k1,f1,L1,lo,rfl,hlo,htl,R1⟩
  try dsimp -zeta only
  try extract_lets -merge -underBinder
  try dsimp -zeta +zetaDelta only
  have hz1:=L1.size
  have hp1:=L1.good hp
  by_cases c1:lo>=(arrOf st).size
  ·rw[ZL c1]
   have el:lo=(arrOf st).size:={}
   subst el
   exact ZV ⟨rfl,k1,f1,L1,rfl,R1⟩
  rw[ZJ c1]
  refine ZP (q685 G T k1 hp1 (show lo+((arrOf st).size-lo)<=(arrOf st').size by lia) (show 1<=(arrOf st).size-lo by lia) λfo st₂ fo1 fo2' S2 L2' A2=>?_)
  dsimp -zeta only
  extract_lets -merge -underBinder +onlyGivenNames _
  dsimp -zeta +zetaDelta only
  extract_lets -merge -underBinder jp
  have fo2:fo<=(arrOf st).size-lo:=fo2'
  have L2:Loc (arrOf st') (arrOf st₂) lo (lo+((arrOf st).size-lo)):=L2'
  have L12:Loc (arrOf st) (arrOf st₂) 0 (arrOf st).size:=L1.trans (L2.wide (WA _) {})
  have k2:kindOf st₂=κ:=S2.1.trans k1
  have f2:failedOf st₂=none:=S2.2.2.trans f1
  have R2:Runs lt (arrOf st₂) 0 ((pendingOf st₂).toList.map pr) lo:=by
   rw[S2.2.1]
   exact R1.same λt _ ht=>L2.item (.inl ht)
  have hz2:=L12.size
  refine c_jN jp (λn st₃=>kindOf st₃=κ/\failedOf st₃=none/\Loc (arrOf st) (arrOf st₃) 0 (arrOf st).size/\Runs lt (arrOf st₃) 0 ((pendingOf st₃).toList.map pr) lo/\Asc lt (arrOf st₃) lo n/\0<n/\lo+n<=(arrOf st).size) ?_ ?_ ?_
  ·rintro fo st₂ ⟨kS,fS,LS,RS,Am,hm,hm2⟩
   have hz2:=LS.size
   dsimp -zeta only [jp]
   clear jp
   refine ZP (kasC_get ?_)
   try dsimp only
   cases hb:(pendingOf st₂).back? with
   | none=>
    refine ZP (kasC_modify (ZV ⟨rfl,kS,fS,LS,lo+fo,rfl,(show lo+fo<=(arrOf st).size by lia),(show t+1<=lo+fo by lia),?_⟩))
    show Runs lt (arrOf st₂) 0 (((pendingOf st₂).push (lo,fo,0)).toList.map pr) (lo+fo)
    rw[Array.toList_push,WS]
    exact Runs.app.mpr ⟨lo,RS,rfl,hm,Am,rfl⟩
   | some x=>
    obtain⟨s1,n1,z1⟩:=x
    try dsimp only
    refine ZP (q92 (λu r st₄ s₄=>s₄=s'/\r=(none,())/\kindOf st₄=κ/\failedOf st₄=none/\Loc (arrOf st) (arrOf st₄) 0 (arrOf st).size/\Runs lt (arrOf st₄) 0 ((pendingOf st₄).toList.map pr) lo/\Asc lt (arrOf st₄) lo fo)
     (λr st₄ s₄=>s₄=s'/\r=(none,())/\kindOf st₄=κ/\failedOf st₄=none/\Loc (arrOf st) (arrOf st₄) 0 (arrOf st).size/\Runs lt (arrOf st₄) 0 ((pendingOf st₄).toList.map pr) lo/\Asc lt (arrOf st₄) lo fo)
     ⟨rfl,rfl,kS,fS,LS,RS,Am⟩ (λ_ _ _ z=>z) ?_ ?_)
    ·rintro u x r st₄ s₄ hu ⟨rfl,rfl,k4,f4,L4,R4,A4⟩
     try dsimp only
     refine ZP (kasC_get ?_)
     try dsimp only
     have hz4:=L4.size
     have stop:kasC (model prog w) A E (pure (ForInStep.done ((none:Option Unit),())):M2 _) (λr st' s'=>match r with
       | .done b'=>s'=s₄/\b'=(none,())/\kindOf st'=κ/\failedOf st'=none/\Loc (arrOf st) (arrOf st') 0 (arrOf st).size/\Runs lt (arrOf st') 0 ((pendingOf st').toList.map pr) lo/\Asc lt (arrOf st') lo fo
       | .yield b'=>s'=s₄/\b'=(none,())/\kindOf st'=κ/\failedOf st'=none/\Loc (arrOf st) (arrOf st') 0 (arrOf st).size/\Runs lt (arrOf st') 0 ((pendingOf st').toList.map pr) lo/\Asc lt (arrOf st') lo fo) st₄ s₄:=ZV ⟨rfl,rfl,k4,f4,L4,R4,A4⟩
     by_cases c5:(pendingOf st₄).size > 1
     ·rw[ZL c5]
      cases h5:(pendingOf st₄)[(pendingOf st₄).size-2]? with
      | none=>exact stop
      | some y=>
       obtain⟨y1,y2,older⟩:=y
       try dsimp only
       split
       ·exact stop
       ·refine ZP (q372 G T k4 f4 (L4.good hp) (show(pendingOf st₄).size-2+1<(pendingOf st₄).size by lia) {} R4 λst₅ k5 f5 _ L5 R5=>?_)
        exact ZV ⟨rfl,rfl,k5,f5,L4.trans (L5.wide (ZH _) {}),R5,A4.same λt g1 _=>L5.item (.inr g1)⟩
     ·rw[ZJ c5]
      exact stop
    ·rintro r st₄ s₄ ⟨rfl,rfl,k4,f4,L4,R4,A4⟩
     try dsimp only
     refine ZP (kasC_modify (ZP (kasC_modify (ZV ⟨rfl,k4,f4,L4,lo+fo,rfl,(show lo+fo<=(arrOf st).size by lia),(show t+1<=lo+fo by lia),?_⟩))))
     show Runs lt (arrOf st₄) 0 (((Array.modify (pendingOf st₄) _ _).push (lo,fo,0)).toList.map pr) (lo+fo)
     rw[Array.toList_push,WS,q688]
     ·exact Runs.app.mpr ⟨lo,R4,rfl,hm,A4,rfl⟩
     ·exact λ_=>rfl
  ·intro c J
   have c2:fo<minRun' (arrOf st).size (arrOf st).size 0:=c
   clear_value jp
   refine ZP (kasC_lift (wpAny_rule ?_))
   refine ZP (q520 G T k2 (L12.good hp) (show lo+(min ((arrOf st).size-lo) (minRun' (arrOf st).size (arrOf st).size 0))<=(arrOf st₂).size by lia) (show fo<=(min ((arrOf st).size-lo) (minRun' (arrOf st).size (arrOf st).size 0)) by lia) (show 1<=(min ((arrOf st).size-lo) (minRun' (arrOf st).size (arrOf st).size 0)) by lia) A2 λst₃ S3 L3' A3'=>?_)
   have L3:Loc (arrOf st₂) (arrOf st₃) lo (lo+(min ((arrOf st).size-lo) (minRun' (arrOf st).size (arrOf st).size 0))):=L3'
   have A3:Asc lt (arrOf st₃) lo (min ((arrOf st).size-lo) (minRun' (arrOf st).size (arrOf st).size 0)):=A3'
   have kS:kindOf st₃=κ:=S3.1.trans k2
   have fS:failedOf st₃=none:=S3.2.2.trans f2
   have LS:Loc (arrOf st) (arrOf st₃) 0 (arrOf st).size:=L12.trans (L3.wide (WA _) {})
   have RS:Runs lt (arrOf st₃) 0 ((pendingOf st₃).toList.map pr) lo:=by
    rw[S3.2.1]
    exact R2.same λt _ ht=>L3.item (.inl ht)
   have Am:=A3
   have hm:0<(min ((arrOf st).size-lo) (minRun' (arrOf st).size (arrOf st).size 0)):={}
   refine c_iteF (by simp) ?_
   exact J _ _ ⟨kS,fS,LS,RS,Am,hm,show lo+(min ((arrOf st).size-lo) (minRun' (arrOf st).size (arrOf st).size 0))<=(arrOf st).size by lia⟩
  ·exact λc2=>⟨k2,f2,L12,R2,A2,fo1,{}⟩
 ·rintro r st' s' ⟨rfl,k1,f1,L1,rfl,R1⟩
  try dsimp only
  have hz1:=L1.size
  refine ZP (q92 (λt r st₂ s₂=>s₂=s'/\r=(none,())/\kindOf st₂=κ/\failedOf st₂=none/\Loc (arrOf st) (arrOf st₂) 0 (arrOf st).size/\Runs lt (arrOf st₂) 0 ((pendingOf st₂).toList.map pr) (arrOf st).size/\(pendingOf st₂).size+t<=(arrOf st).size)
   (λr st₂ s₂=>s₂=s'/\r=(none,())/\failedOf st₂=none/\Loc (arrOf st) (arrOf st₂) 0 (arrOf st).size/\Runs lt (arrOf st₂) 0 ((pendingOf st₂).toList.map pr) (arrOf st).size/\(pendingOf st₂).size<=1)
   ⟨rfl,rfl,k1,f1,L1,R1,by have:=R1.le;simp at this;lia⟩ ?_ ?_ ?_)
  ·rintro r st₂ s₂ ⟨e1,e2,e3,e4,e5,e6,e7⟩
   have e7':(pendingOf st₂).size+(arrOf st).size<=(arrOf st).size:=e7
   exact⟨e1,e2,e4,e5,e6,{}⟩
  ·rintro t x r st₂ s₂ ht ⟨rfl,rfl,k2,f2,L2,R2,hs2⟩
   try dsimp only
   refine ZP (kasC_get ?_)
   try dsimp only
   have hz2:=L2.size
   by_cases c1:(pendingOf st₂).size<=1
   ·rw[ZL c1]
    exact ZV ⟨rfl,rfl,f2,L2,R2,c1⟩
   rw[ZJ c1]
   refine ZP (q372 G T k2 f2 (L2.good hp) (ite_lt (show(pendingOf st₂).size-2-1+1<(pendingOf st₂).size by lia) (show(pendingOf st₂).size-2+1<(pendingOf st₂).size by lia)) (show(arrOf st).size<=(arrOf st₂).size by lia) R2 λst₅ k5 f5 e5 L5 R5=>?_)
   exact ZV ⟨rfl,rfl,k5,f5,L2.trans (L5.wide (ZH _) W77),R5,{}⟩
  ·rintro r st₂ s₂ ⟨rfl,rfl,f2,L2,R2,hs2⟩
   have hz2:=L2.size
   refine ZV (h st₂ f2 L2.perm ?_)
   rw[hz2]
   cases hl:(pendingOf st₂).toList with
   | nil=>
    rw[hl]at R2
    have z:0=(arrOf st).size:=R2
    lia
   | cons y l=>
    have hll:l=[]:=by
     have:(pendingOf st₂).toList.length<=1:=by simpa using hs2
     rw[hl,WT]at this
     exact eq_nil_of_length_eq_zero {}
    rw[hl,hll]at R2
    obtain⟨_,_,A9,e9⟩:=R2
    have e9':0+y.2.1=(arrOf st).size:=e9
    rw[<- e9',Nat.zero_add]
    exact A9
end
end TS
namespace TS
set_option autoImplicit false
open PySem PySem.W PyProof.Rows List
abbrev I3:=Int×Int×Int
noncomputable def lex3(a b:I3):Bool:=if a.1=b.1 then(if a.2.1=b.2.1 then decide (a.2.2<b.2.2)else decide (a.2.1<b.2.1))else decide (a.1<b.1)
def q237{a b:I3}:lex3 a b=false↔(b.1<a.1\/(a.1=b.1/\(b.2.1<a.2.1\/(a.2.1=b.2.1/\b.2.2<=a.2.2)))):=by
 unfold lex3
 split
 ·split
  ·rw[YV];lia
  ·rw[YV];lia
 ·rw[YV];lia
def q689{a b:I3}:lex3 a b=true↔¬(b.1<a.1\/(a.1=b.1/\(b.2.1<a.2.1\/(a.2.1=b.2.1/\b.2.2<=a.2.2)))):=by
 rw[<- q237,Bool.not_eq_false]
def TupI(h:Heap)(v:Value)(t:I3):Prop:=∃(a:Addr)(o:Obj)(n:Nat)(t1 t2 t3:Tok),v = .ref a/\h.get? a=some o/\o.cls = .type "tuple" /\ o.data = .seq #[.int t.1 t1,.int t.2.1 t2,.int t.2.2 t3] n
section
variable {prog:Program}{w:World}{A:Around}{E:VS}{s:Shared}
def one_lt{a b:Int}{t u:Tok}{Q:Bool->Shared->Prop}(h:Q (decide (a<b)) s):wpAny (model prog w) A (oneLt' false (.int a t) (.int b u)) Q E s:=
 kat_one _ _ (lt_int h)
def cmp3{x y:Value}{t u:I3}{Q:Bool->Shared->Prop}(hx:TupI s.heap x t)(hy:TupI s.heap y u)(h:Q (lex3 t u) s):wpAny (model prog w) A (keyLt' (tuples' true) x y) Q E s:=by
 obtain⟨a,o,n,t1,t2,t3,rfl,ho,_,hd⟩:=hx
 obtain⟨b,o',n',u1,u2,u3,rfl,ho',_,hd'⟩:=hy
 refine kat_lt ho hd ho' hd' ?_
 unfold lex3 at h
 show KatLex prog w A true _ Q [(_,_),(_,_),(_,_)] 0 s
 refine kat_cons (wpAny_eqBool_int (kat_go (λe=>kat_yes ?_) (λe=>kat_no ?_)))
 ·rw[ZL (beq_iff_eq.mp e)]at h
  refine kat_cons (wpAny_eqBool_int (kat_go (λe=>kat_yes ?_) (λe=>kat_no ?_)))
  ·rw[ZL (beq_iff_eq.mp e)]at h
   refine kat_cons (wpAny_eqBool_int (kat_go (λe=>kat_yes (kat_nil ?_)) (λe=>kat_no (one_lt h))))
   have e':=beq_iff_eq.mp e
   rw[ZI (W82 e')]at h
   exact h
  ·rw[ZJ (λz=>by rw[beq_iff_eq.mpr z]at e;cases e)]at h
   exact one_lt h
 ·rw[ZJ (λz=>by rw[beq_iff_eq.mpr z]at e;cases e)]at h
  exact oneLt_int h
def good3(ts:Value->I3):Good prog w A E (tuples' true) (λx=>TupI s.heap x.1 (ts x.1)) (λx y=>lex3 (ts x.1) (ts y.1)) s:=by
 intro x y st Q hx hy hk hq
 rw[lt'_eq]
 refine ZP (kasC_get (ZP (kasC_lift (wpAny_attempt ?_))))
 rw[hk]
 exact cmp3 (E:=_) hx hy (ZV hq)
def tot3{P:Keyed->Prop}(ts:Value->I3):Tot P (λx y=>lex3 (ts x.1) (ts y.1)):=
 ⟨λx y z _ _ _ h1 h2=>by rw[q237]at h1 h2 ⊢;lia,λx y _ _ h=>by rw[q689]at h;rw[q237];lia⟩
def TupI.keep{h h':Heap}{v:Value}{t:I3}(k:∀ b o,h.get? b=some o->o.cls = .type "tuple" -> h'.get? b=some o) (z:TupI h v t):TupI h' v t:=by
 obtain⟨a,o,n,t1,t2,t3,e,ho,hc,hd⟩:=z
 exact⟨a,o,n,t1,t2,t3,e,k a o ho hc,hc,hd⟩
theorem kat_of{h:Heap}{ts:Value->I3}:∀(vs:List Value),(∀ v∈vs,TupI h v (ts v)) -> ∃ fs:List Value,KatTups h vs fs/\fs.length=vs.length /\ ∀ v∈fs,∃ i t,v=Value.int i t
 | [],_=>⟨[],trivial,rfl,λv hv=>absurd hv (by simp)⟩
 | v::vs,hT=>by
  obtain⟨fs,k1,k2,k3⟩:=kat_of vs λu hu=>hT u (ZY _ hu)
  obtain⟨a,o,n,t1,t2,t3,rfl,ho,hc,hd⟩:=hT v (WD ..)
  exact⟨_::fs,KatTups.cons ho hc hd (f:=.int (ts (.ref a)).1 t1) rfl k1,by simp[k2],λu hu=>by
   rcases eB hu with e | e
   ·exact⟨_,_,e⟩
   ·exact k3 u e⟩
def q521{a:Addr}{vs:List Value}{n:Nat}{ts:Value->I3}{Q:PySem.Fin->Shared->Prop}(ho:s.heap.get? a=some (seqObj "list" vs.toArray n)) (hT:∀ v∈vs,TupI s.heap v (ts v)) (hz:vs.length<=sizeLine)
  (h:∀ out:Array Value,out.toList.Perm vs->(out.toList.Pairwise λx y=>lex3 (ts y) (ts x)=false)->Q (.done (.ret .none)) { s with heap:=sortedHeap s.heap a vs out }):wpAny (model prog w) A (Builtin.«list.sort» ⟨[.ref a],[]⟩) Q E s:=by
 have ha:a<s.heap.objs.size:=ZW ho
 have hvz:vs.toArray.size=vs.length:=WG ..
 obtain⟨e1,ho1⟩:∃ e1,(s.heap.update a (Obj.mapSeq λ_=>(#[]:Array Value))).get? a=some (seqObj "list" #[] e1):=⟨_,get?_update_seq ho λ_=>#[]⟩
 rw[list_sort_plain]
 refine ZC (listItems_at ho rfl (ZC (listUpdate_at ho rfl ?_ (by rw[hvz];exact hz) (WA _))))
 refine ZC (seqEpoch_at ho1 rfl (ZC (wpAny_newTuple (ZC (wpAny_newList (YW ?_) (WA _))) (by show vs.length<=_;exact hz))))
 obtain⟨h6,e6⟩:∃ h6,h6=((s.heap.update a (Obj.mapSeq λ_=>(#[]:Array Value))).push (seqObj "tuple" vs.toArray 0)).push (seqObj "list" #[] 0):=⟨_,rfl⟩
 have ho6:h6.get? a=some (seqObj "list" #[] e1):=by
  rw[e6]
  exact ZE _ (ZE _ ho1)
 have hT6:∀ v∈vs,TupI h6 v (ts v):=λv hv=>(hT v hv).keep λb o hb hc=>by
  have nb:b≠a:=λz=>by
   rw[z,ho]at hb
   cases hb
   exact absurd (Value.type.inj hc) ∅
  rw[e6]
  exact ZE _ (ZE _ (((Heap.SameBut.update s.heap a (Obj.mapSeq λ_=>(#[]:Array Value))).2 b nb).trans hb))
 show wpAny (model prog w) A _ Q E { s with heap:=((s.heap.update a (Obj.mapSeq λ_=>(#[]:Array Value))).push (seqObj "tuple" vs.toArray 0)).push (seqObj "list" #[] 0) }
 have hfin:∀ out:Array Value,out.toList.Perm vs->(out.toList.Pairwise λx y=>lex3 (ts y) (ts x)=false)->Q (.done (.ret .none)) { s with heap:=h6.update a (Obj.mapSeq λ_=>out) }:=λout p1 p2=>by
  rw[e6]
  exact h out p1 p2
 rw[<- e6]
 dsimp only
 by_cases h2:vs.toArray.size<2
 ·rw[ZL h2,ZL h2]
  refine ZC (ZM ?_)
  rw[StateT.run_pure]
  refine ZC (ZM ?_)
  dsimp only
  have eo:((arrOf (SortSt.mk' general' (vs.toArray.zip vs.toArray) #[] 7 none)).map (·.2))=vs.toArray:=by
   show(vs.toArray.zip vs.toArray).map (·.2)=vs.toArray
   apply Array.toList_inj.mp
   simp[map_snd_zip]
  rw[eo]
  refine ZC (seqEpoch_at ho6 rfl (ZC (listUpdate_at ho6 rfl ?_ (WA _) (by rw[hvz];lia))))
  simp only[bne_self_eq_false,Bool.false_eq_true,if_false]
  refine ZM (hfin vs.toArray (List.Perm.refl _) ?_)
  match vs,h2 with
  | [],_=>exact .nil
  | [x],_=>exact pairwise_singleton _ _
  | x::y::l,h2=>exact absurd h2 (by simp)
 ·rw[ZJ h2,ZJ h2]
  obtain⟨fs,k1,k2,k3⟩:=kat_of vs hT6
  refine ZC (kat_kind (T:=.type "int") (s:={ s with heap:=h6 }) k1 {} (λv hv=>?_) (by rfl) ?_)
  ·obtain⟨i,t,rfl⟩:=k3 v hv
   exact Looks.of_pure rfl
  have zl:(vs.toArray.zip vs.toArray).toList=vs.zip vs:=by simp
  have pz:∀ x∈(vs.toArray.zip vs.toArray).toList,TupI h6 x.1 (ts x.1):=λx hx=>by
   rw[zl]at hx
   exact hT6 _ (mem_zip_self hx).2
  have run:=q450 (prog:=prog) (w:=w) (A:=A) (E:=E) (good3 (s:={ s with heap:=h6 }) ts) (tot3 ts) (Q:=λ_ st' s'=>s' = { s with heap:=h6 }/\failedOf st'=none/\(arrOf st').Perm (vs.toArray.zip vs.toArray)/\Asc (λx y=>lex3 (ts x.1) (ts y.1)) (arrOf st') 0 (arrOf st').size)
   (st:=SortSt.mk' (tuples' true) (vs.toArray.zip vs.toArray) #[] 7 none) rfl rfl rfl pz (by show 1<=(vs.toArray.zip vs.toArray).size;simp;lia) (λst' f1 f2 f3=>⟨rfl,f1,f2,f3⟩)
  refine ZC (YJ run ?_ λ_ _ e=>e)
  rintro ⟨⟨⟩,st'⟩ s' ⟨rfl,f1,f2,f3⟩
  dsimp only
  have p0:=Array.perm_iff_toList_perm.mp f2
  rw[zl]at p0
  have osz:((arrOf st').map (·.2)).size=vs.length:=by
   rw[Array.size_map,<- ZX,p0.length_eq]
   simp
  refine ZC (seqEpoch_at ho6 rfl (ZC (listUpdate_at ho6 rfl ?_ (WA _) (ZQ (Nat.le_of_eq osz) {}))))
  rw[f1]
  simp only[bne_self_eq_false,Bool.false_eq_true,if_false]
  refine ZM (hfin _ ?_ ?_)
  ·rw[Array.toList_map]
   refine(p0.map _).trans (List.Perm.of_eq ?_)
   exact map_snd_zip (ZH _)
  ·rw[Array.toList_map,pairwise_map]
   have sr:Srt (λx y=>lex3 (ts x.1) (ts y.1)) (arrOf st').toList:=q563 λp q g1 g2=>by
    have:=f3 p q g1 g2
    rw[Nat.zero_add,Nat.zero_add]at this
    exact this
   refine List.Pairwise.imp_of_mem ?_ sr
   intro x y hx hy hxy
   have ex:=(mem_zip_self (p0.mem_iff.mp hx)).1
   have ey:=(mem_zip_self (p0.mem_iff.mp hy)).1
   rw[<- ex,<- ey]
   exact hxy
def sorted_t{l:Addr}{vs:List Value}{ts:Value->I3}{Q:VS}(hl:s.heap.IsList l vs.toArray)(hT:∀ v∈vs,TupI s.heap v (ts v))(hz:vs.length<=sizeLine)
  (h:∀ out:Array Value,out.toList.Perm vs->(out.toList.Pairwise λx y=>lex3 (ts y) (ts x)=false)->Q (.ref (s.heap.objs.size+1)) { s with heap:=sortedAll s.heap vs out }):wpAny (model prog w) A (call (.builtin "sorted") [.ref l]) Q E s:=by
 refine Calls.call_function_entry kind_sorted plain_sorted entry_sorted (args_sorted1 _) ?_
 unfold Builtin.«sorted»
 refine ZC (m:=checkCount "sorted" 1 1 _) (ZM (ZC (collect_list hl (ZC (wpAny_newList ?_ (by show vs.length<=_;exact hz))) hz)))
 have hsz:((s.heap.push (seqObj "list" #[] 0)).update s.heap.objs.size (Obj.mapSeq (· ++ vs.toArray))).objs.size=s.heap.objs.size+1:=by rw[Heap.size_update,size_push']
 have hoL:(((s.heap.push (seqObj "list" #[] 0)).update s.heap.objs.size (Obj.mapSeq (· ++ vs.toArray))).push (seqObj "list" vs.toArray 0)).get? (s.heap.objs.size+1)=some (seqObj "list" vs.toArray 0):=by rw[<- hsz];exact ZT _ rfl
 have hT2:∀ v∈vs,TupI (((s.heap.push (seqObj "list" #[] 0)).update s.heap.objs.size (Obj.mapSeq (· ++ vs.toArray))).push (seqObj "list" vs.toArray 0)) v (ts v):=λv hv=>(hT v hv).keep λb o hb hc=>by
  have nb:b≠s.heap.objs.size:=WE (ZW hb)
  exact ZE _ (((Heap.SameBut.update (s.heap.push (seqObj "list" #[] 0)) s.heap.objs.size (Obj.mapSeq (· ++ vs.toArray))).2 b nb).trans (ZE _ hb))
 show wpAny _ _ _ _ _ { s with heap:=((s.heap.push (seqObj "list" #[] 0)).update s.heap.objs.size (Obj.mapSeq (· ++ vs.toArray))).push (seqObj "list" vs.toArray 0) }
 rw[hsz]
 exact ZC (YW (wpAny_call_entry slot_list_sort ⟨_,hoL,rfl⟩ entry_list_sort (q521 hoL hT2 hz λout a1 a2=>⟨_,rfl,ZM ⟨_,rfl,h out a1 a2⟩⟩) (args_list_sort _)))
end
end TS
namespace TS
set_option autoImplicit false
open PySem PySem.W PyProof.Rows List
def TupI.inj{h:Heap}{v:Value}{t u:I3}(x:TupI h v t)(y:TupI h v u):t=u:=by
 obtain⟨a,o,n,t1,t2,t3,rfl,ho,_,hd⟩:=x
 obtain⟨b,o',n',u1,u2,u3,e,ho',_,hd'⟩:=y
 cases e
 rw[ho]at ho'
 cases ho'
 rw[hd]at hd'
 have z:=congrArg Array.toList (Data.seq.inj hd').1
 simp only[List.cons.injEq,Value.int.injEq]at z
 exact Prod.ext z.1.1 (Prod.ext z.2.1.1 z.2.2.1.1)
open Classical in
noncomputable def tsOf(h:Heap)(v:Value):I3:=if q:∃ u,TupI h v u then q.choose else(0,0,0)
def tsOf_eq{h:Heap}{v:Value}{u:I3}(x:TupI h v u):tsOf h v=u:=by
 unfold tsOf
 have q:∃ u,TupI h v u:=⟨u,x⟩
 rw[dif_pos q]
 exact q.choose_spec.inj x
end TS
namespace L2
open PySem PySem.Spec PyProof.Rows List
variable {X:Cx}
def q70(K:Fg)(H:Hp)(y:V)(u:TS.I3):Prop:=∃ a,y = .ref a/\SqT K H a [.int u.1,.int u.2.1,.int u.2.2]
noncomputable def absR:Value->V
 | .ref a=>.ref a
 | _=>.non
theorem q238{α β γ:Type}{R:β->γ->Prop}{f:α->β}{g:α->γ}:∀(l:List α),(∀ v∈l,R (f v) (g v))->Paired R (l.map f) (l.map g)
 | [],_=>.nil
 | x::l,h=>.cons (h x (WD ..)) (q238 l λv hv=>h v (ZY _ hv))
theorem q565{s:Shared}(I:Inv X pins σ H s):∀{ys:List V}{us:List TS.I3}{its:List Value},Paired (q70 X.K H) ys us->Vals ys its ->
  (∀ v∈its,TS.TupI s.heap v (TS.tsOf s.heap v)/\q70 X.K H (absR v) (TS.tsOf s.heap v)/\RelV (absR v) v)/\ys=its.map absR/\us=its.map (TS.tsOf s.heap)
 | _,_,_,.nil,.nil=>⟨λv hv=>absurd hv (by simp),rfl,rfl⟩
 | _,_,_,.cons (a:=y) (b:=u) ht hp,.cons r rr=>by
  obtain⟨h1,h2,h3⟩:=q565 I hp rr
  obtain⟨a,rfl,hq⟩:=ht
  cases r
  obtain⟨its2,r1,p1,_⟩:=I.tuple hq
  obtain⟨o,ho,hc,n,hd⟩:=id p1
  cases r1 with
  | cons q1 r1=>
   cases r1 with
   | cons q2 r1=>
    cases r1 with
    | cons q3 r1=>
     cases r1
     obtain⟨t1,rfl⟩:=q1
     obtain⟨t2,rfl⟩:=q2
     obtain⟨t3,rfl⟩:=q3
     have tp:TS.TupI s.heap (.ref a) u:=⟨a,o,n,t1,t2,t3,rfl,ho,hc,hd⟩
     have e:=TS.tsOf_eq tp
     refine⟨λv hv=>?_,by rw[map_cons,<- h2];rfl,by rw[map_cons,<- h3,e]⟩
     rcases eB hv with z | z
     ·rw[z,e]
      exact⟨tp,⟨a,rfl,hq⟩,rfl⟩
     ·exact h1 v z
inductive q404(K:Fg)(xs:List V)(H:Hp)(Q:VK):Prop
 |mk(p:Addr)(ys:List V)(us:List TS.I3)(_:xs=[.ref p])(_:SqL K H p ys)(_:Paired (q70 K H) ys us)(_:∀(l:Addr)(zs:List V)(vs:List TS.I3),H l=none->(zs.zip vs).Perm (ys.zip us)->Paired (q70 K H) zs vs->(vs.Pairwise λx y=>TS.lex3 y x=false)->Q (.ref l) (upd H l (.lst zs)))
def q451{K:Fg}(hK:X.K=K):CallR X (.builtin "sorted") (q404 K):=by
 subst hK
 intro pins s σ H xs us Q I r h
 obtain⟨p,ys,ts,rfl,hq,hp,q⟩:=h
 obtain⟨u,rfl,rx⟩:=vals1 r
 cases rx
 obtain⟨its,r',pl,hz⟩:=I.list hq
 have hl:=r'.length
 obtain⟨h1,h2,h3⟩:=q565 I hp r'
 refine TS.sorted_t (ts:=TS.tsOf s.heap) pl.isList (λv hv=>(h1 v hv).1) {} λout a1 a2=>?_
 obtain⟨e,he⟩:=PyProof.Rows.sortedAll_at s.heap its out
 have hml:out.toList.length=its.length:=a1.length_eq
 have hm:∀ v∈out.toList,v∈its:=λv hv=>a1.mem_iff.mp hv
 refine⟨.ref (s.heap.objs.size+1),_,I.laid (t':=s.toks) (a:=s.heap.objs.size+1) (o:=.lst (out.toList.map absR)) (λb ob z=>PyProof.Rows.sortedAll_old z) (Nat.le_succ _) ?_,rfl,q _ (out.toList.map absR) (out.toList.map (TS.tsOf s.heap)) (I.hok.fresh (Nat.le_succ _)) ?_ ?_ ?_⟩
 ·exists by rw[ZN];lia,out.toList,e,?_
  ·have z:=q238 (R:=RelV) (f:=absR) (g:=id) out.toList λv hv=>(h1 v (hm v hv)).2.2
   rw[map_id]at z
   exact z
  ·rw[he]
 ·rw[h2,h3,zip_map',zip_map']
  exact a1.map _
 ·exact q238 out.toList λv hv=>(h1 v (hm v hv)).2.1
 ·rw[pairwise_map]
  exact a2
structure M1(X:Cx)(o:Expr)(m:Str)(apos:Pos)(e:Expr)(cpos:Pos):Prop where
 base:attributeBase o m X.env (eval o X.env)=eval o X.env
 few:((backTo cpos (starEach [e] X.env)).all (λx=>!x.1)&&(backToKw cpos (keywordEach [] X.env)).all (λx=>x.1.isSome)
  && decide (([e]:List Expr).length+([]:List Keyword).length+(if([]:List Keyword).isEmpty then 0 else 1)<30))=true
 line:(apos.endLine==cpos.line)=true
 trees:backTo cpos (starEach [e] X.env)=[(false,eval e X.env)]
structure M2(X:Cx)(o:Expr)(m:Str)(apos:Pos)(e f:Expr)(cpos:Pos):Prop where
 base:attributeBase o m X.env (eval o X.env)=eval o X.env
 few:((backTo cpos (starEach [e,f] X.env)).all (λx=>!x.1)&&(backToKw cpos (keywordEach [] X.env)).all (λx=>x.1.isSome)
  && decide (([e,f]:List Expr).length+([]:List Keyword).length+(if([]:List Keyword).isEmpty then 0 else 1)<30))=true
 line:(apos.endLine==cpos.line)=true
 trees:backTo cpos (starEach [e,f] X.env)=[(false,eval e X.env),(false,eval f X.env)]
end L2
namespace TS
set_option autoImplicit false
open PySem PySem.W PyProof.Rows List
abbrev I2:=Int×Int
end TS
namespace L2
open PySem PySem.Spec PyProof.Rows List
variable {X:Cx}
theorem Inv.laidM{s:Shared}{h':Heap}{t':Nat}(I:Inv X pins σ H s)(k:∀ b u,s.heap.get? b=some u->h'.get? b=some u)(old:∀ b u,H b=some u->H' b=some u)
  (off:∀ b u,s.heap.get? b=some u->H b=none->H' b=none) (new:∀ b u,H' b=some u->H b=none->ObjOk X.prog X.w H' h' b u):Inv X pins σ H' { s with heap:=h',toks:=t' }:=by
 refine I.un ⟨λb u q _ _ _=>k b u q,λb u q _ _ _=>⟨u.slots,k b u q⟩,λb u q n _=>off b u q n,λb u q _=>⟨u,k b u q⟩,λb xs q=>old b _ q,λb o u q=>old b _ q,λb ps q=>⟨#[],by rw[old b _ q];simp⟩⟩ λb u e=>?_
 cases q:H b with
 | none=>exact new b u e q
 | some v=>
  rw[old b v q]at e
  cases e
  exact(I.hok b _ q).stay (λc v _ q=>k c v q) (λc q=>old c _ q) λc xs q=>old c _ q
end L2
namespace TS
set_option autoImplicit false
open PySem
abbrev Up(l:List Nat):Prop:=l.Pairwise (·<·)
def q566{l:List Nat}(h:Up l){i j:Nat}{x y:Nat}(hx:l[i]? = some x)(hy:l[j]? = some y)(q:i<j):x<y:=by
 obtain⟨a,rfl⟩:=eA hx
 obtain⟨b,rfl⟩:=eA hy
 exact List.pairwise_iff_getElem.mp h i j a b q
theorem q690{xs:Array Nat}{j:Nat}(hu:Up xs.toList):∀(f lo hi:Nat),hi<=xs.size->hi-lo<=f->lo<=hi->(∀ i x,xs[i]? = some x->i<lo->x<j)->(∀ i x,xs[i]? = some x->hi<=i->j<=x) ->
  SetTable.below.go xs j f lo hi<=xs.size/\(∀ i x,xs[i]? = some x->i<SetTable.below.go xs j f lo hi->x<j)/\(∀ i x,xs[i]? = some x->SetTable.below.go xs j f lo hi<=i->j<=x)
 | 0,lo,hi,hz,hf,hlh,h1,h2=>by
  have e:lo=hi:={}
  subst e
  exact⟨hz,h1,h2⟩
 | f+1,lo,hi,hz,hf,hlh,h1,h2=>by
  unfold SetTable.below.go
  by_cases q:lo<hi
  ·rw[ZL q]
   dsimp only
   have hm:(lo+hi)/2<xs.size:={}
   have g:xs[(lo+hi)/2]? = some (xs.getD ((lo+hi)/2) j):=by
    rw[WO hm];simp[Array.getD,hm]
   have gl:xs.toList[(lo+hi)/2]? = some (xs.getD ((lo+hi)/2) j):=by rw[WH];exact g
   by_cases q2:xs.getD ((lo+hi)/2) j<j
   ·rw[ZL q2]
    refine q690 hu f _ hi hz {} {} (λi x hx hi'=>?_) h2
    have hx':xs.toList[i]? = some x:=by rw[WH];exact hx
    rcases Nat.lt_or_ge i ((lo+hi)/2)with z | z
    ·exact Nat.lt_trans (q566 hu hx' gl z) q2
    ·have:i=(lo+hi)/2:={}
     subst this
     rw[g]at hx;cases hx;exact q2
   ·rw[ZJ q2]
    refine q690 hu f lo _ {} {} {} h1 λi x hx hi'=>?_
    have hx':xs.toList[i]? = some x:=by rw[WH];exact hx
    rcases Nat.lt_or_ge ((lo+hi)/2) i with z | z
    ·exact ZQ (Nat.not_lt.mp q2) (Nat.le_of_lt (q566 hu gl hx' z))
    ·have:i=(lo+hi)/2:={}
     subst this
     rw[g]at hx;cases hx;exact Nat.not_lt.mp q2
  ·rw[ZJ q]
   have e:lo=hi:=(W42 hlh q)
   subst e
   exact⟨hz,h1,h2⟩
def bel{xs:Array Nat}{j:Nat}(hu:Up xs.toList):SetTable.below xs j<=xs.size/\(∀ i x,xs[i]? = some x->i<SetTable.below xs j->x<j)/\(∀ i x,xs[i]? = some x->SetTable.below xs j<=i->j<=x):=by
 refine q690 hu _ _ _ (ZH _) {} (WA _) (λi x _ h=>absurd h (Nat.not_lt_zero _)) λi x hx h=>?_
 have:=(Array.getElem?_eq_some_iff.mp hx).1
 lia
def bel_next{xs:Array Nat}(hu:Up xs.toList){i x:Nat}(hx:xs[i]? = some x):SetTable.below xs (x+1)=i+1:=by
 obtain⟨b1,b2,b3⟩:=bel (j:=x+1) hu
 have hi:=(Array.getElem?_eq_some_iff.mp hx).1
 rcases Nat.lt_or_ge (SetTable.below xs (x+1)) (i+1)with z | z
 ·exact absurd (b3 i x hx {}) {}
 ·rcases Nat.lt_or_ge (i+1) (SetTable.below xs (x+1))with z2 | z2
  ·have h1:i+1<xs.size:={}
   have g:xs[i+1]? = some xs[i+1]:=WO h1
   have l1:=b2 (i+1) _ g z2
   have l2:=q566 hu (i:=i) (j:=i+1) (by rw[WH];exact hx) (by rw[WH];exact g) (Nat.lt_succ_self _)
   lia
  ·lia
def bel_zero{xs:Array Nat}(hu:Up xs.toList):SetTable.below xs 0=0:=by
 obtain⟨b1,b2,b3⟩:=bel (j:=0) hu
 rcases Nat.eq_zero_or_pos (SetTable.below xs 0)with z | z
 ·exact z
 ·have h0:0<xs.size:={}
  exact absurd (b2 0 _ (WO h0) z) (Nat.not_lt_zero _)
def up_put{xs:Array Nat}{j:Nat}(hu:Up xs.toList)(hn:xs[SetTable.below xs j]?≠some j):Up (SetTable.insertAt xs (SetTable.below xs j) j).toList:=by
 obtain⟨b1,b2,b3⟩:=bel (j:=j) hu
 rw[SetTable.toList_insertAt]
 have lo:∀ y∈xs.toList.take (SetTable.below xs j),y<j:=λy hy=>by
  obtain⟨i,hi⟩:=List.mem_iff_getElem?.mp hy
  rw[List.getElem?_take]at hi
  split at hi
  ·rename_i q
   rw[WH]at hi
   exact b2 i y hi q
  ·cases hi
 have hi:∀ y∈xs.toList.drop (SetTable.below xs j),j<y:=λy hy=>by
  obtain⟨i,hi⟩:=List.mem_iff_getElem?.mp hy
  rw[List.getElem?_drop]at hi
  have hi':xs[SetTable.below xs j+i]? = some y:=by rw[<- WH];exact hi
  have l1:=b3 _ y hi' (Nat.le_add_right _ _)
  rcases Nat.lt_or_ge j y with z | z
  ·exact z
  ·have e:y=j:={}
   subst e
   cases i with
   | zero=>exact absurd hi' hn
   | succ i=>
    have h0:SetTable.below xs y<xs.size:=by
     have:=(Array.getElem?_eq_some_iff.mp hi').1
     lia
    have g:xs[SetTable.below xs y]? = some xs[SetTable.below xs y]:=WO h0
    have l2:=b3 _ _ g (ZH _)
    have l3:=q566 hu (i:=SetTable.below xs y) (j:=SetTable.below xs y+(i+1)) (by rw[WH];exact g) (by rw[WH];exact hi') {}
    lia
 refine List.pairwise_append.mpr ⟨hu.sublist (List.take_sublist _ _),List.pairwise_cons.mpr ⟨hi,hu.sublist (List.drop_sublist _ _)⟩,λa ha b hb=>?_⟩
 rcases eB hb with z | z
 ·rw[z];exact lo a ha
 ·exact Nat.lt_trans (lo a ha) (hi b z)
structure GT(b:Bool)(t:SetTable):Prop where
 led:t.led=b
 up:t.plain=true->Up t.place.toList
def GT.fresh(b:Bool):GT b (.fresh 0 0 b):=⟨rfl,λ_=>.nil⟩
def GT.standIn{b:Bool}{t:SetTable}(h:GT b t)(n:Nat):GT b (t.standIn n):=⟨h.led,λz=>by cases z⟩
def GT.off{b:Bool}{t:SetTable}(h:GT b t):GT b { t with plain:=false }:=⟨h.led,λz=>by cases z⟩
def GT.orStandIn{b:Bool}{t:SetTable}(h:GT b t)(n:Nat):GT b (t.orStandIn n):=by
 unfold SetTable.orStandIn
 split
 ·exact h
 ·exact h.standIn n
theorem q239{t:SetTable}{ha:Nat->Int}{h:Int}:∀(f:Nat)(p:SetTable.Probe)(j:Nat)(d:Option Nat),(∀ x,p.dummy=some x->t.place[SetTable.below t.place x]?≠some x)->SetTable.probe.go t ha h f p=some (.empty j d) ->
  t.place[SetTable.below t.place (d.getD j)]?≠some (d.getD j)
 | 0,_,_,_,_,e=>by simp[SetTable.probe.go]at e
 | f+1,p,j,d,hp,e=>by
  unfold SetTable.probe.go at e
  have adv:∀ q:SetTable.Probe,(t.advance q).dummy=q.dummy:=λq=>by
   unfold SetTable.advance
   split <;> rfl
  cases hs:t.slot p.j with
  | empty=>
   rw[hs]at e
   cases e
   have hl:t.place[SetTable.below t.place p.j]?≠some p.j:=λz=>by
    unfold SetTable.slot at hs
    simp[z]at hs
   cases hd:p.dummy with
   | none=>exact hl
   | some x=>exact hp x hd
  | dummy=>
   rw[hs]at e
   refine q239 f _ j d (λx hx=>?_) e
   rw[adv]at hx
   cases hx
   intro z
   unfold SetTable.slot at hs
   simp[z]at hs
  | live i=>
   rw[hs]at e
   dsimp only at e
   split at e
   ·cases e
   ·refine q239 f _ j d (λx hx=>?_) e
    rw[adv]at hx
    exact hp x hx
def GT.layNew{b:Bool}{t:SetTable}(g:GT b t)(es:Array (Int×Value))(h:Int)(x:Value):GT b (layNew t es h x).2.1:=by
 unfold PySem.layNew
 split
 ·rename_i slot wd e
  dsimp only
  refine GT.orStandIn (t:=(t.put slot).1) ⟨g.led,λz=>?_⟩ _
  show Up (SetTable.insertAt t.place (SetTable.below t.place slot) slot).toList
  refine up_put (g.up z) ?_
  unfold SetTable.freeSlot at e
  split at e
  ·rename_i j d ep
   cases e
   exact q239 _ _ j d (λx hx=>by cases hx) ep
  ·cases e
 ·exact g.standIn _
theorem q691:∀(f:Nat->Option Nat)(l:List Nat),Up l->Up ((l.filterMap λj=>(f j).map (j,·)).map (·.1))
 | _,[],_=>.nil
 | f,j::l,h=>by
  obtain⟨h1,h2⟩:=List.pairwise_cons.mp h
  have ih:=q691 f l h2
  rw[List.filterMap_cons]
  cases hf:f j with
  | none=>exact ih
  | some k=>
   dsimp only [Option.map]
   rw[List.map_cons]
   refine List.pairwise_cons.mpr ⟨λy hy=>?_,ih⟩
   obtain⟨⟨y1,y2⟩,hq,rfl⟩:=eE hy
   obtain⟨z,hz,hz'⟩:=List.mem_filterMap.mp hq
   cases hfz:f z with
   | none=>rw[hfz]at hz';cases hz'
   | some k'=>rw[hfz]at hz';cases hz';exact h1 _ hz
theorem GT.relayAll{b:Bool}{t:SetTable}(g:GT b t)(es:Array (Int×Value))(n:Nat):GT b (relayAll t es n).2.1:=by
 unfold PySem.relayAll
 split
 ·rename_i t' order e
  dsimp only
  split
  ·unfold SetTable.relaid SetTable.laid at e
   cases hc:SetTable.layClean (SetTable.sizeAbove n-1) (es.map (·.1)) with
   | none=>rw[hc]at e;cases e
   | some ow=>
    rw[hc]at e
    cases e
    refine⟨g.led,λ_=>?_⟩
    show Up (List.toArray _).toList
    rw[List.toList_toArray]
    exact q691 (λj=>ow.getD j none) _ List.pairwise_lt_range
  ·exact g.standIn _
 ·exact g.standIn _
end TS
namespace TS
set_option autoImplicit false
open PySem
noncomputable def stD(ks:List Int)(k:Int):List Int:=if ks.any (·==k)then ks else ks++[k]
noncomputable def byT(w:World):Bool:=w.params.followText "set-order"
noncomputable def kOf:Value->Int
 | .int k _=>k
 | _=>0
def AllI(vs:List Value):Prop:=∀ v∈vs,∃ k t,v=Value.int k t
structure SetS(prog:Program)(w:World)(o:Obj)(es:Array (Int×Value))(ep:Nat)(t:SetTable)(ks:List Int):Prop where
 ex:o.ExactSet
 dat:o.data = .set es ep t
 el:ElemsOf (intKind prog w) es.toList
 few:es.size<scanBound
 fit:t.fits es.size=true
 gt:GT (!(byT w)) t
 pm:(es.toList.map λe=>kOf e.2).Perm ks
 nd:ks.Nodup
def SetI(prog:Program)(w:World)(h:Heap)(a:Addr)(ks:List Int):Prop:=∃ o es ep t,h.get? a=some o/\SetS prog w o es ep t ks
def iki(prog:Program)(w:World)(k:Int)(t:Tok):(intKind prog w).is k (.int k t)=true:=by simp[intKind,Value.isInt]
section
variable {prog:Program}{w:World}{A:Around}{E:VS}{s:Shared}
def el_int{es:List (Int×Value)}(h:ElemsOf (intKind prog w) es){e:Int×Value}(he:e∈es):∃ t,e.2 = .int (kOf e.2) t:=by
 obtain⟨⟨k,hk,_⟩,_⟩:=h e he
 obtain⟨t,ht⟩:=Value.isInt_shape hk
 exact⟨t,by rw[ht];rfl⟩
def is_kOf{es:List (Int×Value)}(h:ElemsOf (intKind prog w) es){e:Int×Value}(he:e∈es)(k:Int):(intKind prog w).is k e.2=decide (k=kOf e.2):=by
 obtain⟨t,ht⟩:=el_int h he
 exact KeyKind.is_eq_decide (knd:=intKind prog w) (k:=kOf e.2) (by rw[ht];exact iki _ _ _ _) k
def q373{h:Heap}{a:Addr}{o:Obj}{es es':Array (Int×Value)}{ep:Nat}{t t':SetTable}(ho:h.get? a=some o)(hd:o.data = .set es ep t) :
  (h.update a (Obj.putSet es' t')).get? a=some { o with data:=.set es' (ep+1) t' }:=by
 have z:=Heap.get?_update_self (Obj.putSet es' t') ho (by rw[putSet_of es' t' hd];rfl)
 rwa [putSet_of es' t' hd]at z
def q567{g:Bool->Sem Unit}(hg:∀(b:Bool)(s₁:Shared)(Q':Unit->Shared->Prop),Q' () s₁->wpAny (model prog w) A (g b) Q' E s₁){b:Bool}{a:Addr}{o:Obj}{es es1:Array (Int×Value)}{ep:Nat}{t t2:SetTable}
  (ho:s.heap.get? a=some o) (hd:o.data = .set es ep t) (f1:es1.size<scanBound) (f2:t2.fits es1.size=true) (f3:GT b t2) {wd:Bool} {R:Option Bool->Shared->Prop}
  (h:∀ h' es' ep' t',Heap.SameBut a s.heap h'->h'.get? a=some { o with data:=.set es' ep' t' }->es'.toList.Perm es1.toList->t'.fits es'.size=true->GT b t'->R (some true) { s with heap:=h' }) :
  wpAny (model prog w) A (storeSet a es1 t2 >>= λ_=>if(!wd&&t2.tooFull)=true then(g (relayAll t2 es1 (SetTable.grown es1.size)).2.2 >>= λ_=>
   storeSet a (relayAll t2 es1 (SetTable.grown es1.size)).1 (relayAll t2 es1 (SetTable.grown es1.size)).2.1 >>= λ_=>pure (some true))else pure (some true)) R E s:=by
 refine ZC (wpAny_storeSet_of ho hd ?_ (fits_of_scanBound f1))
 have ho1:=q373 (es':=es1) (t':=t2) ho hd
 have sb:=Heap.SameBut.update s.heap a (Obj.putSet es1 t2)
 split
 ·have hp:=relayAll_perm t2 es1 (SetTable.grown es1.size)
  have hf:=relayAll_fits t2 es1 (SetTable.grown es1.size)
  have hG:=f3.relayAll es1 (SetTable.grown es1.size)
  generalize relayAll t2 es1 (SetTable.grown es1.size)=r at hp hf hG ⊢
  obtain⟨es2,t3,gv⟩:=r
  dsimp only at hp hf hG ⊢
  have hsz:es2.size=es1.size:=by rw[<- ZX,hp.length_eq,ZX]
  refine ZC (hg _ _ _ (ZC (wpAny_storeSet_of ho1 rfl ?_ (fits_of_scanBound (by rw[hsz];exact f1)))))
  exact ZM (h _ es2 _ t3 (sb.trans (Heap.SameBut.update _ a _)) (q373 (o:={ o with data:=.set es1 (ep+1) t2 }) ho1 rfl) hp hf hG)
 ·exact ZM (h _ es1 _ t2 sb ho1 (List.Perm.refl _) f2 f3)
theorem set_add{a:Addr}{ks:List Int}{k:Int}{tk:Tok}{Q:Shared->Prop}(hS:SetI prog w s.heap a ks)(hr:ks.length+1<scanBound)
  (h:∀ h',Heap.SameBut a s.heap h'->SetI prog w h' a (stD ks k)->Q { s with heap:=h' }):wpAny (model prog w) A (setAddHashed a (.int k tk) ((intKind prog w).hash k)) (λ_ s'=>Q s') E s:=by
 obtain⟨o,es,ep,t,ho,hs⟩:=hS
 have hkey:(intKind prog w).is k (.int k tk)=true:=iki _ _ _ _
 have hlen:es.size=ks.length:=by rw[<- hs.pm.length_eq,List.length_map,ZX]
 unfold setAddHashed;unfold setAddHashedIn
 refine YW (ZC (wpAny_setState_of ho hs.dat hs.fit ?_));dsimp only
 rw[byScan_of (knd:=intKind prog w) rfl hs.few hs.el,ZL rfl]
 unfold setAddByScan
 refine ZC (ZC (wpAny_rule (ZC (wpAny_setScan_of hkey ho hs.dat hs.fit hs.el ?_))))
 have any_iff:ks.any (·==k)=true↔∃ e∈es.toList,(intKind prog w).is k e.2=true:=by
  rw[List.any_eq_true]
  constructor
  ·rintro ⟨x,hx,e⟩
   obtain⟨e',he',rfl⟩:=eE (hs.pm.mem_iff.mpr hx)
   exact⟨e',he',by rw[is_kOf hs.el he',ZA (beq_iff_eq.mp e).symm]⟩
  ·rintro ⟨e,he,hk⟩
   rw[is_kOf hs.el he,ZZ]at hk
   exact⟨k,hs.pm.mem_iff.mp (List.mem_map.mpr ⟨e,he,hk.symm⟩),beq_self_eq_true _⟩
 cases hf:List.findIdx? (λe=>(intKind prog w).is k e.2) es.toList with
 | some j=>
  obtain⟨hj,hp,_⟩:=List.findIdx?_eq_some_iff_getElem.mp hf
  have hin:=any_iff.mpr ⟨es.toList[j],List.getElem_mem hj,hp⟩
  refine ZM (ZM ?_)
  have z:=h s.heap (Heap.SameBut.refl a s.heap) (by unfold stD;rw[ZL hin];exact⟨o,es,ep,t,ho,hs⟩)
  cases s
  exact z
 | none=>
  have hout:¬ ks.any (·==k)=true:=λz=>by
   obtain⟨e,he,hk⟩:=any_iff.mp z
   have:=List.findIdx?_eq_none_iff.mp hf e he
   rw[hk]at this
   cases this
  dsimp only
  have gw:∀(b:Bool){s₁:Shared}{Q':Unit->Shared->Prop},Q' () s₁->wpAny (model prog w) A (match b with | true=>rule "set.scan.the-table-gave-way" | false=>pure ()) Q' E s₁:=λb s₁ Q' hq=>by cases b <;> first | exact ZM hq | exact wpAny_rule hq
  have p1:=layNew_perm t es ((intKind prog w).hash k) (.int k tk)
  have p2:=layNew_fits t es ((intKind prog w).hash k) (.int k tk)
  have p3:=hs.gt.layNew es ((intKind prog w).hash k) (.int k tk)
  generalize layNew t es ((intKind prog w).hash k) (.int k tk)=L at p1 p2 p3 ⊢
  obtain⟨es1,t1,wd,gv⟩:=L
  dsimp only at p1 p2 p3 ⊢
  rw[Array.toList_push]at p1
  have el1:ElemsOf (intKind prog w) es1.toList:=(hs.el.push hkey rfl).perm p1
  have n1:es1.size=es.size+1:=by rw[<- ZX,p1.length_eq,List.length_append,ZX];rfl
  have fin:∀ h' es' ep' t',Heap.SameBut a s.heap h'->h'.get? a=some { o with data:=.set es' ep' t' }->es'.toList.Perm es1.toList->t'.fits es'.size=true->GT (!(byT w)) t'->Q { s with heap:=h' }:=λh' es' ep' t' e1 e2 e3 e4 e5=>by
   have n2:es'.size=es1.size:=by rw[<- ZX,e3.length_eq,ZX]
   refine h h' e1 ⟨_,es',ep',t',e2,hs.ex,rfl,el1.perm e3,{},e4,e5,?_,?_⟩
   ·unfold stD
    rw[ZJ hout]
    refine(e3.map _).trans ((p1.map _).trans ?_)
    rw[List.map_append]
    exact hs.pm.append_right _
   ·unfold stD
    rw[ZJ hout]
    refine List.nodup_append.mpr ⟨hs.nd,by simp,λx hx y hy e=>hout ?_⟩
    rw[List.mem_singleton]at hy
    exact List.any_eq_true.mpr ⟨x,hx,by rw[e,hy];exact beq_self_eq_true _⟩
  refine ZC (gw _ ?_)
  split
  ·refine ZC ?_
   rw[hashByValue_scannable 8 (x:=Value.int k tk) rfl]
   refine ZM (q567 ?_ ho hs.dat {} ?_ ?_ λh' es' ep' t' e1 e2 e3 e4 e5=>ZM (fin h' es' ep' t' e1 e2 e3 e4 e5))
   ·intro b s₁ Q' hq;cases b <;> first | exact ZM hq | exact wpAny_rule hq
   ·split
    ·exact p2
    ·exact SetTable.fits_plain_off p2
   ·split
    ·exact p3
    ·exact p3.off
  ·refine ZC (ZM ?_)
   rw[ZL rfl]
   refine q567 ?_ ho hs.dat {} p2 p3 λh' es' ep' t' e1 e2 e3 e4 e5=>ZM (fin h' es' ep' t' e1 e2 e3 e4 e5)
   intro b s₁ Q' hq;cases b <;> first | exact ZM hq | exact wpAny_rule hq
end
end TS
namespace TS
set_option autoImplicit false
open PySem
def q306:Slot "set" "__iter__" "set.__iter__" :=
 .of (owner := "set") (n := "__iter__") (by rw[typeLookup_type,builtinLookup_eq_fast];kernel_rfl) (by decide +kernel) (by decide +kernel) (by decide +kernel)
  (by first | exact .inl (by decide +kernel) | exact .inr (by decide +kernel)) (by rw[isSubtype_type];kernel_rfl)
def q452:entryFor table "set.__iter__" = some Builtin.«frozenset.__iter__»:=entryFor_alias (id' := "frozenset.__iter__") (by kernel_rfl) rfl (by decide +kernel) (by kernel_rfl)
def owner_s:Manifest.owners.lookup (String.ofList ['t','e','s'].reverse)=some Manifest.sig_set:=by kernel_rfl
def q522(a:Value):argsOk "set.__iter__" ⟨[a],[]⟩:=by
 unfold argsOk;rw[signature?_of (id := "set.__iter__") (n:=['_','_','r','e','t','i','_','_']) (o:=['t','e','s']) (by kernel_rfl) owner_s];kernel_rfl
def q82:Slot "set_iterator" "__next__" "set_iterator.__next__" :=
 .of (owner := "set_iterator") (n := "__next__") (by rw[typeLookup_type,builtinLookup_eq_fast];kernel_rfl) (by decide +kernel) (by decide +kernel) (by decide +kernel)
  (by first | exact .inl (by decide +kernel) | exact .inr (by decide +kernel)) (by rw[isSubtype_type];kernel_rfl)
def q405:entryFor table "set_iterator.__next__" = some Builtin.«set_iterator.__next__»:=entryFor_of_tree (by kernel_rfl)
def q568:Manifest.owners.lookup (String.ofList ['r','o','t','a','r','e','t','i','_','t','e','s'].reverse)=some Manifest.sig_set_iterator:=by kernel_rfl
def q453(a:Value):argsOk "set_iterator.__next__" ⟨[a],[]⟩:=by
 unfold argsOk;rw[signature?_of (id := "set_iterator.__next__") (n:=['_','_','t','x','e','n','_','_']) (o:=['r','o','t','a','r','e','t','i','_','t','e','s']) (by kernel_rfl) q568];kernel_rfl
def q255:Slot "set_iterator" "__iter__" "set_iterator.__iter__" :=
 .of (owner := "set_iterator") (n := "__iter__") (by rw[typeLookup_type,builtinLookup_eq_fast];kernel_rfl) (by decide +kernel) (by decide +kernel) (by decide +kernel)
  (by first | exact .inl (by decide +kernel) | exact .inr (by decide +kernel)) (by rw[isSubtype_type];kernel_rfl)
theorem q406{α:Type}:∀(l:List α)(i:Nat)(h:i<l.length),(l[i]::l.eraseIdx i).Perm l
 | x::l,0,_=>List.Perm.refl _
 | x::l,i+1,h=>by
  show(l[i]'(by simpa using h)::x::l.eraseIdx i).Perm (x::l)
  exact(List.Perm.swap _ _ _).trans (List.Perm.cons _ (q406 l i (by simpa using h)))
theorem q692{α:Type}(nx:Nat->Nat):∀(f k:Nat)(l:List α)(out:Array α),l.length=f->(pickOrder.go nx f k l out).toList.Perm (out.toList++l)
 | 0,_,l,out,h=>by
  have:l=[]:=List.length_eq_zero_iff.mp h
  subst this
  simp[pickOrder.go]
 | f+1,k,l,out,h=>by
  unfold pickOrder.go
  have hlt:nx k%l.length<l.length:=Nat.mod_lt _ {}
  rw[List.getElem?_eq_getElem hlt]
  dsimp only
  refine(q692 nx f (k+1) _ _ (by rw[List.length_eraseIdx,ZL hlt,h];rfl)).trans ?_
  rw[Array.toList_push,List.append_assoc]
  exact List.Perm.append_left _ (q406 _ _ hlt)
def q693{α:Type}(nx:Nat->Nat)(xs:Array α):(pickOrder nx xs).toList.Perm xs.toList:=by
 have z:=q692 nx xs.size 0 xs.toList #[] (by simp)
 simpa [pickOrder] using z
section
variable {prog:Program}{w:World}{A:Around}{E:VS}{s:Shared}
theorem q454{α:Type}:∀(n:Nat)(xs:List α){s:Shared}{Q:List α->Shared->Prop},xs.length=n->(∀ l d,l.Perm xs->Q l { s with drawn:=d })->wpAny (model prog w) A (drawOrder n xs) Q E s
 | 0,xs,s,Q,h,hq=>by
  have:xs=[]:=List.length_eq_zero_iff.mp h
  subst this
  exact ZM (hq [] s.drawn (List.Perm.refl _))
 | n+1,[],s,Q,h,hq=>by cases h
 | n+1,x::xs,s,Q,h,hq=>by
  unfold drawOrder
  refine ZC (m:=choose Source.order (x::xs).length) (λΓ p hΓ=>?_)
  show Sem.wp _ Γ (.choose _ _ _) _ _ p s
  rw[Sem.wp_choose]
  exists by simp
  rw[Sem.wp_pure]
  generalize hd:({ s with drawn:=_ }:Shared)=s1
  have hlt:(model prog w).w.draws Source.order (s.drawn.get Source.order)%(x::xs).length<(x::xs).length:=Nat.mod_lt _ (by simp)
  generalize (model prog w).w.draws Source.order (s.drawn.get Source.order)%(x::xs).length=i at hlt
  rw[List.getElem?_eq_getElem hlt]
  dsimp only
  refine ZC (q454 n _ (by rw[List.length_eraseIdx,ZL hlt,h];rfl) λl d p=>?_)
  subst hd
  exact ZM (hq _ d ((List.Perm.cons _ p).trans (q406 _ _ hlt)))
def q307{α:Type}(hh:A.handled=none){Q:α->Shared->Prop}{E':VS}(h:∀(h':Heap)(e:Addr),(∀ b o,s.heap.get? b=some o->h'.get? b=some o)->(∃ o,h'.get? e=some o/\o.cls = .type "StopIteration")->E' (.ref e) { s with heap:=h' }) :
  wpAny (model prog w) A ((newExc (.type "StopIteration") [] >>= λe=>raiseNew e):Sem α) Q E' s:=by
 refine ZC ?_
 simp only[newExc,newTuple]
 refine ZC (YB ?_ (by size_fits))
 refine ZC (m:=firstArgMember _ _) (wpAny_of_eq (a:=Value.none) (by first | rfl | (simp only[firstArgMember];rfl)) ?_)
 refine YB ?_ (by size_fits)
 simp only[raiseNew]
 refine ZC (wpAny_handled ?_)
 rw[hh]
 exact ZC (ZM (wpAny_throw (h _ _ (λb o e=>ZE _ (ZE _ e)) ⟨_,ZT _ rfl,rfl⟩)))
noncomputable abbrev itObj(first:Value)(i:Nat)(S:Addr)(n ep:Nat):Obj:={ cls:=.type "set_iterator", dict:=none,data:=.fields #[first,rawInt i,.ref S,rawInt n,rawInt ep],slots:=#[] }
def q523{Q:Bool->Shared->Prop}(h:Q (byT w) s):wpAny (model prog w) A setsByText Q E s:=by
 unfold setsByText
 exact ZC (wpAny_askSetting (ZM h))
variable{S I:Addr}{o:Obj}{es:Array (Int×Value)}{ep:Nat}{t:SetTable}{ks:List Int}
noncomputable def ordN(w:World)(S:Addr)(ep:Nat)(es:Array (Int×Value)):Array (Int×Value):=if byT w then pickOrder (w.params.setOrder S ep) es else es
def q206:(ordN w S ep es).toList.Perm es.toList:=by
 unfold ordN
 split
 ·exact q693 _ _
 ·exact List.Perm.refl _
noncomputable def slotN(w:World)(t:SetTable):Nat->Nat
 | 0=>0
 | i+1=>if byT w then 0 else t.place.getD i 0+1
noncomputable def q283(w:World)(es:Array (Int×Value))(t:SetTable):Prop:=byT w=true\/t.plain=true\/es.size<=1
def q569{i:Nat}{Q:Option (Value×Nat)->Shared->Prop}(ho:s.heap.get? S=some o)(hs:SetS prog w o es ep t ks)(nd:q283 w es t)(hi:i<=es.size)(h:Q (((ordN w S ep es)[i]?).map λe=>(e.2,slotN w t (i+1))) s) :
  wpAny (model prog w) A (setNext S (slotN w t i) i ep) Q E s:=by
 unfold setNext
 refine ZC (wpAny_setState_of ho hs.dat hs.fit ?_)
 dsimp only
 refine ZC (q523 ?_)
 by_cases hb:byT w=true
 ·rw[ZL hb,ZJ (by simp)]
  refine ZC ?_
  unfold setWalk
  refine ZC (wpAny_setState_of ho hs.dat hs.fit (ZC (q523 ?_)))
  rw[ZL hb]
  refine ZC (wpAny_askSetting (ZM (ZM ?_)))
  have e1:ordN w S ep es=pickOrder (w.params.setOrder S ep) es:=ZL hb
  have e2:slotN w t (i+1)=0:=ZL hb
  have e3:slotN w t i=0:=by cases i with | zero=>rfl | succ i=>exact ZL hb
  rw[e1,e2]at h
  rw[e3]
  exact h
 ·rw[ZJ hb]
  have e1:ordN w S ep es=es:=ZJ hb
  have e2:slotN w t (i+1)=t.place.getD i 0+1:=ZJ hb
  have led:t.led=true:=by rw[hs.gt.led];simpa using hb
  have psz:t.place.size=es.size:=by
   have z:=hs.fit
   simp only[SetTable.fits,WC,beq_iff_eq]at z
   exact z.1
  rw[e1,e2]at h
  split
  ·rename_i hd
   have hd':(!t.plain&&decide (es.size > 1))=true:=hd
   rcases nd with z | z | z
   ·exact absurd z hb
   ·rw[z]at hd';cases hd'
   ·rw[ZI {},WL]at hd';cases hd'
  ·refine ZC ?_
   show wpAny _ _ (if(!t.led&&!es.isEmpty)=true then unsupported "set:maker-not-led" else pure ()) _ _ _
   rw[led,ZJ (by simp)]
   refine ZM (ZM ?_)
   have hu:Up t.place.toList:=by
    rcases nd with z | z | z
    ·exact absurd z hb
    ·exact hs.gt.up z
    ·match hl:t.place.toList,(show t.place.toList.length<=1 by rw[ZX,psz];exact z) with
     | [],_=>exact .nil
     | [x],_=>exact List.pairwise_singleton _ _
   have bz:∀ j,j<=es.size->SetTable.below t.place (slotN w t j)=j:=λj hj=>by
    cases j with
    | zero=>exact bel_zero hu
    | succ j=>
     have q:j<t.place.size:={}
     rw[show slotN w t (j+1)=t.place[j]+1 by rw[show slotN w t (j+1)=t.place.getD j 0+1 from ZJ hb];simp[Array.getD,q]]
     exact bel_next hu (WO q)
   by_cases q:i<es.size
   ·rw[bz i {},WO q,WO (show i<t.place.size by exact W102 q psz)]
    rw[WO q]at h
    have e3:t.place.getD i 0=t.place[i]'{}:=by simp[Array.getD,show i<t.place.size by lia]
    rw[e3]at h
    exact h
   ·rw[Array.getElem?_eq_none {}]at h
    rw[bz i hi,Array.getElem?_eq_none {}]
    exact h
end
end TS
namespace TS
set_option autoImplicit false
open PySem
section
variable {prog:Program}{w:World}{A:Around}{E:VS}{s:Shared}{S I T:Addr}{o:Obj}{es:Array (Int×Value)}{ep:Nat}{t:SetTable}{ks:List Int}
def q694{first:Value}{i n:Nat}{Q:VS}(hI:s.heap.get? I=some (itObj first i S n ep))(h:Q (.ref I) s):wpAny (model prog w) A (pyIter (.ref I)) Q E s:=by
 have hT:s.TypeIs (.ref I) "set_iterator" := ⟨_,hI,rfl⟩
 refine wpAny_pyIter_slot hT q255 (wpAny_call_entry (b:=Builtin.«dict_keyiterator.__iter__») q255 hT (entryFor_alias (id' := "dict_keyiterator.__iter__") (by kernel_rfl) rfl (by decide +kernel) (by kernel_rfl)) ?_ ?_)
 ·exact ZM ⟨_,rfl, "set_iterator", _,hT,q82.lookup,h⟩
 ·unfold argsOk;rw[signature?_of (id := "set_iterator.__iter__") (n:=['_','_','r','e','t','i','_','_']) (o:=['r','o','t','a','r','e','t','i','_','t','e','s']) (by kernel_rfl) q568];kernel_rfl
def q407{first:Value}{i:Nat}{Q:Option Value->Shared->Prop}(ho:s.heap.get? S=some o)(hs:SetS prog w o es ep t ks)(hI:s.heap.get? I=some (itObj first i S es.size ep))
  (hN:∀ Q':PySem.Fin->Shared->Prop,∀ E':VS,(∀ v s',Q (some v) s'->Q' (.done (.ret v)) s')->(∀ e h',(∀ b u,b≠I->s.heap.get? b=some u->h'.get? b=some u)->(∃ u,h'.get? e=some u/\u.cls = .type "StopIteration")->Q none { s with heap:=h' }->E' (.ref e) { s with heap:=h' }) ->
   wpAny (model prog w) A.in1 (if let .int slot _:=first then(do
    match <- setNext S slot.toNat i ep with
    | some (x,next)=>
     setField (.ref I) 0 (rawInt next)
     setField (.ref I) 1 (rawInt (i+1))
     ret x
    | none=>setField (.ref I) 2 .none;raiseNew (<- newExc (.type "StopIteration") [])) else(do
    let some places <- seqItems? first | unsupported "internal:set_iterator"
    match places[i]? with
    | some (.int place _)=>
     let x <- setNextDrawn S place.toNat ep
     setField (.ref I) 1 (rawInt (i+1))
     ret x
    | some _=>unsupported "internal:set_iterator"
    | none=>setField (.ref I) 0 (rawInt 0);setField (.ref I) 2 .none;raiseNew (<- newExc (.type "StopIteration") []))) Q' E' s):wpAny (model prog w) A (pyNext (.ref I)) Q E s:=by
 have hT:s.TypeIs (.ref I) "set_iterator" := ⟨_,hI,rfl⟩
 unfold pyNext
 refine ZC (wpAny_attempt (wpAny_callSpecial?_slot (name:=Str.ofString "__next__") hT q82
  (wpAny_call_entry q82 hT q405 ?_ (q453 _))))
 show wpAny _ _ (fieldsOf (.ref I) >>= _) _ _ s
 refine ZC (wpAny_fieldsOf hI rfl ?_)
 show wpAny _ _ (setEntries S >>= _) _ _ s
 refine ZC (wpAny_setEntries_of ho hs.dat hs.fit ?_)
 rw[ZJ (by simp)]
 refine YJ (hN _ _ (λv s' hq=>⟨_,rfl,ZM hq⟩) λe h' hk he hq=>?_) (λ_ _ q=>q) λ_ _ q=>q
 obtain⟨u,hu,hc⟩:=he
 exact ZC (wpAny_isInstance (T := "StopIteration") (b:=true) ⟨u,hu,hc⟩ isSubtype_stop (ZM hq))
def q60{a:Addr}{h h':Heap}(x:Heap.SameBut a h h'):∀ b u,b≠a->h.get? b=some u->h'.get? b=some u:=λb u hb e=>(x.2 b hb).trans e
def walk_n(hh:A.handled=none)(hne:S≠I)(hs:SetS prog w o es ep t ks)(nd:q283 w es t) :
  Walks prog w A I [I,S] [I] es.size (λi v=>((ordN w S ep es).toList.map (·.2))[i]? = some v) (λi h=>h.get? I=some (itObj (rawInt (slotN w t i)) i S es.size ep)/\h.get? S=some o) where
 sub:=λb hb=>by simp at hb;simp[hb]
 frame:=λi h h' st hk=>⟨hk I (by simp) _ st.1,hk S (by simp) _ st.2⟩
 item:=λi s Q E hi st hQ=>by
  have hlt:i<(ordN w S ep es).size:=by
   rw[<- ZX,q206.length_eq,ZX]
   exact hi
  refine q407 st.2 hs st.1 λQ' E' f1 f2=>?_
  refine ZC (q569 (i:=i) (E:=E') st.2 hs nd (Nat.le_of_lt hi) ?_)
  rw[WO hlt]
  dsimp only [Option.map]
  refine ZC (YQ st.1 (by simp) λh1 g1 k1=>?_)
  refine ZC (YQ (s:={ s with heap:=h1 }) g1 (by simp) λh2 g2 k2=>?_)
  refine ZM (f1 _ _ (hQ _ h2 s.toks ?_ ⟨?_,?_⟩ ?_))
  ·rw[List.getElem?_map,WH,WO hlt]
   rfl
  ·exact g2
  ·exact q60 k2 S _ hne (q60 k1 S _ hne st.2)
  ·exact λb u hb e=>q60 k2 b u (λz=>hb (by simp[z])) (q60 k1 b u (λz=>hb (by simp[z])) e)
 done:=λs Q E st hQ=>by
  refine q407 st.2 hs st.1 λQ' E' f1 f2=>?_
  refine ZC (q569 (i:=es.size) (E:=E') st.2 hs nd (ZH _) ?_)
  rw[Array.getElem?_eq_none (by rw[<- ZX,q206.length_eq,ZX];exact ZH _)]
  dsimp only [Option.map]
  refine ZC (YQ st.1 (by simp) λh1 g1 k1=>?_)
  refine q307 (A:=A.in1) (show A.in1.handled=none from hh) λh' e g he=>?_
  have kk:∀ b u,b≠I->s.heap.get? b=some u->h'.get? b=some u:=λb u hb z=>g b u (q60 k1 b u hb z)
  exact f2 e h' kk he (hQ h' s.toks λb u hb z=>kk b u (λq=>hb (by simp[q])) z)
 self:=λi s Q E st hQ=>q694 st.1 hQ
def walk_d(hh:A.handled=none)(hne:S≠I)(hnt:T≠I){ps:List Nat}{u:Obj}(hs:SetS prog w o es ep t ks)(hp:ps.Perm (List.range es.size))(hu:u.data = .seq (ps.map λ(i:Nat)=>rawInt i).toArray 0) :
  Walks prog w A I [I,S,T] [I] es.size (λi v=>(ps.filterMap λp=>(es[p]?).map (·.2))[i]? = some v) (λi h=>h.get? I=some (itObj (.ref T) i S es.size ep)/\h.get? S=some o/\h.get? T=some u) where
 sub:=λb hb=>by simp at hb;simp[hb]
 frame:=λi h h' st hk=>⟨hk I (by simp) _ st.1,hk S (by simp) _ st.2.1,hk T (by simp) _ st.2.2⟩
 item:=λi s Q E hi st hQ=>by
  have hlt:i<ps.length:=by rw[hp.length_eq,List.length_range];exact hi
  have hin:ps[i]<es.size:=List.mem_range.mp (hp.mem_iff.mp (List.getElem_mem hlt))
  refine q407 st.2.1 hs st.1 λQ' E' f1 f2=>?_
  refine ZC (wpAny_seqItems st.2.2 hu ?_)
  dsimp only
  have e1:(ps.map λ(i:Nat)=>rawInt i).toArray[i]? = some (rawInt ps[i]):=by simp[hlt]
  rw[e1]
  refine ZC ?_
  unfold setNextDrawn
  refine ZC (wpAny_setState_of st.2.1 hs.dat hs.fit ?_)
  dsimp only
  rw[ZJ (by simp)]
  show wpAny _ _ (match es[(ps[i]:Int).toNat]? with | some (_,x)=>pure x | _=>unsupported "internal:set_iterator") _ _ _
  rw[Int.toNat_natCast,WO hin]
  refine ZM (ZC (YQ st.1 (by simp) λh1 g1 k1=>?_))
  refine ZM (f1 _ _ (hQ _ h1 s.toks ?_ ⟨g1,q60 k1 S _ hne st.2.1,q60 k1 T _ hnt st.2.2⟩ λb v hb e=>q60 k1 b v (λz=>hb (by simp[z])) e))
  have e2:(ps.filterMap λp=>(es[p]?).map (·.2))=ps.pmap (λp h=>(es[p]'h).2) (λp q=>List.mem_range.mp (hp.mem_iff.mp q)):=by
   clear hu st hlt hin f1 f2 e1 g1 k1 hQ
   have go:∀(l:List Nat)(hl:∀ p∈l,p<es.size),(l.filterMap λp=>(es[p]?).map (·.2))=l.pmap (λp h=>(es[p]'h).2) hl:=λl=>by
    induction l with
    | nil=>intro _;rfl
    | cons p l ih=>
     intro hl
     rw[List.filterMap_cons_some (b:=(es[p]'(hl p (.head _))).2) (by rw[WO (hl p (.head _))];rfl),List.pmap_cons,ih λq hq=>hl q (.tail _ hq)]
   exact go ps _
  rw[e2,List.getElem?_pmap]
  simp[hlt]
 done:=λs Q E st hQ=>by
  refine q407 st.2.1 hs st.1 λQ' E' f1 f2=>?_
  refine ZC (wpAny_seqItems st.2.2 hu ?_)
  dsimp only
  have e1:(ps.map λ(i:Nat)=>rawInt i).toArray[es.size]? = none:=by
   rw[Array.getElem?_eq_none]
   simp[hp.length_eq]
  rw[e1]
  refine ZC (YQ st.1 (by simp) λh1 g1 k1=>?_)
  refine ZC (YQ (s:={ s with heap:=h1 }) g1 (by simp) λh2 g2 k2=>?_)
  refine q307 (A:=A.in1) (show A.in1.handled=none from hh) λh' e g he=>?_
  have kk:∀ b u,b≠I->s.heap.get? b=some u->h'.get? b=some u:=λb u hb z=>g b u (q60 k2 b u hb (q60 k1 b u hb z))
  exact f2 e h' kk he (hQ h' s.toks λb u hb z=>kk b u (λq=>hb (by simp[q])) z)
 self:=λi s Q E st hQ=>q694 st.1 hQ
def q455{ps:List Nat}(hp:ps.Perm (List.range es.size)):(ps.filterMap λp=>(es[p]?).map (·.2)).Perm (es.toList.map (·.2)):=by
 refine(hp.filterMap _).trans (List.Perm.of_eq ?_)
 have z:=filterMap_getElem?_range es
 rw[<- z,<- List.filterMap_eq_map,List.filterMap_filterMap]
 congr 1
 funext p
 cases es[p]? <;> rfl
def iter_set{Q:VS}(hh:A.handled=none)(ho:s.heap.get? S=some o)(hs:SetS prog w o es ep t ks)
  (h:∀(I:Addr)(fp:List Addr)(vs:List Value)(St:Nat->Heap->Prop)(h':Heap)(d:Drawn),(∀ b u,s.heap.get? b=some u->h'.get? b=some u)->(∀ b∈fp,b=S\/s.heap.objs.size<=b)->s.heap.objs.size<=I ->
   Walks prog w A I fp [I] vs.length (λi v=>vs[i]? = some v) St->St 0 h'->vs.Perm (es.toList.map (·.2))->Q (.ref I) { s with heap:=h',drawn:=d }):wpAny (model prog w) A (pyIter (.ref S)) Q E s:=by
 have hT:s.TypeIs (.ref S) "set" := ⟨o,ho,hs.ex.1⟩
 have hlt:S<s.heap.objs.size:=ZW ho
 refine wpAny_pyIter_slot hT q306 (wpAny_call_entry q306 hT q452 ?_ (q522 _))
 unfold Builtin.«frozenset.__iter__»
 refine ZC (m:=Builtin.Frozenset.slot0 "__iter__" _) (wpAny_of_eq (a:=S) rfl ?_)
 refine ZC (ZC (wpAny_setEntries_of ho hs.dat hs.fit (ZM ?_)))
 refine ZC ?_
 unfold setDrawn
 refine ZC (wpAny_setState_of ho hs.dat hs.fit (ZC (q523 (ZM ?_))))
 by_cases nd:q283 w es t
 ·rw[ZJ ?_]
  ·refine ZC (ZM ?_)
   refine ZC (wpAny_setEpoch_of ho hs.dat hs.fit ?_)
   refine ZC (YB (ZM ⟨_,rfl, "set_iterator", _,⟨_,ZT _ rfl,rfl⟩,q82.lookup,?_⟩))
   have e:((ordN w S ep es).toList.map (·.2)).length=es.size:=by rw[List.length_map,q206.length_eq,ZX]
   have W:=walk_n (A:=A) (I:=s.heap.objs.size) hh (WE hlt) hs nd
   rw[<- e]at W
   exact h _ _ _ _ _ s.drawn (λb u z=>ZE _ z) (λb hb=>by
    rcases eB hb with z | z
    ·exact .inr (Nat.le_of_eq z.symm)
    ·exact .inl (eD z)) (ZH _) W ⟨by rw[e];exact ZT _ rfl,ZE _ ho⟩ (q206.map _)
  ·show ¬((!(byT w)&&(!t.plain&&decide (es.size > 1)))=true)
   rcases nd with z | z | z
   ·simp[z]
   ·simp[z]
   ·rw[ZI (show ¬ es.size > 1 by lia)];simp
 ·rw[ZL ?_]
  ·refine ZC (q454 _ _ (by simp) λps d hp=>?_)
   refine ZC (wpAny_newTuple ?_ (hsz:=?_))
   rotate_left
   ·rw[List.length_map,hp.length_eq,List.length_range];exact fits_of_scanBound hs.few
   refine ZC (wpAny_setEpoch_of (o:=o) (ZE _ ho) hs.dat hs.fit ?_)
   refine ZC (YB (ZM ⟨_,rfl, "set_iterator", _,⟨_,ZT _ rfl,rfl⟩,q82.lookup,?_⟩))
   have e:(ps.filterMap λp=>(es[p]?).map (·.2)).length=es.size:=by rw[(q455 hp).length_eq,List.length_map,ZX]
   have W:=walk_d (A:=A) (I:=s.heap.objs.size+1) (T:=s.heap.objs.size) (u:={ cls:=.type "tuple", data:=.seq (ps.map λ(i:Nat)=>rawInt i).toArray }) hh (WE (Nat.lt_succ_of_lt hlt)) (WE (Nat.lt_succ_self _)) hs hp rfl
   rw[<- e]at W
   have hz:(s.heap.push { cls:=.type "tuple", data:=.seq (ps.map λ(i:Nat)=>rawInt i).toArray }).objs.size=s.heap.objs.size+1:=Heap.size_push ..
   refine(congrArg (λa=>Q (.ref a) _) hz).mpr (h _ _ _ _ _ d (λb u z=>ZE _ (ZE _ z)) (λb hb=>by
    rcases eB hb with z | z
    ·exact .inr (by rw[z];exact Nat.le_succ _)
    ·rcases eB z with z | z
     ·exact .inl z
     ·exact .inr (Nat.le_of_eq (eD z).symm)) (Nat.le_succ _) W ⟨?_,ZE _ (ZE _ ho),ZE _ (ZT _ rfl)⟩ (q455 hp))
   rw[e,<- hz]
   exact ZT _ rfl
  ·show(!(byT w)&&(!t.plain&&decide (es.size > 1)))=true
   unfold q283 at nd
   simp only[not_or,Bool.not_eq_true,Nat.not_le]at nd
   simp[nd]
end
end TS
namespace TS
set_option autoImplicit false
open PySem PyProof.Rows
section
variable {prog:Program}{w:World}{A:Around}{E:VS}{s:Shared}
def set_new(a:Value){Q:VS}(h:Q (.ref s.heap.objs.size) { s with heap:=s.heap.push { cls:=.type "set", dict:=none,data:=.set #[] 0 (.fresh 0 0 (!(byT w))) } }) :
  codeAny (model prog w) A (.call (.builtin "set.__new__") ⟨[.type "set", a],[]⟩) (wants Q E) s:=by
 refine codeAny_of_tree ?_;show wpAny _ A.in1 (do checkBuiltinCall "set.__new__" ⟨[.type "set", a],[]⟩;again (.builtin "set.__new__" ⟨[.type "set", a],[]⟩)) _ _ s
 refine ZC (wpAny_of_eq (PySem.F.newCall_set_1 a) (ZM ⟨plainId_quiet PySem.F.plain_set_new _,codeAny_builtin PySem.F.entry_set_new ?_⟩))
 rw[Around.under_plainId PySem.F.plain_set_new _]
 unfold Builtin.«set.__new__»;unfold Builtin.Frozenset.newClass
 have hsub:=sub_set_self
 obtain⟨hp,g,d,tk,os⟩:=s
 dsimp only
 wp_walk
 refine wpAny_askSetting (ZM ?_);dsimp only
 simp only[newObj]
 exact ZC (wpAny_alloc (ZM (ZM h)))
theorem q570{R:Result->Shared->Prop}{I:Addr}{fp wr:List Addr}{G:Array GenState->Array GenState->Prop}{n:Nat}{P:Nat->Value->Prop}{St:Nat->Shared->Prop}(W:WalksS prog w A.in1 I fp wr G n P St){S:Addr}(hSf:S ∉ fp){ns:List Int}(hl:ns.length=n)
  (hv:∀ i v,P i v -> ∃ t,v = .int (ns.getD i 0) t) (hb:n+1<scanBound):∀(k i:Nat)(s:Shared),n-i=k->i<=n->St i s->SetI prog w s.heap S ((ns.take i).foldl stD []) ->
   (∀ s',Moved (S::wr) G s s'->SetI prog w s'.heap S (ns.foldl stD [])->R (.ok (.ret .none)) s')->codeAny (model prog w) A (.builtin "set.update.loop" ⟨[.ref S,.ref I],[]⟩) R s
 | 0,i,s,hk,hi,hst,hS,hR=>by
  have e:i=n:={}
  refine codeAny_builtin F.entry_set_update_loop ?_
  rw[Around.under_plainId F.plain_set_update_loop _]
  show wpAny _ A.in1 (pyNext (.ref I) >>= _) _ _ s
  refine ZC (W.done s _ _ (e▸hst) λs' hm=>?_)
  refine ZM (hR s' (hm.mono λb q=>List.mem_cons_of_mem _ q) ?_)
  rw[e,<- hl,List.take_length]at hS
  obtain⟨o,es,ep,t,ho,hs⟩:=hS
  exact⟨o,es,ep,t,hm.heap S _ (λz=>hSf (W.sub _ z)) ho,hs⟩
 | k+1,i,s,hk,hi,hst,hS,hR=>by
  have hlt:i<n:={}
  refine codeAny_builtin F.entry_set_update_loop ?_
  rw[Around.under_plainId F.plain_set_update_loop _]
  show wpAny _ A.in1 (pyNext (.ref I) >>= _) _ _ s
  refine ZC (W.item i s _ _ hlt hst λv s' hP hst' hm=>?_)
  obtain⟨t,rfl⟩:=hv i v hP
  have hS':SetI prog w s'.heap S ((ns.take i).foldl stD []):=by
   obtain⟨o,es,ep,tb,ho,hs⟩:=hS
   exact⟨o,es,ep,tb,hm.heap S _ (λz=>hSf (W.sub _ z)) ho,hs⟩
  refine ZC (YW ?_)
  unfold setAdd
  refine YW (ZC ((intKind prog w).pyHash (k:=ns.getD i 0) (intKind_is _ _ _ _) ?_))
  have hlen:∀(l:List Int)(a:List Int),(l.foldl stD a).length<=a.length+l.length:=λl=>by
   induction l with
   | nil=>intro a;exact ZH _
   | cons x l ih=>
    intro a
    have z:(stD a x).length<=a.length+1:=by unfold stD;split <;> simp
    have:=ih (stD a x)
    simp only[List.foldl_cons,List.length_cons]
    exact W50 this z
  have hroom:((ns.take i).foldl stD []).length+1<scanBound:=by
   have z:=hlen (ns.take i) []
   rw[List.length_take]at z
   simp only[List.length_nil]at z
   lia
  refine set_add (s:={ s' with toks:=s'.toks+1 }) hS' hroom λh' hsb hS2=>?_
  have hS3:SetI prog w h' S ((ns.take (i+1)).foldl stD []):=by
   have hi':i<ns.length:=(W102 hlt hl)
   rw[List.take_succ,List.foldl_append,List.getElem?_eq_getElem hi']
   rw[show ns.getD i 0=ns[i] by simp[List.getD,List.getElem?_eq_getElem hi']]at hS2
   exact hS2
  refine ZM ⟨plainId_quiet F.plain_set_update_loop _,q570 W hSf hl hv hb k (i+1) _ {} hlt (W.frame _ s' _ _ hst' (Nat.le_succ _) λb q o e=>?_) hS3 λs'' m2 S2=>?_⟩
  ·rw[hsb.2 b (λz:b=S=>hSf (z▸q))];exact e
  ·refine hR s'' (Moved.trans W.gtrans ((hm.mono λb q=>List.mem_cons_of_mem _ q).then_heap (Nat.le_succ _) λb o q e=>?_) m2) S2
   rw[hsb.2 b (λz:b=S=>q (by rw[z];exact List.mem_cons_self))];exact e
theorem q751{l:Addr}{items:Array Value}{ns:List Int}{Q:VS}(hh:A.handled=none)(hl:s.heap.IsList l items)(hi:IntsAre items.toList ns)(hb:items.size+1<scanBound)
  (h:∀(h':Heap)(tk:Nat),SetI prog w h' s.heap.objs.size (ns.foldl stD [])->(∀ b o,s.heap.get? b=some o->h'.get? b=some o)->Q (.ref s.heap.objs.size) { s with heap:=h',toks:=tk }):wpAny (model prog w) A (call (.type "set") [.ref l]) Q E s:=by
 obtain⟨c,tl,hmro⟩:=PySem.F.called_set.mro
 have c1:=PySem.F.called_set.made
 have c2:=PySem.F.called_set.sub
 have c3:=PySem.F.called_set.notType
 have c4:=PySem.F.called_set.canCreate
 have c5:=PySem.F.typeCall_set_1 (.ref l)
 refine wpAny_call (codeAny_of_tree ?_);show wpAny _ _ (callAny (.type "set") _) _ _ _
 refine ZM ⟨Code.quiet_builtin _ (by decide +kernel),codeAny_builtin PySem.F.entry_type_call ?_⟩
 rw[Around.under_plain (weight_type_call_type "set" [.ref l] []) rfl]
 repeat (any_goals (first | assumption | wp_step))
 generalize e0:s.heap.push { cls:=.type "set", dict:=none,data:=.set #[] 0 (.fresh 0 0 (!(byT w))) }=h0
 refine codeAny_mono (set_new (.ref l) (E:=E) (Q:=λv s₁=>v = .ref s.heap.objs.size/\s₁ = { s with heap:=h0 }) ⟨rfl,by rw[e0]⟩) λr s₁ hr=>?_
 cases r with
 | error e=>exact hr
 | ok fl=>
  cases fl with
  | ret v=>
   obtain⟨rfl,rfl⟩:=hr
   have g0:h0.get? s.heap.objs.size=some { cls:=.type "set", dict:=none,data:=.set #[] 0 (.fresh 0 0 (!(byT w))) }:=by rw[<- e0];exact ZT _ rfl
   have k0:∀ b o,s.heap.get? b=some o->h0.get? b=some o:=λb o z=>by rw[<- e0];exact ZE _ z
   have n0:h0.objs.size=s.heap.objs.size+1:=by rw[<- e0];exact Heap.size_push ..
   have hT:Shared.TypeIs { s with heap:=h0 } (.ref s.heap.objs.size) "set" := ⟨_,g0,rfl⟩
   have i1:=PySem.F.called_set.init.lookup
   have i2:=PySem.F.called_set.init.bind (.ref s.heap.objs.size)
   repeat (any_goals (first | assumption | wp_step))
   refine codeAny_mono (codeAny_call_builtin (R:=wants (λr s₂=>r = .none /\ ∃ h' tk,s₂ = { s with heap:=h',toks:=tk }/\SetI prog w h' s.heap.objs.size (ns.foldl stD [])/\(∀ b o,s.heap.get? b=some o->h'.get? b=some o)) E) PySem.F.called_set.init.plain PySem.F.entry_set_init (check_set_init_1 hT ?_)) λr₂ s₂ hr₂=>?_
   ·obtain⟨ol,hol,hcl,nl,hdl⟩:=hl
    obtain⟨ocls,odict,odata,oslots⟩:=ol
    simp only at hcl hdl
    subst hcl;subst hdl
    have hlS:l<s.heap.objs.size:=ZW hol
    have hol':=k0 _ _ hol
    have q1:=PySem.F.sub_list_set
    have q2:=PySem.F.sub_list_frozenset
    have q3:(Value.type "list" == Value.type "dict")=false:=∅
    have hl1:h0.IsList l items:=⟨_,hol',rfl,nl,rfl⟩
    unfold Builtin.«set.__init__»;unfold noKeywords;unfold Builtin.Frozenset.updateFrom
    generalize hPI:pyIter=PI
    wp_walk
    subst hPI
    refine wpAny_pyIter_list hl1 (ZC (wpAny_runValue ?_))
    have hh3:A.in1.in1.in1.handled=none:=by simp[hh]
    have hneI:l≠h0.objs.size:=by rw[n0];exact WE (Nat.lt_succ_of_lt hlS)
    have hSf:s.heap.objs.size ∉ [h0.objs.size,l]:=by
     rw[n0];intro z
     rcases eB z with z | z
     ·exact absurd z (WE (Nat.lt_succ_self _))
     ·exact absurd (eD z) (Nat.ne_of_gt hlS)
    refine q570 ((Walks.list hh3 _ l hneI items).toS) hSf (ns:=ns) (by rw[<- IntsAre.length hi,ZX]) (λi v hv=>IntsAre.int_at hi i v (by rw[WH];exact hv)) hb (items.size-0) 0 _ {} (WA _)
     ⟨⟨_,ZT _ rfl,rfl,rfl⟩,(hl1.push _)⟩ ⟨_,#[],0,_,ZE _ g0,⟨rfl,rfl,rfl⟩,rfl,λe he=>by simp at he,by unfold scanBound;simp,rfl,GT.fresh _,List.Perm.refl _,List.nodup_nil⟩ ?_
    intro s' hm hS'
    obtain⟨h',g',d',tk',os'⟩:=s'
    have eg:g'=s.gens:=hm.gens
    have ed:d'=s.drawn:=hm.drawn
    have eo:os'=s.os:=hm.os
    subst eg;subst ed;subst eo
    refine ZM (ZM ⟨rfl,h',tk',rfl,hS',λb o z=>?_⟩)
    have hb:=ZW z
    refine hm.heap b o (λq=>?_) (ZE _ (k0 b o z))
    rcases eB q with q | q
    ·exact absurd q (WE hb)
    ·rw[List.mem_singleton,n0]at q
     exact absurd q (WE (Nat.lt_succ_of_lt hb))
   ·cases r₂ with
    | error e=>exact hr₂
    | ok fl₂=>
     cases fl₂ with
     | ret r=>
      obtain⟨rfl,h',tk,rfl,hS',hk'⟩:=hr₂
      repeat (any_goals (first | assumption | wp_step))
      exact h _ _ hS' hk'
     | _=>exact hr₂.elim
  | _=>exact hr.elim
theorem q524{S:Addr}{ks:List Int}{Q:List Value->Shared->Prop}(hh:A.handled=none)(hS:SetI prog w s.heap S ks)
  (h:∀(h':Heap)(tk:Nat)(d:Drawn)(vs:List Value),(∀ b o,s.heap.get? b=some o->h'.get? b=some o)->s.heap.objs.size<=h'.objs.size->(vs.map kOf).Perm ks->AllI vs->Q vs { s with heap:=h',toks:=tk,drawn:=d }):wpAny (model prog w) A (collect (.ref S)) Q E s:=by
 obtain⟨o,es,ep,t,ho,hs⟩:=hS
 have hSlt:S<s.heap.objs.size:=ZW ho
 unfold collect
 refine ZC (wpAny_runValue (codeAny_builtin PySem.F.entry_proto_collect ?_))
 rw[Around.under_plainId PySem.F.plain_proto_collect _]
 show wpAny _ A.in1 (newList [] >>= λl=>again (.builtin "list.__iadd__" ⟨[l,.ref S],[]⟩)) _ _ s
 refine ZC (YB (ZM ⟨plainId_quiet PySem.F.plain_list_iadd _,codeAny_builtin PySem.F.entry_list_iadd ?_⟩))
 rw[Around.under_plainId PySem.F.plain_list_iadd _]
 generalize e0:s.heap.push { cls:=.type "list", data:=.seq ([]:List Value).toArray }=h0
 have g0:h0.get? s.heap.objs.size=some { cls:=.type "list", data:=.seq ([]:List Value).toArray }:=by rw[<- e0];exact ZT _ rfl
 have k0:∀ b o,s.heap.get? b=some o->h0.get? b=some o:=λb o z=>by rw[<- e0];exact ZE _ z
 have n0:h0.objs.size=s.heap.objs.size+1:=by rw[<- e0];exact Heap.size_push ..
 have ho0:=k0 _ _ ho
 have h1:Builtin.List.listSameRef (.ref s.heap.objs.size) (.ref S)=false:=by simp[Builtin.List.listSameRef,Nat.ne_of_gt hSlt]
 have hT:Shared.TypeIs { s with heap:=h0 } (.ref S) "set" := ⟨o,ho0,hs.ex.1⟩
 show wpAny _ A.in1 (Builtin.List.listExtendWith (.ref s.heap.objs.size) (.ref S) (.ref s.heap.objs.size)) _ _ _
 unfold Builtin.List.listExtendWith
 refine ZC (wpAny_typeOf hT ?_)
 rw[ZJ (by rw[h1];decide)]
 refine ZC (iter_set (A:=A.in1) (show A.in1.handled=none from hh) ho0 hs λI fp vs St h1 d k1 f1 f2 W st pm=>?_)
 have hT1:Shared.TypeIs { s with heap:=h1,drawn:=d } (.ref S) "set" := ⟨o,k1 _ _ ho0,hs.ex.1⟩
 refine ZC (YW ?_)
 unfold Builtin.List.listLengthHint
 refine ZC (wpAny_specialOf hT1 PySem.F.slot_set_len.lookup ?_)
 generalize hid:("set.__len__" : String)=id0
 wp_delta
 rw[show splitId id0=some ("set", "__len__")from by subst hid;decide +kernel]
 subst hid
 refine ZC (wpAny_isInstance (T := "set") (b:=true) hT1 (by rw[isSubtype_type];kernel_rfl) ?_)
 refine wpAny_ite_split (λz=>absurd z ∅) (λ_=>?_)
 refine wpAny_ite_split (λ_=>?_) (λz=>absurd (by decide +kernel) z)
 refine ZC (wpAny_typeOf hT1 (ZM ?_))
 have hSf:s.heap.objs.size ∉ fp:=λz=>by
  rcases f1 _ z with q | q
  ·exact absurd q (Nat.ne_of_gt hSlt)
  ·rw[n0]at q
   exact absurd q (Nat.not_succ_le_self _)
 have hn:vs.length<=sizeLine:=by rw[pm.length_eq,List.length_map,ZX];exact fits_of_scanBound hs.few
 have hend:∀(h2:Heap)(c2:Nat),(∀ b o,b≠s.heap.objs.size->h1.get? b=some o->h2.get? b=some o)->h2.get? s.heap.objs.size=some { cls:=.type "list", data:=.seq #[] c2 }->codeAny (model prog w) A (.builtin "list.extend.loop" ⟨[.ref s.heap.objs.size,.ref I,.ref s.heap.objs.size],[]⟩) (λr s'=>match r with
   | .ok (.ret (.ref a))=>a=s.heap.objs.size /\ ∃ acc c,s'.heap.get? s.heap.objs.size=some { cls:=.type "list", dict:=none,data:=.seq acc c,slots:=#[] }/\Q acc.toList s'
   | _=>False) { s with heap:=h2,drawn:=d }:=by
  intro h2 c2 k2 g2
  refine codeAny_extend_loopS W.toS hn _ hSf _ vs.length 0 _ #[] _ rfl (WA _) (W.frame 0 _ _ st λb q o z=>k2 b o (λy=>hSf (y▸q)) z) g2 (ItemsOf.nil _) λs' acc c hm hS' hacc=>?_
  exists rfl,acc,c,hS'
  have ea:acc.toList=vs:=by
   apply List.ext_getElem?
   intro j
   rcases Nat.lt_or_ge j acc.size with z | z
   ·have:=hacc.2 j _ (WO z)
    rw[this,WH,WO z]
   ·rw[List.getElem?_eq_none (by simpa using z),List.getElem?_eq_none (by rw[<- hacc.1];exact z)]
  obtain⟨h',g',d',tk',os'⟩:=s'
  have eg:g'=s.gens:=hm.gens
  have ed:d'=d:=hm.drawn
  have eo:os'=s.os:=hm.os
  subst eg;subst ed;subst eo
  rw[ea]
  refine h h' tk' d' vs (λb u z=>hm.heap b u (λq=>?_) (k2 b u (WE (ZW z)) (k1 b u (k0 b u z)))) (Nat.le_of_lt (ZW hS')) ((pm.map kOf).trans ?_) λv hv=>?_
  ·have:=ZW z
   rcases eB q with q | q
   ·exact absurd q (WE this)
   ·rw[List.mem_singleton]at q
    rw[n0]at f2
    exact absurd q (WE (WB this (Nat.le_of_succ_le f2)))
  ·rw[List.map_map]
   exact hs.pm
  ·obtain⟨e,he,rfl⟩:=eE (pm.mem_iff.mp hv)
   obtain⟨u,hu⟩:=el_int hs.el he
   exact⟨_,u,hu⟩
 have g1:=k1 _ _ g0
 rw[ZL ∅]
 refine ZC (wpAny_rule (ZC ?_))
 show wpAny _ _ (updateSeq s.heap.objs.size (·.push .none) >>= λ_=>updateSeq s.heap.objs.size (·.pop)) _ _ _
 refine ZC (wpAny_updateSeq g1 rfl ?_)
 have g2:=Heap.get?_update_self (Obj.mapSeq (·.push Value.none)) g1 rfl
 refine wpAny_updateSeq (hz:=by seq_fits) g2 rfl ?_
 have g3:=Heap.get?_update_self (Obj.mapSeq (·.pop)) g2 rfl
 refine ZM ⟨plainId_quiet PySem.F.plain_extend_loop _,codeAny_mono (hend _ _ (λb o hb z=>(Heap.get?_update_other _ _ (Ne.symm hb)).trans ((Heap.get?_update_other _ _ (Ne.symm hb)).trans z)) g3) λr s' hr=>?_⟩
 match r,hr with
 | .ok (.ret (.ref a)),hr=>
  obtain⟨rfl,acc,c,e1,e2⟩:=hr
  exact ZC (wpAny_load e1 (ZM e2))
end
end TS
namespace TS
set_option autoImplicit false
open PySem PySem.W PyProof.Rows List
section
variable {prog:Program}{w:World}{A:Around}{E:VS}{s:Shared}
def q525{κ:SortKind}{P:Value->Prop}{lt:Value->Value->Bool}{a:Addr}{vs:List Value}{n:Nat}{Q:PySem.Fin->Shared->Prop}(ho:s.heap.get? a=some (seqObj "list" vs.toArray n)) (hz:vs.length<=sizeLine)
  (hk:∀ h6:Heap,(∀ b o,b≠a->s.heap.get? b=some o->h6.get? b=some o)->2<=vs.length -> ∀ Q':SortKind->Shared->Prop,Q' κ { s with heap:=h6 }->wpAny (model prog w) A (keyKind' vs.toArray) Q' E { s with heap:=h6 })
  (hg:∀ h6:Heap,(∀ b o,b≠a->s.heap.get? b=some o->h6.get? b=some o)->Good prog w A E κ (λx=>P x.1) (λx y=>lt x.1 y.1) { s with heap:=h6 })
  (ht:Tot (λx=>P x.1) (λx y=>lt x.1 y.1)) (hP:∀ v∈vs,P v)
  (h:∀ out:Array Value,out.toList.Perm vs->(out.toList.Pairwise λx y=>lt y x=false)->Q (.done (.ret .none)) { s with heap:=sortedHeap s.heap a vs out }):wpAny (model prog w) A (Builtin.«list.sort» ⟨[.ref a],[]⟩) Q E s:=by
 have hvz:vs.toArray.size=vs.length:=WG ..
 obtain⟨e1,ho1⟩:∃ e1,(s.heap.update a (Obj.mapSeq λ_=>(#[]:Array Value))).get? a=some (seqObj "list" #[] e1):=⟨_,get?_update_seq ho λ_=>#[]⟩
 rw[list_sort_plain]
 refine ZC (listItems_at ho rfl (ZC (listUpdate_at ho rfl ?_ (by rw[hvz];exact hz) (WA _))))
 refine ZC (seqEpoch_at ho1 rfl (ZC (wpAny_newTuple (ZC (wpAny_newList (YW ?_) (WA _))) (by show vs.length<=_;exact hz))))
 obtain⟨h6,e6⟩:∃ h6,h6=((s.heap.update a (Obj.mapSeq λ_=>(#[]:Array Value))).push (seqObj "tuple" vs.toArray 0)).push (seqObj "list" #[] 0):=⟨_,rfl⟩
 have ho6:h6.get? a=some (seqObj "list" #[] e1):=by
  rw[e6]
  exact ZE _ (ZE _ ho1)
 have k6:∀ b o,b≠a->s.heap.get? b=some o->h6.get? b=some o:=λb o hb z=>by
  rw[e6]
  exact ZE _ (ZE _ (((Heap.SameBut.update s.heap a (Obj.mapSeq λ_=>(#[]:Array Value))).2 b hb).trans z))
 show wpAny (model prog w) A _ Q E { s with heap:=((s.heap.update a (Obj.mapSeq λ_=>(#[]:Array Value))).push (seqObj "tuple" vs.toArray 0)).push (seqObj "list" #[] 0) }
 have hfin:∀ out:Array Value,out.toList.Perm vs->(out.toList.Pairwise λx y=>lt y x=false)->Q (.done (.ret .none)) { s with heap:=h6.update a (Obj.mapSeq λ_=>out) }:=λout p1 p2=>by
  rw[e6]
  exact h out p1 p2
 rw[<- e6]
 dsimp only
 by_cases h2:vs.toArray.size<2
 ·rw[ZL h2,ZL h2]
  refine ZC (ZM ?_)
  rw[StateT.run_pure]
  refine ZC (ZM ?_)
  dsimp only
  have eo:((arrOf (SortSt.mk' general' (vs.toArray.zip vs.toArray) #[] 7 none)).map (·.2))=vs.toArray:=by
   show(vs.toArray.zip vs.toArray).map (·.2)=vs.toArray
   apply Array.toList_inj.mp
   simp[map_snd_zip]
  rw[eo]
  refine ZC (seqEpoch_at ho6 rfl (ZC (listUpdate_at ho6 rfl ?_ (WA _) (by rw[hvz];exact Nat.le_succ_of_le hz))))
  simp only[bne_self_eq_false,Bool.false_eq_true,if_false]
  refine ZM (hfin vs.toArray (List.Perm.refl _) ?_)
  match vs,h2 with
  | [],_=>exact .nil
  | [x],_=>exact pairwise_singleton _ _
  | x::y::l,h2=>exact absurd h2 (by simp)
 ·rw[ZJ h2,ZJ h2]
  refine ZC (hk h6 k6 (by rw[<- hvz];exact Nat.not_lt.mp h2) _ ?_)
  have zl:(vs.toArray.zip vs.toArray).toList=vs.zip vs:=by simp
  have pz:∀ x∈(vs.toArray.zip vs.toArray).toList,P x.1:=λx hx=>by
   rw[zl]at hx
   exact hP _ (mem_zip_self hx).2
  have run:=q450 (prog:=prog) (w:=w) (A:=A) (E:=E) (hg h6 k6) ht (Q:=λ_ st' s'=>s' = { s with heap:=h6 }/\failedOf st'=none/\(arrOf st').Perm (vs.toArray.zip vs.toArray)/\Asc (λx y=>lt x.1 y.1) (arrOf st') 0 (arrOf st').size)
   (st:=SortSt.mk' κ (vs.toArray.zip vs.toArray) #[] 7 none) rfl rfl rfl pz (by show 1<=(vs.toArray.zip vs.toArray).size;simp;lia) (λst' f1 f2 f3=>⟨rfl,f1,f2,f3⟩)
  refine ZC (YJ run ?_ λ_ _ e=>e)
  rintro ⟨⟨⟩,st'⟩ s' ⟨rfl,f1,f2,f3⟩
  dsimp only
  have p0:=Array.perm_iff_toList_perm.mp f2
  rw[zl]at p0
  have osz:((arrOf st').map (·.2)).size=vs.length:=by
   rw[Array.size_map,<- ZX,p0.length_eq]
   simp
  refine ZC (seqEpoch_at ho6 rfl (ZC (listUpdate_at ho6 rfl ?_ (WA _) (ZQ (Nat.le_of_eq osz) (Nat.le_succ_of_le hz)))))
  rw[f1]
  simp only[bne_self_eq_false,Bool.false_eq_true,if_false]
  refine ZM (hfin _ ?_ ?_)
  ·rw[Array.toList_map]
   refine(p0.map _).trans (List.Perm.of_eq ?_)
   exact map_snd_zip (ZH _)
  ·rw[Array.toList_map,pairwise_map]
   have sr:Srt (λx y=>lt x.1 y.1) (arrOf st').toList:=q563 λp q g1 g2=>by
    have:=f3 p q g1 g2
    rw[Nat.zero_add,Nat.zero_add]at this
    exact this
   refine List.Pairwise.imp_of_mem ?_ sr
   intro x y hx hy hxy
   have ex:=(mem_zip_self (p0.mem_iff.mp hx)).1
   have ey:=(mem_zip_self (p0.mem_iff.mp hy)).1
   rw[<- ex,<- ey]
   exact hxy
noncomputable def ltI(x y:Value):Bool:=decide (kOf x<kOf y)
def good_i:Good prog w A E oneType' (λx=>∃ k t,x.1=Value.int k t) (λx y=>ltI x.1 y.1) s:=by
 intro x y st Q hx hy hk hq
 rw[lt'_eq]
 refine ZP (kasC_get (ZP (kasC_lift (wpAny_attempt ?_))))
 rw[hk]
 obtain⟨x1,x2⟩:=x
 obtain⟨y1,y2⟩:=y
 obtain⟨k,t,rfl⟩:=hx
 obtain⟨k',t',rfl⟩:=hy
 exact kat_lt_int (E:=_) (ZV hq)
def tot_i:Tot (λx:Keyed=>∃ k t,x.1=Value.int k t) (λx y=>ltI x.1 y.1):=
 ⟨λx y z _ _ _ h1 h2=>by unfold ltI at *;rw[YV]at *;lia,λx y _ _ h=>by unfold ltI at *;rw[ZZ]at h;rw[YV];lia⟩
theorem q571:∀(vs:List Value),AllI vs->IntsAre vs (vs.map kOf)
 | [],_=>.nil
 | v::vs,h=>by
  obtain⟨k,t,rfl⟩:=h v (.head _)
  exact .cons k t (q571 vs λu hu=>h u (.tail _ hu))
def q752{S:Addr}{ks:List Int}{Q:VS}(hh:A.handled=none)(hS:SetI prog w s.heap S ks)
  (h:∀(hF:Heap)(tk:Nat)(d:Drawn)(l:Addr)(e:Nat)(out:List Value),(∀ b o,s.heap.get? b=some o->hF.get? b=some o)->s.heap.objs.size<=l->out.length<=sizeLine->hF.get? l=some (seqObj "list" out.toArray e)->AllI out->(out.map kOf).Perm ks->(out.map kOf).Pairwise (·<·) ->
   Q (.ref l) { s with heap:=hF,toks:=tk,drawn:=d }):wpAny (model prog w) A (call (.builtin "sorted") [.ref S]) Q E s:=by
 have nd:ks.Nodup:=by obtain⟨_,_,_,_,_,hs⟩:=hS;exact hs.nd
 have kz:ks.length<=sizeLine:=by
  obtain⟨_,es,_,_,_,hs⟩:=hS
  rw[<- hs.pm.length_eq,ZN,ZX]
  exact fits_of_scanBound hs.few
 refine Calls.call_function_entry kind_sorted plain_sorted entry_sorted (args_sorted1 _) ?_
 unfold Builtin.«sorted»
 refine ZC (m:=checkCount "sorted" 1 1 _) (ZM (ZC (q524 (A:=A.in1) (show A.in1.handled=none from hh) hS λh' tk d vs k1 sz pm ai=>?_)))
 have hz:vs.length<=sizeLine:=by rw[<- ZN (f:=kOf),pm.length_eq];exact kz
 refine ZC (wpAny_newList ?_ hz)
 have hoL:(h'.push (seqObj "list" vs.toArray 0)).get? h'.objs.size=some (seqObj "list" vs.toArray 0):=ZT _ rfl
 show wpAny _ _ _ _ _ { s with heap:=h'.push (seqObj "list" vs.toArray 0),toks:=tk,drawn:=d }
 refine ZC (YW (wpAny_call_entry slot_list_sort ⟨_,hoL,rfl⟩ entry_list_sort (q525 (κ:=oneType') (P:=λv=>∃ k t,v=Value.int k t) (lt:=ltI) hoL hz (λh6 _ h2 Q' hq=>?_) (λh6 _=>good_i) tot_i ai λout a1 a2=>⟨_,rfl,ZM ⟨_,rfl,?_⟩⟩) (args_list_sort _)))
 ·rw[ksk_kind (kz:=vs.map kOf) (by simpa using q571 vs ai) (by simpa using h2)]
  exact ZM hq
 obtain⟨e,he⟩:=sortedHeap_at (h:=h'.push (seqObj "list" vs.toArray 0)) (a:=h'.objs.size) (vs:=vs) (out:=out) hoL
 have po:(out.toList.map kOf).Perm ks:=(a1.map _).trans pm
 refine h _ tk d h'.objs.size e out.toList (λb o hb=>?_) sz (by rw[a1.length_eq];exact hz) (by rw[Array.toArray_toList];exact he) (λv hv=>ai v (a1.mem_iff.mp hv)) po ?_
 ·have hlt:=ZW (k1 b o hb)
  rw[sortedHeap_old (WE hlt) (by rw[size_push'];exact Nat.lt_succ_of_lt hlt)]
  exact ZE _ (k1 b o hb)
 ·have le:(out.toList.map kOf).Pairwise (· <= ·):=by
   rw[pairwise_map]
   refine a2.imp fun {x y} q=>?_
   unfold ltI at q
   rw[YV]at q
   exact W13 q
  have ne:(out.toList.map kOf).Nodup:=po.nodup_iff.mpr nd
  exact(List.pairwise_and_iff.mpr ⟨le,ne⟩).imp fun {x y} q=>{}
end
end TS
namespace L2
open PySem PySem.Spec PyProof.Rows List
variable {X:Cx}
def bt_set:bootBuiltins "set" = some (.type "set"):=by decide +kernel
def Inv.draw(I:Inv X pins σ H s)(d:Drawn):Inv X pins σ H { s with drawn:=d }:=
 ⟨I.ok,I.os,I.bare,I.base,I.loc,I.cell,I.free,I.freeC,I.pin,I.hok,I.len⟩
inductive q616(K:Fg)(P:Program)(w:World)(xs:List V)(H:Hp)(Q:VK):Prop
 |mk(p:Addr)(ns:List Int)(_:xs=[.ref p])(_:SqL K H p (ns.map V.int))(_:ns.length<=1000)(_:∀ r,H r=none->Q (.ref r) (upd H r (.ext λh=>TS.SetI P w h r (ns.foldl TS.stD []))))
def q695(hc:X.calm=true){K:Fg}{P:Program}{w:World}(hK:X.K=K)(hP:X.prog=P)(hw:X.w=w):CallR X (.type "set") (q616 K P w):=by
 subst hK;subst hP;subst hw
 intro pins s σ H xs us Q I r h
 obtain⟨p,ns,rfl,hq,hn,q⟩:=h
 obtain⟨u,rfl,rx⟩:=vals1 r
 cases rx
 obtain⟨its,r',pl,hz⟩:=I.list hq
 have hi:=q63 r'
 have hl:its.length=ns.length:=IntsAre.length hi
 refine TS.q751 (I.ok.hd hc) pl.isList (by simpa using hi) (by rw[WG,hl];unfold scanBound;lia) λh' tk hS hk=>?_
 refine⟨.ref s.heap.objs.size,_,I.laid (t':=tk) (o:=.ext λh=>TS.SetI X.prog X.w h s.heap.objs.size (ns.foldl TS.stD [])) hk (ZH _) ?_,rfl,q _ (I.hok.fresh (ZH _))⟩
 obtain⟨o,es,ep,t,ho,hs⟩:=id hS
 exact⟨hS,⟨o,ho⟩,λh1 h2 ⟨o',es',ep',t',ho',hs'⟩ kp=>⟨o',es',ep',t',kp _ ho',hs'⟩⟩
theorem q572:∀(vs:List Value),TS.AllI vs->Vals ((vs.map TS.kOf).map V.int) vs
 | [],_=>.nil
 | v::vs,h=>by
  obtain⟨k,t,rfl⟩:=h v (.head _)
  exact .cons ⟨t,rfl⟩ (q572 vs λu hu=>h u (.tail _ hu))
inductive q408(P:Program)(w:World)(xs:List V)(H:Hp)(Q:VK):Prop
 |mk(r:Addr)(ks:List Int)(_:xs=[.ref r])(_:H r=some (.ext λh=>TS.SetI P w h r ks))(_:∀(l:Addr)(ms:List Int),H l=none->ms.Perm ks->ms.Pairwise (·<·)->Q (.ref l) (upd H l (.lst (ms.map V.int))))
def q456(hc:X.calm=true)(hP:X.prog=P)(hw:X.w=w):CallR X (.builtin "sorted") (q408 P w):=by
 subst hP;subst hw
 intro pins s σ H xs us Q I r h
 obtain⟨rv,ks,rfl,hr,q⟩:=h
 obtain⟨u,rfl,rx⟩:=vals1 r
 cases rx
 have hS:TS.SetI X.prog X.w s.heap rv ks:=(I.hok rv _ hr).1
 refine TS.q752 (I.ok.hd hc) hS λhF tk d l e out kp hl hz hL ha hp ho=>?_
 refine⟨.ref l,_,(I.draw d).laid (t':=tk) (a:=l) (o:=.lst ((out.map TS.kOf).map V.int)) kp hl ?_,rfl,q l (out.map TS.kOf) (I.hok.fresh hl) hp ho⟩
 refine⟨?_,out,e,q572 out ha,hL⟩
 rw[ZN,ZN]
 exact hz
section
variable {st:Stmt}{t:TS}
inductive tJoin(t:TS)(D:Ends)(σ:St)(H:Hp):Prop
 |mk(R:St->Hp->Prop)(_:t { D with nx:=R } σ H)(_:∀ σ' H',R σ' H'->D.nx σ' H')
def q119(h:PS X st t):PS X st (tJoin t):=by
 intro pins s σ H D I ⟨R,h1,h2⟩
 refine thn (h pins s σ H { D with nx:=R } I h1) λf s1 q=>?_
 cases f with
 | next=>
  obtain⟨σ',H',I',q⟩:=q
  exact⟨σ',H',I',h2 _ _ q⟩
 | ret v=>exact q
 | brk=>exact q
 | cont=>exact q
end
inductive q617(K:Fg)(x:V)(xs:List V)(H:Hp)(Q:VK):Prop
 |mk(a ys v)(_:x = .ref a)(_:xs=[v])(_:SqL K H a ys)(_:flatV v=true)(_:ys.all flatV=true)(_:Q (.int (ys.countP λy=>eqV y v:Nat)) H)
def q696:MtR X "list.count" (q617 X.K):=by
 intro pins s σ H x xs v us Q I rx rv h
 obtain⟨a,ys,y,rfl,rfl,ha,f1,f2,q⟩:=h
 cases rx
 obtain⟨u,rfl,ru⟩:=rv.one
 obtain⟨its,r,p,hz⟩:=I.list ha
 obtain⟨⟨cls,dd,data,sl⟩,ho,hc,n,hd⟩:=id p.isList
 simp only at hc hd
 subst hc hd
 refine call_meets F.slot_list_count ⟨_,ho,rfl⟩ F.entry_list_count (F.args_list_count_2 _ _) (SeqAt.list_countAt a its.toArray n dd sl u (eqU y)) ⟨ho,λz hz=>q398 ru f1 r f2 z (by simpa using hz),?_⟩
 refine⟨.int (ys.countP λy'=>eqV y' y:Nat),H,I.tok _,?_,q⟩
 rw[<- q233 r f2]
 exact⟨_,rfl⟩
section
variable {K:Fg}
def sl_listK(h:X.K=K):SlR X (rSlL K):=by subst h;exact q296
def q697(ns:List Int):(ns.map V.int).all flatV=true:=by
 rw[all_eq_true]
 intro x hx
 obtain⟨n,_,rfl⟩:=eE hx
 rfl
theorem q374(n:Int):∀ ns:List Int,(ns.map V.int).countP (λy=>eqV y (.int n))=ns.count n
 | []=>rfl
 | m::ns=>by
  rw[map_cons,YN,count_cons,q374 n ns]
  rfl
inductive q618(K:Fg)(x:V)(xs:List V)(H:Hp)(Q:VK):Prop
 |mk(a:Addr)(ns:List Int)(n:Int)(_:x = .ref a)(_:xs=[.int n])(_:SqL K H a (ns.map V.int))(_:Q (.int ((ns.count n:Nat):Int)) H)
def q698(h:X.K=K):MtR X "list.count" (q618 K):=by
 subst h
 intro pins s σ H x xs v us Q I rx rv h
 obtain⟨a,ns,n,rfl,rfl,ha,q⟩:=h
 refine q696 pins s σ H _ _ v us Q I rx rv ⟨a,_,_,rfl,rfl,ha,rfl,q697 ns,?_⟩
 rw[q374]
 exact q
def szB{n:Nat}(h:n<=100000):n<=sizeLine:=ZQ h ∅
end
def q699:∀{ps qs:List (Int×Int)},ps.length=qs.length->(List.range ps.length).all (λj=>decide (ps.getD j (0,0)=qs.getD j (0,0)))=decide (ps=qs):=by
 intro ps qs hl
 by_cases c:ps=qs
 ·subst c
  rw[ZA rfl,all_eq_true]
  intro j _
  exact ZA rfl
 ·rw[ZI c,all_eq_false]
  have:∃ j,j<ps.length/\ps.getD j (0,0)≠qs.getD j (0,0):=by
   refine Classical.byContradiction λz=>c ?_
   refine ext_getElem hl λj h1 h2=>?_
   have y:=Classical.not_not.mp λy=>z ⟨j,h1,y⟩
   rw[getD_eq_getElem?_getD,getD_eq_getElem?_getD,ZR h1,ZR h2]at y
   exact y
  obtain⟨j,hj,hne⟩:=this
  exact⟨j,List.mem_range.mpr hj,by rw[ZI hne];exact fnt⟩
def q457(I:Inv X pins σ H s)(ha:SqL X.K H a xs)(hb:SqL X.K H b ys)(hp:q192 H xs ps)(hq:q192 H ys qs)(A:Around)(hu:A.units+8<cLine) :
  SeqAt.RcAt A s (.ref a) (.ref b) (decide (ps=qs))/\SeqAt.RcNeAt A s (.ref a) (.ref b) (!decide (ps=qs)):=by
 obtain⟨its,r1,p1,_⟩:=I.list ha
 obtain⟨its2,r2,p2,_⟩:=I.list hb
 have l1:=r1.length
 have l2:=r2.length
 have lp:=hp.1
 have lq:=hq.1
 by_cases hl:ps.length=qs.length
 ·have hz:its.toArray.size=its2.toArray.size:=by rw[WG,WG];lia
  have hn:its.toArray.size=ps.length:=by rw[WG];lia
  have el:∀(j:Nat)(h1:j<its.toArray.size)(h2:j<its2.toArray.size),SeqAt.EqAt A.in1 s its.toArray[j] its2.toArray[j] ((λj=>decide (ps.getD j (0,0)=qs.getD j (0,0))) j):=by
   intro j h1 h2
   have h1':j<xs.length:=by rw[WG]at h1;lia
   have h2':j<ys.length:=by rw[WG]at h2;lia
   obtain⟨v1,e1,r1'⟩:=r1.get (i:=j) (x:=xs[j]) (ZR h1')
   obtain⟨v2,e2,r2'⟩:=r2.get (i:=j) (x:=ys[j]) (ZR h2')
   have g1:its.toArray[j]=v1:=by
    have:=eA e1
    simpa using this.2
   have g2:its2.toArray[j]=v2:=by
    have:=eA e2
    simpa using this.2
   rw[g1,g2]
   have gp:ps[j]? = some (ps.getD j (0,0)):=by rw[getD_eq_getElem?_getD,ZR (show j<ps.length by lia)];rfl
   have gq:qs[j]? = some (qs.getD j (0,0)):=by rw[getD_eq_getElem?_getD,ZR (show j<qs.length by lia)];rfl
   obtain⟨c1,ec1,hc1⟩:=hp.2 j _ _ (ZR h1') gp
   obtain⟨c2,ec2,hc2⟩:=hq.2 j _ _ (ZR h2') gq
   rw[ec1]at r1'
   rw[ec2]at r2'
   cases r1'
   cases r2'
   show SeqAt.EqAt A.in1 s (.ref c1) (.ref c2) (decide (ps.getD j (0,0)=qs.getD j (0,0)))
   generalize ps.getD j (0,0)=p at *
   generalize qs.getD j (0,0)=q at *
   exact q683 I (SqT.of hc2) (SqT.of hc1) (λz=>by
    rw[z,hc1]at hc2
    cases q
    cases p
    cases hc2
    rfl) (by show A.units+1+4<cLine;lia)
  have t0:(List.range its.toArray.size).all (λj=>decide (ps.getD j (0,0)=qs.getD j (0,0)))=decide (ps=qs):=by rw[hn];exact q699 hl
  constructor
  ·rw[<- t0]
   exact SeqAt.RcAt.lists p1.isList p2.isList hz {} el
  ·rw[<- t0]
   exact SeqAt.RcNeAt.lists p1.isList p2.isList hz {} el
 ·have hne:¬ ps=qs:=λz=>hl (by rw[z])
  have hz:(its.toArray.size != its2.toArray.size)=true:=by
   rw[WG,WG]
   exact bne_iff_ne.mpr {}
  rw[ZI hne]
  exact⟨SeqAt.RcAt.lists_lengths p1.isList p2.isList hz {},SeqAt.RcNeAt.lists_lengths p1.isList p2.isList hz {}⟩
inductive Rop_eqPs(K:Fg)(x:V)(y:V)(H:Hp)(Q:VK):Prop
 |mk(a b:Addr)(xs ys:List V)(ps qs:List (Int×Int))(_:x = .ref a)(_:y = .ref b)(_:SqL K H a xs)(_:SqL K H b ys)(_:q192 H xs ps)(_:q192 H ys qs)(_:Q (.bl (decide (ps=qs))) H)
def op_eqPs(hu:X.A.units+64<cLine):OpR X (compareOp .Eq) (Rop_eqPs X.K):=by
 intro pins s σ H x y v u Q I rx ry h
 obtain⟨a,b,xs,ys,ps,qs,rfl,rfl,ha,hb,hp,hq,q⟩:=h
 cases rx
 cases ry
 exact(q457 I ha hb hp hq X.A {}).1 _ _ _ _ ⟨.bl _,H,I,rfl,q⟩
inductive q573(K:Fg)(x:V)(y:V)(H:Hp)(Q:VK):Prop
 |mk(a b:Addr)(xs ys:List V)(ps qs:List (Int×Int))(_:x = .ref a)(_:y = .ref b)(_:SqL K H a xs)(_:SqL K H b ys)(_:q192 H xs ps)(_:q192 H ys qs)(_:Q (.bl (!decide (ps=qs))) H)
def op_nePs(hu:X.A.units+64<cLine):OpR X (compareOp .NotEq) (q573 X.K):=by
 intro pins s σ H x y v u Q I rx ry h
 obtain⟨a,b,xs,ys,ps,qs,rfl,rfl,ha,hb,hp,hq,q⟩:=h
 cases rx
 cases ry
 exact(q457 I ha hb hp hq X.A {}).2 _ _ _ _ ⟨.bl _,H,I,rfl,q⟩
def Room.m{j k:Nat}(r:Room k A)(h:j<=k:=by decide):Room j A:=r.mono h
def fsc{N P:List Str}{sc:Scope}(h1:sc.kind = .function:=by rfl)(h2:sc.isCoroutine=false:=by rfl)(h3:sc.isGenerator=false:=by rfl)(h4:N.Nodup:=by decide +kernel)(h5:N.take P.length=P:=by rfl)(h6:∀ x∈P,sc.names.lookup x=some .local\/sc.names.lookup x=some .cell:=by decide +kernel)(h7:∀ y∈sc.names,y.2 ≠ .free:=by decide +kernel):FnScope N P sc:=⟨h1,h2,h3,h4,h5,h6,h7⟩
def Fun.k{P:Program}{w:World}{K:Fg}{mg:Mg}{base:Heap}{x qual:Str}{st:Stmt}{f:Addr}{fd:FuncData}{N ps:List Str}{k:Nat}{sp:Sp}(F:Fun K x qual st f fd)(S:FnScope N ps (q17 st))
  (hbody:∀(cdv:Value)(A:Around)(outer:List Env)(s:Shared)(H:Hp)(vs:List V)(Q:VK)(E:XK),Room k (A.deeper (envOfC qual (q17 st) s.heap.objs.size f cdv))->sp vs H Q E ->
   ∃ t,PSs (cxOf CX0 P w K mg base N qual (q17 st) f cdv A outer s H E).nox (q87 st) t/\t { nx:=λ_ H'=>Q .non H',rt:=Q } (start N vs) H)
  (len:∀ vs H Q E,sp vs H Q E->vs.length=ps.length:=by walk_at "d"):FnOk P w K mg base CX0 (k+1) f fd ps sp:=F.ok S len hbody
section
variable {pos:Pos}
def pst(i:Nat){pos':Pos}(hN:X.N.Nodup)(he:PE X e te)(hi:X.N[i]? = some x:=by rfl)(hx:Loc X.env.scope x:=by walk_at "c") (hs:swapsWith e (some (.Name x pos')) pos.line X.env=pure false:=by rfl) (hf:X.fn x=true\/X.env.scope.names.lookup x=some .local:=by walk_at "a") :
  PS X (.Assign [.Name x pos'] e pos) (tAsg te (gName i)):=ps_set hN hi hx he hs hf
def pix(hr:IxR X r)(ha:PE X a ta)(hb:PE X b tb)(hs:q660 b:=by exact λ_ _=>rfl):PE X (.Subscript a b pos) (tOp r ta tb):=pe_ix hr ha hb hs
def pgn(i:Nat)(hN:X.N.Nodup)(hi:X.N[i]? = some x:=by rfl)(hx:Loc X.env.scope x:=by walk_at "c") (hf:X.fn x=true\/X.env.scope.names.lookup x=some .local:=by walk_at "a"):PG X (.Name x pos) (gName i):=q100 hN hi hx hf
def pln{p:Pos}(hm:X.mg "len" = none) (ha:PA X (e::es) t) (hg:Gl X "len" := by rfl) (he:starEach (e::es) X.env=(false,eval e X.env)::starEach es X.env:=by rfl) (hpl:(backTo pos (starEach es X.env)).any (·.1)=false:=by rfl) :
  PE X (.Call (.Name "len" p) (e::es) [] pos) (tCB (q131 X.K) t):=q44 q254 hg hm bt_len ha ∅ ∅ he hpl
end
def cok{x:Str}{N:List Str}(h1:∀ p∈relN scope sc0,(p.2 = .cell\/p.2 = .free)->p.1∈cn:=by decide +kernel)(h2:∀ p∈scope.names,p.2 ≠ .cell:=by decide +kernel)(h3:∀ p∈scope.names,p.2 = .local->scope.names.lookup p.1=some .local:=by decide +kernel)(h4:scope.names.lookup x=some .local:=by decide +kernel)(h5:(relN scope sc0).lookup x=some .local:=by decide +kernel)(h6:(x::N).Nodup:=by decide +kernel)(h7:∀ y∈N,(relN scope sc0).lookup y=some .cell/\sc0.names.lookup y=some .cell/\y∈cn:=by decide +kernel):CompOk scope sc0 x N cn:=⟨h1,h2,h3,h4,h5,h6,h7⟩
def mt0{p:List Value->Prop}{n:Nat}(h:∀ a t,t.length=n->p (a::t)):∀ us,us.length=n+1->p us:=λus e=>by
 obtain⟨a,t,rfl⟩:=List.exists_cons_of_length_eq_add_one e
 exact h a t (Nat.succ.inj e)
def mt1{p:List Value->Prop}(h:∀ a,p [a]):∀ us,us.length=1->p us:=mt0 λa _ e=>List.eq_nil_of_length_eq_zero e▸h a
def mt2{p:List Value->Prop}(h:∀ a b,p [a,b]):∀ us,us.length=2->p us:=mt0 λa=>mt1 (h a)
def mt3{p:List Value->Prop}(h:∀ a b c,p [a,b,c]):∀ us,us.length=3->p us:=mt0 λa=>mt2 (h a)
def mt4{p:List Value->Prop}(h:∀ a b c d,p [a,b,c,d]):∀ us,us.length=4->p us:=mt0 λa=>mt3 (h a)
def mt5{p:List Value->Prop}(h:∀ a b c d e,p [a,b,c,d,e]):∀ us,us.length=5->p us:=mt0 λa=>mt4 (h a)
def Tps(H0 H:Hp):Prop:=∀ b o,H0 b=some o->H b=some o /\ ∃ xs,o = .tup xs
def Tps.no(t:Tps H0 H)(h:H b=none):H0 b=none:=by
 cases e:H0 b with
 | none=>rfl
 | some o=>rw[(t b o e).1]at h;cases h
def Tps.nil(H:Hp):Tps (λ_=>none) H:=λ_ _ z=>nomatch z
noncomputable def Lam(K:Fg)(k:Nat)(H:Hp)(f:Addr)(C:List Int->Prop)(φ:List Int->Bool):Prop:=
 ∃(os:List (Addr×Obj)) (H0:Hp),Tps H0 H/\(∀ p∈os,H p.1=some (.frz p.2 (.own p.1)))/\(∃ oc od fd sl,(f,(⟨oc,od,.func fd,sl⟩:Obj))∈os) /\
  ∀(P:Program)(w:World)(mg:Mg)(base:Heap)(A:Around)(outer:List Env)(s:Shared)(us:List Value)(ns:List Int),
   Room k A->Env0 P w K mg base A outer s H0->(∀ p∈os,s.heap.get? p.1=some p.2)->Vals (ns.map V.int) us->C ns ->
    codeAny (model P w) A (.call (.ref f) ⟨us,[]⟩) (CR CX0 outer P w H0 s (λv _=>v = .bl (φ ns)) E0) s
def Lam.same{K:Fg}{k:Nat}{H H':Hp}{f:Addr}{C:List Int->Prop}{φ:List Int->Bool}(L:Lam K k H f C φ)(s:Same H H'):Lam K k H' f C φ:=
 let ⟨os,H0,t,a,b⟩:=L;⟨os,H0,λb o e=>⟨s _ _ (t b o e).1,(t b o e).2⟩,λp hp=>s _ _ (a p hp),b⟩
def un_none(t:Tps H0 H)(u:Un fs [] H0 H' h h'):Un fs [] H H h h':=
 ⟨λb o e n hb hx=>u.keep b o e (t.no n) hb hx,λb o e n hb hx=>u.slot b o e (t.no n) hb hx,λ_ _ _ n _=>n,λb o e hx=>u.there b o e hx,λ_ _ q=>q,λ_ _ _ q=>q,λ_ ps q=>⟨#[],by rw[q];simp⟩⟩
def hok_none(t:Tps H0 H)(ok:HOk P w H h)(ok':HOk P w H' h')(u:Un fs [] H0 H' h h')(frf:∀ b∈fs,H b=none):HOk P w H h':=λa o e=>by
 cases e0:H0 a with
 | some o'=>
  obtain⟨e1,xs,rfl⟩:=t a o' e0
  rw[e]at e1
  cases e1
  exact ok' a _ (u.tups a xs e0)
 | none=>
  refine(ok a o e).stay (λb v hb q=>u.keep b v q ?_ (λz=>?_) (by simp)) (λ_ q=>q) λ_ _ q=>q
  ·rcases hb with rfl | hb
   ·exact e0
   ·cases z:H0 b with
    | none=>rfl
    | some o'=>
     obtain⟨e1,xs,rfl⟩:=t b o' z
     rw[hb]at e1;cases e1
  ·have n:=frf b z
   rcases hb with rfl | hb
   ·rw[n]at e;cases e
   ·rw[n]at hb;cases hb
def Env0.sub{P:Program}{w:World}{K:Fg}{mg:Mg}{base:Heap}{A:Around}{outer:List Env}{s:Shared}{H H0:Hp}(e:Env0 P w K mg base A outer s H)(t:Tps H0 H):Env0 P w K mg base A outer s H0:=
 ⟨e.frames,e.mod,λb o z=>⟨(e.bs b o z).1,t.no (e.bs b o z).2⟩,e.bsz,e.funs,λb hb=>t.no (e.frf b hb),λa o z=>by
  obtain⟨e1,xs,rfl⟩:=t a o z
  exact e.hok a _ e1,e.bare⟩
inductive tCallV(K:Fg)(k i:Nat)(t:TA)(σ:St)(H:Hp)(Q:VK):Prop
 |mk(f C φ)(_:σ[i]? = some (some (.ref f)))(_:Lam K k H f C φ)(_:t σ H λvs H1=>∃ ns:List Int,vs=ns.map V.int/\Lam K k H1 f C φ/\C ns/\Q (.bl (φ ns)) H1)
def pe_callV(i:Nat){k:Nat}{p pos:Pos}(hr:Room k X.A)(ha:PA X (e::es) t)(hN:X.N[i]? = some x:=by rfl)
  (hv:Vis X.env.scope x:=by walk_at "b") (hd:(x==("__debug__" : Str))=false:=by decide) (hcd:(x==("__classdict__" : Str))=false:=by decide)
  (he:starEach (e::es) X.env=(false,eval e X.env)::starEach es X.env:=by rfl) (hpl:(backTo pos (starEach es X.env)).any (·.1)=false:=by rfl) :
  PE X (.Call (.Name x p) (e::es) [] pos) (tCallV X.K k i t):=by
 intro pins s σ H Q I h
 obtain⟨f,C,φ,hσ,⟨os0,_,_,hos0,⟨oc,od,fd,sl,hm0⟩,_⟩,h⟩:=h
 refine wpAny_Call_Name_kw (thn (q644 hN hv hd hcd pins s σ H (λv H'=>v = .ref f/\H'=H) I ⟨_,hσ,rfl,rfl⟩) λu s1 ⟨v,H',I',r,e1,e2⟩=>?_)
 subst e1 e2
 cases r
 refine PySem.W.callWith_F ⟨_,_,_,_,(I'.hok _ _ (hos0 _ hm0)).1⟩ (thn (ha pos pins s1 σ H' _ I' h) λus s2 ⟨vs,H1,I1,r,q⟩=>?_) he hpl
 obtain⟨ns,rfl,⟨os,H0,tp,hos,⟨oc,od,fd,sl,hm⟩,run⟩,hC,q⟩:=q
 exists⟨_,_,_,_,(I1.hok _ _ (hos _ hm)).1⟩
 have e0:=I1.env0
 refine wpAny_call (codeAny_mono (run X.prog X.w X.mg X.base X.A X.stack s2 us ns hr (e0.sub tp) (λp hp=>(I1.hok _ _ (hos p hp)).1) r hC) λrr s' hq=>?_)
 cases rr with
 | error e=>exact False.elim hq
 | ok fl=>
  cases fl with
  | ret u=>
   obtain⟨v,H',os',bare,un,hok,rv,qv⟩:=hq
   subst qv
   exact I1.after ⟨_,H1,os',bare,un_none tp un,hok_none tp I1.hok hok un e0.frf,rv,q⟩
  | next=>exact False.elim hq
  | brk=>exact False.elim hq
  | cont=>exact False.elim hq
noncomputable def lamCx(P:Program)(w:World)(K:Fg)(mg:Mg)(base:Heap)(N:List Str)(qual:Str)(scope:Scope)(f:Addr)(cd:Value)(cl:List (Str×Addr))(A:Around)(outer:List Env)(s:Shared)(H0:Hp):Cx where
 prog:=P
 w:=w
 K:=K
 mg:=mg
 base:=base
 A:=A.deeper (PySem.W.envX qual scope s.heap.objs.size f cd cl)
 N:=N
 s₀:=s
 H₀:=H0
 env:=PySem.W.envX qual scope s.heap.objs.size f cd cl
 outer:=outer
 stack:=PySem.W.envX qual scope s.heap.objs.size f cd cl::outer
 ex:=[]
 calm:=true
 fn:=λ_=>false
 pn:=[]
 xe:=λe s'=>wpAny (model P w) (A.deeper (PySem.W.envX qual scope s.heap.objs.size f cd cl)) (leaving (PySem.W.envX qual scope s.heap.objs.size f cd cl) e) (λ_ _=>False) (λ_ _=>False) s'
def q120(H:Hp):List (Str×Addr)->List V->Prop
 | [],[]=>True
 | (_,c)::cl,v::vs=>(∃ o u,H c=some (.frz o (.own c))/\o.data = .cell (some u)/\RelV v u)/\q120 H cl vs
 | _,_=>False
def q90(h:Heap):List (Str×Addr)->List V->Prop
 | [],[]=>True
 | (_,c)::cl,v::vs=>(∃ u,h.IsCell c (some u)/\RelV v u)/\q90 h cl vs
 | _,_=>False
theorem q90.get{h:Heap}:∀{cl:List (Str×Addr)} {vs:List V},q90 h cl vs -> ∀{i:Nat}{v:V},vs[i]? = some v -> ∃ y c u,cl[i]? = some (y,c)/\h.IsCell c (some u)/\RelV v u
 | [],[],_,i,v,e=>by simp at e
 | (y,c)::cl,v::vs,⟨⟨u,h1,h2⟩,_⟩,0,w,e=>by simp at e;subst e;exact⟨y,c,u,rfl,h1,h2⟩
 | (y,c)::cl,v::vs,⟨_,t⟩,i+1,w,e=>q90.get t (i:=i) (by simpa using e)
theorem q90.len{h:Heap}:∀{cl:List (Str×Addr)} {vs:List V},q90 h cl vs->cl.length=vs.length
 | [],[],_=>rfl
 | _::_,_::_,⟨_,t⟩=>congrArg (· + 1) (q90.len t)
theorem q90.of{h:Heap}:∀{cl:List (Str×Addr)} {vs:List V},q90 h cl vs -> ∀{y:Str}{c:Addr},(y,c)∈cl -> ∃ v,h.IsCell c v
 | (y,c)::cl,v::vs,⟨⟨u,h1,h2⟩,_⟩,_,_,.head _=>⟨_,h1⟩
 | _::_,_::_,⟨_,t⟩,_,_,.tail _ m=>q90.of t m
theorem q90.keeps{h h':Heap}(k:∀ b o,h.get? b=some o->h'.get? b=some o):∀{cl:List (Str×Addr)} {vs:List V},q90 h cl vs->q90 h' cl vs
 | [],[],_=>trivial
 | _::_,_::_,⟨⟨u,h1,h2⟩,t⟩=>⟨⟨u,h1.keeps k,h2⟩,q90.keeps k t⟩
structure LamScope(ps ys:List Str)(sc:Scope):Prop where
 kind:sc.kind = .function
 co:sc.isCoroutine=false
 gen:sc.isGenerator=false
 nocell:∀ x∈sc.names,x.2 ≠ .cell
 nd:(ps++ys).Nodup
 par:∀ x∈ps,sc.names.lookup x=some .local
 fre:∀ x∈ys,sc.names.lookup x=some .free
 has:∀ p∈sc.names,p.2 = .free->p.1∈ys
def lsc{ps ys:List Str}{sc:Scope}(h1:sc.kind = .function:=by rfl)(h2:sc.isCoroutine=false:=by rfl)(h3:sc.isGenerator=false:=by rfl)(h4:∀ x∈sc.names,x.2 ≠ .cell:=by decide +kernel)(h5:(ps++ys).Nodup:=by decide +kernel)(h6:∀ x∈ps,sc.names.lookup x=some .local:=by decide +kernel)(h7:∀ x∈ys,sc.names.lookup x=some .free:=by decide +kernel)(h8:∀ p∈sc.names,p.2 = .free->p.1∈ys:=by decide +kernel):LamScope ps ys sc:=⟨h1,h2,h3,h4,h5,h6,h7,h8⟩
def q619{ps:List Str}{us:List Value}{i:Nat}{y:Str}{u:Value}(nd:ps.Nodup)(h1:ps[i]? = some y)(h2:us[i]? = some u):(ps.zip us).reverse.lookup y=some u:=by
 have hz:(ps.zip us)[i]? = some (y,u):=by rw[getElem?_zip_eq_some];exact⟨h1,h2⟩
 have hm:(y,u)∈(ps.zip us).reverse:=List.mem_reverse.mpr (WQ hz)
 have key:∀(l:List (Str×Value)),(y,u)∈l->(∀ v,(y,v)∈l->v=u)->l.lookup y=some u:=by
  intro l
  induction l with
  | nil=>intro m;cases m
  | cons a l ih=>
   intro m un
   obtain⟨b,v⟩:=a
   by_cases e:y=b
   ·subst e
    rw[lookup_cons_self,un v (WD ..)]
   ·rw[lookup_cons,show(y==b)=false from beq_eq_false_iff_ne.mpr e]
    refine ih ?_ λv hv=>un v (ZY _ hv)
    rcases eB m with h | h
    ·cases h;exact absurd rfl e
    ·exact h
 refine key _ hm λv hv=>?_
 obtain⟨j,hj⟩:=mem_iff_getElem?.mp (List.mem_reverse.mp hv)
 rw[getElem?_zip_eq_some]at hj
 have e:i=j:=(getElem?_inj (eA h1).1 nd).mp (h1.trans hj.1.symm)
 subst e
 rw[h2]at hj
 exact(Option.some.inj hj.2).symm
def q700{P:Program}{w:World}{K:Fg}{mg:Mg}{base:Heap}{ps ys:List Str}{qual:Str}{scope:Scope}{f:Addr}{cd:Value}{cl:List (Str×Addr)}{A:Around}{outer:List Env}{s:Shared}{h₁:Heap}{tk:Tok}{us:List Value}{vs cv:List V}{H0:Hp}
  (S:LamScope ps ys scope) (hcl:cl.map (·.1)=ys) (hinj:(cl.map (·.2)).Nodup) (hd:A.handled=none) (e0:Env0 P w K mg base A outer s H0) (hcn:∀ y c,(y,c)∈cl->H0 c=none) (hl:vs.length=ps.length) (r:Vals vs us) (hc:q90 h₁ cl cv)
  (hns:h₁.Ns s.heap.objs.size (λx=>(ps.zip us).reverse.lookup x)) (hk:∀ b o,s.heap.get? b=some o->h₁.get? b=some o) :
  Inv (lamCx P w K mg base (ps++ys) qual scope f cd cl A outer s H0) [] ((vs++cv).map some) H0 { s with heap:=h₁,toks:=tk }:=by
 have noA:∀ b:Addr,b ∉ (lamCx P w K mg base (ps++ys) qual scope f cd cl A outer s H0).ex:=λb z=>absurd (show b∈([]:List Addr)from z) (by simp)
 have ndY:ys.Nodup:=(List.nodup_append.mp S.nd).2.1
 have ndP:ps.Nodup:=(List.nodup_append.mp S.nd).1
 have lkY:∀{i:Nat}{y:Str}{c:Addr},cl[i]? = some (y,c)->cl.lookup y=some c:=fun {i y c} h=>by
  have key:∀(l:List (Str×Addr)),(l.map (·.1)).Nodup->(y,c)∈l->l.lookup y=some c:=by
   intro l
   induction l with
   | nil=>intro _ m;cases m
   | cons a l ih=>
    intro nd m
    obtain⟨b,d⟩:=a
    rcases eB m with h | h
    ·cases h;exact lookup_cons_self
    ·have hne:y≠b:=λe=>(List.nodup_cons.mp nd).1 (e▸mem_map_of_mem (f:=(·.1)) h)
     rw[lookup_cons,show(y==b)=false from beq_eq_false_iff_ne.mpr hne]
     exact ih (List.nodup_cons.mp nd).2 h
  exact key cl (by rw[hcl];exact ndY) (WQ h)
 refine⟨⟨e0.mod,S.kind,rfl,rfl,ZH _,λy z c h1 h2=>?_,λy hy=>?_,λy c z _=>Bool.noConfusion z,λ_=>hd,Around.frames_deeper e0.frames,.inr ⟨rfl,rfl⟩,λb z=>absurd z (noA b),e0.bs,e0.bsz,λb _ _=>noA b,λb z=>absurd z (noA b),e0.funs,e0.frf⟩,
  rfl,e0.bare,Un.kept hk,⟨_,hns,λi y v h1 h2 h3=>?_⟩,λy c h=>hc.of (YG h),e0.hok.fresh (ZH _),λy c h=>hcn y c (YG h),λp hp=>absurd (show p∈([]:List (Addr×Obj))from hp) (by simp),λa o z=>(e0.hok a o z).stay (λb u _ q=>hk b u q) (λ_ q=>q) (λ_ _ q=>q),?_⟩
 ·obtain⟨i,hi⟩:=mem_iff_getElem?.mp (YG h1)
  obtain⟨j,hj⟩:=mem_iff_getElem?.mp (YG h2)
  replace hi:cl[i]? = some (y,c):=hi
  replace hj:cl[j]? = some (z,c):=hj
  have e1:(cl.map (·.2))[i]? = some c:=by rw[WM,hi];rfl
  have e2:(cl.map (·.2))[j]? = some c:=by rw[WM,hj];rfl
  have e:i=j:=(getElem?_inj (eA e1).1 hinj).mp (e1.trans e2.symm)
  subst e
  rw[hi]at hj
  cases hj
  rfl
 ·have hy':scope.names.lookup y=some .cell\/scope.names.lookup y=some .free:=hy
  rcases hy' with hy | hy
  ·exact absurd rfl (S.nocell _ (YG hy))
  ·have hm:=S.has _ (YG hy) rfl
   rw[<- hcl]at hm
   obtain⟨⟨y',c⟩,hm2,rfl⟩:=eE hm
   obtain⟨i,hi⟩:=mem_iff_getElem?.mp hm2
   exact⟨c,lkY hi⟩
 ·have h1':(ps++ys)[i]? = some y:=h1
  rw[WM]at h2
  obtain⟨v',hv',e⟩:=Option.map_eq_some_iff.mp h2
  cases e
  by_cases hi:i<ps.length
  ·rw[YX hi]at h1'
   rw[YX (W102 hi hl)]at hv'
   obtain⟨u,hu,rv⟩:=r.get hv'
   exact⟨u,rv,.inl ⟨S.par y (WQ h1'),q619 ndP h1' hu⟩⟩
  ·rw[YT {}]at h1' hv'
   rw[hl]at hv'
   obtain⟨y',c,u,hy,hcell,rv⟩:=hc.get hv'
   have e:ys[i-ps.length]? = some y':=by rw[<- hcl,WM,hy];rfl
   rw[h1']at e
   cases e
   exact⟨u,rv,.inr ⟨.inr (S.fre y (WQ h1')),c,lkY hy,hcell⟩⟩
 ·show _=(ps++ys).length
  have:=hc.len
  have:=congrArg List.length hcl
  rw[ZN]at this
  rw[ZN,ZU,ZU]
  lia
theorem q120.os:∀{cl:List (Str×Addr)} {vs:List V},q120 H cl vs -> ∃ os:List (Addr×Obj),(∀ p∈os,H p.1=some (.frz p.2 (.own p.1))) /\ ∀ h:Heap,(∀ p∈os,h.get? p.1=some p.2)->q90 h cl vs
 | [],[],_=>⟨[],(λ_ z=>nomatch z),λ_ _=>trivial⟩
 | (_,c)::_,_::_,⟨⟨o,u,h1,h2,h3⟩,t⟩=>by
  obtain⟨os,a,b⟩:=q120.os t
  refine⟨(c,o)::os,λp hp=>?_,λh hh=>⟨⟨u,⟨o,hh _ (WD ..),h2⟩,h3⟩,b h λp hp=>hh p (ZY _ hp)⟩⟩
  rcases eB hp with rfl | hp
  ·exact h1
  ·exact a p hp
theorem Tps.cells(t:Tps H0 H):∀{cl:List (Str×Addr)} {vs:List V},q120 H cl vs -> ∀ y c,(y,c)∈cl->H0 c=none
 | (_,c)::cl,v::vs,⟨⟨o,u,h1,_⟩,r⟩,y,c',hm=>by
  rcases eB hm with h | h
  ·cases h
   cases e:H0 c with
   | none=>rfl
   | some o'=>
    obtain⟨e1,xs,rfl⟩:=t c o' e
    rw[h1]at e1;cases e1
  ·exact Tps.cells t r y c' h
def q701{K:Fg}{k:Nat}{H:Hp}{f c:Addr}{oc:Obj}{name qual:Str}{params:Arguments}{body:Expr}{scope:Scope}{cl:List (Str×Addr)}{pm ctv:Value}{ps ys:List Str}{cv:List V}{C:List Int->Prop}{φ:List Int->Bool}{vs:Array Value}{tq:Tok}
  (H0:Hp) (tp:Tps H0 H) (S:LamScope ps ys scope) (hcl:cl.map (·.1)=ys) (hinj:(cl.map (·.2)).Nodup) (hf:H f=some (.frz (PySem.W.kla_obj name qual params body scope cl pm c ctv) (.own f)))
  (hc:H c=some (.frz oc (.own c))) (hd:oc.data = .fields vs) (hv:vs[1]? = some (.str qual tq)) (hcells:q120 H cl cv)
  (hb:∀ us:List Value,us.length=ps.length->bindArgs (PySem.W.kla_fn name qual params body scope cl pm (.ref c) ctv) ⟨us,[]⟩=pure (ps.zip us)) (hlen:∀ ns,C ns->ns.length=ps.length)
  (hbody:∀(P:Program)(w:World)(mg:Mg)(base:Heap)(A:Around)(outer:List Env)(s:Shared),∃ t,PE (lamCx P w K mg base (ps++ys) qual scope f (.ref c) cl A outer s H0) body t /\ ∀ ns,C ns->t ((ns.map V.int++cv).map some) H0 (λv _=>v = .bl (φ ns))) :
  Lam K (k+1) H f C φ:=by
 obtain⟨os,a,b⟩:=hcells.os
 have hcn:=tp.cells hcells
 refine⟨(f,PySem.W.kla_obj name qual params body scope cl pm c ctv)::(c,oc)::os,H0,tp,λp hp=>?_,⟨_,_,_,_,WD ..⟩,λP w mg base A outer s us ns hr e0 hos r hC=>?_⟩
 ·rcases eB hp with rfl | hp
  ·exact hf
  ·rcases eB hp with rfl | hp
   ·exact hc
   ·exact a p hp
 have gf:=hos _ (WD ..)
 have gc:=hos _ (ZY _ (WD ..))
 have hl:(ns.map V.int).length=ps.length:=by rw[ZN];exact hlen ns hC
 have lim:s.heap.NoLimit:=e0.mod.nolimit.keeps λb o e=>(e0.bs b o e).1
 refine PySem.W.kla_callFunE hr.depth gf rfl S.co S.gen rfl ⟨c,oc,vs,tq,rfl,gc,hd,hv⟩ ?_
 show wpAny _ _ (bindArgs (PySem.W.kla_fn name qual params body scope cl pm (.ref c) ctv) ⟨us,[]⟩) _ _ s
 rw[hb us (by rw[<- r.length];exact hl)]
 refine ZM (wpAny_newFunctionEnv S.nocell (λy hy=>S.par y.1 (of_mem_zip hy).1) (λh₁ hns hsb=>?_) S.kind)
 have hk:∀ b o,s.heap.get? b=some o->h₁.get? b=some o:=λb o e=>hsb.extBut b o (WE (ZW e)) (ZE _ e)
 exists lim.keeps hk
 obtain⟨t,ht,hq⟩:=hbody P w mg base A outer s
 show codeAny _ _ (.expr body (PySem.W.envX qual scope s.heap.objs.size f (.ref c) cl)) _ _
 refine PySem.W.kla_codeExpr (YJ (ht [] _ _ _ _ (q700 S hcl hinj hr.hd e0 hcn hl r ((b s.heap λp hp=>hos p (ZY _ (ZY _ hp))).keeps hk) hns hk) (hq ns hC)) (λu s' h=>?_) λe s' h=>h)
 obtain⟨v,H',I',r',q'⟩:=h
 exact⟨v,H',I'.os,I'.bare,I'.base,I'.hok,r',q'⟩
theorem q702{K:Fg}{k:Nat}{H:Hp}{f c:Addr}{oc:Obj}{name qual:Str}{params:Arguments}{body:List Stmt}{scope:Scope}{cl:List (Str×Addr)}{doc pm ctv:Value}{ps ys:List Str}{cv:List V}{C:List Int->Prop}{φ:List Int->Bool}{vs:Array Value}{tq:Tok}
  (H0:Hp) (tp:Tps H0 H) (S:LamScope ps ys scope) (hcl:cl.map (·.1)=ys) (hinj:(cl.map (·.2)).Nodup) (hf:H f=some (.frz (PySem.W.fnMade name qual params body scope cl doc pm c ctv) (.own f)))
  (hc:H c=some (.frz oc (.own c))) (hd:oc.data = .fields vs) (hv:vs[1]? = some (.str qual tq)) (hcells:q120 H cl cv)
  (hb:∀ us:List Value,us.length=ps.length->bindArgs (PySem.W.fnX name qual params body scope cl .none .none doc pm none (.ref c) ctv) ⟨us,[]⟩=pure (ps.zip us)) (hlen:∀ ns,C ns->ns.length=ps.length)
  (hbody:∀(P:Program)(w:World)(mg:Mg)(base:Heap)(A:Around)(outer:List Env)(s:Shared),∃ t,PSs (lamCx P w K mg base (ps++ys) qual scope f (.ref c) cl A outer s H0) body t /\ ∀ ns,C ns->t { nx:=λ_ _=>False,rt:=λv _=>v = .bl (φ ns) } ((ns.map V.int++cv).map some) H0) :
  Lam K (k+1) H f C φ:=by
 obtain⟨os,a,b⟩:=hcells.os
 have hcn:=tp.cells hcells
 refine⟨(f,PySem.W.fnMade name qual params body scope cl doc pm c ctv)::(c,oc)::os,H0,tp,λp hp=>?_,⟨_,_,_,_,WD ..⟩,λP w mg base A outer s us ns hr e0 hos r hC=>?_⟩
 ·rcases eB hp with rfl | hp
  ·exact hf
  ·rcases eB hp with rfl | hp
   ·exact hc
   ·exact a p hp
 have gf:=hos _ (WD ..)
 have gc:=hos _ (ZY _ (WD ..))
 have hl:(ns.map V.int).length=ps.length:=by rw[ZN];exact hlen ns hC
 have lim:s.heap.NoLimit:=e0.mod.nolimit.keeps λb o e=>(e0.bs b o e).1
 refine codeAny_call_function hr.depth gf rfl S.co S.gen rfl ⟨c,oc,vs,tq,rfl,gc,hd,hv⟩ ?_
 show wpAny _ _ (bindArgs (PySem.W.fnX name qual params body scope cl .none .none doc pm none (.ref c) ctv) ⟨us,[]⟩) _ _ s
 rw[hb us (by rw[<- r.length];exact hl)]
 refine ZM (wpAny_newFunctionEnv S.nocell (λy hy=>S.par y.1 (of_mem_zip hy).1) (λh₁ hns hsb=>?_) S.kind)
 have hk:∀ b o,s.heap.get? b=some o->h₁.get? b=some o:=λb o e=>hsb.extBut b o (WE (ZW e)) (ZE _ e)
 exists lim.keeps hk
 obtain⟨t,ht,hq⟩:=hbody P w mg base A outer s
 show codeAny _ _ (.func body (PySem.W.envX qual scope s.heap.objs.size f (.ref c) cl)) _ _
 refine codeAny_func (YJ (ht [] _ _ _ _ (q700 S hcl hinj hr.hd e0 hcn hl r ((b s.heap λp hp=>hos p (ZY _ (ZY _ hp))).keeps hk) hns hk) (hq ns hC)) (λfl s' h=>?_) λe s' h=>h)
 cases fl with
 | ret u=>
  obtain⟨v,σ',H',I',r',q'⟩:=h
  exact⟨v,H',I'.os,I'.bare,I'.base,I'.hok,r',q'⟩
 | next=>obtain⟨_,_,_,q⟩:=h;exact False.elim q
 | brk=>obtain⟨_,_,_,q⟩:=h;exact False.elim q
 | cont=>obtain⟨_,_,_,q⟩:=h;exact False.elim q
def Tab(H:Hp)(T:Addr)(pos:Pos)(qual:Str):Prop:=
 ∃ ps,H T=some (.tbl ps)/\TriplesOk ps.toList/\(codeAmong pos ps.toList=none \/ ∃ c oc vs tq,codeAmong pos ps.toList=some (.ref c)/\H c=some (.frz oc (.own c))/\oc.data = .fields vs/\vs[1]? = some (.str qual tq))
def Tab.same(x:Tab H T pos qual)(s:Same H H'):Tab H' T pos qual:=by
 obtain⟨ps,h1,h2,h3⟩:=x
 exists ps,s _ _ h1,h2
 rcases h3 with h | ⟨c,oc,vs,tq,a,b,d⟩
 ·exact .inl h
 ·exact .inr ⟨c,oc,vs,tq,a,s _ _ b,d⟩
theorem q153{a b:Int}:∀{l:List Value},TriplesOk l->TriplesOk (l++[.int a t,.int b u,v])
 | [],_=>trivial
 | .int _ _ :: .int _ _::_::rest,h=>q153 (l:=rest) h
def Inv.tabbed{s:Shared}{h':Heap}{tk:Tok}{c f:Addr}{more:Array Value}{oc fo:Obj}(I:Inv X pins σ H s)(hT:H T=some (.tbl ps))
  (hx:∀ b o,b≠T->s.heap.get? b=some o->h'.get? b=some o) (gT:h'.get? T=some { cls:=.none,data:=.fields (ps++more) }) (gc:h'.get? c=some oc) (gf:h'.get? f=some fo) (hc:s.heap.objs.size<=c) (hcf:c<f) :
  Inv X pins σ (upd (upd (upd H T (.tbl (ps++more))) c (.frz oc (.own c))) f (.frz fo (.own f))) { s with heap:=h',toks:=tk }:=by
 have nc:H c=none:=I.hok.fresh hc
 have nf:H f=none:=I.hok.fresh (ZQ hc (Nat.le_of_lt hcf))
 have old:∀{b:Addr}{o:HO},H b=some o->b≠T->upd (upd (upd H T (.tbl (ps++more))) c (.frz oc (.own c))) f (.frz fo (.own f)) b=some o:=fun {b o} e n=>by
  rw[q27 (q25 e nf),q27 (q25 e nc),q27 n];exact e
 have atT:upd (upd (upd H T (.tbl (ps++more))) c (.frz oc (.own c))) f (.frz fo (.own f)) T=some (.tbl (ps++more)):=by
  rw[q27 (q25 hT nf),q27 (q25 hT nc),q12]
 have nT:∀{b:Addr}{o:HO},H b=some o->(∀ qs,o ≠ .tbl qs)->b≠T:=λe n z=>by subst z;rw[hT]at e;cases e;exact n _ rfl
 have kept:∀ b o,s.heap.get? b=some o->H b=none->h'.get? b=some o:=λb o e n=>hx b o (λz=>by subst z;rw[hT]at n;cases n) e
 refine I.call' (ch:=[]) rfl ⟨λb o e n _ _=>kept b o e n,λb o e n _ _=>⟨o.slots,kept b o e n⟩,λb o e n _=>?_,λb o e _=>?_,λb xs e=>old e (nT e (by intro _ z;cases z)),λb o u e=>old e (nT e (by intro _ z;cases z)),λb qs e=>?_⟩ (λa o e=>?_) I.bare λb z=>absurd z (by simp)
 ·have hb:=ZW e
  rw[q27 (WE (Nat.lt_trans (WB hb hc) hcf)),q27 (WE (WB hb hc)),q27 λz=>by subst z;rw[hT]at n;cases n]
  exact n
 ·by_cases hb:b=T
  ·subst hb;exact⟨_,gT⟩
  ·exact⟨o,hx b o hb e⟩
 ·by_cases hb:b=T
  ·subst hb
   rw[hT]at e
   cases e
   exact⟨more,atT⟩
  ·exact⟨#[],by rw[old e hb];simp⟩
 ·by_cases h1:a=f
  ·subst h1
   rw[q12]at e
   cases e
   exact⟨gf,_,gf⟩
  ·rw[q27 h1]at e
   by_cases h2:a=c
   ·subst h2
    rw[q12]at e
    cases e
    exact⟨gc,_,gc⟩
   ·rw[q27 h2]at e
    by_cases h3:a=T
    ·subst h3
     rw[q12]at e
     cases e
     exact gT
    ·rw[q27 h3]at e
     refine(I.hok a o e).stay (λb u hb q=>hx b u ?_ q) (λb q=>old q (nT q (by intro _ z;cases z))) λb xs q=>old q (nT q (by intro _ z;cases z))
     rcases hb with rfl | hb
     ·exact h3
     ·exact nT hb (by intro _ z;cases z)
def BMain(mg:Mg)(base:Heap):Prop:=∃ bm ob,mg "__builtins__" = some (.ref bm)/\bm≠builtinsNs/\base.get? bm=some ob/\ob.cls = .type "module" /\ ob.dict=some builtinsNs/\ob.data = .plain
def tLam(T:Addr)(pos:Pos)(qual:Str)(params:Arguments)(body:Expr)(scope:Scope)(cl:List (Str×Addr)):TE:=λ_ H Q=>Tab H T pos qual /\ ∀ f c oc vs tq pm ctv H1,H f=none->H1 f=some (.frz (PySem.W.kla_obj "<lambda>" qual params body scope cl pm c ctv) (.own f)) ->
 H1 c=some (.frz oc (.own c))->oc.data = .fields vs->vs[1]? = some (.str qual tq)->Tab H1 T pos qual->(∀ b o,b≠T->H b=some o->H1 b=some o)->Q (.ref f) H1
def q703{X:Cx}(hcode:X.env.code = .ref c)(hC:PySem.W.codeHdIn X.K c T=true)(hb:BMain X.mg X.base)(hcl:closureFor scope X.env=pure cl)(hq:X.env.qual ++ "<lambda>" = qual) (hdef:defaultsOf params X.env=([],[])) :
  PE X (.Lambda params body scope pos) (tLam T pos qual params body scope cl):=by
 intro pins s σ H Q I h
 obtain⟨⟨ps,hT,ht,hcase⟩,h⟩:=h
 subst hq
 have gP:s.heap.get? T=some (PySem.W.tabObj ps):=I.hok T _ hT
 have hg:s.heap.Ns mainGlobals X.mg:=I.mod.glob.keeps I.bk
 obtain⟨bm,ob,b1,b2,b3,b4,b5,b6⟩:=hb
 have hbT:bm≠T:=λz=>by
  have:=(I.bs bm ob b3).2
  rw[z,hT]at this;cases this
 have hgT:mainGlobals≠T:=λz=>by
  obtain⟨o,es,ep,e,hd,_⟩:=hg
  rw[z,gP]at e;cases e;cases hd
 have hbG:bm≠mainGlobals:=λz=>by
  obtain⟨o,es,ep,e,hd,_⟩:=hg
  have e3:=I.bk bm ob b3
  rw[z,e]at e3;cases e3;rw[hd]at b6;cases b6
 have CH:=PySem.W.codeHd_of_K I.kIn hC
 have BA:s.heap.BuiltinsAt X.mg T:=⟨bm,ob,b1,b2,hbG,hbT,I.bk _ _ b3,b4,b5,b6⟩
 refine PySem.W.kla_eval hdef ?_
 rcases hcase with hn | ⟨c1,oc,vs,tq,hf,hc1,hd,hv⟩
 ·refine PySem.W.kla_makeFunction hcl I.ok.glob hg hcode CH gP ht hn hgT BA λc' ctv h' tk hx hge hlt hrec htb=>?_
  obtain⟨c2,oc,vs,tq,e2,hoc,hd,hv⟩:=hrec
  cases e2
  have I':=I.tabbed (tk:=tk) (h':=h'.push (PySem.W.kla_obj "<lambda>" (X.env.qual ++ "<lambda>") params body scope cl ((X.mg "__name__").getD .none) c' ctv)) hT (λb o hb e=>ZE _ (hx b o hb e)) (ZE _ htb) (ZE _ hoc) (ZT _ rfl) hge hlt
  have nc:H c'=none:=I.hok.fresh hge
  have nf:H h'.objs.size=none:=I.hok.fresh (ZQ hge (Nat.le_of_lt hlt))
  have hcf:c'≠h'.objs.size:=WE hlt
  refine⟨.ref _,_,I',rfl,h _ c' oc vs tq _ ctv _ nf q12 (by rw[q27 hcf,q12]) hd hv ⟨_,by rw[q27 (q25 hT nf),q27 (q25 hT nc),q12],?_,.inr ⟨c',oc,vs,tq,?_,by rw[q27 hcf,q12],hd,hv⟩⟩ λb o hb e=>by rw[q27 (q25 e nf),q27 (q25 e nc),q27 hb];exact e⟩
  ·rw[WN]
   exact q153 ht
  ·rw[WN]
   exact codeAmong_snoc _ ht hn
 ·refine PySem.W.kla_makeFunctionHit hcl I.ok.glob hg hcode CH gP ht hf BA λctv h' tk hk hsz=>?_
  have nf:H h'.objs.size=none:=I.hok.fresh hsz
  have I':=I.laid (t':=tk) (h':=h'.push (PySem.W.kla_obj "<lambda>" (X.env.qual ++ "<lambda>") params body scope cl ((X.mg "__name__").getD .none) c1 ctv)) (o:=.frz (PySem.W.kla_obj "<lambda>" (X.env.qual ++ "<lambda>") params body scope cl ((X.mg "__name__").getD .none) c1 ctv) (.own h'.objs.size)) (λb u e=>ZE _ (hk b u e)) hsz ⟨ZT _ rfl,_,ZT _ rfl⟩
  have s1:=q15 nf (.frz (PySem.W.kla_obj "<lambda>" (X.env.qual ++ "<lambda>") params body scope cl ((X.mg "__name__").getD .none) c1 ctv) (.own h'.objs.size))
  exact⟨.ref _,_,I',rfl,h _ c1 oc vs tq _ ctv _ nf q12 (s1 _ _ hc1) hd hv (Tab.same ⟨ps,hT,ht,.inr ⟨c1,oc,vs,tq,hf,hc1,hd,hv⟩⟩ s1) λb o _ e=>s1 _ _ e⟩
def tNest(T:Addr)(pos:Pos)(name qual:Str)(params:Arguments)(body:List Stmt)(scope:Scope)(cl:List (Str×Addr))(i:Nat):TS:=λD σ H=>Tab H T pos qual /\ ∀ f c oc vs tq doc pm ctv H1,H f=none->H1 f=some (.frz (PySem.W.fnMade name qual params body scope cl doc pm c ctv) (.own f)) ->
 H1 c=some (.frz oc (.own c))->oc.data = .fields vs->vs[1]? = some (.str qual tq)->Tab H1 T pos qual->(∀ b o,b≠T->H b=some o->H1 b=some o)->D.nx (σ.set i (some (.ref f))) H1
def q704{X:Cx}{params:Arguments}{i:Nat}(hcode:X.env.code = .ref c)(hC:PySem.W.codeHdIn X.K c T=true)(hb:BMain X.mg X.base)(hcl:closureFor scope X.env=pure cl)(hq:qualnameIn X.env name name=qual)
  (hd0:params.defaults=[]) (hk0:params.kw_defaults=[]) (han:annTrees params none X.env=[]) (hN:X.N.Nodup) (hi:X.N[i]? = some name) (hx:Loc X.env.scope name) (hf:X.fn name=true\/X.env.scope.names.lookup name=some .local) :
  PS X (.FunctionDef name params body [] none [] scope none name pos) (tNest T pos name qual params body scope cl i):=by
 intro pins s σ H D I h
 obtain⟨⟨ps,hT,ht,hcase⟩,h⟩:=h
 subst hq
 have gP:s.heap.get? T=some (PySem.W.tabObj ps):=I.hok T _ hT
 have hg:s.heap.Ns mainGlobals X.mg:=I.mod.glob.keeps I.bk
 obtain⟨bm,ob,b1,b2,b3,b4,b5,b6⟩:=hb
 have hbT:bm≠T:=λz=>by
  have:=(I.bs bm ob b3).2
  rw[z,hT]at this;cases this
 have hgT:mainGlobals≠T:=λz=>by
  obtain⟨o,es,ep,e,hd,_⟩:=hg
  rw[z,gP]at e;cases e;cases hd
 have hbG:bm≠mainGlobals:=λz=>by
  obtain⟨o,es,ep,e,hd,_⟩:=hg
  have e3:=I.bk bm ob b3
  rw[z,e]at e3;cases e3;rw[hd]at b6;cases b6
 have CH:=PySem.W.codeHd_of_K I.kIn hC
 have BA:s.heap.BuiltinsAt X.mg T:=⟨bm,ob,b1,b2,hbG,hbT,I.bk _ _ b3,b4,b5,b6⟩
 refine PySem.W.nestDef_K hd0 hk0 han ?_
 rcases hcase with hn | ⟨c1,oc,vs,tq,hf1,hc1,hd,hv⟩
 ·refine PySem.W.makeFunction_K hcl I.ok.glob hg hcode CH gP ht hn hgT BA λc' ctv doc h' tk hx' hge hlt hrec htb=>?_
  obtain⟨c2,oc,vs,tq,e2,hoc,hd,hv⟩:=hrec
  cases e2
  have I':=I.tabbed (tk:=tk) (h':=h'.push (PySem.W.fnMade name (qualnameIn X.env name name) params body scope cl doc ((X.mg "__name__").getD .none) c' ctv)) hT (λb o hb e=>ZE _ (hx' b o hb e)) (ZE _ htb) (ZE _ hoc) (ZT _ rfl) hge hlt
  have nc:H c'=none:=I.hok.fresh hge
  have nf:H h'.objs.size=none:=I.hok.fresh (ZQ hge (Nat.le_of_lt hlt))
  have hcf:c'≠h'.objs.size:=WE hlt
  refine q280 I' hN hi hx (v:=.ref h'.objs.size) rfl (λs' I2=>⟨_,_,I2,h _ c' oc vs tq doc _ ctv _ nf q12 (by rw[q27 hcf,q12]) hd hv ⟨_,by rw[q27 (q25 hT nf),q27 (q25 hT nc),q12],?_,.inr ⟨c',oc,vs,tq,?_,by rw[q27 hcf,q12],hd,hv⟩⟩ λb o hb e=>by rw[q27 (q25 e nf),q27 (q25 e nc),q27 hb];exact e⟩) hf
  ·rw[WN]
   exact q153 ht
  ·rw[WN]
   exact codeAmong_snoc _ ht hn
 ·refine PySem.W.makeFunction_hit hcl I.ok.glob hg hcode CH gP ht hf1 BA λctv doc h' tk hk hsz=>?_
  have nf:H h'.objs.size=none:=I.hok.fresh hsz
  have I':=I.laid (t':=tk) (h':=h'.push (PySem.W.fnMade name (qualnameIn X.env name name) params body scope cl doc ((X.mg "__name__").getD .none) c1 ctv)) (o:=.frz (PySem.W.fnMade name (qualnameIn X.env name name) params body scope cl doc ((X.mg "__name__").getD .none) c1 ctv) (.own h'.objs.size)) (λb u e=>ZE _ (hk b u e)) hsz ⟨ZT _ rfl,_,ZT _ rfl⟩
  have s1:=q15 nf (.frz (PySem.W.fnMade name (qualnameIn X.env name name) params body scope cl doc ((X.mg "__name__").getD .none) c1 ctv) (.own h'.objs.size))
  exact q280 I' hN hi hx (v:=.ref h'.objs.size) rfl (λs' I2=>⟨_,_,I2,h _ c1 oc vs tq doc _ ctv _ nf q12 (s1 _ _ hc1) hd hv (Tab.same ⟨ps,hT,ht,.inr ⟨c1,oc,vs,tq,hf1,hc1,hd,hv⟩⟩ s1) λb o _ e=>s1 _ _ e⟩) hf
noncomputable def CapOk(X:Cx):List (Str×Addr)->List Nat->Prop
 | [],[]=>True
 | (y,c)::cl,i::is=>(X.N[i]? = some y/\X.env.scope.names.lookup y=some .cell/\X.fn y=true/\X.env.cells.lookup y=some c)/\CapOk X cl is
 | _,_=>False
theorem CapOk.mem{X:Cx}:∀{cl:List (Str×Addr)} {is:List Nat},CapOk X cl is -> ∀{c:Addr},c∈cl.map (·.2) -> ∃ y,X.fn y=true/\X.env.cells.lookup y=some c
 | (y,c)::_,_::_,⟨⟨_,_,h1,h2⟩,_⟩,_,.head _=>⟨y,h1,h2⟩
 | _::_,_::_,⟨_,t⟩,_,.tail _ m=>CapOk.mem t m
def Back(H1 H' H3:Hp):Prop:=∀ b o,H' b=some o->(H1 b≠none \/ ∀ ob u,o ≠ .frz ob u)->H3 b=some o
noncomputable def froz(h:Heap)(cs:List Addr)(H:Hp):Hp:=λb=>if b∈cs then(h.get? b).map λo=>.frz o (.own b)else H b
noncomputable def tCallC(sp:Sp)(cl:List (Str×Addr))(is:List Nat)(E:XK)(t:TA):TE:=λσ H Q=>t σ H λvs H1=>∃ cv:List V,(is.map λi=>σ[i]?)=cv.map (λv=>some (some v)) /\ ∀ H2,Same H1 H2->q120 H2 cl cv->sp vs H2 (λv H'=>∀ H3,Back H1 H' H3->Q v H3) E
def q458{X:Cx}{k:Nat}{p pos:Pos}(c:Cal X.prog X.w X.K X.mg X.base k x ps sp)(hr:Room k X.A)(hg:Gl X x)(hcap:CapOk X cl is)(ha:PA X (e::es) t)(hdb:(x==("__debug__" : Str))=false:=by decide)
  (he:starEach (e::es) X.env=(false,eval e X.env)::starEach es X.env:=by rfl) (hpl:(backTo pos (starEach es X.env)).any (·.1)=false:=by rfl) :
  PE X (.Call (.Name x p) (e::es) [] pos) (tCallC sp cl is E0 t):=by
 obtain⟨f,fd,F,B,kp,m⟩:=c.ex
 intro pins s σ H Q I h
 refine wpAny_Call_Name_kw (q645 I hg m ?_ hdb)
 refine PySem.W.callWith_K (h₀:=X.base) I.ok.mod.kin kp (thn (ha pos pins s σ H _ I h) λus s1 ⟨vs,H1,I1,r,q⟩=>⟨I1.kIn,?_⟩) he hpl
 obtain⟨cv,hcv,q⟩:=q
 have isC:∀ b∈cl.map (·.2),∃ y,X.fn y=true/\X.env.cells.lookup y=some b:=λb hb=>hcap.mem hb
 have ncs:∀{b:Addr}{o:HO},H1 b=some o->b ∉ cl.map (·.2):=fun {b o} e hb=>by
  obtain⟨y,_,hy⟩:=isC b hb
  rw[I1.freeC y b hy]at e;cases e
 have oldF:∀{b:Addr}{o:Obj},X.s₀.heap.get? b=some o->b ∉ cl.map (·.2):=fun {b o} e hb=>by
  obtain⟨y,h1,hy⟩:=isC b hb
  exact absurd (WB (ZW e) (I1.ok.cab y b h1 hy)) (Nat.lt_irrefl _)
 have cellO:∀ b∈cl.map (·.2),∃ o,s1.heap.get? b=some o:=λb hb=>by
  obtain⟨y,_,hy⟩:=isC b hb
  obtain⟨v,o,ho,_⟩:=I1.cell y b hy
  exact⟨o,ho⟩
 have inC:∀{b:Addr},b∈cl.map (·.2) -> ∀{o:Obj},s1.heap.get? b=some o->froz s1.heap (cl.map (·.2)) H1 b=some (.frz o (.own b)):=fun {b} hb {o} e=>by
  unfold froz;rw[ZL hb,e];rfl
 have outC:∀{b:Addr},b ∉ cl.map (·.2)->froz s1.heap (cl.map (·.2)) H1 b=H1 b:=λhb=>by unfold froz;rw[ZJ hb]
 have sm:Same H1 (froz s1.heap (cl.map (·.2)) H1):=λb o e=>by rw[outC (ncs e)];exact e
 have frC:∀ b∈frs X.stack,b ∉ cl.map (·.2):=λb hb=>by
  rcases eB (I1.stkSub b hb)with z | hb
  ·intro hc
   obtain⟨y,_,hy⟩:=isC b hc
   exact I1.cne y b hy z
  ·obtain⟨_,o,ho,_⟩:=I1.ok.funs.mem hb
   exact oldF ho
 have cells:q120 (froz s1.heap (cl.map (·.2)) H1) cl cv:=by
  obtain⟨m,hn,hl⟩:=I1.loc
  have key:∀(cl':List (Str×Addr)) (is':List Nat) (cv':List V),CapOk X cl' is'->(is'.map λi=>σ[i]?)=cv'.map (λv=>some (some v))->(∀ b∈cl'.map (·.2),b∈cl.map (·.2))->q120 (froz s1.heap (cl.map (·.2)) H1) cl' cv':=by
   intro cl'
   induction cl' with
   | nil=>
    intro is' cv' h1 h2 _
    cases is' with
    | nil=>cases cv' with
     | nil=>trivial
     | cons v cv'=>cases h2
    | cons i is'=>exact h1.elim
   | cons a cl' ih=>
    intro is' cv' h1 h2 h3
    obtain⟨y,c⟩:=a
    cases is' with
    | nil=>exact h1.elim
    | cons i is'=>
     cases cv' with
     | nil=>cases h2
     | cons v cv'=>
      obtain⟨⟨e1,e2,_,e4⟩,t⟩:=h1
      have h2':=List.cons.inj h2
      obtain⟨u,rv,l⟩:=hl i y v e1 h2'.1 (.inr (.inl e2))
      refine⟨?_,ih is' cv' t h2'.2 λb hb=>h3 b (ZY _ hb)⟩
      rcases l with ⟨hk,_⟩ | ⟨_,c',hc',o,ho,hd⟩
      ·have hk':X.env.scope.names.lookup y=some .local:=hk
       rw[e2]at hk';cases hk'
      ·rw[e4]at hc'
       cases hc'
       exact⟨o,u,inC (h3 c (WD ..)) ho,hd,rv⟩
  exact key cl is cv hcap hcv λ_ h=>h
 have e1:=I1.env0
 have e0:Env0 X.prog X.w X.K X.mg X.base X.A X.stack s1 (froz s1.heap (cl.map (·.2)) H1):=by
  refine⟨e1.frames,e1.mod,λb o z=>⟨(e1.bs b o z).1,?_⟩,e1.bsz,e1.funs,λb hb=>?_,λa o z=>?_,e1.bare⟩
  ·rw[outC (oldF (I1.ok.bs b o z).1)];exact(e1.bs b o z).2
  ·rw[outC (frC b hb)];exact e1.frf b hb
  ·by_cases ha:a∈cl.map (·.2)
   ·obtain⟨ob,ho⟩:=cellO a ha
    rw[inC ha ho]at z
    cases z
    exact⟨ho,_,ho⟩
   ·rw[outC ha]at z
    exact(I1.hok a o z).stay (λ_ _ _ q=>q) (λb q=>sm _ _ q) λb xs q=>sm _ _ q
 have hl:us.length=ps.length:=by rw[<- r.length];exact F.len _ _ _ _ (q _ sm cells)
 refine wpAny_call (codeAny_mono (F.run X.A X.stack s1 _ ⟨us,[]⟩ us vs _ E0 hr e0 (by have:=B s1 us I1.kIn (by rw[append_nil];exact hl);rw[append_nil]at this;exact this) r (q _ sm cells)) λrr s' hq=>?_)
 cases rr with
 | error e=>exact False.elim hq
 | ok fl=>
  cases fl with
  | next=>exact False.elim hq
  | brk=>exact False.elim hq
  | cont=>exact False.elim hq
  | ret u=>
   obtain⟨v,H',os',bare,un,hok,rv,qv⟩:=hq
   have fz:∀{b:Addr},b∈cl.map (·.2) -> ∃ o,s1.heap.get? b=some o/\H' b=some (.frz o (.own b))/\s'.heap.get? b=some o:=fun {b} hb=>by
    obtain⟨o,ho⟩:=cellO b hb
    have z:=un.frzs b o _ (inC hb ho)
    exact⟨o,ho,z,(hok b _ z).1⟩
   obtain⟨H3,hH3⟩:∃ H3:Hp,H3=λb=>if b∈cl.map (·.2)then none else H' b:=⟨_,rfl⟩
   have h3in:∀{b:Addr},b∈cl.map (·.2)->H3 b=none:=λhb=>by rw[hH3];exact ZL hb
   have h3out:∀{b:Addr},b ∉ cl.map (·.2)->H3 b=H' b:=λhb=>by rw[hH3];exact ZJ hb
   have bk:Back H1 H' H3:=λb o e z=>by
    have hb:b ∉ cl.map (·.2):=λhb=>by
     rcases z with z | z
     ·obtain⟨y,_,hy⟩:=isC b hb
      exact z (I1.freeC y b hy)
     ·obtain⟨ob,_,h2,_⟩:=fz hb
      rw[e]at h2;cases h2
      exact z _ _ rfl
    rw[h3out hb];exact e
   have nz:∀{b:Addr}{o:HO},H' b=some o->(∀ ob u,o ≠ .frz ob u)->H3 b=some o:=λe n=>bk _ _ e (.inr n)
   refine⟨v,H3,I1.call' (ch:=[]) os' ⟨λb o e n hb hx=>?_,λb o e n hb hx=>?_,λb o e n hx=>?_,λb o e hx=>un.there b o e hx,λb xs e=>?_,λb o u e=>?_,λb qs e=>?_⟩ (λa o e=>?_) bare (λb z=>absurd z (by simp)),rv,qv H3 bk⟩
   ·by_cases hc:b∈cl.map (·.2)
    ·obtain⟨o',h1,_,h2⟩:=fz hc
     rw[e]at h1;cases h1
     exact h2
    ·exact un.keep b o e (by rw[outC hc];exact n) hb hx
   ·exact un.slot b o e (by rw[outC (frC b hb)];exact n) hb hx
   ·by_cases hc:b∈cl.map (·.2)
    ·exact h3in hc
    ·rw[h3out hc];exact un.free b o e (by rw[outC hc];exact n) hx
   ·rw[h3out (ncs e)];exact un.tups b xs (sm _ _ e)
   ·rw[h3out (ncs e)];exact un.frzs b o u (sm _ _ e)
   ·obtain⟨more,z⟩:=un.tbls b qs (sm _ _ e)
    exact⟨more,by rw[h3out (ncs e)];exact z⟩
   ·by_cases hc:a∈cl.map (·.2)
    ·rw[h3in hc]at e;cases e
    ·rw[h3out hc]at e
     exact(hok a o e).stay (λ_ _ _ q=>q) (λb q=>nz q (by intro _ _ z;cases z)) λb xs q=>nz q (by intro _ _ z;cases z)
structure DefL(K:Fg)(mg:Mg)(x:Str)(st:Stmt)(ps:List Str)(c T:Addr):Prop where
 ex:∃(f:Addr) (oc:Value) (od an:Option Addr) (kV doc pm ct:Value) (osl:Array (Option Value)),K.lookup f=some ⟨oc,od,.func (PySem.W.fnOf x x (q132 st) (q87 st) (q17 st) .none kV doc pm an (.ref c) ct),osl⟩/\PySem.W.codeIn K (.ref c) x=true/\PySem.W.keepIn K (.ref f)=true /\
  (∀ us:List Value,us.length=ps.length->bindArgs (PySem.W.fnOf x x (q132 st) (q87 st) (q17 st) .none kV doc pm an (.ref c) ct) ⟨us,[]⟩=pure (ps.zip us))/\mg x=some (.ref f)
 hd:PySem.W.codeHdIn K c T=true
def q755{K:Fg}{h:Heap}{mg:Mg}{x:Str}{st:Stmt}{ps:List Str}{f c T:Addr}{oc:Value}{od an:Option Addr}{osl:Array (Option Value)}{kV doc pm ct:Value}
  (KX:K.In h) (G:h.Ns mainGlobals mg) (a:PySem.W.nsIn K mainGlobals x=some (some (.ref f)))
  (l:K.lookup f=some ⟨oc,od,.func (PySem.W.fnOf x x (q132 st) (q87 st) (q17 st) .none kV doc pm an (.ref c) ct),osl⟩)
  (cc:PySem.W.codeIn K (.ref c) x=true) (k:PySem.W.keepIn K (.ref f)=true) (hd:PySem.W.codeHdIn K c T=true)
  (b:∀(kV doc pm:Value)(an:Option Addr)(cdv ct:Value)(us:List Value),us.length=ps.length->bindArgs (PySem.W.fnOf x x (q132 st) (q87 st) (q17 st) .none kV doc pm an cdv ct) ⟨us,[]⟩=pure (ps.zip us)) :
  DefL K mg x st ps c T:=⟨⟨f,oc,od,an,kV,doc,pm,ct,osl,l,cc,k,b kV doc pm an (.ref c) ct,PySem.W.mg_of KX G a⟩,hd⟩
def DefL.cal{P:Program}{w:World}{K:Fg}{mg:Mg}{base:Heap}{k:Nat}{x:Str}{st:Stmt}{N ps:List Str}{c T:Addr}{sp:Sp}(d:DefL K mg x st ps c T)(S:FnScope N ps (q17 st))(len:∀ vs H Q E,sp vs H Q E->vs.length=ps.length)
  (hbody:∀(f:Addr)(A:Around)(outer:List Env)(s:Shared)(H:Hp)(vs:List V)(Q:VK)(E:XK),Room k (A.deeper (envOfC x (q17 st) s.heap.objs.size f (.ref c)))->sp vs H Q E ->
   ∃ t,PSs (cxOf CX0 P w K mg base N x (q17 st) f (.ref c) A outer s H E).nox (q87 st) t/\t { nx:=λ_ H'=>Q .non H',rt:=Q } (start N vs) H):Cal P w K mg base (k+1) x ps sp:=by
 obtain⟨f,oc,od,an,kV,doc,pm,ct,osl,lk,hcd,kp,hb,hm⟩:=d.ex
 refine⟨f,_,fn_of lk hcd S len λA outer s H vs Q E hr hsp=>?_,.all hb,kp,hm⟩
 obtain⟨t,h,q⟩:=hbody f A outer s H vs Q E hr hsp
 exact⟨t,h.nox,q⟩
def q459(K:Fg)(ts:List Addr):Sp:=λvs H Q _=>∃(a:Addr)(ns:List Int),vs=[.ref a]/\SqL K H a (ns.map V.int)/\ns.length<=63/\(∀ T∈ts,H T=some (.tbl #[]))/\(∀ b ys,H b≠some (.lst ys)) /\ ∀ H',Q (.bl true) H'
theorem q705{P:Program}{w:World}{K:Fg}{k:Nat}{fa:Addr}{fd:FuncData}{s₁:Shared}{vs:List Value}{ns:List Int}{ts:List (Addr×Addr)}
  (KX:K.In s₁.heap) (hns:s₁.heap.Ns mainGlobals mg) (hb:s₁.heap.Ns builtinsNs mb) (hbb:∀ x:Str,x ≠ "__name__" -> mb x=bootBuiltins x) (hlim:s₁.heap.NoLimit) (hbm:BMain mg s₁.heap) (hg:s₁.gens = #[])
  (ha:s₁.heap.get? a=some { cls:=.type "list", data:=.seq vs.toArray }) (hi:IntsAre vs ns) (hl:ns.length<=63) (hr:Room k callerA)
  (hts:∀ q∈ts,PySem.W.codeHdIn K q.1 q.2=true/\K.lookup q.2=none) (hT:∀ T∈ts.map (·.2),s₁.heap.get? T=some (PySem.W.tabObj #[]))
  (F:∀ base:Heap,K.In base->base.Ns mainGlobals mg->BMain mg base->FnOk P w K mg base CX0 k fa fd [x] (q459 K (ts.map (·.2)))) (hbind:∀(s:Shared)(u:Value),BindsTo s fd ⟨[u],[]⟩ [(x,u)]) :
  codeAny (model P w) callerA (.call (.ref fa) ⟨[.ref a],[]⟩) (λr s'=>r = .ok (.ret (.bool true))/\OldK s₁.heap s'.heap/\s'.os=s₁.os/\AllBare s'.gens) s₁:=by
 have rv:=q298 hi
 have lenV:=hi.length
 have hl':ns.length<=sizeLine:=ZQ hl ∅
 have naT:a ∉ ts.map (·.2):=λz=>by
  have:=hT a z
  rw[ha]at this;cases this
 have core:∀ H:Hp,SqL K H a (ns.map V.int)->HOk P w H s₁.heap->(∀ T∈ts.map (·.2),H T=some (.tbl #[]))->(∀ b u,H b=some u->b∈ts.map (·.2)\/(b=a/\K.lookup a=none /\ ∃ o v,u = .frz o v)) ->
   codeAny (model P w) callerA (.call (.ref fa) ⟨[.ref a],[]⟩) (λr s'=>r = .ok (.ret (.bool true))/\OldK s₁.heap s'.heap/\s'.os=s₁.os/\AllBare s'.gens) s₁:=by
  intro H hS hok hHT hA
  have base_of:∀{b:Addr}{o:Obj},s₁.heap.get? b=some o->H b=none->(hidT s₁.heap H).get? b=some o:=λe n=>hidT_get e n
  have free:∀{b:Addr}{o:Obj},s₁.heap.get? b=some o->(∀ ys n,o.data ≠ .seq ys n)->(∀ ys,o.data ≠ .fields ys)->H b=none:=fun {b o} e d1 d2=>by
   cases q:H b with
   | none=>rfl
   | some u=>
    rcases hA b u q with z | ⟨z,_⟩
    ·have:=hT b z
     rw[e]at this;cases this
     exact absurd rfl (d2 _)
    ·subst z
     rw[ha]at e;cases e
     exact absurd rfl (d1 _ _)
  have nsK:∀{b:Addr}{m:Mg},s₁.heap.Ns b m->(hidT s₁.heap H).Ns b m:=fun {b m} ⟨o,es,ep,e,d,r⟩=>⟨o,es,ep,base_of e (free e (by rw[d];intro _ _ z;cases z) (by rw[d];intro _ z;cases z)),d,r⟩
  have hKb:K.In (hidT s₁.heap H):=λb o e=>base_of (KX b o e) (by
   cases q:H b with
   | none=>rfl
   | some u=>
    rcases hA b u q with z | ⟨z,h2,_⟩
    ·obtain⟨⟨c,T⟩,hq,rfl⟩:=eE z
     rw[(hts _ hq).2]at e;cases e
    ·subst z
     rw[h2]at e;cases e)
  have hM:Mod K mg (hidT s₁.heap H):=⟨hKb,nsK hns,⟨mb,nsK hb,hbb⟩,let ⟨mc,h1,h2⟩:=hlim;⟨mc,nsK h1,h2⟩⟩
  have hBM:BMain mg (hidT s₁.heap H):=by
   obtain⟨bm,ob,b1,b2,b3,b4,b5,b6⟩:=hbm
   exact⟨bm,ob,b1,b2,base_of b3 (free b3 (by rw[b6];intro _ _ z;cases z) (by rw[b6];intro _ z;cases z)),b4,b5,b6⟩
  have e0:Env0 P w K mg (hidT s₁.heap H) callerA [] s₁ H:=⟨rfl,hM,λb o e=>of_hidT e,Nat.le_of_eq (q643 _ _),trivial,λb hb=>absurd (show b∈([]:List Addr)from hb) (by simp),hok,.of_eq hg⟩
  refine codeAny_mono ((F _ hKb (nsK hns) hBM).run callerA [] s₁ H ⟨[.ref a],[]⟩ [.ref a] [.ref a] (λv _=>v = .bl true) (λ_ _ _=>False) hr e0 (hbind s₁ (.ref a)) (.cons rfl .nil) ⟨a,ns,rfl,hS,hl,hHT,λb ys e=>(hA b _ e).elim (λz=>by rw[hHT b z]at e;cases e) (λ⟨_,_,_,_,z⟩=>nomatch z),λ_=>rfl⟩) λr s' h=>?_
  cases r with
  | error e=>exact False.elim h
  | ok fl=>
   cases fl with
   | next=>exact False.elim h
   | brk=>exact False.elim h
   | cont=>exact False.elim h
   | ret u=>
    obtain⟨v,H',os,bare,un,hok',r',q⟩:=h
    have q':v = .bl true:=q
    subst q'
    obtain rfl:u=Value.bool true:=r'
    have tab:∀ b∈ts.map (·.2),∃ ps,s'.heap.get? b=some (PySem.W.tabObj ps):=λb hb=>by
     obtain⟨more,z⟩:=un.tbls b _ (hHT b hb)
     exact⟨_,hok' b _ z⟩
    have keep:∀ b o,b ∉ ts.map (·.2)->s₁.heap.get? b=some o->s'.heap.get? b=some o:=λb o hb e=>by
     cases q:H b with
     | none=>exact un.keep b o e q (by intro z;exact absurd (show b∈([]:List Addr)from z) (by simp)) (by simp)
     | some u=>
      rcases hA b u q with z | ⟨_,_,ob,v,rfl⟩
      ·exact absurd z hb
      ·obtain⟨e1,_⟩:=hok b _ q
       obtain⟨e2,_⟩:=hok' b _ (un.frzs b ob _ q)
       rw[e]at e1;cases e1
       exact e2
    refine⟨rfl,⟨λb o e=>?_,λb o e=>?_⟩,os,bare⟩
    ·by_cases hb:b∈ts.map (·.2)
     ·obtain⟨ps,hP⟩:=tab b hb
      have e2:=hT b hb
      rw[e]at e2
      cases e2
      obtain⟨⟨c,T⟩,hq,rfl⟩:=eE hb
      exact .inr (.inl ⟨((PySem.W.codeHd_of_K KX (hts _ hq).1).tab (hT _ hb)).isCodeTable,rfl,#[],ps,rfl,by rw[Array.empty_append];exact hP⟩)
     ·exact .inl (keep b o hb e)
    ·by_cases hb:b∈ts.map (·.2)
     ·obtain⟨ps,hP⟩:=tab b hb
      exact⟨_,hP⟩
     ·exact⟨o,keep b o hb e⟩
 have tabOk:∀{H:Hp}{T:Addr},T∈ts.map (·.2)->ObjOk P w H s₁.heap T (.tbl #[]):=λh=>hT _ h
 cases hk:K.lookup a with
 | some o=>
  have e:=KX a o hk
  rw[ha]at e
  cases e
  refine core (λb=>if b∈ts.map (·.2)then some (.tbl #[])else none) (.inr ⟨_,vs.toArray,_,hk,rfl,rfl,rfl,by rw[WG,lenV];exact hl',by simpa using rv⟩) (λb u z=>?_) (λT h=>ZL h) λb u z=>?_
  ·by_cases hb:b∈ts.map (·.2)
   ·have z':=(ZL hb).symm.trans z
    cases z'
    exact tabOk hb
   ·have z':=(ZJ hb).symm.trans z
    cases z'
  ·by_cases hb:b∈ts.map (·.2)
   ·exact .inl hb
   ·have z':=(ZJ hb).symm.trans z
    cases z'
 | none=>
  refine core (λb=>if b=a then some (.frz { cls:=.type "list", data:=.seq vs.toArray } (.lst (ns.map V.int)))else if b∈ts.map (·.2)then some (.tbl #[])else none) (.inl (.inr ⟨{ cls:=.type "list", data:=.seq vs.toArray },ZL rfl⟩)) (λb u z=>?_) (λT h=>?_) λb u z=>?_
  ·by_cases hb:b=a
   ·have z':=(ZL hb).symm.trans z
    cases z'
    subst hb
    exact⟨ha,by rw[ZN];exact hl',vs,_,rv,ha⟩
   ·have z':=(ZJ hb).symm.trans z
    by_cases ht:b∈ts.map (·.2)
    ·have z2:=(ZL ht).symm.trans z'
     cases z2
     exact tabOk ht
    ·have z2:=(ZJ ht).symm.trans z'
     cases z2
  ·have hne:¬ T=a:=λz=>naT (z▸h)
   show(if T=a then _ else if T∈ts.map (·.2)then some (HO.tbl #[])else none)=_
   rw[ZJ hne]
   exact ZL h
  ·by_cases hb:b=a
   ·have z':=(ZL hb).symm.trans z
    cases z'
    exact .inr ⟨hb,hk,_,_,rfl⟩
   ·have z':=(ZJ hb).symm.trans z
    by_cases ht:b∈ts.map (·.2)
    ·exact .inl ht
    ·have z2:=(ZJ ht).symm.trans z'
     cases z2
def walkT{l:PySem.W.OpenLaw}{k:Nat}{q:Program}{loose:List Str}{XP:(Mg)->Heap->Prop}{YP:World->Heap->Prop}{d:DefRec}{K:Params->Fg}(ts:List (Addr×Addr))(hr:Room k callerA)(hn:l.most=some 63)(hdf:d.params.defaults=[])
  (hY:∀(w:World)(h:Heap),YP w h->(K w.params).In h) (hYT:∀(w:World)(h:Heap),YP w h -> ∀ T∈ts.map (·.2),h.get? T=some (PySem.W.tabObj #[]))
  (F:∀(w:World)(mg:Mg)(fa:Addr)(h:Heap),(K w.params).In h->h.Ns mainGlobals mg->mg d.name=some (.ref fa)->(∀ q∈ts,PySem.W.codeHdIn (K w.params) q.1 q.2=true/\(K w.params).lookup q.2=none) /\
   ∃ fd:FuncData,(∀(s:Shared)(u:Value),BindsTo s fd ⟨[u],[]⟩ [("_law_script", u)]) /\ ∀ base:Heap,(K w.params).In base->base.Ns mainGlobals mg->BMain mg base->FnOk l.prog w (K w.params) mg base CX0 k fa fd ["_law_script"] (q459 (K w.params) (ts.map (·.2)))) :
  PySem.W.WalkO q loose XP YP l.row.toRowW d [] (λf vs=>PySem.call f vs):=by
 refine Att.q750 hn hdf λw s₀ s₁ mg mb fa o pm cd doc a vs ns G Y ho hd hcd hmg hobj hints hlen hg=>?_
 have KX:=hY w _ Y
 obtain⟨hts,fd,hb,hF⟩:=F w mg fa _ KX G.T.g hmg
 obtain⟨bm,ob,b1,b2,b3,b4,b5,b6⟩:=G.T.bmain
 exact q705 KX G.T.g G.T.b G.T.builtins G.T.nolimit ⟨bm,ob,b1,b2,b3,b4,b5,b6⟩ hg hobj hints hlen hr hts (hYT w _ Y) hF hb
def law_mkT{P:Program}{w:World}{K:Fg}{mg:Mg}{k:Nat}{st:Stmt}{fa:Addr}{ts:List Addr}(d:Def K mg "law" st ["_law_script"])
  (F:∀(base:Heap)(f:Addr)(fd:FuncData),BMain mg base->Fun K "law" "law" st f fd->FnOk P w K mg base CX0 k f fd ["_law_script"] (q459 K ts)) (hmg:mg "law" = some (.ref fa)) :
  ∃ fd:FuncData,(∀(s:Shared)(u:Value),BindsTo s fd ⟨[u],[]⟩ [("_law_script", u)]) /\ ∀ base:Heap,K.In base->base.Ns mainGlobals mg->BMain mg base->FnOk P w K mg base CX0 k fa fd ["_law_script"] (q459 K ts):=by
 obtain⟨f,fd,h1,h2,h3⟩:=d.ex
 have e:=hmg.symm.trans h3
 cases e
 exact⟨fd,λs u=>.of_eq (h2 [u] rfl),λbase _ _ bm=>F base _ _ bm h1⟩
noncomputable def tVr(i:Nat):TE:=λσ H Q=>match σ[i]? with
 | some (some v)=>Q v H
 | _=>False
noncomputable def mI(g:Int->Int->V):R2:=λx y H Q=>match x,y with
 | .int i,.int j=>Q (g i j) H
 | _,_=>False
noncomputable def mTest(t:TE):TT:=λσ H Q=>t σ H λx H'=>match x with
 | .bl k=>Q k H'
 | _=>False
def tVr_of{i:Nat}(h:tVr i σ H Q):tVar i σ H Q:=by
 unfold tVr at h
 split at h
 ·rename_i v e
  exact⟨v,e,h⟩
 ·exact h.elim
def pr(i:Nat){pos:Pos}(hN:X.N[i]? = some x:=by rfl)(hv:Vis X.env.scope x:=by walk_at "b") (hd:(x==("__debug__" : Str))=false:=by decide)
  (hcd:(x==("__classdict__" : Str))=false:=by decide):PE X (.Name x pos) (tVr i):=λpins s σ H Q I h=>q644 hN hv hd hcd pins s σ H Q I (tVr_of h)
def mI_of(h:mI g x y H Q):rI0 g x y H Q:=by
 unfold mI at h
 split at h
 ·exact⟨_,_,rfl,rfl,h⟩
 ·exact h.elim
def OpR.m(o:OpR X op (rI0 g)):OpR X op (mI g):=λpins s σ H x y v u Q I rx ry h=>o pins s σ H x y v u Q I rx ry (mI_of h)
def om_add:OpR X (binaryOp .Add) (mI λi j=>.int (i+j)):=q29.m
def om_gt:OpR X (compareOp .Gt) (mI λi j=>.bl (decide (j<i))):=op_gt.m
def mTest_eq(t:TE):mTest t=tTest t:=by
 funext σ H Q
 show t σ H _=t σ H _
 congr 1
 funext x H'
 apply propext
 constructor
 ·intro h
  split at h
  ·exact⟨_,rfl,h⟩
  ·exact h.elim
 ·rintro ⟨k,rfl,h⟩
  exact h
section
variable{a b:Expr}{ta tb:TE}{pos:Pos}
def q409(ho:OpR X (compareOp op) r)(ha:PE X a ta)(hb:PE X b tb)(hm:behindInMarks op b=false):PT X (.Compare a [op] [b] pos) (mTest (tOp r ta tb)):=by
 rw[mTest_eq]
 exact q18 ho ha hb hm
end
noncomputable def mIxT(K:Fg):R2:=λx y H Q=>match x,y with
 | .ref p,.int i=>∃ xs v,SqT K H p xs/\atI xs i=some v/\Q v H
 | _,_=>False
noncomputable def mIxL(K:Fg):R2:=λx y H Q=>match x,y with
 | .ref p,.int i=>∃ xs v,SqL K H p xs/\atI xs i=some v/\Q v H
 | _,_=>False
def mIxT_of{K:Fg}{x y:V}{H:Hp}{Q:VK}(h:mIxT K x y H Q):rIxT K x y H Q:=by
 unfold mIxT at h
 split at h
 ·obtain⟨xs,v,h1,h2,h3⟩:=h
  exact⟨_,xs,_,v,rfl,rfl,h1,h2,h3⟩
 ·exact h.elim
def mIxL_of{K:Fg}{x y:V}{H:Hp}{Q:VK}(h:mIxL K x y H Q):rIxL K x y H Q:=by
 unfold mIxL at h
 split at h
 ·obtain⟨xs,v,h1,h2,h3⟩:=h
  exact⟨_,xs,_,v,rfl,rfl,h1,h2,h3⟩
 ·exact h.elim
section
variable {K:Fg}
def q308:IxR X (mIxT X.K):=λva sl pins s σ H x y v u Q I rx ry h hs=>q26 va sl pins s σ H x y v u Q I rx ry (mIxT_of h) hs
def mx_list:IxR X (mIxL X.K):=λva sl pins s σ H x y v u Q I rx ry h hs=>q32 va sl pins s σ H x y v u Q I rx ry (mIxL_of h) hs
def mx_tupK(hK:X.K=K):IxR X (mIxT K):=hK▸q308
end
def rNeQ(K:Fg):R2:=λx y H Q=>(∃ i j:Int,x = .int i/\y = .int j/\Q (.bl (!decide (i=j))) H) \/
  (∃(a b:Addr)(p q:Int×Int),x = .ref a/\y = .ref b/\H a=some (.tup [.int p.1,.int p.2])/\H b=some (.tup [.int q.1,.int q.2])/\Q (.bl (!decide (p=q))) H) \/
  (∃(a:Addr)(xs:List V),x = .ref a/\y = .non/\SqT K H a xs/\Q (.bl true) H) \/
  q573 K x y H Q
def op_neQ{K:Fg}(hK:X.K=K)(hu:X.A.units+64<cLine):OpR X (compareOp .NotEq) (rNeQ K):=by
 subst hK
 intro pins s σ H x y v u Q I rx ry h
 rcases h with ⟨i,j,rfl,rfl,q⟩ | ⟨a,b,p,r,rfl,rfl,ha,hb,q⟩ | ⟨a,xs,rfl,rfl,ha,q⟩ | h
 ·refine op_ne pins s σ H _ _ v u Q I rx ry ⟨rfl,?_⟩
  have e:(decide (V.int i=V.int j))=decide (i=j):=by
   by_cases c:i=j
   ·rw[c,ZA rfl,ZA rfl]
   ·rw[ZI c,ZI λz=>c (V.int.inj z)]
  rw[e]
  exact q
 ·cases rx
  cases ry
  obtain⟨its,r1,p1,_⟩:=I.tuple (SqT.of ha)
  obtain⟨its2,r2,p2,_⟩:=I.tuple (SqT.of hb)
  obtain⟨u0,u1,rfl,⟨t0,e0⟩,⟨t1,e1⟩⟩:=vals2 r1
  obtain⟨w0,w1,rfl,⟨t2,e2⟩,⟨t3,e3⟩⟩:=vals2 r2
  subst e0 e1 e2 e3
  have z:=SeqAt.RcNeAt.tuples (A:=X.A) (s:=s) (e:=λj=>if j=0 then p.1==r.1 else p.2==r.2) p1 p2 {} (λj h1 h2=>by
   match j,h1 with
   | 0,_=>exact SeqAt.EqAt.int_int p.1 t0 r.1 t2
   | 1,_=>exact SeqAt.EqAt.int_int p.2 t1 r.2 t3)
  refine z _ _ _ _ ⟨.bl (!decide (p=r)),H,I,?_,q⟩
  show Value.bool (!((p.1==r.1&&(p.2==r.2&&true))&&true))=Value.bool (!decide (p=r))
  congr 2
  rw[Bool.and_true,Bool.and_true]
  by_cases c:p=r
  ·rw[c,ZA rfl,beq_self_eq_true,beq_self_eq_true]
   rfl
  ·rw[ZI c]
   by_cases c1:p.1=r.1
   ·rw[show(p.2==r.2)=false from beq_eq_false_iff_ne.mpr λz=>c (Prod.ext c1 z),WL]
   ·rw[show(p.1==r.1)=false from beq_eq_false_iff_ne.mpr c1,WP]
 ·cases rx
  cases ry
  obtain⟨its,r1,p1,_⟩:=I.tuple ha
  exact SeqAt.RcNeAt.tuple_none p1 {} _ _ _ _ ⟨.bl true,H,I,rfl,q⟩
 ·exact op_nePs hu pins s σ H _ _ v u Q I rx ry h
end L2
namespace DL
open PySem PySem.Spec PyProof.Rows List
def q460:typeLookup (.type "list") "keys" = pure none:=by rw[typeLookup_type,builtinLookup_eq_fast];kernel_rfl
def q410:typeLookup (.type "list") "__getattr__" = pure none:=by rw[typeLookup_type,builtinLookup_eq_fast];kernel_rfl
def own_attr(args:List Value):ownMembersOf (.type "AttributeError") args = #[unsetMember,unsetMember]:=by
 unfold ownMembersOf
 split <;> first | rfl | (rename_i h;revert h;decide) | simp_all
def q411:((Manifest.find? "AttributeError").elim false λt=>t.mro.contains "StopIteration" || t.mro.contains "SystemExit")=false:=by decide +kernel
def q134:isSubtype (.type "AttributeError") (.type "AttributeError")=pure true:=by rw[isSubtype_type];kernel_rfl
section
variable {prog:Program}{w:World}{A:Around}{E:VS}{h:Heap}{g:Array GenState}{d:Drawn}{t:Nat}{os:OsState}{a:Addr}{its:Array Value}{n:Nat}
def q620{α:Type}{v nm o:Value}{Q:α->Shared->Prop}(hh:A.handled=none)(he:h.get? e=some { cls:=.type "AttributeError", data:=.fields #[v,.none,.none,.none,.bool false,.none,unsetMember,unsetMember] })
  (hq:∀ h',Heap.SameBut e h h'->(∃ ob,h'.get? e=some ob/\ob.cls = .type "AttributeError")->E (.ref e) ⟨h',g,d,t,os⟩) :
  wpAny (model prog w) A (noteAttr (.ref e) o nm >>= λ_=>(raiseNew (.ref e):Sem α)) Q E ⟨h,g,d,t,os⟩:=by
 have hT:(⟨h,g,d,t,os⟩:Shared).TypeIs (.ref e) "AttributeError" := ⟨_,he,rfl⟩
 have f5:=q134
 refine ZC ?_
 unfold noteAttr lacksNameAndObj
 repeat (any_goals (first | assumption | wp_step))
 unfold raiseNew
 refine ZC (wpAny_handled ?_)
 rw[hh]
 first
  | refine wpAny_throw ?_
  | refine ZC (ZM (wpAny_throw ?_))
 exact hq _ (Heap.SameBut.update ..) ⟨_,Heap.get?_update_self _ he (Obj.isFreed_of_fields (Obj.data_mapFields rfl _)),Obj.cls_mapFields _ _⟩
def q309{tk:Tok}{Q:Fin->Shared->Prop}(hh:A.handled=none)(hx:h.get? a=some { cls:=.type "list", data:=.seq its n }) (hq:∀ h' t' e,(∀ b o,h.get? b=some o->h'.get? b=some o)->(∃ ob,h'.get? e=some ob/\ob.cls = .type "AttributeError")->E (.ref e) ⟨h',g,d,t',os⟩) :
  wpAny (model prog w) A (Builtin.«object.__getattribute__» ⟨[.ref a,.str "keys" tk],[]⟩) Q E ⟨h,g,d,t,os⟩:=by
 have hT:(⟨h,g,d,t,os⟩:Shared).TypeIs (.ref a) "list" := ⟨_,hx,rfl⟩
 have f4:=q460
 repeat (any_goals (first | assumption | wp_step))
 generalize hm:(Str.ofString
      (toString "'" ++ toString ((Manifest.find? "list").elim "list" λx=>x.tpName) ++
       toString "' object has no attribute '") ++
     Str.ofString "keys" ++
    Str.ofString "'")=msg
 have hml:msg.length<=sizeLine:=by rw[<- hm];decide +kernel
 clear hm
 unfold raiseAttrError
 refine ZC (wpAny_mkStr (ZC ?_) hml)
 unfold newExc newTuple
 refine ZC (YB ?_ (by size_fits))
 refine ZC (m:=firstArgMember _ _) (wpAny_of_eq (a:=Value.none) (by simp only[firstArgMember,q411];rfl) ?_)
 rw[own_attr]
 refine YB ?_ (by size_fits)
 refine ZC (wpAny_mkText ?_)
 refine q620 hh (ZT _ rfl) λh' hs hob=>hq _ _ _ (λb o hb=>?_) hob
 have hlt:=ZW hb
 rw[hs.2 b (WE (WB hlt (by simp)))]
 exact ZE _ (ZE _ hb)
end
section
variable {prog:Program}{w:World}{A:Around}{E:VS}{h:Heap}{g:Array GenState}{d:Drawn}{t:Nat}{os:OsState}{a:Addr}{its:Array Value}{n:Nat}
def q335{tk:Tok}{R:Result->Shared->Prop}(hh:A.handled=none)(hx:h.get? a=some { cls:=.type "list", data:=.seq its n }) (hq:∀ h' t' e,(∀ b o,h.get? b=some o->h'.get? b=some o)->(∃ ob,h'.get? e=some ob/\ob.cls = .type "AttributeError")->R (.error (.ref e)) ⟨h',g,d,t',os⟩) :
  codeAny (model prog w) A (.call (.builtin "list.__getattribute__") ⟨[.ref a,.str "keys" tk],[]⟩) R ⟨h,g,d,t,os⟩:=
 codeAny_call_builtin F.slot_list_getattribute.plain F.entry_list_ga (F.slot_list_getattribute.check _ _ _ _ _ _ _ _ (show(⟨h,g,d,t,os⟩:Shared).TypeIs (.ref a) "list" from⟨_,hx,rfl⟩) (F.args_list_getattribute_2 _ _) (q309 hh hx hq))
def q461{tk:Tok}{Q:VS}(hh:A.handled=none)(hx:h.get? a=some { cls:=.type "list", data:=.seq its n }) (hq:∀ h' t' e,(∀ b o,h.get? b=some o->h'.get? b=some o)->(∃ ob,h'.get? e=some ob/\ob.cls = .type "AttributeError")->E (.ref e) ⟨h',g,d,t',os⟩) :
  wpAny (model prog w) A (getAttrBy (.ref a) (.str "keys" tk) false) Q E ⟨h,g,d,t,os⟩:=by
 have hT:(⟨h,g,d,t,os⟩:Shared).TypeIs (.ref a) "list" := ⟨_,hx,rfl⟩
 have f2:=F.slot_list_getattribute.lookup
 have f3:=F.slot_list_getattribute.bind (.ref a)
 have f4:=q410
 have f5:=q134
 repeat (any_goals (first | assumption | wp_step))
 refine q335 hh hx λh' t' e kp ⟨ob,ho,hc⟩=>?_
 have hT2:(⟨h',g,d,t',os⟩:Shared).TypeIs (.ref e) "AttributeError" := ⟨_,ho,hc⟩
 show wpAny (model prog w) A (getattributeRaised (.ref a) (.str "keys" tk) (.type "list") (.ref e) none false false) Q E _
 have hq':=hq h' t' e kp ⟨ob,ho,hc⟩
 clear hq
 unfold getattributeRaised hookBehind hookOrError attributeErrorLeaves
 repeat (any_goals (first | assumption | wp_step))
def q336{Q:Option Value->Shared->Prop}(hh:A.handled=none)(hx:h.get? a=some { cls:=.type "list", data:=.seq its n }) (hq:∀ h' t',(∀ b o,h.get? b=some o->h'.get? b=some o)->Q none ⟨h',g,d,t',os⟩) :
  wpAny (model prog w) A (getAttr? (.ref a) "keys") Q E ⟨h,g,d,t,os⟩:=by
 have f5:=q134
 unfold getAttr? getAttrBy?
 refine ZC (wpAny_mkText (ZC (wpAny_attempt (q461 hh hx λh' t' e kp ⟨ob,ho,hc⟩=>?_))))
 have hT2:(⟨h',g,d,t',os⟩:Shared).TypeIs (.ref e) "AttributeError" := ⟨_,ho,hc⟩
 have hq':=hq h' t' kp
 clear hq
 dsimp only
 repeat (any_goals (first | assumption | wp_step))
end
def q170:entryFor table "dict.update.loop" = some Builtin.«dict.update.loop»:=entryFor_of_tree (by kernel_rfl)
def Kpt(h0 h:Heap):Prop:=∀ b o,h0.get? b=some o->h.get? b=some o
section
variable {prog:Program}{w:World}{A:Around}{h0:Heap}
def q462{h h':Heap}{i:Nat}(hd:h.DictOfH (tupleKind (L2.q116 prog w)) dct xs)(hit:h.IsListIter it p i)(hne:it≠dct)(e:∀ b o,b≠it->h.get? b=some o->h'.get? b=some o):h'.DictOfH (tupleKind (L2.q116 prog w)) dct xs:=by
 obtain⟨o,es,ep,ho,hc,hdd,he,his,hn⟩:=hd
 refine⟨o,es,ep,e _ _ (Ne.symm hne) ho,hc,hdd,he,λx hx=>?_,hn⟩
 obtain⟨ok,its,n,h1,h2,h3,h4⟩:=his x hx
 refine⟨ok,its,n,e _ _ (λz=>?_) h1,h2,h3,h4⟩
 obtain⟨oi,hi1,hi2,_⟩:=hit
 rw[z,hi1]at h1
 cases h1
 rw[hi2]at h2
 exact absurd h2 ∅
noncomputable def PairR(prog:Program)(w:World)(h0:Heap)(x:Value)(q:List L2.Key×Addr×Value):Prop:=∃ a,x = .ref a /\ ∀ h,Kpt h0 h->PyProof.Rows.IsTup h a #[.ref q.2.1,q.2.2]/\(tupleKind (L2.q116 prog w)).is h q.1 q.2.1
def q621(xs:List (List L2.Key×Addr×Value))(k:List L2.Key)(a:Addr)(v:Value):(storedH xs k a v).length<=xs.length+1:=by
 unfold storedH
 split <;> simp
theorem upd_loop{items:List Value}(hu:A.units+1<cLine)(hh:A.handled=none) :
  ∀(rest:List (List L2.Key×Addr×Value)) (i:Nat) (xs:List (List L2.Key×Addr×Value)) (s:Shared),Paired (PairR prog w h0) (items.drop i) rest->h0.objs.size<=it->h0.objs.size<=dct->it≠dct->p<h0.objs.size ->
  (∀ h,Kpt h0 h->h.IsList p items.toArray)->Kpt h0 s.heap->s.heap.IsListIter it p i->s.heap.DictOfH (tupleKind (L2.q116 prog w)) dct xs->xs.length+rest.length<=sizeLine ->
  (∀ h' t',Kpt h0 h'->h'.DictOfH (tupleKind (L2.q116 prog w)) dct (rest.foldl (λxs q=>storedH xs q.1 q.2.1 q.2.2) xs)->R (.ok (.ret .none)) { s with heap:=h',toks:=t' }) ->
  codeAny (model prog w) A (.builtin "dict.update.loop" ⟨[.ref dct,.ref it,rawInt i,.none],[]⟩) R s:=by
 intro rest
 induction rest with
 | nil=>
  intro i xs s hp hi hd hne hpl hl kp hit hdd hz q
  have hn:items.toArray[i]? = none:=by
   have:=hp.length
   rw[length_drop]at this
   simp only[getElem?_toArray]
   exact getElem?_eq_none (Nat.le_of_sub_eq_zero (by simpa using this))
  refine codeAny_builtin q170 ?_
  unfold Builtin.«dict.update.loop»
  refine ZC (wpAny_pyNext_list_end hh hit (hl _ kp) hn λh' hs=>?_)
  refine ZC (ZM (ZM ?_))
  exact q h' s.toks (λb o hb=>hs b o (WE (WB (ZW hb) hi)) (kp b o hb)) (q462 hdd hit hne λb o hb z=>hs b o hb z)
 | cons r rest ih=>
  intro i xs s hp hi hd hne hpl hl kp hit hdd hz q
  obtain⟨x,hx,hxr,hrest⟩:∃ x,items.toArray[i]? = some x/\PairR prog w h0 x r/\Paired (PairR prog w h0) (items.drop (i+1)) rest:=by
   cases e:items.drop i with
   | nil=>rw[e]at hp;cases hp
   | cons x l=>
    rw[e]at hp
    cases hp with
    | cons h1 h2=>
     have hlt:i<items.length:=by
      have:=congrArg List.length e
      rw[length_drop,WT]at this
      lia
     rw[drop_eq_getElem_cons hlt]at e
     cases e
     exact⟨_,by simp[hlt],h1,h2⟩
  obtain⟨a,rfl,hk⟩:=hxr
  refine codeAny_builtin q170 ?_
  unfold Builtin.«dict.update.loop»
  refine ZC (wpAny_pyNext_list_item hit (hl _ kp) hx λh' hit' hs=>?_)
  have kp':Kpt h0 h':=λb o hb=>by rw[hs.2 b (WE (WB (ZW hb) hi))];exact kp b o hb
  obtain⟨⟨ot,ht,hc,n,htd⟩,hkey⟩:=hk h' kp'
  have hT:({ s with heap:=h' }:Shared).TypeIs (.ref a) "tuple" := ⟨_,ht,hc⟩
  refine ZC (YW (ZC (wpAny_tryCatch ?_)))
  unfold Builtin.Dict.pairItems
  refine ZC (wpAny_typeOf hT ?_)
  rw[ZL ∅]
  refine ZC (wpAny_seqItems ht htd (ZM ?_))
  have hdd':h'.DictOfH (tupleKind (L2.q116 prog w)) dct xs:=q462 hdd hit hne λb o hb z=>by rw[hs.2 b hb];exact z
  refine YW (wpAny_dictSet_heap (hsz:=by simp only[WT]at hz;lia) (tupleKind_room_in1 (by exact hu)) hkey hdd' λh2 hd2 hs2=>?_)
  refine ZM ⟨Code.quiet_builtin _ (by decide +kernel),?_⟩
  have kp2:Kpt h0 h2:=λb o hb=>by rw[hs2.2 b (WE (WB (ZW hb) hd))];exact kp' b o hb
  refine ih (i+1) _ _ hrest hi hd hne hpl hl kp2 (hit'.at λo hb=>by rw[hs2.2 _ hne];exact hb) hd2 ?_ q
  have:=q621 xs r.1 r.2.1 r.2.2
  simp only[WT]at hz
  lia
def q337{s:Shared}{items:List Value}{n:Nat}{rest:List (List L2.Key×Addr×Value)}{E:VS}{Q:VS}(hu:A.units+64<cLine)(hh:A.handled=none)
  (hx:s.heap.get? p=some { cls:=.type "list", data:=.seq items.toArray n }) (hp:Paired (PairR prog w s.heap) items rest) (hz:rest.length<=sizeLine)
  (q:∀ h' t',Kpt s.heap h'->h'.DictOfH (tupleKind (L2.q116 prog w)) s.heap.objs.size (rest.foldl (λxs q=>storedH xs q.1 q.2.1 q.2.2) [])->Q (.ref s.heap.objs.size) { s with heap:=h',toks:=t' }) :
  wpAny (model prog w) A (call (.type "dict") [.ref p]) Q E s:=by
 refine callType_codes (Q₁:=λobj s₁=>obj = .ref s.heap.objs.size/\s₁ = { s with heap:=s.heap.push { cls:=.type "dict", data:=.dict #[] } }) F.kt_called_dict (F.kt_typeCall_dict_1 _) F.entry_dict_init (kt_code_dict_new _ ⟨rfl,rfl⟩) ?_
 rintro obj s₁ ⟨rfl,rfl⟩
 have hnew:(s.heap.push { cls:=.type "dict", data:=.dict #[] }).DictOfH (tupleKind (L2.q116 prog w)) s.heap.objs.size []:=⟨_,#[],0,ZT _ rfl,⟨rfl,rfl,rfl⟩,rfl,rfl,λx hx=>absurd hx (by simp),nodup_nil⟩
 have hT:({ s with heap:=s.heap.push { cls:=.type "dict", data:=.dict #[] } }:Shared).TypeIs (.ref s.heap.objs.size) "dict" := ⟨_,ZT _ rfl,rfl⟩
 have hx1:=ZE { cls:=.type "dict", data:=.dict #[] } hx
 have hT1:({ s with heap:=s.heap.push { cls:=.type "dict", data:=.dict #[] } }:Shared).TypeIs (.ref p) "list" := ⟨_,hx1,rfl⟩
 exists hT,F.args_dict_init_2 _ _
 unfold Builtin.«dict.__init__»
 refine ZC ?_
 unfold Builtin.Dict.selfAndRest
 refine ZC (wpAny_notOrdered_dict hT ?_)
 show wpAny _ _ (pure (s.heap.objs.size,[Value.ref p])) _ _ _
 refine ZM ?_
 show wpAny _ _ (Builtin.Dict.updateFrom "dict.__init__" s.heap.objs.size (.ref p) [] .none) _ _ _
 unfold Builtin.Dict.updateFrom
 refine ZC (wpAny_typeOf hT1 ?_)
 rw[ZL ∅]
 refine ZC (q336 (by exact hh) hx1 λh' t' kp=>?_)
 rw[ZL (by rfl)]
 refine ZC (wpAny_rule (ZC (wpAny_pyIter_list ⟨_,kp _ _ hx1,rfl,_,rfl⟩ ?_)))
 refine ZM ⟨Code.quiet_builtin _ (by decide +kernel),?_⟩
 obtain⟨o,es,ep,ho,hc,hd,he,_,hn⟩:=hnew
 have hlt:s.heap.objs.size<h'.objs.size:=ZW (kp _ _ ho)
 refine upd_loop (h0:=s.heap) (items:=items) (p:=p) (show A.in1.units+1<cLine from Nat.lt_of_le_of_lt (show A.units+1+1<=A.units+64 by lia) hu) (by exact hh) rest 0 [] _ (by rw[drop_zero];exact hp) (Nat.le_of_lt hlt) (ZH _) (Nat.ne_of_gt hlt) (ZW hx)
  (λh k=>⟨_,k _ _ hx,rfl,_,rfl⟩) (λb o hb=>ZE _ (kp b o (ZE _ hb))) ⟨_,ZT _ rfl,rfl,rfl⟩ ⟨o,es,ep,ZE _ (kp _ _ ho),hc,hd,he,λx hx=>absurd hx (by simp),hn⟩ (by simpa using hz) λh2 t2 k2 d2=>⟨rfl,q h2 t2 k2 d2⟩
end
end DL
namespace L2
open PySem PySem.Spec PyProof.Rows DL
variable {X:Cx}
noncomputable abbrev wk(v:List Int):List Key:=v.map Sum.inl
def wk_kV(v:List Int):(wk v).map kV=v.map V.int:=by rw[List.map_map];rfl
def PTr(H:Hp)(z:V)(k:List Int):Prop:=∃ a b,z = .ref a/\H a=some (.tup [.ref b,.bl true])/\H b=some (.tup (k.map V.int))
noncomputable def dTr(ks:LL):List (List Key×V):=ks.foldl (λacc k=>putK acc (wk k) (.bl true)) []
inductive q526(xs:List V)(H:Hp)(Q:VK):Prop
 |mk(p:Addr)(zs:List V)(ks:LL)(_:xs=[.ref p])(_:H p=some (.lst zs))(_:Paired (PTr H) zs ks)(_:∀ d,H d=none->Q (.ref d) (upd H d (.dT (dTr ks))))
theorem q706{H:Hp}:∀{ks:LL} {rest:List (List Key×Addr×Value)},Paired (λ(k:List Int) q=>q.1=wk k/\H q.2.1=some (.tup ((wk k).map kV))/\q.2.2 = .bool true) ks rest -> ∀{kvs xs},KT H kvs xs ->
  KT H (ks.foldl (λacc k=>putK acc (wk k) (.bl true)) kvs) (rest.foldl (λxs q=>storedH xs q.1 q.2.1 q.2.2) xs)
 | _,_,.nil,_,_,r=>r
 | _,_,.cons h t,_,_,r=>q706 t (by dsimp only;rw[h.1,h.2.2];exact r.put _ h.2.1 rfl)
theorem q574:∀(ks:LL) (acc:List (List Key×V)),(ks.foldl (λacc k=>putK acc (wk k) (.bl true)) acc).length<=acc.length+ks.length
 | [],_=>ZH _
 | k::ks,acc=>by
  have h:=q574 ks (putK acc (wk k) (.bl true))
  have h2:=q515 acc (wk k) (.bl true)
  rw[List.foldl_cons,List.length_cons]
  exact W50 h h2
def q622(hc:X.calm=true)(hu:X.A.units+64<cLine):CallR X (.type "dict") q526:=by
 intro pins s σ H xs us Q I r h
 obtain⟨p,zs,ks,rfl,hp,hP,q⟩:=h
 obtain⟨u,rfl,ru⟩:=r.one
 cases ru
 obtain⟨z,its,n,rv,hx⟩:=(show ObjOk X.prog X.w H s.heap p (.lst zs)from I.hok p _ hp)
 obtain⟨rest,h1,h2⟩:∃ rest:List (List Key×Addr×Value),Paired (PairR X.prog X.w s.heap) its rest/\Paired (λ(k:List Int) q=>q.1=wk k/\H q.2.1=some (.tup ((wk k).map kV))/\q.2.2 = .bool true) ks rest:=by
  clear q hx z hp
  induction hP generalizing its with
  | nil=>cases rv;exact⟨[],.nil,.nil⟩
  | @cons zv k zs' ks' hz t ih=>
   cases rv with
   | @cons _ u _ us rz rt=>
    obtain⟨rest,h1,h2⟩:=ih us rt
    obtain⟨a,b,rfl,ha,hb⟩:=hz
    cases rz
    obtain⟨_,it2,r2,ht⟩:=(show ObjOk X.prog X.w H s.heap a (.tup [.ref b,.bl true])from I.hok a _ ha)
    have hb':H b=some (.tup ((wk k).map kV)):=by rw[wk_kV];exact hb
    obtain⟨ok,its3,n3,e1,e2,e3,e4⟩:=q664 (P:=X.prog) (w:=X.w) I.hok hb'
    refine⟨(wk k,b,.bool true)::rest,.cons ⟨a,rfl,λh kp=>⟨?_,ok,its3,n3,kp _ _ e1,e2,e3,e4⟩⟩ h1,.cons ⟨rfl,hb',rfl⟩ h2⟩
    obtain⟨o,t1,t2,n,t3⟩:=ht
    exists o,kp _ _ t1,t2,n
    rw[t3]
    cases r2 with
    | cons ra rr=>cases rr with
     | cons rb rr2=>
      cases rr2
      cases ra
      cases rb
      rfl
 have hl:rest.length=ks.length:=h2.length.symm
 have hl2:zs.length=ks.length:=hP.length
 refine q337 hu (I.ok.hd hc) hx h1 (by rw[hl,<- hl2];exact z) λh' t' kp dd=>?_
 have fr:H s.heap.objs.size=none:=I.hok.fresh (ZH _)
 have hle:=q574 ks []
 obtain⟨o,es,ep,e1,e2,e3,e4,_,e5⟩:=dd
 refine⟨.ref s.heap.objs.size,_,I.laidM (t':=t') kp (λb u hb=>by rw[q27 (q25 hb fr)];exact hb) (λb u hb hn=>by rw[q27 (WE (ZW hb))];exact hn) (λb u e hn=>?_),rfl,q _ fr⟩
 by_cases c:b=s.heap.objs.size
 ·subst c
  rw[q12]at e
  cases e
  refine⟨by show(dTr ks).length<=_;unfold dTr;simp only[List.length_nil]at hle;lia,?_,_,(q706 h2 .nil).keeps λb ys hb=>by rw[q27 (q25 hb fr)];exact hb,o,es,ep,e1,e2,e3,e4,e5⟩
  exact beq_false_of_ne (Nat.ne_of_gt I.big)
 ·rw[q27 c,hn]at e
  cases e
inductive q623(x y:V)(H:Hp)(Q:VK):Prop
 |mk(a b:Addr)(ks:List (List Key×V))(k:List Int)(_:x = .ref b)(_:y = .ref a)(_:H a=some (.dT ks))(_:H b=some (.tup (k.map V.int)))(_:Q (.bl (!(valV ks (wk k)).isSome)) H)
def q707(hu:X.A.units+64<cLine):OpR X (compareOp .NotIn) q623:=by
 intro pins s σ H x y v u Q I rx ry h
 obtain⟨a,b,ks,k,rfl,rfl,ha,hb,q⟩:=h
 cases ry
 refine d_notIn (o:=valV ks (wk k)) (Nat.lt_of_le_of_lt {} hu) I (.t ha (by rw[wk_kV];exact hb)) rx λs' I'=>⟨.bl _,H,I',rfl,q⟩
def val_put(acc:List (List Key×V))(k j:List Key)(v:V):(valV (putK acc k v) j).isSome=(decide (k=j)||(valV acc j).isSome):=by
 unfold valV putK
 by_cases c:(acc.any λkv=>decide (kv.1=k))=true
 ·rw[ZL c,List.find?_map,Option.map_map,Option.isSome_map,Option.isSome_map]
  have e:((λkv:List Key×V=>decide (kv.1=j))∘λkv:List Key×V=>if kv.1=k then(kv.1,v)else kv)=λkv=>decide (kv.1=j):=by
   funext kv
   show decide ((if kv.1=k then(kv.1,v)else kv).1=j)=_
   by_cases d:kv.1=k
   ·rw[ZL d]
   ·rw[ZJ d]
  rw[e]
  by_cases d:k=j
  ·subst d
   rw[ZA rfl,Bool.true_or,List.find?_isSome]
   obtain⟨kv,h1,h2⟩:=List.any_eq_true.mp c
   exact⟨kv,h1,h2⟩
  ·rw[ZI d,Bool.false_or]
 ·rw[ZJ c,List.find?_append,Option.isSome_map,Option.isSome_map]
  cases h:acc.find? λkv=>decide (kv.1=j) with
  | some kv=>simp
  | none=>
   rw[Option.none_or]
   by_cases d:k=j
   ·subst d
    simp
   ·simp[d]
def dTr_is(ks:LL)(j:List Int):(valV (dTr ks) (wk j)).isSome=decide (j∈ks):=by
 have go:∀(ks:LL) (acc:List (List Key×V)),(valV (ks.foldl (λacc k=>putK acc (wk k) (.bl true)) acc) (wk j)).isSome=(decide (j∈ks)||(valV acc (wk j)).isSome):=by
  intro ks
  induction ks with
  | nil=>intro acc;simp
  | cons k ks ih=>
   intro acc
   rw[List.foldl_cons,ih,val_put]
   by_cases d:k=j
   ·subst d
    simp
   ·have d':¬ wk k=wk j:=λz=>d ((List.map_inj_right (λa b h=>Sum.inl.inj h)).mp z)
    have d2:¬ j=k:=λz=>d z.symm
    simp[d',d2]
 unfold dTr
 rw[go ks []]
 show(_||(valV ([]:List (List Key×V)) (wk j)).isSome)=_
 rw[show(valV ([]:List (List Key×V)) (wk j)).isSome=false from rfl,Bool.or_false]
def pfn(c:Cal X.prog X.w X.K X.mg X.base k x ps sp)(hr:Room j X.A)(ha:PA X (e::es) t)(hk:k<=j:=by decide)(hg:Gl X x:=by rfl)(hdb:(x==("__debug__":Str))=false:=by decide)(he:starEach (e::es) X.env=(false,eval e X.env)::starEach es X.env:=by rfl)(hpl:(backTo pos (starEach es X.env)).any (·.1)=false:=by rfl):PE X (.Call (.Name x p) (e::es) [] pos) (tCall sp [] E0 t):=pe_fn c (hr.m hk) hg ha hdb he hpl
def pa1(h0:PE X e t0)(s0:starEach [e] X.env=(false,eval e X.env)::starEach [] X.env:=by rfl):PA X [e] (tCons t0 tNil):=q10 h0 q13 s0
def pa2(h0:PE X e t0)(h1:PE X f t1)(s0:starEach [e,f] X.env=(false,eval e X.env)::starEach [f] X.env:=by rfl)(s1:starEach [f] X.env=(false,eval f X.env)::starEach [] X.env:=by rfl):PA X [e,f] (tCons t0 (tCons t1 tNil)):=q10 h0 (q10 h1 q13 s1) s0
def pa3(h0:PE X e t0)(h1:PE X f t1)(h2:PE X g t2)(s0:starEach [e,f,g] X.env=(false,eval e X.env)::starEach [f,g] X.env:=by rfl)(s1:starEach [f,g] X.env=(false,eval f X.env)::starEach [g] X.env:=by rfl)(s2:starEach [g] X.env=(false,eval g X.env)::starEach [] X.env:=by rfl):PA X [e,f,g] (tCons t0 (tCons t1 (tCons t2 tNil))):=q10 h0 (q10 h1 (q10 h2 q13 s2) s1) s0
def pa4(h0:PE X e t0)(h1:PE X f t1)(h2:PE X g t2)(h3:PE X h t3)(s0:starEach [e,f,g,h] X.env=(false,eval e X.env)::starEach [f,g,h] X.env:=by rfl)(s1:starEach [f,g,h] X.env=(false,eval f X.env)::starEach [g,h] X.env:=by rfl)(s2:starEach [g,h] X.env=(false,eval g X.env)::starEach [h] X.env:=by rfl)(s3:starEach [h] X.env=(false,eval h X.env)::starEach [] X.env:=by rfl):PA X [e,f,g,h] (tCons t0 (tCons t1 (tCons t2 (tCons t3 tNil)))):=q10 h0 (q10 h1 (q10 h2 (q10 h3 q13 s3) s2) s1) s0
end L2
namespace My
set_option hygiene false in
local macro_rules|`(tactic|specialize $t)=>`(tactic|refine ($t).cal λf fd F=>F.k sc λ_ _ _ s H _ Q _ hr h=>?_)
local macro_rules|`(tactic|ac_rfl)=>`(tactic|with_unfolding_all rfl)
local macro_rules(kind:=Lean.Parser.Term.tuple)|`(())=>`(by rfl)
open PySem L2 List
abbrev pn0:List Str:=["bounds", "gathering", "number"]
abbrev pn1:List Str:=["_law_pen", "_law_bounds_here", "_law_greatest"]
abbrev pn2:List Str:=["_law_pen", "_law_low", "_law_levels", "_law_worths", "_law_goal_here", "_law_bar"]
abbrev pn3:List Str:=["_law_bounds_here", "_law_gathering_here", "_law_paper", "_law_ask_here"]
abbrev pn4:List Str:=["bounds", "gathering", "k"]
abbrev pn5:List Str:=["_law_pen", "_law_bounds_here", "_law_worths", "_law_ask_here"]
abbrev pn6:List Str:=["_law_bounds_here", "_law_gathering_here", "_law_ask_here"]
abbrev pn7:List Str:=["bounds", "gathering"]
abbrev pn8:List Str:=["bounds", "gathering", "paper", "number", "many"]
abbrev pn9:List Str:=["bounds", "gathering", "paper", "number", "told"]
abbrev pn10:List Str:=["bounds", "gathering", "paper", "worth", "many"]
abbrev pn11:List Str:=["bounds", "gathering", "paper", "part", "told"]
abbrev pn12:List Str:=["_law_pen", "_law_bounds_here", "_law_worths"]
abbrev pn13:List Str:=["bounds", "gathering", "paper", "k", "worth"]
abbrev pn14:List Str:=["_law_low", "_law_levels", "_law_row_here"]
abbrev pn15:List Str:=["least", "many", "parts", "part", "floor"]
abbrev pn16:List Str:=["bounds", "number"]
abbrev pn17:List Str:=["gathering", "way"]
abbrev pn18:List Str:=["least", "many", "parts", "must_split"]
abbrev pn19:List Str:=["bounds", "gathering", "must_split"]
noncomputable def top(i:Nat):Stmt:=PySem.Challenge.pw_manyleast_k40_whole_told_papers_lie_with.main.body.getD i (.Pass ⟨0,0,0,0⟩)
noncomputable abbrev q375:Stmt:=top 5
noncomputable abbrev q207:Stmt:=top 6
noncomputable abbrev q575:Stmt:=top 7
noncomputable abbrev q708:Stmt:=top 8
noncomputable abbrev q463:Stmt:=top 9
noncomputable abbrev q576:Stmt:=top 10
noncomputable abbrev q709:Stmt:=top 12
noncomputable abbrev q376:Stmt:=top 13
noncomputable abbrev q464:Stmt:=top 15
noncomputable abbrev q465:Stmt:=top 16
noncomputable abbrev q466:Stmt:=top 17
noncomputable abbrev q310:Stmt:=top 19
noncomputable abbrev q412:Stmt:=top 20
noncomputable abbrev s_led:Stmt:=top 21
noncomputable abbrev q208:Stmt:=top 22
noncomputable abbrev q577:Stmt:=top 23
noncomputable abbrev q311:Stmt:=top 25
noncomputable abbrev q256:Stmt:=top 26
noncomputable abbrev q312:Stmt:=top 27
noncomputable abbrev q209:Stmt:=top 28
noncomputable abbrev q710:Stmt:=top 29
noncomputable abbrev q313:Stmt:=top 31
noncomputable abbrev s_most:Stmt:=top 32
noncomputable abbrev q154:Stmt:=top 33
noncomputable abbrev q467:Stmt:=top 35
noncomputable abbrev q210:Stmt:=top 36
noncomputable abbrev q211:Stmt:=top 38
noncomputable abbrev q212:Stmt:=top 39
noncomputable abbrev q257:Stmt:=top 40
noncomputable abbrev q213:Stmt:=top 41
noncomputable abbrev q377:Stmt:=top 42
noncomputable abbrev q258:Stmt:=top 43
noncomputable abbrev q259:Stmt:=top 44
noncomputable abbrev q711:Stmt:=top 46
noncomputable abbrev q468:Stmt:=top 47
noncomputable abbrev q314:Stmt:=top 48
noncomputable abbrev q378:Stmt:=top 49
noncomputable abbrev q171:Stmt:=top 50
noncomputable abbrev q214:Stmt:=top 51
noncomputable abbrev q215:Stmt:=top 52
noncomputable abbrev q216:Stmt:=top 53
noncomputable abbrev q135:Stmt:=top 54
noncomputable abbrev q260:Stmt:=top 55
noncomputable abbrev q217:Stmt:=top 56
noncomputable abbrev q164:Stmt:=top 57
noncomputable abbrev q315:Stmt:=top 59
noncomputable abbrev q316:Stmt:=top 60
noncomputable abbrev q218:Stmt:=top 61
noncomputable abbrev q240:Stmt:=top 62
noncomputable abbrev q104:Stmt:=top 63
noncomputable abbrev q39:Stmt:=top 64
noncomputable abbrev q136:Stmt:=top 65
noncomputable abbrev q137:Stmt:=top 66
noncomputable abbrev q195:Stmt:=top 67
noncomputable abbrev q317:Stmt:=top 68
noncomputable abbrev q261:Stmt:=top 69
noncomputable abbrev q73:Stmt:=top 70
noncomputable abbrev q138:Stmt:=top 71
noncomputable abbrev q318:Stmt:=top 72
noncomputable abbrev s_law:Stmt:=top 73
def q527:FnScope ["thing"] ["thing"] (q17 q375):=fsc
def q338:FnScope ["levels", "many", "level"] ["levels"] (q17 q207):=fsc
def q712:FnScope ["bounds"] ["bounds"] (q17 q575):=fsc
def sc_where:FnScope pn16 pn16 (q17 q708):=fsc
def q624:FnScope ["bounds", "way", "least", "many", "turn"] ["bounds", "way"] (q17 q463):=fsc
def q713:FnScope (pn16.append ["least", "many", "way", "level"]) pn16 (q17 q576):=fsc
def sc_ahead:FnScope ["marks", "mark", "place"] ["marks", "mark", "place"] (q17 q709):=fsc
def q528:FnScope ["marks", "mark", "number", "left", "place", "other"] ["marks", "mark", "number"] (q17 q376):=fsc
def q625:FnScope ["thing", "word"] ["thing", "word"] (q17 q464):=fsc
def q626:FnScope ["tree", "mark"] ["tree", "mark"] (q17 q465):=fsc
def q627:FnScope ["tree"] ["tree"] (q17 q466):=fsc
def q628:FnScope ["gathering"] ["gathering"] (q17 q310):=fsc
def q714:FnScope ["gathering"] ["gathering"] (q17 q412):=fsc
def sc_led:FnScope pn17 pn17 (q17 s_led):=fsc
def q339:FnScope ["stretch", "way", "part", "start", "end", "turn", "half"] ["stretch", "way"] (q17 q208):=fsc
def q715:FnScope ["tree", "way", "place", "inner"] ["tree", "way", "place"] (q17 q577):=fsc
def q469:FnScope (pn4.append ["way", "alike"]) pn4 (q17 q311):=fsc
def q413:FnScope ["levels", "gathering", "k", "way", "parts", "left", "level", "lower", "turn"] ["levels", "gathering", "k"] (q17 q256):=fsc
def q470:FnScope ["gathering", "way", "number", "parts", "left", "j"] ["gathering", "way", "number"] (q17 q312):=fsc
def q340:FnScope (pn17.append ["many", "parts", "turn"]) pn17 (q17 q209):=fsc
def sc_below:FnScope (pn0.append ["side"]) pn0 (q17 q710):=fsc
def q471:FnScope pn7 pn7 (q17 q313):=fsc
def sc_most:FnScope (pn7.append ["best", "counted"]) pn7 (q17 s_most):=fsc
def q277:FnScope (pn15.append ["things", "half", "lower", "upper"]) pn15 (q17 q154):=fsc
def q629:FnScope (pn0.append ["k"]) pn0 (q17 q467):=fsc
def q341:FnScope (pn4.append ["way"]) pn4 (q17 q210):=fsc
def q342:FnScope pn0 pn0 (q17 q211):=fsc
def q343:FnScope (pn4.append ["worth"]) pn4 (q17 q212):=fsc
def q414:FnScope (pn7.append ["found", "worth", "many", "must_split"]) pn7 (q17 q257):=fsc
def q344:FnScope ["bounds", "gathering", "part", "whole"] ["bounds", "gathering", "part"] (q17 q213):=fsc
def q529:FnScope (pn0.append ["found", "must_split"]) pn0 (q17 q377):=fsc
def q415:FnScope pn19 pn19 (q17 q258):=fsc
def q416:FnScope (pn18.append ["things", "half", "lower", "upper"]) pn18 (q17 q259):=fsc
def sc_keeps:FnScope ["levels", "gathering", "paper"] ["levels", "gathering", "paper"] (q17 q711):=fsc
def q630:FnScope ["levels", "parts", "thing", "turn"] ["levels", "parts", "thing"] (q17 q468):=fsc
def q472:FnScope ["thing"] ["thing"] (q17 q314):=fsc
def q530:FnScope ["thing"] ["thing"] (q17 q378):=fsc
def q319:FnScope ["bounds", "paper"] ["bounds", "paper"] (q17 q171):=fsc
def q345:FnScope ["least", "many", "paper", "half"] ["least", "many", "paper"] (q17 q214):=fsc
def q346:FnScope ["closed", "worth", "least", "greatest", "many"] ["closed", "worth"] (q17 q215):=fsc
def q347:FnScope (pn8.append ["together", "least", "greatest", "things"]) pn8 (q17 q216):=fsc
def q348:FnScope (pn13.append ["closed", "alike", "lesser"]) pn13 (q17 q135):=fsc
def q417:FnScope (pn10.append ["closed", "least", "greatest", "things"]) pn10 (q17 q260):=fsc
def q349:FnScope (pn11.append ["found", "least", "greatest", "things"]) pn11 (q17 q217):=fsc
def q531:FnScope (pn9.append ["closed", "above", "worth"]) pn9 (q17 q164):=fsc
def q473:FnScope ["_law_script", "_law_k", "_law_number"] ["_law_script", "_law_k"] (q17 q315):=fsc
def q474:FnScope ["_law_pen", "_law_size", "_law_found", "_law_cell_here", "_law_number"] ["_law_pen", "_law_size"] (q17 q316):=fsc
def q350:FnScope ["_law_pen", "_law_levels", "_law_way"] ["_law_pen"] (q17 q218):=fsc
def q532:FnScope (pn1.append ["_law_size", "_law_many", "_law_way", "_law_few", "_law_row_here", "_law_k"]) pn1 (q17 q240):=fsc
def q475:FnScope (pn14.append ["_law_half", "_law_marks", "_law_lower"]) pn14 (q17 q104):=fsc
def q241:FnScope (pn1.append ["_law_rows", "_law_trees", "_law_gathering_here", "_law_things", "_law_j", "_law_at", "_law_start", "_law_end"]) pn1 (q17 q39):=fsc
def q476:FnScope (pn2.append ["_law_many", "_law_to_goal", "_law_half", "_law_lower", "_law_upper"]) pn2 (q17 q136):=fsc
def q351:FnScope ["_law_worths"] ["_law_worths"] (q17 q137):=fsc
def q477:FnScope ["_law_paper", "_law_found", "_law_mark"] ["_law_paper"] (q17 q195):=fsc
def q478:FnScope (pn6.append ["_law_word", "_law_number", "_law_told_here"]) pn6 (q17 q317):=fsc
def q418:FnScope (pn3.append ["_law_word", "_law_number", "_law_told_here"]) pn3 (q17 q261):=fsc
def q533:FnScope (pn12.append ["_law_counts_here", "_law_way", "_law_number", "_law_k", "_law_greatest", "_law_part"]) pn12 (q17 q73):=fsc
def q352:FnScope (pn5.append ["_law_word", "_law_number", "_law_told_here", "_law_worth", "_law_some"]) pn5 (q17 q138):=fsc
def q479:FnScope ["_law_ask_here", "_law_word", "_law_number", "_law_told_here"] ["_law_ask_here"] (q17 q318):=fsc
def sc_law:FnScope ["_law_script", "_law_pen", "_law_bounds_here", "_law_gathering_here", "_law_things", "_law_worths", "_law_ask_here", "_law_paper", "_law_ways_here", "_law_fine_here", "_law_some", "_law_k", "_law_goal_here", "_law_other", "_law_theirs", "_law_wrong"] ["_law_script"] (q17 s_law):=fsc
structure Bz(K:Fg)(mg:Mg)(base:Heap):Prop where
 all_:mg "all" = none
 bool_:mg "bool" = none
 dict_:mg "dict" = none
 enumerate_:mg "enumerate" = none
 int_:mg "int" = none
 isinstance_:mg "isinstance" = none
 len_:mg "len" = none
 max_:mg "max" = none
 range_:mg "range" = none
 set_:mg "set" = none
 sorted_:mg "sorted" = none
 str_:mg "str" = none
 sum_:mg "sum" = none
 tuple_:mg "tuple" = none
 d_is_whole:Def K mg "is_whole" q375 ["thing"]
 d_many_worths:Def K mg "many_worths" q207 ["levels"]
 d_top_of:Def K mg "top_of" q575 ["bounds"]
 d_where:Def K mg "where" q708 pn16
 d_span_of:Def K mg "span_of" q463 ["bounds", "way"]
 d_way_of:Def K mg "way_of" q576 pn16
 d_ahead:Def K mg "ahead" q709 ["marks", "mark", "place"]
 d_place_of:Def K mg "place_of" q376 ["marks", "mark", "number"]
 d_is_word:Def K mg "is_word" q464 ["thing", "word"]
 d_half_of:Def K mg "half_of" q465 ["tree", "mark"]
 d_size_of:Def K mg "size_of" q466 ["tree"]
 d_many_in:Def K mg "many_in" q310 ["gathering"]
 d_filled:Def K mg "filled" q412 ["gathering"]
 d_led:Def K mg "led" s_led pn17
 d_led_stretch:Def K mg "led_stretch" q208 ["stretch", "way"]
 d_lifted:Def K mg "lifted" q577 ["tree", "way", "place"]
 d_nth_least:Def K mg "nth_least" q311 pn4
 d_way_of_nth:Def K mg "way_of_nth" q256 ["levels", "gathering", "k"]
 d_nth_alike:Def K mg "nth_alike" q312 ["gathering", "way", "number"]
 d_many_lesser:Def K mg "many_lesser" q209 pn17
 d_below:Def K mg "below" q710 pn0
 d_worths_in:Def K mg "worths_in" q313 pn7
 d_most:Def K mg "most" s_most pn7
 d_counted_above:Def K mg "counted_above" q154 pn15
 d_next_up:Def K mg "next_up" q467 pn0
 d_counted_nth:Def K mg "counted_nth" q210 pn4
 d_paper_below:DefL K mg "paper_below" q211 ["bounds", "gathering", "number"] 240 236
 d_paper_least:DefL K mg "paper_least" q212 ["bounds", "gathering", "k"] 247 243
 d_paper_most:DefL K mg "paper_most" q257 ["bounds", "gathering"] 254 250
 d_paper_often:DefL K mg "paper_often" q213 ["bounds", "gathering", "part"] 261 257
 d_paper_up:DefL K mg "paper_up" q377 ["bounds", "gathering", "number"] 268 264
 d_told_paper:Def K mg "told_paper" q258 pn19
 d_paper_from:Def K mg "paper_from" q259 pn18
 d_keeps:Def K mg "keeps" q711 ["levels", "gathering", "paper"]
 d_is_kept:Def K mg "is_kept" q468 ["levels", "parts", "thing"]
 d_is_closed:Def K mg "is_closed" q314 ["thing"]
 d_is_split:Def K mg "is_split" q378 ["thing"]
 d_closed_parts:Def K mg "closed_parts" q171 ["bounds", "paper"]
 d_closed_from:Def K mg "closed_from" q214 ["least", "many", "paper"]
 d_many_closed:Def K mg "many_closed" q215 ["closed", "worth"]
 d_shows_below:Def K mg "shows_below" q216 pn8
 d_shows_least:Def K mg "shows_least" q135 pn13
 d_shows_most:Def K mg "shows_most" q260 pn10
 d_shows_often:Def K mg "shows_often" q217 pn11
 d_shows_up:Def K mg "shows_up" q164 pn9
 d__law_cell:Def K mg "_law_cell" q315 ["_law_script", "_law_k"]
 d__law_take:Def K mg "_law_take" q316 ["_law_pen", "_law_size"]
 d__law_bounds:Def K mg "_law_bounds" q218 ["_law_pen"]
 d__law_row:Def K mg "_law_row" q240 pn1
 d__law_tree:Def K mg "_law_tree" q104 pn14
 d__law_gathering:Def K mg "_law_gathering" q39 pn1
 d__law_fine:Def K mg "_law_fine" q136 pn2
 d__law_counts:Def K mg "_law_counts" q137 ["_law_worths"]
 d__law_ways:Def K mg "_law_ways" q195 ["_law_paper"]
 d__law_told:Def K mg "_law_told" q317 pn6
 d__law_shown:Def K mg "_law_shown" q261 pn3
 d__law_ask:Def K mg "_law_ask" q73 pn12
 d__law_others:Def K mg "_law_others" q138 pn5
 d__law_goal:Def K mg "_law_goal" q318 ["_law_ask_here"]
 bmn:BMain mg base
def Scr(K:Fg)(H:Hp)(a:Addr)(xs:List V):Prop:=
 (∃ o,H a=some (.frz o (.lst xs))) \/
  ∃(o:Obj)(its:Array Value)(n:Nat),K.lookup a=some o/\o.cls = .type "list" /\ o.dict=none/\o.data = .seq its n/\its.size<=sizeLine/\Vals xs its.toList
def Scr.sq(h:Scr K H a xs):SqL K H a xs:=by
 rcases h with h | h
 ·exact .inl (.inr h)
 ·exact .inr h
def Scr.same(h:Scr K H a xs)(s:Same H H'):Scr K H' a xs:=by
 rcases h with ⟨o,h⟩ | h
 ·exact .inl ⟨o,s _ _ h⟩
 ·exact .inr h
def Scr.set(h:Scr K H a xs)(e:H p=some (.lst ys)):Scr K (upd H p o) a xs:=by
 rcases h with ⟨ob,h⟩ | h
 ·exact .inl ⟨ob,by rw[q27 (ne_of h e (by intro z;cases z))];exact h⟩
 ·exact .inr h
def Pen(K:Fg)(H:Hp)(pen:Addr)(n:Int):Prop:=∃(a:Addr)(ns:List Int)(c r:Int),H pen=some (.lst [.ref a,.int c,.int r])/\Scr K H a (ns.map V.int)/\ns.length<=63/\0<=c/\c<=n/\0<=r
def Pen.same{n:Int}(p:Pen K H pen n)(s:Same H H'):Pen K H' pen n:=by
 obtain⟨a,ns,c,r,h1,h2,h3⟩:=p
 exact⟨a,ns,c,r,s _ _ h1,h2.same s,h3⟩
def Pen.new{n:Int}(p:Pen K H pen n)(h:H q=none)(o:HO):Pen K (upd H q o) pen n:=p.same (q15 h o)
def Pen.le{n m:Int}(p:Pen K H pen n)(h:n<=m):Pen K H pen m:=by
 obtain⟨a,ns,c,r,h1,h2,h3,h4,h5,h6⟩:=p
 exact⟨a,ns,c,r,h1,h2,h3,h4,{},h6⟩
def Pen.at{n:Int}(p:Pen K H pen n):∃ xs,H pen=some (.lst xs):=by
 obtain⟨a,ns,c,r,h1,_⟩:=p
 exact⟨_,h1⟩
def Pen.ne{n:Int}(p:Pen K H pen n)(h:H b=some (.tup xs)):b≠pen:=by
 obtain⟨ys,e⟩:=p.at
 exact ne_of h e (by intro z;cases z)
def Pen.fresh{n:Int}(p:Pen K H pen n)(h:H b=none):b≠pen:=by
 obtain⟨ys,e⟩:=p.at
 exact λz=>by rw[z,e]at h;cases h
def Pen.other{n:Int}(p:Pen K H pen n)(hq:q≠pen)(e:H q=some (.lst ys))(o:HO):Pen K (upd H q o) pen n:=by
 obtain⟨a,ns,c,r,h1,h2,h3⟩:=p
 exact⟨a,ns,c,r,by rw[q27 (Ne.symm hq)];exact h1,h2.set e,h3⟩
def Pen.put{ns:List Int}{c r n:Int}(h1:H pen=some (.lst xs))(h2:Scr K H a (ns.map V.int))(h4:ns.length<=63)(h5:0<=c)(h6:c<=n)(h7:0<=r) :
  Pen K (upd H pen (.lst [.ref a,.int c,.int r])) pen n:=⟨a,ns,c,r,q12,h2.set h1,h4,h5,h6,h7⟩
inductive q262(K:Fg)(vs:List V)(H:Hp)(Q:VK)(E:XK):Prop
 |mk(a:Addr)(ns:List Int)(k:Int)(_:vs=[.ref a,.int k])(_:SqL K H a (ns.map V.int))(_:ns.length<=63)(_:0<=k)(_:k<1000000000)(_:∀ n:Int,Q (.int n) H)
inductive q263(K:Fg)(vs:List V)(H:Hp)(Q:VK)(E:XK):Prop
 |mk(pen:Addr)(size n:Int)(_:vs=[.ref pen,.int size])(_:Pen K H pen n)(_:n<100000000)(_:0<size)(_:size<10^60)(_:∀(v:Int)(H':Hp),Keep pen H H'->Pen K H' pen (n+1)->0<=v->v<size->Q (.int v) H')
variable {P:Program}{w:World}{K:Fg}{mg:Mg}{base:Heap}
abbrev Bz.C(_:Bz K mg base)(P:Program)(w:World):=Cal P w K mg base
variable (z:Bz K mg base)
def q480:z.C P w 1 "_law_cell" ["_law_script", "_law_k"] (q262 K):=by
 have sc:=q473
 specialize z.d__law_cell
 obtain⟨a,ns,k,rfl,hS,h63,h0,hk,q⟩:=h
 refine⟨_,(q11 (ps_if (q18 op_lt (pv 1) (pln z.len_ (pa1 (pv 0))) (q19 _))
 (q16 (q20 (pix q32 (pv 0) (pv 1))))
 q22)
 (q11 (pst 2 sc.nd (pe_op q29 (pe_op q113 q14 (pv 1)) q14))
 (q11 (ps_if (q18 op_gt (pln z.len_ (pa1 (pv 0))) q14 (q19 _))
 (q16 (pst 2 sc.nd (pe_op q29 (pv 2) (pe_op q113 (pe_op q145 (pix q32 (pv 0) (pe_op q145 (pe_op q29 (pe_op q113 q14 (pv 1)) q14) (pln z.len_ (pa1 (pv 0))))) q14) q14))))
 q22)
 (q16 (q20 (pe_op q145 (pe_op q113 (pv 2) (pv 2)) q14)))))),?_⟩
 have hl:(ns.map V.int).length=ns.length:=ZN _
 exists _,rfl,_,rfl,a,_,rfl,.inl hS,_,_,rfl,rfl,_,rfl
 refine ite2 (λc=>?_) (λc=>?_)
 ·have c':k<(((ns.map V.int).length:Nat):Int):=ZF c
  rw[hl]at c'
  obtain⟨v,_,hv⟩:=q79 h0 c'
  exact⟨_,rfl,_,rfl,a,_,_,_,rfl,rfl,hS,hv,q v⟩
 ·exists _,rfl,_,_,rfl,rfl,.inl ⟨∅,∅⟩,_,_,rfl,rfl
  exists _,rfl,a,_,rfl,.inl hS,_,_,rfl,rfl,_,rfl
  refine ite2 (λc2=>?_) (λc2=>?_)
  ·have c2':(0:Int)<(((ns.map V.int).length:Nat):Int):=ZF c2
   have m0:0<=(7*k+3)%(((ns.map V.int).length:Nat):Int):=YM _ {}
   have m1:(7*k+3)%(((ns.map V.int).length:Nat):Int)<(((ns.map V.int).length:Nat):Int):=YE _ c2'
   obtain⟨v,_,hv⟩:=q79 (l:=ns) m0 (by rw[hl]at m1 ⊢;exact m1)
   have b0:0<=v%2147483629:=YM _ ∅
   have b1:v%2147483629<2147483629:=YE _ ∅
   exists _,rfl,_,rfl,_,rfl,_,_,rfl,rfl,.inl ⟨∅,∅⟩,_,_,rfl,rfl,_,rfl,a,_,rfl,.inl hS,_,_,rfl,rfl,c2',a,_,_,_,rfl,rfl,hS,hv,_,_,rfl,rfl,(by show(0:Int)<2147483629;decide),_,_,rfl,rfl,.inr ⟨∅,∅⟩,_,_,rfl,rfl
   exact⟨_,rfl,_,rfl,_,_,rfl,rfl,.inl ⟨{},{}⟩,_,_,rfl,rfl,(by show(0:Int)<2147483587;decide),q _⟩
  ·exact⟨_,rfl,_,rfl,_,_,rfl,rfl,.inl ⟨{},{}⟩,_,_,rfl,rfl,(by show(0:Int)<2147483587;decide),q _⟩
def q23:z.C P w 2 "_law_take" ["_law_pen", "_law_size"] (q263 K):=by
 have sc:=q474
 specialize z.d__law_take
 obtain⟨pen,size,n,rfl,⟨a,ns,c,r,hp,hS,h63,c0,cn,r0⟩,hn,s0,s1,q⟩:=h
 refine⟨_,(q11 (ps_if (q18 op_gt (pix q32 (pv 0) q14) q14 (q19 _))
 (q11 (pst 2 sc.nd (pe_op q145 (pix q32 (pv 0) q14) (pv 1)))
 (q11 (q251 (pe_op q91 (pix q32 (pv 0) q14) (pv 1)) (q646 (pv 0) q14 set_list))
 (q16 (q20 (pv 2)))))
 q22)
 (q11 (pst 3 sc.nd (pfn (q480 z) hr (pa2 (pix q32 (pv 0) q14) (pix q32 (pv 0) q14))))
 (q11 (q251 (pe_op q29 (pix q32 (pv 0) q14) q14) (q646 (pv 0) q14 set_list))
 (q11 (ps_if (q18 op_ge (pv 3) (pe_op q436 q14 q14) (q19 _))
 (q11 (q251 (pe_op q91 (pv 3) (pv 1)) (q646 (pv 0) q14 set_list))
 (q16 (q20 (pe_op q145 (pv 3) (pv 1)))))
 q22)
 (q11 (pst 4 sc.nd (pe_op q145 (pe_op q113 (pe_op q29 (pe_op q29 (pe_op q145 (pv 3) q14) (pe_op q113 q14 (pix q32 (pv 0) q14))) q14) q14) q14))
 (q11 (pst 4 sc.nd (pe_op q145 (pe_op q113 (pe_op q29 (pv 4) (pix q32 (pv 0) q14)) (pe_op q29 (pe_op q145 (pv 4) q14) q14)) q14))
 (q11 (ps_if (q18 op_gt (pv 1) (pe_op q436 q14 q14) (q19 _))
 (q16 (q20 (pe_op q145 (pe_op q436 (pe_op q91 (pv 4) q14) q14) (pv 1))))
 q22)
 (q16 (q20 (pe_op q145 (pe_op q91 (pv 4) q14) (pv 1))))))))))),?_⟩
 exists _,rfl,pen,_,_,_,rfl,rfl,SqL.of hp,rfl,_,_,rfl,rfl,_,rfl
 refine ite2 (λc1=>?_) (λc1=>?_)
 ·have c1':(0:Int)<r:=ZF c1
  exists _,rfl,pen,_,_,_,rfl,rfl,SqL.of hp,rfl,_,rfl,_,_,rfl,rfl,s0
  exists _,rfl,pen,_,_,_,rfl,rfl,SqL.of hp,rfl,_,rfl,_,_,rfl,rfl,⟨s0,s1⟩,_,rfl,pen,_,_,2,rfl,rfl,hp,rfl,_,rfl
  exact q _ _ (Keep.set pen H _) (Pen.put hp hS h63 c0 {} (Int.ediv_nonneg r0 (Int.le_of_lt s0))) (YM _ {}) (YE _ s0)
 ·refine⟨_,rfl,pen,_,_,_,rfl,rfl,SqL.of hp,rfl,_,rfl,pen,_,_,_,rfl,rfl,SqL.of hp,rfl,a,ns,c,rfl,hS.sq,h63,c0,{},λcell=>?_⟩
  exists _,rfl,pen,_,_,_,rfl,rfl,SqL.of hp,rfl,_,_,rfl,rfl,_,rfl,pen,_,_,1,rfl,rfl,hp,rfl
  have hS1:Scr K (upd H pen (.lst [.ref a,.int (c+1),.int r])) a (ns.map V.int):=hS.set hp
  have k1:Keep pen H (upd H pen (.lst [.ref a,.int (c+1),.int r])):=Keep.set pen H _
  exists _,rfl,_,_,rfl,rfl,⟨∅,∅,∅⟩,_,_,rfl,rfl,_,rfl
  refine ite2 (λc2=>?_) (λc2=>?_)
  ·have c2':(10:Int)^18<=cell:=ZF c2
   exists _,rfl,_,rfl,_,_,rfl,rfl,⟨s0,s1⟩,_,rfl,pen,_,_,2,rfl,rfl,q12,rfl,_,rfl,_,rfl,_,_,rfl,rfl,s0
   exact q _ _ (k1.trans (Keep.set pen _ _)) (Pen.put q12 hS1 h63 {} {} (Int.ediv_nonneg {} (Int.le_of_lt s0))) (YM _ {}) (YE _ s0)
  ·have P1:Pen K (upd H pen (.lst [.ref a,.int (c+1),.int r])) pen (n+1):=Pen.put hp hS h63 {} {} r0
   exists _,rfl,_,_,rfl,rfl,(by show(0:Int)<2147483629;decide),_,rfl,pen,_,_,_,rfl,rfl,SqL.of q12,rfl,_,_,rfl,rfl,.inl ⟨∅,∅⟩,_,_,rfl,rfl,_,_,rfl,rfl,_,_,rfl,rfl,.inr ⟨∅,∅⟩,_,_,rfl,rfl,(by show(0:Int)<2147483647;decide)
   generalize hx:((cell%2147483629+7919*(c+1)+1)*48271%2147483647)=x1
   have g0:0<=x1%65521:=YM _ ∅
   have g1:x1%65521<65521:=YE _ ∅
   exists _,rfl,_,rfl,pen,_,_,_,rfl,rfl,SqL.of q12,rfl,_,_,rfl,rfl,_,rfl,_,_,rfl,rfl,(by show(0:Int)<65521;decide),_,_,rfl,rfl,_,_,rfl,rfl,.inr ⟨{},{}⟩,_,_,rfl,rfl,(by show(0:Int)<2147483629;decide)
   generalize hy:((x1+(c+1))*(x1%65521+3)%2147483629)=x2
   have b0:0<=x2:=by rw[<- hy];exact YM _ ∅
   have b1:x2<2147483629:=by rw[<- hy];exact YE _ ∅
   exists _,rfl,_,_,rfl,rfl,⟨∅,∅,∅⟩,_,_,rfl,rfl,_,rfl
   refine ite2 (λ_=>?_) (λ_=>?_)
   ·exists _,rfl,_,_,rfl,rfl,⟨∅,∅⟩,_,_,rfl,rfl,⟨∅,∅,{}⟩,_,rfl,_,_,rfl,rfl,s0
    exact q _ _ k1 P1 (YM _ {}) (YE _ s0)
   ·exists _,rfl,_,_,rfl,rfl,⟨∅,∅⟩,_,rfl,_,_,rfl,rfl,s0
    exact q _ _ k1 P1 (YM _ {}) (YE _ s0)
inductive q172(u0:Fg)(vs:List V)(H:Hp)(Q:VK)(E:XK):Prop
 |mk(L:Nat)(_:vs=[.int (L:Int)])(_:L<=40)(_:Q (.int (2^L)) H)
inductive q481(K:Fg)(vs:List V)(H:Hp)(Q:VK)(E:XK):Prop
 |mk(b:Addr)(low:Int)(L:Nat)(_:vs=[.ref b])(_:SqT K H b [.int low,.int (L:Int)])(_:L<=40)(_:Q (.int (low+2^L-1)) H)
def q48:z.C P w 1 "many_worths" ["levels"] (q172 K):=by
 have sc:=q338
 specialize z.d_many_worths
 obtain⟨L,rfl,hL,q⟩:=h
 refine⟨_,(q11 (pst 1 sc.nd q14)
 (q11 (q62 PassesOwn.never rfl (q80 rfl z.range_ (pa1 (pv 0))) (pgn 2 sc.nd)
 (q16 (pst 1 sc.nd (pe_op q113 (pv 1) q14))))
 (q16 (q20 (pv 1))))),?_⟩
 refine⟨_,rfl,(L:Int),rfl,(W114 hL),{},q101 (n:=L) (λi σ H2=>∃ v:Option V,σ=[some (.int (L:Int)),some (.int (2^i)),v]/\H2=H) ⟨none,rfl,rfl⟩ ?_ ?_⟩
 ·rintro i σ H2 hi ⟨v,rfl,rfl⟩
  exists _,rfl,_,_,rfl,rfl,.inr ⟨∅,∅⟩
  exact⟨_,by rw[YK];rfl,rfl⟩
 ·rintro σ H2 ⟨v,rfl,rfl⟩
  exact⟨_,rfl,q⟩
def q716:z.C P w 2 "top_of" ["bounds"] (q481 K):=by
 have sc:=q712
 specialize z.d_top_of
 obtain⟨b,low,L,rfl,hb,hL,q⟩:=h
 exists _,(q16 (q20 (pe_op q47 (pe_op q29 (pix q26 (pv 0) q14) (pfn (q48 z) hr (pa1 (pix q26 (pv 0) q14)))) q14)))
 exact⟨_,rfl,b,_,_,_,rfl,rfl,hb,rfl,_,rfl,b,_,_,_,rfl,rfl,hb,rfl,L,rfl,hL,_,_,rfl,rfl,_,_,rfl,rfl,q⟩
inductive q173(K:Fg)(vs:List V)(H:Hp)(Q:VK)(E:XK):Prop
 |mk(pen:Addr)(n:Int)(_:vs=[.ref pen])(_:Pen K H pen n)(_:n<10000000)(_:∀(b:Addr)(low:Int)(L:Nat)(H':Hp),Keep pen H H'->Pen K H' pen (n+4)->H' b=some (.tup [.int low,.int (L:Int)]) -> -(10^40)<low->low<10^40->L<=40->Q (.ref b) H')
def q353:z.C P w 3 "_law_bounds" ["_law_pen"] (q173 K):=by
 have sc:=q350
 specialize z.d__law_bounds
 obtain⟨pen,n,rfl,P0,hn,q⟩:=h
 refine⟨_,(q11 (pst 1 sc.nd (pix q32 (q38 (q10 (pfn (q23 z) hr (pa2 (pv 0) q14)) (q10 q14 (q10 q14 (q10 q14 (pa4 q14 q14 q14 q14)))))) (pfn (q23 z) hr (pa2 (pv 0) q14))))
 (q11 (pst 2 sc.nd (pfn (q23 z) hr (pa2 (pv 0) q14)))
 (q11 (ps_if (q18 op_eq (pv 2) q14 (q19 _))
 (q16 (q20 (q30 (pa2 (pe_op q29 (pe_op q47 (pfn (q23 z) hr (pa2 (pv 0) (pe_op q47 (pe_op q113 q14 (pe_op q436 q14 q14)) q14))) (pe_op q436 q14 q14)) q14) (pv 1)))))
 q22)
 (q11 (ps_if (q18 op_eq (pv 2) q14 (q19 _))
 (q16 (q20 (q30 (pa2 q14 (pv 1)))))
 q22)
 (q16 (q20 (q30 (pa2 (pe_op q47 (pfn (q23 z) hr (pa2 (pv 0) q14)) q14) (pv 1))))))))),?_⟩
 refine⟨_,rfl,pen,41,n,rfl,P0,{},∅,∅,λv1 H1 k1 P1 a1 b1=>⟨szb rfl,λp hp=>?_⟩⟩
 refine⟨_,rfl,pen,8,n+1,rfl,P1.new hp _,{},∅,∅,λv2 H2 k2 P2 a2 b2=>?_⟩
 obtain⟨L',hm,hv⟩:=q79 (l:=[v1,0,1,2,3,4,5,8]) a2 b2
 have hL:0<=L'/\L'<=40:=by
  simp only[mem_cons,not_mem_nil,or_false]at hm
  lia
 obtain⟨L,rfl⟩:=Int.eq_ofNat_of_zero_le hL.1
 have hL2:L<=40:={}
 exists p,_,_,_,rfl,rfl,SqL.of (k2 _ _ (P1.fresh hp) q12),hv
 refine⟨_,rfl,pen,4,n+1+1,rfl,P2,(W113 hn),∅,∅,λv3 H3 k3 P3 a3 b3=>?_⟩
 have k03:Keep pen H H3:=k1.trans ((Keep.new hp _).trans (k2.trans k3))
 exists _,rfl,rfl,_,rfl
 refine ite2 (λ_=>?_) (λ_=>?_)
 ·refine⟨_,rfl,_,_,rfl,rfl,⟨∅,∅,∅⟩,_,_,rfl,rfl,.inl ⟨∅,∅⟩,_,_,rfl,rfl,pen,_,n+1+1+1,rfl,P3,{},∅,∅,λv4 H4 k4 P4 a4 b4=>?_⟩
  refine⟨_,_,rfl,rfl,⟨∅,∅,∅⟩,_,_,rfl,rfl,_,_,rfl,rfl,_,rfl,szb rfl,λb hb=>?_⟩
  refine q b _ L _ (k03.trans (k4.trans (Keep.new hb _))) ((P4.new hb _).le {}) q12 ?_ ?_ hL2
  ·show -(10^40)<v4-(10:Int)^40+1
   lia
  ·show v4-(10:Int)^40+1<10^40
   have b4':v4<2*(10:Int)^40-1:=b4
   lia
 ·exists _,rfl,rfl,_,rfl
  refine ite2 (λ_=>?_) (λ_=>?_)
  ·refine⟨_,rfl,szb rfl,λb hb=>?_⟩
   exact q b _ L _ (k03.trans (Keep.new hb _)) ((P3.new hb _).le {}) q12 ∅ ∅ hL2
  ·refine⟨_,rfl,pen,99,n+1+1+1,rfl,P3,{},∅,∅,λv4 H4 k4 P4 a4 b4=>?_⟩
   refine⟨_,_,rfl,rfl,_,rfl,szb rfl,λb hb=>?_⟩
   exact q b _ L _ (k03.trans (k4.trans (Keep.new hb _))) ((P4.new hb _).le {}) q12 {} {} hL2
noncomputable def q482(low:Int)(L:Nat)(n:Int):Str:=if n<low then "below" else if low+2^L-1<n then "above" else "within"
inductive q578(K:Fg)(vs:List V)(H:Hp)(Q:VK)(E:XK):Prop
 |mk(b:Addr)(low n:Int)(L:Nat)(_:vs=[.ref b,.int n])(_:SqT K H b [.int low,.int (L:Int)])(_:L<=40)(_:Q (.str (q482 low L n)) H)
def q579:z.C P w 3 "where" pn16 (q578 K):=by
 have sc:=sc_where
 specialize z.d_where
 obtain⟨b,low,n,L,rfl,hb,hL,q⟩:=h
 refine⟨_,(q11 (ps_if (q18 op_lt (pv 1) (pix q26 (pv 0) q14) (q19 _))
 (q16 (q20 q34))
 q22)
 (q11 (ps_if (q18 op_gt (pv 1) (pfn (q716 z) hr (pa1 (pv 0))) (q19 _))
 (q16 (q20 q34))
 q22)
 (q16 (q20 q34)))),?_⟩
 unfold q482 at q
 exists _,rfl,_,rfl,b,_,_,_,rfl,rfl,hb,rfl,_,_,rfl,rfl,_,rfl
 refine ite2 (λc=>?_) (λc=>?_)
 ·rw[ZL (ZF c)]at q
  exact q
 ·rw[ZJ (λz=>c (ZA z))]at q
  exists _,rfl,_,rfl,b,low,L,rfl,hb,hL,_,_,rfl,rfl,_,rfl
  refine ite2 (λc=>?_) (λc=>?_)
  ·rw[ZL (ZF c)]at q
   exact q
  ·rw[ZJ (λz=>c (ZA z))]at q
   exact q
def Wths(low:Int)(L:Nat)(ns:List Int):Prop:=∀ x∈ns,low<=x/\x<low+2^L
def Wths.snoc{low:Int}{L:Nat}{y:Int}(h:Wths low L ns)(h0:low<=y)(h1:y<low+2^L):Wths low L (ns++[y]):=λx hx=>by
 rcases eC hx with h' | h'
 ·exact h x h'
 ·cases eD h'
  exact⟨h0,h1⟩
inductive q320(K:Fg)(vs:List V)(H:Hp)(Q:VK)(E:XK):Prop
 |mk(pen b:Addr)(n g low:Int)(L:Nat)(_:vs=[.ref pen,.ref b,.int g])(_:Pen K H pen n)(_:n<10000000)(_:H b=some (.tup [.int low,.int (L:Int)]))(_:L<=40)(_:0<=g)(_:g<=60)(_:∀(r:Addr)(ns:List Int)(H':Hp),Keep pen H H'->Pen K H' pen (n+80)->H' r=some (.lst (ns.map V.int))->H r=none->ns.length<=60->Wths low L ns->Q (.ref r) H')
def q534:z.C P w 3 "_law_row" pn1 (q320 K):=by
 have sc:=q532
 specialize z.d__law_row
 obtain⟨pen,b,n,g,low,L,rfl,P0,hn,hb,hL,g0,g1,q⟩:=h
 refine⟨_,(q11 (pst 3 sc.nd (pe_op q252 q14 (pix q26 (pv 1) q14)))
 (q11 (pst 4 sc.nd (pfn (q23 z) hr (pa2 (pv 0) q14)))
 (q11 (ps_if (q18 op_eq (pfn (q23 z) hr (pa2 (pv 0) q14)) q14 (q19 _))
 (q16 (pst 4 sc.nd (pfn (q23 z) hr (pa2 (pv 0) (pe_op q29 (pv 2) q14)))))
 q22)
 (q11 (pst 5 sc.nd (pfn (q23 z) hr (pa2 (pv 0) q14)))
 (q11 (q232 (i:=6) (cl:=[("_law_size", s.heap.objs.size+1+1),("_law_pen", s.heap.objs.size+1+0)]) (cn:=["_law_size", "_law_pen"]) (N:=["_law_pen", "_law_size"]) (fr:=[0,3]) (sc0:=q17 q240) sc.nd rfl (Or.inl rfl) rfl (q80 rfl z.range_ (pa1 (pe_op q29 q14 (pfn (q23 z) hr (pa2 (pv 0) q14))))) (λC s₂ H₂ fp=>(pfn (q23 z) hr (pa2 (pv 1) (pv 2)))) (by ac_rfl) ⟨by ac_rfl,by ac_rfl,trivial⟩ rfl rfl rfl cok rfl (by ac_rfl) (.inl rfl))
 (q11 (pst 7 sc.nd (q38 q13))
 (q11 (q62 PassesOwn.never rfl (q80 rfl z.range_ (pa1 (pv 4))) (pgn 8 sc.nd)
 (q16 (ps_if (q18 op_eq (pv 5) q14 (q19 _))
 (q16 (q129 (pe_bm YD YH YI q59 (pv 7) (pa1 (pe_op q29 (pix q26 (pv 1) q14) (pfn (q23 z) hr (pa2 (pv 0) (pv 3))))))))
 (q16 (ps_if (q18 op_eq (pv 5) q14 (q19 _))
 (q16 (q129 (pe_bm YD YH YI q59 (pv 7) (pa1 (pe_op q29 (pix q26 (pv 1) q14) (pe_op q145 (pe_op q29 (pix q32 (pv 6) q14) (pfn (q23 z) hr (pa2 (pv 0) q14))) (pv 3)))))))
 (q16 (q129 (pe_bm YD YH YI q59 (pv 7) (pa1 (pe_op q29 (pix q26 (pv 1) q14) (pix q32 (pv 6) (pfn (q23 z) hr (pa2 (pv 0) (pln z.len_ (pa1 (pv 6))))))))))))))))
 (q11 (ps_if (q18 op_eq (pv 5) q14 (q19 _))
 (q16 (pst 7 sc.nd (q44 q448 () z.sorted_ q299 (pa1 (pv 7)))))
 q22)
 (q16 (q20 (pv 7))))))))))),?_⟩
 have hp:=p2pos L
 have hq:=p2le hL
 exists _,rfl,b,_,_,_,rfl,rfl,SqT.of hb,rfl,_,_,rfl,rfl,⟨(W54 hL),(W87 hL),∅⟩
 dsimp only
 rw[q303]
 refine⟨_,rfl,pen,13,n,rfl,P0,{},∅,∅,λmv H1 k1 P1 m0 m1=>?_⟩
 refine⟨_,rfl,pen,8,n+1,rfl,P1,{},∅,∅,λv2 H2 k2 P2 a2 b2=>⟨rfl,_,rfl,?_⟩⟩
 have PP:Pen K H2 pen (n+3):=P2.le {}
 have kk:Keep pen H H2:=k1.trans k2
 have mm:mv<=60:={}
 refine ite2 (λ_=>?_) (λ_=>?_)
 ·refine⟨_,rfl,_,rfl,_,_,rfl,rfl,pen,_,n+1+1,rfl,P2,(W113 hn),{},{},λmv H3 k3 P3 m0 m1=>?_⟩
  have PP:Pen K H3 pen (n+3):=P3.le {}
  have kk:Keep pen H H3:=kk.trans k3
  have mm:mv<=60:={}
  refine⟨_,rfl,pen,4,_,rfl,PP,{},∅,∅,λwv H4 k4 P4 w0 w1=>?_⟩
  refine⟨_,rfl,pen,4,_,rfl,P4,{},∅,∅,λc H5 k5 P5 c0 c1=>⟨_,_,rfl,rfl,1+c,rfl,{},{},λD hD=>?_⟩⟩
  have hpl:∃ xs,H5 pen=some (.lst xs):=P5.at
  have k05:Keep pen H H5:=kk.trans (k4.trans k5)
  have hD0:H D=none:=by obtain⟨xs,e⟩:=hpl;exact k05.free hD e
  have hbp:b≠pen:=P0.ne hb
  refine q162 (n:=(1+c).toNat) (sz {}) (λj ys H6=>∃ fs:List Int,ys=fs.map V.int/\fs.length=j/\(∀ x∈fs,0<=x/\x<(2:Int)^L)/\H6 D=some (.lst ys)/\Keep pen H H6/\Pen K H6 pen (n+5+j))
   ⟨[],rfl,rfl,λx hx=>absurd hx (by simp),q12,k05.own hD0,(P5.new hD _).le {}⟩ (λj ys H6 ⟨fs,e1,e2,_,e3,_⟩=>⟨e3,by rw[e1,ZN];exact e2⟩) ?_ ?_
  ·rintro j ys H6 hj ⟨fs,e1,e2,e4,e3,k6,P6⟩
   refine⟨_,rfl,_,rfl,pen,_,_,rfl,P6,{},hp,(W72 hp hq),λu3 H7 k7 P7 z0 z1=>?_⟩
   have e3':H7 D=some (.lst ys):=k7 _ _ (P5.fresh hD) e3
   refine⟨e3',fs++[u3],by rw[WS,e1] <;> rfl,by rw[ZU,e2] <;> rfl,λx hx=>?_,q12,(k6.trans k7).own hD0,(P7.other (P5.fresh hD) e3' _).le {}⟩
   rcases eC hx with h' | h'
   ·exact e4 x h'
   ·cases eD h'
    exact⟨z0,z1⟩
  ·rintro ys H6 ⟨fs,e1,e2,e4,e3,k6,P6⟩
   rw[e1]at e3
   refine⟨szb rfl,λr hr=>?_⟩
   have hr0:H r=none:=by
    obtain⟨xs,e⟩:=P6.at
    exact k6.free hr e
   have hrD:D≠r:=q25 e3 hr
   have P7:Pen K (upd H6 r (.lst [])) pen (n+10):=(P6.new hr _).le {}
   have hfs:0<fs.length:={}
   refine⟨_,rfl,mv,rfl,{},{},q101 (n:=mv.toNat) (λi σ H8=>∃(ns:List Int)(v8:Option V),σ=[some (.ref pen),some (.ref b),some (.int g),some (.int (2^L)),some (.int mv),some (.int wv),some (.ref D),some (.ref r),v8]/\H8 r=some (.lst (ns.map V.int))/\ns.length=i/\Wths low L ns /\
    H8 D=some (.lst (fs.map V.int))/\Keep pen H H8/\Pen K H8 pen (n+10+i)) ⟨[],none,rfl,q12,rfl,λx hx=>absurd hx (by simp),(by rw[q27 hrD];exact e3),k6.own hr0,P7.le {}⟩ ?_ ?_⟩
   ·rintro i σ H8 hi ⟨ns,v8,rfl,hr8,hl8,hw8,hD8,k8,P8⟩
    have hb8:H8 b=some (.tup [.int low,.int (L:Int)]):=k8 _ _ hbp hb
    have hpr:r≠pen:=λz=>by
     obtain⟨xs,e⟩:=P6.at
     rw[z,e]at hr
     cases hr
    have fin:∀(y:Int)(H9:Hp),low<=y->y<low+2^L->Keep pen H8 H9->Pen K H9 pen (n+10+i+1)->H9 r=some (.lst (ns.map V.int))/\(ns.map V.int).length<sizeLine /\
      ∃(ns':List Int)(v8':Option V),[some (V.ref pen),some (.ref b),some (.int g),some (.int (2^L)),some (.int mv),some (.int wv),some (.ref D),some (.ref r),some (.int (0+(i:Int)))]=[some (V.ref pen),some (.ref b),some (.int g),some (.int (2^L)),some (.int mv),some (.int wv),some (.ref D),some (.ref r),v8']/\(upd H9 r (.lst (ns.map V.int++[.int y]))) r=some (.lst (ns'.map V.int))/\ns'.length=i+1/\Wths low L ns' /\
       (upd H9 r (.lst (ns.map V.int++[.int y]))) D=some (.lst (fs.map V.int))/\Keep pen H (upd H9 r (.lst (ns.map V.int++[.int y])))/\Pen K (upd H9 r (.lst (ns.map V.int++[.int y]))) pen (n+10+((i+1:Nat):Int)):=by
     intro y H9 y0 y1 k9 P9
     have hr9:=k9 _ _ hpr hr8
     have hD9:=k9 _ _ (P5.fresh hD) hD8
     refine⟨hr9,by rw[ZN,hl8];exact q81 {},ns++[y],_,rfl,?_,by rw[ZU,hl8] <;> rfl,hw8.snoc y0 y1,by rw[q27 hrD];exact hD9,(k8.trans k9).own hr0,(P9.other hpr hr9 _).le {}⟩
     rw[q12,WS]
     rfl
    exists _,rfl,rfl,_,rfl
    refine ite2 (λ_=>?_) (λ_=>?_)
    ·refine⟨_,rfl,.inl ⟨rfl,_,SqL.of hr8⟩,_,rfl,b,_,_,_,rfl,rfl,SqT.of hb8,rfl,_,rfl,_,rfl,pen,_,_,rfl,P8,{},hp,(W72 hp hq),λu H9 k9 P9 z0 z1=>⟨_,_,rfl,rfl,?_⟩⟩
     obtain⟨f1,f2,f3⟩:=fin (low+u) H9 (W55 hp z0 z1 hq) (W17 z1) k9 P9
     exact⟨r,_,_,rfl,rfl,f1,f2,f3⟩
    ·exists _,rfl,rfl,_,rfl
     refine ite2 (λ_=>?_) (λ_=>?_)
     ·obtain⟨f0,hm,hv⟩:=q79 (l:=fs) (i:=0) {} {}
      refine⟨_,rfl,.inl ⟨rfl,_,SqL.of hr8⟩,_,rfl,b,_,_,_,rfl,rfl,SqT.of hb8,rfl,_,rfl,D,_,_,_,rfl,rfl,SqL.of hD8,hv,_,rfl,pen,5,_,rfl,P8,{},∅,∅,λu H9 k9 P9 z0 z1=>⟨_,_,rfl,rfl,_,rfl,_,_,rfl,rfl,hp,_,_,rfl,rfl,?_⟩⟩
      have b0:0<=(f0+u)%(2:Int)^L:=YM _ {}
      have b1:(f0+u)%(2:Int)^L<2^L:=YE _ hp
      obtain⟨f1,f2,f3⟩:=fin (low+(f0+u)%(2:Int)^L) H9 (W97 hp b0 hq) {} k9 P9
      exact⟨r,_,_,rfl,rfl,f1,f2,f3⟩
     ·refine⟨_,rfl,.inl ⟨rfl,_,SqL.of hr8⟩,_,rfl,b,_,_,_,rfl,rfl,SqT.of hb8,rfl,_,rfl,_,rfl,_,rfl,D,_,rfl,.inl (SqL.of hD8),pen,_,_,rfl,P8,{},by rw[ZN];lia,by rw[ZN];exact W69 c0 hl8 hi e2 c1,λu H9 k9 P9 z0 z1=>?_⟩
      rw[ZN]at z1
      obtain⟨fv,hm,hv⟩:=q79 (l:=fs) (i:=u) z0 z1
      obtain⟨y0,y1⟩:=e4 fv hm
      obtain⟨f1,f2,f3⟩:=fin (low+fv) H9 (W55 hp y0 y1 hq) (W17 y1) k9 P9
      exact⟨D,_,_,_,rfl,rfl,SqL.of (k9 _ _ (P5.fresh hD) hD8),hv,_,_,rfl,rfl,r,_,_,rfl,rfl,f1,f2,f3⟩
   ·rintro σ H8 ⟨ns,v8,rfl,hr8,hl8,hw8,hD8,k8,P8⟩
    have hln:ns.length<=60:={}
    exists _,rfl,rfl,_,rfl
    refine ite2 (λ_=>?_) (λ_=>?_)
    ·refine⟨_,rfl,r,ns,rfl,SqL.of hr8,{},λl ms hl pm _=>⟨_,rfl,?_⟩⟩
     have hl0:H l=none:=by
      obtain⟨xs,e⟩:=P8.at
      exact k8.free hl e
     exact q l ms _ (k8.own hl0) ((P8.new hl _).le {}) q12 hl0 (by rw[pm.length_eq];exact hln) (λx hx=>hw8 x (pm.mem_iff.mp hx))
    ·exact⟨_,rfl,q r ns _ k8 (P8.le {}) hr8 hr0 hln hw8⟩
 ·
  refine⟨_,rfl,pen,4,_,rfl,PP,{},∅,∅,λwv H4 k4 P4 w0 w1=>?_⟩
  refine⟨_,rfl,pen,4,_,rfl,P4,{},∅,∅,λc H5 k5 P5 c0 c1=>⟨_,_,rfl,rfl,1+c,rfl,{},{},λD hD=>?_⟩⟩
  have hpl:∃ xs,H5 pen=some (.lst xs):=P5.at
  have k05:Keep pen H H5:=kk.trans (k4.trans k5)
  have hD0:H D=none:=by obtain⟨xs,e⟩:=hpl;exact k05.free hD e
  have hbp:b≠pen:=P0.ne hb
  refine q162 (n:=(1+c).toNat) (sz {}) (λj ys H6=>∃ fs:List Int,ys=fs.map V.int/\fs.length=j/\(∀ x∈fs,0<=x/\x<(2:Int)^L)/\H6 D=some (.lst ys)/\Keep pen H H6/\Pen K H6 pen (n+5+j))
   ⟨[],rfl,rfl,λx hx=>absurd hx (by simp),q12,k05.own hD0,(P5.new hD _).le {}⟩ (λj ys H6 ⟨fs,e1,e2,_,e3,_⟩=>⟨e3,by rw[e1,ZN];exact e2⟩) ?_ ?_
  ·rintro j ys H6 hj ⟨fs,e1,e2,e4,e3,k6,P6⟩
   refine⟨_,rfl,_,rfl,pen,_,_,rfl,P6,{},hp,(W72 hp hq),λu3 H7 k7 P7 z0 z1=>?_⟩
   have e3':H7 D=some (.lst ys):=k7 _ _ (P5.fresh hD) e3
   refine⟨e3',fs++[u3],by rw[WS,e1] <;> rfl,by rw[ZU,e2] <;> rfl,λx hx=>?_,q12,(k6.trans k7).own hD0,(P7.other (P5.fresh hD) e3' _).le {}⟩
   rcases eC hx with h' | h'
   ·exact e4 x h'
   ·cases eD h'
    exact⟨z0,z1⟩
  ·rintro ys H6 ⟨fs,e1,e2,e4,e3,k6,P6⟩
   rw[e1]at e3
   refine⟨szb rfl,λr hr=>?_⟩
   have hr0:H r=none:=by
    obtain⟨xs,e⟩:=P6.at
    exact k6.free hr e
   have hrD:D≠r:=q25 e3 hr
   have P7:Pen K (upd H6 r (.lst [])) pen (n+10):=(P6.new hr _).le {}
   have hfs:0<fs.length:={}
   refine⟨_,rfl,mv,rfl,{},{},q101 (n:=mv.toNat) (λi σ H8=>∃(ns:List Int)(v8:Option V),σ=[some (.ref pen),some (.ref b),some (.int g),some (.int (2^L)),some (.int mv),some (.int wv),some (.ref D),some (.ref r),v8]/\H8 r=some (.lst (ns.map V.int))/\ns.length=i/\Wths low L ns /\
    H8 D=some (.lst (fs.map V.int))/\Keep pen H H8/\Pen K H8 pen (n+10+i)) ⟨[],none,rfl,q12,rfl,λx hx=>absurd hx (by simp),(by rw[q27 hrD];exact e3),k6.own hr0,P7.le {}⟩ ?_ ?_⟩
   ·rintro i σ H8 hi ⟨ns,v8,rfl,hr8,hl8,hw8,hD8,k8,P8⟩
    have hb8:H8 b=some (.tup [.int low,.int (L:Int)]):=k8 _ _ hbp hb
    have hpr:r≠pen:=λz=>by
     obtain⟨xs,e⟩:=P6.at
     rw[z,e]at hr
     cases hr
    have fin:∀(y:Int)(H9:Hp),low<=y->y<low+2^L->Keep pen H8 H9->Pen K H9 pen (n+10+i+1)->H9 r=some (.lst (ns.map V.int))/\(ns.map V.int).length<sizeLine /\
      ∃(ns':List Int)(v8':Option V),[some (V.ref pen),some (.ref b),some (.int g),some (.int (2^L)),some (.int mv),some (.int wv),some (.ref D),some (.ref r),some (.int (0+(i:Int)))]=[some (V.ref pen),some (.ref b),some (.int g),some (.int (2^L)),some (.int mv),some (.int wv),some (.ref D),some (.ref r),v8']/\(upd H9 r (.lst (ns.map V.int++[.int y]))) r=some (.lst (ns'.map V.int))/\ns'.length=i+1/\Wths low L ns' /\
       (upd H9 r (.lst (ns.map V.int++[.int y]))) D=some (.lst (fs.map V.int))/\Keep pen H (upd H9 r (.lst (ns.map V.int++[.int y])))/\Pen K (upd H9 r (.lst (ns.map V.int++[.int y]))) pen (n+10+((i+1:Nat):Int)):=by
     intro y H9 y0 y1 k9 P9
     have hr9:=k9 _ _ hpr hr8
     have hD9:=k9 _ _ (P5.fresh hD) hD8
     refine⟨hr9,by rw[ZN,hl8];exact q81 {},ns++[y],_,rfl,?_,by rw[ZU,hl8] <;> rfl,hw8.snoc y0 y1,by rw[q27 hrD];exact hD9,(k8.trans k9).own hr0,(P9.other hpr hr9 _).le {}⟩
     rw[q12,WS]
     rfl
    exists _,rfl,rfl,_,rfl
    refine ite2 (λ_=>?_) (λ_=>?_)
    ·refine⟨_,rfl,.inl ⟨rfl,_,SqL.of hr8⟩,_,rfl,b,_,_,_,rfl,rfl,SqT.of hb8,rfl,_,rfl,_,rfl,pen,_,_,rfl,P8,{},hp,(W72 hp hq),λu H9 k9 P9 z0 z1=>⟨_,_,rfl,rfl,?_⟩⟩
     obtain⟨f1,f2,f3⟩:=fin (low+u) H9 (W55 hp z0 z1 hq) (W17 z1) k9 P9
     exact⟨r,_,_,rfl,rfl,f1,f2,f3⟩
    ·exists _,rfl,rfl,_,rfl
     refine ite2 (λ_=>?_) (λ_=>?_)
     ·obtain⟨f0,hm,hv⟩:=q79 (l:=fs) (i:=0) {} {}
      refine⟨_,rfl,.inl ⟨rfl,_,SqL.of hr8⟩,_,rfl,b,_,_,_,rfl,rfl,SqT.of hb8,rfl,_,rfl,D,_,_,_,rfl,rfl,SqL.of hD8,hv,_,rfl,pen,5,_,rfl,P8,{},∅,∅,λu H9 k9 P9 z0 z1=>⟨_,_,rfl,rfl,_,rfl,_,_,rfl,rfl,hp,_,_,rfl,rfl,?_⟩⟩
      have b0:0<=(f0+u)%(2:Int)^L:=YM _ {}
      have b1:(f0+u)%(2:Int)^L<2^L:=YE _ hp
      obtain⟨f1,f2,f3⟩:=fin (low+(f0+u)%(2:Int)^L) H9 (W97 hp b0 hq) {} k9 P9
      exact⟨r,_,_,rfl,rfl,f1,f2,f3⟩
     ·refine⟨_,rfl,.inl ⟨rfl,_,SqL.of hr8⟩,_,rfl,b,_,_,_,rfl,rfl,SqT.of hb8,rfl,_,rfl,_,rfl,_,rfl,D,_,rfl,.inl (SqL.of hD8),pen,_,_,rfl,P8,{},by rw[ZN];lia,by rw[ZN];exact W69 c0 hl8 hi e2 c1,λu H9 k9 P9 z0 z1=>?_⟩
      rw[ZN]at z1
      obtain⟨fv,hm,hv⟩:=q79 (l:=fs) (i:=u) z0 z1
      obtain⟨y0,y1⟩:=e4 fv hm
      obtain⟨f1,f2,f3⟩:=fin (low+fv) H9 (W55 hp y0 y1 hq) (W17 y1) k9 P9
      exact⟨D,_,_,_,rfl,rfl,SqL.of (k9 _ _ (P5.fresh hD) hD8),hv,_,_,rfl,rfl,r,_,_,rfl,rfl,f1,f2,f3⟩
   ·rintro σ H8 ⟨ns,v8,rfl,hr8,hl8,hw8,hD8,k8,P8⟩
    have hln:ns.length<=60:={}
    exists _,rfl,rfl,_,rfl
    refine ite2 (λ_=>?_) (λ_=>?_)
    ·refine⟨_,rfl,r,ns,rfl,SqL.of hr8,{},λl ms hl pm _=>⟨_,rfl,?_⟩⟩
     have hl0:H l=none:=by
      obtain⟨xs,e⟩:=P8.at
      exact k8.free hl e
     exact q l ms _ (k8.own hl0) ((P8.new hl _).le {}) q12 hl0 (by rw[pm.length_eq];exact hln) (λx hx=>hw8 x (pm.mem_iff.mp hx))
    ·exact⟨_,rfl,q r ns _ k8 (P8.le {}) hr8 hr0 hln hw8⟩
noncomputable def grow(low:Int):Nat->List Int->Tr
 | 0,ns=>if ns=[]then .non else .many ns.length
 | e+1,ns=>if ns=[]then .non else .part (ns.map λn=>if n<low+2^e then 0 else 1) (grow low e (ns.filter λn=>decide (n<low+2^e))) (grow (low+2^e) e (ns.filter λn=>decide (low+2^e<=n)))
def q580(low:Int)(e:Nat):grow low e [] = .non:=by cases e <;> rfl
def q321{low:Int}{ns:List Int}(h:ns≠[]):grow low 0 ns = .many ns.length:=by unfold grow;rw[ZJ h]
def q219{low:Int}{e:Nat}{ns:List Int}(h:ns≠[]):grow low (e+1) ns = .part (ns.map λn=>if n<low+2^e then 0 else 1) (grow low e (ns.filter λn=>decide (n<low+2^e))) (grow (low+2^e) e (ns.filter λn=>decide (low+2^e<=n))):=by
 rw[grow,ZJ h]
def Tr.fit(b:Nat):Tr->Prop
 | .non=>True
 | .many _=>True
 | .part ms l r=>ms.length<=b/\Tr.fit b l/\Tr.fit b r
abbrev q483:Nat:=0
abbrev q264:Nat:=40
inductive q139(K:Fg)(e:Nat)(vs:List V)(H:Hp)(Q:VK)(E:XK):Prop
 |mk(low:Int)(a:Addr)(ns:List Int)(_:vs=[.int low,.int (e:Int),.ref a])(_:SqL K H a (ns.map V.int))(_:ns.length<=1000)(_:∀(H':Hp)(v:V),Same H H'->q58 H' v (grow low e ns)->Q v H')
def q484(K:Fg):Sp:=λvs H Q E=>∃ e,e<=q264/\q139 K e vs H Q E
def q485:z.C P w 41 "_law_tree" pn14 (q484 K):=by
 have sc:=q475
 refine z.d__law_tree.recur (k:=q483) (sp:=q139 K) q264 λe hen c__law_tree f fd F=>F.k sc λ_ _ _ s H _ Q _ hr h=>?_
 obtain⟨least,a,ns,rfl,ha,hl,q⟩:=h
 refine⟨_,(q11 (ps_if (q18 (op_eqL hr.units) (pv 2) (q38 q13) (q19 _))
 (q16 (q20 q65))
 q22)
 (q11 (ps_if (q18 op_eq (pv 1) q14 (q19 _))
 (q16 (q20 (q30 (pa2 q34 (pln z.len_ (pa1 (pv 2)))))))
 q22)
 (q11 (pst 3 sc.nd (pe_op q29 (pv 0) (pe_op q252 q14 (pe_op q47 (pv 1) q14))))
 (q11 (pst 4 sc.nd (q102 q191 () z.tuple_ q203 (pa1 (q133 (cl:=[("_law_half", s.heap.objs.size+1+0)]) (cn:=["_law_half"]) (N:=["_law_half"]) (fr:=[3]) (sc0:=q17 q104) rfl (q31 (pv 2)) (λC s₂ H₂ fp=>(q102 q437 () z.int_ q667 (pa1 (q49 op_ge (pv 0) (pv 1) (q19 _))))) (by ac_rfl) ⟨by ac_rfl,trivial⟩ rfl rfl rfl cok rfl))))
 (q11 (pst 5 sc.nd (pe_fn c__law_tree (hr.mono (ZH _)) () (pa3 (pv 0) (pe_op q47 (pv 1) q14) (q51 (cl:=[("_law_half", s.heap.objs.size+1+0)]) (cn:=["_law_half"]) (N:=["_law_half"]) (fr:=[3]) (sc0:=q17 q104) rfl (q31 (pv 2)) (λC s₂ H₂ fp=>(pv 0)) (λC s₂ H₂ fp=>(q18 op_lt (pv 0) (pv 1) (q19 _))) (by ac_rfl) ⟨by ac_rfl,trivial⟩ rfl rfl rfl cok rfl))))
 (q16 (q20 (q30 (pa4 q34 (pv 4) (pv 5) (pe_fn c__law_tree (hr.mono (ZH _)) () (pa3 (pv 3) (pe_op q47 (pv 1) q14) (q51 (cl:=[("_law_half", s.heap.objs.size+1+0)]) (cn:=["_law_half"]) (N:=["_law_half"]) (fr:=[3]) (sc0:=q17 q104) rfl (q31 (pv 2)) (λC s₂ H₂ fp=>(pv 0)) (λC s₂ H₂ fp=>(q18 op_ge (pv 0) (pv 1) (q19 _))) (by ac_rfl) ⟨by ac_rfl,trivial⟩ rfl rfl rfl cok rfl)))))))))))),?_⟩
 have hz:ns.length<=sizeLine:=sz hl
 refine⟨_,rfl,szb rfl,λp0 hp0=>?_⟩
 have s0:=q15 hp0 (.lst [])
 exists a,p0,ns,[],rfl,rfl,s0.seq ha,SqL.of q12,_,rfl
 have ha:=s0.seq ha
 refine ite2 (λc=>?_) (λc=>?_)
 ·have e0:ns=[]:=ZF c
  subst e0
  exact q _ .non s0 (by rw[q580];rfl)
 ·have hne:ns≠[]:=λz=>c (ZA z)
  generalize hH0:upd H p0 (.lst [])=H0 at *
  exists _,rfl,rfl,_,rfl
  refine ite2 (λc2=>?_) (λc2=>?_)
  ·have e0':((e:Nat):Int)=0:=V.int.inj (ZF c2)
   have e0:e=0:={}
   subst e0
   refine⟨_,rfl,a,_,rfl,.inl ha,szb rfl,λp hp=>q _ _ (s0.trans (q15 hp _)) ?_⟩
   rw[q321 hne]
   exists p,rfl
   rw[q12,ZN]
  ·cases e with
   | zero=>exact absurd (ZA rfl) c2
   | succ e=>
    have hen':e+1<=40:=hen
    have ee:(((e+1:Nat):Int)-1)=(e:Int):=W31
    exists _,rfl,_,rfl,_,_,rfl,rfl,_,_,rfl,rfl,⟨{},{},∅⟩,_,_,rfl,rfl
    dsimp only
    rw[ee,q303]
    refine⟨_,rfl,a,rfl,⟨_,ha⟩,λD hD=>?_⟩
    refine q681 (g:=λn=>.int (if n<least+2^e then 0 else 1)) ha hD hz (λn _ H1 Q1 _ q1=>?_) ?_
    ·refine⟨_,rfl,_,rfl,_,_,rfl,rfl,.inr ⟨_,rfl,?_⟩⟩
     by_cases c3:n<least+2^e
     ·rw[ZL c3]at q1
      rw[ZJ (by intro z;have:=ZF z;lia)]
      exact q1
     ·rw[ZJ c3]at q1
      rw[ZL (ZA {})]
      exact q1
    have s1:=q15 hD (.lst (ns.map λn=>V.int (if n<least+2^e then 0 else 1)))
    refine⟨D,_,rfl,SqL.of q12,λm H2 s2 hm=>?_⟩
    have s02:Same H0 H2:=s1.trans s2
    have hm':TupF H2 m ((ns.map λn=>if n<least+2^e then(0:Int)else 1).map V.int):=by rw[map_map];exact hm
    refine⟨_,rfl,_,rfl,_,_,rfl,rfl,_,rfl,a,rfl,⟨_,s02.seq ha⟩,λD2 hD2=>?_⟩
    refine q103 (p:=λn=>decide (n<least+2^e)) (g:=V.int) (s02.seq ha) hD2 hz (λn _ H1 Q1 _ q1=>⟨_,rfl,_,rfl,_,_,rfl,rfl,_,rfl,q1⟩) (λn _ _ H1 Q1 _ q1=>⟨_,rfl,q1⟩) ?_
    refine⟨least,D2,_,congrArg (λt=>[V.int least,V.int t,V.ref D2]) ee,SqL.of q12,ZQ (YC _ _) hl,λH3 lo s3 hlo=>?_⟩
    have s03:Same H0 H3:=s02.trans ((q15 hD2 _).trans s3)
    refine⟨_,rfl,_,rfl,_,rfl,_,rfl,_,_,rfl,rfl,_,rfl,a,rfl,⟨_,s03.seq ha⟩,λD3 hD3=>?_⟩
    refine q103 (p:=λn=>decide (least+2^e<=n)) (g:=V.int) (s03.seq ha) hD3 hz (λn _ H1 Q1 _ q1=>⟨_,rfl,_,rfl,_,_,rfl,rfl,_,rfl,q1⟩) (λn _ _ H1 Q1 _ q1=>⟨_,rfl,q1⟩) ?_
    refine⟨least+2^e,D3,_,congrArg (λt=>[V.int (least+2^e),V.int t,V.ref D3]) ee,SqL.of q12,ZQ (YC _ _) hl,λH4 hi s4 hhi=>?_⟩
    have s34:Same H3 H4:=(q15 hD3 _).trans s4
    refine⟨szb rfl,λp hp=>q _ _ (s0.trans (s03.trans (s34.trans (q15 hp _)))) ?_⟩
    rw[q219 hne]
    have sp:=q15 hp (.tup [.str "part", .ref m,lo,hi])
    have s24:Same H2 H4:=(q15 hD2 _).trans (s3.trans s34)
    exact⟨p,m,lo,hi,rfl,q12,(hm'.same s24).same sp,(hlo.same s34).same sp,hhi.same sp⟩
noncomputable def trSize:Tr->Int
 | .non=>0
 | .many n=>n
 | .part ms _ _=>ms.length
noncomputable def trHalf:Tr->Int->Tr
 | .part _ l r,mk=>if mk=0 then l else r
 | _,_=>.non
inductive q379(u0:Fg)(vs:List V)(H:Hp)(Q:VK)(E:XK):Prop
 |mk(v:V)(t:Tr)(_:vs=[v])(_:q58 H v t)(_:Q (.int (trSize t)) H)
def q631:z.C P w 1 "size_of" ["tree"] (q379 K):=by
 have sc:=q627
 specialize z.d_size_of
 obtain⟨v,t,rfl,ht,q⟩:=h
 refine⟨_,(q11 (ps_if (q18 q253 (pv 0) q65 (q19 _))
 (q16 (q20 q14))
 q22)
 (q11 (ps_if (q18 op_eq (pix q26 (pv 0) q14) q34 (q19 _))
 (q16 (q20 (pix q26 (pv 0) q14)))
 q22)
 (q16 (q20 (pln z.len_ (pa1 (pix q26 (pv 0) q14))))))),?_⟩
 exists _,rfl,rfl,_,rfl
 cases t with
 | non=>
  cases ht
  exact ite2 (λc=>q) (λc=>absurd (ZA rfl) c)
 | many n=>
  obtain⟨a,rfl,ha⟩:=ht
  refine ite2 (λc=>absurd (ZF c) (by intro z;cases z)) (λc=>?_)
  exists _,rfl,a,_,_,_,rfl,rfl,SqT.of ha,rfl,rfl,_,rfl
  refine ite2 (λc=>?_) (λc=>absurd (ZA rfl) c)
  exact⟨_,rfl,a,_,_,_,rfl,rfl,SqT.of ha,rfl,q⟩
 | part ms l r=>
  obtain⟨a,m,x,y,rfl,ha,hm,hl,hr'⟩:=ht
  refine ite2 (λc=>absurd (ZF c) (by intro z;cases z)) (λc=>?_)
  exists _,rfl,a,_,_,_,rfl,rfl,SqT.of ha,rfl,rfl,_,rfl
  refine ite2 (λc=>absurd (ZF c) ∅) (λc=>?_)
  exists _,rfl,a,_,_,_,rfl,rfl,SqT.of ha,rfl,m,_,rfl,.inr hm.sq
  rw[ZN]
  exact q
inductive q380(u0:Fg)(vs:List V)(H:Hp)(Q:VK)(E:XK):Prop
 |mk(v:V)(t:Tr)(mk:Int)(_:vs=[v,.int mk])(_:q58 H v t)(_:(mk=0\/mk=1))(_:∀ u,q58 H u (trHalf t mk)->Q u H)
def q381:z.C P w 1 "half_of" ["tree", "mark"] (q380 K):=by
 have sc:=q626
 specialize z.d_half_of
 obtain⟨v,t,mk,rfl,ht,hmk,q⟩:=h
 refine⟨_,(q11 (ps_if (PW.pt (pw_or (q18 q253 (pv 0) q65 (q19 _)) (q111 (q18 op_eq (pix q26 (pv 0) q14) q34 (q19 _)))))
 (q16 (q20 q65))
 q22)
 (q16 (q20 (pix q26 (pv 0) (pe_op q29 q14 (pv 1)))))),?_⟩
 exists _,rfl,rfl,_,rfl
 cases t with
 | non=>
  cases ht
  exact ite2 (λc=>q .non rfl) (λc=>absurd (ZA rfl) c)
 | many n=>
  obtain⟨a,rfl,ha⟩:=ht
  refine ite2 (λc=>absurd (ZF c) (by intro z;cases z)) (λc=>?_)
  exists _,rfl,a,_,_,_,rfl,rfl,SqT.of ha,rfl,rfl,_,rfl
  exact ite2 (λc=>q .non rfl) (λc=>absurd (ZA rfl) c)
 | part ms l r=>
  obtain⟨a,m,x,y,rfl,ha,hm,hl,hr'⟩:=ht
  refine ite2 (λc=>absurd (ZF c) (by intro z;cases z)) (λc=>?_)
  exists _,rfl,a,_,_,_,rfl,rfl,SqT.of ha,rfl,rfl,_,rfl
  refine ite2 (λc=>absurd (ZF c) ∅) (λc=>?_)
  exists _,rfl,_,rfl,_,_,rfl,rfl
  rcases hmk with rfl | rfl
  ·exact⟨a,_,_,_,rfl,rfl,SqT.of ha,rfl,q x hl⟩
  ·exact⟨a,_,_,_,rfl,rfl,SqT.of ha,rfl,q y hr'⟩
noncomputable def idxs(p:Int->Bool):List Int->List Nat
 | []=>[]
 | o::os=>if p o=true then 0::(idxs p os).map (· + 1) else(idxs p os).map (· + 1)
theorem q486:∀(os:List Int)(k:Nat),(∀ o∈os,p o=(q o&&r (f o)))->(idxs p os)[k]? = ((idxs r ((os.filter q).map f))[k]?).bind λj=>(idxs q os)[j]?
 | [],k,_=>by simp[idxs]
 | o::os,k,h=>by
  have h0:=h o (WD ..)
  have ih:=λk=>q486 (p:=p) (q:=q) (r:=r) (f:=f) os k λx hx=>h x (ZY _ hx)
  cases hq:q o with
  | false=>
   have hp:p o=false:=by rw[h0,hq];rfl
   simp only[idxs,hp,hq,YO,Bool.false_eq_true,if_false,WM,ih]
   cases(idxs r ((os.filter q).map f))[k]? <;> simp
  | true=>
   cases hr:r (f o) with
   | false=>
    have hp:p o=false:=by rw[h0,hq,hr];rfl
    simp only[idxs,hp,hq,hr,YO,Bool.false_eq_true,if_false,if_true,map_cons,WM,ih]
    cases(idxs r ((os.filter q).map f))[k]? <;> simp
   | true=>
    have hp:p o=true:=by rw[h0,hq,hr];rfl
    cases k with
    | zero=>simp[idxs,hp,hq,hr,YO]
    | succ k=>
     simp only[idxs,hp,hq,hr,YO,if_true,map_cons,getElem?_cons_succ,WM,ih]
     cases(idxs r ((os.filter q).map f))[k]? <;> simp
theorem q487:∀(os:List Int),idxs (λ_=>true) os=List.range os.length
 | []=>rfl
 | o::os=>by
  rw[idxs,ZL rfl,q487 os,WT,range_succ_eq_map]
noncomputable def inW:Nat->Int->List Int->Bool
 | _,_,[]=>true
 | 0,_,_::_=>false
 | e+1,o,w::ws=>(o/2^e==w)&&inW e (o%2^e) ws
noncomputable def mk0(e:Nat)(o:Int):Int:=if o<2^e then 0 else 1
noncomputable def halfO(e:Nat)(w:Int)(os:List Int):List Int:=(os.filter λo=>mk0 e o==w).map λo=>o%2^e
def q717{e:Nat}{o:Int}(h0:0<=o)(h1:o<2^(e+1)):o/2^e=mk0 e o:=by
 have hp:(0:Int)<2^e:=Int.pow_pos ∅
 have hs:(2:Int)^(e+1)=2^e+2^e:=by rw[YK];exact W36
 unfold mk0
 split
 ·exact Int.ediv_eq_zero_of_lt h0 (by assumption)
 ·have e1:o=(o-2^e)+1*2^e:={}
  rw[e1,Int.add_mul_ediv_right _ _ {},Int.ediv_eq_zero_of_lt {} {}]
  rfl
noncomputable def spots(L:Nat)(os ws:List Int):List Nat:=idxs (λo=>inW L o ws) os
def q632{e:Nat}{os ws:List Int}{w:Int}(h:∀ o∈os,0<=o/\o<(2:Int)^(e+1))(k:Nat) :
  (spots (e+1) os (w::ws))[k]? = ((spots e (halfO e w os) ws)[k]?).bind λj=>(idxs (λo=>mk0 e o==w) os)[j]?:=by
 unfold spots halfO
 refine q486 os k λo ho=>?_
 obtain⟨h0,h1⟩:=h o ho
 show((o/2^e==w)&&inW e (o%2^e) ws)=_
 rw[q717 h0 h1]
noncomputable def plc(mk:Int):List Int->Int->Nat->Option Nat
 | [],_,_=>none
 | m::r,l,i=>if m=mk then(if l=0 then some i else plc mk r (l-1) (i+1))else plc mk r l (i+1)
theorem q419{w:Int}{f:Int->Int}:∀(os:List Int)(j i:Nat),plc w (os.map f) (j:Int) i=((idxs (λo=>f o==w) os)[j]?).map (· + i)
 | [],j,i=>by simp[plc,idxs]
 | o::os,j,i=>by
  rw[map_cons,plc,idxs]
  by_cases c:f o=w
  ·rw[ZL c,ZL (beq_iff_eq.mpr c)]
   cases j with
   | zero=>simp
   | succ j=>
    rw[ZJ {},show(((j+1:Nat):Int)-1)=(j:Int) by exact W31,q419 os j (i+1),getElem?_cons_succ,WM,Option.map_map]
    congr 1
    funext x
    show x+(i+1)=(x+1)+i
    exact W64
  ·rw[ZJ c,ZJ (by rw[beq_iff_eq];exact c),q419 os j (i+1),WM,Option.map_map]
   congr 1
   funext x
   show x+(i+1)=(x+1)+i
   lia
def InO(L:Nat)(os:List Int):Prop:=∀ o∈os,0<=o/\o<(2:Int)^L
noncomputable def growO:Nat->List Int->Tr
 | 0,os=>if os=[]then .non else .many os.length
 | e+1,os=>if os=[]then .non else .part (os.map (mk0 e)) (growO e (os.filter λo=>decide (o<2^e))) (growO e ((os.filter λo=>decide ((2:Int)^e<=o)).map λo=>o-2^e))
def q125(e:Nat):growO e [] = .non:=by cases e <;> rfl
def q382{os:List Int}(h:os≠[]):growO 0 os = .many os.length:=by unfold growO;rw[ZJ h]
def q96{e:Nat}{os:List Int}(h:os≠[]):growO (e+1) os = .part (os.map (mk0 e)) (growO e (os.filter λo=>decide (o<2^e))) (growO e ((os.filter λo=>decide ((2:Int)^e<=o)).map λo=>o-2^e)):=by
 rw[growO,ZJ h]
def q718{e:Nat}{os:List Int}(h:InO (e+1) os):halfO e 0 os=os.filter λo=>decide (o<2^e):=by
 unfold halfO
 have e1:(os.filter λo=>mk0 e o==0)=os.filter λo=>decide (o<2^e):=filter_congr λo _=>by
  unfold mk0
  by_cases c:o<2^e
  ·rw[ZL c,ZA c];rfl
  ·rw[ZJ c,ZI c];rfl
 rw[e1]
 have e2:∀ o∈(os.filter λo=>decide (o<(2:Int)^e)),o%2^e=o:=λo ho=>by
  obtain⟨h1,h2⟩:=List.mem_filter.mp ho
  exact Int.emod_eq_of_lt (h o h1).1 (ZF h2)
 rw[map_congr_left e2,map_id']
def q719{e:Nat}{os:List Int}(h:InO (e+1) os):halfO e 1 os=(os.filter λo=>decide ((2:Int)^e<=o)).map λo=>o-2^e:=by
 unfold halfO
 have e1:(os.filter λo=>mk0 e o==1)=os.filter λo=>decide ((2:Int)^e<=o):=filter_congr λo _=>by
  unfold mk0
  by_cases c:o<2^e
  ·rw[ZL c,ZI (W47 c)];rfl
  ·rw[ZJ c,ZA (W13 c)];rfl
 rw[e1]
 refine map_congr_left λo ho=>?_
 obtain⟨h1,h2⟩:=List.mem_filter.mp ho
 have h3:(2:Int)^e<=o:=ZF h2
 have h4:=(h o h1).2
 have hs:(2:Int)^(e+1)=2^e+2^e:=by rw[YK];lia
 have e3:o=(o-2^e)+2^e:={}
 have e4:o%2^e=(o-2^e)%2^e:=by rw[e3,Int.add_emod_right];congr 1;lia
 rw[e4]
 exact Int.emod_eq_of_lt {} {}
def q45{e:Nat}{os:List Int}{w:Int}:InO e (halfO e w os):=λo ho=>by
 obtain⟨x,_,rfl⟩:=eE ho
 have hp:(0:Int)<2^e:=Int.pow_pos ∅
 exact⟨YM _ {},YE _ hp⟩
def q126{e:Nat}{os:List Int}{w:Int}:(halfO e w os).length<=os.length:=by
 unfold halfO
 rw[ZN]
 exact YC _ _
def q383{e:Nat}{os:List Int}{w:Int}(h:InO (e+1) os)(hw:w=0\/w=1):trHalf (growO (e+1) os) w=growO e (halfO e w os):=by
 by_cases hn:os=[]
 ·subst hn
  rw[q125]
  show Tr.non=growO e ([]:List Int)
  rw[q125]
 ·rw[q96 hn]
  rcases hw with rfl | rfl
  ·rw[q718 h];rfl
  ·rw[q719 h];rfl
def q633(e:Nat)(os:List Int):trSize (growO e os)=os.length:=by
 by_cases h:os=[]
 ·rw[h,q125];rfl
 ·cases e with
  | zero=>rw[q382 h];rfl
  | succ e=>
   rw[q96 h]
   show((List.map _ os).length:Int)=_
   rw[ZN]
def q720{L:Nat}:spots L [] ws=[]:=rfl
def q535{L:Nat}{os:List Int}:spots L os []=List.range os.length:=by
 unfold spots
 have e:(λo=>inW L o [])=λ_=>true:=by
  funext o
  cases L <;> rfl
 rw[e,q487]
def q634{e:Nat}{os ws:List Int}{w:Int}(h:InO (e+1) os)(k:Nat) :
  (spots (e+1) os (w::ws))[k]? = ((spots e (halfO e w os) ws)[k]?).bind λj=>plc w (os.map (mk0 e)) (j:Int) 0:=by
 rw[q632 h]
 congr 1
 funext j
 rw[q419]
 simp
noncomputable def B01(l:List Int):Prop:=∀ m∈l,m=0\/m=1
def q488{l:List Int}{i:Nat}{m:Int}(h:l[i]? = some m):l.drop i=m::l.drop (i+1):=by
 obtain⟨h1,h2⟩:=eA h
 rw[drop_eq_getElem_cons h1,h2]
def plc_cons{mk m l:Int}{i:Nat}:plc mk (m::r) l i=if m=mk then(if l=0 then some i else plc mk r (l-1) (i+1))else plc mk r l (i+1):=rfl
def cut_take(ms:List Int)(k:Nat):cutV (ms.map V.int) none (some (k:Int))=(ms.take k).map V.int:=by
 unfold cutV
 rw[HT.q754,HT.q753,drop_zero,Nat.sub_zero,map_take]
 by_cases h:k<=(ms.map V.int).length
 ·rw[Nat.min_eq_left h]
 ·rw[Nat.min_eq_right {},YF,WZ {}]
inductive q322(K:Fg)(vs:List V)(H:Hp)(Q:VK)(E:XK):Prop
 |mk(t:Addr)(ms:List Int)(mk num:Int)(p:Nat)(_:vs=[.ref t,.int mk,.int num])(_:SqT K H t (ms.map V.int))(_:plc mk ms num 0=some p)(_:∀ H',Same H H'->Q (.int (p:Nat)) H')
def q536:z.C P w 1 "place_of" ["marks", "mark", "number"] (q322 K):=by
 have sc:=q528
 specialize z.d_place_of
 obtain⟨t,ms,mk,num,p0,rfl,ht,hp0,q⟩:=h
 refine⟨_,(q11 (pst 3 sc.nd (pv 2))
 (q11 (q62 PassesOwn.never rfl (pi_enum rfl z.enumerate_ (pa1 (pv 0))) (q151 rfl (q28 (pgn 4 sc.nd) (q28 (pgn 5 sc.nd) q71)))
 (q16 (ps_if (q18 op_eq (pv 5) (pv 1) (q19 _))
 (q11 (ps_if (q18 op_eq (pv 3) q14 (q19 _))
 (q16 (q20 (pv 4)))
 q22)
 (q16 (pst 3 sc.nd (pe_op q47 (pv 3) q14))))
 q22)))
 (q16 q201))),?_⟩
 refine⟨_,rfl,_,rfl,t,rfl,⟨_,ht⟩,for_enum (xs:=ms.map V.int) (λi σ H2=>∃(L:Int)(v u:Option V),σ=[some (.ref t),some (.int mk),some (.int num),some (.int L),v,u]/\Same H H2/\plc mk (ms.drop i) L i=some p0)
  ⟨num,none,none,rfl,Same.refl H,hp0⟩ (λi σ H2 _ ⟨_,_,_,_,s2,_⟩=>s2.seqT ht) ?_ ?_⟩
 ·rintro i x σ H2 p hx ⟨L,v,u,rfl,s2,hp⟩ hpn
  obtain⟨m,gm,rfl⟩:∃ m,ms[i]? = some m/\V.int m=x:=by
   rw[WM]at hx
   cases e:ms[i]? with
   | none=>rw[e]at hx;cases hx
   | some m=>rw[e]at hx;exact⟨m,rfl,Option.some.inj hx⟩
  have s3:Same H (upd H2 p (.tup [.int (i:Nat),.int m])):=s2.trans (q15 hpn _)
  rw[q488 gm,plc_cons]at hp
  exists p,_,rfl,SqT.of q12,rfl,_,_,rfl,_,_,rfl,rfl
  exists _,rfl,_,rfl,rfl,_,rfl
  refine ite2 (λc=>?_) (λc=>?_)
  ·have c':m=mk:=V.int.inj (ZF c)
   rw[ZL c']at hp
   exists _,rfl,rfl,_,rfl
   refine ite2 (λc2=>?_) (λc2=>?_)
   ·have c2':L=0:=V.int.inj (ZF c2)
    rw[ZL c2']at hp
    cases hp
    exact⟨_,rfl,q _ s3⟩
   ·have c2':¬ L=0:=λz=>c2 (by rw[z];exact ZA rfl)
    rw[ZJ c2']at hp
    exact⟨_,rfl,_,_,rfl,rfl,_,_,_,rfl,s3,hp⟩
  ·have c':¬ m=mk:=λz=>c (by rw[z];exact ZA rfl)
   rw[ZJ c']at hp
   exact⟨_,_,_,rfl,s3,hp⟩
 ·rintro σ H2 ⟨L,v,u,rfl,s2,hp⟩
  rw[ZN,drop_length]at hp
  cases hp
def all_flat(ms:List Int):(ms.map V.int).all flatV=true:=by
 rw[all_eq_true]
 intro x hx
 obtain⟨i,_,rfl⟩:=eE hx
 rfl
def q721(ms:List Int)(m:Int):(ms.map V.int).countP (λy=>eqV y (.int m))=ms.count m:=by
 rw[countP_map,count_eq_countP]
 rfl
inductive q581(u0:Fg)(vs:List V)(H:Hp)(Q:VK)(E:XK):Prop
 |mk(t:Addr)(ms:List Int)(mk:Int)(pl:Nat)(_:vs=[.ref t,.int mk,.int (pl:Int)])(_:TupF H t (ms.map V.int))(_:∀ H',Same H H'->Q (.int ((ms.take pl).count mk:Nat)) H')
def q582:z.C P w 1 "ahead" ["marks", "mark", "place"] (q581 K):=by
 have sc:=sc_ahead
 specialize z.d_ahead
 obtain⟨t,ms,mk,pl,rfl,ht,q⟩:=h
 exists _,(q16 (q20 (pe_bmF PySem.F.plainAttrs_tuple PySem.F.slot_tuple_count PySem.F.type_tuple_count q670 (q130 q669 (pv 0) q188 (q189 (q44 (q652 rfl) () z.max_ bt_max (pa2 (pv 2) q14)))) (pa1 (pv 1)))))
 have e1:(if(0:Int) > (pl:Int) then(0:Int) else(pl:Int))=(pl:Int):=ZJ {}
 refine⟨_,rfl,_,rfl,_,_,rfl,_,rfl,t,_,rfl,ht,λp H1 s1 h1=>?_⟩
 rw[e1,cut_take]at h1
 obtain⟨o,ho,hc,hd⟩:=id h1
 exists⟨p,o,_,rfl,ho,hc,hd⟩,_,rfl,p,_,_,rfl,rfl,h1.sq,rfl,all_flat _
 rw[q721]
 exact q H1 s1
abbrev G3:=List Int×Nat×Nat
noncomputable def GoodS(L:Nat)(g:G3):Prop:=InO L g.1/\g.2.1<=g.2.2/\g.2.2<=g.1.length/\g.1.length<=300
noncomputable def led1(e:Nat)(w:Int)(g:G3):G3:=(halfO e w g.1,((g.1.map (mk0 e)).take g.2.1).count w,((g.1.map (mk0 e)).take g.2.2).count w)
noncomputable def ledS:Nat->List Int->G3->G3
 | _,[],g=>g
 | 0,_::_,g=>g
 | e+1,w::ws,g=>ledS e ws (led1 e w g)
def q56(L:Nat)(g:G3):ledS L [] g=g:=by cases L <;> rfl
def q67(e:Nat)(w:Int)(ws:List Int)(g:G3):ledS (e+1) (w::ws) g=ledS e ws (led1 e w g):=rfl
def q284(e:Nat)(w:Int)(os:List Int):(os.map (mk0 e)).count w=(halfO e w os).length:=by
 unfold halfO
 rw[ZN,count_eq_countP,countP_map,countP_eq_length_filter]
 rfl
def q105{e:Nat}{w:Int}(h:GoodS (e+1) g):GoodS e (led1 e w g):=by
 obtain⟨h1,h2,h3,h4⟩:=h
 refine⟨q45,?_,?_,ZQ q126 h4⟩
 ·exact(take_sublist_take_left h2).count_le w
 ·show((g.1.map (mk0 e)).take g.2.2).count w<=(halfO e w g.1).length
  rw[<- q284]
  exact(take_sublist _ _).count_le w
def q489{e:Nat}{w:Int}{g:G3}(h:halfO e w g.1=[]):led1 e w g=([],0,0):=by
 have z:∀ k,((g.1.map (mk0 e)).take k).count w=0:=λk=>by
  have h1:=(take_sublist k (g.1.map (mk0 e))).count_le w
  rw[q284,h,length_nil]at h1
  lia
 unfold led1
 rw[h,z,z]
theorem q583:∀(e:Nat)(ws:List Int),ledS e ws ([],0,0)=([],0,0)
 | e,[]=>q56 e _
 | 0,_::_=>rfl
 | e+1,w::ws=>by
  rw[q67,q489 (e:=e) (w:=w) (g:=([],0,0)) rfl]
  exact q583 e ws
noncomputable def manyG(gs:List G3):Int:=(gs.map λg=>(g.2.2:Int)-g.2.1).sum
def cnt01{e:Nat}(os:List Int)(k:Nat):((os.map (mk0 e)).take k).count 0+((os.map (mk0 e)).take k).count 1=min k os.length:=by
 have z:∀ l:List Int,(l.map (mk0 e)).count 0+(l.map (mk0 e)).count 1=l.length:=λl=>by
  induction l with
  | nil=>rfl
  | cons x l ih=>
   rw[map_cons,count_cons,count_cons,WT]
   unfold mk0 at ih ⊢
   by_cases c:x<2^e
   ·simp only[c,if_true]at ih ⊢
    simp
    lia
   ·simp only[c,if_false]at ih ⊢
    simp
    lia
 rw[<- map_take,z,length_take]
theorem q384{p q:Int->Bool}:∀{os:List Int},(∀ o∈os,p o=q o)->idxs p os=idxs q os
 | [],_=>rfl
 | o::os,h=>by
  rw[idxs,idxs,h o (WD ..),q384 λx hx=>h x (ZY _ hx)]
noncomputable def StrAt(H:Hp)(L:Nat)(v:V)(g:G3):Prop:=∃ t u,v = .ref t/\H t=some (.tup [u,.int (g.2.1:Int),.int (g.2.2:Int)])/\q58 H u (growO L g.1)
noncomputable def GatAt(H:Hp)(L:Nat)(xs:List V)(gs:List G3):Prop:=xs.length=gs.length /\ ∀(j:Nat)(x:V)(g:G3),xs[j]? = some x->gs[j]? = some g->StrAt H L x g
def StrAt.tk{L:Nat}(h:StrAt H L v g)(k:TKeep H H'):StrAt H' L v g:=by
 obtain⟨t,u,e,h1,h2⟩:=h
 exact⟨t,u,e,(k _ _).1 h1,h2.tk k⟩
def GatAt.tk{L:Nat}(h:GatAt H L xs gs)(k:TKeep H H'):GatAt H' L xs gs:=⟨h.1,λj x g h1 h2=>(h.2 j x g h1 h2).tk k⟩
def GatAt.same{L:Nat}(h:GatAt H L xs gs)(s:Same H H'):GatAt H' L xs gs:=h.tk (.same s)
def GatAt.nil(H:Hp)(L:Nat):GatAt H L [] []:=⟨rfl,λj x g h1 _=>by simp at h1⟩
def q93{α:Type}{l:List α}{x y:α}{j:Nat}(h:(l++[x])[j]? = some y):(j<l.length/\l[j]? = some y)\/(j=l.length/\y=x):=by
 by_cases hj:j<l.length
 ·rw[YX hj]at h
  exact .inl ⟨hj,h⟩
 ·have hlt:j<(l++[x]).length:=(eA h).1
  rw[ZU,length_singleton]at hlt
  have e:j=l.length:={}
  subst e
  rw[YT (ZH _),Nat.sub_self]at h
  exact .inr ⟨rfl,(Option.some.inj h).symm⟩
def GatAt.snoc{L:Nat}(h:GatAt H L xs gs)(hx:StrAt H L x g):GatAt H L (xs++[x]) (gs++[g]):=by
 refine⟨by rw[ZU,ZU,h.1] <;> rfl,λj y k h1 h2=>?_⟩
 have hl:=h.1
 rcases q93 h1 with ⟨a1,a2⟩ | ⟨a1,a2⟩
 ·rcases q93 h2 with ⟨b1,b2⟩ | ⟨b1,b2⟩
  ·exact h.2 j y k a2 b2
  ·lia
 ·rcases q93 h2 with ⟨b1,b2⟩ | ⟨b1,b2⟩
  ·lia
  ·rw[a2,b2];exact hx
def Same.own(k:Same H H')(hr:H r=none):Same H (upd H' r o):=λc u z=>by
 rw[q27 (q25 z hr)]
 exact k c u z
def q722{H:Hp}{e:Nat}{os:List Int}(h:q58 H .non (growO e os)):os=[]:=by
 apply Classical.byContradiction
 intro hn
 cases e with
 | zero=>
  rw[q382 hn]at h
  obtain⟨a,z,_⟩:=h
  cases z
 | succ e=>
  rw[q96 hn]at h
  obtain⟨a,m,x,y,z,_⟩:=h
  cases z
noncomputable def q354(K:Fg):Sp:=λvs H Q _=>∃(v:V)(wy:Addr)(L:Nat)(ws:List Int)(g:G3),vs=[v,.ref wy]/\StrAt H L v g/\GoodS L g/\SqT K H wy (ws.map V.int)/\ws.length<=L/\B01 ws /\
 ∀(H':Hp)(v':V),Same H H'->StrAt H' (L-ws.length) v' (ledS L ws g)->Q v' H'
inductive sp_led(K:Fg)(vs:List V)(H:Hp)(Q:VK)(E:XK):Prop
 |mk(ga wy:Addr)(xs:List V)(L:Nat)(ws:List Int)(gs:List G3)(_:vs=[.ref ga,.ref wy])(_:SqL K H ga xs)(_:GatAt H L xs gs)(_:(∀ g∈gs,GoodS L g))(_:gs.length<=1000)(_:SqT K H wy (ws.map V.int))(_:ws.length<=L)(_:B01 ws)(_:∀(H':Hp)(D:Addr)(ys:List V),Same H H'->H' D=some (.lst ys)->H D=none->GatAt H' (L-ws.length) ys (gs.map (ledS L ws))->Q (.ref D) H')
inductive q385(K:Fg)(vs:List V)(H:Hp)(Q:VK)(E:XK):Prop
 |mk(ga:Addr)(xs:List V)(L:Nat)(gs:List G3)(_:vs=[.ref ga])(_:SqL K H ga xs)(_:GatAt H L xs gs)(_:gs.length<=1000)(_:∀ H',Same H H'->Q (.int (manyG gs)) H')
def q37:z.C P w 1 "many_in" ["gathering"] (q385 K):=by
 have sc:=q628
 specialize z.d_many_in
 obtain⟨ga,xs,L,gs,rfl,hga,hg,hl,q⟩:=h
 exists _,(q16 (q20 (q44 (q449 rfl) () z.sum_ bt_sum (pa1 (q133 (cl:=[]) (cn:=[]) (N:=[]) (fr:=[]) (sc0:=q17 q310) rfl (q31 (pv 0)) (λC s₂ H₂ fp=>(pe_op q47 (pix (q89 (K:=K) rfl) (pv 0) q14) (pix (q89 (K:=K) rfl) (pv 0) q14))) (by ac_rfl) trivial rfl rfl rfl cok rfl)))))
 have hxl:=hg.1
 refine⟨_,rfl,ga,rfl,⟨_,hga⟩,λD hD=>?_⟩
 refine q64 (xs:=xs) (sz {}) (λi ys H2=>ys=(gs.take i).map (λg=>V.int ((g.2.2:Int)-g.2.1))/\i<=gs.length/\H2=upd H D (.lst ys)) ⟨by simp,WA _,rfl⟩ (λi ys H2 ⟨_,_,e⟩=>by rw[e];exact(q15 hD _).seq hga)
  (λi ys H2 ⟨e1,e2,e3⟩=>⟨by rw[e3];exact q12,by rw[e1,ZN,length_take];lia⟩) ?_ ?_
 ·rintro i x ys H2 hx ⟨e1,e2,rfl⟩
  have hi:i<gs.length:=by rw[<- hxl];exact(eA hx).1
  have gi:gs[i]? = some gs[i]:=ZR hi
  generalize gs[i]=g at gi
  obtain⟨t,u,rfl,ht,_⟩:=hg.2 i x g hx gi
  have ht':SqT K (upd H D (.lst ys)) t [u,.int (g.2.1:Int),.int (g.2.2:Int)]:=SqT.of (q15 hD _ _ _ ht)
  refine⟨_,rfl,t,_,_,_,rfl,rfl,ht',rfl,_,rfl,t,_,_,_,rfl,rfl,ht',rfl,_,_,rfl,rfl,q12,?_,{},by rw[q85]⟩
  rw[WW,gi,WS,<- e1]
  rfl
 ·rintro ys H2 ⟨e1,e2,rfl⟩
  rw[hxl,YF]at e1
  refine⟨D,gs.map (λ(g:G3)=>(g.2.2:Int)-(g.2.1:Int)),rfl,SqL.of ?_,q _ (q15 hD _)⟩
  rw[q12,e1,map_map]
  rfl
def q355:z.C P w 2 "led_stretch" ["stretch", "way"] (q354 K):=by
 have sc:=q339
 refine z.d_led_stretch.cal λf fd F=>F.ok sc (by intro vs H Q E h;(repeat (first | obtain⟨rfl,_⟩:=h | obtain⟨_,h⟩:=h));rfl) λ_ _ _ s H _ Q _ hr h=>?_
 obtain⟨v,wy,L,ws,g,rfl,⟨t,u,rfl,ht,hu⟩,hgood,hw,hwl,h01,q⟩:=h
 refine⟨_,(q11 (pst 2 sc.nd (pix q26 (pv 0) q14))
 (q11 (pst 3 sc.nd (pix q26 (pv 0) q14))
 (q11 (pst 4 sc.nd (pix q26 (pv 0) q14))
 (q11 (q62 PassesOwn.never rfl (q435 (pv 1)) (pgn 5 sc.nd)
 (q11 (pst 6 sc.nd (pfn (q381 z) hr (pa2 (pv 2) (pv 5))))
 (q11 (ps_if (q18 q253 (pv 6) q65 (q19 _))
 (q16 (q20 (q30 (pa3 q65 q14 q14))))
 q22)
 (q11 (pst 3 sc.nd (pfn (q582 z) hr (pa3 (pix q26 (pv 2) q14) (pv 5) (pv 3))))
 (q11 (pst 4 sc.nd (pfn (q582 z) hr (pa3 (pix q26 (pv 2) q14) (pv 5) (pv 4))))
 (q16 (pst 2 sc.nd (pv 6))))))))
 (q16 (q20 (q30 (pa3 (pv 2) (pv 3) (pv 4))))))))),?_⟩
 have htt:SqT K H t [u,.int (g.2.1:Int),.int (g.2.2:Int)]:=SqT.of ht
 exists _,rfl,t,_,_,_,rfl,rfl,htt,rfl,_,rfl,t,_,_,_,rfl,rfl,htt,rfl,_,rfl,t,_,_,_,rfl,rfl,htt,rfl
 refine⟨_,rfl,wy,rfl,⟨_,hw⟩,q295 (K:=K) (a:=wy) (xs:=ws.map V.int) (λi σ H2=>∃(u':V)(g':G3)(v5 v6:Option V),σ=[some (.ref t),some (.ref wy),some u',some (.int (g'.2.1:Int)),some (.int (g'.2.2:Int)),v5,v6]/\Same H H2/\q58 H2 u' (growO (L-i) g'.1)/\GoodS (L-i) g'/\i<=ws.length/\ledS L ws g=ledS (L-i) (ws.drop i) g')
  ⟨u,g,none,none,rfl,Same.refl H,hu,hgood,WA _,rfl⟩ (λi σ H2 _ ⟨_,_,_,_,_,s2,_⟩=>s2.seqT hw) ?_ ?_⟩
 ·rintro i x σ H2 hi ⟨u',g',v5,v6,rfl,s2,hu',hg',hil,hled⟩
  obtain⟨wv,hwv,rfl⟩:∃ t,ws[i]? = some t/\x = .int t:=by
   rw[WM]at hi
   cases e:ws[i]? with
   | none=>rw[e]at hi;cases hi
   | some m=>rw[e]at hi;exact⟨m,rfl,(Option.some.inj hi).symm⟩
  have hil2:i<ws.length:=(eA hwv).1
  have hw01:=h01 wv (WQ hwv)
  obtain⟨e,he⟩:∃ e,L-i=e+1:=⟨L-i-1,{}⟩
  have he2:L-(i+1)=e:={}
  have hdr:ws.drop i=wv::ws.drop (i+1):=by
   obtain⟨h1,h2⟩:=eA hwv
   rw[drop_eq_getElem_cons h1,h2]
  rw[he]at hu' hg' hled
  rw[hdr,q67]at hled
  refine⟨_,rfl,_,rfl,u',_,wv,rfl,hu',hw01,λu2 hu2=>?_⟩
  rw[q383 hg'.1 hw01]at hu2
  exists _,rfl,rfl,_,rfl
  refine ite2 (λc=>?_) (λc=>?_)
  ·have c':u2 = .non:=ZF c
   subst c'
   have h0:=q722 hu2
   rw[q489 h0,q583]at hled
   refine⟨szb rfl,λp hp=>q _ _ (s2.trans (q15 hp _)) ?_⟩
   rw[hled]
   exact⟨p,.non,rfl,q12,by rw[q125];rfl⟩
  ·have hne:g'.1≠[]:=λz=>c (by
    rw[z]at hu2
    have e0:halfO e wv []=[]:=rfl
    rw[e0,q125]at hu2
    exact ZA hu2)
   have hu3:=hu'
   rw[q96 hne]at hu3
   obtain⟨a,m,x1,y1,rfl,ha,hm,_,_⟩:=hu3
   refine⟨_,rfl,a,_,_,_,rfl,rfl,SqT.of ha,rfl,_,rfl,_,rfl,m,g'.1.map (mk0 e),wv,g'.2.1,rfl,hm,λH3 s3=>?_⟩
   refine⟨_,rfl,a,_,_,_,rfl,rfl,SqT.of (s3 _ _ ha),rfl,_,rfl,_,rfl,m,g'.1.map (mk0 e),wv,g'.2.2,rfl,hm.same s3,λH4 s4=>?_⟩
   exists _,rfl,u2,led1 e wv g',_,_,rfl,s2.trans (s3.trans s4),?_,?_,(W19 hil2)
   ·rw[he2];exact(hu2.same s3).same s4
   ·rw[he2];exact q105 hg'
   ·rw[he2];exact hled
 ·rintro σ H2 ⟨u',g',v5,v6,rfl,s2,hu',hg',hil,hled⟩
  rw[ZN]at hu' hled
  rw[drop_length,q56]at hled
  refine⟨_,rfl,_,rfl,_,rfl,szb rfl,λp hp=>q _ _ (s2.trans (q15 hp _)) ?_⟩
  rw[hled]
  exact⟨p,u',rfl,q12,hu'.same (q15 hp _)⟩
def q155:z.C P w 3 "led" pn17 (sp_led K):=by
 have sc:=sc_led
 specialize z.d_led
 obtain⟨ga,wy,xs,L,ws,gs,rfl,hga,hg,hgood,hl,hw,hwl,h01,q⟩:=h
 exists _,(q16 (q20 (q133 (cl:=[("way", s.heap.objs.size+1+0)]) (cn:=["way"]) (N:=["way"]) (fr:=[1]) (sc0:=q17 s_led) rfl (q31 (pv 0)) (λC s₂ H₂ fp=>(pfn (q355 z) hr (pa2 (pv 0) (pv 1)))) (by ac_rfl) ⟨by ac_rfl,trivial⟩ rfl rfl rfl cok rfl)))
 have hxl:=hg.1
 refine⟨_,rfl,ga,rfl,⟨_,hga⟩,λD hD=>?_⟩
 refine q64 (xs:=xs) (sz {}) (λi ys H2=>H2 D=some (.lst ys)/\ys.length=i/\Same H H2/\GatAt H2 (L-ws.length) ys ((gs.take i).map (ledS L ws))) ⟨q12,rfl,q15 hD _,by simp only[take_zero,map_nil];exact GatAt.nil _ _⟩ (λi ys H2 ⟨_,_,e,_⟩=>e.seq hga)
  (λi ys H2 ⟨e1,e2,_,_⟩=>⟨e1,e2⟩) ?_ ?_
 ·rintro i x ys H2 hx ⟨e1,e2,s2,hg2⟩
  have hi:i<gs.length:=by rw[<- hxl];exact(eA hx).1
  have gi:gs[i]? = some gs[i]:=ZR hi
  generalize gs[i]=g at gi
  refine⟨_,rfl,_,rfl,x,wy,L,ws,g,rfl,(hg.2 i x g hx gi).tk (.same s2),hgood g (WQ gi),s2.seqT hw,hwl,h01,λH3 v' s3 hv'=>?_⟩
  have e3:=s3 _ _ e1
  have tk:TKeep H3 (upd H3 D (.lst (ys++[v']))):=TKeep.set e3
  exists e3,q12,by rw[ZU,e2] <;> rfl,Same.own (s2.trans s3) hD
  rw[WW,gi,WS]
  exact((hg2.same s3).tk tk).snoc (hv'.tk tk)
 ·rintro ys H2 ⟨e1,e2,s2,hg2⟩
  rw[hxl,YF]at hg2
  exact q H2 D ys s2 e1 hD hg2
theorem q242{q:Int->Bool}:∀(os:List Int)(s:Nat),(os.filter q).take ((os.take s).countP q)=(os.take s).filter q
 | [],s=>by simp
 | x::os,0=>by simp
 | x::os,s+1=>by
  rw[take_succ_cons,YN,YO,YO]
  by_cases c:q x=true
  ·rw[ZL c,ZL c,ZL c,take_succ_cons,q242 os s]
  ·rw[ZJ c,ZJ c,ZJ c,Nat.add_zero]
   exact q242 os s
def q243{e:Nat}{w:Int}(os:List Int)(s:Nat):(halfO e w os).take (((os.map (mk0 e)).take s).count w)=halfO e w (os.take s):=by
 unfold halfO
 rw[<- map_take,<- map_take,count_eq_countP,countP_map]
 congr 1
 exact q242 os s
def q74{e:Nat}{w:Int}(os:List Int):(halfO e w os).countP p=os.countP λo=>(mk0 e o==w)&&p (o%2^e):=by
 unfold halfO
 rw[countP_map,countP_filter]
 congr 1
 funext o
 show(p (o%2^e)&&(mk0 e o==w))=_
 rw[Bool.and_comm]
def q285{e:Nat}{o w:Int}(h:0<=o/\o<(2:Int)^(e+1)):inW (e+1) o (w::ws)=((mk0 e o==w)&&inW e (o%2^e) ws):=by
 show((o/2^e==w)&&inW e (o%2^e) ws)=_
 rw[q717 h.1 h.2]
noncomputable def selO(L:Nat)(os ws:List Int):List Int:=(os.filter λo=>inW L o ws).map λo=>o%2^(L-ws.length)
def mod_pow{a b:Nat}{o:Int}(h:a<=b):(o%2^b)%2^a=o%2^a:=by
 refine Int.emod_emod_of_dvd o ?_
 exact⟨2^(b-a),by rw[<- Int.pow_add];congr 1;lia⟩
theorem q584:∀(L:Nat)(ws os:List Int)(s t:Nat),ws.length<=L->InO L os ->
  ledS L ws (os,s,t)=(selO L os ws,(os.take s).countP (λo=>inW L o ws),(os.take t).countP (λo=>inW L o ws))\/(os.length<s\/os.length<t)
 | L,[],os,s,t,_,hin=>by
  by_cases hs:os.length<s
  ·exact .inr (.inl hs)
  ·by_cases ht:os.length<t
   ·exact .inr (.inr ht)
   ·refine .inl ?_
    rw[q56]
    have e:(λo=>inW L o [])=λ_=>true:=by
     funext o
     cases L <;> rfl
    unfold selO
    rw[e]
    have c1:∀ l:List Int,l.countP (λ_=>true)=l.length:=λl=>by simp
    have c2:(os.filter λ_=>true)=os:=by simp
    rw[c1,c1,c2,length_take,length_take,Nat.min_eq_left (W14 hs),Nat.min_eq_left (W14 ht)]
    have c3:os.map (λo=>o%2^(L-([]:List Int).length))=os:=by
     have:∀ o∈os,o%2^(L-([]:List Int).length)=id o:=λo ho=>Int.emod_eq_of_lt (hin o ho).1 (hin o ho).2
     rw[map_congr_left this,map_id]
    rw[c3]
 | 0,_::_,_,_,_,h,_=>absurd h (Nat.not_succ_le_zero _)
 | e+1,w::ws,os,s,t,h,hin=>by
  by_cases hs:os.length<s
  ·exact .inr (.inl hs)
  ·by_cases ht:os.length<t
   ·exact .inr (.inr ht)
   ·refine .inl ?_
    have hl:ws.length<=e:=by rw[WT]at h;lia
    rw[q67]
    have hc:∀ k,((os.map (mk0 e)).take k).count w<=(halfO e w os).length:=λk=>by
     rw[<- q284]
     exact(take_sublist _ _).count_le w
    have ih:=q584 e ws (halfO e w os) (((os.map (mk0 e)).take s).count w) (((os.map (mk0 e)).take t).count w) hl q45
    rcases ih with ih | ih | ih
    ·show ledS e ws (halfO e w os,_,_)=_
     rw[ih,q243,q243,q74,q74]
     have hcong:∀ l:List Int,(∀ o∈l,o∈os)->l.countP (λo=>(mk0 e o==w)&&inW e (o%2^e) ws)=l.countP λo=>inW (e+1) o (w::ws):=λl hl=>by
      refine countP_congr λo ho=>?_
      rw[q285 (hin o (hl o ho))]
     rw[hcong _ λo ho=>mem_of_mem_take ho,hcong _ λo ho=>mem_of_mem_take ho]
     have hsel:selO e (halfO e w os) ws=selO (e+1) os (w::ws):=by
      unfold selO halfO
      rw[filter_map,filter_filter,map_map,WT,Nat.add_sub_add_right]
      have f1:(os.filter λa=>((λo=>inW e o ws)∘λo=>o%2^e) a&&(mk0 e a==w))=os.filter λo=>inW (e+1) o (w::ws):=filter_congr λo ho=>by
       rw[q285 (hin o ho),Bool.and_comm]
       rfl
      rw[f1]
      refine map_congr_left λo _=>?_
      exact mod_pow {}
     rw[hsel]
    ·have:=hc s;exact(W81 this ih).elim
    ·have:=hc t;exact(W81 this ih).elim
theorem q490:∀(os:List Int),(idxs p os).map (λi=>(os[i]?).getD 0)=os.filter p
 | []=>rfl
 | o::os=>by
  rw[idxs,YO]
  have e:((idxs p os).map (· + 1)).map (λi=>((o::os)[i]?).getD 0)=os.filter p:=by
   rw[map_map,<- q490 os]
   refine map_congr_left λi _=>?_
   simp
  by_cases c:p o=true
  ·rw[ZL c,ZL c,map_cons,e]
   rfl
  ·rw[ZJ c,ZJ c,e]
def q420(os:List Int){a b:Nat}(h:a<=b):(os.take a).countP q<=(os.take b).countP q:=by
 have e:os.take a=(os.take b).take a:=by rw[take_take,Nat.min_eq_left h]
 rw[e]
 exact(take_sublist a (os.take b)).countP_le
def cnt_step{os:List Int}{i:Nat}{o:Int}(h:os[i]? = some o)(hq:q o=true):(os.take (i+1)).countP q=(os.take i).countP q+1:=by
 rw[WW,h,countP_append]
 simp[hq]
theorem q421:∀(os:List Int)(j i:Nat),(idxs q os)[j]? = some i -> ∃ o,os[i]? = some o/\q o=true/\(os.take i).countP q=j
 | [],j,i,h=>by simp[idxs]at h
 | o::os,j,i,h=>by
  rw[idxs]at h
  by_cases c:q o=true
  ·rw[ZL c]at h
   cases j with
   | zero=>
    have:i=0:=by simpa using h.symm
    subst this
    exact⟨o,rfl,c,rfl⟩
   | succ j=>
    have h':((idxs q os).map (· + 1))[j]? = some i:=by simpa using h
    rw[WM]at h'
    cases e:(idxs q os)[j]? with
    | none=>rw[e]at h';cases h'
    | some i'=>
     rw[e]at h'
     have:i=i'+1:=(Option.some.inj h').symm
     subst this
     obtain⟨o',h1,h2,h3⟩:=q421 os j i' e
     exact⟨o',by simpa using h1,h2,by rw[take_succ_cons,YN,h3,ZL c]⟩
  ·rw[ZJ c]at h
   have h':((idxs q os).map (· + 1))[j]? = some i:=by simpa using h
   rw[WM]at h'
   cases e:(idxs q os)[j]? with
   | none=>rw[e]at h';cases h'
   | some i'=>
    rw[e]at h'
    have:i=i'+1:=(Option.some.inj h').symm
    subst this
    obtain⟨o',h1,h2,h3⟩:=q421 os j i' e
    exact⟨o',by simpa using h1,h2,by rw[take_succ_cons,YN,h3,ZJ c] <;> rfl⟩
def q156{e:Nat}{o w:Int}(h0:0<=o)(h1:o<2^(e+1))(hw:mk0 e o=w):o%2^e+w*2^e=o:=by
 have d:=q717 h0 h1
 rw[hw]at d
 have:=Int.emod_add_mul_ediv o (2^e)
 rw[d,Int.mul_comm]at this
 exact this
def mk0b(e:Nat)(o:Int):mk0 e o=0\/mk0 e o=1:=by
 unfold mk0
 by_cases h:o<2^e
 ·exact .inl (ZL h)
 ·exact .inr (ZJ h)
noncomputable def sel(g:G3):List Int:=(g.1.take g.2.2).drop g.2.1
noncomputable def Wh(gs:List G3):List Int:=gs.flatMap sel
def sel_len{L:Nat}{g:G3}(h:GoodS L g):((sel g).length:Int)=(g.2.2:Int)-g.2.1:=by
 obtain⟨_,h1,h2,_⟩:=h
 unfold sel
 rw[length_drop,length_take,Nat.min_eq_left h2]
 lia
theorem q106{L:Nat}:∀{gs:List G3},(∀ g∈gs,GoodS L g)->manyG gs=((Wh gs).length:Nat)
 | [],_=>rfl
 | g::gs,h=>by
  have ih:=q106 (gs:=gs) λx hx=>h x (ZY _ hx)
  have hg:=sel_len (h g WD)
  unfold manyG at ih ⊢
  unfold Wh at ih ⊢
  rw[map_cons,sum_cons,ih,flatMap_cons,ZU]
  lia
def q491{e:Nat}{w:Int}(a b:List Int):halfO e w (a++b)=halfO e w a++halfO e w b:=by
 unfold halfO
 rw[filter_append,WS]
def q157{e:Nat}{w:Int}(os:List Int):(os.map (mk0 e)).count w=(halfO e w os).length:=q284 e w os
def sel_led1{e:Nat}{w:Int}(h:GoodS (e+1) g):sel (led1 e w g)=halfO e w (sel g):=by
 obtain⟨_,h1,h2,_⟩:=h
 show((halfO e w g.1).take (((g.1.map (mk0 e)).take g.2.2).count w)).drop (((g.1.map (mk0 e)).take g.2.1).count w)=_
 rw[q243]
 have e1:g.1.take g.2.2=g.1.take g.2.1++sel g:=by
  unfold sel
  have:=(take_append_drop g.2.1 (g.1.take g.2.2)).symm
  rw[take_take,Nat.min_eq_left h1]at this
  exact this
 rw[e1,q491]
 have e2:((g.1.map (mk0 e)).take g.2.1).count w=(halfO e w (g.1.take g.2.1)).length:=by
  rw[<- map_take]
  exact q157 _
 rw[e2,drop_left]
theorem W_led{e:Nat}{w:Int}:∀{gs:List G3},(∀ g∈gs,GoodS (e+1) g)->Wh (gs.map (led1 e w))=halfO e w (Wh gs)
 | [],_=>rfl
 | g::gs,h=>by
  have ih:=W_led (w:=w) (gs:=gs) λx hx=>h x (ZY _ hx)
  unfold Wh at ih ⊢
  rw[map_cons,flatMap_cons,flatMap_cons,q491,ih,sel_led1 (h g WD)]
noncomputable def fillG(gs:List G3):List G3:=gs.filter λg=>decide (g.2.1<g.2.2)
theorem q107:∀{gs:List G3},Wh (fillG gs)=Wh gs
 | []=>rfl
 | g::gs=>by
  have ih:=q107 (gs:=gs)
  unfold fillG Wh at ih ⊢
  rw[YO]
  by_cases c:g.2.1<g.2.2
  ·rw[ZL (ZA c),flatMap_cons,flatMap_cons,ih]
  ·rw[ZJ (by simpa using c),ih,flatMap_cons]
   have:sel g=[]:=by
    unfold sel
    rw[drop_eq_nil_iff,length_take]
    lia
   rw[this,nil_append]
def q83{L:Nat}(h:∀ g∈gs,GoodS L g):∀ g∈fillG gs,GoodS L g:=λg hg=>h g (List.mem_filter.mp hg).1
def W_in{L:Nat}(h:∀ g∈gs,GoodS L g):InO L (Wh gs):=λo ho=>by
 obtain⟨g,hg,ho⟩:=List.mem_flatMap.mp ho
 exact(h g hg).1 o (mem_of_mem_take (mem_of_mem_drop ho))
def W_app(a b:List G3):Wh (a++b)=Wh a++Wh b:=flatMap_append
abbrev P2:=Int×Int
noncomputable def caF(part floor:Int):Nat->Int->List Int->List P2
 | 0,least,ws=>if(ws.length:Int)*part<=floor then[] else[(least,(ws.length:Int))]
 | e+1,least,ws=>if(ws.length:Int)*part<=floor then[]else caF part floor e least (halfO e 0 ws)++caF part floor e (least+2^e) (halfO e 1 ws)
theorem ca_le{part floor:Int}:∀(e:Nat)(least:Int)(ws:List Int),∀ p∈caF part floor e least ws,p.2<=(ws.length:Int)
 | 0,least,ws,p,hp=>by
  unfold caF at hp
  by_cases c:(ws.length:Int)*part<=floor
  ·rw[ZL c]at hp;cases hp
  ·rw[ZJ c]at hp;rw[eD hp];exact Int.le_refl _
 | e+1,least,ws,p,hp=>by
  unfold caF at hp
  by_cases c:(ws.length:Int)*part<=floor
  ·rw[ZL c]at hp;cases hp
  ·rw[ZJ c]at hp
   have l0:=q126 (e:=e) (os:=ws) (w:=0)
   have l1:=q126 (e:=e) (os:=ws) (w:=1)
   rcases eC hp with hp | hp
   ·have:=ca_le e _ _ p hp;lia
   ·have:=ca_le e _ _ p hp;lia
def q723{part floor:Int}(hp:1<=part)(hf:0<=floor):∀(e:Nat)(least:Int)(ws:List Int),caF part floor e least ws=(caF 1 0 e least ws).filter λp=>decide (floor<p.2*part):=by
 have mono:∀{a b:Int},a<=b->a*part<=b*part:=λh=>Int.mul_le_mul_of_nonneg_right h (W85 hp)
 have q198:∀(e:Nat)(least:Int)(ws:List Int),(ws.length:Int)*part<=floor->(caF 1 0 e least ws).filter (λp=>decide (floor<p.2*part))=[]:=λe least ws c=>by
  rw[filter_eq_nil_iff]
  intro p h
  have:=mono (ca_le e least ws p h)
  simp
  lia
 have pos:∀{n:Nat},¬(n:Int)*part<=floor -> ¬(n:Int)*1<=0:=fun {n} c z=>c (by
  have:n=0:=(W58 z)
  rw[this]
  simp
  exact hf)
 intro e
 induction e with
 | zero=>
  intro least ws
  by_cases c:(ws.length:Int)*part<=floor
  ·rw[q198 0 least ws c]
   unfold caF
   rw[ZL c]
  ·unfold caF
   rw[ZJ c,ZJ (pos c),YO,ZL (ZA (by show floor<(ws.length:Int)*part;exact W59 c)),filter_nil]
 | succ e ih=>
  intro least ws
  by_cases c:(ws.length:Int)*part<=floor
  ·rw[q198 (e+1) least ws c]
   unfold caF
   rw[ZL c]
  ·unfold caF
   rw[ZJ c,ZJ (pos c),filter_append,ih,ih]
def q97{e:Nat}{w x:Int}{ws:List Int}(h:InO (e+1) ws)(hw:w=0\/w=1)(h0:0<=x)(h1:x<2^e):(halfO e w ws).count x=ws.count (x+w*2^e):=by
 rw[count_eq_countP,count_eq_countP,q74]
 refine countP_congr λo ho=>?_
 have hin:=h o ho
 have hp:=p2pos e
 rw[WC,beq_iff_eq,beq_iff_eq,beq_iff_eq]
 constructor
 ·rintro ⟨a,b⟩
  rw[<- b]
  exact(q156 hin.1 hin.2 a).symm
 ·intro a
  have e2:(2:Int)^(e+1)=2*2^e:=by rw[YK];exact W10
  have hm:mk0 e o=w:=by
   unfold mk0
   rcases hw with rfl | rfl
   ·rw[ZL {}]
   ·rw[ZJ {}]
  exists hm
  have:=q156 hin.1 hin.2 hm
  lia
theorem q492:∀(e:Nat)(least:Int)(ws:List Int),InO e ws -> ∀(w m:Int),(w,m)∈caF 1 0 e least ws↔(m=(ws.count (w-least):Nat)/\0<m)
 | 0,least,ws,hin,w,m=>by
  have hz:∀ x∈ws,x=0:=λx hx=>by
   have:=hin x hx
   simp at this
   lia
  unfold caF
  by_cases c:(ws.length:Int)*1<=0
  ·rw[ZL c]
   have:ws=[]:=eq_nil_of_length_eq_zero (W58 c)
   subst this
   simp
   lia
  ·rw[ZJ c,mem_singleton]
   have call:ws.count 0=ws.length:=List.count_eq_length.mpr λb hb=>(hz b hb).symm
   constructor
   ·intro z
    cases z
    rw[Int.sub_self,call]
    exact⟨rfl,{}⟩
   ·rintro ⟨h1,h2⟩
    have:(w-least)∈ws:=List.count_pos_iff.mp (W43 h2 h1)
    have z:=hz _ this
    rw[z,call]at h1
    have:w=least:={}
    rw[this,h1]
 | e+1,least,ws,hin,w,m=>by
  have hp:=p2pos e
  have e2:(2:Int)^(e+1)=2*2^e:=by rw[YK];exact W10
  unfold caF
  by_cases c:(ws.length:Int)*1<=0
  ·rw[ZL c]
   have:ws=[]:=eq_nil_of_length_eq_zero (W58 c)
   subst this
   simp
   lia
  ·rw[ZJ c,mem_append,q492 e _ _ q45,q492 e _ _ q45]
   have rng:∀{x:Int}{us:List Int},InO e us->0<us.count x->0<=x/\x<2^e:=λh h0=>h _ (List.count_pos_iff.mp h0)
   constructor
   ·rintro (⟨h1,h2⟩ | ⟨h1,h2⟩)
    ·have r:=rng q45 (show 0<(halfO e 0 ws).count (w-least) by exact W43 h2 h1)
     rw[q97 hin (.inl rfl) r.1 r.2]at h1
     have:w-least+0*2^e=w-least:={}
     rw[this]at h1
     exact⟨h1,h2⟩
    ·have r:=rng q45 (show 0<(halfO e 1 ws).count (w-(least+2^e)) by exact W43 h2 h1)
     rw[q97 hin (.inr rfl) r.1 r.2]at h1
     have:w-(least+2^e)+1*2^e=w-least:={}
     rw[this]at h1
     exact⟨h1,h2⟩
   ·rintro ⟨h1,h2⟩
    have r:=hin _ (List.count_pos_iff.mp (show 0<ws.count (w-least) by exact W43 h2 h1))
    by_cases d:w-least<2^e
    ·refine .inl ⟨?_,h2⟩
     rw[q97 hin (.inl rfl) r.1 d]
     have:w-least+0*2^e=w-least:={}
     rw[this]
     exact h1
    ·refine .inr ⟨?_,h2⟩
     rw[q97 hin (.inr rfl) {} {}]
     have:w-(least+2^e)+1*2^e=w-least:={}
     rw[this]
     exact h1
def q493{e:Nat}{least:Int}{ws:List Int}(hin:InO e ws){p:P2}(h:p∈caF 1 0 e least ws):least<=p.1/\p.1<least+2^e/\0<p.2/\p.2=(ws.count (p.1-least):Nat):=by
 obtain⟨h1,h2⟩:=(q492 e least ws hin p.1 p.2).mp h
 have r:=hin _ (List.count_pos_iff.mp (show 0<ws.count (p.1-least) by exact W43 h2 h1))
 exact⟨{},{},h2,h1⟩
theorem q422:∀(e:Nat)(least:Int)(ws:List Int),InO e ws->(caF 1 0 e least ws).Pairwise λp q=>p.1<q.1
 | 0,least,ws,_=>by
  unfold caF
  by_cases c:(ws.length:Int)*1<=0
  ·rw[ZL c];exact .nil
  ·rw[ZJ c];simp
 | e+1,least,ws,hin=>by
  unfold caF
  by_cases c:(ws.length:Int)*1<=0
  ·rw[ZL c];exact .nil
  ·rw[ZJ c,pairwise_append]
   refine⟨q422 e _ _ q45,q422 e _ _ q45,λp hp q hq=>?_⟩
   have:=q493 q45 hp
   have:=q493 q45 hq
   lia
def q220{e:Nat}(ws:List Int):(halfO e 0 ws).length+(halfO e 1 ws).length=ws.length:=by
 have:=cnt01 (e:=e) ws ws.length
 rw[Nat.min_self,WZ (by simp),q157,q157]at this
 exact this
noncomputable def sumM(ps:List P2):Int:=(ps.map λp=>p.2).sum
theorem q724:∀(e:Nat)(least:Int)(ws:List Int),sumM (caF 1 0 e least ws)=(ws.length:Int)
 | 0,least,ws=>by
  unfold caF
  by_cases c:(ws.length:Int)*1<=0
  ·rw[ZL c];show(0:Int)=_;lia
  ·rw[ZJ c];show(ws.length:Int)+0=_;lia
 | e+1,least,ws=>by
  unfold caF
  by_cases c:(ws.length:Int)*1<=0
  ·rw[ZL c];show(0:Int)=_;lia
  ·rw[ZJ c]
   have h1:=q724 e least (halfO e 0 ws)
   have h2:=q724 e (least+2^e) (halfO e 1 ws)
   have h3:=q220 (e:=e) ws
   unfold sumM at h1 h2 ⊢
   rw[WS,sum_append,h1,h2]
   exact W100 h3
noncomputable def bstep(b:Option P2)(p:P2):Option P2:=match b with
 | none=>some p
 | some q=>if p.2 > q.2 then some p else some q
noncomputable def bst(ps:List P2):Option P2:=ps.foldl bstep none
theorem q537:∀(ps:List P2)(q:P2),∃ r,ps.foldl bstep (some q)=some r/\(r=q\/r∈ps)/\q.2<=r.2/\(∀ p∈ps,p.2<=r.2)/\(((q::ps).filter λp=>decide (p.2=r.2)).head? = some r)
 | [],q=>⟨q,rfl,.inl rfl,Int.le_refl _,(λp hp=>nomatch hp),by simp⟩
 | x::ps,q=>by
  rw[foldl_cons]
  by_cases c:x.2 > q.2
  ·have e:bstep (some q) x=some x:=by show(if _ then _ else _)=_;rw[ZL c]
   rw[e]
   obtain⟨r,h1,h2,h3,h4,h5⟩:=q537 ps x
   exists r,h1,.inr ?_,{},λp hp=>?_
   ·rcases h2 with rfl | h2
    ·exact WD
    ·exact ZY _ h2
   ·rcases eB hp with rfl | hp
    ·exact h3
    ·exact h4 p hp
   ·rw[YO,ZJ (by simp;lia)]
    exact h5
  ·have e:bstep (some q) x=some q:=by show(if _ then _ else _)=_;rw[ZJ c]
   rw[e]
   obtain⟨r,h1,h2,h3,h4,h5⟩:=q537 ps q
   exists r,h1,?_,h3,λp hp=>?_
   ·rcases h2 with rfl | h2
    ·exact .inl rfl
    ·exact .inr (ZY _ h2)
   ·rcases eB hp with rfl | hp
    ·lia
    ·exact h4 p hp
   ·rw[YO]at h5 ⊢
    by_cases d:q.2=r.2
    ·rw[ZL (ZA d)]at h5 ⊢
     exact h5
    ·rw[ZJ (by simpa using d)]at h5 ⊢
     rw[YO,ZJ (by simp;lia)]
     exact h5
def q585{ps:List P2}(h:ps≠[]):∃ r,bst ps=some r/\r∈ps/\(∀ p∈ps,p.2<=r.2)/\((ps.filter λp=>decide (p.2=r.2)).head? = some r):=by
 cases ps with
 | nil=>exact absurd rfl h
 | cons q ps=>
  obtain⟨r,h1,h2,h3,h4,h5⟩:=q537 ps q
  refine⟨r,h1,?_,λp hp=>?_,h5⟩
  ·rcases h2 with rfl | h2
   ·exact WD
   ·exact ZY _ h2
  ·rcases eB hp with rfl | hp
   ·exact h3
   ·exact h4 p hp
theorem few{part W:Int}(hp:1<=part)(hW:0<=W):∀(ps:List P2),(∀ p∈ps,W<p.2*part)->((ps.length:Int)*(W+1)<=sumM ps*part)
 | [],_=>by simp[sumM]
 | p::ps,h=>by
  have ih:=few hp hW ps λq hq=>h q (ZY _ hq)
  have h0:=h p WD
  unfold sumM at ih ⊢
  rw[map_cons,sum_cons,WT,Int.add_mul]
  have:((ps.length+1:Nat):Int)*(W+1)=(ps.length:Int)*(W+1)+(W+1):=by
   rw[Int.natCast_add,Int.add_mul];simp
  rw[this]
  lia
noncomputable def stS(p:Int×Int)(t:Int):Int×Int:=(if t=1 then p.1+p.2/2 else p.1,p.2/2)
noncomputable def spanS(low:Int)(L:Nat)(ws:List Int):Int×Int:=ws.foldl stS (low,2^L)
def q586(e:Nat):(2:Int)^(e+1)/2=2^e:=by rw[YK];exact W18
def q725{α:Type}{l:List α}{i:Nat}{x:α}(h:l[i]? = some x):l.take (i+1)=l.take i++[x]:=by rw[WW,h];rfl
def ints_get{ws:List Int}{i:Nat}(h:(ws.map V.int)[i]? = some x):∃ t,ws[i]? = some t/\x = .int t:=by
 rw[WM]at h
 cases e:ws[i]? with
 | none=>rw[e]at h;cases h
 | some t=>rw[e]at h;exact⟨t,rfl,(Option.some.inj h).symm⟩
def q494{α β:Type}{f:β->α->β}{b:β}{l:List α}{i:Nat}{x:α}(h:l[i]? = some x):(l.take (i+1)).foldl f b=f ((l.take i).foldl f b) x:=by
 rw[q725 h,foldl_append];rfl
inductive q386(K:Fg)(vs:List V)(H:Hp)(Q:VK)(E:XK):Prop
 |mk(b wy:Addr)(low:Int)(L:Nat)(ws:List Int)(_:vs=[.ref b,.ref wy])(_:SqT K H b [.int low,.int (L:Int)])(_:L<=40)(_:SqT K H wy (ws.map V.int))(_:∀ p,H p=none->Q (.ref p) (upd H p (.tup [.int (spanS low L ws).1,.int ((spanS low L ws).1+(spanS low L ws).2-1)])))
def q387:z.C P w 2 "span_of" ["bounds", "way"] (q386 K):=by
 have sc:=q624
 specialize z.d_span_of
 obtain⟨b,wy,low,L,ws,rfl,hb,hL,hw,q⟩:=h
 refine⟨_,(q11 (pst 2 sc.nd (pix q26 (pv 0) q14))
 (q11 (pst 3 sc.nd (pfn (q48 z) hr (pa1 (pix q26 (pv 0) q14))))
 (q11 (q62 PassesOwn.never rfl (q435 (pv 1)) (pgn 4 sc.nd)
 (q11 (pst 3 sc.nd (pe_op q91 (pv 3) q14))
 (q16 (ps_if (q18 op_eq (pv 4) q14 (q19 _))
 (q16 (pst 2 sc.nd (pe_op q29 (pv 2) (pv 3))))
 q22))))
 (q16 (q20 (q30 (pa2 (pv 2) (pe_op q47 (pe_op q29 (pv 2) (pv 3)) q14)))))))),?_⟩
 exists _,rfl,b,_,_,_,rfl,rfl,hb,rfl,_,rfl,b,_,_,_,rfl,rfl,hb,rfl,L,rfl,hL
 refine⟨_,rfl,wy,rfl,⟨_,hw⟩,q295 (K:=K) (a:=wy) (xs:=ws.map V.int) (λi σ H2=>∃ v:Option V,σ=[some (.ref b),some (.ref wy),some (.int ((ws.take i).foldl stS (low,2^L)).1),some (.int ((ws.take i).foldl stS (low,2^L)).2),v]/\H2=H)
  ⟨none,rfl,rfl⟩ (λi σ H2 _ ⟨_,_,e⟩=>by rw[e];exact hw) ?_ ?_⟩
 ·rintro i x σ H2 hi ⟨v,rfl,rfl⟩
  obtain⟨t,ht,rfl⟩:=ints_get hi
  exists _,rfl,_,_,rfl,rfl,⟨∅,∅⟩
  exists _,rfl,rfl,_,rfl
  refine ite2 (λc=>?_) (λc=>?_)
  ·have c':t=1:=V.int.inj (ZF c)
   refine⟨_,rfl,_,rfl,_,_,rfl,rfl,some (.int t),?_,rfl⟩
   rw[q494 ht]
   unfold stS
   rw[ZL c']
   rfl
  ·have c':¬ t=1:=λz=>c (by rw[z];exact ZA rfl)
   refine⟨some (.int t),?_,rfl⟩
   rw[q494 ht]
   unfold stS
   rw[ZJ c']
   rfl
 ·rintro σ H2 ⟨v,rfl,rfl⟩
  refine⟨_,rfl,_,rfl,_,rfl,_,_,rfl,rfl,_,_,rfl,rfl,szb rfl,λp hp=>?_⟩
  have e:ws.take (ws.map V.int).length=ws:=by rw[ZN];exact YF
  have q':=q p hp
  unfold spanS at q'
  rw[<- e]at q'
  exact q'
def q495(s:Same H H1)(hD:H D=none)(o:HO):Same H (upd H1 D o):=λb u q=>by rw[q27 (q25 q hD)];exact s b u q
def AllAt{α:Type}(R:Hp->V->α->Prop)(H:Hp)(xs:List V)(ps:List α):Prop:=xs.length=ps.length /\ ∀(j:Nat)(x:V)(p:α),xs[j]? = some x->ps[j]? = some p->R H x p
section
variable {α:Type}{R:Hp->V->α->Prop}{H H':Hp}{xs ys:List V}{ps qs:List α}
def AllAt.imp(h:AllAt R H xs ps)(f:∀ x p,R H x p->R H' x p):AllAt R H' xs ps:=⟨h.1,λj x p h1 h2=>f x p (h.2 j x p h1 h2)⟩
def AllAt.nil:AllAt R H [] []:=⟨rfl,λj x p h1 _=>by simp at h1⟩
def AllAt.get(h:AllAt R H xs ps){j:Nat}(hx:xs[j]? = some x):∃ p,ps[j]? = some p/\R H x p:=by
 have hj:j<ps.length:=by rw[<- h.1];exact(eA hx).1
 exact⟨ps[j],ZR hj,h.2 j x ps[j] hx (ZR hj)⟩
def AllAt.app(h:AllAt R H xs ps)(k:AllAt R H ys qs):AllAt R H (xs++ys) (ps++qs):=by
 refine⟨by rw[ZU,ZU,h.1,k.1],λj y p h1 h2=>?_⟩
 by_cases c:j<xs.length
 ·rw[YX c]at h1
  rw[YX (by rw[<- h.1];exact c)]at h2
  exact h.2 j y p h1 h2
 ·rw[YT (W14 c)]at h1
  rw[YT (by rw[<- h.1];lia),<- h.1]at h2
  exact k.2 _ y p h1 h2
end
def PsR(H:Hp)(v:V)(p:P2):Prop:=∃ a,v = .ref a/\H a=some (.tup [.int p.1,.int p.2])
def PsR.tk(k:TKeep H H')(h:PsR H v p):PsR H' v p:=by
 obtain⟨a,e,h1⟩:=h
 exact⟨a,e,(k _ _).1 h1⟩
def ps_tk(h:AllAt PsR H xs ps)(k:TKeep H H'):AllAt PsR H' xs ps:=h.imp λ_ _ z=>z.tk k
def q726(h:AllAt PsR H xs ps)(s:Same H H'):AllAt PsR H' xs ps:=ps_tk h (.same s)
def ca_len{part floor:Int}(hp:1<=part)(hf:0<=floor){e:Nat}{least:Int}{ws:List Int}(hin:InO e ws):(caF part floor e least ws).length<=ws.length:=by
 rw[q723 hp hf]
 refine ZQ (YC _ _) ?_
 have h:=few (part:=1) (W:=0) ∅ ∅ (caF 1 0 e least ws) (λp hp=>by have:=(q493 hin hp).2.2.1;lia)
 rw[q724]at h
 lia
inductive q496(K:Fg)(vs:List V)(H:Hp)(Q:VK)(E:XK):Prop
 |mk(ga:Addr)(xs:List V)(L:Nat)(gs:List G3)(_:vs=[.ref ga])(_:SqL K H ga xs)(_:GatAt H L xs gs)(_:gs.length<=1000)(_:∀(H':Hp)(D:Addr)(ys:List V),Same H H'->H' D=some (.lst ys)->H D=none->GatAt H' L ys (fillG gs)->Q (.ref D) H')
def q84:z.C P w 1 "filled" ["gathering"] (q496 K):=by
 have sc:=q714
 specialize z.d_filled
 obtain⟨ga,xs,L,gs,rfl,hga,hg,hl,q⟩:=h
 exists _,(q16 (q20 (q51 (cl:=[]) (cn:=[]) (N:=[]) (fr:=[]) (sc0:=q17 q412) rfl (q31 (pv 0)) (λC s₂ H₂ fp=>(pv 0)) (λC s₂ H₂ fp=>(q18 op_lt (pix (q89 (K:=K) rfl) (pv 0) q14) (pix (q89 (K:=K) rfl) (pv 0) q14) (q19 _))) (by ac_rfl) trivial rfl rfl rfl cok rfl)))
 have hxl:=hg.1
 refine⟨_,rfl,ga,rfl,⟨_,hga⟩,λD hD=>?_⟩
 refine q114 (K:=K) (xs:=xs) (sz {}) (λi ys H2=>H2=upd H D (.lst ys)/\ys.length<=i/\GatAt H L ys (fillG (gs.take i))) ⟨rfl,ZH _,GatAt.nil _ _⟩ (λi ys H2 ⟨e,_⟩=>by rw[e];exact(q15 hD _).seq hga)
  (λi ys H2 ⟨e,e2,_⟩=>⟨by rw[e];exact q12,e2⟩) ?_ ?_
 ·rintro i x ys H2 hx ⟨rfl,e2,e3⟩
  have hi:i<gs.length:=by rw[<- hxl];exact(eA hx).1
  have gi:gs[i]? = some gs[i]:=ZR hi
  generalize gs[i]=g at gi
  have hsx:=hg.2 i x g hx gi
  obtain⟨t,u,rfl,ht,hu⟩:=hsx
  have ht':SqT K (upd H D (.lst ys)) t [u,.int (g.2.1:Int),.int (g.2.2:Int)]:=SqT.of (q15 hD _ _ _ ht)
  exists _,rfl,t,_,_,_,rfl,rfl,ht',rfl,_,rfl,t,_,_,_,rfl,rfl,ht',rfl,_,_,rfl,rfl,_,rfl
  have et:fillG (gs.take (i+1))=fillG (gs.take i)++fillG [g]:=by
   unfold fillG
   rw[WW,gi,filter_append]
   rfl
  refine ite2 (λc=>?_) (λc=>?_)
  ·have c':=ZF c
   have ef:fillG [g]=[g]:=by
    unfold fillG
    rw[YO,ZL (ZA {})]
    rfl
   exists _,rfl,q12,by rw[q85],by rw[ZU];simp;lia
   rw[et,ef]
   exact e3.snoc ⟨t,u,rfl,ht,hu⟩
  ·have c':¬(g.2.1:Int)<g.2.2:=λz=>c (ZA z)
   have ef:fillG [g]=[]:=by
    unfold fillG
    rw[YO,ZJ (by simp;lia)]
    rfl
   exists _,{},rfl,{},rfl,{}
   rw[et,ef,append_nil]
   exact e3
 ·rintro ys H2 ⟨rfl,e2,e3⟩
  rw[hxl,YF]at e3
  exact q _ D ys (q15 hD _) q12 hD (e3.same (q15 hD _))
noncomputable def wayW:Nat->Int->List Int
 | 0,_=>[]
 | e+1,o=>if o<2^e then 0::wayW e o else 1::wayW e (o-2^e)
def q158{e:Nat}{o:Int}(h:o<2^e):wayW (e+1) o=0::wayW e o:=by
 show(if o<2^e then _ else _)=_
 rw[ZL h]
def q159{e:Nat}{o:Int}(h:¬ o<2^e):wayW (e+1) o=1::wayW e (o-2^e):=by
 show(if o<2^e then _ else _)=_
 rw[ZJ h]
def pow2(e:Nat):(2:Int)^(e+1)=2^e+2^e:=by rw[YK];exact W36
theorem q165:∀(e:Nat)(o:Int),(wayW e o).length=e
 | 0,_=>rfl
 | e+1,o=>by
  by_cases h:o<2^e
  ·rw[q158 h,WT,q165 e]
  ·rw[q159 h,WT,q165 e]
theorem q244:∀(e:Nat)(o:Int),∀ m∈wayW e o,m=0\/m=1
 | 0,_,m,hm=>by cases hm
 | e+1,o,m,hm=>by
  by_cases h:o<2^e
  ·rw[q158 h]at hm
   rcases eB hm with z | z
   ·exact .inl z
   ·exact q244 e _ m z
  ·rw[q159 h]at hm
   rcases eB hm with z | z
   ·exact .inr z
   ·exact q244 e _ m z
def where_in{low n:Int}{L:Nat}:q482 low L n = "within" ↔ (low<=n/\n<=low+2^L-1):=by
 unfold q482
 by_cases h:n<low
 ·rw[ZL h]
  exact⟨λz=>absurd z ∅,λz=>{}⟩
 ·rw[ZJ h]
  by_cases h2:low+2^L-1<n
  ·rw[ZL h2]
   exact⟨λz=>absurd z ∅,λz=>{}⟩
  ·rw[ZJ h2]
   exact⟨λ_=>{},λ_=>rfl⟩
noncomputable def mlF:Nat->List Int->List Int->Int
 | _,[],_=>0
 | 0,_::_,_=>0
 | e+1,w::ws,us=>(if w=1 then((halfO e 0 us).length:Int)else 0)+mlF e ws (halfO e w us)
theorem q727:∀(e:Nat)(o:Int)(us:List Int),0<=o->o<2^e->InO e us->mlF e (wayW e o) us=(us.countP λx=>decide (x<o):Nat)
 | 0,o,us,h0,h1,hin=>by
  have:us.countP (λx=>decide (x<o))=0:=List.countP_eq_zero.mpr λx hx=>by
   have:=hin x hx
   simp at *
   lia
  rw[this]
  rfl
 | e+1,o,us,h0,h1,hin=>by
  have p:=pow2 e
  have hp:=p2pos e
  by_cases c:o<2^e
  ·rw[q158 c,mlF,ZJ ∅,q727 e o _ h0 c q45,q74,Int.zero_add]
   congr 1
   refine countP_congr λx hx=>?_
   have hx':=hin x hx
   rw[WC,beq_iff_eq,ZZ,ZZ]
   constructor
   ·rintro ⟨a,b⟩
    have:=q156 hx'.1 hx'.2 a
    lia
   ·intro a
    have hm:mk0 e x=0:=by unfold mk0;rw[ZL {}]
    have:=q156 hx'.1 hx'.2 hm
    exact⟨hm,{}⟩
  ·rw[q159 c,mlF,ZL rfl,q727 e (o-2^e) _ {} {} q45,q74]
   have l0:(halfO e 0 us).length=us.countP λx=>mk0 e x==0:=by
    unfold halfO
    rw[ZN,countP_eq_length_filter]
   rw[l0]
   have key:∀ us:List Int,(∀ x∈us,0<=x/\x<(2:Int)^(e+1))->(us.countP λx=>mk0 e x==0)+(us.countP λx=>(mk0 e x==1)&&decide (x%2^e<o-2^e))=us.countP λx=>decide (x<o):=by
    intro us
    induction us with
    | nil=>intro _;rfl
    | cons x us ih=>
     intro h
     have ih':=ih λy hy=>h y (ZY _ hy)
     have hx':=h x WD
     rw[YN,YN,YN,<- ih']
     rcases mk0b e x with m | m
     ·have hxl:x<2^e:=by
       unfold mk0 at m
       by_cases z:x<2^e
       ·exact z
       ·rw[ZJ z]at m;lia
      rw[m]
      simp[show x<o by lia]
      exact W8
     ·have:=q156 hx'.1 hx'.2 m
      have hxg:¬ x<2^e:=by
       unfold mk0 at m
       intro z
       rw[ZL z]at m;lia
      rw[m]
      by_cases z:x<o
      ·have z2:x%2^e<o-2^e:={}
       simp[z,z2]
       lia
      ·have z2:¬ x%2^e<o-2^e:={}
       simp[z,z2]
   have:=key us hin
   exact W100 this
inductive q497(K:Fg)(vs:List V)(H:Hp)(Q:VK)(E:XK):Prop
 |mk(b:Addr)(low num:Int)(L:Nat)(_:vs=[.ref b,.int num])(_:SqT K H b [.int low,.int (L:Int)])(_:L<=40)(_:(low<=num/\num<=low+2^L-1))(_:∀ t H',Same H H'->TupF H' t ((wayW L (num-low)).map V.int)->Q (.ref t) H')
inductive q174(K:Fg)(vs:List V)(H:Hp)(Q:VK)(E:XK):Prop
 |mk(ga wy:Addr)(xs:List V)(L:Nat)(o:Int)(gs:List G3)(_:vs=[.ref ga,.ref wy])(_:SqL K H ga xs)(_:GatAt H L xs gs)(_:(∀ g∈gs,GoodS L g))(_:gs.length<=100)(_:SqT K H wy ((wayW L o).map V.int))(_:0<=o)(_:o<2^L)(_:∀ H',Same H H'->Q (.int ((Wh gs).countP λx=>decide (x<o):Nat)) H')
inductive q587(K:Fg)(vs:List V)(H:Hp)(Q:VK)(E:XK):Prop
 |mk(b ga:Addr)(xs:List V)(low num:Int)(L:Nat)(gs:List G3)(_:vs=[.ref b,.ref ga,.int num])(_:SqT K H b [.int low,.int (L:Int)])(_:L<=40)(_:SqL K H ga xs)(_:GatAt H L xs gs)(_:(∀ g∈gs,GoodS L g))(_:gs.length<=100)(_:∀ H',Same H H'->Q (.int ((Wh gs).countP λx=>decide (x<num-low):Nat)) H')
def q728:z.C P w 4 "way_of" pn16 (q497 K):=by
 have sc:=q713
 specialize z.d_way_of
 obtain⟨b,low,num,L,rfl,hb,hL,c',q⟩:=h
 refine⟨_,(q11 (ps_if (q18 op_ne (pfn (q579 z) hr (pa2 (pv 0) (pv 1))) q34 (q19 _))
 (q16 q201)
 q22)
 (q11 (pst 2 sc.nd (pix q26 (pv 0) q14))
 (q11 (pst 3 sc.nd (pfn (q48 z) hr (pa1 (pix q26 (pv 0) q14))))
 (q11 (pst 4 sc.nd (q38 q13))
 (q11 (q62 PassesOwn.never rfl (q80 rfl z.range_ (pa1 (pix q26 (pv 0) q14))) (pgn 5 sc.nd)
 (q11 (pst 3 sc.nd (pe_op q91 (pv 3) q14))
 (q16 (ps_if (q18 op_lt (pv 1) (pe_op q29 (pv 2) (pv 3)) (q19 _))
 (q16 (q129 (pe_bm YD YH YI q59 (pv 4) (pa1 q14))))
 (q11 (q129 (pe_bm YD YH YI q59 (pv 4) (pa1 q14)))
 (q16 (pst 2 sc.nd (pe_op q29 (pv 2) (pv 3)))))))))
 (q16 (q20 (q102 q191 () z.tuple_ q203 (pa1 (pv 4)))))))))),?_⟩
 exists _,rfl,_,rfl,b,low,num,L,rfl,hb,hL,rfl,_,rfl
 refine ite2 (λc=>?_) (λc=>?_)
 ·rw[where_in.mpr c',ZA rfl]at c
  cases c
 ·skip
  refine⟨_,rfl,b,_,_,_,rfl,rfl,hb,rfl,_,rfl,b,_,_,_,rfl,rfl,hb,rfl,L,rfl,hL,szb rfl,λwy hwy=>?_⟩
  have hb2:∀ o,SqT K (upd H wy o) b [.int low,.int (L:Int)]:=λo=>(q15 hwy o).seqT hb
  refine⟨_,rfl,b,_,_,_,rfl,rfl,hb2 _,rfl,(L:Int),rfl,(W114 hL),{},q101 (n:=L) (λi σ H2=>∃(le:Int)(ws:List Int)(v:Option V),σ=[some (.ref b),some (.int num),some (.int le),some (.int (2^(L-i))),some (.ref wy),v] /\
   H2=upd H wy (.lst (ws.map V.int))/\ws.length=i/\0<=num-le/\num-le<2^(L-i)/\wayW L (num-low)=ws++wayW (L-i) (num-le)) ⟨low,[],none,rfl,rfl,rfl,{},by show num-low<2^L;lia,rfl⟩ ?_ ?_⟩
  ·rintro i σ H2 hi ⟨le,ws,v,rfl,rfl,hl,h0,h1,hw⟩
   obtain⟨e,he⟩:∃ e,L-i=e+1:=⟨L-i-1,(W3 hl hi)⟩
   have he2:L-(i+1)=e:=(W23 hl hi he)
   have p:=pow2 e
   have ph:=q586 e
   rw[he]at h1 hw ⊢
   exists _,rfl,_,_,rfl,rfl,⟨∅,∅⟩
   exists _,rfl,_,rfl,_,rfl,_,_,rfl,rfl,_,_,rfl,rfl,_,rfl
   rw[ph,he2]
   refine ite2 (λc=>?_) (λc=>?_)
   ·have c2:num<le+2^e:=ZF c
    rw[q158 (show num-le<2^e by lia)]at hw
    exists _,rfl,.inl ⟨rfl,_,SqL.of q12⟩,wy,_,_,rfl,rfl,q12,?_
    ·rw[ZN];exact Nat.lt_of_le_of_lt (show ws.length<=1000 by lia) (q81 (ZH _))
    ·exact⟨le,ws++[0],some (.int (0+(i:Int))),rfl,by rw[q85,WS] <;> rfl,by rw[ZU,hl] <;> rfl,h0,{},by rw[hw,YZ] <;> rfl⟩
   ·have c2:¬ num<le+2^e:=λz=>c (ZA z)
    rw[q159 (show ¬ num-le<2^e by lia)]at hw
    exists _,rfl,.inl ⟨rfl,_,SqL.of q12⟩,wy,_,_,rfl,rfl,q12,?_
    ·rw[ZN];exact Nat.lt_of_le_of_lt (show ws.length<=1000 by lia) (q81 (ZH _))
    ·exists _,rfl,_,rfl,_,_,rfl,rfl,le+2^e,ws++[1],some (.int (0+(i:Int))),rfl,by rw[q85,WS] <;> rfl,by rw[ZU,hl] <;> rfl,{},{}
     have e2:num-(le+2^e)=num-le-2^e:={}
     rw[hw,e2,YZ]
     rfl
  ·rintro σ H2 ⟨le,ws,v,rfl,rfl,hl,h0,h1,hw⟩
   rw[Nat.sub_self]at hw
   have hw2:wayW L (num-low)=ws:=by rw[hw];exact append_nil ws
   refine⟨_,rfl,wy,_,rfl,SqL.of q12,λt H' s' ht=>?_⟩
   exact q t _ ((q15 hwy _).trans s') (by rw[hw2];exact ht)
def q175:z.C P w 4 "many_lesser" pn17 (q174 K):=by
 have sc:=q340
 specialize z.d_many_lesser
 obtain⟨ga,wy,xs,L,o,gs,rfl,hga,hg,hgd,hl,hwy,h0,h1,q⟩:=h
 refine⟨_,(q11 (pst 2 sc.nd q14)
 (q11 (pst 3 sc.nd (pv 0))
 (q11 (q62 PassesOwn.never rfl (q435 (pv 1)) (pgn 4 sc.nd)
 (q11 (ps_if (q18 op_eq (pv 4) q14 (q19 _))
 (q16 (pst 2 sc.nd (pe_op q29 (pv 2) (pfn (q37 z) hr (pa1 (pfn (q155 z) hr (pa2 (pv 3) (q30 (pa1 q14)))))))))
 q22)
 (q16 (pst 3 sc.nd (pfn (q155 z) hr (pa2 (pv 3) (q30 (pa1 (pv 4)))))))))
 (q16 (q20 (pv 2)))))),?_⟩
 rw[<- q727 L o (Wh gs) h0 h1 (W_in hgd)]at q
 have hwl:=q165 L o
 have hw01:=q244 L o
 generalize wayW L o=ws at *
 exists _,rfl
 refine⟨_,rfl,wy,rfl,⟨_,hwy⟩,q295 (K:=K) (a:=wy) (xs:=ws.map V.int) (λi σ H2=>∃(m:Int)(pa:Addr)(zs:List V)(gs':List G3)(v4:Option V),σ=[some (.ref ga),some (.ref wy),some (.int m),some (.ref pa),v4]/\Same H H2/\SqL K H2 pa zs/\GatAt H2 (L-i) zs gs'/\(∀ g∈gs',GoodS (L-i) g)/\gs'.length<=100/\i<=ws.length/\mlF L ws (Wh gs)=m+mlF (L-i) (ws.drop i) (Wh gs'))
  ⟨0,ga,xs,gs,none,rfl,Same.refl H,hga,hg,hgd,hl,WA _,by rw[drop_zero,Int.zero_add];rfl⟩ (λi σ H2 _ ⟨_,_,_,_,_,_,s2,_⟩=>s2.seqT hwy) ?_ ?_⟩
 ·rintro i x σ H2 hi ⟨m,pa,zs,gs',v4,rfl,s2,hpa,hg',hgd',hl',hil,hm⟩
  obtain⟨wv,hwv,rfl⟩:∃ t,ws[i]? = some t/\x = .int t:=by
   rw[WM]at hi
   cases e:ws[i]? with
   | none=>rw[e]at hi;cases hi
   | some m=>rw[e]at hi;exact⟨m,rfl,(Option.some.inj hi).symm⟩
  have hil2:i<ws.length:=(eA hwv).1
  have hv01:=hw01 wv (WQ hwv)
  obtain⟨e,he⟩:∃ e,L-i=e+1:=⟨L-i-1,{}⟩
  have he2:L-(i+1)=e:={}
  rw[he]at hg' hgd' hm
  rw[q488 hwv,mlF]at hm
  have el:∀ w:Int,gs'.map (ledS (e+1) [w])=gs'.map (led1 e w):=λw=>map_congr_left λg _=>by rw[q67,q56]
  have good1:∀ w,∀ g∈gs'.map (led1 e w),GoodS e g:=λw g hg=>by
   obtain⟨g',hg',rfl⟩:=eE hg
   exact q105 (hgd' g' hg')
  have step:∀(H3:Hp),Same H2 H3 -> ∀(m':Int),mlF L ws (Wh gs)=m'+mlF e (ws.drop (i+1)) (halfO e wv (Wh gs'))->True:=λ_ _ _ _=>trivial
  exists _,rfl,rfl,_,rfl
  rcases hv01 with rfl | rfl
  ·refine ite2 (λc=>absurd (V.int.inj (ZF c)) ∅) (λ_=>?_)
   rw[ZJ ∅,Int.zero_add]at hm
   refine⟨_,rfl,_,rfl,szb rfl,λw1 hw1=>?_⟩
   have s3:=q15 hw1 (.tup [V.int 0])
   have hw1':upd H2 w1 (.tup [V.int 0]) w1=some (.tup [V.int 0]):=q12
   generalize upd H2 w1 (.tup [V.int 0])=H3 at *
   refine⟨pa,w1,zs,e+1,[0],gs',rfl,s3.seq hpa,hg'.same s3,hgd',(W22 hl'),SqT.of hw1',by simp,(λx hx=>by rw[eD hx];exact .inl rfl),λH4 D4 z4 s4 hD4 hD4n hg4=>?_⟩
   rw[el]at hg4
   exact⟨m,D4,z4,_,_,rfl,s2.trans (s3.trans s4),SqL.of hD4,by rw[he2];exact hg4,by rw[he2];exact good1 0,by rw[ZN];exact hl',{},by rw[he2,W_led hgd'];exact hm⟩
  ·refine ite2 (λ_=>?_) (λc=>absurd (ZA rfl) c)
   rw[ZL rfl]at hm
   refine⟨_,rfl,_,rfl,szb rfl,λw0 hw0=>?_⟩
   have s3:=q15 hw0 (.tup [V.int 0])
   have hw0':upd H2 w0 (.tup [V.int 0]) w0=some (.tup [V.int 0]):=q12
   generalize upd H2 w0 (.tup [V.int 0])=H3 at *
   refine⟨pa,w0,zs,e+1,[0],gs',rfl,s3.seq hpa,hg'.same s3,hgd',{},SqT.of hw0',by simp,(λx hx=>by rw[eD hx];exact .inl rfl),λH4 D4 z4 s4 hD4 hD4n hg4=>?_⟩
   rw[el]at hg4
   refine⟨D4,z4,e,_,rfl,SqL.of hD4,hg4,by rw[ZN];lia,λH5 s5=>⟨_,_,rfl,rfl,?_⟩⟩
   have s25:=(s3.trans s4).trans s5
   refine⟨_,rfl,_,rfl,szb rfl,λw1 hw1=>?_⟩
   have s6:=q15 hw1 (.tup [V.int 1])
   have hw1':upd H5 w1 (.tup [V.int 1]) w1=some (.tup [V.int 1]):=q12
   generalize upd H5 w1 (.tup [V.int 1])=H6 at *
   have s26:=s25.trans s6
   refine⟨pa,w1,zs,e+1,[1],gs',rfl,s26.seq hpa,hg'.same s26,hgd',{},SqT.of hw1',by simp,(λx hx=>by rw[eD hx];exact .inr rfl),λH7 D7 z7 s7 hD7 hD7n hg7=>?_⟩
   rw[el]at hg7
   exists _,D7,z7,_,_,rfl,s2.trans (s26.trans s7),SqL.of hD7,by rw[he2];exact hg7,by rw[he2];exact good1 1,by rw[ZN];exact hl',{}
   rw[he2,W_led hgd',q106 (good1 0),W_led hgd',hm]
   lia
 ·rintro σ H2 ⟨m,pa,zs,gs',v4,rfl,s2,hpa,hg',hgd',hl',hil,hm⟩
  rw[ZN,drop_length]at hm
  have e0:mlF (L-ws.length) [] (Wh gs')=0:=by cases L-ws.length <;> rfl
  rw[e0,Int.add_zero]at hm
  rw[hm]at q
  exact⟨_,rfl,q H2 s2⟩
def ok_below:z.C P w 5 "below" pn0 (q587 K):=by
 have sc:=sc_below
 specialize z.d_below
 obtain⟨b,ga,xs,low,num,L,gs,rfl,hb,hL,hga,hg,hgd,hl,q⟩:=h
 refine⟨_,(q11 (pst 3 sc.nd (pfn (q579 z) hr (pa2 (pv 0) (pv 2))))
 (q11 (ps_if (q18 op_eq (pv 3) q34 (q19 _))
 (q16 (q20 q14))
 q22)
 (q11 (ps_if (q18 op_eq (pv 3) q34 (q19 _))
 (q16 (q20 (pfn (q37 z) hr (pa1 (pv 1)))))
 q22)
 (q16 (q20 (pfn (q175 z) hr (pa2 (pv 1) (pfn (q728 z) hr (pa2 (pv 0) (pv 2)))))))))),?_⟩
 have hin:=W_in hgd
 have hp:=p2pos L
 exists _,rfl,_,rfl,b,low,num,L,rfl,hb,hL
 unfold q482
 by_cases c1:num<low
 ·rw[ZL c1]
  refine⟨_,rfl,rfl,_,rfl,ite2 (λ_=>?_) (λc=>absurd (ZA rfl) c)⟩
  have e0:(Wh gs).countP (λx=>decide (x<num-low))=0:=List.countP_eq_zero.mpr λx hx=>by
   have:=hin x hx
   simp
   lia
  rw[e0]at q
  exact q H (Same.refl H)
 rw[ZJ c1]
 by_cases c2:low+2^L-1<num
 ·rw[ZL c2]
  refine⟨_,rfl,rfl,_,rfl,ite2 (λc=>absurd (ZF c) ∅) (λ_=>?_)⟩
  refine⟨_,rfl,rfl,_,rfl,ite2 (λ_=>?_) (λc=>absurd (ZA rfl) c)⟩
  have e0:(Wh gs).countP (λx=>decide (x<num-low))=(Wh gs).length:=List.countP_eq_length.mpr λx hx=>by
   have:=hin x hx
   exact ZA {}
  rw[e0]at q
  refine⟨_,rfl,ga,xs,L,gs,rfl,hga,hg,(W22 hl),λH1 s1=>?_⟩
  rw[q106 hgd]
  exact q H1 s1
 rw[ZJ c2]
 refine⟨_,rfl,rfl,_,rfl,ite2 (λc=>absurd (ZF c) ∅) (λ_=>?_)⟩
 refine⟨_,rfl,rfl,_,rfl,ite2 (λc=>absurd (ZF c) ∅) (λ_=>?_)⟩
 refine⟨_,rfl,_,rfl,_,rfl,b,low,num,L,rfl,hb,hL,⟨(W13 c1),{}⟩,λt H1 s1 ht=>?_⟩
 exact⟨ga,t,xs,L,num-low,gs,rfl,s1.seq hga,hg.same s1,hgd,hl,ht.sq,{},{},λH2 s2=>q H2 (s1.trans s2)⟩
theorem q286:∀(e:Nat)(l o:Int),0<=o->o<2^e->(wayW e o).foldl stS (l,2^e)=(l+o,1)
 | 0,l,o,h0,h1=>by
  have e1:o=0:=by
   have z:(2:Int)^0=1:=rfl
   lia
  rw[e1,Int.add_zero]
  rfl
 | e+1,l,o,h0,h1=>by
  have p:=pow2 e
  have q:=q586 e
  by_cases h:o<2^e
  ·rw[q158 h,foldl_cons]
   have z:stS (l,2^(e+1)) 0=(l,2^e):=by unfold stS;rw[ZJ ∅];simp only[q]
   rw[z]
   exact q286 e l o h0 h
  ·rw[q159 h,foldl_cons]
   have z:stS (l,2^(e+1)) 1=(l+2^e,2^e):=by unfold stS;rw[ZL rfl];simp only[q]
   rw[z,q286 e (l+2^e) (o-2^e) {} {}]
   congr 1
   lia
noncomputable def kth:Nat->List Int->Nat->Int
 | 0,_,_=>0
 | e+1,us,k=>if k<(halfO e 0 us).length then kth e (halfO e 0 us) k else 2^e+kth e (halfO e 1 us) (k-(halfO e 0 us).length)
def q729{e:Nat}{k:Nat}(h:k<(halfO e 0 us).length):kth (e+1) us k=kth e (halfO e 0 us) k:=by rw[kth,ZL h]
def q730{e:Nat}{k:Nat}(h:¬ k<(halfO e 0 us).length):kth (e+1) us k=2^e+kth e (halfO e 1 us) (k-(halfO e 0 us).length):=by rw[kth,ZJ h]
theorem q140:∀(e:Nat)(us:List Int)(k:Nat),0<=kth e us k/\kth e us k<2^e
 | 0,us,k=>⟨Int.le_refl _,(by decide:(0:Int)<2^0)⟩
 | e+1,us,k=>by
  have hp:=pow2 e
  have h2:=p2pos e
  by_cases c:k<(halfO e 0 us).length
  ·rw[q729 c]
   have:=q140 e (halfO e 0 us) k
   lia
  ·rw[q730 c]
   have:=q140 e (halfO e 1 us) (k-(halfO e 0 us).length)
   lia
def wayW_lo{e:Nat}{k:Nat}(h:k<(halfO e 0 us).length):wayW (e+1) (kth (e+1) us k)=0::wayW e (kth e (halfO e 0 us) k):=by
 rw[q729 h]
 exact q158 (q140 e _ k).2
def wayW_hi{e:Nat}{k:Nat}(h:¬ k<(halfO e 0 us).length):wayW (e+1) (kth (e+1) us k)=1::wayW e (kth e (halfO e 1 us) (k-(halfO e 0 us).length)):=by
 rw[q730 h,q159 (by have:=(q140 e (halfO e 1 us) (k-(halfO e 0 us).length)).1;lia)]
 have:2^e+kth e (halfO e 1 us) (k-(halfO e 0 us).length)-2^e=kth e (halfO e 1 us) (k-(halfO e 0 us).length):=W5
 rw[this]
theorem q166{e:Nat}{us:List Int}(hin:InO (e+1) us)(o:Int):(o<=2^e->us.countP (λx=>decide (x<o))=(halfO e 0 us).countP (λx=>decide (x<o))) /\
  (2^e<=o->us.countP (λx=>decide (x<o))=(halfO e 0 us).length+(halfO e 1 us).countP (λx=>decide (x<o-2^e))):=by
 have l0:(halfO e 0 us).length=us.countP λx=>mk0 e x==0:=by
  unfold halfO
  rw[ZN,countP_eq_length_filter]
 rw[l0,q74,q74]
 clear l0
 induction us with
 | nil=>exact⟨λ_=>rfl,λ_=>rfl⟩
 | cons x us ih=>
  obtain⟨i1,i2⟩:=ih λy hy=>hin y (ZY _ hy)
  have hx:=hin x WD
  rw[YN,YN,YN,YN]
  rcases mk0b e x with m | m
  ·have hm:=q156 hx.1 hx.2 m
   have hxl:x<2^e:=by
    unfold mk0 at m
    by_cases z:x<2^e
    ·exact z
    ·rw[ZJ z]at m;lia
   have e1:x%2^e=x:=(W103 hm)
   rw[m,e1]
   refine⟨λh=>?_,λh=>?_⟩
   ·rw[i1 h];simp
   ·rw[i2 h]
    have:x<o:={}
    simp[this]
    exact W27
  ·have hm:=q156 hx.1 hx.2 m
   have hxg:¬ x<2^e:=by
    unfold mk0 at m
    intro z
    rw[ZL z]at m;lia
   rw[m]
   refine⟨λh=>?_,λh=>?_⟩
   ·rw[i1 h]
    have:¬ x<o:={}
    simp[this]
   ·rw[i2 h]
    by_cases z:x<o
    ·have z2:x%2^e<o-2^e:={}
     simp[z,z2]
     exact W37
    ·have z2:¬ x%2^e<o-2^e:={}
     simp[z,z2]
noncomputable abbrev ltC(us:List Int)(o:Int):Nat:=us.countP λx=>decide (x<o)
theorem q323:∀(e:Nat)(us:List Int)(k:Nat),InO e us->k<us.length->ltC us (kth e us k)<=k/\k<ltC us (kth e us k+1)
 | 0,us,k,hin,hk=>by
  have h0:us.countP (λx=>decide (x<(0:Int)))=0:=List.countP_eq_zero.mpr λx hx=>by have:=hin x hx;simp;lia
  have h1:us.countP (λx=>decide (x<(0:Int)+1))=us.length:=List.countP_eq_length.mpr λx hx=>by have:=hin x hx;simp at this;exact ZA {}
  show us.countP (λx=>decide (x<(0:Int)))<=k/\k<us.countP (λx=>decide (x<(0:Int)+1))
  lia
 | e+1,us,k,hin,hk=>by
  have hs:=q220 (e:=e) us
  by_cases c:k<(halfO e 0 us).length
  ·rw[q729 c]
   have r:=q140 e (halfO e 0 us) k
   obtain⟨i1,i2⟩:=q323 e (halfO e 0 us) k q45 c
   have e1:=(q166 hin (kth e (halfO e 0 us) k)).1 {}
   have e2:=(q166 hin (kth e (halfO e 0 us) k+1)).1 {}
   unfold ltC at *
   rw[e1,e2]
   exact⟨i1,i2⟩
  ·rw[q730 c]
   have r:=q140 e (halfO e 1 us) (k-(halfO e 0 us).length)
   obtain⟨i1,i2⟩:=q323 e (halfO e 1 us) (k-(halfO e 0 us).length) q45 (W91 hs hk c)
   have e1:=(q166 hin (2^e+kth e (halfO e 1 us) (k-(halfO e 0 us).length))).2 {}
   have e2:=(q166 hin (2^e+kth e (halfO e 1 us) (k-(halfO e 0 us).length)+1)).2 {}
   unfold ltC at *
   rw[e1,e2]
   have a1:2^e+kth e (halfO e 1 us) (k-(halfO e 0 us).length)-2^e=kth e (halfO e 1 us) (k-(halfO e 0 us).length):=W5
   have a2:2^e+kth e (halfO e 1 us) (k-(halfO e 0 us).length)+1-2^e=kth e (halfO e 1 us) (k-(halfO e 0 us).length)+1:={}
   rw[a1,a2]
   lia
def q287{a b:Int}(h:a<=b):ltC us a<=ltC us b:=countP_mono_left λx _ hx=>ZA (by have:=ZF hx;lia)
def q423(us:List Int)(o:Int):ltC us (o+1)=ltC us o+us.count o:=by
 unfold ltC
 rw[count_eq_countP]
 induction us with
 | nil=>rfl
 | cons x us ih=>
  rw[YN,YN,YN,ih]
  by_cases c1:x<o
  ·have c2:x<o+1:={}
   have c3:¬ x=o:=(W99 c1)
   simp only[ZA c1,ZA c2,if_true,show(x==o)=false from beq_eq_false_iff_ne.mpr c3]
   simp
   exact W27
  ·by_cases c3:x=o
   ·have c2:x<o+1:={}
    simp only[ZI c1,ZA c2,show(x==o)=true from beq_iff_eq.mpr c3]
    simp
    exact W37
   ·have c2:¬ x<o+1:={}
    simp[c1,c2,c3]
theorem q288:∀(L:Nat)(o:Int)(gs:List G3),0<=o->o<2^L->(∀ g∈gs,GoodS L g)->manyG (gs.map (ledS L (wayW L o)))=((Wh gs).count o:Nat)
 | 0,o,gs,h0,h1,hg=>by
  have e0:gs.map (ledS 0 (wayW 0 o))=gs:=by
   have:∀ g∈gs,ledS 0 (wayW 0 o) g=id g:=λg _=>q56 0 g
   rw[map_congr_left this,map_id]
  rw[e0,q106 hg]
  have ho:o=0:=by have:(2:Int)^0=1:=rfl;lia
  have hin:=W_in hg
  rw[ho,List.count_eq_length.mpr λb hb=>by have:=hin b hb;simp at this;lia]
 | e+1,o,gs,h0,h1,hg=>by
  have hp:=pow2 e
  have good1:∀ w,∀ g∈gs.map (led1 e w),GoodS e g:=λw g hg'=>by
   obtain⟨g',hg2,rfl⟩:=eE hg'
   exact q105 (hg g' hg2)
  have em:∀(w:Int)(ws:List Int),gs.map (ledS (e+1) (w::ws))=(gs.map (led1 e w)).map (ledS e ws):=λw ws=>by
   rw[map_map]
   exact map_congr_left λg _=>q67 e w ws g
  by_cases c:o<2^e
  ·rw[q158 c,em,q288 e o _ h0 c (good1 0),W_led hg,q97 (W_in hg) (.inl rfl) h0 c]
   have:o+0*2^e=o:={}
   rw[this]
  ·rw[q159 c,em,q288 e (o-2^e) _ {} {} (good1 1),W_led hg,q97 (W_in hg) (.inr rfl) {} {}]
   have:o-2^e+1*2^e=o:={}
   rw[this]
noncomputable def stp(L:Nat)(low:Int)(us:List Int):List P2:=caF 1 0 L low us
def q635{ss:List P2}(hs:ss.Pairwise λp q=>p.1<q.1){p:P2}(hp:p∈ss)(hf:f p=true)(hl:∀ q∈ss,f q=true->p.1<=q.1):ss.find? f=some p:=by
 induction ss with
 | nil=>cases hp
 | cons x ss ih=>
  rw[find?_cons]
  cases hx:f x with
  | true=>
   rcases eB hp with rfl | hp'
   ·rfl
   ·have h1:=(List.pairwise_cons.mp hs).1 p hp'
    have h2:=hl x WD hx
    lia
  | false=>
   rcases eB hp with rfl | hp'
   ·rw[hf]at hx;cases hx
   ·exact ih (List.pairwise_cons.mp hs).2 hp' λq hq=>hl q (ZY _ hq)
def ltC_le(us:List Int)(o:Int):ltC us o<=us.length:=countP_le_length
def up_find{L:Nat}{low num:Int}{us:List Int}(hin:InO L us) :
  (ltC us (num+1-low)=us.length->(stp L low us).find? (λq=>decide (num<q.1))=none) /\
  (ltC us (num+1-low)≠us.length->(stp L low us).find? (λq=>decide (num<q.1))=some ((low+kth L us (ltC us (num+1-low)),((us.count (kth L us (ltC us (num+1-low))):Nat):Int)):P2)):=by
 have hle:=ltC_le us (num+1-low)
 constructor
 ·intro h
  rw[find?_eq_none]
  intro q hq hf
  have r:=q493 hin hq
  have hm:q.1-low∈us:=List.count_pos_iff.mp {}
  have:=List.countP_eq_length.mp h _ hm
  have:=ZF this
  have:=ZF hf
  lia
 ·intro h
  have hk:ltC us (num+1-low)<us.length:={}
  obtain⟨c1,c2⟩:=q323 L us _ hin hk
  have r:=q140 L us (ltC us (num+1-low))
  generalize hko:kth L us (ltC us (num+1-low))=o at *
  have hge:num+1-low<=o:=by
   apply Classical.byContradiction
   intro c
   have:=q287 (us:=us) (show o+1<=num+1-low by lia)
   lia
  rw[q423]at c2
  have hcnt:0<us.count o:=by
   have:=q287 (us:=us) hge
   lia
  refine q635 (f:=λq=>decide (num<q.1)) (q422 L low us hin) ((q492 L low us hin _ _).mpr ⟨by rw[show low+o-low=o by exact W5],{}⟩) (ZA (by show num<low+o;lia)) (λq hq hf=>?_)
  show low+o<=q.1
  have rq:=q493 hin hq
  have hf':=ZF hf
  apply Classical.byContradiction
  intro c
  have h1:=q287 (us:=us) (show num+1-low<=q.1-low by lia)
  have h2:=q287 (us:=us) (show q.1-low+1<=o by lia)
  rw[q423]at h2
  have:0<us.count (q.1-low):={}
  lia
abbrev q221:Nat:=1
abbrev q498:Nat:=40
inductive q245(u0:Fg)(e:Nat)(vs:List V)(H:Hp)(Q:VK)(E:XK):Prop
 |mk(v:V)(wy:Addr)(k i:Nat)(L:Nat)(os ws:List Int)(_:vs=[v,.ref wy,.int (k:Int)])(_:q58 H v (growO L os))(_:TupF H wy (ws.map V.int))(_:ws.length=e)(_:e<=L)(_:B01 ws)(_:InO L os)(_:(spots L os ws)[k]? = some i)(_:∀ H',Same H H'->Q (.int (i:Int)) H')
def q731(K:Fg):Sp:=λvs H Q E=>∃ e,e<=q498/\q245 K e vs H Q E
def cut_tail(w:Int)(ws:List Int):cutV ((w::ws).map V.int) (some 1) none=ws.map V.int:=by
 unfold cutV
 have e1:HT.sIx ((w::ws).map V.int).length 0 (some 1)=1:=by
  rw[ZN,WT]
  simp[HT.sIx]
  try lia
 rw[e1,HT.q753,map_cons,drop_succ_cons,drop_zero,WT,Nat.add_sub_cancel]
 exact YF
inductive q222(K:Fg)(vs:List V)(H:Hp)(Q:VK)(E:XK):Prop
 |mk(ga:Addr)(xs:List V)(L k:Nat)(gs:List G3)(_:vs=[.int (L:Int),.ref ga,.int (k:Int)])(_:L<=40)(_:H ga=some (.lst xs))(_:GatAt H L xs gs)(_:(∀ g∈gs,GoodS L g))(_:gs.length<=100)(_:(Wh gs).length<=900)(_:k<(Wh gs).length)(_:∀ t H',Same H H'->TupF H' t ((wayW L (kth L (Wh gs) k)).map V.int)->Q (.ref t) H')
inductive q176(K:Fg)(vs:List V)(H:Hp)(Q:VK)(E:XK):Prop
 |mk(b ga:Addr)(xs:List V)(low:Int)(L k:Nat)(gs:List G3)(_:vs=[.ref b,.ref ga,.int (k:Int)])(_:SqT K H b [.int low,.int (L:Int)])(_:L<=40)(_:H ga=some (.lst xs))(_:GatAt H L xs gs)(_:(∀ g∈gs,GoodS L g))(_:gs.length<=100)(_:(Wh gs).length<=900)(_:k<(Wh gs).length)(_:∀ v H',Same H H'->PsR H' v (low+kth L (Wh gs) k,(((Wh gs).count (kth L (Wh gs) k):Nat):Int))->Q v H')
def NxV(H:Hp)(v:V):Option P2->Prop
 | none=>v = .non
 | some p=>PsR H v p
inductive q388(K:Fg)(vs:List V)(H:Hp)(Q:VK)(E:XK):Prop
 |mk(b ga:Addr)(xs:List V)(low num:Int)(L:Nat)(gs:List G3)(_:vs=[.ref b,.ref ga,.int num])(_:SqT K H b [.int low,.int (L:Int)])(_:L<=40)(_:H ga=some (.lst xs))(_:GatAt H L xs gs)(_:(∀ g∈gs,GoodS L g))(_:gs.length<=100)(_:(Wh gs).length<=900)(_:∀ v H',Same H H'->NxV H' v ((stp L low (Wh gs)).find? λq=>decide (num<q.1))->Q v H')
def q732:z.C P w 42 "lifted" ["tree", "way", "place"] (q731 K):=by
 have sc:=q715
 refine z.d_lifted.recur (k:=q221) (sp:=q245 K) q498 λe hen c_lifted f fd F=>F.k sc λ_ _ _ s H _ Q _ hr h=>?_
 obtain⟨v,wy,k,i,L,os,ws,rfl,ht,hw,hwl,heL,h01,hin,hi,q⟩:=h
 refine⟨_,(q11 (ps_if (q18 op_eq (pln z.len_ (pa1 (pv 1))) q14 (q19 _))
 (q11 (ps_if (PW.pt (pw_or (q18 op_lt (pv 2) q14 (q19 _)) (q111 (q18 op_ge (pv 2) (pe_fn (q631 z) (hr.mono (ZQ (by decide:1<=q221) (WR _ _))) () (pa1 (pv 0))) (q19 _)))))
 (q16 q201)
 q22)
 (q16 (q20 (pv 2))))
 q22)
 (q11 (pst 3 sc.nd (pe_fn c_lifted (hr.mono (ZH _)) () (pa3 (pe_fn (q381 z) (hr.mono (ZQ (by decide:1<=q221) (WR _ _))) () (pa2 (pv 0) (pix q26 (pv 1) q14))) (q130 q669 (pv 1) (q189 q14) q188) (pv 2))))
 (q16 (q20 (pe_fn (q536 z) (hr.mono (ZQ (by decide:1<=q221) (WR _ _))) () (pa3 (pix q26 (pv 0) q14) (pix q26 (pv 1) q14) (pv 3))))))),?_⟩
 exists _,rfl,wy,_,rfl,.inr hw.sq,rfl,_,rfl
 cases ws with
 | nil=>
  refine ite2 (λ_=>?_) (λc=>absurd (ZA rfl) c)
  rw[q535]at hi
  have hk:k<os.length:=by
   have:=(eA hi).1
   rwa [length_range]at this
  rw[getElem?_range hk]at hi
  cases hi
  exists _,rfl,_,_,rfl,rfl,_,rfl
  refine ite2 (λc=>absurd (ZF c) W74) (λ_=>?_)
  exists _,rfl,_,rfl,v,_,rfl,ht,_,_,rfl,rfl,_,rfl
  rw[q633]
  refine ite2 (λc=>absurd (ZF c) {}) (λ_=>?_)
  exact⟨_,rfl,q H (Same.refl H)⟩
 | cons w0 ws=>
  refine ite2 (λc=>?_) (λ_=>?_)
  ·exfalso
   have:=V.int.inj (ZF c)
   rw[ZN,WT]at this
   lia
  obtain⟨e',rfl⟩:∃ e',e=e'+1:=⟨ws.length,by rw[<- hwl];rfl⟩
  obtain⟨L',rfl⟩:∃ L',L=L'+1:=⟨L-1,{}⟩
  have hw0:w0=0\/w0=1:=h01 w0 (WD ..)
  have h01':B01 ws:=λm hm=>h01 m (ZY _ hm)
  have hwl':ws.length=e':=by rw[WT]at hwl;lia
  have h0at:atI ((w0::ws).map V.int) 0=some (.int w0):=by
   show atI _ ((0:Nat):Int)=_
   exact q86 rfl
  have hdn:=q634 (w:=w0) (ws:=ws) hin k
  rw[hi]at hdn
  cases hi2:(spots L' (halfO L' w0 os) ws)[k]? with
  | none=>rw[hi2,Option.bind_none]at hdn;cases hdn
  | some i2=>
   rw[hi2,Option.bind_some]at hdn
   refine⟨_,rfl,_,rfl,wy,_,_,_,rfl,rfl,hw.sq,h0at,v,_,w0,rfl,ht,hw0,λu hu=>?_⟩
   rw[q383 hin hw0]at hu
   refine⟨_,rfl,1,rfl,wy,_,rfl,hw,λw2 H1 s1 hw2=>⟨_,rfl,?_⟩⟩
   rw[cut_tail]at hw2
   refine⟨u,w2,k,i2,L',halfO L' w0 os,ws,rfl,hu.same s1,hw2,hwl',{},h01',q45,hi2,λH2 s2=>?_⟩
   have s02:=s1.trans s2
   have hne:os≠[]:=λz=>by
    rw[z]at hi2
    have e0:halfO L' w0 []=[]:=rfl
    rw[e0,q720]at hi2
    simp at hi2
   have ht2:=ht.same s02
   rw[q96 hne]at ht2
   obtain⟨a,m,x,y,rfl,ha,hm,_,_⟩:=ht2
   exact⟨_,rfl,a,_,_,_,rfl,rfl,SqT.of ha,rfl,_,rfl,wy,_,_,_,rfl,rfl,(hw.same s02).sq,h0at,_,rfl,m,os.map (mk0 L'),w0,(i2:Int),i,rfl,hm.sq,hdn.symm,λH3 s3=>q H3 (s02.trans s3)⟩
def q223:z.C P w 4 "way_of_nth" ["levels", "gathering", "k"] (q222 K):=by
 have sc:=q413
 specialize z.d_way_of_nth
 obtain⟨ga,xs,L,k,gs,rfl,hL,hga,hg,hgd,hl,hw9,hk,q⟩:=h
 refine⟨_,(q11 (pst 3 sc.nd (q38 q13))
 (q11 (pst 4 sc.nd (pv 1))
 (q11 (pst 5 sc.nd (pv 2))
 (q11 (q62 PassesOwn.never rfl (q80 rfl z.range_ (pa1 (pv 0))) (pgn 6 sc.nd)
 (q11 (pst 7 sc.nd (pfn (q37 z) hr (pa1 (pfn (q155 z) hr (pa2 (pv 4) (q30 (pa1 q14)))))))
 (q11 (pst 8 sc.nd (pe_ifExp (q18 op_lt (pv 5) (pv 7) (q19 _)) q14 q14))
 (q11 (pst 5 sc.nd (pe_op q47 (pv 5) (pe_op q113 (pv 8) (pv 7))))
 (q11 (pst 4 sc.nd (pfn (q155 z) hr (pa2 (pv 4) (q30 (pa1 (pv 8))))))
 (q16 (q129 (pe_bm YD YH YI q59 (pv 3) (pa1 (pv 8))))))))))
 (q16 (q20 (q102 q191 () z.tuple_ q203 (pa1 (pv 3))))))))),?_⟩
 refine⟨szb rfl,λwl hwl=>?_⟩
 have s1:=q15 hwl (.lst [])
 have hwl1:=@q12 H wl (.lst [])
 generalize upd H wl (.lst [])=H1 at *
 have hgw:ga≠wl:=λz=>by rw[z,hwl]at hga;cases hga
 refine⟨_,rfl,_,rfl,_,rfl,(L:Int),rfl,(W114 hL),{},q101 (n:=L) (λi σ H2=>∃(pa:Addr)(zs:List V)(gs':List G3)(k':Nat)(ws:List Int)(v6 v7 v8:Option V),σ=[some (.int (L:Int)),some (.ref ga),some (.int (k:Int)),some (.ref wl),some (.ref pa),some (.int (k':Int)),v6,v7,v8]/\Same H H2/\H2 wl=some (.lst (ws.map V.int))/\ws.length=i/\H2 pa=some (.lst zs)/\GatAt H2 (L-i) zs gs'/\(∀ g∈gs',GoodS (L-i) g)/\gs'.length<=100/\(Wh gs').length<=900/\k'<(Wh gs').length/\pa≠wl /\
   wayW L (kth L (Wh gs) k)=ws++wayW (L-i) (kth (L-i) (Wh gs') k')) ⟨ga,xs,gs,k,[],none,none,none,rfl,s1,hwl1,rfl,s1 _ _ hga,hg.same s1,hgd,hl,hw9,hk,hgw,rfl⟩ ?_ ?_⟩
 ·rintro i σ H2 hi ⟨pa,zs,gs',k',ws,v6,v7,v8,rfl,s2,hwl2,hwsl,hpa,hg',hgd',hl',hw9',hk',hpw,hway⟩
  obtain⟨e,he⟩:∃ e,L-i=e+1:=⟨L-i-1,(W3 hwsl hi)⟩
  have he2:L-(i+1)=e:=(W23 hwsl hi he)
  rw[he]at hg' hgd' hway
  have el:∀ w:Int,gs'.map (ledS (e+1) [w])=gs'.map (led1 e w):=λw=>map_congr_left λg _=>by rw[q67,q56]
  have good1:∀ w,∀ g∈gs'.map (led1 e w),GoodS e g:=λw g hg=>by
   obtain⟨g',hg',rfl⟩:=eE hg
   exact q105 (hgd' g' hg')
  have hsum:=q220 (e:=e) (Wh gs')
  have lenH:∀ w:Int,(halfO e w (Wh gs')).length<=900:=λw=>ZQ q126 hw9'
  refine⟨_,rfl,szb rfl,λw0 hw0=>?_⟩
  have s3:=q15 hw0 (.tup [V.int 0])
  have hw0':upd H2 w0 (.tup [V.int 0]) w0=some (.tup [V.int 0]):=q12
  generalize upd H2 w0 (.tup [V.int 0])=H3 at *
  refine⟨pa,w0,zs,e+1,[0],gs',rfl,SqL.of (s3 _ _ hpa),hg'.same s3,hgd',(W22 hl'),SqT.of hw0',by simp,(λx hx=>by rw[eD hx];exact .inl rfl),λH4 D4 z4 s4 hD4 hD4n hg4=>?_⟩
  rw[el]at hg4
  refine⟨D4,z4,e,_,rfl,SqL.of hD4,hg4,by rw[ZN];lia,λH5 s5=>?_⟩
  rw[q106 (good1 0),W_led hgd']
  have s25:=(s3.trans s4).trans s5
  exists _,rfl,_,rfl,_,_,rfl,rfl,_,rfl
  refine ite2 (λc=>?_) (λc=>?_)
  ·have c':k'<(halfO e 0 (Wh gs')).length:=by have:=ZF c;lia
   rw[wayW_lo c']at hway
   exists _,rfl,_,rfl,_,rfl,_,_,rfl,rfl,.inl ⟨∅,∅⟩,_,_,rfl,rfl
   refine⟨_,rfl,_,rfl,szb rfl,λw1 hw1=>?_⟩
   have s6:=q15 hw1 (.tup [V.int 0])
   have hw1':upd H5 w1 (.tup [V.int 0]) w1=some (.tup [V.int 0]):=q12
   generalize upd H5 w1 (.tup [V.int 0])=H6 at *
   have s26:=s25.trans s6
   refine⟨pa,w1,zs,e+1,[0],gs',rfl,SqL.of (s26 _ _ hpa),hg'.same s26,hgd',{},SqT.of hw1',by simp,(λx hx=>by rw[eD hx];exact .inl rfl),λH7 D7 z7 s7 hD7 hD7n hg7=>?_⟩
   rw[el]at hg7
   have s27:=s26.trans s7
   have hwl7:=s27 _ _ hwl2
   have hD7w:D7≠wl:=λz=>by rw[z,s26 _ _ hwl2]at hD7n;cases hD7n
   exists _,rfl,.inl ⟨rfl,_,SqL.of hwl7⟩,_,rfl,wl,_,_,rfl,rfl,hwl7,by rw[ZN];exact q81 {}
   have tk:TKeep H7 (upd H7 wl (.lst (ws.map V.int++[V.int 0]))):=.set hwl7
   exists D7,z7,gs'.map (led1 e 0),k',ws++[0],some (V.int (0+(i:Int))),some (V.int ((halfO e 0 (Wh gs')).length:Nat)),some (V.int 0),?_,q495 (s2.trans s27) hwl _,by rw[q12,WS];rfl,by rw[ZU,hwsl];rfl,by rw[q27 hD7w];exact hD7,by rw[he2];exact hg7.tk tk,by rw[he2];exact good1 0,by rw[ZN];exact hl',by rw[W_led hgd'];exact lenH 0,by rw[W_led hgd'];exact c',hD7w
   ·have:(k':Int)-0*((halfO e 0 (Wh gs')).length:Nat)=(k':Int):={}
    exact congrArg (λq:Int=>[some (V.int (L:Int)),some (V.ref ga),some (V.int (k:Int)),some (V.ref wl),some (V.ref D7),some (V.int q),some (V.int (0+(i:Int))),some (V.int ((halfO e 0 (Wh gs')).length:Nat)),some (V.int 0)]) this
   ·rw[hway,he2,W_led hgd',YZ];rfl
  ·have c':¬ k'<(halfO e 0 (Wh gs')).length:=λz=>c (ZA (W98 z))
   rw[wayW_hi c']at hway
   exists _,rfl,_,rfl,_,rfl,_,_,rfl,rfl,.inl ⟨∅,∅⟩,_,_,rfl,rfl
   refine⟨_,rfl,_,rfl,szb rfl,λw1 hw1=>?_⟩
   have s6:=q15 hw1 (.tup [V.int 1])
   have hw1':upd H5 w1 (.tup [V.int 1]) w1=some (.tup [V.int 1]):=q12
   generalize upd H5 w1 (.tup [V.int 1])=H6 at *
   have s26:=s25.trans s6
   refine⟨pa,w1,zs,e+1,[1],gs',rfl,SqL.of (s26 _ _ hpa),hg'.same s26,hgd',{},SqT.of hw1',by simp,(λx hx=>by rw[eD hx];exact .inr rfl),λH7 D7 z7 s7 hD7 hD7n hg7=>?_⟩
   rw[el]at hg7
   have s27:=s26.trans s7
   have hwl7:=s27 _ _ hwl2
   have hD7w:D7≠wl:=λz=>by rw[z,s26 _ _ hwl2]at hD7n;cases hD7n
   exists _,rfl,.inl ⟨rfl,_,SqL.of hwl7⟩,_,rfl,wl,_,_,rfl,rfl,hwl7,by rw[ZN];exact q81 {}
   have tk:TKeep H7 (upd H7 wl (.lst (ws.map V.int++[V.int 1]))):=.set hwl7
   exists D7,z7,gs'.map (led1 e 1),k'-(halfO e 0 (Wh gs')).length,ws++[1],some (V.int (0+(i:Int))),some (V.int ((halfO e 0 (Wh gs')).length:Nat)),some (V.int 1),?_,q495 (s2.trans s27) hwl _,by rw[q12,WS];rfl,by rw[ZU,hwsl];rfl,by rw[q27 hD7w];exact hD7,by rw[he2];exact hg7.tk tk,by rw[he2];exact good1 1,by rw[ZN];exact hl',by rw[W_led hgd'];exact lenH 1,by rw[W_led hgd'];exact W91 hsum hk' c',hD7w
   ·have:(k':Int)-1*((halfO e 0 (Wh gs')).length:Nat)=((k'-(halfO e 0 (Wh gs')).length:Nat):Int):={}
    exact congrArg (λq:Int=>[some (V.int (L:Int)),some (V.ref ga),some (V.int (k:Int)),some (V.ref wl),some (V.ref D7),some (V.int q),some (V.int (0+(i:Int))),some (V.int ((halfO e 0 (Wh gs')).length:Nat)),some (V.int 1)]) this
   ·rw[hway,he2,W_led hgd',YZ];rfl
 ·rintro σ H2 ⟨pa,zs,gs',k',ws,v6,v7,v8,rfl,s2,hwl2,hwsl,hpa,hg',hgd',hl',hw9',hk',hpw,hway⟩
  rw[Nat.sub_self]at hway
  have hw2:wayW L (kth L (Wh gs) k)=ws:=by rw[hway];exact append_nil ws
  rw[hw2]at q
  exact⟨_,rfl,wl,_,rfl,SqL.of hwl2,λt H' s' ht=>q t H' (s2.trans s') ht⟩
def q356:z.C P w 5 "counted_nth" pn4 (q176 K):=by
 have sc:=q341
 specialize z.d_counted_nth
 obtain⟨b,ga,xs,low,L,k,gs,rfl,hb,hL,hga,hg,hgd,hl,hw9,hk,q⟩:=h
 refine⟨_,(q11 (pst 3 sc.nd (pfn (q223 z) hr (pa3 (pix q26 (pv 0) q14) (pv 1) (pv 2))))
 (q16 (q20 (q30 (pa2 (pix q26 (pfn (q387 z) hr (pa2 (pv 0) (pv 3))) q14) (pfn (q37 z) hr (pa1 (pfn (q155 z) hr (pa2 (pv 1) (pv 3)))))))))),?_⟩
 have r:=q140 L (Wh gs) k
 refine⟨_,rfl,b,_,_,_,rfl,rfl,hb,rfl,_,rfl,_,rfl,ga,xs,L,k,gs,rfl,hL,hga,hg,hgd,hl,hw9,hk,λt H1 s1 ht=>?_⟩
 generalize kth L (Wh gs) k=o at *
 refine⟨_,rfl,_,rfl,b,t,low,L,wayW L o,rfl,s1.seqT hb,hL,ht.sq,λp hp=>?_⟩
 have hsp:spanS low L (wayW L o)=(low+o,1):=q286 L low o r.1 r.2
 rw[hsp]
 have s2:=q15 hp (.tup [V.int (low+o),.int (low+o+1-1)])
 have hp2:=@q12 H1 p (.tup [V.int (low+o),.int (low+o+1-1)])
 dsimp only
 generalize upd H1 p (.tup [V.int (low+o),.int (low+o+1-1)])=H2 at *
 have s02:=s1.trans s2
 exists p,_,_,_,rfl,rfl,SqT.of hp2,rfl
 refine⟨_,rfl,_,rfl,ga,t,xs,L,wayW L o,gs,rfl,SqL.of (s02 _ _ hga),hg.same s02,hgd,(W22 hl),(ht.same s2).sq,by rw[q165];exact ZH _,q244 L o,λH3 D3 z3 s3 hD3 _ hg3=>?_⟩
 refine⟨D3,z3,_,_,rfl,SqL.of hD3,hg3,by rw[ZN];lia,λH4 s4=>?_⟩
 rw[q288 L o gs r.1 r.2 hgd]
 exact⟨szb rfl,λv hv=>q _ _ (((s02.trans s3).trans s4).trans (q15 hv _)) ⟨v,rfl,q12⟩⟩
def q636:z.C P w 6 "next_up" pn0 (q388 K):=by
 have sc:=q629
 specialize z.d_next_up
 obtain⟨b,ga,xs,low,num,L,gs,rfl,hb,hL,hga,hg,hgd,hl,hw9,q⟩:=h
 refine⟨_,(q11 (pst 3 sc.nd (pfn (ok_below z) hr (pa3 (pv 0) (pv 1) (pe_op q29 (pv 2) q14))))
 (q11 (ps_if (q18 op_eq (pv 3) (pfn (q37 z) hr (pa1 (pv 1))) (q19 _))
 (q16 (q20 q65))
 q22)
 (q16 (q20 (pfn (q356 z) hr (pa3 (pv 0) (pv 1) (pv 3))))))),?_⟩
 obtain⟨u1,u2⟩:=up_find (L:=L) (low:=low) (num:=num) (W_in hgd)
 have hle:=ltC_le (Wh gs) (num+1-low)
 refine⟨_,rfl,_,rfl,_,rfl,_,_,rfl,rfl,b,ga,xs,low,num+1,L,gs,rfl,hb,hL,SqL.of hga,hg,hgd,hl,λH1 s1=>?_⟩
 change ∀ v H',Same H H'->NxV H' v _->Q v H' at q
 refine⟨_,rfl,_,rfl,ga,xs,L,gs,rfl,SqL.of (s1 _ _ hga),hg.same s1,{},λH2 s2=>?_⟩
 rw[q106 hgd]
 exists rfl,_,rfl
 by_cases c:ltC (Wh gs) (num+1-low)=(Wh gs).length
 ·rw[u1 c]at q
  refine ite2 (λ_=>q .non H2 (s1.trans s2) rfl) (λc2=>absurd (ZA (by show V.int ((ltC (Wh gs) (num+1-low):Nat):Int)=_;rw[c])) c2)
 ·rw[u2 c]at q
  refine ite2 (λc2=>absurd (by have:=V.int.inj (ZF c2);unfold ltC;lia) c) (λ_=>?_)
  have s02:=s1.trans s2
  exact⟨_,rfl,_,rfl,_,rfl,b,ga,xs,low,L,ltC (Wh gs) (num+1-low),gs,rfl,s02.seqT hb,hL,s02 _ _ hga,hg.same s02,hgd,hl,hw9,(W9 hle c),λv H3 s3 hv=>q v H3 (s02.trans s3) hv⟩
theorem q538:∀(L:Nat)(o x:Int),0<=o->o<2^L->0<=x->x<2^L->inW L x (wayW L o)=decide (x=o)
 | 0,o,x,h0,h1,h2,h3=>by
  have:(2:Int)^0=1:=rfl
  rw[ZA {}]
  rfl
 | e+1,o,x,h0,h1,h2,h3=>by
  have p:=pow2 e
  have hp:=p2pos e
  by_cases c:o<2^e
  ·rw[q158 c,q285 ⟨h2,h3⟩]
   rcases mk0b e x with m | m
   ·have mm:=q156 h2 h3 m
    have r0:=YM x (show(2:Int)^e≠0 by lia)
    have r1:=YE x hp
    rw[m,q538 e o (x%2^e) h0 c r0 r1]
    have:x%2^e=x:=(W103 mm)
    rw[this]
    rfl
   ·have mm:=q156 h2 h3 m
    have r0:=YM x (show(2:Int)^e≠0 by lia)
    rw[m,ZI {}]
    rfl
  ·rw[q159 c,q285 ⟨h2,h3⟩]
   have r0:=YM x (show(2:Int)^e≠0 by lia)
   have r1:=YE x hp
   rcases mk0b e x with m | m
   ·have mm:=q156 h2 h3 m
    rw[m,ZI {}]
    rfl
   ·have mm:=q156 h2 h3 m
    rw[m,q538 e (o-2^e) (x%2^e) {} {} r0 r1]
    by_cases z:x=o
    ·rw[ZA z,ZA {}]
     rfl
    ·rw[ZI z,ZI {}]
     rfl
def C_sel2{os:List Int}{s t:Nat}(h:s<=t):(os.take s).countP q+(sel (os,s,t)).countP q=(os.take t).countP q:=by
 have e:os.take t=os.take s++sel (os,s,t):=by
  unfold sel
  have:=(take_append_drop s (os.take t)).symm
  rw[take_take,Nat.min_eq_left h]at this
  exact this
 rw[e,countP_append]
def q733(g:G3):Wh [g]=sel g:=by unfold Wh;rw[flatMap_cons,flatMap_nil,append_nil]
def cnt_q(us:List Int)(o:Int):us.count o=us.countP λx=>decide (x=o):=by
 rw[count_eq_countP]
 refine countP_congr λx _=>?_
 rw[beq_iff_eq,ZZ]
def lift_at{L:Nat}{g:G3}{o:Int}{left:Nat}(hg:GoodS L g)(h0:0<=o)(h1:o<2^L)(hl:left<(sel g).count o) :
  ∃ i,(spots L g.1 (wayW L o))[(ledS L (wayW L o) g).2.1+left]? = some i/\g.2.1<=i/\i<g.2.2/\g.1[i]? = some o/\(sel (g.1,g.2.1,i)).count o=left:=by
 obtain⟨os,s,t⟩:=g
 obtain⟨hin,hst,htl,_⟩:=hg
 change s<=t at hst
 change t<=os.length at htl
 have hq:∀ x∈os,inW L x (wayW L o)=decide (x=o):=λx hx=>q538 L o x h0 h1 (hin x hx).1 (hin x hx).2
 have hs:spots L os (wayW L o)=idxs (λx=>decide (x=o)) os:=q384 hq
 have hcc:∀ k,(os.take k).countP (λx=>inW L x (wayW L o))=(os.take k).countP λx=>decide (x=o):=λk=>countP_congr λx hx=>by rw[hq x (mem_of_mem_take hx)]
 have hled:(ledS L (wayW L o) (os,s,t)).2.1=(os.take s).countP λx=>decide (x=o):=by
  rcases q584 L (wayW L o) os s t (by rw[q165];exact ZH _) hin with e | e | e
  ·rw[e];exact hcc s
  ·lia
  ·lia
 rw[cnt_q]at hl
 have c1:=C_sel2 (q:=λx=>decide (x=o)) (os:=os) hst
 have c2:=q420 (q:=λx=>decide (x=o)) os htl
 rw[WZ (ZH os.length)]at c2
 have hlen:(idxs (λx=>decide (x=o)) os).length=os.countP λx=>decide (x=o):=by
  have:=congrArg List.length (q490 (p:=λx=>decide (x=o)) os)
  rw[ZN]at this
  rw[this,countP_eq_length_filter]
 have hk:(os.take s).countP (λx=>decide (x=o))+left<(idxs (λx=>decide (x=o)) os).length:={}
 obtain⟨i,hi⟩:∃ i,(idxs (λx=>decide (x=o)) os)[(os.take s).countP (λx=>decide (x=o))+left]? = some i:=⟨_,ZR hk⟩
 obtain⟨o',k1,k2,k3⟩:=q421 os _ i hi
 have eo:o'=o:=ZF k2
 subst eo
 have hsi:s<=i:=by
  apply Classical.byContradiction
  intro c
  have m:=q420 (q:=λx=>decide (x=o')) os (show i+1<=s by lia)
  rw[cnt_step k1 k2]at m
  lia
 have hit:i<t:=by
  apply Classical.byContradiction
  intro c
  have m:=q420 (q:=λx=>decide (x=o')) os (show t<=i by exact W14 c)
  lia
 exists i,?_,hsi,hit,k1
 ·show(spots L os (wayW L o'))[(ledS L (wayW L o') (os,s,t)).2.1+left]? = some i
  rw[hs,hled]
  exact hi
 ·show(sel (os,s,i)).count o'=left
  rw[cnt_q]
  have c3:=C_sel2 (q:=λx=>decide (x=o')) (os:=os) hsi
  lia
noncomputable def Thing(gs:List G3)(o:Int)(num j pl:Nat):Prop:=∃ g,gs[j]? = some g/\g.2.1<=pl/\pl<g.2.2/\g.1[pl]? = some o/\num=(Wh (gs.take j++[(g.1,g.2.1,pl)])).count o
def Wh_take{gs:List G3}{j:Nat}(h:gs[j]? = some g):Wh (gs.take (j+1))=Wh (gs.take j)++sel g:=by
 rw[WW,h]
 show Wh (gs.take j++[g])=_
 rw[W_app,q733]
def q734{L:Nat}(h:StrAt H L v g):GatAt H L [v] [g]:=(GatAt.nil H L).snoc h
inductive q265(u0:Fg)(vs:List V)(H:Hp)(Q:VK)(E:XK):Prop
 |mk(ga wy:Addr)(xs:List V)(L num:Nat)(o:Int)(gs:List G3)(_:vs=[.ref ga,.ref wy,.int (num:Int)])(_:L<=40)(_:H ga=some (.lst xs))(_:GatAt H L xs gs)(_:(∀ g∈gs,GoodS L g))(_:gs.length<=100)(_:TupF H wy ((wayW L o).map V.int))(_:0<=o)(_:o<2^L)(_:num<(Wh gs).count o)(_:∀(p:Addr)(j pl:Nat)(H':Hp),Same H H'->H' p=some (.tup [.int (j:Int),.int (pl:Int)])->Thing gs o num j pl->Q (.ref p) H')
inductive q266(K:Fg)(vs:List V)(H:Hp)(Q:VK)(E:XK):Prop
 |mk(b ga:Addr)(xs:List V)(low:Int)(L k:Nat)(gs:List G3)(_:vs=[.ref b,.ref ga,.int (k:Int)])(_:SqT K H b [.int low,.int (L:Int)])(_:L<=40)(_:H ga=some (.lst xs))(_:GatAt H L xs gs)(_:(∀ g∈gs,GoodS L g))(_:gs.length<=100)(_:(Wh gs).length<=900)(_:k<(Wh gs).length)(_:∀(p:Addr)(j pl:Nat)(H':Hp),Same H H'->SqT K H' p [.int (low+kth L (Wh gs) k),.int (j:Int),.int (pl:Int)]->Thing gs (kth L (Wh gs) k) (k-ltC (Wh gs) (kth L (Wh gs) k)) j pl->Q (.ref p) H')
noncomputable def muJ(n:Nat):St->Nat:=λσ=>match σ[5]? with
 | some (some (V.int m))=>n-m.toNat
 | _=>0
def q499:z.C P w 43 "nth_alike" ["gathering", "way", "number"] (q265 K):=by
 have sc:=q470
 specialize z.d_nth_alike
 obtain⟨ga,wy,xs,L,num,o,gs,rfl,hL,hga,hg,hgd,hl,hwy,h0,h1,hnum,q⟩:=h
 refine⟨_,(q11 (pst 3 sc.nd (pfn (q155 z) hr (pa2 (pv 0) (pv 1))))
 (q11 (pst 4 sc.nd (pv 2))
 (q11 (pst 5 sc.nd q14)
 (q11 (ps_while PassesOwn.never (q18 op_ge (pv 4) (pfn (q37 z) hr (pa1 (q38 (pa1 (pix q32 (pv 3) (pv 5)))))) (q19 _))
 (q11 (pst 4 sc.nd (pe_op q47 (pv 4) (pfn (q37 z) hr (pa1 (q38 (pa1 (pix q32 (pv 3) (pv 5))))))))
 (q16 (pst 5 sc.nd (pe_op q29 (pv 5) q14)))))
 (q16 (q20 (q30 (pa2 (pv 5) (pfn (q732 z) hr (pa3 (pix q26 (pix q32 (pv 0) (pv 5)) q14) (pv 1) (pe_op q29 (pix q26 (pix q32 (pv 3) (pv 5)) q14) (pv 4)))))))))))),?_⟩
 have hwl:=q165 L o
 refine⟨_,rfl,_,rfl,ga,wy,xs,L,wayW L o,gs,rfl,SqL.of hga,hg,hgd,(W22 hl),hwy.sq,{},q244 L o,λH1 D zs s1 hD _ hg1=>?_⟩
 rw[hwl,Nat.sub_self]at hg1
 have one:∀ g∈gs,manyG [ledS L (wayW L o) g]=((sel g).count o:Nat):=λg hgm=>by
  have:=q288 L o [g] h0 h1 (λx hx=>by rw[eD hx];exact hgd g hgm)
  rw[q733]at this
  exact this
 have hjlt:∀(j left:Nat),left+(Wh (gs.take j)).count o=num->j<gs.length:=λj left e=>by
  apply Classical.byContradiction
  intro c
  rw[WZ (W14 c)]at e
  lia
 exists _,rfl
 have at1:∀ j:Nat,j<gs.length -> ∃ g z t t' u u',gs[j]? = some g/\zs[j]? = some z/\z=V.ref t'/\H1 t'=some (.tup [u',.int ((ledS L (wayW L o) g).2.1:Int),.int ((ledS L (wayW L o) g).2.2:Int)])/\StrAt H1 0 z (ledS L (wayW L o) g)/\xs[j]? = some (V.ref t)/\H t=some (.tup [u,.int (g.2.1:Int),.int (g.2.2:Int)])/\q58 H u (growO L g.1):=by
  intro j hj
  have gj:gs[j]? = some gs[j]:=ZR hj
  have hjz:j<zs.length:=by rw[hg1.1,ZN];exact hj
  have hjx:j<xs.length:=by rw[hg.1];exact hj
  have gz:=ZR hjz
  have gx:=ZR hjx
  have hstr:=hg1.2 j _ _ gz (by rw[WM,gj];rfl)
  obtain⟨t',u',e1,e2,e3⟩:=id hstr
  obtain⟨t,u,f1,f2,f3⟩:=hg.2 j _ _ gx gj
  rw[f1]at gx
  exact⟨_,_,t,t',u,u',gj,gz,e1,e2,hstr,gx,f2,f3⟩
 refine while_by (λσ H2=>∃(left j:Nat),σ=[some (.ref ga),some (.ref wy),some (.int (num:Int)),some (.ref D),some (.int (left:Int)),some (.int (j:Int))]/\Same H1 H2/\left+(Wh (gs.take j)).count o=num) (λσ _=>muJ gs.length σ)
  ⟨num,0,rfl,Same.refl _,rfl⟩ ?_ ?_
 ·rintro σ H2 ⟨left,j,rfl,s2,hinv⟩
  have hj:=hjlt j left hinv
  obtain⟨g,z,t,t',u,u',gj,gz,e1,e2,hstr,gx,f2,f3⟩:=at1 j hj
  have hgm:=WQ gj
  have hwt:=Wh_take gj
  refine⟨_,rfl,_,rfl,_,rfl,D,_,_,_,rfl,rfl,SqL.of (s2 _ _ hD),q86 gz,szb rfl,λl1 hl1=>?_⟩
  have s3:=q15 hl1 (.lst [z])
  have hl1':upd H2 l1 (.lst [z]) l1=some (.lst [z]):=q12
  generalize upd H2 l1 (.lst [z])=H3 at *
  have s13:=s2.trans s3
  refine⟨l1,[z],0,[ledS L (wayW L o) g],rfl,SqL.of hl1',q734 (hstr.tk (.same s13)),by simp,λH4 s4=>?_⟩
  rw[one g hgm]
  exists _,_,rfl,rfl,_,rfl
  have s14:=s13.trans s4
  refine ite2 (λc=>?_) (λc=>?_)
  ·have c':(sel g).count o<=left:=by have:=ZF c;lia
   refine⟨_,rfl,_,rfl,_,rfl,D,_,_,_,rfl,rfl,SqL.of (s14 _ _ hD),q86 gz,szb rfl,λl2 hl2=>?_⟩
   have s5:=q15 hl2 (.lst [z])
   have hl2':upd H4 l2 (.lst [z]) l2=some (.lst [z]):=q12
   generalize upd H4 l2 (.lst [z])=H5 at *
   have s15:=s14.trans s5
   refine⟨l2,[z],0,[ledS L (wayW L o) g],rfl,SqL.of hl2',q734 (hstr.tk (.same s15)),by simp,λH6 s6=>?_⟩
   rw[one g hgm]
   exists _,_,rfl,rfl,_,rfl,_,_,rfl,rfl,⟨left-(sel g).count o,j+1,?_,s15.trans s6,?_⟩
   ·have a1:(left:Int)-((sel g).count o:Nat)=((left-(sel g).count o:Nat):Int):=(W95 c')
    have a2:(j:Int)+1=((j+1:Nat):Int):={}
    show[some (V.ref ga),some (V.ref wy),some (V.int (num:Int)),some (V.ref D),some (V.int ((left:Int)-((sel g).count o:Nat))),some (V.int ((j:Int)+1))]=_
    rw[a1,a2]
   ·rw[hwt,count_append];lia
   ·show gs.length-((j:Int)+1).toNat<gs.length-((j:Int)).toNat
    lia
  ·have c':left<(sel g).count o:=by
    apply Classical.byContradiction
    intro z2
    exact c (ZA {})
   obtain⟨i,k1,k2,k3,k4,k5⟩:=lift_at (hgd g hgm) h0 h1 c'
   have s04:=s1.trans s14
   exists _,rfl,_,rfl,_,rfl,ga,_,_,_,rfl,rfl,SqL.of (s04 _ _ hga),q86 gx,t,_,_,_,rfl,rfl,SqT.of (s04 _ _ f2),rfl,_,rfl,_,rfl,_,rfl,D,_,_,_,rfl,rfl,SqL.of (s14 _ _ hD),q86 gz
   rw[e1]
   exists t',_,_,_,rfl,rfl,SqT.of (s14 _ _ e2),rfl,_,rfl,_,_,rfl,rfl
   refine⟨L,hL,u,wy,(ledS L (wayW L o) g).2.1+left,i,L,g.1,wayW L o,?_,f3.same s04,hwy.same s04,hwl,ZH _,q244 L o,(hgd g hgm).1,k1,λH5 s5=>⟨szb rfl,λp hp=>?_⟩⟩
   ·exact congrArg (λq:Int=>[u,V.ref wy,V.int q]) (show((ledS L (wayW L o) g).2.1:Int)+(left:Int)=(((ledS L (wayW L o) g).2.1+left:Nat):Int) by exact W32)
   refine q p j i _ ((s04.trans s5).trans (q15 hp _)) q12 ⟨g,gj,k2,k3,k4,?_⟩
   rw[W_app,q733,count_append,k5]
   lia
 ·rintro σ H2 Q1 Q2 hq ⟨_,e0,_,e1,_,e2,a,us,i,v,f1,f2,f3,f4,g0,g⟩
  refine⟨_,e0,_,e1,_,e2,a,us,i,v,f1,f2,f3,f4,g0,λp hp=>?_⟩
  obtain⟨ga',xs',L',gs',h1,h2,h3,h4,h5⟩:=g p hp
  refine⟨ga',xs',L',gs',h1,h2,h3,h4,λH' s'=>?_⟩
  obtain⟨i',j',w1,w2,k,w3,w4⟩:=h5 H' s'
  exact⟨i',j',w1,w2,k,w3,hq _ _ w4⟩
def q500:z.C P w 44 "nth_least" pn4 (q266 K):=by
 have sc:=q469
 specialize z.d_nth_least
 obtain⟨b,ga,xs,low,L,k,gs,rfl,hb,hL,hga,hg,hgd,hl,hw9,hk,q⟩:=h
 refine⟨_,(q11 (ps_if (PW.pt (pw_or (q18 op_lt (pv 2) q14 (q19 _)) (q111 (q18 op_ge (pv 2) (pfn (q37 z) hr (pa1 (pv 1))) (q19 _)))))
 (q16 q201)
 q22)
 (q11 (pst 3 sc.nd (pfn (q223 z) hr (pa3 (pix q26 (pv 0) q14) (pv 1) (pv 2))))
 (q11 (pst 4 sc.nd (pe_op q47 (pv 2) (pfn (q175 z) hr (pa2 (pv 1) (pv 3)))))
 (q16 (q20 (pe_op q666 (q30 (pa1 (pix q26 (pfn (q387 z) hr (pa2 (pv 0) (pv 3))) q14))) (pfn (q499 z) hr (pa3 (pv 1) (pv 3) (pv 4))))))))),?_⟩
 have r:=q140 L (Wh gs) k
 obtain⟨c1,c2⟩:=q323 L (Wh gs) k (W_in hgd) hk
 rw[q423]at c2
 exists _,rfl,_,_,rfl,rfl,_,rfl
 refine ite2 (λc=>absurd (ZF c) W74) (λ_=>?_)
 refine⟨_,rfl,_,rfl,ga,xs,L,gs,rfl,SqL.of hga,hg,(W22 hl),λH1 s1=>?_⟩
 rw[q106 hgd]
 exists _,_,rfl,rfl,_,rfl
 refine ite2 (λc=>absurd (ZF c) {}) (λ_=>?_)
 refine⟨_,rfl,b,_,_,_,rfl,rfl,s1.seqT hb,rfl,_,rfl,_,rfl,ga,xs,L,k,gs,rfl,hL,s1 _ _ hga,hg.same s1,hgd,hl,hw9,hk,λt H2 s2 ht=>?_⟩
 have s02:=s1.trans s2
 generalize kth L (Wh gs) k=o at *
 refine⟨_,rfl,_,rfl,_,rfl,ga,t,xs,L,o,gs,rfl,SqL.of (s02 _ _ hga),hg.same s02,hgd,hl,ht.sq,r.1,r.2,λH3 s3=>⟨_,_,rfl,rfl,?_⟩⟩
 have s03:=s02.trans s3
 refine⟨_,rfl,_,rfl,b,t,low,L,wayW L o,rfl,s03.seqT hb,hL,(ht.same s3).sq,λp hp=>?_⟩
 have hsp:spanS low L (wayW L o)=(low+o,1):=q286 L low o r.1 r.2
 rw[hsp]
 have s4:=q15 hp (.tup [V.int (low+o),.int (low+o+1-1)])
 have hp4:=@q12 H3 p (.tup [V.int (low+o),.int (low+o+1-1)])
 dsimp only
 generalize upd H3 p (.tup [V.int (low+o),.int (low+o+1-1)])=H4 at *
 refine⟨p,_,_,_,rfl,rfl,SqT.of hp4,rfl,szb rfl,λp1 hp1=>?_⟩
 have s5:=q15 hp1 (.tup [V.int (low+o)])
 have hp5:=@q12 H4 p1 (.tup [V.int (low+o)])
 generalize upd H4 p1 (.tup [V.int (low+o)])=H5 at *
 have s05:=(s03.trans s4).trans s5
 refine⟨_,rfl,_,rfl,_,rfl,ga,t,xs,L,k-ltC (Wh gs) o,o,gs,?_,hL,s05 _ _ hga,hg.same s05,hgd,hl,(((ht.same s3).same s4).same s5),r.1,r.2,(W28 c2 c1),λp2 j pl H6 s6 hp2 hth=>?_⟩
 ·exact congrArg (λq:Int=>[V.ref ga,V.ref t,V.int q]) (show(k:Int)-((ltC (Wh gs) o:Nat):Int)=((k-ltC (Wh gs) o:Nat):Int) by exact W95 c1)
 refine⟨p1,p2,_,_,rfl,rfl,SqT.of (s6 _ _ hp5),SqT.of hp2,szb rfl,λp3 H7 s7 h3 _=>?_⟩
 exact q p3 j pl H7 ((s05.trans s6).trans s7) h3 hth
abbrev q40:Nat:=3
abbrev q147:Nat:=40
inductive q75(K:Fg)(e:Nat)(vs:List V)(H:Hp)(Q:VK)(E:XK):Prop
 |mk(least part floor:Int)(pa:Addr)(xs:List V)(gs:List G3)(_:vs=[.int least,.int (2^e),.ref pa,.int part,.int floor])(_:SqL K H pa xs)(_:GatAt H e xs gs)(_:(∀ g∈gs,GoodS e g))(_:gs.length<=100)(_:(Wh gs).length<=900)(_:1<=part)(_:0<=floor)(_:∀(H':Hp)(D:Addr)(ys:List V),Same H H'->H' D=some (.lst ys)->H D=none->AllAt PsR H' ys (caF part floor e least (Wh gs))->Q (.ref D) H')
def q278(K:Fg):Sp:=λvs H Q E=>∃ e,e<=q147/\q75 K e vs H Q E
inductive q267(K:Fg)(vs:List V)(H:Hp)(Q:VK)(E:XK):Prop
 |mk(b ga:Addr)(xs:List V)(low:Int)(L:Nat)(gs:List G3)(_:vs=[.ref b,.ref ga])(_:SqT K H b [.int low,.int (L:Int)])(_:L<=40)(_:SqL K H ga xs)(_:GatAt H L xs gs)(_:(∀ g∈gs,GoodS L g))(_:gs.length<=100)(_:(Wh gs).length<=900)(_:∀(H':Hp)(D:Addr)(ys:List V),Same H H'->H' D=some (.lst ys)->H D=none->AllAt PsR H' ys (caF 1 0 L low (Wh gs))->Q (.ref D) H')
def BstV(H:Hp)(v:V):Option P2->Prop
 | none=>v = .non
 | some p=>PsR H v p
inductive q735(K:Fg)(vs:List V)(H:Hp)(Q:VK)(E:XK):Prop
 |mk(b ga:Addr)(xs:List V)(low:Int)(L:Nat)(gs:List G3)(_:vs=[.ref b,.ref ga])(_:SqT K H b [.int low,.int (L:Int)])(_:L<=40)(_:SqL K H ga xs)(_:GatAt H L xs gs)(_:(∀ g∈gs,GoodS L g))(_:gs.length<=100)(_:(Wh gs).length<=900)(_:∀(H':Hp)(v:V),Same H H'->BstV H' v (bst (caF 1 0 L low (Wh gs)))->Q v H')
def q279:z.C P w 44 "counted_above" pn15 (q278 K):=by
 have sc:=q277
 refine z.d_counted_above.recur (k:=q40) (sp:=q75 K) q147 λe hen c_counted_above f fd F=>F.k sc λ_ _ _ s H _ Q _ hr h=>?_
 obtain⟨least,part,floor,pa,xs,gs,rfl,hpa,hg,hgd,hl,hw,hp1,hf0,q⟩:=h
 refine⟨_,(q11 (pst 5 sc.nd (pe_fn (q37 z) (hr.mono (ZQ (by decide:1<=q40) (WR _ _))) () (pa1 (pv 2))))
 (q11 (ps_if (q18 op_le (pe_op q113 (pv 5) (pv 3)) (pv 4) (q19 _))
 (q16 (q20 (q38 q13)))
 q22)
 (q11 (ps_if (q18 op_eq (pv 1) q14 (q19 _))
 (q16 (q20 (q38 (pa1 (q30 (pa2 (pv 0) (pv 5)))))))
 q22)
 (q11 (pst 6 sc.nd (pe_op q91 (pv 1) q14))
 (q11 (pst 7 sc.nd (pe_fn c_counted_above (hr.mono (ZH _)) () (q10 (pv 0) (pa4 (pv 6) (pe_fn (q84 z) (hr.mono (ZQ (by decide:1<=q40) (WR _ _))) () (pa1 (pe_fn (q155 z) (hr.mono (ZQ (by decide:3<=q40) (WR _ _))) () (pa2 (pv 2) (q30 (pa1 q14)))))) (pv 3) (pv 4)))))
 (q11 (pst 8 sc.nd (pe_fn c_counted_above (hr.mono (ZH _)) () (q10 (pe_op q29 (pv 0) (pv 6)) (pa4 (pv 6) (pe_fn (q84 z) (hr.mono (ZQ (by decide:1<=q40) (WR _ _))) () (pa1 (pe_fn (q155 z) (hr.mono (ZQ (by decide:3<=q40) (WR _ _))) () (pa2 (pv 2) (q30 (pa1 q14)))))) (pv 3) (pv 4)))))
 (q16 (q20 (pe_op q169 (pv 7) (pv 8)))))))))),?_⟩
 have hin:=W_in hgd
 have hcl:=ca_len (part:=part) (floor:=floor) (least:=least) hp1 hf0 hin
 refine⟨_,rfl,pa,xs,e,gs,rfl,hpa,hg,(W22 hl),λH1 s1=>?_⟩
 rw[q106 hgd]
 exists _,rfl,_,rfl,_,_,rfl,rfl,.inl ⟨{},{}⟩,_,rfl,_,_,rfl,rfl,_,rfl
 refine ite2 (λc=>?_) (λc=>?_)
 ·have c':=ZF c
  have e0:caF part floor e least (Wh gs)=[]:=by
   cases e <;> (unfold caF;rw[ZL c'])
  rw[e0]at q
  exact⟨szb rfl,λD hD=>q _ D [] (s1.trans (q15 hD _)) q12 (s1.free hD) AllAt.nil⟩
 have c':¬((Wh gs).length:Int)*part<=floor:=λz=>c (ZA z)
 exists _,rfl,rfl,_,rfl
 cases e with
 | zero=>
  refine ite2 (λ_=>?_) (λc=>absurd (ZA rfl) c)
  have e0:caF part floor 0 least (Wh gs)=[(least,(((Wh gs).length:Nat):Int))]:=by unfold caF;rw[ZJ c']
  rw[e0]at q
  refine⟨_,rfl,_,rfl,szb rfl,λt ht=>⟨szb rfl,λD hD=>?_⟩⟩
  have s2:=q15 ht (.tup [.int least,.int ((Wh gs).length:Nat)])
  have s3:=q15 hD (.lst [.ref t])
  refine q _ D [.ref t] ((s1.trans s2).trans s3) q12 ((s1.trans s2).free hD) ⟨rfl,λj x p h1 h2=>?_⟩
  match j,h1,h2 with
  | 0,h1,h2=>cases h1;cases h2;exact⟨t,rfl,s3 _ _ q12⟩
  | j+1,h1,h2=>simp at h1
 | succ e=>
  have hp2:=p2pos e
  have e2:(2:Int)^(e+1)=2*2^e:=by rw[YK];exact W10
  refine ite2 (λc=>absurd (V.int.inj (ZF c)) {}) (λ_=>?_)
  have hh:(2:Int)^(e+1)/2=2^e:=by rw[YK];exact Int.mul_ediv_cancel _ ∅
  exists _,rfl,_,_,rfl,rfl,⟨∅,∅⟩
  dsimp only
  rw[hh]
  have e0:caF part floor (e+1) least (Wh gs)=caF part floor e least (halfO e 0 (Wh gs))++caF part floor e (least+2^e) (halfO e 1 (Wh gs)):=by rw[caF,ZJ c']
  rw[e0]at q hcl
  have good1:∀ w,∀ g∈gs.map (led1 e w),GoodS e g:=λw g hg=>by
   obtain⟨g',hg',rfl⟩:=eE hg
   exact q105 (hgd g' hg')
  have el:∀ w:Int,gs.map (ledS (e+1) [w])=gs.map (led1 e w):=λw=>map_congr_left λg _=>by rw[q67,q56]
  have e1l:e+1 - [(0:Int)].length=e:=rfl
  have lenH:∀ w:Int,(halfO e w (Wh gs)).length<=900:=λw=>ZQ q126 hw
  refine⟨_,rfl,_,rfl,_,rfl,szb rfl,λw0 hw0=>?_⟩
  have s2:=q15 hw0 (.tup [V.int 0])
  have hw0':upd H1 w0 (.tup [V.int 0]) w0=some (.tup [V.int 0]):=q12
  generalize upd H1 w0 (.tup [V.int 0])=H2 at *
  have s02:=s1.trans s2
  refine⟨pa,w0,xs,e+1,[0],gs,rfl,s02.seq hpa,hg.same s02,hgd,(W22 hl),SqT.of hw0',by simp,(λx hx=>by rw[eD hx];exact .inl rfl),λH3 D3 z3 s3 hD3 hD3n hg3=>?_⟩
  rw[el]at hg3
  have hg3':GatAt H3 e z3 (gs.map (led1 e 0)):=hg3
  refine⟨D3,z3,e,_,rfl,SqL.of hD3,hg3',by rw[ZN];lia,λH4 D4 z4 s4 hD4 hD4n hg4=>?_⟩
  refine⟨_,rfl,_,rfl,least,part,floor,D4,z4,fillG (gs.map (led1 e 0)),rfl,SqL.of hD4,hg4,q83 (good1 0),?_,by rw[q107,W_led hgd];exact lenH 0,hp1,hf0,λH5 D5 z5 s5 hD5 hD5n hp5=>?_⟩
  ·exact ZQ (YC _ _) (by rw[ZN];exact hl)
  rw[q107,W_led hgd]at hp5
  have s05:=((s02.trans s3).trans s4).trans s5
  refine⟨_,rfl,_,rfl,_,_,rfl,rfl,_,rfl,_,rfl,szb rfl,λw1 hw1=>?_⟩
  have s6:=q15 hw1 (.tup [V.int 1])
  have hw1':upd H5 w1 (.tup [V.int 1]) w1=some (.tup [V.int 1]):=q12
  generalize upd H5 w1 (.tup [V.int 1])=H6 at *
  have s06:=s05.trans s6
  refine⟨pa,w1,xs,e+1,[1],gs,rfl,s06.seq hpa,hg.same s06,hgd,{},SqT.of hw1',by simp,(λx hx=>by rw[eD hx];exact .inr rfl),λH7 D7 z7 s7 hD7 hD7n hg7=>?_⟩
  rw[el]at hg7
  have hg7':GatAt H7 e z7 (gs.map (led1 e 1)):=hg7
  refine⟨D7,z7,e,_,rfl,SqL.of hD7,hg7',by rw[ZN];lia,λH8 D8 z8 s8 hD8 hD8n hg8=>?_⟩
  refine⟨_,rfl,_,rfl,least+2^e,part,floor,D8,z8,fillG (gs.map (led1 e 1)),rfl,SqL.of hD8,hg8,q83 (good1 1),?_,by rw[q107,W_led hgd];exact lenH 1,hp1,hf0,λH9 D9 z9 s9 hD9 hD9n hp9=>?_⟩
  ·exact ZQ (YC _ _) (by rw[ZN];exact hl)
  rw[q107,W_led hgd]at hp9
  have s59:=((s6.trans s7).trans s8).trans s9
  have hD59:=s59 _ _ hD5
  have hp59:=q726 hp5 s59
  refine⟨_,rfl,_,rfl,D5,D9,z5,z9,rfl,rfl,hD59,hD9,sz (by rw[hp5.1,hp9.1,<- ZU];lia),λD hD=>?_⟩
  exact q _ D _ ((s05.trans s59).trans (q15 hD _)) q12 ((s05.trans s59).free hD) (q726 (hp59.app hp9) (q15 hD _))
def q501:z.C P w 45 "worths_in" pn7 (q267 K):=by
 have sc:=q471
 specialize z.d_worths_in
 obtain⟨b,ga,xs,low,L,gs,rfl,hb,hL,hga,hg,hgd,hl,hw,q⟩:=h
 exists _,(q16 (q20 (pfn (q279 z) hr (q10 (pix q26 (pv 0) q14) (pa4 (pfn (q48 z) hr (pa1 (pix q26 (pv 0) q14))) (pfn (q84 z) hr (pa1 (pv 1))) q14 q14)))))
 refine⟨_,rfl,b,_,_,_,rfl,rfl,hb,rfl,_,rfl,b,_,_,_,rfl,rfl,hb,rfl,L,rfl,hL,_,rfl,ga,xs,L,gs,rfl,hga,hg,(W22 hl),λH1 D1 z1 s1 hD1 hD1n hg1=>?_⟩
 refine⟨L,hL,low,1,0,D1,z1,fillG gs,rfl,SqL.of hD1,hg1,q83 hgd,ZQ (YC _ _) hl,by rw[q107];exact hw,∅,∅,λH2 D2 z2 s2 hD2 hD2n hp2=>?_⟩
 rw[q107]at hp2
 exact q H2 D2 z2 (s1.trans s2) hD2 (s1.free hD2n) hp2
def ok_most:z.C P w 46 "most" pn7 (q735 K):=by
 have sc:=sc_most
 specialize z.d_most
 obtain⟨b,ga,xs,low,L,gs,rfl,hb,hL,hga,hg,hgd,hl,hw,q⟩:=h
 refine⟨_,(q11 (pst 2 sc.nd q65)
 (q11 (q62 PassesOwn.never rfl (q31 (pfn (q501 z) hr (pa2 (pv 0) (pv 1)))) (pgn 3 sc.nd)
 (q16 (ps_if (PW.pt (pw_or (q18 q253 (pv 2) q65 (q19 _)) (q111 (q18 op_gt (pix q26 (pv 3) q14) (pix q26 (pv 2) q14) (q19 _)))))
 (q16 (pst 2 sc.nd (pv 3)))
 q22)))
 (q16 (q20 (pv 2))))),?_⟩
 refine⟨_,rfl,_,rfl,b,ga,xs,low,L,gs,rfl,hb,hL,hga,hg,hgd,hl,hw,λH1 D1 z1 s1 hD1 hD1n hp1=>?_⟩
 generalize caF 1 0 L low (Wh gs)=ps at *
 refine⟨D1,rfl,⟨_,SqL.of hD1⟩,q112 (K:=K) (a:=D1) (xs:=z1) (λj σ H2=>∃(bv:V)(v3:Option V),σ=[some (.ref b),some (.ref ga),some bv,v3]/\H2=H1/\BstV H1 bv ((ps.take j).foldl bstep none)) ⟨.non,none,rfl,rfl,rfl⟩ (λj σ H2 _ ⟨_,_,_,e,_⟩=>by rw[e];exact SqL.of hD1) ?_ ?_⟩
 ·rintro j x σ H2 hx ⟨bv,v3,rfl,rfl,hbv⟩
  obtain⟨p,gp,hpx⟩:=hp1.get hx
  have et:(ps.take (j+1)).foldl bstep none=bstep ((ps.take j).foldl bstep none) p:=by
   rw[WW,gp,foldl_append]
   rfl
  generalize (ps.take j).foldl bstep none=bo at *
  exists _,rfl,rfl,_,rfl
  cases bo with
  | none=>
   cases(show bv = .non from hbv)
   refine ite2 (λ_=>?_) (λc=>absurd rfl c)
   exists _,rfl,x,_,rfl,rfl
   rw[et]
   exact hpx
  | some q0=>
   obtain⟨ab,rfl,hab⟩:=hbv
   obtain⟨ap,rfl,hap⟩:=hpx
   refine ite2 (λc=>absurd (ZF c) (by intro z;cases z)) (λ_=>?_)
   exists _,rfl,ap,_,_,_,rfl,rfl,SqT.of hap,rfl,_,rfl,ab,_,_,_,rfl,rfl,SqT.of hab,rfl,_,_,rfl,rfl,_,rfl
   refine ite2 (λc=>?_) (λc=>?_)
   ·exists _,rfl,_,_,rfl,rfl
    rw[et]
    show BstV H2 _ (if p.2 > q0.2 then some p else some q0)
    rw[ZL (ZF c)]
    exact⟨ap,rfl,hap⟩
   ·exists _,_,rfl,rfl
    rw[et]
    show BstV H2 _ (if p.2 > q0.2 then some p else some q0)
    rw[ZJ (λz=>c (ZA z))]
    exact⟨ab,rfl,hab⟩
 ·rintro σ H2 ⟨bv,v3,rfl,rfl,hbv⟩
  rw[hp1.1,YF]at hbv
  exact⟨_,rfl,q _ bv s1 hbv⟩
noncomputable abbrev offs(low:Int)(ns:List Int):List Int:=ns.map λn=>n-low
def q539{low:Int}{e:Nat}(h:Wths low e ns):InO e (offs low ns):=λo ho=>by
 obtain⟨n,hn,rfl⟩:=eE ho
 have:=h n hn
 lia
def q540{low:Int}{e:Nat}{ns:List Int}(h:Wths low (e+1) ns):halfO e 0 (offs low ns)=offs low (ns.filter λn=>decide (n<low+2^e)):=by
 rw[q718 (q539 h)]
 unfold offs
 rw[filter_map]
 congr 1
 refine filter_congr λn _=>?_
 show decide (n-low<2^e)=decide (n<low+2^e)
 by_cases c:n<low+2^e
 ·rw[ZA c,ZA {}]
 ·rw[ZI c,ZI {}]
def q541{low:Int}{e:Nat}{ns:List Int}(h:Wths low (e+1) ns):halfO e 1 (offs low ns)=offs (low+2^e) (ns.filter λn=>decide (low+2^e<=n)):=by
 rw[q719 (q539 h)]
 unfold offs
 rw[filter_map,map_map]
 have e1:((λo=>decide ((2:Int)^e<=o))∘λn=>n-low)=λn=>decide (low+2^e<=n):=by
  funext n
  show decide ((2:Int)^e<=n-low)=decide (low+2^e<=n)
  by_cases c:low+2^e<=n
  ·rw[ZA c,ZA {}]
  ·rw[ZI c,ZI {}]
 rw[e1]
 refine map_congr_left λn _=>?_
 show n-low-2^e=n-(low+2^e)
 lia
def Wths.loH{low:Int}{e:Nat}{ns:List Int}(h:Wths low (e+1) ns):Wths low e (ns.filter λn=>decide (n<low+2^e)):=λn hn=>by
 have h1:=List.mem_filter.mp hn
 have h2:=h n h1.1
 have h3:=ZF h1.2
 lia
def Wths.hiH{low:Int}{e:Nat}{ns:List Int}(h:Wths low (e+1) ns):Wths (low+2^e) e (ns.filter λn=>decide (low+2^e<=n)):=λn hn=>by
 have h1:=List.mem_filter.mp hn
 have h2:=h n h1.1
 have h3:=ZF h1.2
 have h4:(2:Int)^(e+1)=2^e+2^e:=by rw[YK];exact W36
 lia
inductive Pp where
 | all (n:Int)
 | split (n:Int) (l r:Pp)
def PpAt(H:Hp):V->Pp->Prop
 | v,.all n=>∃ a,v = .ref a/\H a=some (.tup [.str "all", .int n])
 | v,.split n l r=>∃ a x y,v = .ref a/\H a=some (.tup [.str "split", .int n,x,y])/\PpAt H x l/\PpAt H y r
theorem PpAt.tk{H H':Hp}(k:TKeep H H'):∀{p:Pp}{v:V},PpAt H v p->PpAt H' v p
 | .all _,_,⟨a,e,h⟩=>⟨a,e,(k _ _).1 h⟩
 | .split _ _ _,_,⟨a,x,y,e,h,h1,h2⟩=>⟨a,x,y,e,(k _ _).1 h,h1.tk k,h2.tk k⟩
noncomputable def q35:Nat->List Int->Pp->Prop
 | _,us,.all n=>n=(us.length:Int)
 | 0,_,.split _ _ _=>False
 | e+1,us,.split n l r=>n=(us.length:Int)/\q35 e (halfO e 0 us) l/\q35 e (halfO e 1 us) r
noncomputable def Pp.leaves:Pp->Nat
 | .all _=>1
 | .split _ l r=>Pp.leaves l+Pp.leaves r
noncomputable def papF(φ:Int->Int->Int->Bool):Nat->Int->List Int->Pp
 | 0,_,us=>.all us.length
 | e+1,least,us=>if φ least (least+2^(e+1)-1) us.length=true then .split us.length (papF φ e least (halfO e 0 us)) (papF φ e (least+2^e) (halfO e 1 us))else .all us.length
noncomputable def dpP:Pp->Nat
 | .all _=>0
 | .split _ l r=>max (dpP l) (dpP r)+1
theorem q736:∀(e:Nat)(least:Int)(us:List Int),dpP (papF φ e least us)<=e
 | 0,_,_=>ZH _
 | e+1,least,us=>by
  unfold papF
  split
  ·show max _ _+1<=e+1
   have:=q736 (φ:=φ) e least (halfO e 0 us)
   have:=q736 (φ:=φ) e (least+2^e) (halfO e 1 us)
   lia
  ·exact WA _
theorem PpAt.tp{H H':Hp}(k:∀ b xs,H b=some (.tup xs)->H' b=some (.tup xs)):∀{p:Pp}{v:V},PpAt H v p->PpAt H' v p
 | .all _,_,⟨a,e,h⟩=>⟨a,e,k _ _ h⟩
 | .split _ _ _,_,⟨a,x,y,e,h,h1,h2⟩=>⟨a,x,y,e,k _ _ h,PpAt.tp k h1,PpAt.tp k h2⟩
def PpAt.same(h:PpAt H v p)(s:Same H H'):PpAt H' v p:=PpAt.tk (.same s) h
noncomputable def clP:Pp->Bool
 | .all _=>true
 | .split _ _ _=>false
def q424:PySem.W.kitOne K (.type "tuple") (.type "tuple")=some true:=by kernel_rfl
inductive q324(u0:Fg)(vs:List V)(H:Hp)(Q:VK)(E:XK):Prop
 |mk(n:Int)(_:vs=[.int n])(_:Q (.bl true) H)
inductive q389(u0:Fg)(vs:List V)(H:Hp)(Q:VK)(E:XK):Prop
 |mk(a b:Str)(_:vs=[.str a,.str b])(_:Q (.bl (decide (a=b))) H)
inductive q268(u0:Fg)(vs:List V)(H:Hp)(Q:VK)(E:XK):Prop
 |mk(v:V)(p:Pp)(_:vs=[v])(_:PpAt H v p)(_:Q (.bl (clP p)) H)
inductive q325(u0:Fg)(vs:List V)(H:Hp)(Q:VK)(E:XK):Prop
 |mk(v:V)(p:Pp)(_:vs=[v])(_:PpAt H v p)(_:Q (.bl (!clP p)) H)
abbrev q76:Nat:=3
abbrev q390:Nat:=40
inductive q196(u0:Fg)(e:Nat)(vs:List V)(H:Hp)(Q:VK)(E:XK):Prop
 |mk(pa:Addr)(v:V)(p:Pp)(xs:List V)(gs:List G3)(_:vs=[.int (e:Int),.ref pa,v])(_:H pa=some (.lst xs))(_:GatAt H e xs gs)(_:(∀ g∈gs,GoodS e g))(_:gs.length<=100)(_:PpAt H v p)(_:q35 e (Wh gs) p)(_:∀ H',Same H H'->Q (.bl true) H')
def q637(K:Fg):Sp:=λvs H Q E=>∃ e,e<=q390/\q196 K e vs H Q E
inductive q588(u0:Fg)(vs:List V)(H:Hp)(Q:VK)(E:XK):Prop
 |mk(ga:Addr)(v:V)(p:Pp)(L:Nat)(xs:List V)(gs:List G3)(_:vs=[.int (L:Int),.ref ga,v])(_:L<=40)(_:H ga=some (.lst xs))(_:GatAt H L xs gs)(_:(∀ g∈gs,GoodS L g))(_:gs.length<=100)(_:PpAt H v p)(_:q35 L (Wh gs) p)(_:∀ H',Same H H'->Q (.bl true) H')
abbrev q46:Nat:=3
abbrev q224:Nat:=40
noncomputable def f3(ψ:List Int->Bool):Int->Int->Int->Bool:=λa b c=>ψ [a,b,c]
inductive q121(K:Fg)(e:Nat)(vs:List V)(H:Hp)(Q:VK)(E:XK):Prop
 |mk(least:Int)(pa f:Addr)(xs:List V)(gs:List G3)(C:List Int->Prop)(ψ:List Int->Bool)(_:vs=[.int least,.int (2^e),.ref pa,.ref f])(_:SqL K H pa xs)(_:GatAt H e xs gs)(_:(∀ g∈gs,GoodS e g))(_:gs.length<=100)(_:(Wh gs).length<=900)(_:Lam K 2 H f C ψ)(_:(∀ a b c:Int,0<=c->c<=1000->C [a,b,c]))(_:∀(H':Hp)(v:V),Same H H'->PpAt H' v (papF (f3 ψ) e least (Wh gs))->Q v H')
def q425(K:Fg):Sp:=λvs H Q E=>∃ e,e<=q224/\q121 K e vs H Q E
inductive q225(K:Fg)(vs:List V)(H:Hp)(Q:VK)(E:XK):Prop
 |mk(b ga f:Addr)(xs:List V)(low:Int)(L:Nat)(gs:List G3)(C:List Int->Prop)(ψ:List Int->Bool)(_:vs=[.ref b,.ref ga,.ref f])(_:SqT K H b [.int low,.int (L:Int)])(_:L<=40)(_:SqL K H ga xs)(_:GatAt H L xs gs)(_:(∀ g∈gs,GoodS L g))(_:gs.length<=100)(_:(Wh gs).length<=900)(_:Lam K 2 H f C ψ)(_:(∀ a b c:Int,0<=c->c<=1000->C [a,b,c]))(_:∀(H':Hp)(v:V),Same H H'->PpAt H' v (papF (f3 ψ) L low (Wh gs))->Q v H')
def q326:z.C P w 1 "is_whole" ["thing"] (q324 K):=by
 have sc:=q527
 specialize z.d_is_whole
 obtain⟨n,rfl,q⟩:=h
 exists _,(q16 (q20 (q150 (q44 q202 () z.isinstance_ q66 (pa2 (pv 0) (q294 (v:=.ty "int") (u:=.type "int") () z.int_ q667 rfl))) (q250 (pe_not (q44 q202 () z.isinstance_ q66 (pa2 (pv 0) (q294 (v:=.ty "bool") (u:=.type "bool") () z.bool_ bt_bool rfl))))))))
 exists _,rfl,_,_,_,_,rfl,.int _,q516,_,rfl
 refine ite2 (λ_=>?_) (λc=>absurd rfl c)
 exact⟨_,rfl,_,_,_,_,rfl,.int _,q444,_,rfl,q⟩
def q391:z.C P w 1 "is_word" ["thing", "word"] (q389 K):=by
 have sc:=q625
 specialize z.d_is_word
 obtain⟨a,b,rfl,q⟩:=h
 exists _,(q16 (q20 (q150 (q44 q202 () z.isinstance_ q66 (pa2 (pv 0) (q294 (v:=.ty "str") (u:=.type "str") () z.str_ bt_str rfl))) (q250 (q49 op_eq (pv 0) (pv 1) (q19 _))))))
 exists _,rfl,_,_,_,_,rfl,.str _,q517,_,rfl
 refine ite2 (λ_=>?_) (λc=>absurd rfl c)
 exists _,rfl,_,rfl,rfl
 have e:decide (V.str a=V.str b)=decide (a=b):=by
  by_cases h:a=b
  ·rw[h];simp
  ·rw[ZI h,ZI (λz=>h (V.str.inj z))]
 rw[e]
 exact q
def q269:z.C P w 2 "is_closed" ["thing"] (q268 K):=by
 have sc:=q472
 specialize z.d_is_closed
 obtain⟨v,p,rfl,hv,q⟩:=h
 exists _,(q16 (q20 (q150 (q44 q202 () z.isinstance_ q66 (pa2 (pv 0) (q294 (v:=.ty "tuple") (u:=.type "tuple") () z.tuple_ q203 rfl))) (q150 (q49 op_eq (pln z.len_ (pa1 (pv 0))) q14 (q19 _)) (q150 (pfn (q391 z) hr (pa2 (pix q26 (pv 0) q14) q34)) (q250 (pfn (q326 z) hr (pa1 (pix q26 (pv 0) q14)))))))))
 cases p with
 | all n=>
  obtain⟨a,rfl,h⟩:=hv
  exists _,rfl,_,_,_,_,rfl,.tup h,q424,_,rfl
  refine ite2 (λ_=>?_) (λc=>absurd rfl c)
  exists _,rfl,a,_,rfl,.inr (SqT.of h),rfl,_,rfl
  refine ite2 (λ_=>?_) (λc=>absurd (ZA rfl) c)
  exists _,rfl,a,_,_,_,rfl,rfl,SqT.of h,rfl,_,_,rfl,_,rfl
  refine ite2 (λ_=>?_) (λc=>absurd (ZA rfl) c)
  exact⟨_,rfl,a,_,_,_,rfl,rfl,SqT.of h,rfl,_,rfl,q⟩
 | split n l r=>
  obtain⟨a,x,y,rfl,h,_,_⟩:=hv
  exists _,rfl,_,_,_,_,rfl,.tup h,q424,_,rfl
  refine ite2 (λ_=>?_) (λc=>absurd rfl c)
  exists _,rfl,a,_,rfl,.inr (SqT.of h),rfl,_,rfl
  exact ite2 (λc=>absurd (V.int.inj (ZF c)) (show ¬(4:Int)=2 by decide)) (λ_=>q)
def q542:z.C P w 2 "is_split" ["thing"] (q325 K):=by
 have sc:=q530
 specialize z.d_is_split
 obtain⟨v,p,rfl,hv,q⟩:=h
 exists _,(q16 (q20 (q150 (q44 q202 () z.isinstance_ q66 (pa2 (pv 0) (q294 (v:=.ty "tuple") (u:=.type "tuple") () z.tuple_ q203 rfl))) (q150 (q49 op_eq (pln z.len_ (pa1 (pv 0))) q14 (q19 _)) (q150 (pfn (q391 z) hr (pa2 (pix q26 (pv 0) q14) q34)) (q250 (pfn (q326 z) hr (pa1 (pix q26 (pv 0) q14)))))))))
 cases p with
 | all n=>
  obtain⟨a,rfl,h⟩:=hv
  exists _,rfl,_,_,_,_,rfl,.tup h,q424,_,rfl
  refine ite2 (λ_=>?_) (λc=>absurd rfl c)
  exists _,rfl,a,_,rfl,.inr (SqT.of h),rfl,_,rfl
  exact ite2 (λc=>absurd (V.int.inj (ZF c)) (show ¬(2:Int)=4 by decide)) (λ_=>q)
 | split n l r=>
  obtain⟨a,x,y,rfl,h,_,_⟩:=hv
  exists _,rfl,_,_,_,_,rfl,.tup h,q424,_,rfl
  refine ite2 (λ_=>?_) (λc=>absurd rfl c)
  exists _,rfl,a,_,rfl,.inr (SqT.of h),rfl,_,rfl
  refine ite2 (λ_=>?_) (λc=>absurd (ZA rfl) c)
  exists _,rfl,a,_,_,_,rfl,rfl,SqT.of h,rfl,_,_,rfl,_,rfl
  refine ite2 (λ_=>?_) (λc=>absurd (ZA rfl) c)
  exact⟨_,rfl,a,_,_,_,rfl,rfl,SqT.of h,rfl,_,rfl,q⟩
def q638:z.C P w 44 "is_kept" ["levels", "parts", "thing"] (q637 K):=by
 have sc:=q630
 refine z.d_is_kept.recur (k:=q76) (sp:=q196 K) q390 λe hen c_is_kept f fd F=>F.k sc λ_ _ _ s H _ Q _ hr h=>?_
 obtain⟨pa,v,p,xs,gs,rfl,hpa,hg,hgd,hgl,hv,hk,q⟩:=h
 refine⟨_,(q11 (ps_if (q99 (pe_fn (q269 z) (hr.mono (ZQ (by decide:2<=q76) (WR _ _))) () (pa1 (pv 2))))
 (q16 (q20 (q49 op_eq (pix q26 (pv 2) q14) (pe_fn (q37 z) (hr.mono (ZQ (by decide:1<=q76) (WR _ _))) () (pa1 (pv 1))) (q19 _))))
 q22)
 (q11 (ps_if (PW.pt (pw_or (q18 op_eq (pv 0) q14 (q19 _)) (pw_or (q149 (q99 (pe_fn (q542 z) (hr.mono (ZQ (by decide:2<=q76) (WR _ _))) () (pa1 (pv 2))))) (q111 (q18 op_ne (pix q26 (pv 2) q14) (pe_fn (q37 z) (hr.mono (ZQ (by decide:1<=q76) (WR _ _))) () (pa1 (pv 1))) (q19 _))))))
 (q16 (q20 pe_bl))
 q22)
 (q11 (q62 PassesOwn.never rfl (q435 (q30 (pa2 q14 q14))) (pgn 3 sc.nd)
 (q16 (ps_if (q149 (q99 (pe_fn c_is_kept (hr.mono (ZH _)) () (pa3 (pe_op q47 (pv 0) q14) (pe_fn (q84 z) (hr.mono (ZQ (by decide:1<=q76) (WR _ _))) () (pa1 (pe_fn (q155 z) (hr.mono (ZQ (by decide:3<=q76) (WR _ _))) () (pa2 (pv 1) (q30 (pa1 (pv 3))))))) (pix q26 (pv 2) (pe_op q29 q14 (pv 3)))))))
 (q16 (q20 pe_bl))
 q22)))
 (q16 (q20 pe_bl))))),?_⟩
 have hm:manyG gs=((Wh gs).length:Nat):=q106 hgd
 exists _,rfl,v,p,rfl,hv,_,rfl
 cases p with
 | all n=>
  refine ite2 (λ_=>?_) (λc=>absurd rfl c)
  obtain⟨a,rfl,h⟩:=hv
  have hk':n=((Wh gs).length:Nat):=by cases e <;> exact hk
  subst hk'
  refine⟨_,rfl,a,_,_,_,rfl,rfl,SqT.of h,rfl,_,rfl,pa,xs,e,gs,rfl,SqL.of hpa,hg,{},λH' s'=>⟨rfl,?_⟩⟩
  rw[hm,ZA rfl]
  exact q H' s'
 | split n l r=>
  refine ite2 (λc=>absurd c fnt) (λ_=>?_)
  exists _,rfl,rfl,_,rfl
  cases e with
  | zero=>exact hk.elim
  | succ e=>
   obtain⟨hn,hl,hr2⟩:=hk
   refine ite2 (λc=>absurd (V.int.inj (ZF c)) {}) (λ_=>?_)
   exists _,rfl,v,_,rfl,hv,_,rfl
   refine ite2 (λc=>absurd c fnt) (λ_=>?_)
   obtain⟨a,x,y,rfl,h,h1,h2⟩:=hv
   subst hn
   refine⟨_,rfl,a,_,_,_,rfl,rfl,SqT.of h,rfl,_,rfl,pa,xs,e+1,gs,rfl,SqL.of hpa,hg,(W22 hgl),λH1 s1=>⟨rfl,_,rfl,?_⟩⟩
   rw[hm,ZA rfl]
   refine ite2 (λz=>absurd z ∅) (λ_=>?_)
   refine⟨szb rfl,λtp htp=>?_⟩
   have s2:=q15 htp (.tup [V.int 0,.int 1])
   have e2:=@q12 H1 tp (.tup [V.int 0,.int 1])
   have s02:=s1.trans s2
   generalize upd H1 tp (.tup [V.int 0,.int 1])=H2 at *
   refine⟨tp,rfl,⟨_,SqT.of e2⟩,q295 (K:=K) (a:=tp) (xs:=[V.int 0,.int 1]) (λi σ G=>∃(w3:Option V),σ=[some (.int ((e+1:Nat):Int)),some (.ref pa),some (.ref a),w3]/\Same H2 G)
    ⟨_,rfl,Same.refl _⟩ (λi σ G _ ⟨_,_,s⟩=>SqT.of (s _ _ e2)) ?_ ?_⟩
   ·rintro i y' σ G hi ⟨w3,rfl,sG⟩
    obtain⟨mk,vv,xx,rfl,hmk,hat,hxx,hkk⟩:∃(mk:Int)(vv:V)(xx:Pp),y' = .int mk/\(mk=0\/mk=1)/\atI [V.str "split", V.int ((Wh gs).length:Nat),x,y] (2+mk)=some vv/\PpAt H vv xx/\q35 e (halfO e mk (Wh gs)) xx:=by
     match i,hi with
     | 0,hi=>cases hi;exact⟨0,x,_,rfl,.inl rfl,rfl,h1,hl⟩
     | 1,hi=>cases hi;exact⟨1,y,_,rfl,.inr rfl,rfl,h2,hr2⟩
    have sHG:=s02.trans sG
    refine⟨_,rfl,_,_,rfl,rfl,_,rfl,_,rfl,szb rfl,λw0 hw0=>?_⟩
    have t1:=q15 hw0 (.tup [V.int mk])
    have ew0:upd G w0 (.tup [V.int mk]) w0=some (.tup ([mk].map V.int)):=q12
    generalize upd G w0 (.tup [V.int mk])=G1 at *
    have s1':=sHG.trans t1
    refine⟨pa,w0,xs,e+1,[mk],gs,rfl,SqL.of (s1' _ _ hpa),hg.same s1',hgd,{},SqT.of ew0,by simp,λm hm=>by rw[eD hm];exact hmk,λG2 D2 ys t2 hD2 _ hg2=>?_⟩
    have eled:gs.map (ledS (e+1) [mk])=gs.map (led1 e mk):=map_congr_left λg _=>by rw[q67,q56]
    rw[eled]at hg2
    refine⟨D2,ys,_,_,rfl,SqL.of hD2,hg2,by rw[ZN];lia,λG3' D3 y3 t3 hD3 _ hg3=>?_⟩
    have hg3':GatAt G3' e y3 (fillG (gs.map (led1 e mk))):=hg3
    have s13:=s1'.trans (t2.trans t3)
    exists _,rfl,_,rfl,_,_,rfl,rfl,a,_,_,_,rfl,rfl,SqT.of (s13 _ _ h),hat
    have ee:(((e+1:Nat):Int)-1)=(e:Int):=W31
    refine⟨D3,vv,xx,y3,fillG (gs.map (led1 e mk)),congrArg (λt=>[V.int t,V.ref D3,vv]) ee,hD3,hg3',q83 (λg hg'=>?_),?_,hxx.same s13,?_,λG4 t4=>⟨_,rfl,iteF ⟨_,rfl,sG.trans (t1.trans (t2.trans (t3.trans t4)))⟩⟩⟩
    ·obtain⟨g0,hg0,rfl⟩:=eE hg'
     exact q105 (hgd g0 hg0)
    ·exact ZQ (YC _ _) (by rw[ZN];exact hgl)
    ·rw[q107,W_led hgd]
     exact hkk
   ·rintro σ G ⟨w3,rfl,sG⟩
    exact q G (s02.trans sG)
def q226:z.C P w 45 "keeps" ["levels", "gathering", "paper"] (q588 K):=by
 have sc:=sc_keeps
 specialize z.d_keeps
 obtain⟨ga,v,p,L,xs,gs,rfl,hL,hga,hg,hgd,hl,hv,hk,q⟩:=h
 exists _,(q16 (q20 (pfn (q638 z) hr (pa3 (pv 0) (pfn (q84 z) hr (pa1 (pv 1))) (pv 2)))))
 refine⟨_,rfl,_,rfl,ga,xs,L,gs,rfl,SqL.of hga,hg,{},λH1 D1 z1 s1 hD1 _ hg1=>?_⟩
 exact⟨_,rfl,L,hL,D1,v,p,z1,fillG gs,rfl,hD1,hg1,q83 hgd,ZQ (YC _ _) hl,hv.same s1,by rw[q107];exact hk,λH2 s2=>q H2 (s1.trans s2)⟩
def q426:z.C P w 44 "paper_from" pn18 (q425 K):=by
 have sc:=q416
 refine z.d_paper_from.recur (k:=q46) (sp:=q121 K) q224 λe hen c_paper_from f fd F=>F.k sc λ_ _ _ s H _ Q _ hr h=>?_
 obtain⟨least,pa,fa,xs,gs,C,ψ,rfl,hpa,hg,hgd,hl,hw,hf,hC,q⟩:=h
 refine⟨_,(q11 (pst 4 sc.nd (pe_fn (q37 z) (hr.mono (ZQ (by decide:1<=q46) (WR _ _))) () (pa1 (pv 2))))
 (q11 (ps_if (PW.pt (pw_or (q18 op_eq (pv 1) q14 (q19 _)) (q111 (q149 (q99 (pe_callV (k:=2) 3 (hr.mono (ZQ (by decide:2<=q46) (WR _ _))) (pa3 (pv 0) (pe_op q47 (pe_op q29 (pv 0) (pv 1)) q14) (pv 4))))))))
 (q16 (q20 (q30 (pa2 q34 (pv 4)))))
 q22)
 (q11 (pst 5 sc.nd (pe_op q91 (pv 1) q14))
 (q11 (pst 6 sc.nd (pe_fn c_paper_from (hr.mono (ZH _)) () (pa4 (pv 0) (pv 5) (pe_fn (q84 z) (hr.mono (ZQ (by decide:1<=q46) (WR _ _))) () (pa1 (pe_fn (q155 z) (hr.mono (ZQ (by decide:3<=q46) (WR _ _))) () (pa2 (pv 2) (q30 (pa1 q14)))))) (pv 3))))
 (q11 (pst 7 sc.nd (pe_fn c_paper_from (hr.mono (ZH _)) () (pa4 (pe_op q29 (pv 0) (pv 5)) (pv 5) (pe_fn (q84 z) (hr.mono (ZQ (by decide:1<=q46) (WR _ _))) () (pa1 (pe_fn (q155 z) (hr.mono (ZQ (by decide:3<=q46) (WR _ _))) () (pa2 (pv 2) (q30 (pa1 q14)))))) (pv 3))))
 (q16 (q20 (q30 (pa4 q34 (pv 4) (pv 6) (pv 7)))))))))),?_⟩
 refine⟨_,rfl,pa,xs,e,gs,rfl,hpa,hg,{},λH1 s1=>?_⟩
 rw[q106 hgd]
 exists _,rfl,rfl,_,rfl
 cases e with
 | zero=>
  refine ite2 (λ_=>?_) (λc=>absurd (ZA rfl) c)
  refine ite2 (λ_=>?_) (λc=>absurd rfl c)
  exact⟨_,rfl,szb rfl,λt ht=>q _ _ (s1.trans (q15 ht _)) ⟨t,rfl,q12⟩⟩
 | succ e=>
  have hp2:=p2pos e
  have e2:(2:Int)^(e+1)=2*2^e:=by rw[YK];exact W10
  refine ite2 (λc=>absurd (V.int.inj (ZF c)) {}) (λ_=>?_)
  have hf1:=hf.same s1
  exists fa,C,ψ,rfl,hf1,_,rfl,_,rfl,_,rfl,_,_,rfl,rfl,_,_,rfl,rfl,_,rfl,[least,least+2^(e+1)-1,((Wh gs).length:Nat)],rfl,hf1,hC _ _ _ {} {},_,rfl
  cases hφ:ψ [least,least+2^(e+1)-1,((Wh gs).length:Nat)] with
  | false=>
   refine ite2 (λ_=>?_) (λc=>absurd rfl c)
   have e0:papF (f3 ψ) (e+1) least (Wh gs) = .all ((Wh gs).length:Nat):=by
    unfold papF
    rw[ZJ (by show ¬ ψ _=true;rw[hφ];exact fnt)]
   rw[e0]at q
   exact⟨_,rfl,szb rfl,λt ht=>q _ _ (s1.trans (q15 ht _)) ⟨t,rfl,q12⟩⟩
  | true=>
   refine ite2 (λc=>absurd c ∅) (λ_=>?_)
   have e0:papF (f3 ψ) (e+1) least (Wh gs) = .split ((Wh gs).length:Nat) (papF (f3 ψ) e least (halfO e 0 (Wh gs))) (papF (f3 ψ) e (least+2^e) (halfO e 1 (Wh gs))):=by
    rw[papF,ZL (show f3 ψ least (least+2^(e+1)-1) ((Wh gs).length:Nat)=true from hφ)]
   rw[e0]at q
   have hh:(2:Int)^(e+1)/2=2^e:=by rw[YK];exact Int.mul_ediv_cancel _ ∅
   exists _,rfl,_,_,rfl,rfl,⟨∅,∅⟩
   dsimp only
   rw[hh]
   have good1:∀ w,∀ g∈gs.map (led1 e w),GoodS e g:=λw g hg=>by
    obtain⟨g',hg',rfl⟩:=eE hg
    exact q105 (hgd g' hg')
   have el:∀ w:Int,gs.map (ledS (e+1) [w])=gs.map (led1 e w):=λw=>map_congr_left λg _=>by rw[q67,q56]
   have lenH:∀ w:Int,(halfO e w (Wh gs)).length<=900:=λw=>ZQ q126 hw
   have fl:∀ w,(fillG (gs.map (led1 e w))).length<=100:=λw=>ZQ (YC _ _) (by rw[ZN];exact hl)
   refine⟨_,rfl,_,rfl,_,rfl,szb rfl,λw0 hw0=>?_⟩
   have s2:=q15 hw0 (.tup [V.int 0])
   have hw0':upd H1 w0 (.tup [V.int 0]) w0=some (.tup [V.int 0]):=q12
   generalize upd H1 w0 (.tup [V.int 0])=H2 at *
   have s02:=s1.trans s2
   refine⟨pa,w0,xs,e+1,[0],gs,rfl,s02.seq hpa,hg.same s02,hgd,{},SqT.of hw0',by simp,(λx hx=>by rw[eD hx];exact .inl rfl),λH3 D3 z3 s3 hD3 hD3n hg3=>?_⟩
   rw[el]at hg3
   have hg3':GatAt H3 e z3 (gs.map (led1 e 0)):=hg3
   refine⟨D3,z3,e,_,rfl,SqL.of hD3,hg3',by rw[ZN];lia,λH4 D4 z4 s4 hD4 hD4n hg4=>?_⟩
   have s04:=(s02.trans s3).trans s4
   refine⟨_,rfl,least,D4,fa,z4,fillG (gs.map (led1 e 0)),C,ψ,rfl,SqL.of hD4,hg4,q83 (good1 0),fl 0,by rw[q107,W_led hgd];exact lenH 0,hf.same s04,hC,λH5 v5 s5 hp5=>?_⟩
   rw[q107,W_led hgd]at hp5
   have s05:=s04.trans s5
   refine⟨_,rfl,_,rfl,_,_,rfl,rfl,_,rfl,_,rfl,szb rfl,λw1 hw1=>?_⟩
   have s6:=q15 hw1 (.tup [V.int 1])
   have hw1':upd H5 w1 (.tup [V.int 1]) w1=some (.tup [V.int 1]):=q12
   generalize upd H5 w1 (.tup [V.int 1])=H6 at *
   have s06:=s05.trans s6
   refine⟨pa,w1,xs,e+1,[1],gs,rfl,s06.seq hpa,hg.same s06,hgd,{},SqT.of hw1',by simp,(λx hx=>by rw[eD hx];exact .inr rfl),λH7 D7 z7 s7 hD7 hD7n hg7=>?_⟩
   rw[el]at hg7
   have hg7':GatAt H7 e z7 (gs.map (led1 e 1)):=hg7
   refine⟨D7,z7,e,_,rfl,SqL.of hD7,hg7',by rw[ZN];lia,λH8 D8 z8 s8 hD8 hD8n hg8=>?_⟩
   have s58:=(s6.trans s7).trans s8
   refine⟨_,rfl,least+2^e,D8,fa,z8,fillG (gs.map (led1 e 1)),C,ψ,rfl,SqL.of hD8,hg8,q83 (good1 1),fl 1,by rw[q107,W_led hgd];exact lenH 1,hf.same (s05.trans s58),hC,λH9 v9 s9 hp9=>?_⟩
   rw[q107,W_led hgd]at hp9
   have s59:=s58.trans s9
   refine⟨_,rfl,_,rfl,_,rfl,szb rfl,λt ht=>?_⟩
   have s10:=q15 ht (.tup [V.str "split", .int ((Wh gs).length:Nat),v5,v9])
   exact q _ _ ((s05.trans s59).trans s10) ⟨t,v5,v9,rfl,q12,hp5.same (s59.trans s10),hp9.same s10⟩
def q68:z.C P w 45 "told_paper" pn19 (q225 K):=by
 have sc:=q415
 specialize z.d_told_paper
 obtain⟨b,ga,fa,xs,low,L,gs,C,ψ,rfl,hb,hL,hga,hg,hgd,hl,hw,hf,hC,q⟩:=h
 exists _,(q16 (q20 (pfn (q426 z) hr (pa4 (pix q26 (pv 0) q14) (pfn (q48 z) hr (pa1 (pix q26 (pv 0) q14))) (pfn (q84 z) hr (pa1 (pv 1))) (pv 2)))))
 refine⟨_,rfl,b,_,_,_,rfl,rfl,hb,rfl,_,rfl,b,_,_,_,rfl,rfl,hb,rfl,L,rfl,hL,_,rfl,ga,xs,L,gs,rfl,hga,hg,{},λH1 D1 z1 s1 hD1 hD1n hg1=>?_⟩
 refine⟨_,rfl,L,hL,low,D1,fa,z1,fillG gs,C,ψ,rfl,SqL.of hD1,hg1,q83 hgd,ZQ (YC _ _) hl,by rw[q107];exact hw,hf.same s1,hC,λH2 v2 s2 hp2=>?_⟩
 rw[q107]at hp2
 exact q H2 v2 (s1.trans s2) hp2
def RwAt(H:Hp)(av:List Addr)(low:Int)(L:Nat)(ys:List V)(nss:LL):Prop:=ys.length=nss.length /\ ∀(j:Nat)(y:V)(ns:List Int),ys[j]? = some y->nss[j]? = some ns -> ∃ r,y = .ref r/\r ∉ av/\H r=some (.lst (ns.map V.int))/\ns.length<=60/\Wths low L ns
def RwAt.up{low:Int}{L:Nat}(h:RwAt H av low L ys nss)(k:∀ c o,c ∉ av->H c=some o->H' c=some o)(ha:∀ c xs,H c=some (.lst xs)->c ∉ av->c ∉ av'):RwAt H' av' low L ys nss:=
 ⟨h.1,λj y ns h1 h2=>by
  obtain⟨r,e,hr,z1,z2⟩:=h.2 j y ns h1 h2
  exact⟨r,e,ha r _ z1 hr,k r _ hr z1,z2⟩⟩
noncomputable def TrAt(H:Hp)(low:Int)(L:Nat)(ys:List V)(nss:LL):Prop:=ys.length=nss.length /\ ∀(j:Nat)(y:V)(ns:List Int),ys[j]? = some y->nss[j]? = some ns->q58 H y (grow low L ns)
def RwAt.snoc{low:Int}{L:Nat}{ns:List Int}(h:RwAt H av low L ys nss)(ha:r ∉ av)(hr:H r=some (.lst (ns.map V.int)))(hl:ns.length<=60)(hw:Wths low L ns):RwAt H av low L (ys++[.ref r]) (nss++[ns]):=by
 refine⟨by rw[ZU,ZU,h.1];rfl,λj y ms h1 h2=>?_⟩
 rcases q93 h1 with ⟨hj,h1⟩ | ⟨hj,rfl⟩
 ·rcases q93 h2 with ⟨_,h2⟩ | ⟨hj2,_⟩
  ·exact h.2 j y ms h1 h2
  ·rw[<- h.1]at hj2;exact(W62 hj hj2).elim
 ·rcases q93 h2 with ⟨hj2,h2⟩ | ⟨_,rfl⟩
  ·rw[<- h.1]at hj2;exact(W62 hj2 hj).elim
  ·exact⟨r,rfl,ha,hr,hl,hw⟩
def TrAt.snoc{low:Int}{L:Nat}(h:TrAt H low L ys nss)(hr:q58 H y0 (grow low L ns)):TrAt H low L (ys++[y0]) (nss++[ns]):=by
 refine⟨by rw[ZU,ZU,h.1];rfl,λj y ms h1 h2=>?_⟩
 rcases q93 h1 with ⟨hj,h1⟩ | ⟨hj,rfl⟩
 ·rcases q93 h2 with ⟨_,h2⟩ | ⟨hj2,_⟩
  ·exact h.2 j y ms h1 h2
  ·rw[<- h.1]at hj2;exact(W62 hj hj2).elim
 ·rcases q93 h2 with ⟨hj2,h2⟩ | ⟨_,rfl⟩
  ·rw[<- h.1]at hj2;exact(W62 hj2 hj).elim
  ·exact hr
def TrAt.tk{low:Int}{L:Nat}(h:TrAt H low L ys nss)(k:TKeep H H'):TrAt H' low L ys nss:=⟨h.1,λj y ns h1 h2=>(h.2 j y ns h1 h2).tk k⟩
theorem q167(d:Int):∀(e:Nat)(low:Int)(ns:List Int),grow (low+d) e (ns.map λn=>n+d)=grow low e ns
 | 0,low,ns=>by
  by_cases h:ns=[]
  ·rw[h];rfl
  ·rw[q321 h,q321 (by simpa using h),ZN]
 | e+1,low,ns=>by
  by_cases h:ns=[]
  ·rw[h];rfl
  ·have h2:(ns.map λn=>n+d)≠[]:=by simpa using h
   rw[q219 h,q219 h2,filter_map,filter_map,map_map]
   have e1:((λn=>if n<low+d+2^e then(0:Int)else 1)∘λn=>n+d)=λn=>if n<low+2^e then(0:Int)else 1:=by
    funext n
    show(if n+d<low+d+2^e then(0:Int)else 1)=if n<low+2^e then 0 else 1
    by_cases c:n<low+2^e
    ·rw[ZL c,ZL {}]
    ·rw[ZJ c,ZJ {}]
   have e2:((λn=>decide (n<low+d+2^e))∘λn=>n+d)=λn=>decide (n<low+2^e):=by
    funext n
    show decide (n+d<low+d+2^e)=decide (n<low+2^e)
    by_cases c:n<low+2^e
    ·rw[ZA c,ZA {}]
    ·rw[ZI c,ZI {}]
   have e3:((λn=>decide (low+d+2^e<=n))∘λn=>n+d)=λn=>decide (low+2^e<=n):=by
    funext n
    show decide (low+d+2^e<=n+d)=decide (low+2^e<=n)
    by_cases c:low+2^e<=n
    ·rw[ZA c,ZA {}]
    ·rw[ZI c,ZI {}]
   rw[e1,e2,e3,q167 d e low,show low+d+2^e=low+2^e+d by lia,q167 d e (low+2^e)]
theorem q246:∀(e:Nat)(os:List Int),growO e os=grow 0 e os
 | 0,os=>rfl
 | e+1,os=>by
  by_cases h:os=[]
  ·rw[h,q125,q580]
  ·rw[q96 h,q219 h,q246 e,q246 e]
   have z:(0:Int)+2^e=2^e:=Int.zero_add _
   rw[z]
   have e2:=q167 (2^e) e 0 ((os.filter λo=>decide ((2:Int)^e<=o)).map λo=>o-2^e)
   rw[map_map,z]at e2
   have e3:((os.filter λo=>decide ((2:Int)^e<=o)).map ((λn=>n+2^e)∘λo=>o-2^e))=os.filter λo=>decide ((2:Int)^e<=o):=by
    rw[show((λn:Int=>n+2^e)∘λo=>o-2^e)=id from funext λo=>by show o-2^e+2^e=o;exact W106,map_id]
   rw[e3]at e2
   rw[<- e2]
   rfl
def grow_off(low:Int)(e:Nat)(ns:List Int):grow low e ns=growO e (offs low ns):=by
 rw[q246,<- q167 low e 0,map_map,Int.zero_add]
 congr 1
 rw[show((λn:Int=>n+low)∘λn=>n-low)=id from funext λo=>by show o-low+low=o;exact W106,map_id]
noncomputable def thS(low:Int)(j:Nat)(g:G3):List TS.I3:=(List.range (g.2.2-g.2.1)).map λi=>(low+(g.1[g.2.1+i]?).getD 0,(j:Int),((g.2.1+i:Nat):Int))
noncomputable def thG(low:Int):Nat->List G3->List TS.I3
 | _,[]=>[]
 | j,g::gs=>thS low j g++thG low (j+1) gs
theorem q589(low:Int):∀(j:Nat)(gs:List G3)(g:G3),thG low j (gs++[g])=thG low j gs++thS low (j+gs.length) g
 | j,[],g=>by simp[thG]
 | j,x::gs,g=>by
  show thS low j x++thG low (j+1) (gs++[g])=thS low j x++thG low (j+1) gs++thS low (j+(gs.length+1)) g
  rw[q589 low (j+1) gs g,YZ,show j+1+gs.length=j+(gs.length+1) by lia]
def thS_fst{L:Nat}{low:Int}{j:Nat}(h:GoodS L g):(thS low j g).map (·.1)=(sel g).map λo=>low+o:=by
 obtain⟨_,h1,h2,_⟩:=h
 unfold thS sel
 rw[map_map]
 apply ext_getElem?
 intro i
 rw[WM,WM,getElem?_drop]
 by_cases c:i<g.2.2-g.2.1
 ·rw[getElem?_range c,getElem?_take_of_lt {},ZR (by lia:g.2.1+i<g.1.length)]
  show some (low+(g.1[g.2.1+i]?).getD 0)=_
  rw[ZR (by lia:g.2.1+i<g.1.length)]
  rfl
 ·rw[getElem?_eq_none (by rw[length_range];lia),getElem?_eq_none (by rw[length_take];lia)]
  rfl
theorem q737{L:Nat}{low:Int}:∀(j:Nat)(gs:List G3),(∀ g∈gs,GoodS L g)->(thG low j gs).map (·.1)=(Wh gs).map λo=>low+o
 | _,[],_=>rfl
 | j,g::gs,h=>by
  have ih:=q737 (low:=low) (j+1) gs λx hx=>h x (ZY _ hx)
  show(thS low j g++thG low (j+1) gs).map (·.1)=_
  unfold Wh at ih ⊢
  rw[WS,ih,thS_fst (h g WD),flatMap_cons,WS]
def thS_len(low:Int)(j:Nat)(g:G3):(thS low j g).length=g.2.2-g.2.1:=by unfold thS;rw[ZN,length_range]
def q590(k:TKeep H H')(h:q70 K H y u):q70 K H' y u:=by
 obtain⟨a,e,h⟩:=h
 rcases h with (h | ⟨o,h⟩) | h
 ·exact⟨a,e,.inl (.inl ((k _ _).1 h))⟩
 ·exact⟨a,e,.inl (.inr ⟨o,(k _ _).2 o h⟩)⟩
 ·exact⟨a,e,.inr h⟩
def q197(k:TKeep H H')(h:Paired (q70 K H) ys us):Paired (q70 K H') ys us:=L2.Paired.mapP h λ_ _ z=>q590 k z
theorem q61{α β:Type}{R:α->β->Prop}:∀{a:List α}{b:List β}{c:List α}{d:List β},Paired R a b->Paired R c d->Paired R (a++c) (b++d)
 | _,_,_,_,.nil,h=>h
 | _,_,_,_,.cons r t,h=>.cons r (q61 t h)
inductive q127(K:Fg)(vs:List V)(H:Hp)(Q:VK)(E:XK):Prop
 |mk(pen b:Addr)(n g low:Int)(L:Nat)(_:vs=[.ref pen,.ref b,.int g])(_:Pen K H pen n)(_:n<1000000)(_:H b=some (.tup [.int low,.int (L:Int)]))(_:L<=40)(_:0<=g)(_:g<=60)(_:∀(p ga th:Addr)(xs zs:List V)(gs:List G3)(us:List TS.I3)(H':Hp),Keep pen H H'->Pen K H' pen (n+300)->H' p=some (.tup [.ref ga,.ref th])->H' ga=some (.lst xs)->H ga=none->GatAt H' L xs gs->(∀ g∈gs,GoodS L g)->gs.length<=8 ->
   H' th=some (.lst zs)->H th=none->Paired (q70 K H') zs us->us.Perm (thG low 0 gs)->(us.Pairwise λx y=>TS.lex3 y x=false)->us.length<=500->Q (.ref p) H'):q127 K vs H Q E
def q247:z.C P w 44 "_law_gathering" pn1 (q127 K):=by
 have sc:=q241
 specialize z.d__law_gathering
 obtain⟨pen,b,n,g,low,L,rfl,P0,hn,hb,hL,g0,g1,q⟩:=h
 refine⟨_,(q11 (pst 3 sc.nd (q133 (cl:=[("_law_pen", s.heap.objs.size+1+0),("_law_greatest", s.heap.objs.size+1+2),("_law_bounds_here", s.heap.objs.size+1+1)]) (cn:=["_law_pen", "_law_greatest", "_law_bounds_here"]) (N:=["_law_bounds_here", "_law_greatest", "_law_pen"]) (fr:=[1,2,0]) (sc0:=q17 q39) rfl (q80 rfl z.range_ (pa1 (pe_op q29 q14 (pfn (q23 z) hr (pa2 (pv 0) q14))))) (λC s₂ H₂ fp=>(pfn (q534 z) hr (pa3 (pv 3) (pv 1) (pv 2)))) (by ac_rfl) ⟨by ac_rfl,by ac_rfl,by ac_rfl,trivial⟩ rfl rfl rfl cok rfl))
 (q11 (q119 (ps_if (q18 op_gt (pix q26 (pv 1) q14) q14 (q19 _))
 (q16 (pst 3 sc.nd (q133 (cl:=[]) (cn:=[]) (N:=[]) (fr:=[]) (sc0:=q17 q39) rfl (q31 (pv 3)) (λC s₂ H₂ fp=>(q130 (sl_listK (K:=K) rfl) (pv 0) q188 (q189 q14))) (by ac_rfl) trivial rfl rfl rfl cok rfl)))
 q22))
 (q11 (q232 (i:=4) (cl:=[("_law_bounds_here", s.heap.objs.size+1+1)]) (cn:=["_law_bounds_here"]) (N:=["_law_bounds_here"]) (fr:=[1]) (sc0:=q17 q39) sc.nd rfl (Or.inl rfl) rfl (q31 (pv 3)) (λC s₂ H₂ fp=>(pfn (q485 z) hr (pa3 (pix (q89 (K:=K) rfl) (pv 1) q14) (pix (q89 (K:=K) rfl) (pv 1) q14) (pv 0)))) (by ac_rfl) ⟨by ac_rfl,trivial⟩ rfl rfl rfl cok rfl (by ac_rfl) (.inl rfl))
 (q11 (pst 5 sc.nd (q38 q13))
 (q11 (pst 6 sc.nd (q38 q13))
 (q11 (q62 PassesOwn.never rfl (q80 rfl z.range_ (pa1 (pix q32 (q38 (pa4 q14 q14 q14 q14)) (pfn (q23 z) hr (pa2 (pv 0) q14))))) (pgn 7 sc.nd)
 (q11 (pst 8 sc.nd (pfn (q23 z) hr (pa2 (pv 0) (pln z.len_ (pa1 (pv 3))))))
 (q11 (pst 9 sc.nd (pfn (q23 z) hr (pa2 (pv 0) (pe_op q29 (pln z.len_ (pa1 (pix q32 (pv 3) (pv 8)))) q14))))
 (q11 (pst 10 sc.nd (pe_op q29 (pv 9) (pfn (q23 z) hr (pa2 (pv 0) (pe_op q47 (pe_op q29 (pln z.len_ (pa1 (pix q32 (pv 3) (pv 8)))) q14) (pv 9))))))
 (q11 (q119 (ps_if (q18 op_eq (pfn (q23 z) hr (pa2 (pv 0) q14)) q14 (q19 _))
 (q11 (pst 9 sc.nd q14)
 (q16 (pst 10 sc.nd (pln z.len_ (pa1 (pix q32 (pv 3) (pv 8)))))))
 q22))
 (q11 (q129 (pe_bm YD YH YI q59 (pv 5) (pa1 (q30 (pa3 (pix q32 (pv 4) (pv 8)) (pv 9) (pv 10))))))
 (q16 (pst 6 sc.nd (pe_op q169 (pv 6) (q133 (cl:=[("_law_rows", s.heap.objs.size+1+3),("_law_j", s.heap.objs.size+1+4),("_law_at", s.heap.objs.size+1+5)]) (cn:=["_law_rows", "_law_j", "_law_at"]) (N:=["_law_at", "_law_j", "_law_rows"]) (fr:=[8,7,3]) (sc0:=q17 q39) rfl (q648 rfl z.range_ (pa2 (pv 9) (pv 10))) (λC s₂ H₂ fp=>(q30 (pa3 (pix (q554 (K:=K) rfl) (pix (q554 (K:=K) rfl) (pv 3) (pv 1)) (pv 0)) (pv 2) (pv 0)))) (by ac_rfl) ⟨by ac_rfl,by ac_rfl,by ac_rfl,trivial⟩ rfl rfl rfl cok rfl))))))))))
 (q16 (q20 (q30 (pa2 (pv 5) (q44 (q451 (K:=K) rfl) () z.sorted_ q299 (pa1 (pv 6))))))))))))),?_⟩
 have hbp:b≠pen:=P0.ne hb
 refine⟨_,rfl,pen,2,n,rfl,P0,{},∅,∅,λc H1 k1 P1 c0 c1=>⟨_,_,rfl,rfl,1+c,rfl,{},{},λR hR=>?_⟩⟩
 have hRp:R≠pen:=P1.fresh hR
 refine q162 (n:=(1+c).toNat) (sz {}) (λj ys H2=>∃ nss:LL,nss.length=j/\H2 R=some (.lst ys)/\Keep pen H1 H2/\Pen K H2 pen (n+1+80*j)/\RwAt H2 [R,pen] low L ys nss)
  ⟨[],rfl,q12,Keep.new hR _,(P1.new hR _).le {},⟨rfl,λj y ns h=>by simp at h⟩⟩ (λj ys H2 ⟨nss,e1,e2,_,_,e3⟩=>⟨e2,by rw[e3.1,e1]⟩) ?_ ?_
 ·rintro j ys H2 hj ⟨nss,e1,e2,k2,P2,e3⟩
  have hb2:=(k1.trans k2) _ _ hbp hb
  refine⟨_,rfl,_,rfl,_,rfl,pen,b,_,g,low,L,rfl,P2,{},hb2,hL,g0,g1,λr ns H3 k3 P3 hr3 hr2 hl hw=>?_⟩
  have hrR:r≠R:=λz=>by rw[z,e2]at hr2;cases hr2
  have hrp:r≠pen:=P2.fresh hr2
  have e2':=k3 _ _ hRp e2
  exists e2',nss++[ns],by rw[ZU,e1];rfl,q12,(k2.trans k3).own hR,(P3.other hRp e2' _).le {}
  have z:RwAt H3 [R,pen] low L ys nss:=e3.up (λc o hc h=>k3 _ _ (λz=>hc (by simp[z])) h) (λc _ _ h=>h)
  refine RwAt.snoc (z.up (λc o hc h=>?_) (λc _ _ h=>h)) (by simp[hrR,hrp]) ?_ hl hw
  ·rw[q27 (λz=>hc (by simp[z]))]
   exact h
  ·rw[q27 hrR]
   exact hr3
 ·rintro ys H2 ⟨nss,e1,e2,k2,P2,e3⟩
  have hb2:=(k1.trans k2) _ _ hbp hb
  have hnl:nss.length<=2:={}
  have hn1:1<=nss.length:={}
  have hyl:=e3.1
  clear P1
  have cut5:∀ ns:List Int,cutV (ns.map V.int) none (some 5)=(ns.take 5).map V.int:=λns=>by
   show List.take (HT.sIx (ns.map V.int).length (ns.map V.int).length (some ((5:Nat):Int))-0) (List.drop 0 (ns.map V.int))=_
   rw[HT.q754,drop_zero,Nat.sub_zero,map_take,ZN]
   by_cases c:5<=ns.length
   ·rw[Nat.min_eq_left c]
   ·rw[Nat.min_eq_right {},WZ (by rw[ZN];exact ZH _),WZ (by rw[ZN];lia)]
  exists λσ G=>∃(R:Addr)(ys:List V)(nss':LL),σ=[some (.ref pen),some (.ref b),some (.int g),some (.ref R),none,none,none,none,none,none,none]/\G R=some (.lst ys)/\R≠pen/\Keep pen H G/\Pen K G pen (n+170)/\RwAt G [R,pen] low L ys nss'/\nss'.length=nss.length,?_
  ·refine⟨_,rfl,b,_,_,_,rfl,rfl,SqT.of hb2,rfl,_,_,rfl,rfl,_,rfl,ite2 (λ_=>?_) (λ_=>⟨R,ys,nss,rfl,e2,hRp,k1.trans k2,P2.le {},e3,rfl⟩)⟩
   refine⟨_,rfl,R,rfl,⟨_,SqL.of e2⟩,λR2 hR2=>?_⟩
   have hR2p:R2≠pen:=P2.fresh hR2
   refine q64 (xs:=ys) (sz {}) (λj zs H3=>H3 R2=some (.lst zs)/\Same H2 H3/\zs.length=j/\RwAt H3 [R2,pen] low L zs ((nss.take j).map (List.take 5))) ⟨q12,q15 hR2 _,rfl,⟨by simp,λj y ns h=>by simp at h⟩⟩ (λj zs H3 ⟨_,s3,_⟩=>SqL.of (s3 _ _ e2)) (λj zs H3 ⟨a1,_,a3,_⟩=>⟨a1,a3⟩) ?_ ?_
   ·rintro j y zs H3 hy ⟨a1,s3,a3,a4⟩
    have hj:j<nss.length:=by rw[<- hyl];exact(eA hy).1
    have gj:nss[j]? = some nss[j]:=ZR hj
    obtain⟨r,rfl,_,hr,hl,hw⟩:=e3.2 j y _ hy gj
    generalize nss[j]=ns at *
    refine⟨_,rfl,_,rfl,r,_,rfl,SqL.of (s3 _ _ hr),λp hp=>?_⟩
    rw[cut5]
    have t:=q15 hp (.lst ((ns.take 5).map V.int))
    have a1':=t _ _ a1
    have hpR:p≠R2:=λz=>by rw[z,a1]at hp;cases hp
    have hpp:p≠pen:=(P2.same s3).fresh hp
    exists a1',q12,Same.own (s3.trans t) hR2,by rw[ZU,a3];rfl
    rw[show List.take (j+1) nss=List.take j nss++[ns] by rw[WW,gj];rfl,WS]
    refine RwAt.snoc (RwAt.up a4 (λc o hc h=>?_) (λc _ _ h=>h)) (by simp[hpR,hpp]) ?_ ?_ ?_
    ·rw[q27 (λz=>hc (by simp[z]))]
     exact t _ _ h
    ·rw[q27 hpR]
     exact q12
    ·exact ZQ (length_take_le' _ _) hl
    ·exact λx hx=>hw x (mem_of_mem_take hx)
   ·rintro zs H3 ⟨a1,s3,a3,a4⟩
    rw[hyl,YF]at a4
    exact⟨R2,zs,_,rfl,a1,hR2p,(k1.trans k2).trans (.same s3),(P2.same s3).le {},a4,by rw[ZN]⟩
  rintro σ H2 ⟨R,ys,nss',rfl,e2,hRp,k12,P2,e3,hnn⟩
  rw[<- hnn]at hnl hn1
  clear hnn
  have hb2:=k12 _ _ hbp hb
  have hyl:=e3.1
  generalize nss'=nss at *
  refine⟨_,rfl,R,rfl,⟨_,SqL.of e2⟩,λT hT=>?_⟩
  have hTp:T≠pen:=P2.fresh hT
  refine q64 (xs:=ys) (sz {}) (λj ts H3=>H3 T=some (.lst ts)/\Same H2 H3/\ts.length=j/\TrAt H3 low L ts (nss.take j)) ⟨q12,q15 hT _,rfl,⟨by simp,λj y ns h=>by simp at h⟩⟩ (λj ts H3 ⟨_,s3,_⟩=>SqL.of (s3 _ _ e2)) (λj ts H3 ⟨a1,_,a3,_⟩=>⟨a1,a3⟩) ?_ ?_
  ·rintro j y ts H3 hy ⟨a1,s3,a3,a4⟩
   have hj:j<nss.length:=by rw[<- hyl];exact(eA hy).1
   have gj:nss[j]? = some nss[j]:=ZR hj
   obtain⟨r,rfl,_,hr,hl,hw⟩:=e3.2 j y _ hy gj
   generalize nss[j]=ns at *
   have hb3:=s3 _ _ hb2
   refine⟨_,rfl,b,_,_,_,rfl,rfl,SqT.of hb3,rfl,_,rfl,b,_,_,_,rfl,rfl,SqT.of hb3,rfl,_,rfl,L,hL,low,r,ns,rfl,SqL.of (s3 _ _ hr),{},λH4 v s4 hv=>?_⟩
   have a1':=s4 _ _ a1
   exists a1',q12,Same.own (s3.trans s4) hT,by rw[ZU,a3];rfl
   have tk:TKeep H4 (upd H4 T (.lst (ts++[v]))):=TKeep.set a1'
   rw[WW,gj]
   exact((a4.tk (.same s4)).tk tk).snoc (hv.tk tk)
  ·rintro ts H3 ⟨a1,s3,a3,a4⟩
   rw[hyl,YF]at a4
   have hb3:=s3 _ _ hb2
   have hR3:=s3 _ _ e2
   have rw3:RwAt H3 [R,pen] low L ys nss:=e3.up (λc o _ h=>s3 _ _ h) (λc _ _ h=>h)
   have P3:=P2.same s3
   have k03:Keep pen H H3:=k12.trans (.same s3)
   clear P2
   refine⟨szb rfl,λga hga=>⟨szb rfl,λt0 ht0=>?_⟩⟩
   have s4:=q15 hga (.lst [])
   have s5:=q15 ht0 (.lst [])
   have hga4:=@q12 H3 ga (.lst [])
   have hga5:=s5 _ _ hga4
   have ht05:upd (upd H3 ga (.lst [])) t0 (.lst []) t0=some (.lst []):=q12
   have htga:t0≠ga:=λz=>by rw[z,hga4]at ht0;cases ht0
   have s45:=s4.trans s5
   have hga0:H ga=none:=by obtain⟨xs,e⟩:=P3.at;exact k03.free hga e
   have hgap:ga≠pen:=P3.fresh hga
   have ht0p:t0≠pen:=(P3.same s4).fresh ht0
   have hRga:R≠ga:=q25 hR3 hga
   have hTga:T≠ga:=q25 a1 hga
   have rw4:RwAt H3 [ga,pen] low L ys nss:=rw3.up (λc o _ h=>h) (λc xs h hc=>by
    have:c≠ga:=q25 h hga
    simp only[mem_cons,not_mem_nil,or_false,not_or]at hc ⊢
    exact⟨this,hc.2⟩)
   generalize upd (upd H3 ga (.lst [])) t0 (.lst [])=H5 at *
   have P5:=P3.same s45
   refine⟨szb rfl,λl4 hl4=>?_⟩
   have s6:=q15 hl4 (.lst [V.int 1,.int 2,.int 3,.int 8])
   have e6:upd H5 l4 (.lst [V.int 1,.int 2,.int 3,.int 8]) l4=some (.lst ([(1:Int),2,3,8].map V.int)):=q12
   generalize upd H5 l4 (.lst [V.int 1,.int 2,.int 3,.int 8])=H6 at *
   have P6:=P5.same s6
   have hl4p:l4≠pen:=P5.fresh hl4
   refine⟨_,rfl,pen,4,_,rfl,P6,{},∅,∅,λv H7 k7 P7 v0 v1=>?_⟩
   obtain⟨cnt,hcnt,hat⟩:=q79 (l:=[1,2,3,8]) v0 v1
   have hc8:1<=cnt/\cnt<=8:=by
    simp only[mem_cons,not_mem_nil,or_false]at hcnt
    exact W25 hcnt
   have k57:Keep pen H3 H7:=(Keep.same (s45.trans s6)).trans k7
   have rw7:RwAt H7 [ga,pen] low L ys nss:=rw4.up (λc o hc h=>k57 _ _ (λz=>hc (by simp[z])) h) (λc _ _ h=>h)
   have tr7:TrAt H7 low L ts nss:=a4.tk (by obtain⟨xs,e⟩:=P3.at;exact .keep k57 e)
   have hR7:=k57 _ _ hRp hR3
   have hT7:=k57 _ _ hTp a1
   have hga7:=k7 _ _ hgap (s6 _ _ hga5)
   have ht07:=k7 _ _ ht0p (s6 _ _ ht05)
   have k07:=k03.trans k57
   exists l4,_,_,_,rfl,rfl,SqL.of (k7 _ _ hl4p e6),hat,cnt,rfl,{},{}
   refine q101 (n:=cnt.toNat) (λi σ G=>∃(xs zs:List V)(gs:List G3)(tl:Addr)(w7 w8 w9 w10:Option V),σ=[some (.ref pen),some (.ref b),some (.int g),some (.ref R),some (.ref T),some (.ref ga),some (.ref tl),w7,w8,w9,w10]/\(∀ c o,c≠pen->c≠ga->H7 c=some o->G c=some o)/\Pen K G pen (n+200+10*i) /\
     G ga=some (.lst xs)/\GatAt G L xs gs/\(∀ g∈gs,GoodS L g)/\gs.length=i/\G tl=some (.lst zs)/\tl≠pen/\tl≠ga/\Paired (q70 K G) zs (thG low 0 gs)/\zs.length<=60*i)
    ⟨[],[],[],t0,none,none,none,none,rfl,λc o _ _ h=>h,P7.le {},hga7,GatAt.nil _ _,λg hg=>absurd hg (by simp),rfl,ht07,ht0p,htga,.nil,WA _⟩ ?_ ?_
   ·rintro i σ G hi ⟨xs,zs,gs,tl,w7,w8,w9,w10,rfl,KP,PG,hgaG,hgt,hgd,hgl,htl,htlp,htlg,htr,hzl⟩
    have hRG:=KP _ _ hRp hRga hR7
    refine⟨_,rfl,_,rfl,R,_,rfl,.inl (SqL.of hRG),pen,_,_,rfl,PG,{},{},{},λat' G1 k1' P1' a0 a1'=>?_⟩
    obtain⟨ai,rfl⟩:=Int.eq_ofNat_of_zero_le a0
    have hai:ai<ys.length:={}
    have hai2:ai<nss.length:={}
    have gy:ys[ai]? = some ys[ai]:=ZR hai
    have gn:nss[ai]? = some nss[ai]:=ZR hai2
    have gt:ts[ai]? = some ts[ai]:=ZR {}
    obtain⟨r,hyr,hrav,hr7,hrl,hrw⟩:=rw7.2 ai _ _ gy gn
    have htree7:=tr7.2 ai _ _ gt gn
    rw[hyr]at gy
    generalize nss[ai]=ns at *
    generalize ts[ai]=tv at *
    have hrp:r≠pen:=λz=>hrav (by simp[z])
    have hrg:r≠ga:=λz=>hrav (by simp[z])
    have atR:atI ys (ai:Int)=some (.ref r):=q86 gy
    have atT:atI ts (ai:Int)=some tv:=q86 gt
    have hml:(ns.map V.int).length=ns.length:=ZN _
    have hR1:=k1' _ _ hRp hRG
    have hr1:=k1' _ _ hrp (KP _ _ hrp hrg hr7)
    refine⟨_,rfl,_,rfl,_,rfl,R,_,_,_,rfl,rfl,SqL.of hR1,atR,r,_,rfl,.inl (SqL.of hr1),_,_,rfl,rfl,pen,_,_,rfl,P1',{},{},{},λst' G2 k2' P2' b0 b1=>?_⟩
    obtain⟨st,rfl⟩:=Int.eq_ofNat_of_zero_le b0
    have hR2:=k2' _ _ hRp hR1
    have hr2:=k2' _ _ hrp hr1
    refine⟨_,rfl,_,rfl,_,rfl,_,rfl,R,_,_,_,rfl,rfl,SqL.of hR2,atR,r,_,rfl,.inl (SqL.of hr2),_,_,rfl,rfl,_,rfl,_,_,rfl,rfl,pen,_,_,rfl,P2',{},{},{},λen' G3' k3' P3' d0 d1=>⟨_,_,rfl,rfl,?_⟩⟩
    obtain⟨ed,rfl⟩:=Int.eq_ofNat_of_zero_le d0
    have k13:=k1'.trans (k2'.trans k3')
    exists λσ G4=>∃(st en:Nat),σ=[some (.ref pen),some (.ref b),some (.int g),some (.ref R),some (.ref T),some (.ref ga),some (.ref tl),some (.int (0+(i:Int))),some (.int (ai:Int)),some (.int (st:Int)),some (.int (en:Int))]/\st<=en/\en<=ns.length/\Keep pen G G4/\Pen K G4 pen (n+200+10*i+4),?_
    ·refine⟨_,rfl,pen,3,_,rfl,P3',{},∅,∅,λv4 G4 k4' P4' _ _=>⟨rfl,_,rfl,ite2 (λ_=>?_) (λ_=>?_)⟩⟩
     ·refine⟨_,rfl,_,rfl,R,_,_,_,rfl,rfl,SqL.of (k4' _ _ hRp (k3' _ _ hRp hR2)),atR,r,_,rfl,.inl (SqL.of (k4' _ _ hrp (k3' _ _ hrp hr2))),0,ns.length,?_,WA _,ZH _,k13.trans k4',P4'.le {}⟩
      rw[hml]
      rfl
     ·refine⟨st,st+ed,?_,{},{},k13.trans k4',P4'.le {}⟩
      rw[show(((st+ed:Nat):Int))=(st:Int)+(ed:Int) by lia]
      rfl
    ·rintro σ G4 ⟨st,en,rfl,hse,hel,k4,P4⟩
     have KP4:∀ c o,c≠pen->c≠ga->H7 c=some o->G4 c=some o:=λc o h1 h2 h=>k4 _ _ h1 (KP _ _ h1 h2 h)
     have hgaG4:=k4 _ _ hgap hgaG
     have htl4:=k4 _ _ htlp htl
     have tk4:TKeep G G4:=by obtain⟨xs,e⟩:=PG.at;exact .keep k4 e
     have tk7:TKeep H7 G4:=by
      obtain⟨xs',e⟩:=P7.at
      exact λc xs=>⟨λh=>KP4 _ _ (ne_of h e (by intro z;cases z)) (ne_of h hga7 (by intro z;cases z)) h,λo h=>KP4 _ _ (ne_of h e (by intro z;cases z)) (ne_of h hga7 (by intro z;cases z)) h⟩
     refine⟨_,rfl,.inl ⟨rfl,_,SqL.of hgaG4⟩,_,rfl,_,rfl,T,_,_,_,rfl,rfl,SqL.of (KP4 _ _ hTp hTga hT7),atT,_,rfl,_,rfl,szb rfl,λtp htp=>?_⟩
     have t5:=q15 htp (.tup [tv,.int (st:Int),.int (en:Int)])
     have etp:=@q12 G4 tp (.tup [tv,.int (st:Int),.int (en:Int)])
     generalize upd G4 tp (.tup [tv,.int (st:Int),.int (en:Int)])=G5 at *
     have hgaG5:=t5 _ _ hgaG4
     have hxl:xs.length=gs.length:=hgt.1
     exists ga,_,_,rfl,rfl,hgaG5,q81 {}
     have tk6:TKeep G5 (upd G5 ga (.lst (xs++[.ref tp]))):=TKeep.set hgaG5
     have ne6:∀{c:Addr}{o:HO},c≠ga->G5 c=some o->upd G5 ga (.lst (xs++[.ref tp])) c=some o:=λhc h=>by rw[q27 hc];exact h
     have hga6:=@q12 G5 ga (.lst (xs++[.ref tp]))
     have P6':Pen K (upd G5 ga (.lst (xs++[.ref tp]))) pen (n+200+10*i+4):=(P4.same t5).other hgap hgaG5 _
     have KP6:∀ c o,c≠pen->c≠ga->H7 c=some o->upd G5 ga (.lst (xs++[.ref tp])) c=some o:=λc o h1 h2 h=>ne6 h2 (t5 _ _ (KP4 _ _ h1 h2 h))
     have htl6:=ne6 htlg (t5 _ _ htl4)
     have etp6:=(tk6 _ _).1 etp
     generalize upd G5 ga (.lst (xs++[.ref tp]))=G6 at *
     have tkG6:TKeep G G6:=tk4.trans ((TKeep.same t5).trans tk6)
     have gt6:GatAt G6 L (xs++[.ref tp]) (gs++[(offs low ns,st,en)]):=(hgt.tk tkG6).snoc ⟨tp,tv,rfl,etp6,by
      show q58 G6 tv (growO L (offs low ns))
      rw[<- grow_off]
      exact htree7.tk (tk7.trans ((TKeep.same t5).trans tk6))⟩
     have good6:GoodS L (offs low ns,st,en):=⟨q539 hrw,hse,by show en<=(offs low ns).length;rw[ZN];exact hel,by show(offs low ns).length<=300;rw[ZN];lia⟩
     have hR6:=KP6 _ _ hRp hRga hR7
     have hr6:=KP6 _ _ hrp hrg hr7
     refine⟨_,rfl,_,rfl,_,rfl,(st:Int),(en:Int),rfl,⟨W111,{},W111,{}⟩,λD hD=>?_⟩
     have hDp:D≠pen:=P6'.fresh hD
     have hDga:D≠ga:=λz=>by rw[z,hga6]at hD;cases hD
     have het:((en:Int)-(st:Int)).toNat=en-st:={}
     have hths:thS low gs.length (offs low ns,st,en)=(List.range (en-st)).map λk=>(low+((offs low ns)[st+k]?).getD 0,(gs.length:Int),((st+k:Nat):Int)):=rfl
     refine q162 (n:=((en:Int)-(st:Int)).toNat) (by rw[sizeLine_eq];lia) (λk vs H8=>H8 D=some (.lst vs)/\vs.length=k/\Same G6 H8/\Paired (q70 K H8) vs ((thS low gs.length (offs low ns,st,en)).take k)) ⟨q12,rfl,q15 hD _,.nil⟩ (λk vs H8 ⟨a1,a2,_,_⟩=>⟨a1,a2⟩) ?_ ?_
     ·rintro k vs H8 hk ⟨a1,a2,s8,a4⟩
      have hk':st+k<ns.length:={}
      have gk:ns[st+k]? = some ns[st+k]:=ZR hk'
      have atk:atI (ns.map V.int) ((st:Int)+(k:Int))=some (.int ns[st+k]):=by
       rw[show(st:Int)+(k:Int)=((st+k:Nat):Int) by exact W32]
       exact q86 (by rw[WM,gk] <;> rfl)
      have gth:(thS low gs.length (offs low ns,st,en))[k]? = some (ns[st+k],(gs.length:Int),((st+k:Nat):Int)):=by
       rw[hths,WM,getElem?_range {}]
       show some (low+((offs low ns)[st+k]?).getD 0,(gs.length:Int),((st+k:Nat):Int))=_
       rw[WM,gk]
       show some (low+(ns[st+k]-low),(gs.length:Int),((st+k:Nat):Int))=_
       rw[show low+(ns[st+k]-low)=ns[st+k] by lia]
      generalize ns[st+k]=nv at *
      refine⟨_,rfl,_,rfl,R,_,_,_,rfl,rfl,SqL.of (s8 _ _ hR6),atR,_,rfl,r,_,_,_,rfl,rfl,SqL.of (s8 _ _ hr6),atk,_,rfl,_,rfl,szb rfl,λp hp=>?_⟩
      have t9:=q15 hp (.tup [V.int nv,.int (0+(i:Int)),.int ((st:Int)+(k:Int))])
      have ep:=@q12 H8 p (.tup [V.int nv,.int (0+(i:Int)),.int ((st:Int)+(k:Int))])
      have a1':=t9 _ _ a1
      have a4':=q197 (.same t9) a4
      have s89:=s8.trans t9
      generalize upd H8 p (.tup [V.int nv,.int (0+(i:Int)),.int ((st:Int)+(k:Int))])=H9 at *
      exists a1',q12,by rw[ZU,a2];rfl,Same.own s89 hD
      have tk:TKeep H9 (upd H9 D (.lst (vs++[V.ref p]))):=TKeep.set a1'
      rw[WW,gth]
      refine q61 (q197 tk a4') (.cons ⟨p,rfl,SqT.of ?_⟩ .nil)
      show upd H9 D (.lst (vs++[V.ref p])) p=some (.tup [V.int nv,.int (gs.length:Int),.int ((st+k:Nat):Int)])
      rw[(tk _ _).1 ep,show 0+(i:Int)=(gs.length:Int) by lia,show(st:Int)+(k:Int)=((st+k:Nat):Int) by lia]
     ·rintro vs H8 ⟨a1,a2,s8,a4⟩
      rw[het]at a2 a4
      rw[WZ (by rw[thS_len];exact ZH _)]at a4
      have htl8:=s8 _ _ htl6
      refine⟨tl,D,zs,vs,rfl,rfl,htl8,a1,by rw[sizeLine_eq];lia,λt9 ht9=>?_⟩
      have s9:=q15 ht9 (.lst (zs++vs))
      have s69:=s8.trans s9
      refine⟨_,zs++vs,gs++[(offs low ns,st,en)],t9,_,_,_,_,rfl,λc o h1 h2 h=>s69 _ _ (KP6 _ _ h1 h2 h),(P6'.same s69).le {},s69 _ _ hga6,gt6.same s69,λg hg=>?_,by rw[ZU,hgl];rfl,q12,(P6'.same s8).fresh ht9,(λz=>by rw[z,s8 _ _ hga6]at ht9;cases ht9),?_,by rw[ZU];lia⟩
      ·rcases eC hg with h | h
       ·exact hgd g h
       ·rw[eD h];exact good6
      ·rw[q589,Nat.zero_add]
       exact q61 (q197 (tkG6.trans (.same s69)) htr) (q197 (.same s9) a4)
   ·rintro σ G ⟨xs,zs,gs,tl,w7,w8,w9,w10,rfl,KP,PG,hgaG,hgt,hgd,hgl,htl,htlp,htlg,htr,hzl⟩
    refine⟨_,rfl,_,rfl,tl,zs,thG low 0 gs,rfl,SqL.of htl,htr,λl zs' us hl hpm hpr hso=>⟨szb rfl,λp hp=>?_⟩⟩
    have s1:=q15 hl (.lst zs')
    have hl1:=@q12 G l (.lst zs')
    have s2:=q15 hp (.tup [V.ref ga,.ref l])
    have s12:=s1.trans s2
    have hus:us.Perm (thG low 0 gs):=by
     have z:=hpm.map Prod.snd
     rw[map_snd_zip (by rw[Paired.length hpr];exact ZH _),map_snd_zip (by rw[Paired.length htr];exact ZH _)]at z
     exact z
    have kHG:Keep pen H G:=λc o hc h=>KP c o hc (λz=>by rw[z,hga0]at h;cases h) (k07 c o hc h)
    have hlH:H l=none:=by obtain⟨ws,e⟩:=PG.at;exact kHG.free hl e
    refine q p ga l xs zs' gs us _ (kHG.trans (.same s12)) ((PG.same s12).le {}) q12 (s12 _ _ hgaG) hga0 (hgt.same s12) hgd {} (s2 _ _ hl1) hlH (q197 (.same s12) hpr) hus hso ?_
    rw[hus.length_eq,<- Paired.length htr]
    lia
def dec_int(n m:Int):decide (V.int n=V.int m)=decide (n=m):=by
 by_cases c:n=m
 ·rw[c,ZA rfl,ZA rfl]
 ·rw[ZI c,ZI (λz=>c (V.int.inj z))]
noncomputable def q21:Nat->Int->Pp->List TS.I3
 | e,low,.all n=>[(low,low+2^e-1,n)]
 | 0,_,.split _ _ _=>[]
 | e+1,low,.split _ l r=>q21 e low l++q21 e (low+2^e) r
def fitP:Nat->Pp->Prop
 | _,.all _=>True
 | 0,.split _ _ _=>False
 | e+1,.split _ l r=>fitP e l/\fitP e r
theorem q41:∀{e:Nat}{us:List Int}{p:Pp},q35 e us p->fitP e p
 | e,_,.all _,_=>by cases e <;> trivial
 | 0,_,.split _ _ _,h=>h.elim
 | e+1,_,.split _ l r,h=>⟨q41 h.2.1,q41 h.2.2⟩
theorem q53:∀(e:Nat)(low:Int)(p:Pp),(q21 e low p).length<=p.leaves
 | e,_,.all _=>by cases e <;> exact ZH _
 | 0,_,.split _ _ _=>WA _
 | e+1,low,.split _ l r=>by
  show(q21 e low l++q21 e (low+2^e) r).length<=l.leaves+r.leaves
  rw[ZU]
  exact Nat.add_le_add (q53 e _ l) (q53 e _ r)
def q98(e:Nat)(low n:Int):q21 e low (.all n)=[(low,low+2^e-1,n)]:=by cases e <;> rfl
abbrev q177:Nat:=2
abbrev q178:Nat:=40
inductive q108(K:Fg)(e:Nat)(vs:List V)(H:Hp)(Q:VK)(E:XK):Prop
 |mk(v:V)(p:Pp)(low:Int)(_:vs=[.int low,.int (2^e),v])(_:PpAt H v p)(_:fitP e p)(_:p.leaves<=100000)(_:∀(D:Addr)(zs:List V)(H':Hp),Same H H'->H D=none->H' D=some (.lst zs)->Paired (q70 K H') zs (q21 e low p)->Q (.ref D) H')
def q357(K:Fg):Sp:=λvs H Q E=>∃ e,e<=q178/\q108 K e vs H Q E
inductive q160(K:Fg)(vs:List V)(H:Hp)(Q:VK)(E:XK):Prop
 |mk(b:Addr)(v:V)(p:Pp)(low:Int)(L:Nat)(_:vs=[.ref b,v])(_:SqT K H b [.int low,.int (L:Int)])(_:L<=40)(_:PpAt H v p)(_:fitP L p)(_:p.leaves<=100000)(_:∀(D:Addr)(zs:List V)(H':Hp),Same H H'->H D=none->H' D=some (.lst zs)->Paired (q70 K H') zs (q21 L low p)->Q (.ref D) H')
def q198(s:Same H H')(h:H' c=none):H c=none:=by
 cases z:H c with
 | none=>rfl
 | some o=>rw[s _ _ z]at h;cases h
def q358:z.C P w 43 "closed_from" ["least", "many", "paper"] (q357 K):=by
 have sc:=q345
 refine z.d_closed_from.recur (k:=q177) (sp:=q108 K) q178 λe hen c_closed_from f fd F=>F.k sc λ_ _ _ s H _ Q _ hr h=>?_
 obtain⟨v,p,low,rfl,hp,hf,hlv,q⟩:=h
 refine⟨_,(q11 (ps_if (q99 (pe_fn (q269 z) (hr.mono (ZQ (by decide:2<=q177) (WR _ _))) () (pa1 (pv 2))))
 (q16 (q20 (q38 (pa1 (q30 (pa3 (pv 0) (pe_op q47 (pe_op q29 (pv 0) (pv 1)) q14) (pix q26 (pv 2) q14)))))))
 q22)
 (q11 (pst 3 sc.nd (pe_op q91 (pv 1) q14))
 (q16 (q20 (pe_op q169 (pe_fn c_closed_from (hr.mono (ZH _)) () (pa3 (pv 0) (pv 3) (pix q26 (pv 2) q14))) (pe_fn c_closed_from (hr.mono (ZH _)) () (pa3 (pe_op q29 (pv 0) (pv 3)) (pv 3) (pix q26 (pv 2) q14)))))))),?_⟩
 exists _,rfl,v,p,rfl,hp,_,rfl
 cases p with
 | all n=>
  refine ite2 (λ_=>?_) nr
  obtain⟨a,rfl,ha⟩:=id hp
  refine⟨_,rfl,_,rfl,_,rfl,_,_,rfl,rfl,_,_,rfl,rfl,_,rfl,a,_,_,_,rfl,rfl,SqT.of ha,rfl,szb rfl,λt ht=>⟨szb rfl,λD hD=>?_⟩⟩
  have s1:=q15 ht (.tup [V.int low,.int (low+2^e-1),.int n])
  have et:=@q12 H t (.tup [V.int low,.int (low+2^e-1),.int n])
  have s2:=q15 hD (.lst [V.ref t])
  refine q D [.ref t] _ (s1.trans s2) (q198 s1 hD) q12 ?_
  rw[q98]
  exact .cons ⟨t,rfl,SqT.of (s2 _ _ et)⟩ .nil
 | split n l r=>
  refine ite2 nf (λ_=>?_)
  obtain⟨a,x,y,rfl,ha,hx,hy⟩:=id hp
  cases e with
  | zero=>exact hf.elim
  | succ e=>
   have hlv':l.leaves+r.leaves<=100000:=hlv
   have e2:(2:Int)^(e+1)/2=2^e:=by rw[YK];exact W18
   exists _,rfl,_,_,rfl,rfl,⟨∅,∅⟩
   dsimp only
   rw[e2]
   refine⟨_,rfl,_,rfl,_,rfl,a,_,_,_,rfl,rfl,SqT.of ha,rfl,x,l,low,rfl,hx,hf.1,{},λD1 z1 H1 s1 hD1n hD1 hz1=>?_⟩
   refine⟨_,rfl,_,rfl,_,_,rfl,rfl,_,rfl,_,rfl,a,_,_,_,rfl,rfl,SqT.of (s1 _ _ ha),rfl,y,r,low+2^e,rfl,hy.tk (.same s1),hf.2,{},λD2 z2 H2 s2 hD2n hD2 hz2=>?_⟩
   have l1:=Paired.length hz1
   have l2:=Paired.length hz2
   have c1:=q53 e low l
   have c2:=q53 e (low+2^e) r
   refine⟨D1,D2,z1,z2,rfl,rfl,s2 _ _ hD1,hD2,szB {},λD hD=>?_⟩
   have s3:=q15 hD (.lst (z1++z2))
   have s13:=s1.trans (s2.trans s3)
   refine q D (z1++z2) _ s13 (q198 (s1.trans s2) hD) q12 ?_
   exact q61 (q197 (.same (s2.trans s3)) hz1) (q197 (.same s3) hz2)
def q54:z.C P w 44 "closed_parts" ["bounds", "paper"] (q160 K):=by
 have sc:=q319
 specialize z.d_closed_parts
 obtain⟨b,v,p,low,L,rfl,hb,hL,hp,hf,hlv,q⟩:=h
 exists _,(q16 (q20 (pfn (q358 z) hr (pa3 (pix q26 (pv 0) q14) (pfn (q48 z) hr (pa1 (pix q26 (pv 0) q14))) (pv 1)))))
 exact⟨_,rfl,b,_,_,_,rfl,rfl,hb,rfl,_,rfl,b,_,_,_,rfl,rfl,hb,rfl,L,rfl,hL,_,rfl,L,hL,v,p,low,rfl,hp,hf,hlv,q⟩
noncomputable def badC(num:Int)(c:TS.I3):Bool:=decide (0<c.2.2)&&(decide (c.1<num)&&decide (num<=c.2.1))
noncomputable def sumB(num:Int)(cs:List TS.I3):Int:=(cs.map λc=>if c.2.1<num then c.2.2 else 0).sum
noncomputable def dueF(cs:List TS.I3)(num many:Int):Bool:=!(cs.any (badC num))&&decide (sumB num cs=many)
def q502{num:Int}{cs:List TS.I3}{j:Nat}{c:TS.I3}(h:cs[j]? = some c):sumB num (cs.take (j+1))=sumB num (cs.take j)+if c.2.1<num then c.2.2 else 0:=by
 unfold sumB
 rw[WW,h,WS,sum_append]
 simp
def any_next{num:Int}{cs:List TS.I3}{j:Nat}(h:cs[j]? = some c):(cs.take (j+1)).any (badC num)=((cs.take j).any (badC num)||badC num c):=by
 rw[WW,h,any_append]
 simp
def due_bad{num many:Int}{j:Nat}(h:cs[j]? = some c)(hb:badC num c=true):dueF cs num many=false:=by
 unfold dueF
 rw[List.any_eq_true.mpr ⟨c,WQ h,hb⟩]
 rfl
def q591{num many:Int}{cs:List TS.I3}(h:cs.any (badC num)=false):dueF cs num many=decide (sumB num cs=many):=by
 unfold dueF
 rw[h]
 rfl
theorem q109{α β:Type}{R:α->β->Prop}:∀{l:List α}{m:List β},Paired R l m -> ∀{i:Nat}{x:α},l[i]? = some x -> ∃ y,m[i]? = some y/\R x y
 | _,_,.nil,_,_,h=>by simp at h
 | _,_,.cons r _,0,_,h=>by cases h;exact⟨_,rfl,r⟩
 | _,_,.cons _ t,i+1,_,h=>q109 t (i:=i) (by simpa using h)
noncomputable def hitC(w:Int)(c:TS.I3):Bool:=decide (c.1=w)&&decide (c.2.1=w)
noncomputable def q33(w:Int):List TS.I3->Option Int
 | []=>none
 | c::cs=>if hitC w c=true then some c.2.2 else q33 w cs
def Chain:Int->List TS.I3->Int->Prop
 | lo,[],hi=>lo=hi
 | lo,c::cs,hi=>c.1=lo/\lo<=c.2.1/\Chain (c.2.1+1) cs hi
theorem Chain.app:∀{a b c:Int}{xs ys:List TS.I3},Chain a xs b->Chain b ys c->Chain a (xs++ys) c
 | _,_,_,[],_,h,k=>by cases h;exact k
 | _,_,_,_::_,_,h,k=>⟨h.1,h.2.1,Chain.app h.2.2 k⟩
theorem q42:∀{e:Nat}{low:Int}{p:Pp},fitP e p->Chain low (q21 e low p) (low+2^e)
 | e,low,.all n,_=>by
  rw[q98]
  have:=p2pos e
  exact⟨rfl,by show low<=low+2^e-1;lia,by show low+2^e-1+1=low+2^e;lia⟩
 | 0,_,.split _ _ _,h=>h.elim
 | e+1,low,.split n l r,h=>by
  have h1:=q42 (low:=low) h.1
  have h2:=q42 (low:=low+2^e) h.2
  have h4:(2:Int)^(e+1)=2^e+2^e:=by rw[YK];lia
  rw[h4,<- Int.add_assoc]
  exact h1.app h2
theorem q199{w:Int}:∀{lo hi:Int}{cs:List TS.I3},Chain lo cs hi->w<lo->sumB w cs=0/\sumB (w+1) cs=0/\cs.any (badC w)=false/\cs.any (badC (w+1))=false/\q33 w cs=none
 | _,_,[],_,_=>⟨rfl,rfl,rfl,rfl,rfl⟩
 | lo,_,c::cs,h,hw=>by
  have i:=q199 (w:=w) h.2.2 (by have:=h.2.1;lia)
  have h1:=h.1
  have h2:=h.2.1
  have e1:sumB w (c::cs)=(if c.2.1<w then c.2.2 else 0)+sumB w cs:=rfl
  have e2:sumB (w+1) (c::cs)=(if c.2.1<w+1 then c.2.2 else 0)+sumB (w+1) cs:=rfl
  have e3:(c::cs).any (badC w)=(badC w c||cs.any (badC w)):=rfl
  have e4:(c::cs).any (badC (w+1))=(badC (w+1) c||cs.any (badC (w+1))):=rfl
  have b1:badC w c=false:=by
   show(decide (0<c.2.2)&&(decide (c.1<w)&&decide (w<=c.2.1)))=false
   rw[ZI (show ¬ c.1<w by lia),WP,WL]
  have b2:badC (w+1) c=false:=by
   show(decide (0<c.2.2)&&(decide (c.1<w+1)&&decide (w+1<=c.2.1)))=false
   rw[ZI (show ¬ c.1<w+1 by lia),WP,WL]
  have b3:hitC w c=false:=by
   show(decide (c.1=w)&&decide (c.2.1=w))=false
   rw[ZI (show ¬ c.1=w by lia),WP]
  have e5:q33 w (c::cs)=if hitC w c=true then some c.2.2 else q33 w cs:=rfl
  rw[e1,e2,e3,e4,e5,b1,b2,b3,ZJ (show ¬ c.2.1<w by lia),ZJ (show ¬ c.2.1<w+1 by lia),i.1,i.2.1,i.2.2.1,i.2.2.2.1,i.2.2.2.2]
  exact⟨rfl,rfl,rfl,rfl,ZJ fnt⟩
def chain_ge{w a:Int}:∀{lo hi:Int}{cs:List TS.I3},Chain lo cs hi->q33 w cs=some a->lo<=w:=fun {lo hi cs} h ha=>by
 by_cases c:w<lo
 ·rw[(q199 h c).2.2.2.2]at ha
  cases ha
 ·exact W13 c
def q738{w:Int}{c:TS.I3}(h:hitC w c=true):c.1=w/\c.2.1=w:=by
 have h':(decide (c.1=w)&&decide (c.2.1=w))=true:=h
 rw[WC]at h'
 exact⟨ZF h'.1,ZF h'.2⟩
theorem q141{w a:Int}:∀{lo hi:Int}{cs:List TS.I3},Chain lo cs hi->q33 w cs=some a->cs.any (badC w)=false/\cs.any (badC (w+1))=false/\sumB (w+1) cs=sumB w cs+a
 | _,_,[],_,h=>by cases h
 | lo,_,c::cs,h,ha=>by
  have e1:sumB w (c::cs)=(if c.2.1<w then c.2.2 else 0)+sumB w cs:=rfl
  have e2:sumB (w+1) (c::cs)=(if c.2.1<w+1 then c.2.2 else 0)+sumB (w+1) cs:=rfl
  have e3:(c::cs).any (badC w)=(badC w c||cs.any (badC w)):=rfl
  have e4:(c::cs).any (badC (w+1))=(badC (w+1) c||cs.any (badC (w+1))):=rfl
  have e5:q33 w (c::cs)=if hitC w c=true then some c.2.2 else q33 w cs:=rfl
  rw[e5]at ha
  by_cases hc:hitC w c=true
  ·rw[ZL hc]at ha
   cases ha
   obtain⟨g1,g2⟩:=q738 hc
   have i:=q199 (w:=w) h.2.2 {}
   have b1:badC w c=false:=by
    show(decide (0<c.2.2)&&(decide (c.1<w)&&decide (w<=c.2.1)))=false
    rw[ZI (show ¬ c.1<w by exact W82 g1),WP,WL]
   have b2:badC (w+1) c=false:=by
    show(decide (0<c.2.2)&&(decide (c.1<w+1)&&decide (w+1<=c.2.1)))=false
    rw[ZI (show ¬ w+1<=c.2.1 by lia),WL,WL]
   rw[e1,e2,e3,e4,b1,b2,ZJ (show ¬ c.2.1<w by exact W82 g2),ZL (show c.2.1<w+1 by lia),i.1,i.2.1,i.2.2.1,i.2.2.2.1]
   exact⟨rfl,rfl,{}⟩
  ·rw[ZJ hc]at ha
   have g:=chain_ge h.2.2 ha
   have i:=q141 h.2.2 ha
   have b1:badC w c=false:=by
    show(decide (0<c.2.2)&&(decide (c.1<w)&&decide (w<=c.2.1)))=false
    rw[ZI (show ¬ w<=c.2.1 by lia),WL,WL]
   have b2:badC (w+1) c=false:=by
    show(decide (0<c.2.2)&&(decide (c.1<w+1)&&decide (w+1<=c.2.1)))=false
    rw[ZI (show ¬ w+1<=c.2.1 by lia),WL,WL]
   rw[e1,e2,e3,e4,b1,b2,ZL (show c.2.1<w by lia),ZL (show c.2.1<w+1 by lia),i.1,i.2.1,i.2.2]
   exact⟨rfl,rfl,{}⟩
def q739{α:Type}{cs:List α}{j:Nat}{c:α}(h:cs[j]? = some c):cs.drop j=c::cs.drop (j+1):=by
 obtain⟨hl,e⟩:=eA h
 rw[drop_eq_getElem_cons hl,e]
theorem q503(w:Int):∀ cs:List TS.I3,((cs.filter λc=>decide (c.2.1<w)).map λc=>c.2.2).sum=sumB w cs
 | []=>rfl
 | c::cs=>by
  have e1:sumB w (c::cs)=(if c.2.1<w then c.2.2 else 0)+sumB w cs:=rfl
  rw[e1,<- q503 w cs]
  by_cases h:c.2.1<w
  ·rw[ZL h,YR (by exact ZA h)]
   rfl
  ·rw[ZJ h,YS (by rw[ZI h];exact fnt),Int.zero_add]
noncomputable def optI:Option Int->V
 | none=>.non
 | some a=>.int a
inductive q179(K:Fg)(vs:List V)(H:Hp)(Q:VK)(E:XK):Prop
 |mk(cl:Addr)(zs:List V)(cs:List TS.I3)(w:Int)(_:vs=[.ref cl,.int w])(_:H cl=some (.lst zs))(_:Paired (q70 K H) zs cs)(_:cs.length<=100000)(_:∀ H',Same H H'->Q (optI (q33 w cs)) H')
def q122:z.C P w 1 "many_closed" ["closed", "worth"] (q179 K):=by
 have sc:=q346
 specialize z.d_many_closed
 obtain⟨cl,zs,cs,wo,rfl,hD,hz,hcl,q⟩:=h
 refine⟨_,(q11 (q62 PassesOwn.never rfl (q31 (pv 0)) (q151 rfl (q28 (pgn 2 sc.nd) (q28 (pgn 3 sc.nd) (q28 (pgn 4 sc.nd) q71))))
 (q16 (ps_if (PW.pt (q148 (q18 op_eq (pv 2) (pv 1) (q19 _)) (q117 (q18 op_eq (pv 3) (pv 1) (q19 _)))))
 (q16 (q20 (pv 4)))
 q22)))
 (q16 (q20 q65))),?_⟩
 refine⟨_,rfl,cl,rfl,⟨_,SqL.of hD⟩,q112 (K:=K) (a:=cl) (xs:=zs) (λj σ G=>∃ w2 w3 w4:Option V,σ=[some (.ref cl),some (.int wo),w2,w3,w4]/\Same H G/\q33 wo cs=q33 wo (cs.drop j)) ⟨_,_,_,rfl,Same.refl _,rfl⟩ (λj σ G _ ⟨_,_,_,_,s,_⟩=>SqL.of (s _ _ hD)) ?_ ?_⟩
 ·rintro j z σ G hj ⟨w2,w3,w4,rfl,sG,hal⟩
  obtain⟨c,gc,t,rfl,ht⟩:=q109 hz hj
  rw[q739 gc]at hal
  have hbe:q33 wo (c::cs.drop (j+1))=if(decide (c.1=wo)&&decide (c.2.1=wo))=true then some c.2.2 else q33 wo (cs.drop (j+1)):=rfl
  rw[hbe]at hal
  exists t,_,rfl,sG.seqT ht,rfl,_,_,rfl,_,_,rfl,_,_,rfl,rfl
  exists _,rfl,_,rfl,rfl,_,rfl
  rw[dec_int]
  by_cases c1:c.1=wo
  ·refine ite2 (λ_=>?_) (na c1)
   exists _,rfl,_,rfl,rfl,_,rfl
   rw[dec_int]
   by_cases c2:c.2.1=wo
   ·refine ite2 (λ_=>?_) (na c2)
    rw[ZA c1,ZA c2]at hal
    have z:=q _ sG
    rw[hal]at z
    exact⟨_,rfl,z⟩
   ·refine ite2 (ny c2) (λ_=>?_)
    rw[ZI c2,WL]at hal
    exact⟨some (.int c.1),some (.int c.2.1),some (.int c.2.2),rfl,sG,hal⟩
  ·refine ite2 (ny c1) (λ_=>?_)
   rw[ZI c1,WP]at hal
   exact ite2 nf (λ_=>⟨some (.int c.1),some (.int c.2.1),some (.int c.2.2),rfl,sG,hal⟩)
 ·rintro σ G ⟨w2,w3,w4,rfl,sG,hal⟩
  rw[Paired.length hz,drop_length]at hal
  have z:=q _ sG
  rw[hal]at z
  exact z
inductive q180(K:Fg)(vs:List V)(H:Hp)(Q:VK)(E:XK):Prop
 |mk(b ga:Addr)(v:V)(p:Pp)(low num many:Int)(L:Nat)(xs:List V)(gs:List G3)(_:vs=[.ref b,.ref ga,v,.int num,.int many])(_:SqT K H b [.int low,.int (L:Int)])(_:L<=40)(_:H ga=some (.lst xs))(_:GatAt H L xs gs)(_:(∀ g∈gs,GoodS L g))(_:gs.length<=100)(_:PpAt H v p)(_:q35 L (Wh gs) p)(_:p.leaves<=100000)(_:∀ H',Same H H'->Q (.bl (dueF (q21 L low p) num many)) H')
def q359:z.C P w 46 "shows_below" pn8 (q180 K):=by
 have sc:=q347
 specialize z.d_shows_below
 obtain⟨b,ga,v,p,low,num,many,L,xs,gs,rfl,hb,hL,hga,hg,hgd,hgl,hp,hk,hlv,q⟩:=h
 refine⟨_,(q11 (ps_if (q149 (q99 (pfn (q226 z) hr (pa3 (pix q26 (pv 0) q14) (pv 1) (pv 2)))))
 (q16 (q20 pe_bl))
 q22)
 (q11 (pst 5 sc.nd q14)
 (q11 (q62 PassesOwn.never rfl (q31 (pfn (q54 z) hr (pa2 (pv 0) (pv 2)))) (q151 rfl (q28 (pgn 6 sc.nd) (q28 (pgn 7 sc.nd) (q28 (pgn 8 sc.nd) q71))))
 (q11 (q119 (ps_if (PW.pt (q148 (q18 op_gt (pv 8) q14 (q19 _)) (q117 (pt_chain op_lt op_le (pv 6) (pv 3) (pv 7)))))
 (q16 (q20 pe_bl))
 q22))
 (q16 (ps_if (q18 op_lt (pv 7) (pv 3) (q19 _))
 (q16 (pst 5 sc.nd (pe_op q29 (pv 5) (pv 8))))
 q22))))
 (q16 (q20 (q49 op_eq (pv 5) (pv 4) (q19 _))))))),?_⟩
 refine⟨_,rfl,b,_,_,_,rfl,rfl,hb,rfl,_,rfl,_,rfl,ga,v,p,L,xs,gs,rfl,hL,hga,hg,hgd,hgl,hp,hk,λH1 s1=>⟨_,rfl,?_⟩⟩
 have hf:=q41 hk
 refine iteF ?_
 refine⟨_,rfl,_,rfl,b,v,p,low,L,rfl,s1.seqT hb,hL,hp.tk (.same s1),hf,hlv,λD zs H2 s2 _ hD hz=>?_⟩
 have s12:=s1.trans s2
 generalize q21 L low p=cs at *
 refine⟨D,rfl,⟨_,SqL.of hD⟩,q112 (K:=K) (a:=D) (xs:=zs) (λj σ G=>∃ w6 w7 w8:Option V,σ=[some (.ref b),some (.ref ga),some v,some (.int num),some (.int many),some (.int (sumB num (cs.take j))),w6,w7,w8]/\Same H2 G/\(cs.take j).any (badC num)=false) ⟨_,_,_,rfl,Same.refl _,rfl⟩ (λj σ G _ ⟨_,_,_,_,s,_⟩=>SqL.of (s _ _ hD)) ?_ ?_⟩
 ·rintro j z σ G hj ⟨w6,w7,w8,rfl,sG,hnb⟩
  obtain⟨c,gc,t,rfl,ht⟩:=q109 hz hj
  exists t,_,rfl,sG.seqT ht,rfl,_,_,rfl,_,_,rfl,_,_,rfl,rfl
  have hbe:badC num c=(decide (0<c.2.2)&&(decide (c.1<num)&&decide (num<=c.2.1))):=rfl
  exists λσ G'=>σ=[some (.ref b),some (.ref ga),some v,some (.int num),some (.int many),some (.int (sumB num (cs.take j))),some (.int c.1),some (.int c.2.1),some (.int c.2.2)]/\G'=G/\badC num c=false,?_
  ·exists _,rfl,_,_,rfl,rfl,_,rfl
   by_cases c1:0<c.2.2
   ·refine ite2 (λ_=>?_) (na c1)
    exists _,rfl,_,rfl,_,_,rfl,rfl,_,rfl
    by_cases c2:c.1<num
    ·refine ite2 (λ_=>?_) (na c2)
     exists _,rfl,_,_,rfl,rfl,_,rfl
     by_cases c3:num<=c.2.1
     ·refine ite2 (λ_=>?_) (na c3)
      have z:=q _ (s12.trans sG)
      rw[due_bad gc (by rw[hbe,ZA c1,ZA c2,ZA c3];rfl)]at z
      exact z
     ·refine ite2 (ny c3) (λ_=>⟨rfl,rfl,by rw[hbe,ZI c3,WL,WL]⟩)
    ·refine ite2 (ny c2) (λ_=>?_)
     exact⟨_,rfl,ite2 nf (λ_=>⟨rfl,rfl,by rw[hbe,ZI c2,WP,WL]⟩)⟩
   ·refine ite2 (ny c1) (λ_=>?_)
    exact ite2 nf (λ_=>⟨rfl,rfl,by rw[hbe,ZI c1,WP]⟩)
  ·rintro σ G' ⟨rfl,rfl,hbc⟩
   have hnb':(cs.take (j+1)).any (badC num)=false:=by rw[any_next gc,hnb,hbc];rfl
   refine⟨_,rfl,_,rfl,_,_,rfl,rfl,_,rfl,ite2 (λc4=>?_) (λc4=>?_)⟩
   ·have c4':=ZF c4
    refine⟨_,rfl,_,rfl,_,_,rfl,rfl,some (.int c.1),some (.int c.2.1),some (.int c.2.2),?_,sG,hnb'⟩
    rw[q502 gc,ZL c4']
    rfl
   ·have c4':¬ c.2.1<num:=λz=>c4 (ZA z)
    refine⟨some (.int c.1),some (.int c.2.1),some (.int c.2.2),?_,sG,hnb'⟩
    rw[q502 gc,ZJ c4',Int.add_zero]
 ·rintro σ G ⟨w6,w7,w8,rfl,sG,hnb⟩
  rw[Paired.length hz,YF]at hnb ⊢
  exists _,rfl,_,rfl,rfl
  rw[dec_int,<- q591 hnb]
  exact q _ (s12.trans sG)
noncomputable def q227(k w:Int)(cs:List TS.I3):Bool:=match q33 w cs with
 | none=>false
 | some a=>decide (sumB w cs<=k)&&decide (k<sumB w cs+a)
inductive q181(K:Fg)(vs:List V)(H:Hp)(Q:VK)(E:XK):Prop
 |mk(b ga:Addr)(v:V)(p:Pp)(low k w:Int)(L:Nat)(xs:List V)(gs:List G3)(_:vs=[.ref b,.ref ga,v,.int k,.int w])(_:SqT K H b [.int low,.int (L:Int)])(_:L<=40)(_:H ga=some (.lst xs))(_:GatAt H L xs gs)(_:(∀ g∈gs,GoodS L g))(_:gs.length<=100)(_:PpAt H v p)(_:q35 L (Wh gs) p)(_:p.leaves<=100000)(_:∀ H',Same H H'->Q (.bl (q227 k w (q21 L low p))) H')
def q360:z.C P w 46 "shows_least" pn13 (q181 K):=by
 have sc:=q348
 specialize z.d_shows_least
 obtain⟨b,ga,v,p,low,k,wo,L,xs,gs,rfl,hb,hL,hga,hg,hgd,hgl,hp,hk,hlv,q⟩:=h
 refine⟨_,(q11 (ps_if (q149 (q99 (pfn (q226 z) hr (pa3 (pix q26 (pv 0) q14) (pv 1) (pv 2)))))
 (q16 (q20 pe_bl))
 q22)
 (q11 (pst 5 sc.nd (pfn (q54 z) hr (pa2 (pv 0) (pv 2))))
 (q11 (pst 6 sc.nd (pfn (q122 z) hr (pa2 (pv 5) (pv 4))))
 (q11 (pst 7 sc.nd (q44 (q449 rfl) () z.sum_ bt_sum (pa1 (q403 (x := "least") (cl:=[("worth", s.heap.objs.size+1+0)]) (cn:=["worth"]) (TN:=["greatest", "things"]) (N:=["worth"]) (fr:=[4]) (sc0:=q17 q135) rfl (q31 (pv 5)) (λC s₂ H₂ fp=>(pv 2)) (λC s₂ H₂ fp=>q668 (q18 op_lt (pv 1) (pv 3) (q19 _))) (λC s₂ H₂ fp=>(q519 (K:=K) (n:=3) rfl rfl (q28 (q100 (i:=0) (show(["least", "greatest", "things", "worth"]:List Str).Nodup by decide +kernel) rfl (Or.inl rfl)) (q28 (q100 (i:=1) (show(["least", "greatest", "things", "worth"]:List Str).Nodup by decide +kernel) rfl (Or.inl rfl)) (q28 (q100 (i:=2) (show(["least", "greatest", "things", "worth"]:List Str).Nodup by decide +kernel) rfl (Or.inl rfl)) q71))))) (by ac_rfl) ⟨by ac_rfl,trivial⟩ rfl rfl rfl ⟨by decide +kernel,by decide +kernel,by decide +kernel,by decide +kernel⟩ rfl))))
 (q16 (q20 (q150 (q49 q514 (pv 6) q65 (q19 _)) (q250 (q281 op_le op_lt (pv 7) (pv 3) (pe_op q29 (pv 7) (pv 6))))))))))),?_⟩
 refine⟨_,rfl,b,_,_,_,rfl,rfl,hb,rfl,_,rfl,_,rfl,ga,v,p,L,xs,gs,rfl,hL,hga,hg,hgd,hgl,hp,hk,λH1 s1=>⟨_,rfl,?_⟩⟩
 have hf:=q41 hk
 refine iteF ?_
 refine⟨_,rfl,_,rfl,b,v,p,low,L,rfl,s1.seqT hb,hL,hp.tk (.same s1),hf,hlv,λD zs H2 s2 _ hD hz=>?_⟩
 have s12:=s1.trans s2
 have hcl9:=ZQ (q53 L low p) hlv
 generalize q21 L low p=cs at *
 have hzl:zs.length=cs.length:=Paired.length hz
 refine⟨_,rfl,_,rfl,D,zs,cs,wo,rfl,hD,hz,hcl9,λH3 s3=>?_⟩
 have hD3:=s3 _ _ hD
 refine⟨_,rfl,D,rfl,⟨_,SqL.of hD3⟩,λl4 hl4=>?_⟩
 refine q234 (xs:=zs) (szB {}) (λj ys H4=>H4=upd H3 l4 (.lst ys)/\ys.length<=j/\ys=(((cs.take j).filter λc=>decide (c.2.1<wo)).map λc=>c.2.2).map V.int) ⟨rfl,ZH _,rfl⟩ (λj ys H4 ⟨e,_⟩=>by rw[e];exact SqL.of (q15 hl4 _ _ _ hD3)) (λj ys H4 ⟨e,h2,_⟩=>⟨by rw[e];exact q12,h2⟩) ?_ ?_
 ·rintro j z ys H4 hzj ⟨rfl,e2,e3⟩
  obtain⟨c,gc,ta,rfl,hta⟩:=q109 hz hzj
  intro vs3 hvs3
  match vs3,hvs3 with
  | [x0,x1,x2],_=>
   exists ta,_,rfl,(s3.trans (q15 hl4 _)).seqT hta,rfl,_,_,rfl,_,_,rfl,_,_,rfl,rfl,⟨[_,_,_],rfl,rfl⟩
   refine⟨_,rfl,_,rfl,_,_,rfl,rfl,_,rfl,ite2 (λc4=>?_) (λc4=>?_)⟩
   ·exists _,rfl,q12,by rw[q85],by rw[ZU];exact Nat.succ_le_succ e2
    rw[WW,gc,filter_append,WS,WS,<- e3]
    show _=ys++List.map V.int (List.map (λc=>c.2.2) (List.filter (λc=>decide (c.2.1<wo)) [c]))
    rw[YR (by exact c4)]
    rfl
   ·exists rfl,Nat.le_succ_of_le e2
    rw[WW,gc,filter_append,WS,WS,<- e3]
    show _=ys++List.map V.int (List.map (λc=>c.2.2) (List.filter (λc=>decide (c.2.1<wo)) [c]))
    rw[YS (by exact c4)]
    exact(append_nil _).symm
 ·rintro ys H4 ⟨rfl,e2,rfl⟩
  rw[hzl,YF]
  have s4:=q15 hl4 (.lst (((cs.filter λc=>decide (c.2.1<wo)).map λc=>c.2.2).map V.int))
  have e4:=@q12 H3 l4 (.lst (((cs.filter λc=>decide (c.2.1<wo)).map λc=>c.2.2).map V.int))
  exists l4,_,rfl,SqL.of e4
  rw[q503]
  generalize upd H3 l4 (.lst (((cs.filter λc=>decide (c.2.1<wo)).map λc=>c.2.2).map V.int))=H4 at *
  have fin:=q H4 (s12.trans (s3.trans s4))
  unfold q227 at fin
  cases ha:q33 wo cs with
  | none=>
   rw[ha]at fin
   exists _,rfl,rfl,_,rfl
   exact iteF fin
  | some al=>
   rw[ha]at fin
   replace fin:Q (.bl (decide (sumB wo cs<=k)&&decide (k<sumB wo cs+al))) H4:=fin
   refine⟨_,rfl,rfl,_,rfl,iteT ?_⟩
   exists _,rfl,_,rfl,_,_,rfl,rfl,_,rfl
   by_cases c3:sumB wo cs<=k
   ·refine ite2 (λ_=>?_) (na c3)
    rw[ZA c3,Bool.true_and]at fin
    exact⟨_,rfl,_,rfl,_,_,rfl,rfl,_,_,rfl,rfl,fin⟩
   ·refine ite2 (ny c3) (λ_=>?_)
    rw[ZI c3,WP]at fin
    exact fin
noncomputable def Pp.m:Pp->Int
 | .all n=>n
 | .split n _ _=>n
def q427{e:Nat}{us:List Int}{p:Pp}(h:q35 e us p):p.m=(us.length:Int):=by
 cases p with
 | all n=>cases e <;> exact h
 | split n l r=>
  cases e with
  | zero=>exact h.elim
  | succ e=>exact h.1
def PpAt.t1{p:Pp}(h:PpAt H v p):∃ a vs,v = .ref a/\SqT K H a vs/\atI vs 1=some (.int p.m):=by
 cases p with
 | all n=>obtain⟨a,e,h⟩:=h;exact⟨a,_,e,SqT.of h,rfl⟩
 | split n l r=>obtain⟨a,x,y,e,h,_,_⟩:=h;exact⟨a,_,e,SqT.of h,rfl⟩
theorem q740{w:Int}:∀(ns a:List Int),w∈ns.foldl TS.stD a↔w∈a\/w∈ns
 | [],a=>by simp
 | n::ns,a=>by
  rw[foldl_cons,q740 ns]
  have e:w∈TS.stD a n↔w∈a\/w=n:=by
   unfold TS.stD
   split
   ·rename_i h
    obtain⟨x,hx,e⟩:=List.any_eq_true.mp h
    cases beq_iff_eq.mp e
    exact⟨.inl,λz=>z.elim id λz=>by rw[z];exact hx⟩
   ·rw[mem_append,mem_singleton]
  rw[e,mem_cons,or_assoc]
theorem q741:∀(l a:List Int),(l.foldl TS.stD a).length<=a.length+l.length
 | [],a=>ZH _
 | x::l,a=>by
  have z:(TS.stD a x).length<=a.length+1:=by unfold TS.stD;split <;> simp
  have:=q741 l (TS.stD a x)
  rw[foldl_cons,WT]
  exact W50 this z
noncomputable def withM(ws ms:List Int):List P2:=ms.map λw=>(w,((ws.count w:Nat):Int))
def PrR(H:Hp)(v:V)(p:P2):Prop:=∃ a,v = .ref a/\H a=some (.tup [.int p.1,.int p.2])
def PrR.tk(k:TKeep H H')(h:PrR H v p):PrR H' v p:=by
 obtain⟨a,e,h⟩:=h
 exact⟨a,e,(k _ _).1 h⟩
inductive q182(K:Fg)(vs:List V)(H:Hp)(Q:VK)(E:XK):Prop
 |mk(wl:Addr)(ws:List Int)(_:vs=[.ref wl])(_:H wl=some (.lst (ws.map V.int)))(_:ws.length<=1000)(_:∀(D:Addr)(zs:List V)(ms:List Int)(H':Hp),Same H H'->H D=none->H' D=some (.lst zs)->(∀ x,x∈ms↔x∈ws)->ms.Pairwise (·<·)->Paired (PrR H') zs (withM ws ms)->ms.length<=1000->Q (.ref D) H')
def q361:z.C P w 1 "_law_counts" ["_law_worths"] (q182 K):=by
 have sc:=q351
 specialize z.d__law_counts
 obtain⟨wl,ws,rfl,hwl,hl,q⟩:=h
 exists _,(q16 (q20 (q133 (cl:=[("_law_worths", s.heap.objs.size+1+0)]) (cn:=["_law_worths"]) (N:=["_law_worths"]) (fr:=[0]) (sc0:=q17 q137) rfl (q31 (q44 (q456 rfl (P:=P) (w:=w) rfl rfl) () z.sorted_ q299 (pa1 (q102 (q695 rfl (K:=K) (P:=P) (w:=w) rfl rfl rfl) () z.set_ bt_set (pa1 (pv 0)))))) (λC s₂ H₂ fp=>(q30 (pa2 (pv 0) (pe_bmK (K:=K) rfl YD PySem.F.slot_list_count PySem.F.type_list_count (q698 (K:=K) rfl) (pv 1) (pa1 (pv 0)))))) (by ac_rfl) ⟨by ac_rfl,trivial⟩ rfl rfl rfl cok rfl)))
 refine⟨_,rfl,wl,ws,rfl,SqL.of hwl,hl,λr hr0=>?_⟩
 refine⟨r,_,rfl,q12,λl ms hl0 hp hs=>?_⟩
 have s2:=q15 hr0 (.ext λh=>TS.SetI P w h r (ws.foldl TS.stD []))
 have s3:=q15 hl0 (.lst (ms.map V.int))
 have hmm:∀ x,x∈ms↔x∈ws:=λx=>by
  rw[hp.mem_iff,q740]
  simp
 have hml:ms.length<=1000:=by
  have h1:=hp.length_eq
  have h2:=q741 ws []
  rw[length_nil]at h2
  lia
 have hfl:upd (upd H r (.ext λh=>TS.SetI P w h r (ws.foldl TS.stD []))) l (.lst (ms.map V.int)) l=some (.lst (ms.map V.int)):=q12
 have s03:=s2.trans s3
 generalize upd (upd H r (.ext λh=>TS.SetI P w h r (ws.foldl TS.stD []))) l (.lst (ms.map V.int))=H3 at *
 have hmv:(ms.map V.int).length=ms.length:=ZN _
 refine⟨l,rfl,⟨_,SqL.of hfl⟩,λD hD=>?_⟩
 refine q64 (xs:=ms.map V.int) (sz {}) (λj ys G=>G D=some (.lst ys)/\Same H3 G/\ys.length=j/\Paired (PrR G) ys (withM ws (ms.take j))) ⟨q12,q15 hD _,rfl,.nil⟩ (λj ys G ⟨_,s,_⟩=>SqL.of (s _ _ hfl)) (λj ys G ⟨a1,_,a3,_⟩=>⟨a1,a3⟩) ?_ ?_
 ·rintro j x ys G hj ⟨a1,sG,a3,a4⟩
  obtain⟨y,hy,rfl⟩:∃ y,ms[j]? = some y/\x = .int y:=by
   rw[WM]at hj
   cases e:ms[j]? with
   | none=>rw[e]at hj;cases hj
   | some y=>rw[e]at hj;exact⟨y,rfl,(Option.some.inj hj).symm⟩
  have hwlG:=(s03.trans sG) _ _ hwl
  refine⟨_,rfl,_,rfl,.inl ⟨rfl,_,SqL.of hwlG⟩,_,rfl,wl,ws,y,rfl,rfl,SqL.of hwlG,szb rfl,λp hp'=>?_⟩
  have t:=q15 hp' (.tup [V.int y,.int ((ws.count y:Nat):Int)])
  have a1':=t _ _ a1
  have tk:TKeep (upd G p (.tup [V.int y,.int ((ws.count y:Nat):Int)])) (upd (upd G p (.tup [V.int y,.int ((ws.count y:Nat):Int)])) D (.lst (ys++[.ref p]))):=TKeep.set a1'
  exists a1',q12,Same.own (sG.trans t) hD,by rw[ZU,a3];rfl
  rw[WW,hy]
  unfold withM
  rw[WS]
  refine q61 (L2.Paired.mapP a4 λ_ _ z=>(z.tk (.same t)).tk tk) (.cons ⟨p,rfl,(tk _ _).1 q12⟩ .nil)
 ·rintro ys G ⟨a1,sG,a3,a4⟩
  rw[hmv,YF]at a4
  have hD0:H D=none:=by
   cases z:H D with
   | none=>rfl
   | some o=>rw[s03 _ _ z]at hD;cases hD
  exact q D ys ms G (s03.trans sG) hD0 a1 hmm hs a4 hml
noncomputable def cntI(ns:List Int)(a b:Int):Nat:=ns.countP λn=>decide (a<=n)&&decide (n<=b)
def q392{a b:Int}{ns:List Int}(h:∀ n∈ns,a<=n->n<=b->q n=true):cntI (ns.filter q) a b=cntI ns a b:=by
 unfold cntI
 rw[countP_filter]
 refine countP_congr λn hn=>?_
 constructor
 ·intro z
  rw[WC]at z
  exact z.1
 ·intro z
  rw[WC]
  exists z
  rw[WC]at z
  exact h n hn (ZF z.1) (ZF z.2)
theorem q57:∀{e:Nat}{low:Int}{ns:List Int}{p:Pp},Wths low e ns->q35 e (offs low ns) p -> ∀ c∈q21 e low p,c.2.2=(cntI ns c.1 c.2.1:Int)/\low<=c.1/\c.2.1<low+2^e
 | e,low,ns,.all n,hw,hd,c,hc=>by
  have hn:n=(ns.length:Int):=by
   have:=q427 hd
   rw[ZN]at this
   exact this
  rw[q98]at hc
  rw[eD hc]
  refine⟨?_,Int.le_refl _,by show low+2^e-1<low+2^e;lia⟩
  show n=(cntI ns low (low+2^e-1):Int)
  unfold cntI
  rw[List.countP_eq_length.mpr λx hx=>by
   have:=hw x hx
   rw[ZA (show low<=x by lia),ZA (show x<=low+2^e-1 by lia)]
   rfl]
  exact hn
 | 0,_,_,.split _ _ _,_,hd,_,_=>hd.elim
 | e+1,low,ns,.split n l r,hw,hd,c,hc=>by
  have h4:(2:Int)^(e+1)=2^e+2^e:=by rw[YK];lia
  have hp:=p2pos e
  have h1:=hd.2.1
  have h2:=hd.2.2
  rw[q540 hw]at h1
  rw[q541 hw]at h2
  have hc':c∈q21 e low l++q21 e (low+2^e) r:=hc
  rcases eC hc' with hc' | hc'
  ·obtain⟨i1,i2,i3⟩:=q57 hw.loH h1 c hc'
   refine⟨?_,i2,{}⟩
   rw[i1,q392 λn _ _ z=>ZA {}]
  ·obtain⟨i1,i2,i3⟩:=q57 hw.hiH h2 c hc'
   refine⟨?_,{},{}⟩
   rw[i1,q392 λn _ z _=>ZA {}]
theorem q110{n:Int}:∀{lo hi:Int}{cs:List TS.I3},Chain lo cs hi->lo<=n->n<hi -> ∃ c∈cs,c.1<=n/\n<=c.2.1
 | lo,hi,[],h,h1,h2=>by
  have:lo=hi:=h
  lia
 | lo,hi,c::cs,h,h1,h2=>by
  have e1:=h.1
  by_cases k:n<=c.2.1
  ·exact⟨c,WD,{},k⟩
  ·obtain⟨c',hc',z⟩:=q110 h.2.2 {} h2
   exact⟨c',ZY _ hc',z⟩
def q592{ns:List Int}{a b x:Int}(h1:a<=x)(h2:x<=b):ns.count x<=cntI ns a b:=by
 rw[count_eq_countP]
 refine countP_mono_left λn _ z=>?_
 have:n=x:=by simpa using z
 rw[this,ZA h1,ZA h2]
 rfl
def q200{ns:List Int}{x:Int}:cntI ns x x=ns.count x:=by
 unfold cntI
 rw[count_eq_countP]
 refine countP_congr λn _=>?_
 rw[WC,decide_eq_true_iff,decide_eq_true_iff,beq_iff_eq]
 exact W49
theorem q128{w a:Int}:∀{cs:List TS.I3},q33 w cs=some a -> ∃ c∈cs,c.1=w/\c.2.1=w/\c.2.2=a
 | [],h=>by cases h
 | c::cs,h=>by
  have e5:q33 w (c::cs)=if hitC w c=true then some c.2.2 else q33 w cs:=rfl
  rw[e5]at h
  by_cases hc:hitC w c=true
  ·rw[ZL hc]at h
   cases h
   exact⟨c,WD,(q738 hc).1,(q738 hc).2,rfl⟩
  ·rw[ZJ hc]at h
   obtain⟨c',hc',z⟩:=q128 h
   exact⟨c',ZY _ hc',z⟩
def OptR(H:Hp)(v:V):Option P2->Prop
 | none=>v = .non
 | some p=>PrR H v p
theorem OptR.tk{H H':Hp}(k:TKeep H H'){v:V}:∀{o:Option P2},OptR H v o->OptR H' v o
 | none,h=>h
 | some _,h=>PrR.tk k h
noncomputable def overC(w m:Int)(c:TS.I3):Bool:=decide (m<c.2.2)||(decide (c.2.2=m)&&decide (c.2.1<w))
noncomputable def mostF(w m:Int)(cs:List TS.I3):Bool:=decide (0<m)&&(decide (q33 w cs=some m)&&!(cs.any (overC w m)))
inductive q228(K:Fg)(vs:List V)(H:Hp)(Q:VK)(E:XK):Prop
 |mk(b ga:Addr)(v:V)(p:Pp)(low w m:Int)(L:Nat)(xs:List V)(gs:List G3)(_:vs=[.ref b,.ref ga,v,.int w,.int m])(_:SqT K H b [.int low,.int (L:Int)])(_:L<=40)(_:H ga=some (.lst xs))(_:GatAt H L xs gs)(_:(∀ g∈gs,GoodS L g))(_:gs.length<=100)(_:PpAt H v p)(_:q35 L (Wh gs) p)(_:p.leaves<=100000)(_:∀ H',Same H H'->Q (.bl (mostF w m (q21 L low p))) H')
def q428:z.C P w 46 "shows_most" pn10 (q228 K):=by
 have sc:=q417
 specialize z.d_shows_most
 obtain⟨b,ga,v,p,low,wo,m,L,xs,gs,rfl,hb,hL,hga,hg,hgd,hgl,hp,hk,hlv,q⟩:=h
 refine⟨_,(q11 (ps_if (PW.pt (pw_or (q18 op_le (pv 4) q14 (q19 _)) (q111 (q149 (q99 (pfn (q226 z) hr (pa3 (pix q26 (pv 0) q14) (pv 1) (pv 2))))))))
 (q16 (q20 pe_bl))
 q22)
 (q11 (pst 5 sc.nd (pfn (q54 z) hr (pa2 (pv 0) (pv 2))))
 (q11 (ps_if (q18 op_ne (pfn (q122 z) hr (pa2 (pv 5) (pv 3))) (pv 4) (q19 _))
 (q16 (q20 pe_bl))
 q22)
 (q11 (q62 PassesOwn.never rfl (q31 (pv 5)) (q151 rfl (q28 (pgn 6 sc.nd) (q28 (pgn 7 sc.nd) (q28 (pgn 8 sc.nd) q71))))
 (q16 (ps_if (PW.pt (pw_or (q18 op_gt (pv 8) (pv 4) (q19 _)) (q111 (PW.pt (q148 (q18 op_eq (pv 8) (pv 4) (q19 _)) (q117 (q18 op_lt (pv 7) (pv 3) (q19 _))))))))
 (q16 (q20 pe_bl))
 q22)))
 (q16 (q20 pe_bl)))))),?_⟩
 exists _,rfl,_,_,rfl,rfl,_,rfl
 by_cases c:m<=0
 ·refine ite2 (λ_=>?_) (na c)
  refine ite2 (λ_=>?_) nr
  have z:=q H (Same.refl _)
  unfold mostF at z
  rw[ZI (show ¬ 0<m by lia),WP]at z
  exact z
 refine ite2 (ny c) (λ_=>?_)
 refine⟨_,rfl,b,_,_,_,rfl,rfl,hb,rfl,_,rfl,_,rfl,ga,v,p,L,xs,gs,rfl,hL,hga,hg,hgd,hgl,hp,hk,λH1 s1=>⟨_,rfl,?_⟩⟩
 have hf:=q41 hk
 refine iteF ?_
 refine⟨_,rfl,_,rfl,b,v,p,low,L,rfl,s1.seqT hb,hL,hp.tk (.same s1),hf,hlv,λD zs H2 s2 _ hD hz=>?_⟩
 have s12:=s1.trans s2
 have hcl9:=ZQ (q53 L low p) hlv
 generalize q21 L low p=cs at *
 have em:mostF wo m cs=(decide (q33 wo cs=some m)&&!(cs.any (overC wo m))):=by
  unfold mostF
  rw[ZA (show 0<m by lia),Bool.true_and]
 refine⟨_,rfl,_,rfl,D,zs,cs,wo,rfl,hD,hz,hcl9,λH3 s3=>?_⟩
 have hD3:=s3 _ _ hD
 have s13:=s12.trans s3
 exists _,rfl
 by_cases ha:q33 wo cs=some m
 ·rw[ha,ZA rfl,Bool.true_and]at em
  rw[ha]
  exists rfl,_,rfl
  refine ite2 (λz=>absurd z (by rw[show optI (some m)=V.int m from rfl,ZA (show V.int m=V.int m from rfl)];exact fnt)) (λ_=>?_)
  refine⟨_,rfl,D,rfl,⟨_,SqL.of hD3⟩,q112 (K:=K) (a:=D) (xs:=zs) (λj σ G=>∃ w6 w7 w8:Option V,σ=[some (.ref b),some (.ref ga),some v,some (.int wo),some (.int m),some (.ref D),w6,w7,w8]/\Same H3 G/\(cs.take j).any (overC wo m)=false) ⟨_,_,_,rfl,Same.refl _,rfl⟩ (λj σ G _ ⟨_,_,_,_,s,_⟩=>SqL.of (s _ _ hD3)) ?_ ?_⟩
  ·rintro j z σ G hj ⟨w6,w7,w8,rfl,sG,hnb⟩
   obtain⟨c',gc,t,rfl,ht⟩:=q109 hz hj
   exists t,_,rfl,(s3.trans sG).seqT ht,rfl,_,_,rfl,_,_,rfl,_,_,rfl,rfl
   have hbe:overC wo m c'=(decide (m<c'.2.2)||(decide (c'.2.2=m)&&decide (c'.2.1<wo))):=rfl
   have out:overC wo m c'=true->Q (.bl false) G:=λe=>by
    have z:=q G (s13.trans sG)
    rw[em,List.any_eq_true.mpr ⟨c',WQ gc,e⟩]at z
    exact z
   have go:overC wo m c'=false -> ∃ w6 w7 w8:Option V,[some (V.ref b),some (.ref ga),some v,some (.int wo),some (.int m),some (.ref D),some (.int c'.1),some (.int c'.2.1),some (.int c'.2.2)]=[some (V.ref b),some (.ref ga),some v,some (.int wo),some (.int m),some (.ref D),w6,w7,w8]/\Same H3 G/\(cs.take (j+1)).any (overC wo m)=false:=λe=>⟨_,_,_,rfl,sG,by
    rw[WW,gc,any_append,hnb]
    show(false||(overC wo m c'||false))=false
    rw[e]
    rfl⟩
   exists _,rfl,_,rfl,_,_,rfl,rfl,_,rfl
   by_cases c1:m<c'.2.2
   ·refine ite2 (λ_=>?_) (na c1)
    refine ite2 (λ_=>?_) nr
    exact out (by rw[hbe,ZA c1,Bool.true_or])
   ·refine ite2 (ny c1) (λ_=>?_)
    exists _,rfl,_,rfl,rfl,_,rfl
    rw[dec_int]
    by_cases c2:c'.2.2=m
    ·refine ite2 (λ_=>?_) (na c2)
     exists _,rfl,_,rfl,_,_,rfl,rfl,_,rfl
     by_cases c3:c'.2.1<wo
     ·refine ite2 (λ_=>?_) (na c3)
      exact out (by rw[hbe,ZA c2,ZA c3,Bool.and_self,Bool.or_true])
     ·refine ite2 (ny c3) (λ_=>?_)
      exact go (by rw[hbe,ZI c1,ZI c3,WL,Bool.or_false])
    ·refine ite2 (ny c2) (λ_=>?_)
     refine ite2 nf (λ_=>?_)
     exact go (by rw[hbe,ZI c1,ZI c2,WP,Bool.or_false])
  ·rintro σ G ⟨w6,w7,w8,rfl,sG,hnb⟩
   rw[Paired.length hz,YF]at hnb
   have z:=q G (s13.trans sG)
   rw[em,hnb]at z
   exact z
 ·rw[ZI ha,WP]at em
  have fin:=q H3 s13
  rw[em]at fin
  cases hal:q33 wo cs with
  | none=>
   exists rfl,_,rfl
   exact ite2 (λ_=>fin) nr
  | some a=>
   exists rfl,_,rfl
   have hne:¬ V.int a=V.int m:=λz=>ha (by rw[hal,V.int.inj z])
   exact ite2 (λ_=>fin) (λz=>absurd (by rw[show optI (some a)=V.int a from rfl,ZI hne];rfl) z)
noncomputable def oftF(part tot:Int):List TS.I3->Option (List P2)
 | []=>some []
 | c::cs=>if tot<c.2.2*part then(if c.1<c.2.1 then none else(oftF part tot cs).map λl=>(c.1,c.2.2)::l)else oftF part tot cs
noncomputable def ansF(o:Option (List P2))(told:List P2):Bool:=match o with
 | none=>false
 | some ps=>decide (ps=told)
def q289(h:Paired (PrR H) xs ps):q192 H xs ps:=by
 refine⟨Paired.length h,λj x q hx hq=>?_⟩
 obtain⟨y,e,r⟩:=q109 h hx
 rw[hq]at e
 cases e
 exact r
theorem q742:∀{a b:List P2},a.Pairwise (λp q=>p.1<q.1)->b.Pairwise (λp q=>p.1<q.1)->(∀ p,p∈a↔p∈b)->a=b
 | [],[],_,_,_=>rfl
 | [],y::b,_,_,h=>absurd ((h y).mpr WD) (by simp)
 | x::a,[],_,_,h=>absurd ((h x).mp WD) (by simp)
 | x::a,y::b,ha,hb,h=>by
  have ha':=List.pairwise_cons.mp ha
  have hb':=List.pairwise_cons.mp hb
  have e:x=y:=by
   rcases eB ((h x).mp WD)with z | z
   ·exact z
   ·rcases eB ((h y).mpr WD)with z2 | z2
    ·exact z2.symm
    ·have h1:=hb'.1 x z
     have h2:=ha'.1 y z2
     lia
  subst e
  congr 1
  refine q742 ha'.2 hb'.2 λp=>?_
  constructor
  ·intro hp
   rcases eB ((h p).mp (ZY _ hp))with z | z
   ·have:=ha'.1 p hp
    rw[z]at this
    lia
   ·exact z
  ·intro hp
   rcases eB ((h p).mpr (ZY _ hp))with z | z
   ·have:=hb'.1 p hp
    rw[z]at this
    lia
   ·exact z
inductive q183(K:Fg)(vs:List V)(H:Hp)(Q:VK)(E:XK):Prop
 |mk(b ga tl:Addr)(v:V)(p:Pp)(low part:Int)(ts:List V)(told:List P2)(L:Nat)(xs:List V)(gs:List G3)(_:vs=[.ref b,.ref ga,v,.int part,.ref tl])(_:H tl=some (.lst ts))(_:Paired (PrR H) ts told)(_:SqT K H b [.int low,.int (L:Int)])(_:L<=40)(_:H ga=some (.lst xs))(_:GatAt H L xs gs)(_:(∀ g∈gs,GoodS L g))(_:gs.length<=100)(_:PpAt H v p)(_:q35 L (Wh gs) p)(_:p.leaves<=90000)(_:(∀ c∈q21 L low p,0<=c.2.2/\c.2.2<=1000))(_:∀ H',Same H H'->Q (.bl (ansF (oftF part p.m (q21 L low p)) told)) H')
def q362:z.C P w 46 "shows_often" pn11 (q183 K):=by
 have sc:=q349
 specialize z.d_shows_often
 obtain⟨b,ga,tl,v,p,low,part,ts,told,L,xs,gs,rfl,htl,hts,hb,hL,hga,hg,hgd,hgl,hp,hk,hlv,hcs,q⟩:=h
 refine⟨_,(q11 (ps_if (q149 (q99 (pfn (q226 z) hr (pa3 (pix q26 (pv 0) q14) (pv 1) (pv 2)))))
 (q16 (q20 pe_bl))
 q22)
 (q11 (pst 5 sc.nd (q38 q13))
 (q11 (q62 PassesOwn.never rfl (q31 (pfn (q54 z) hr (pa2 (pv 0) (pv 2)))) (q151 rfl (q28 (pgn 6 sc.nd) (q28 (pgn 7 sc.nd) (q28 (pgn 8 sc.nd) q71))))
 (q16 (ps_if (q18 op_gt (pe_op q113 (pv 8) (pv 3)) (pix q26 (pv 2) q14) (q19 _))
 (q11 (ps_if (q18 op_lt (pv 6) (pv 7) (q19 _))
 (q16 (q20 pe_bl))
 q22)
 (q16 (q129 (pe_bm YD YH YI q59 (pv 5) (pa1 (q30 (pa2 (pv 6) (pv 8))))))))
 q22)))
 (q16 (q20 (q49 (op_eqPs hr.units) (pv 5) (pv 4) (q19 _))))))),?_⟩
 refine⟨_,rfl,b,_,_,_,rfl,rfl,hb,rfl,_,rfl,_,rfl,ga,v,p,L,xs,gs,rfl,hL,hga,hg,hgd,hgl,hp,hk,λH1 s1=>⟨_,rfl,?_⟩⟩
 have hf:=q41 hk
 refine iteF ?_
 refine⟨szb rfl,λD0 hD0=>?_⟩
 have s2:=q15 hD0 (.lst [])
 have e2:=@q12 H1 D0 (.lst [])
 generalize upd H1 D0 (.lst [])=H2 at *
 have s02:=s1.trans s2
 refine⟨_,rfl,_,rfl,b,v,p,low,L,rfl,s02.seqT hb,hL,hp.tk (.same s02),hf,{},λD zs H3 s3 hDn hD hz=>?_⟩
 have e3:=s3 _ _ e2
 have hDD:D≠D0:=λz=>by rw[z,e2]at hDn;cases hDn
 have back:∀ G,Keep D0 H3 G->Same H G:=λG k c o h=>k c o (λz=>by have h1:=s1 _ _ h;rw[z,hD0]at h1;cases h1) (s3 _ _ (s02 _ _ h))
 have hcn:=ZQ (q53 L low p) hlv
 generalize q21 L low p=cs at *
 refine⟨D,rfl,⟨_,SqL.of hD⟩,q112 (K:=K) (a:=D) (xs:=zs) (λj σ G=>∃(acc:List P2)(fs:List V)(w5 w6 w7:Option V),σ=[some (.ref b),some (.ref ga),some v,some (.int part),some (.ref tl),some (.ref D0),w5,w6,w7]/\Keep D0 H3 G/\G D0=some (.lst fs)/\Paired (PrR G) fs acc/\fs.length<=j/\oftF part p.m cs=(oftF part p.m (cs.drop j)).map λl=>acc++l) ⟨[],[],_,_,_,rfl,Keep.refl _ _,e3,.nil,ZH _,by show oftF part p.m cs=(oftF part p.m cs).map λl=>l;cases oftF part p.m cs <;> rfl⟩ (λj σ G _ ⟨_,_,_,_,_,_,k,_⟩=>SqL.of (k _ _ hDD hD)) ?_ ?_⟩
 ·rintro j z σ G hj ⟨acc,fs,w5,w6,w7,rfl,kG,hG0,hfs,hfl,hof⟩
  have tkG:TKeep H3 G:=.keep kG e3
  obtain⟨c,gc,t,rfl,ht⟩:=q109 hz hj
  have hcb:=hcs c (WQ gc)
  have hjl:j<cs.length:=(eA gc).1
  obtain⟨t',et',htG⟩:=q590 (K:=K) tkG ⟨t,rfl,ht⟩
  cases et'
  obtain⟨ap,vsp,ev,hpa,hat1⟩:=(hp.tk (.same (back G kG))).t1 (K:=K)
  subst ev
  rw[q739 gc]at hof
  have hbe:oftF part p.m (c::cs.drop (j+1))=if p.m<c.2.2*part then(if c.1<c.2.1 then none else(oftF part p.m (cs.drop (j+1))).map λl=>(c.1,c.2.2)::l)else oftF part p.m (cs.drop (j+1)):=rfl
  rw[hbe]at hof
  exists t,_,rfl,htG,rfl,_,_,rfl,_,_,rfl,_,_,rfl,rfl
  refine⟨_,rfl,_,rfl,_,_,rfl,rfl,.inl ⟨{},{}⟩,_,rfl,ap,vsp,_,_,rfl,rfl,hpa,hat1,_,_,rfl,rfl,_,rfl,ite2 (λk=>?_) (λk=>?_)⟩
  ·rw[ZL (ZF k)]at hof
   refine⟨_,rfl,_,rfl,_,_,rfl,rfl,_,rfl,ite2 (λk2=>?_) (λk2=>?_)⟩
   ·rw[ZL (ZF k2)]at hof
    have fin:=q G (back G kG)
    rw[hof]at fin
    exact fin
   ·rw[ZJ λz=>k2 (ZA z)]at hof
    refine⟨_,rfl,.inl ⟨rfl,_,SqL.of hG0⟩,_,rfl,_,rfl,szb rfl,λa ha=>?_⟩
    have t2:=q15 ha (.tup [V.int c.1,.int c.2.2])
    have e2':upd G a (.tup [V.int c.1,.int c.2.2]) a=some (.tup [V.int c.1,.int c.2.2]):=q12
    generalize upd G a (.tup [V.int c.1,.int c.2.2])=G2 at *
    have hG2:=t2 _ _ hG0
    have tk3:TKeep G2 (upd G2 D0 (.lst (fs++[.ref a]))):=TKeep.set hG2
    exists D0,fs,.ref a,rfl,rfl,hG2,Nat.lt_of_le_of_lt hfl (WB hjl (szB {}))
    exists acc++[(c.1,c.2.2)],fs++[.ref a],_,_,_,rfl,λc' o' n h=>by rw[q27 n];exact t2 _ _ (kG _ _ n h),q12,q61 (L2.Paired.mapP hfs λ_ _ z=>(z.tk (.same t2)).tk tk3) (.cons ⟨a,rfl,(tk3 _ _).1 e2'⟩ .nil),by rw[ZU];exact Nat.succ_le_succ hfl
    rw[hof]
    cases oftF part p.m (cs.drop (j+1)) with
    | none=>rfl
    | some l=>show some (acc++((c.1,c.2.2)::l))=some (acc++[(c.1,c.2.2)]++l);rw[YZ];rfl
  ·rw[ZJ λz=>k (ZA z)]at hof
   exact⟨acc,fs,_,_,_,rfl,kG,hG0,hfs,Nat.le_succ_of_le hfl,hof⟩
 ·rintro σ G ⟨acc,fs,w5,w6,w7,rfl,kG,hG0,hfs,hfl,hof⟩
  rw[Paired.length hz,drop_length]at hof
  have sb:=back G kG
  exists _,rfl,_,rfl,D0,tl,fs,ts,acc,told,rfl,rfl,SqL.of hG0,SqL.of (sb _ _ htl),q289 hfs,q289 (L2.Paired.mapP hts λ_ _ z=>z.tk (.same sb))
  have fin:=q G sb
  rw[hof]at fin
  replace fin:Q (.bl (decide (acc++[]=told))) G:=fin
  rw[append_nil]at fin
  exact fin
noncomputable def abvC(n:Int)(c:TS.I3):Bool:=decide (0<c.2.2)&&decide (n<c.2.1)
noncomputable def upF(n:Int)(cs:List TS.I3):Option P2->Bool
 | none=>!(cs.any (abvC n))
 | some q=>decide (n<q.1)&&(decide (0<q.2)&&(decide (q33 q.1 cs=some q.2)&&!(cs.any λc=>abvC n c&&decide (c.1<q.1))))
inductive q327(K:Fg)(vs:List V)(H:Hp)(Q:VK)(E:XK):Prop
 |mk(b ga:Addr)(v tv:V)(p:Pp)(low n:Int)(told:Option P2)(L:Nat)(xs:List V)(gs:List G3)(_:vs=[.ref b,.ref ga,v,.int n,tv])(_:OptR H tv told)(_:SqT K H b [.int low,.int (L:Int)])(_:L<=40)(_:H ga=some (.lst xs))(_:GatAt H L xs gs)(_:(∀ g∈gs,GoodS L g))(_:gs.length<=100)(_:PpAt H v p)(_:q35 L (Wh gs) p)(_:p.leaves<=100000)(_:∀ H',Same H H'->Q (.bl (upF n (q21 L low p) told)) H')
def q543:z.C P w 46 "shows_up" pn9 (q327 K):=by
 have sc:=q531
 specialize z.d_shows_up
 obtain⟨b,ga,v,tv,p,low,n,told,L,xs,gs,rfl,ht0,hb,hL,hga,hg,hgd,hgl,hp,hk,hlv,q⟩:=h
 refine⟨_,(q11 (ps_if (q149 (q99 (pfn (q226 z) hr (pa3 (pix q26 (pv 0) q14) (pv 1) (pv 2)))))
 (q16 (q20 pe_bl))
 q22)
 (q11 (pst 5 sc.nd (pfn (q54 z) hr (pa2 (pv 0) (pv 2))))
 (q11 (q447 (i:=6) (cl:=[("number", s.heap.objs.size+1+0)]) (cn:=["number"]) (N:=["number"]) (fr:=[3]) (sc0:=q17 q164) sc.nd rfl (Or.inl rfl) rfl (q31 (pv 5)) (λC s₂ H₂ fp=>(pv 0)) (λC s₂ H₂ fp=>(PW.pt (q148 (q18 op_gt (pix (q89 (K:=K) rfl) (pv 0) q14) q14 (q19 _)) (q117 (q18 op_gt (pix (q89 (K:=K) rfl) (pv 0) q14) (pv 1) (q19 _)))))) (by ac_rfl) ⟨by ac_rfl,trivial⟩ rfl rfl rfl cok rfl (by ac_rfl) (.inl rfl))
 (q11 (ps_if (q18 q253 (pv 4) q65 (q19 _))
 (q16 (q20 (q49 op_eq (pln z.len_ (pa1 (pv 6))) q14 (q19 _))))
 q22)
 (q11 (pst 7 sc.nd (pix q26 (pv 4) q14))
 (q11 (ps_if (PW.pt (pw_or (q18 op_le (pv 7) (pv 3) (q19 _)) (pw_or (q18 op_le (pix q26 (pv 4) q14) q14 (q19 _)) (q111 (q18 op_ne (pfn (q122 z) hr (pa2 (pv 5) (pv 7))) (pix q26 (pv 4) q14) (q19 _))))))
 (q16 (q20 pe_bl))
 q22)
 (q16 (q20 (q44 (call_all rfl) () z.all_ bt_all (pa1 (q403 (x := "least") (cl:=[("worth", s.heap.objs.size+1+1)]) (cn:=["worth"]) (TN:=["greatest", "things"]) (N:=["worth"]) (fr:=[7]) (sc0:=q17 q164) rfl (q31 (pv 6)) (λC s₂ H₂ fp=>(q49 op_ge (pv 0) (pv 3) (q19 _))) (λC s₂ H₂ fp=>q518) (λC s₂ H₂ fp=>(q519 (K:=K) (n:=3) rfl rfl (q28 (q100 (i:=0) (show(["least", "greatest", "things", "worth"]:List Str).Nodup by decide +kernel) rfl (Or.inl rfl)) (q28 (q100 (i:=1) (show(["least", "greatest", "things", "worth"]:List Str).Nodup by decide +kernel) rfl (Or.inl rfl)) (q28 (q100 (i:=2) (show(["least", "greatest", "things", "worth"]:List Str).Nodup by decide +kernel) rfl (Or.inl rfl)) q71))))) (by ac_rfl) ⟨by ac_rfl,trivial⟩ rfl rfl rfl ⟨by decide +kernel,by decide +kernel,by decide +kernel,by decide +kernel⟩ rfl))))))))))),?_⟩
 refine⟨_,rfl,b,_,_,_,rfl,rfl,hb,rfl,_,rfl,_,rfl,ga,v,p,L,xs,gs,rfl,hL,hga,hg,hgd,hgl,hp,hk,λH1 s1=>⟨_,rfl,?_⟩⟩
 have hf:=q41 hk
 refine iteF ?_
 refine⟨_,rfl,_,rfl,b,v,p,low,L,rfl,s1.seqT hb,hL,hp.tk (.same s1),hf,hlv,λD zs H2 s2 _ hD hz=>?_⟩
 have s12:=s1.trans s2
 have hcl9:=ZQ (q53 L low p) hlv
 generalize q21 L low p=cs at *
 have hzl:zs.length=cs.length:=Paired.length hz
 refine⟨_,rfl,D,rfl,⟨_,SqL.of hD⟩,λD3 hD3=>?_⟩
 refine q114 (K:=K) (xs:=zs) (szB {}) (λi ys G=>G=upd H2 D3 (.lst ys)/\ys.length<=i/\Paired (q70 K H2) ys ((cs.take i).filter (abvC n))) ⟨rfl,ZH _,.nil⟩ (λi ys G ⟨e,_⟩=>by rw[e];exact SqL.of (q15 hD3 _ _ _ hD)) (λi ys G ⟨e,e2,_⟩=>⟨by rw[e];exact q12,e2⟩) ?_ ?_
 ·rintro i z ys G hzi ⟨rfl,e2,e3⟩
  obtain⟨c,gc,t,rfl,ht⟩:=q109 hz hzi
  have hlt:=(eA hzi).1
  have ht':=(q15 hD3 (.lst ys)).seqT ht
  have et:(cs.take (i+1)).filter (abvC n)=(cs.take i).filter (abvC n)++[c].filter (abvC n):=by rw[WW,gc,filter_append];rfl
  have hbe:abvC n c=(decide (0<c.2.2)&&decide (n<c.2.1)):=rfl
  have no:abvC n c=false->Paired (q70 K H2) ys ((cs.take (i+1)).filter (abvC n)):=λe=>by
   rw[et,YS (by rw[e];exact fnt),filter_nil,append_nil]
   exact e3
  exists _,rfl,t,_,_,_,rfl,rfl,ht',rfl,_,_,rfl,rfl,_,rfl
  by_cases c1:0<c.2.2
  ·refine ite2 (λ_=>?_) (na c1)
   exists _,rfl,t,_,_,_,rfl,rfl,ht',rfl,_,rfl,_,_,rfl,rfl,_,rfl
   by_cases c2:n<c.2.1
   ·refine ite2 (λ_=>?_) (na c2)
    exists _,rfl,q12,by rw[q85],by rw[ZU];exact Nat.succ_le_succ e2
    rw[et,YR (by rw[hbe,ZA c1,ZA c2];rfl)]
    exact q61 e3 (.cons ⟨t,rfl,ht⟩ .nil)
   ·refine ite2 (ny c2) (λ_=>?_)
    exact⟨_,(W1 hlt),rfl,(W19 hlt),rfl,Nat.le_succ_of_le e2,no (by rw[hbe,ZI c2,WL])⟩
  ·refine ite2 (ny c1) (λ_=>?_)
   refine ite2 nf (λ_=>?_)
   exact⟨_,(W1 hlt),rfl,(W19 hlt),rfl,Nat.le_succ_of_le e2,no (by rw[hbe,ZI c1,WP])⟩
 rintro ys G ⟨rfl,e2,e3⟩
 rw[hzl,YF]at e3
 have s3:=q15 hD3 (.lst ys)
 have eD3:=@q12 H2 D3 (.lst ys)
 generalize upd H2 D3 (.lst ys)=H3 at *
 have s13:=s12.trans s3
 have hyl:ys.length=(cs.filter (abvC n)).length:=Paired.length e3
 cases told with
 | none=>
  cases(show tv = .non from ht0)
  refine⟨_,rfl,rfl,_,rfl,iteT ?_⟩
  exists _,rfl,D3,_,rfl,.inl (SqL.of eD3),rfl
  rw[dec_int]
  have fin:=q H3 s13
  have e:upF n cs none=decide ((ys.length:Int)=0):=by
   show(!(cs.any (abvC n)))=_
   rw[hyl]
   cases z:cs.any (abvC n) with
   | true=>
    obtain⟨c,hc,hab⟩:=List.any_eq_true.mp z
    have:0<(cs.filter (abvC n)).length:=List.length_pos_iff.mpr λy=>by
     have:=List.mem_filter.mpr ⟨hc,hab⟩
     rw[y]at this
     cases this
    rw[ZI {}]
    rfl
   | false=>
    have:cs.filter (abvC n)=[]:=List.filter_eq_nil_iff.mpr λc hc y=>by
     rw[List.any_eq_true.mpr ⟨c,hc,y⟩]at z
     cases z
    rw[this]
    rfl
  rw[e]at fin
  exact fin
 | some r=>
  obtain⟨a0,rfl,ha0⟩:PrR H tv r:=ht0
  have ha3:=s13 _ _ ha0
  refine⟨_,rfl,rfl,_,rfl,iteF ?_⟩
  exists _,rfl,a0,_,_,_,rfl,rfl,SqT.of ha3,rfl
  have eU:upF n cs (some r)=(decide (n<r.1)&&(decide (0<r.2)&&(decide (q33 r.1 cs=some r.2)&&!(cs.any λc=>abvC n c&&decide (c.1<r.1))))):=rfl
  have fin3:=q H3 s13
  exists _,rfl,_,rfl,_,_,rfl,rfl,_,rfl
  by_cases c1:r.1<=n
  ·refine ite2 (λ_=>?_) (na c1)
   refine ite2 (λ_=>?_) nr
   rw[eU,ZI (show ¬ n<r.1 by exact W92 c1),WP]at fin3
   exact fin3
  refine ite2 (ny c1) (λ_=>?_)
  exists _,rfl,a0,_,_,_,rfl,rfl,SqT.of ha3,rfl,_,_,rfl,rfl,_,rfl
  by_cases c2:r.2<=0
  ·refine ite2 (λ_=>?_) (na c2)
   refine ite2 (λ_=>?_) nr
   rw[eU,ZI (show ¬ 0<r.2 by lia),WP,WL]at fin3
   exact fin3
  refine ite2 (ny c2) (λ_=>?_)
  rw[ZA (show n<r.1 by exact W59 c1),ZA (show 0<r.2 by lia),Bool.true_and,Bool.true_and]at eU
  have hz3:Paired (q70 K H3) zs cs:=L2.Paired.mapP hz λ_ _ z=>q590 (.same s3) z
  refine⟨_,rfl,_,rfl,D,zs,cs,r.1,rfl,s3 _ _ hD,hz3,hcl9,λH4 s4=>?_⟩
  have s14:=s13.trans s4
  have ha4:=s14 _ _ ha0
  exists _,rfl,a0,_,_,_,rfl,rfl,SqT.of ha4,rfl
  by_cases ha:q33 r.1 cs=some r.2
  ·rw[ha,ZA rfl,Bool.true_and]at eU
   rw[ha]
   exists rfl,_,rfl
   refine ite2 (λz=>absurd z (by rw[show optI (some r.2)=V.int r.2 from rfl,ZA (show V.int r.2=V.int r.2 from rfl)];exact fnt)) (λ_=>?_)
   have eD4:=s4 _ _ eD3
   have e34:Paired (q70 K H4) ys (cs.filter (abvC n)):=L2.Paired.mapP e3 λ_ _ z=>q590 (.same (s3.trans s4)) z
   refine⟨_,rfl,D3,rfl,⟨_,SqL.of eD4⟩,λD5 hD5=>?_⟩
   refine q234 (xs:=ys) (szB {}) (λj us G=>G=upd H4 D5 (.lst us)/\us.length<=j/\us=(((cs.filter (abvC n)).take j).map λc=>decide (r.1<=c.1)).map V.bl) ⟨rfl,ZH _,rfl⟩ (λj us G ⟨e,_⟩=>by rw[e];exact SqL.of (q15 hD5 _ _ _ eD4)) (λj us G ⟨e,h2,_⟩=>⟨by rw[e];exact q12,h2⟩) ?_ ?_
   ·rintro j z us G hzj ⟨rfl,e2',e3'⟩
    obtain⟨c,gc,ta,rfl,hta⟩:=q109 e34 hzj
    intro vs3 hvs3
    match vs3,hvs3 with
    | [x0,x1,x2],_=>
     refine⟨ta,_,rfl,(q15 hD5 _).seqT hta,rfl,_,_,rfl,_,_,rfl,_,_,rfl,rfl,⟨[_,_,_],rfl,rfl⟩,iteT ?_⟩
     exists _,rfl,_,rfl,_,_,rfl,rfl,q12,by rw[q85],by rw[ZU];exact Nat.succ_le_succ e2'
     rw[WW,gc,WS,WS,<- e3']
     rfl
   ·rintro us G ⟨rfl,e2',rfl⟩
    rw[hyl,YF]
    have s5:=q15 hD5 (.lst (((cs.filter (abvC n)).map λc=>decide (r.1<=c.1)).map V.bl))
    exists D5,_,rfl,SqL.of q12
    have fin:=q _ (s14.trans s5)
    have ee:(((cs.filter (abvC n)).map λc=>decide (r.1<=c.1)).all id) = !(cs.any λc=>abvC n c&&decide (c.1<r.1)):=by
     cases z:cs.any λc=>abvC n c&&decide (c.1<r.1) with
     | true=>
      obtain⟨c,hc,hab⟩:=List.any_eq_true.mp z
      rw[WC]at hab
      show _=false
      rw[all_eq_false]
      exact⟨_,List.mem_map.mpr ⟨c,List.mem_filter.mpr ⟨hc,hab.1⟩,rfl⟩,by
       have:=ZF hab.2
       show ¬ decide (r.1<=c.1)=true
       rw[ZI (W47 this)]
       exact fnt⟩
     | false=>
      show _=true
      rw[all_eq_true]
      intro y hy
      obtain⟨c,hc,rfl⟩:=eE hy
      obtain⟨hc1,hc2⟩:=List.mem_filter.mp hc
      by_cases y2:r.1<=c.1
      ·exact ZA y2
      ·rw[List.any_eq_true.mpr ⟨c,hc1,by rw[hc2,ZA (show c.1<r.1 by exact W59 y2)];rfl⟩]at z
       cases z
    rw[eU,<- ee]at fin
    exact fin
  ·rw[ZI ha,WP]at eU
   have fin:=q H4 s14
   rw[eU]at fin
   cases hal:q33 r.1 cs with
   | none=>
    exists rfl,_,rfl
    exact ite2 (λ_=>fin) nr
   | some al=>
    exists rfl,_,rfl
    have hne:¬ V.int al=V.int r.2:=λz=>ha (by rw[hal,V.int.inj z])
    exact ite2 (λ_=>fin) (λz=>absurd (by rw[show optI (some al)=V.int al from rfl,ZI hne];rfl) z)
noncomputable def tbQ:List (Addr×Pos×Str):=[(236,⟨170,41,170,114⟩, "paper_below.<locals>.<lambda>"),(243,⟨173,41,173,99⟩, "paper_least.<locals>.<lambda>"),(250,⟨181,4,186,19⟩, "paper_most.<locals>.must_split"),(257,⟨190,41,190,94⟩, "paper_often.<locals>.<lambda>"),(264,⟨194,4,197,49⟩, "paper_up.<locals>.must_split")]
noncomputable def Tbs(H:Hp):Prop:=∀ q∈tbQ,Tab H q.1 q.2.1 q.2.2
def KpT(H H':Hp):Prop:=∀ a o,(∀ ps,o ≠ .tbl ps)->H a=some o->H' a=some o
def Tbs.same(t:Tbs H)(s:Same H H'):Tbs H':=λq hq=>(t q hq).same s
def KpT.of(s:Same H H'):KpT H H':=λa o _ e=>s a o e
def KpT.trans(a:KpT H H1)(b:KpT H1 H2):KpT H H2:=λc o n e=>b c o n (a c o n e)
def KpT.tk(k:KpT H H'):TKeep H H':=λ_ _=>⟨λh=>k _ _ (by intro _ z;cases z) h,λ_ h=>k _ _ (by intro _ z;cases z) h⟩
def KpT.l(k:KpT H H')(h:H a=some (.lst xs)):H' a=some (.lst xs):=k _ _ (by intro _ z;cases z) h
def KpT.t(k:KpT H H')(h:H a=some (.tup xs)):H' a=some (.tup xs):=k _ _ (by intro _ z;cases z) h
def tb_one:∀ q∈tbQ,∀ q'∈tbQ,q.1=q'.1->q=q':=by decide +kernel
def Tbs.step{q0:Addr×Pos×Str}(h0:q0∈tbQ)(t:Tbs H)(kp:∀ b o,b≠q0.1->H b=some o->H1 b=some o)(h1:Tab H1 q0.1 q0.2.1 q0.2.2)(s:Same H1 H3):KpT H H3/\Tbs H3:=by
 obtain⟨ps0,e0,_⟩:=t q0 h0
 have k1:∀ a o,(∀ ps,o ≠ .tbl ps)->H a=some o->H1 a=some o:=λa o n e=>kp a o (λz=>by
  subst z
  rw[e0]at e;cases e;exact n _ rfl) e
 refine⟨λa o n e=>s _ _ (k1 a o n e),λq hq=>?_⟩
 by_cases c:q.1=q0.1
 ·rw[tb_one q hq q0 h0 c]
  exact h1.same s
 ·obtain⟨ps,e,h2,h3⟩:=t q hq
  refine Tab.same ⟨ps,kp _ _ c e,h2,?_⟩ s
  rcases h3 with h | ⟨c',oc,vs,tq,a,b,d⟩
  ·exact .inl h
  ·exact .inr ⟨c',oc,vs,tq,a,k1 _ _ (by intro _ z;cases z) b,d⟩
noncomputable def psB(num:Int):List Int->Bool
 | [a,b,c]=>decide (0<c)&&(decide (a<num)&&decide (num<=b))
 | _=>false
noncomputable def psL(wo:Int):List Int->Bool
 | [a,b,_]=>decide (a<=wo)&&decide (wo<=b)
 | _=>false
noncomputable def psM(wo m:Int):List Int->Bool
 | [a,b,c]=>if b<wo then decide (m<=c)else if wo<a then decide (m<c)else true
 | _=>false
noncomputable def psO(part W:Int):List Int->Bool
 | [_,_,c]=>decide (W<c*part)
 | _=>false
noncomputable def psU(n:Int)(f:Option P2):List Int->Bool
 | [a,b,c]=>if c=0\/b<=n then false else match f with
  | none=>true
  | some q=>decide (a<=q.1)
 | _=>false
structure Gth(K:Fg)(H:Hp)(b ga:Addr)(xs:List V)(low:Int)(L:Nat)(gs:List G3):Prop where
 b:H b=some (.tup [.int low,.int (L:Int)])
 le:L<=40
 g:H ga=some (.lst xs)
 at_:GatAt H L xs gs
 gd:∀ g∈gs,GoodS L g
 ln:gs.length<=100
 few:(Wh gs).length<=900
 tb:Tbs H
def Gth.kp{K:Fg}{H H':Hp}{b ga:Addr}{xs:List V}{low:Int}{L:Nat}{gs:List G3}(g:Gth K H b ga xs low L gs)(k:KpT H H')(t:Tbs H'):Gth K H' b ga xs low L gs:=⟨k.t g.b,g.le,k.l g.g,g.at_.tk k.tk,g.gd,g.ln,g.few,t⟩
noncomputable def ToldP(low:Int)(L:Nat)(gs:List G3)(ψ:List Int->Bool)(H:Hp)(Q:VK):Prop:=∀(H':Hp)(v:V),KpT H H'->Tbs H'->PpAt H' v (papF (f3 ψ) L low (Wh gs))->Q v H'
inductive q184(K:Fg)(vs:List V)(H:Hp)(Q:VK)(E:XK):Prop
 |mk(b ga:Addr)(xs:List V)(low num:Int)(L:Nat)(gs:List G3)(_:vs=[.ref b,.ref ga,.int num])(_:Gth K H b ga xs low L gs)(_:ToldP low L gs (psB num) H Q)
inductive q185(K:Fg)(vs:List V)(H:Hp)(Q:VK)(E:XK):Prop
 |mk(b ga:Addr)(xs:List V)(low part:Int)(L:Nat)(gs:List G3)(_:vs=[.ref b,.ref ga,.int part])(_:Gth K H b ga xs low L gs)(_:0<=part)(_:part<=1000)(_:ToldP low L gs (psO part ((Wh gs).length:Nat)) H Q)
inductive q328(K:Fg)(vs:List V)(H:Hp)(Q:VK)(E:XK):Prop
 |mk(b ga:Addr)(xs:List V)(low num:Int)(L:Nat)(gs:List G3)(_:vs=[.ref b,.ref ga,.int num])(_:Gth K H b ga xs low L gs)(_:ToldP low L gs (psU num ((stp L low (Wh gs)).find? λq=>decide (num<q.1))) H Q)
inductive q186(K:Fg)(vs:List V)(H:Hp)(Q:VK)(E:XK):Prop
 |mk(b ga:Addr)(xs:List V)(low:Int)(kn L:Nat)(gs:List G3)(_:vs=[.ref b,.ref ga,.int (kn:Int)])(_:Gth K H b ga xs low L gs)(_:kn<(Wh gs).length)(_:ToldP low L gs (psL (low+kth L (Wh gs) kn)) H Q)
inductive q229(K:Fg)(vs:List V)(H:Hp)(Q:VK)(E:XK):Prop
 |mk(b ga:Addr)(xs:List V)(low wo m:Int)(L:Nat)(gs:List G3)(_:vs=[.ref b,.ref ga])(_:Gth K H b ga xs low L gs)(_:bst (caF 1 0 L low (Wh gs))=some (wo,m))(_:ToldP low L gs (psM wo m) H Q)
def q363:z.C P w 47 "paper_below" pn0 (q184 K):=by
 have sc:=q342
 refine z.d_paper_below.cal sc (λvs H Q E h=>?_) (λf A outer s H vs Q E hr h=>?_)
 ·obtain⟨b,ga,xs,low,num,L,gs,rfl,_⟩:=h
  rfl
 obtain⟨b,ga,xs,low,num,L,gs,rfl,g,q⟩:=h
 exists _,(q16 (q20 (q458 (cl:=[("number", s.heap.objs.size+1)]) (is:=[2]) (q68 z) hr.m () ⟨⟨rfl,rfl,rfl,rfl⟩,trivial⟩ (pa3 (pv 0) (pv 1) (q703 rfl z.d_paper_below.hd z.bmn rfl rfl rfl)))))
 refine⟨_,rfl,_,rfl,g.tb _ (.head _),λfa c oc vs tq pm ctv H1 hfn hf hc hd hv hT1 kp=>⟨[.int num],rfl,λH2 s2 hcells=>?_⟩⟩
 have k1:=(g.tb.step (.head _) kp hT1 (Same.refl _))
 have g2:=(g.kp k1.1 k1.2).kp (.of s2) (k1.2.same s2)
 refine⟨b,ga,fa,xs,low,L,gs,λns=>∃ a b c:Int,ns=[a,b,c],psB num,rfl,SqT.of g2.b,g2.le,SqL.of g2.g,g2.at_,g2.gd,g2.ln,g2.few,q701 _ (.nil _) (ps:=["least", "greatest", "things"]) (ys:=["number"]) lsc rfl (by simp) (s2 _ _ hf) (s2 _ _ hc) hd hv hcells (mt3 λ_ _ _=>rfl) (λns ⟨a,b,c,e⟩=>by rw[e];rfl) ?_,λa b c _ _=>⟨a,b,c,rfl⟩,λH' v s' hp H3 bk=>?_⟩
 ·intro P w mg base A outer s
  exists _,q150 (q49 op_gt (pv 2) q14 (q19 _)) (q250 (q281 op_lt op_le (pv 0) (pv 3) (pv 1)))
  rintro ns ⟨a,b,c,rfl⟩
  exists _,rfl,_,_,rfl,rfl,_,rfl
  refine ite2 (λh=>?_) (λh=>?_)
  ·exists _,rfl,_,rfl,_,_,rfl,rfl,_,rfl
   refine ite2 (λh'=>⟨_,rfl,_,_,rfl,rfl,?_⟩) (λh'=>?_)
   ·show V.bl _=V.bl (decide (0<c)&&(decide (a<num)&&decide (num<=b)))
    rw[show decide (0<c)=true from h,show decide (a<num)=true from h',Bool.true_and,Bool.true_and]
   ·show V.bl _=V.bl (decide (0<c)&&(decide (a<num)&&decide (num<=b)))
    rw[show decide (a<num)=false from Bool.eq_false_iff.mpr h',WP,WL]
  ·show V.bl _=V.bl (decide (0<c)&&(decide (a<num)&&decide (num<=b)))
   rw[show decide (0<c)=false from Bool.eq_false_iff.mpr h,WP]
 ·have s13:Same H1 H3:=λb o e=>bk _ _ (s' _ _ (s2 _ _ e)) (.inl (by rw[e];simp))
  have k3:=g.tb.step (.head _) kp hT1 s13
  exact q H3 v k3.1 k3.2 (hp.tp λb xs e=>bk _ _ e (.inr (by intro _ _ z;cases z)))
def q364:z.C P w 47 "paper_often" ["bounds", "gathering", "part"] (q185 K):=by
 have sc:=q344
 refine z.d_paper_often.cal sc (λvs H Q E h=>?_) (λf A outer s H vs Q E hr h=>?_)
 ·obtain⟨b,ga,xs,low,part,L,gs,rfl,_⟩:=h
  rfl
 obtain⟨b,ga,xs,low,part,L,gs,rfl,g,p0,p1,q⟩:=h
 refine⟨_,(q11 (pst 3 sc.nd (pfn (q37 z) hr (pa1 (pv 1))))
 (q16 (q20 (q458 (cl:=[("whole", s.heap.objs.size+2),("part", s.heap.objs.size+1)]) (is:=[3,2]) (q68 z) hr.m () ⟨⟨rfl,rfl,rfl,rfl⟩,⟨rfl,rfl,rfl,rfl⟩,trivial⟩ (pa3 (pv 0) (pv 1) (q703 rfl z.d_paper_often.hd z.bmn rfl rfl rfl)))))),?_⟩
 refine⟨_,rfl,ga,xs,L,gs,rfl,SqL.of g.g,g.at_,ZQ g.ln ∅,λH0 s0=>?_⟩
 have hm:(257,⟨190,41,190,94⟩,("paper_often.<locals>.<lambda>" : Str))∈tbQ:=by decide +kernel
 have g0:=g.kp (.of s0) (g.tb.same s0)
 rw[q106 g.gd]
 refine⟨_,rfl,_,rfl,g0.tb _ hm,λfa c oc vs tq pm ctv H1 hfn hf hc hd hv hT1 kp=>⟨[.int ((Wh gs).length:Nat),.int part],rfl,λH2 s2 hcells=>?_⟩⟩
 have k1:=(g0.tb.step hm kp hT1 (Same.refl _))
 have g2:=(g0.kp k1.1 k1.2).kp (.of s2) (k1.2.same s2)
 refine⟨b,ga,fa,xs,low,L,gs,λns=>∃ a b c:Int,ns=[a,b,c]/\0<=c/\c<=1000,psO part ((Wh gs).length:Nat),rfl,SqT.of g2.b,g2.le,SqL.of g2.g,g2.at_,g2.gd,g2.ln,g2.few,q701 _ (.nil _) (ps:=["least", "greatest", "things"]) (ys:=["whole", "part"]) lsc rfl (by simp) (s2 _ _ hf) (s2 _ _ hc) hd hv hcells (mt3 λ_ _ _=>rfl) (λns ⟨a,b,c,e,_⟩=>by rw[e];rfl) ?_,λa b c h0 h1=>⟨a,b,c,rfl,h0,h1⟩,λH' v s' hp H3 bk=>?_⟩
 ·intro P w mg base A outer s
  exists _,q49 op_gt (pe_op q113 (pv 2) (pv 4)) (pv 3) (q19 _)
  rintro ns ⟨a,b,c,rfl,c0,c1⟩
  exact⟨_,rfl,_,rfl,_,_,rfl,rfl,.inl ⟨{},{}⟩,_,rfl,_,_,rfl,rfl,rfl⟩
 ·have s13:Same H1 H3:=λb o e=>bk _ _ (s' _ _ (s2 _ _ e)) (.inl (by rw[e];simp))
  have k3:=g0.tb.step hm kp hT1 s13
  exact q H3 v ((KpT.of s0).trans k3.1) k3.2 (hp.tp λb xs e=>bk _ _ e (.inr (by intro _ _ z;cases z)))
def q365:z.C P w 47 "paper_least" pn4 (q186 K):=by
 have sc:=q343
 refine z.d_paper_least.cal sc (λvs H Q E h=>?_) (λf A outer s H vs Q E hr h=>?_)
 ·obtain⟨b,ga,xs,low,kn,L,gs,rfl,_⟩:=h
  rfl
 obtain⟨b,ga,xs,low,kn,L,gs,rfl,g,hk,q⟩:=h
 refine⟨_,(q11 (pst 3 sc.nd (pix q26 (pfn (q500 z) hr (pa3 (pv 0) (pv 1) (pv 2))) q14))
 (q16 (q20 (q458 (cl:=[("worth", s.heap.objs.size+1)]) (is:=[3]) (q68 z) hr.m () ⟨⟨rfl,rfl,rfl,rfl⟩,trivial⟩ (pa3 (pv 0) (pv 1) (q703 rfl z.d_paper_least.hd z.bmn rfl rfl rfl)))))),?_⟩
 refine⟨_,rfl,_,rfl,_,rfl,b,ga,xs,low,L,kn,gs,rfl,SqT.of g.b,g.le,g.g,g.at_,g.gd,g.ln,g.few,hk,λpa j pl H0 s0 hpa _=>?_⟩
 have hm:(243,⟨173,41,173,99⟩,("paper_least.<locals>.<lambda>" : Str))∈tbQ:=by decide +kernel
 have g0:=g.kp (.of s0) (g.tb.same s0)
 refine⟨pa,_,_,_,rfl,rfl,hpa,rfl,_,rfl,_,rfl,g0.tb _ hm,λfa c oc vs tq pm ctv H1 hfn hf hc hd hv hT1 kp=>⟨[.int (low+kth L (Wh gs) kn)],rfl,λH2 s2 hcells=>?_⟩⟩
 have k1:=(g0.tb.step hm kp hT1 (Same.refl _))
 have g2:=(g0.kp k1.1 k1.2).kp (.of s2) (k1.2.same s2)
 refine⟨b,ga,fa,xs,low,L,gs,λns=>∃ a b c:Int,ns=[a,b,c],psL (low+kth L (Wh gs) kn),rfl,SqT.of g2.b,g2.le,SqL.of g2.g,g2.at_,g2.gd,g2.ln,g2.few,q701 _ (.nil _) (ps:=["least", "greatest", "things"]) (ys:=["worth"]) lsc rfl (by simp) (s2 _ _ hf) (s2 _ _ hc) hd hv hcells (mt3 λ_ _ _=>rfl) (λns ⟨a,b,c,e⟩=>by rw[e];rfl) ?_,λa b c h0 h1=>⟨a,b,c,rfl⟩,λH' v s' hp H3 bk=>?_⟩
 ·intro P w mg base A outer s
  exists _,q281 op_le op_le (pv 0) (pv 3) (pv 1)
  rintro ns ⟨a,b,c,rfl⟩
  generalize low+kth L (Wh gs) kn=wo at *
  exists _,rfl,_,rfl,_,_,rfl,rfl,_,rfl
  refine ite2 (λh=>⟨_,rfl,_,_,rfl,rfl,?_⟩) (λh=>?_)
  ·show V.bl _=V.bl (decide (a<=wo)&&decide (wo<=b))
   rw[show decide (a<=wo)=true from h,Bool.true_and]
  ·show V.bl _=V.bl (decide (a<=wo)&&decide (wo<=b))
   rw[show decide (a<=wo)=false from Bool.eq_false_iff.mpr h,WP]
 ·have s13:Same H1 H3:=λb o e=>bk _ _ (s' _ _ (s2 _ _ e)) (.inl (by rw[e];simp))
  have k3:=g0.tb.step hm kp hT1 s13
  exact q H3 v ((KpT.of s0).trans k3.1) k3.2 (hp.tp λb xs e=>bk _ _ e (.inr (by intro _ _ z;cases z)))
def q429:z.C P w 47 "paper_most" pn7 (q229 K):=by
 have sc:=q414
 refine z.d_paper_most.cal sc (λvs H Q E h=>?_) (λf A outer s H vs Q E hr h=>?_)
 ·obtain⟨b,ga,xs,low,wo,m,L,gs,rfl,_⟩:=h
  rfl
 obtain⟨b,ga,xs,low,wo,m,L,gs,rfl,g,hbs,q⟩:=h
 refine⟨_,(q11 (pst 2 sc.nd (pfn (ok_most z) hr (pa2 (pv 0) (pv 1))))
 (q11 (ps_if (q18 q253 (pv 2) q65 (q19 _))
 (q16 q201)
 q22)
 (q11 (pst 3 sc.nd (pix q26 (pv 2) q14))
 (q11 (pst 4 sc.nd (pix q26 (pv 2) q14))
 (q11 (q704 (i:=5) rfl z.d_paper_most.hd z.bmn rfl rfl rfl rfl rfl sc.nd rfl (Or.inl rfl) (.inr rfl))
 (q16 (q20 (q458 (cl:=[("worth", s.heap.objs.size+2),("many", s.heap.objs.size+1)]) (is:=[3,4]) (q68 z) hr.m () ⟨⟨rfl,rfl,rfl,rfl⟩,⟨rfl,rfl,rfl,rfl⟩,trivial⟩ (pa3 (pv 0) (pv 1) (pv 5)))))))))),?_⟩
 refine⟨_,rfl,_,rfl,b,ga,xs,low,L,gs,rfl,SqT.of g.b,g.le,SqL.of g.g,g.at_,g.gd,g.ln,g.few,λH0 v0 s0 hv0=>?_⟩
 rw[hbs]at hv0
 obtain⟨a0,rfl,ha0⟩:PsR H0 v0 (wo,m):=hv0
 refine⟨_,rfl,rfl,_,rfl,iteF ?_⟩
 have hm:(250,⟨181,4,186,19⟩,("paper_most.<locals>.must_split" : Str))∈tbQ:=by decide +kernel
 have g0:=g.kp (.of s0) (g.tb.same s0)
 exists _,rfl,a0,_,_,_,rfl,rfl,SqT.of ha0,rfl
 exists _,rfl,a0,_,_,_,rfl,rfl,SqT.of ha0,rfl
 refine⟨g0.tb _ hm,λfa c oc vs tq doc pm ctv H1 hfn hf hc hd hv hT1 kp=>?_⟩
 have k1:=(g0.tb.step hm kp hT1 (Same.refl _))
 refine⟨_,rfl,_,rfl,_,rfl,[.int wo,.int m],rfl,λH2 s2 hcells=>?_⟩
 have g2:=(g0.kp k1.1 k1.2).kp (.of s2) (k1.2.same s2)
 refine⟨b,ga,fa,xs,low,L,gs,λns=>∃ a b c:Int,ns=[a,b,c],psM wo m,rfl,SqT.of g2.b,g2.le,SqL.of g2.g,g2.at_,g2.gd,g2.ln,g2.few,q702 _ (.nil _) (ps:=["least", "greatest", "things"]) (ys:=["worth", "many"]) lsc rfl (by simp) (s2 _ _ hf) (s2 _ _ hc) hd hv hcells (mt3 λ_ _ _=>rfl) (λns ⟨a,b,c,e⟩=>by rw[e];rfl) ?_,λa b c h0 h1=>⟨a,b,c,rfl⟩,λH' v s' hp H3 bk=>?_⟩
 ·intro P w mg base A outer s
  exists _,q11 (ps_if (q18 op_lt (pv 1) (pv 3) (q19 _)) (q16 (q20 (q49 op_ge (pv 2) (pv 4) (q19 _)))) q22) (q11 (ps_if (q18 op_gt (pv 0) (pv 3) (q19 _)) (q16 (q20 (q49 op_gt (pv 2) (pv 4) (q19 _)))) q22) (q16 (q20 pe_bl)))
  rintro ns ⟨a,b,c,rfl⟩
  refine⟨_,rfl,_,rfl,_,_,rfl,rfl,_,rfl,ite2 (λh=>?_) (λh=>?_)⟩
  ·exists _,rfl,_,rfl,_,_,rfl,rfl
   show V.bl _=V.bl (if b<wo then decide (m<=c)else _)
   rw[ZL (ZF h)]
  refine⟨_,rfl,_,rfl,_,_,rfl,rfl,_,rfl,ite2 (λh'=>?_) (λh'=>?_)⟩
  ·exists _,rfl,_,rfl,_,_,rfl,rfl
   show V.bl _=V.bl (if b<wo then _ else if wo<a then _ else true)
   rw[ZJ λz=>h (ZA z),ZL (ZF h')]
  ·show V.bl _=V.bl (if b<wo then _ else if wo<a then _ else true)
   rw[ZJ λz=>h (ZA z),ZJ λz=>h' (ZA z)]
 ·have s13:Same H1 H3:=λb o e=>bk _ _ (s' _ _ (s2 _ _ e)) (.inl (by rw[e];simp))
  have k3:=g0.tb.step hm kp hT1 s13
  exact q H3 v ((KpT.of s0).trans k3.1) k3.2 (hp.tp λb xs e=>bk _ _ e (.inr (by intro _ _ z;cases z)))
def q544:z.C P w 47 "paper_up" pn0 (q328 K):=by
 have sc:=q529
 refine z.d_paper_up.cal sc (λvs H Q E h=>?_) (λf A outer s H vs Q E hr h=>?_)
 ·obtain⟨b,ga,xs,low,num,L,gs,rfl,_⟩:=h
  rfl
 obtain⟨b,ga,xs,low,num,L,gs,rfl,g,q⟩:=h
 refine⟨_,(q11 (pst 3 sc.nd (pfn (q636 z) hr (pa3 (pv 0) (pv 1) (pv 2))))
 (q11 (q704 (i:=4) rfl z.d_paper_up.hd z.bmn rfl rfl rfl rfl rfl sc.nd rfl (Or.inl rfl) (.inr rfl))
 (q16 (q20 (q458 (cl:=[("number", s.heap.objs.size+1),("found", s.heap.objs.size+2)]) (is:=[2,3]) (q68 z) hr.m () ⟨⟨rfl,rfl,rfl,rfl⟩,⟨rfl,rfl,rfl,rfl⟩,trivial⟩ (pa3 (pv 0) (pv 1) (pv 4))))))),?_⟩
 refine⟨_,rfl,_,rfl,_,rfl,b,ga,xs,low,num,L,gs,rfl,SqT.of g.b,g.le,g.g,g.at_,g.gd,g.ln,g.few,λv0 H0 s0 hv0=>?_⟩
 have hm:(264,⟨194,4,197,49⟩,("paper_up.<locals>.must_split" : Str))∈tbQ:=by decide +kernel
 have g0:=g.kp (.of s0) (g.tb.same s0)
 generalize (stp L low (Wh gs)).find? (λq=>decide (num<q.1))=fo at *
 refine⟨g0.tb _ hm,λfa c oc vs tq doc pm ctv H1 hfn hf hc hd hv hT1 kp=>?_⟩
 have k1:=(g0.tb.step hm kp hT1 (Same.refl _))
 refine⟨_,rfl,_,rfl,_,rfl,[.int num,v0],rfl,λH2 s2 hcells=>?_⟩
 have g2:=(g0.kp k1.1 k1.2).kp (.of s2) (k1.2.same s2)
 obtain⟨H9,tp,hfo⟩:∃ H9:Hp,Tps H9 H2/\NxV H9 v0 fo:=by
  cases fo with
  | none=>exact⟨_,.nil _,hv0⟩
  | some p=>
   obtain⟨a0,rfl,ha0⟩:PsR H0 v0 p:=hv0
   refine⟨λx=>if x=a0 then some (.tup [.int p.1,.int p.2])else none,λx o e=>?_,a0,rfl,ZL rfl⟩
   by_cases c:x=a0
   ·have e':=(ZL c).symm.trans e
    cases e'
    rw[c]
    exact⟨s2 _ _ (k1.1.t ha0),_,rfl⟩
   ·cases(ZJ c).symm.trans e
 refine⟨b,ga,fa,xs,low,L,gs,λns=>∃ a b c:Int,ns=[a,b,c],psU num fo,rfl,SqT.of g2.b,g2.le,SqL.of g2.g,g2.at_,g2.gd,g2.ln,g2.few,q702 H9 tp (ps:=["least", "greatest", "things"]) (ys:=["number", "found"]) lsc rfl (by simp) (s2 _ _ hf) (s2 _ _ hc) hd hv hcells (mt3 λ_ _ _=>rfl) (λns ⟨a,b,c,e⟩=>by rw[e];rfl) ?_,λa b c h0 h1=>⟨a,b,c,rfl⟩,λH' v s' hp H3 bk=>?_⟩
 ·intro P w mg base A outer s
  exists _,q11 (ps_if (PW.pt (pw_or (q18 op_eq (pv 2) q14 (q19 _)) (q111 (q18 op_le (pv 1) (pv 3) (q19 _))))) (q16 (q20 pe_bl)) q22) (q16 (q20 (pe_or (q49 q253 (pv 4) q65 (q19 _)) (q250 (q49 op_le (pv 0) (pe_ix (q89 (K:=K) rfl) (pv 4) q14 (λ_ _=>rfl)) (q19 _))))))
  rintro ns ⟨a,b,c',rfl⟩
  refine⟨_,rfl,rfl,_,rfl,ite2 (λh=>?_) (λh=>?_)⟩
  ·refine ite2 (λ_=>?_) nr
   show V.bl _=V.bl (if c'=0\/b<=num then false else _)
   rw[ZL (.inl (V.int.inj (ZF h)))]
  ·have h0:¬ c'=0:=λz=>h (ZA (congrArg V.int z))
   refine⟨_,rfl,_,rfl,_,_,rfl,rfl,_,rfl,ite2 (λh'=>?_) (λh'=>?_)⟩
   ·show V.bl _=V.bl (if c'=0\/b<=num then false else _)
    rw[ZL (.inr (ZF h'))]
   ·have e:∀ x:Bool,(if c'=0\/b<=num then false else x)=x:=λx=>ZJ λz=>z.elim h0 λz=>h' (ZA z)
    cases fo with
    | none=>
     cases(show v0 = .non from hfo)
     refine⟨_,rfl,rfl,_,rfl,iteT ?_⟩
     show V.bl _=V.bl (if c'=0\/b<=num then false else true)
     rw[e]
    | some p=>
     obtain⟨a0,rfl,ha0⟩:PsR H9 v0 p:=hfo
     refine⟨_,rfl,rfl,_,rfl,iteF ?_⟩
     exists _,rfl,_,rfl,a0,_,_,_,rfl,rfl,SqT.of ha0,rfl,_,_,rfl,rfl
     show V.bl _=V.bl (if c'=0\/b<=num then false else decide (a<=p.1))
     rw[e]
 ·have s13:Same H1 H3:=λb o e=>bk _ _ (s' _ _ (s2 _ _ e)) (.inl (by rw[e];simp))
  have k3:=g0.tb.step hm kp hT1 s13
  exact q H3 v ((KpT.of s0).trans k3.1) k3.2 (hp.tp λb xs e=>bk _ _ e (.inr (by intro _ _ z;cases z)))
def q168{e:Nat}{w:Int}{us:List Int}(h:us.Perm vs):(halfO e w us).Perm (halfO e w vs):=(h.filter _).map _
def q743{L:Nat}{low:Int}{us:List TS.I3}(hgd:∀ g∈gs,GoodS L g)(h:us.Perm (thG low 0 gs)):(offs low (us.map (·.1))).Perm (Wh gs)/\Wths low L (us.map (·.1)):=by
 have h1:(us.map (·.1)).Perm ((Wh gs).map λo=>low+o):=by
  rw[<- q737 0 gs hgd]
  exact h.map _
 refine⟨?_,λn hn=>?_⟩
 ·have h2:((us.map (·.1)).map λn=>n-low).Perm (((Wh gs).map λo=>low+o).map λn=>n-low):=h1.map _
  have e:(((Wh gs).map λo=>low+o).map λn=>n-low)=Wh gs:=by
   rw[map_map,show((λn:Int=>n-low)∘λo=>low+o)=id from funext λo=>by show low+o-low=o;exact W5,map_id]
  rw[e]at h2
  exact h2
 ·obtain⟨o,ho,rfl⟩:=eE (h1.mem_iff.mp hn)
  have:=W_in hgd o ho
  lia
theorem q504(q:Int->Bool)(m:Int):∀ ns:List Int,(ns.filter q).length=((ns.filter λn=>decide (n<m)).filter q).length+((ns.filter λn=>decide (m<=n)).filter q).length
 | []=>rfl
 | n::ns=>by
  have ih:=q504 q m ns
  by_cases c:n<m
  ·have c2:¬ m<=n:=(W47 c)
   rw[YO (p:=λn=>decide (n<m)),ZL (ZA c),YO (p:=λn=>decide (m<=n)),ZJ (by rw[ZI c2];exact fnt)]
   by_cases c3:q n=true
   ·rw[YR c3,YR c3,WT,WT]
    exact W44 ih
   ·rw[YS c3,YS c3]
    exact ih
  ·have c2:m<=n:=(W13 c)
   rw[YO (p:=λn=>decide (n<m)),ZJ (by rw[ZI c];exact fnt),YO (p:=λn=>decide (m<=n)),ZL (ZA c2)]
   by_cases c3:q n=true
   ·rw[YR c3,YR c3,WT,WT]
    exact W48 ih
   ·rw[YS c3,YS c3]
    exact ih
theorem q77{num:Int}:∀{e:Nat}{low:Int}{ns:List Int}{p:Pp},Wths low e ns->q35 e (offs low ns) p->(q21 e low p).any (badC num)=false->sumB num (q21 e low p)=((ns.filter λn=>decide (n<num)).length:Int)
 | e,low,ns,.all n,hw,hd,hb=>by
  have hn:n=(ns.length:Int):=by
   have:=q427 hd
   rw[ZN]at this
   exact this
  have hp:=p2pos e
  rw[q98]at hb ⊢
  have hb':badC num (low,low+2^e-1,n)=false:=by
   have:(badC num (low,low+2^e-1,n)||false)=false:=hb
   rwa [Bool.or_false]at this
  have es:sumB num [(low,low+2^e-1,n)]=(if low+2^e-1<num then n else 0)+0:=rfl
  rw[es,Int.add_zero]
  by_cases c1:low+2^e-1<num
  ·rw[ZL c1,List.filter_eq_self.mpr λx hx=>ZA (by have:=hw x hx;lia)]
   exact hn
  ·rw[ZJ c1]
   by_cases c2:low<num
   ·have c3:¬ 0<n:=λz=>by
     have:badC num (low,low+2^e-1,n)=true:=by
      show(decide (0<n)&&(decide (low<num)&&decide (num<=low+2^e-1)))=true
      rw[ZA z,ZA c2,ZA {}]
      rfl
     rw[hb']at this
     cases this
    have:ns=[]:=eq_nil_of_length_eq_zero {}
    rw[this]
    rfl
   ·rw[List.filter_eq_nil_iff.mpr λx hx z=>by have:=hw x hx;have:=ZF z;lia]
    rfl
 | 0,_,_,.split _ _ _,_,hd,_=>hd.elim
 | e+1,low,ns,.split n l r,hw,hd,hb=>by
  have hb':(q21 e low l++q21 e (low+2^e) r).any (badC num)=false:=hb
  rw[any_append,Bool.or_eq_false_iff]at hb'
  have h1:=hd.2.1
  have h2:=hd.2.2
  rw[q540 hw]at h1
  rw[q541 hw]at h2
  have i1:=q77 hw.loH h1 hb'.1
  have i2:=q77 hw.hiH h2 hb'.2
  show sumB num (q21 e low l++q21 e (low+2^e) r)=_
  have es:sumB num (q21 e low l++q21 e (low+2^e) r)=sumB num (q21 e low l)+sumB num (q21 e (low+2^e) r):=by
   unfold sumB
   rw[WS,sum_append]
  rw[es,i1,i2,q504 (λn=>decide (n<num)) (low+2^e) ns]
  exact W32
def due_true{num many:Int}{cs:List TS.I3}(h:dueF cs num many=true):cs.any (badC num)=false/\sumB num cs=many:=by
 unfold dueF at h
 rw[WC]at h
 refine⟨?_,ZF h.2⟩
 cases z:cs.any (badC num) with
 | false=>rfl
 | true=>rw[z]at h;exact absurd h.1 fnt
theorem q329{part tot:Int}:∀{lo hi:Int}{cs:List TS.I3}{ps:List P2},Chain lo cs hi->oftF part tot cs=some ps->ps.Pairwise (λp q=>p.1<q.1)/\(∀ p∈ps,lo<=p.1) /\ ∀ p,p∈ps↔∃ c∈cs,c.1=p.1/\c.2.1=p.1/\c.2.2=p.2/\tot<c.2.2*part
 | _,_,[],ps,_,h=>by
  cases h
  exact⟨.nil,λp hp=>absurd hp (by simp),λp=>⟨λz=>absurd z (by simp),λ⟨c,hc,_⟩=>absurd hc (by simp)⟩⟩
 | lo,_,c::cs,ps,hc,h=>by
  have e0:oftF part tot (c::cs)=if tot<c.2.2*part then(if c.1<c.2.1 then none else(oftF part tot cs).map λl=>(c.1,c.2.2)::l)else oftF part tot cs:=rfl
  rw[e0]at h
  have h1:=hc.1
  have h2:=hc.2.1
  by_cases k:tot<c.2.2*part
  ·rw[ZL k]at h
   by_cases k2:c.1<c.2.1
   ·rw[ZL k2]at h;cases h
   ·rw[ZJ k2]at h
    cases ho:oftF part tot cs with
    | none=>rw[ho]at h;cases h
    | some qs=>
     rw[ho]at h
     cases h
     obtain⟨i1,i2,i3⟩:=q329 hc.2.2 ho
     refine⟨List.pairwise_cons.mpr ⟨λp hp=>?_,i1⟩,λp hp=>?_,λp=>?_⟩
     ·have:=i2 p hp
      show c.1<p.1
      lia
     ·rcases eB hp with z | z
      ·rw[z];show lo<=c.1;lia
      ·have:=i2 p z;lia
     ·constructor
      ·intro hp
       rcases eB hp with z | z
       ·rw[z]
        exact⟨c,WD,rfl,by show c.2.1=c.1;lia,rfl,k⟩
       ·obtain⟨c',hc',z'⟩:=(i3 p).mp z
        exact⟨c',ZY _ hc',z'⟩
      ·rintro ⟨c',hc',z1,z2,z3,z4⟩
       rcases eB hc' with z | z
       ·subst z
        exact List.mem_cons.mpr (.inl (Prod.ext z1.symm z3.symm))
       ·exact ZY _ ((i3 p).mpr ⟨c',z,z1,z2,z3,z4⟩)
  ·rw[ZJ k]at h
   obtain⟨i1,i2,i3⟩:=q329 hc.2.2 h
   refine⟨i1,λp hp=>by have:=i2 p hp;lia,λp=>?_⟩
   rw[i3 p]
   constructor
   ·rintro ⟨c',hc',z⟩
    exact⟨c',ZY _ hc',z⟩
   ·rintro ⟨c',hc',z1,z2,z3,z4⟩
    rcases eB hc' with z | z
    ·subst z;exact absurd z4 k
    ·exact⟨c',z,z1,z2,z3,z4⟩
theorem q290{part tot:Int}:∀{cs:List TS.I3},oftF part tot cs≠none -> ∀ c∈cs,tot<c.2.2*part -> ¬ c.1<c.2.1
 | [],_,c,hc,_=>absurd hc (by simp)
 | d::cs,h,c,hc,hk=>by
  have e0:oftF part tot (d::cs)=if tot<d.2.2*part then(if d.1<d.2.1 then none else(oftF part tot cs).map λl=>(d.1,d.2.2)::l)else oftF part tot cs:=rfl
  rw[e0]at h
  by_cases k:tot<d.2.2*part
  ·rw[ZL k]at h
   by_cases k2:d.1<d.2.1
   ·rw[ZL k2]at h;exact absurd rfl h
   ·rw[ZJ k2]at h
    rcases eB hc with z | z
    ·rw[z];exact k2
    ·exact q290 (λy=>h (by rw[y];rfl)) c z hk
  ·rw[ZJ k]at h
   rcases eB hc with z | z
   ·rw[z]at hk;exact absurd hk k
   ·exact q290 h c z hk
def q330{e:Nat}{low part tot:Int}{ms:List Int}(hw:Wths low e ws)(hd:q35 e (offs low ws) p)(hm:∀ x,x∈ms↔x∈ws)(hs:ms.Pairwise (·<·))(hp1:1<=part)(ht0:0<=tot)(h:ansF (oftF part tot (q21 e low p)) told=true):told=(withM ws ms).filter λq=>decide (tot<q.2*part):=by
 have hch:=q42 (low:=low) (q41 hd)
 cases ho:oftF part tot (q21 e low p) with
 | none=>rw[ho]at h;cases h
 | some ps=>
  rw[ho]at h
  have hpt:ps=told:=ZF h
  subst hpt
  obtain⟨i1,_,i3⟩:=q329 hch ho
  have hno:=q290 (part:=part) (tot:=tot) (cs:=q21 e low p) (by rw[ho];exact λz=>by cases z)
  refine q742 i1 ?_ λq=>?_
  ·refine List.Pairwise.filter _ ?_
   unfold withM
   rw[pairwise_map]
   exact hs
  ·rw[i3 q,mem_filter]
   constructor
   ·rintro ⟨c,hc,c1,c2,c3,c4⟩
    have pc:=(q57 hw hd c hc).1
    rw[c1,c2,q200]at pc
    have hpos:0<c.2.2:=by
     refine Classical.byContradiction λz=>?_
     have:c.2.2*part<=0*part:=Int.mul_le_mul_of_nonneg_right {} (W85 hp1)
     lia
    exists List.mem_map.mpr ⟨q.1,(hm _).mpr (List.count_pos_iff.mp {}),Prod.ext rfl (by show((ws.count q.1:Nat):Int)=q.2;lia)⟩
    rw[<- c3]
    exact ZA c4
   ·rintro ⟨hq,hk⟩
    obtain⟨x,hx,rfl⟩:=eE hq
    have hk':=ZF hk
    have hxw:=(hm x).mp hx
    obtain⟨d,hdm,d1,d2⟩:=q110 hch (hw x hxw).1 (hw x hxw).2
    have pd:=(q57 hw hd d hdm).1
    have pg:=q592 (ns:=ws) d1 d2
    have hle:((ws.count x:Nat):Int)*part<=d.2.2*part:=Int.mul_le_mul_of_nonneg_right {} (W85 hp1)
    have hkd:tot<d.2.2*part:=by
     have hk2:tot<((ws.count x:Nat):Int)*part:=hk'
     lia
    have hn:=hno d hdm hkd
    have e1:d.1=x:={}
    have e2:d.2.1=x:={}
    rw[e1,e2,q200]at pd
    exact⟨d,hdm,e1,e2,pd,hkd⟩
def cnt_onP{ws us:List Int}{low n:Int}(h:ws.Perm (us.map λo=>low+o)):ws.count n=us.count (n-low):=by
 rw[h.count_eq,count_eq_countP,countP_map,count_eq_countP]
 refine countP_congr λo _=>?_
 show(low+o==n)=true↔(o==n-low)=true
 rw[beq_iff_eq,beq_iff_eq]
 lia
def withM_ca{L:Nat}{low:Int}{us ws ms:List Int}(hin:InO L us)(hws:ws.Perm (us.map λo=>low+o))(hm:∀ w,w∈ms↔w∈ws)(hs:ms.Pairwise (·<·)):withM ws ms=caF 1 0 L low us:=by
 refine q742 ?_ (q422 L low us hin) λ⟨x,m⟩=>?_
 ·unfold withM
  rw[pairwise_map]
  exact hs
 ·rw[q492 L low us hin x m,<- cnt_onP hws]
  unfold withM
  rw[mem_map]
  constructor
  ·rintro ⟨y,hy,e⟩
   have hc:=List.count_pos_iff.mpr ((hm y).mp hy)
   cases e
   exact⟨rfl,{}⟩
  ·rintro ⟨rfl,h⟩
   exact⟨x,(hm x).mpr (List.count_pos_iff.mp {}),rfl⟩
theorem q744{x:Int}:∀{W:List Int}{k:Nat},W.Pairwise (· <= ·)->W.countP (λy=>decide (y<x))<=k->k<W.countP (λy=>decide (y<x+1))->W[k]? = some x
 | [],k,_,_,h2=>absurd h2 (by simp)
 | a::W,k,hs,h1,h2=>by
  obtain⟨ha,hs'⟩:=List.pairwise_cons.mp hs
  rw[YN]at h1 h2
  by_cases c1:a<x
  ·rw[ZL (ZA c1)]at h1
   rw[ZL (ZA {})]at h2
   cases k with
   | zero=>lia
   | succ k=>rw[getElem?_cons_succ];exact q744 hs' {} {}
  ·rw[ZJ (λz=>c1 (ZF z))]at h1
   have z0:W.countP (λy=>decide (y<x))=0:=List.countP_eq_zero.mpr λy hy z=>by
    have:=ha y hy
    have:=ZF z
    lia
   by_cases c2:a<x+1
   ·rw[ZL (ZA c2)]at h2
    cases k with
    | zero=>rw[getElem?_cons_zero];congr 1;lia
    | succ k=>rw[getElem?_cons_succ];exact q744 hs' {} {}
   ·rw[ZJ (λz=>c2 (ZF z))]at h2
    have z1:W.countP (λy=>decide (y<x+1))=0:=List.countP_eq_zero.mpr λy hy z=>by
     have:=ha y hy
     have:=ZF z
     lia
    lia
inductive Qs where
 | below (n a:Int)
 | least (k:Nat) (wo:Int)
 | most (wo m:Int)
 | often (part:Int) (ps:List P2)
 | up (n:Int) (o:Option P2)
noncomputable def Qs.psi(len:Int):Qs->List Int->Bool
 | .below n _=>psB n
 | .least _ wo=>psL wo
 | .most wo m=>psM wo m
 | .often part _=>psO part len
 | .up n o=>psU n o
noncomputable def Qs.sh(len:Int):Qs->List TS.I3->Bool
 | .below n a,cs=>dueF cs n a
 | .least k wo,cs=>q227 k wo cs
 | .most wo m,cs=>mostF wo m cs
 | .often part ps,cs=>ansF (oftF part len cs) ps
 | .up n o,cs=>upF n cs o
noncomputable def Qs.ok(ws ms:List Int):Qs->Prop
 | .below n a=>a=((ws.filter λx=>decide (x<n)).length:Int)
 | .least k wo=>(ws.filter λx=>decide (x<wo)).length<=k/\k<(ws.filter λx=>decide (x<wo)).length+ws.count wo
 | .most wo m=>0<m/\m=(ws.count wo:Int)/\(∀ x,(ws.count x:Int)<=m) /\ ∀ x,x<wo->(ws.count x:Int)<m
 | .often part ps=>1<=part/\ps=(withM ws ms).filter λq=>decide ((ws.length:Int)<q.2*part)
 | .up n none=>∀ x∈ws,x<=n
 | .up n (some q)=>n<q.1/\0<q.2/\q.2=(ws.count q.1:Int) /\ ∀ x∈ws,n<x->q.1<=x
def q639{wo:Int}(h:∀ c∈cs,¬(c.1=wo/\c.2.1=wo)):q33 wo cs=none:=by
 cases e:q33 wo cs with
 | none=>rfl
 | some a=>
  obtain⟨c,hc,h1,h2,_⟩:=q128 e
  exact absurd ⟨h1,h2⟩ (h c hc)
theorem q393{wo:Int}:∀{cs:List TS.I3}{c:TS.I3},c∈cs->c.1=wo->c.2.1=wo -> ∃ a,q33 wo cs=some a
 | d::cs,c,hc,h1,h2=>by
  have e5:q33 wo (d::cs)=if hitC wo d=true then some d.2.2 else q33 wo cs:=rfl
  rw[e5]
  by_cases hd:hitC wo d=true
  ·rw[ZL hd];exact⟨_,rfl⟩
  ·rw[ZJ hd]
   rcases eB hc with z | z
   ·refine absurd ?_ hd
    rw[<- z]
    show(decide (c.1=wo)&&decide (c.2.1=wo))=true
    rw[ZA h1,ZA h2]
    rfl
   ·exact q393 z h1 h2
theorem q430{lo hi:Int}:∀{cs:List TS.I3}{lo:Int},Chain lo cs hi -> ∀ c∈cs,lo<=c.1/\c.1<=c.2.1
 | d::cs,lo,h,c,hc=>by
  have h1:=h.1
  have h2:=h.2.1
  rcases eB hc with z | z
  ·rw[z];lia
  ·have:=q430 (lo:=lo) h.2.2 c z
   lia
theorem q394{hi x:Int}:∀{cs:List TS.I3}{lo:Int},Chain lo cs hi -> ∀ c∈cs,∀ d∈cs,c.1<=x->x<=c.2.1->d.1<=x->x<=d.2.1->c=d
 | e::cs,lo,h,c,hc,d,hd,c1,c2,d1,d2=>by
  rcases eB hc with z | z
  ·rcases eB hd with y | y
   ·rw[z,y]
   ·have:=q430 (lo:=lo) h.2.2 d y
    rw[z]at c2
    lia
  ·rcases eB hd with y | y
   ·have:=q430 (lo:=lo) h.2.2 c z
    rw[y]at d2
    lia
   ·exact q394 h.2.2 c z d y c1 c2 d1 d2
def q431(ws:List Int)(n:Int):(ws.filter λx=>decide (x<n)).length=ws.countP λx=>decide (x<n):=List.countP_eq_length_filter.symm
section
variable {L:Nat}{low:Int}{ws ms:List Int}{p:Pp}(hw:Wths low L ws)(hd:q35 L (offs low ws) p)
include hw hd
theorem q331{c:TS.I3}{wo:Int}(hc:c∈q21 L low p)(h1:c.1=wo)(h2:c.2.1=wo):q33 wo (q21 L low p)=some (ws.count wo:Int):=by
 obtain⟨a,ha⟩:=q393 hc h1 h2
 obtain⟨d,hdm,d1,d2,d3⟩:=q128 ha
 have:=(q57 hw hd d hdm).1
 rw[d1,d2,q200,d3]at this
 rw[ha,this]
theorem q332{q:Qs}(hm:∀ x,x∈ms↔x∈ws)(hs:ms.Pairwise (·<·))(hq:q.ok ws ms)(hn:∀ c∈q21 L low p,c.1=c.2.1\/q.psi ws.length [c.1,c.2.1,c.2.2]=false):q.sh ws.length (q21 L low p)=true:=by
 have hch:=q42 (low:=low) (q41 hd)
 have hpc:=q57 hw hd
 have one:∀ c∈q21 L low p,c.1=c.2.1->c.2.2=(ws.count c.1:Int):=λc hc e=>by
  have:=(hpc c hc).1
  rw[<- e,q200]at this
  exact this
 have cov:∀ x,0<ws.count x -> ∃ c∈q21 L low p,c.1<=x/\x<=c.2.1:=λx hx=>by
  have:=hw x (List.count_pos_iff.mp hx)
  exact q110 hch this.1 this.2
 cases q with
 | below n a=>
  have nb:(q21 L low p).any (badC n)=false:=List.any_eq_false.mpr λc hc z=>by
   have z':(decide (0<c.2.2)&&(decide (c.1<n)&&decide (n<=c.2.1)))=true:=z
   rcases hn c hc with e | e
   ·rw[WC,WC]at z'
    have:=ZF z'.2.1
    have:=ZF z'.2.2
    lia
   ·exact absurd (z'.symm.trans e) ∅
  show dueF _ n a=true
  rw[q591 nb,q77 hw hd nb]
  exact ZA hq.symm
 | least k wo=>
  obtain⟨h1,h2⟩:=hq
  obtain⟨c,hc,c1,c2⟩:=cov wo {}
  have e:c.1=c.2.1:=(hn c hc).resolve_right λz=>by
   have z':(decide (c.1<=wo)&&decide (wo<=c.2.1))=false:=z
   rw[ZA c1,ZA c2]at z'
   cases z'
  have ha:=q331 hw hd hc (wo:=wo) (W65 c2 e c1) (W71 c2 e c1)
  have nb:=(q141 hch ha).1
  show q227 k wo _=true
  unfold q227
  rw[ha,q77 hw hd nb]
  show(decide _&&decide _)=true
  rw[ZA {},ZA {}]
  rfl
 | most wo m=>
  obtain⟨h0,h1,h2,h3⟩:=hq
  obtain⟨c,hc,c1,c2⟩:=cov wo (W43 h0 h1)
  have e:c.1=c.2.1:=(hn c hc).resolve_right λz=>by
   have z':(if c.2.1<wo then decide (m<=c.2.2)else if wo<c.1 then decide (m<c.2.2)else true)=false:=z
   rw[ZJ (W92 c2),ZJ (W92 c1)]at z'
   cases z'
  have ha:=q331 hw hd hc (wo:=wo) (W65 c2 e c1) (W71 c2 e c1)
  have no:(q21 L low p).any (overC wo m)=false:=List.any_eq_false.mpr λd hdm z=>by
   have z':(decide (m<d.2.2)||(decide (d.2.2=m)&&decide (d.2.1<wo)))=true:=z
   rw[Bool.or_eq_true,WC,ZZ,ZZ,ZZ]at z'
   rcases hn d hdm with e | e
   ·have:=one d hdm e
    have:=h2 d.1
    have:=h3 d.1
    lia
   ·have e':(if d.2.1<wo then decide (m<=d.2.2)else if wo<d.1 then decide (m<d.2.2)else true)=false:=e
    by_cases k1:d.2.1<wo
    ·rw[ZL k1,YV]at e'
     lia
    ·rw[ZJ k1]at e'
     by_cases k2:wo<d.1
     ·rw[ZL k2,YV]at e'
      lia
     ·rw[ZJ k2]at e'
      cases e'
  show mostF wo m _=true
  unfold mostF
  rw[ha,<- h1,no,ZA h0,ZA rfl]
  rfl
 | often part ps=>
  obtain⟨h1,h2⟩:=hq
  have ex:∀ cs:List TS.I3,(∀ c∈cs,(ws.length:Int)<c.2.2*part -> ¬ c.1<c.2.1) -> ∃ l,oftF part ws.length cs=some l:=by
   intro cs
   induction cs with
   | nil=>exact λ_=>⟨_,rfl⟩
   | cons d cs ih=>
    intro h
    obtain⟨l,hl⟩:=ih λc hc=>h c (ZY _ hc)
    have e0:oftF part ws.length (d::cs)=if(ws.length:Int)<d.2.2*part then(if d.1<d.2.1 then none else(oftF part ws.length cs).map λl=>(d.1,d.2.2)::l)else oftF part ws.length cs:=rfl
    rw[e0,hl]
    by_cases k:(ws.length:Int)<d.2.2*part
    ·rw[ZL k,ZJ (h d WD k)];exact⟨_,rfl⟩
    ·rw[ZJ k];exact⟨_,rfl⟩
  obtain⟨l,hl⟩:=ex (q21 L low p) λc hc k z=>by
   rcases hn c hc with e | e
   ·lia
   ·have e':decide ((ws.length:Int)<c.2.2*part)=false:=e
    rw[ZA k]at e'
    cases e'
  have hp:=q330 (part:=part) (tot:=ws.length) (told:=l) hw hd hm hs h1 W38 (by rw[hl];exact ZA rfl)
  show ansF (oftF part ws.length _) ps=true
  rw[hl,h2,hp]
  exact ZA rfl
 | up n o=>
  cases o with
  | none=>
   have hq':∀ x∈ws,x<=n:=hq
   show(!((q21 L low p).any (abvC n)))=true
   rw[List.any_eq_false.mpr λc hc z=>?_]
   ·rfl
   have z':(decide (0<c.2.2)&&decide (n<c.2.1))=true:=z
   rw[WC,ZZ,ZZ]at z'
   rcases hn c hc with e | e
   ·have h1:=one c hc e
    have:=hq' c.1 (List.count_pos_iff.mp {})
    lia
   ·have e':(if c.2.2=0\/c.2.1<=n then false else true)=false:=e
    rw[ZJ {}]at e'
    cases e'
  | some r=>
   obtain⟨h1,h2,h3,h4⟩:n<r.1/\0<r.2/\r.2=(ws.count r.1:Int) /\ ∀ x∈ws,n<x->r.1<=x:=hq
   obtain⟨c,hc,c1,c2⟩:=cov r.1 (W43 h2 h3)
   have cg:=q592 (ns:=ws) c1 c2
   have cc:=(hpc c hc).1
   have e:c.1=c.2.1:=(hn c hc).resolve_right λz=>by
    have z':(if c.2.2=0\/c.2.1<=n then false else decide (c.1<=r.1))=false:=z
    rw[ZJ {},ZA c1]at z'
    cases z'
   have ha:=q331 hw hd hc (wo:=r.1) (W65 c2 e c1) (W71 c2 e c1)
   have no:((q21 L low p).any λc=>abvC n c&&decide (c.1<r.1))=false:=List.any_eq_false.mpr λd hdm z=>by
    have z':((decide (0<d.2.2)&&decide (n<d.2.1))&&decide (d.1<r.1))=true:=z
    rw[WC,WC,ZZ,ZZ,ZZ]at z'
    rcases hn d hdm with e | e
    ·have h5:=one d hdm e
     have:=h4 d.1 (List.count_pos_iff.mp {}) {}
     lia
    ·have e':(if d.2.2=0\/d.2.1<=n then false else decide (d.1<=r.1))=false:=e
     rw[ZJ {},ZA {}]at e'
     cases e'
   show(decide (n<r.1)&&(decide (0<r.2)&&(decide (q33 r.1 _=some r.2)&&!(_))))=true
   rw[no,ha,<- h3,ZA h1,ZA h2,ZA rfl]
   rfl
theorem shows_no{q:Qs}{c:TS.I3}(hc:c∈q21 L low p)(hl:c.1<c.2.1)(hp:q.psi ws.length [c.1,c.2.1,c.2.2]=true)(hq:q.ok ws ms):q.sh ws.length (q21 L low p)=false:=by
 have hch:=q42 (low:=low) (q41 hd)
 have al:∀ wo,c.1<=wo->wo<=c.2.1->q33 wo (q21 L low p)=none:=λwo h1 h2=>q639 λd hdm ⟨d1,d2⟩=>by
  have:=q394 (x:=wo) hch c hc d hdm h1 h2 {} {}
  rw[this]at hl
  lia
 cases q with
 | below n a=>
  show dueF _ n a=false
  unfold dueF
  rw[List.any_eq_true.mpr ⟨c,hc,hp⟩]
  rfl
 | least k wo=>
  have hp':(decide (c.1<=wo)&&decide (wo<=c.2.1))=true:=hp
  rw[WC,ZZ,ZZ]at hp'
  show q227 k wo _=false
  unfold q227
  rw[al wo hp'.1 hp'.2]
 | most wo m=>
  have hp':(if c.2.1<wo then decide (m<=c.2.2)else if wo<c.1 then decide (m<c.2.2)else true)=true:=hp
  show mostF wo m _=false
  unfold mostF
  have ov:overC wo m c=true->(decide (0<m)&&(decide (q33 wo (q21 L low p)=some m)&&!((q21 L low p).any (overC wo m))))=false:=λz=>by
   rw[List.any_eq_true.mpr ⟨c,hc,z⟩,Bool.not_true,WL,WL]
  by_cases k1:c.2.1<wo
  ·rw[ZL k1,ZZ]at hp'
   refine ov ?_
   show(decide (m<c.2.2)||(decide (c.2.2=m)&&decide (c.2.1<wo)))=true
   rw[ZA k1,Bool.and_true,Bool.or_eq_true,ZZ,ZZ]
   lia
  ·rw[ZJ k1]at hp'
   by_cases k2:wo<c.1
   ·rw[ZL k2,ZZ]at hp'
    refine ov ?_
    show(decide (m<c.2.2)||(decide (c.2.2=m)&&decide (c.2.1<wo)))=true
    rw[ZA hp',Bool.true_or]
   ·rw[al wo (W13 k2) (W13 k1),ZI (show ¬(none:Option Int)=some m by intro z;cases z),WP,WL]
 | often part ps=>
  have hp':(ws.length:Int)<c.2.2*part:=ZF hp
  show ansF (oftF part ws.length _) ps=false
  cases e:oftF part ws.length (q21 L low p) with
  | none=>rfl
  | some l=>exact absurd hl (q290 (by rw[e];intro z;cases z) c hc hp')
 | up n o=>
  cases o with
  | none=>
   have hp':(if c.2.2=0\/c.2.1<=n then false else true)=true:=hp
   have hc0:=(q57 hw hd c hc).1
   show(!((q21 L low p).any (abvC n)))=false
   rw[List.any_eq_true.mpr ⟨c,hc,?_⟩]
   ·rfl
   show(decide (0<c.2.2)&&decide (n<c.2.1))=true
   by_cases k:c.2.2=0\/c.2.1<=n
   ·rw[ZL k]at hp';cases hp'
   ·rw[ZA {},ZA {}];rfl
  | some r=>
   have hp':(if c.2.2=0\/c.2.1<=n then false else decide (c.1<=r.1))=true:=hp
   have hc0:=(q57 hw hd c hc).1
   obtain⟨h1,h2,h3,h4⟩:n<r.1/\0<r.2/\r.2=(ws.count r.1:Int) /\ ∀ x∈ws,n<x->r.1<=x:=hq
   by_cases k:c.2.2=0\/c.2.1<=n
   ·rw[ZL k]at hp';cases hp'
   rw[ZJ k,ZZ]at hp'
   show(decide (n<r.1)&&(decide (0<r.2)&&(decide (q33 r.1 _=some r.2)&&!(_))))=false
   by_cases k2:c.1=r.1
   ·rw[al r.1 {} {},ZI (show ¬(none:Option Int)=some r.2 by intro z;cases z),WP,WL,WL]
   ·rw[List.any_eq_true.mpr ⟨c,hc,?_⟩,Bool.not_true,WL,WL,WL]
    show((decide (0<c.2.2)&&decide (n<c.2.1))&&decide (c.1<r.1))=true
    rw[ZA {},ZA {},ZA {}]
    rfl
end
theorem q432{φ:Int->Int->Int->Bool}:∀{e:Nat}{low:Int}{us vs:List Int},us.Perm vs->papF φ e low us=papF φ e low vs
 | 0,_,us,vs,h=>by unfold papF;rw[h.length_eq]
 | e+1,low,us,vs,h=>by
  unfold papF
  rw[h.length_eq,q432 (q168 h),q432 (q168 h)]
theorem q291{φ:Int->Int->Int->Bool}:∀(e:Nat)(low:Int)(us:List Int),q35 e us (papF φ e low us)
 | 0,_,_=>rfl
 | e+1,low,us=>by
  unfold papF
  split
  ·exact⟨rfl,q291 e _ _,q291 e _ _⟩
  ·rfl
theorem q78:∀{e:Nat}{us vs:List Int}{p:Pp},us.Perm vs->q35 e us p->q35 e vs p
 | 0,us,vs,.all n,h,d=>by
  show n=_
  rw[<- h.length_eq]
  exact d
 | e+1,us,vs,.all n,h,d=>by
  show n=_
  rw[<- h.length_eq]
  exact d
 | 0,_,_,.split _ _ _,_,d=>d.elim
 | e+1,us,vs,.split n l r,h,d=>⟨by rw[<- h.length_eq];exact d.1,q78 (q168 h) d.2.1,q78 (q168 h) d.2.2⟩
theorem q333:∀(e:Nat)(low:Int)(us:List Int),∀ c∈q21 e low (papF φ e low us),c.1=c.2.1\/φ c.1 c.2.1 c.2.2=false
 | 0,low,us,c,hc=>by
  have e:c=(low,low+2^0-1,(us.length:Int)):=eD hc
  rw[e]
  exact .inl (by show low=low+2^0-1;exact W30)
 | e+1,low,us,c,hc=>by
  unfold papF at hc
  split at hc
  ·rcases eC (show c∈q21 e low _++q21 e (low+2^e) _ from hc)with h | h
   ·exact q333 e low _ c h
   ·exact q333 e _ _ c h
  ·rename_i k
   have e:c=(low,low+2^(e+1)-1,(us.length:Int)):=eD hc
   rw[e]
   exact .inr (Bool.eq_false_iff.mpr k)
noncomputable def waysP:Pp->LL
 | .all _=>[]
 | .split _ l r=>[[]]++(waysP l).map (λx=>0::x)++(waysP r).map λx=>1::x
noncomputable def gI(low:Int)(e:Nat)(g:Int):Nat:=if low<=g/\g<low+2^e then 1 else 0
def gI_half(low:Int)(e:Nat)(g:Int):gI low e g+gI (low+2^e) e g<=gI low (e+1) g:=by
 have h2:(2:Int)^(e+1)=2^e+2^e:=by rw[YK];lia
 have hp:=p2pos e
 unfold gI
 split <;> split <;> split <;> lia
theorem q248(g:Int)(h:∀ a b c:Int,φ a b c=true->c≠0\/(a<=g/\g<=b)):∀(e:Nat)(low:Int)(us:List Int),(papF φ e low us).leaves<=e*(us.length+gI low e g)+1
 | 0,low,us=>by
  show 1<=_
  lia
 | e+1,low,us=>by
  unfold papF
  split
  ·rename_i k
   have i0:=q248 g h e low (halfO e 0 us)
   have i1:=q248 g h e (low+2^e) (halfO e 1 us)
   have hs:=q220 (e:=e) us
   have hg:=gI_half low e g
   have h1:1<=us.length+gI low (e+1) g:=by
    rcases h _ _ _ k with z | z
    ·lia
    ·have:gI low (e+1) g=1:=ZL {}
     lia
   show(papF φ e low (halfO e 0 us)).leaves+(papF φ e (low+2^e) (halfO e 1 us)).leaves<=_
   have m1:e*((halfO e 0 us).length+gI low e g)+e*((halfO e 1 us).length+gI (low+2^e) e g)<=e*(us.length+gI low (e+1) g):=by
    rw[<- Nat.mul_add]
    exact Nat.mul_le_mul_left _ {}
   have m2:(e+1)*(us.length+gI low (e+1) g)=e*(us.length+gI low (e+1) g)+(us.length+gI low (e+1) g):=Nat.succ_mul ..
   lia
  ·show 1<=_
   lia
noncomputable def Qs.g:Qs->Int
 | .least _ wo=>wo
 | .most wo _=>wo
 | _=>0
def Qs.lv{q:Qs}(h:q.ok ws ms)(len:Int)(hl:0<=len):∀ a b c:Int,f3 (q.psi len) a b c=true->c≠0\/(a<=q.g/\q.g<=b):=λa b c k=>by
 cases q with
 | below n x=>
  have k':(decide (0<c)&&(decide (a<n)&&decide (n<=b)))=true:=k
  rw[WC,ZZ]at k'
  exact .inl {}
 | least k' wo=>
  have k':(decide (a<=wo)&&decide (wo<=b))=true:=k
  rw[WC,ZZ,ZZ]at k'
  exact .inr k'
 | most wo m=>
  have k':(if b<wo then decide (m<=c)else if wo<a then decide (m<c)else true)=true:=k
  have h0:=h.1
  by_cases c1:b<wo
  ·rw[ZL c1,ZZ]at k'
   exact .inl {}
  ·rw[ZJ c1]at k'
   by_cases c2:wo<a
   ·rw[ZL c2,ZZ]at k'
    exact .inl {}
   ·exact .inr ⟨by show a<=wo;exact W13 c2,by show wo<=b;exact W13 c1⟩
 | often part ps=>
  have k':len<c*part:=ZF k
  refine .inl λz=>?_
  rw[z,Int.zero_mul]at k'
  lia
 | up n o=>
  refine .inl λz=>?_
  have k':(if c=0\/b<=n then false else _)=true:=k
  rw[ZL (.inl z)]at k'
  cases k'
noncomputable def Qs.pap(low:Int)(L:Nat)(us:List Int)(q:Qs):Pp:=papF (f3 (q.psi us.length)) L low us
section
variable {L:Nat}{low:Int}{us ws ms:List Int}{q:Qs}(hw:Wths low L ws)(hp:(offs low ws).Perm us)(hL:L<=40)(h9:us.length<=900)(hm:∀ x,x∈ms↔x∈ws)(hs:ms.Pairwise (·<·))(hq:q.ok ws ms)
include hw hp hL h9 hm hs hq
theorem told_lv:(q.pap low L us).leaves<=90000:=by
 have h1:=q248 q.g (q.lv hq us.length {}) L low us
 have h2:gI low L q.g<=1:=by unfold gI;split <;> lia
 have h3:L*(us.length+gI low L q.g)<=40*901:=Nat.mul_le_mul hL {}
 unfold Qs.pap
 lia
theorem told_yes:q.sh us.length (q21 L low (q.pap low L us))=true:=by
 have hl:us.length=ws.length:=by rw[<- hp.length_eq,ZN]
 have hd:q35 L (offs low ws) (q.pap low L us):=q78 hp.symm (q291 L low us)
 have:=q332 hw hd hm hs hq (λc hc=>by rw[<- hl];exact q333 L low us c hc)
 rw[hl]
 exact this
end
def WyAt(K:Fg)(H:Hp)(v:V)(x:List Int):Prop:=∃ a,v = .ref a/\H a=some (.tup (x.map V.int))
def WyAt.same(s:Same H H')(h:WyAt K H v x):WyAt K H' v x:=by
 obtain⟨a,e,h⟩:=h
 exact⟨a,e,s _ _ h⟩
def WyAt.put(e:H D=some (.lst ys))(h:WyAt K H v x):WyAt K (upd H D (.lst zs)) v x:=by
 obtain⟨a,ea,h⟩:=h
 exists a,ea
 have k:=Keep.set D H (.lst zs)
 exact k _ _ (ne_of h e (by intro z;cases z)) h
theorem q142:∀ p:Pp,(waysP p).length+1=p.leaves
 | .all _=>rfl
 | .split n l r=>by
  show(_++_++_:LL).length+1=l.leaves+r.leaves
  rw[ZU,ZU,ZN,ZN,<- q142 l,<- q142 r]
  show 1+_+_+1=_
  lia
theorem q545:∀{p:Pp},∀ x∈waysP p,x.length<dpP p
 | .split n l r,x,hx=>by
  show _<max (dpP l) (dpP r)+1
  rcases eC hx with hx | hx
  ·rcases eC hx with hx | hx
   ·rw[eD hx]
    exact Nat.succ_pos _
   ·obtain⟨y,hy,rfl⟩:=eE hx
    have:=q545 y hy
    rw[WT]
    lia
  ·obtain⟨y,hy,rfl⟩:=eE hx
   have:=q545 y hy
   rw[WT]
   lia
abbrev q505:Nat:=0
abbrev q270:Nat:=40
inductive q143(K:Fg)(e:Nat)(vs:List V)(H:Hp)(Q:VK)(E:XK):Prop
 |mk(v:V)(p:Pp)(_:vs=[v])(_:PpAt H v p)(_:dpP p<=e)(_:p.leaves<=90000)(_:∀(D:Addr)(zs:List V)(H':Hp),Same H H'->H D=none->H' D=some (.lst zs)->Paired (WyAt K H') zs (waysP p)->Q (.ref D) H')
def q506(K:Fg):Sp:=λvs H Q E=>∃ e,e<=q270/\q143 K e vs H Q E
def q271:z.C P w 41 "_law_ways" ["_law_paper"] (q506 K):=by
 have sc:=q477
 refine z.d__law_ways.recur (k:=q505) (sp:=q143 K) q270 λe hen c__law_ways f fd F=>F.k sc λ_ _ _ s H _ Q _ hr h=>?_
 obtain⟨v,p,rfl,hp,hdp,hlv,q⟩:=h
 refine⟨_,(q11 (ps_if (q18 op_eq (pix q26 (pv 0) q14) q34 (q19 _))
 (q16 (q20 (q38 q13)))
 q22)
 (q11 (pst 1 sc.nd (q38 (pa1 (q30 q13))))
 (q11 (q62 PassesOwn.never rfl (q435 (q30 (pa2 q14 q14))) (pgn 2 sc.nd)
 (q16 (pst 1 sc.nd (pe_op q169 (pv 1) (q133 (cl:=[("_law_mark", s.heap.objs.size+1+0)]) (cn:=["_law_mark"]) (N:=["_law_mark"]) (fr:=[2]) (sc0:=q17 q195) rfl (q31 (pe_fn c__law_ways (hr.mono (ZH _)) () (pa1 (pix q26 (pv 0) (pe_op q29 q14 (pv 2)))))) (λC s₂ H₂ fp=>(pe_op (op_catUK (K:=K) rfl) (q30 (pa1 (pv 1))) (pv 0))) (by ac_rfl) ⟨by ac_rfl,trivial⟩ rfl rfl rfl cok rfl)))))
 (q16 (q20 (pv 1)))))),?_⟩
 have hen':e<=40:=hen
 cases p with
 | all n=>
  obtain⟨a,rfl,h⟩:=hp
  refine⟨_,rfl,a,_,_,_,rfl,rfl,SqT.of h,rfl,rfl,_,rfl,ite2 (λ_=>?_) (na rfl)⟩
  exact⟨szb rfl,λD hD=>q D [] _ (q15 hD _) hD q12 .nil⟩
 | split n l r=>
  obtain⟨a,x,y,rfl,h,hx,hy⟩:=hp
  refine⟨_,rfl,a,_,_,_,rfl,rfl,SqT.of h,rfl,rfl,_,rfl,ite2 (λz=>absurd (ZF z) (by intro z;injection z with z;exact absurd z ∅)) (λ_=>?_)⟩
  have hdp':max (dpP l) (dpP r)+1<=e:=hdp
  have hlv':l.leaves+r.leaves<=90000:=hlv
  have wl:=q142 l
  have wr:=q142 r
  obtain⟨e,rfl⟩:∃ e',e=e'+1:=⟨e-1,{}⟩
  refine⟨szb rfl,λt0 ht0=>⟨szb rfl,λD0 hD0=>?_⟩⟩
  have s0:=q15 ht0 (.tup [])
  have e0:=@q12 H t0 (.tup [])
  generalize upd H t0 (.tup [])=H0 at *
  have s1:=q15 hD0 (.lst [V.ref t0])
  have e1:=@q12 H0 D0 (.lst [V.ref t0])
  have s01:=s0.trans s1
  have hnD:H D0=none:=q198 s0 hD0
  have ew:WyAt K (upd H0 D0 (.lst [V.ref t0])) (.ref t0) []:=⟨t0,rfl,s1 _ _ e0⟩
  generalize upd H0 D0 (.lst [V.ref t0])=H1 at *
  refine⟨szb rfl,λtp htp=>?_⟩
  have s2:=q15 htp (.tup [V.int 0,.int 1])
  have e2:=@q12 H1 tp (.tup [V.int 0,.int 1])
  have s02:=s01.trans s2
  have hD2:=s2 _ _ e1
  have ew2:=ew.same s2
  generalize upd H1 tp (.tup [V.int 0,.int 1])=H2 at *
  refine⟨tp,rfl,⟨_,SqT.of e2⟩,q295 (K:=K) (a:=tp) (xs:=[V.int 0,.int 1]) (λi σ G=>∃(D:Addr)(zs:List V)(w2:Option V),σ=[some (.ref a),some (.ref D),w2]/\Same H2 G/\G D=some (.lst zs)/\H D=none/\Paired (WyAt K G) zs ([[]]++([(waysP l).map λx=>0::x,(waysP r).map λx=>1::x].take i).flatten))
   ⟨D0,_,_,rfl,Same.refl _,hD2,hnD,.cons ew2 .nil⟩ (λi σ G _ ⟨_,_,_,_,s,_⟩=>SqT.of (s _ _ e2)) ?_ ?_⟩
  ·rintro i y' σ G hi ⟨D,zs,w2,rfl,sG,hDG,hnG,hzs⟩
   obtain⟨mk,vv,xx,rfl,hat,hxx,hfl,hlv2,hdp2,hcn⟩:∃(mk:Int)(vv:V)(xx:Pp),y' = .int mk/\atI [V.str "split", V.int n,x,y] (2+mk)=some vv/\PpAt H vv xx/\[(waysP l).map λx=>0::x,(waysP r).map λx=>1::x][i]? = some ((waysP xx).map λx=>mk::x)/\xx.leaves<=90000/\dpP xx<=e/\(([(waysP l).map λx=>0::x,(waysP r).map λx=>1::x].take i).flatten:LL).length+(waysP xx).length<=(waysP l).length+(waysP r).length:=by
    match i,hi with
    | 0,hi=>cases hi;exact⟨0,x,_,rfl,rfl,hx,rfl,{},{},by show 0+_<=_;lia⟩
    | 1,hi=>cases hi;exact⟨1,y,_,rfl,rfl,hy,rfl,{},{},by show List.length (_++[])+_<=_;rw[append_nil,ZN];exact ZH _⟩
   have sHG:=s02.trans sG
   refine⟨_,rfl,_,rfl,_,rfl,_,_,rfl,rfl,a,_,_,_,rfl,rfl,SqT.of (sHG _ _ h),hat,vv,xx,rfl,hxx.same sHG,hdp2,hlv2,λE ys G1 t1 hE0 hE hys=>?_⟩
   have hyl:=Paired.length hys
   have wxx:=q142 xx
   refine⟨E,rfl,⟨_,SqL.of hE⟩,λDc hDc=>?_⟩
   refine q64 (K:=K) (xs:=ys) (szB {}) (λj out G2=>G2 Dc=some (.lst out)/\Same G1 G2/\out.length=j/\Paired (WyAt K G2) out (((waysP xx).map λx=>mk::x).take j)) ⟨q12,q15 hDc _,rfl,.nil⟩ (λj out G2 ⟨_,s,_⟩=>SqL.of (s _ _ hE)) (λj out G2 ⟨a1,_,a3,_⟩=>⟨a1,a3⟩) ?_ ?_
   ·rintro j z out G2 hj ⟨a1,sG2,a3,a4⟩
    obtain⟨wy,gwy,wa,rfl,hwa⟩:=q109 hys hj
    have hwl:=q545 wy (WQ gwy)
    refine⟨_,rfl,szb rfl,λt3 ht3=>?_⟩
    have s3:=q15 ht3 (.tup [V.int mk])
    have e3:=@q12 G2 t3 (.tup [V.int mk])
    have a1':=s3 _ _ a1
    have a4':Paired (WyAt K (upd G2 t3 (.tup [V.int mk]))) out _:=L2.Paired.mapP a4 λ_ _ z=>z.same s3
    generalize upd G2 t3 (.tup [V.int mk])=G3' at *
    refine⟨_,rfl,t3,wa,_,_,rfl,rfl,SqT.of e3,SqT.of ((sG2.trans s3) _ _ hwa),sz (by rw[ZN];show 1+_<=_;lia),λp4 G4 s4 _ hp4=>?_⟩
    have a1'':=s4 _ _ a1'
    exists a1'',q12,Same.own ((sG2.trans s3).trans s4) hDc,by rw[ZU,a3];rfl
    rw[WW,WM,gwy]
    exact q61 (L2.Paired.mapP a4' λ_ _ z=>(z.same s4).put a1'') (.cons (WyAt.put a1'' ⟨p4,rfl,hp4 e3 ((sG2.trans s3) _ _ hwa)⟩) .nil)
   ·rintro out G2 ⟨a1,sG2,a3,a4⟩
    have el:ys.length=((waysP xx).map λx=>mk::x).length:=by rw[hyl,ZN]
    rw[el,YF]at a4
    have hDG2:=sG2 _ _ (t1 _ _ hDG)
    have hzl:=Paired.length hzs
    have hzb:zs.length+out.length<=100000:=by
     rw[ZU]at hzl
     have h1:([[]]:LL).length=1:=rfl
     rw[a3,hyl]
     lia
    refine⟨D,Dc,zs,out,rfl,rfl,hDG2,a1,szB hzb,λD9 hD9=>?_⟩
    have s9:=q15 hD9 (.lst (zs++out))
    exists D9,_,_,rfl,sG.trans ((t1.trans sG2).trans s9),q12,q198 (sHG.trans (t1.trans sG2)) hD9
    rw[WW,hfl,flatten_append,<- YZ]
    refine q61 (L2.Paired.mapP hzs λ_ _ z=>((z.same t1).same sG2).same s9) ?_
    show Paired _ _ (((waysP xx).map λx=>mk::x)++[])
    rw[append_nil]
    exact L2.Paired.mapP a4 λ_ _ z=>z.same s9
  ·rintro σ G ⟨D,zs,w2,rfl,sG,hDG,hnG,hzs⟩
   refine⟨_,rfl,q D zs G (s02.trans sG) hnG hDG ?_⟩
   have e3:([[]]++([(waysP l).map λx=>0::x,(waysP r).map λx=>1::x].take [V.int 0,.int 1].length).flatten:LL)=waysP (.split n l r):=by
    show[[]]++(_++(_++[]))=[[]]++_++_
    rw[append_nil,YZ]
   rw[e3]at hzs
   exact hzs
noncomputable def Qs.wd:Qs->Str
 | .below _ _ => "below"
 | .least _ _ => "least"
 | .most _ _ => "most"
 | .often _ _ => "often"
 | .up _ _ => "up"
noncomputable def Qs.nm:Qs->Int
 | .below n _=>n
 | .least k _=>(k:Int)
 | .most _ _=>0
 | .often part _=>part
 | .up n _=>n
noncomputable def TvAt(av:List Addr)(H:Hp)(tv:V):Qs->Prop
 | .below _ a=>tv = .int a
 | .least _ wo=>tv = .int wo
 | .most wo m=>PrR H tv (wo,m)
 | .often _ ps=>∃ D ts,tv = .ref D/\H D=some (.lst ts)/\Paired (PrR H) ts ps/\D ∉ av
 | .up _ o=>OptR H tv o
noncomputable def AskAt(av:List Addr)(H:Hp)(aa:Addr)(q:Qs):Prop:=∃ tv,H aa=some (.tup [.str q.wd,.int q.nm,tv])/\TvAt av H tv q
def AskAt.keep(h:AskAt av H aa q)(k:TKeep H H')(kl:∀ a xs,a ∉ av->H a=some (.lst xs)->H' a=some (.lst xs)):AskAt av H' aa q:=by
 obtain⟨tv,e,h⟩:=h
 exists tv,(k _ _).1 e
 cases q with
 | below n a=>exact h
 | least k wo=>exact h
 | most wo m=>exact PrR.tk k h
 | often part ps=>
  obtain⟨D,ts,e1,e2,e3,e4⟩:=h
  exact⟨D,ts,e1,kl _ _ e4 e2,L2.Paired.mapP e3 λ_ _ z=>z.tk k,e4⟩
 | up n o=>exact OptR.tk k h
def AskAt.same(h:AskAt av H aa q)(s:Same H H'):AskAt av H' aa q:=h.keep (.same s) λa xs _ e=>s _ _ e
def AskAt.add(h:AskAt av H aa q)(n:H D=none):AskAt (D::av) H aa q:=by
 obtain⟨tv,e,h⟩:=h
 exists tv,e
 cases q with
 | often part ps=>
  obtain⟨D',ts,e1,e2,e3,e4⟩:=h
  refine⟨D',ts,e1,e2,e3,λz=>?_⟩
  rcases eB z with z | z
  ·rw[z,n]at e2;cases e2
  ·exact e4 z
 | below n a=>exact h
 | least k wo=>exact h
 | most wo m=>exact h
 | up n o=>exact h
def AskAt.kp(h:AskAt av H aa q)(k:KpT H H'):AskAt av H' aa q:=h.keep k.tk λa xs _ e=>k.l e
inductive TolW(low:Int)(L:Nat)(us:List Int):Str->Int->(List Int->Bool)->Prop
 | below (n:Int):TolW low L us "below" n (psB n)
 | least (k:Nat) (h:k<us.length):TolW low L us "least" (k:Int) (psL (low+kth L us k))
 | most (n wo m:Int) (h:bst (caF 1 0 L low us)=some (wo,m)):TolW low L us "most" n (psM wo m)
 | often (n:Int) (h0:0<=n) (h1:n<=1000):TolW low L us "often" n (psO n (us.length:Nat))
 | up (n:Int):TolW low L us "up" n (psU n ((stp L low us).find? λq=>decide (n<q.1)))
inductive q272(K:Fg)(vs:List V)(H:Hp)(Q:VK)(E:XK):Prop
 |mk(b ga aa:Addr)(xs:List V)(low n:Int)(L:Nat)(gs:List G3)(wd:Str)(tv:V)(ψ:List Int->Bool)(_:vs=[.ref b,.ref ga,.ref aa])(_:H aa=some (.tup [.str wd,.int n,tv]))(_:Gth K H b ga xs low L gs)(_:TolW low L (Wh gs) wd n ψ)(_:ToldP low L gs ψ H Q)
inductive q230(K:Fg)(vs:List V)(H:Hp)(Q:VK)(E:XK):Prop
 |mk(b ga aa:Addr)(av:List Addr)(xs:List V)(low:Int)(L:Nat)(gs:List G3)(q:Qs)(v:V)(p:Pp)(_:vs=[.ref b,.ref ga,v,.ref aa])(_:AskAt av H aa q)(_:Gth K H b ga xs low L gs)(_:PpAt H v p)(_:q35 L (Wh gs) p)(_:p.leaves<=90000)(_:∀ H',Same H H'->Q (.bl (q.sh (Wh gs).length (q21 L low p))) H')
def wdn(h:a≠b):decide (V.str a=V.str b)=false:=ZI λz=>h (V.str.inj z)
theorem q292:∀{e:Nat}{low:Int}{us:List Int}{p:Pp},q35 e us p -> ∀ c∈q21 e low p,0<=c.2.2/\c.2.2<=(us.length:Int)
 | e,low,us,.all n,d,c,hc=>by
  rw[q98]at hc
  have hn:=q427 d
  rw[eD hc]
  show 0<=n/\n<=_
  have:n=(us.length:Int):=hn
  lia
 | e+1,low,us,.split n l r,d,c,hc=>by
  have hs:=q220 (e:=e) us
  rcases eC (show c∈q21 e low l++q21 e (low+2^e) r from hc)with h | h
  ·have:=q292 d.2.1 c h
   lia
  ·have:=q292 d.2.2 c h
   lia
def q507:z.C P w 48 "_law_told" pn6 (q272 K):=by
 have sc:=q478
 specialize z.d__law_told
 obtain⟨b,ga,aa,xs,low,n,L,gs,wd,tv,ψ,rfl,ha,g,tw,q⟩:=h
 refine⟨_,(q11 (q251 (pv 2) (q151 rfl (q28 (pgn 3 sc.nd) (q28 (pgn 4 sc.nd) (q28 (pgn 5 sc.nd) q71)))))
 (q11 (ps_if (q18 op_eq (pv 3) q34 (q19 _))
 (q16 (q20 (pfn (q363 z) hr (pa3 (pv 0) (pv 1) (pv 4)))))
 q22)
 (q11 (ps_if (q18 op_eq (pv 3) q34 (q19 _))
 (q16 (q20 (pfn (q365 z) hr (pa3 (pv 0) (pv 1) (pv 4)))))
 q22)
 (q11 (ps_if (q18 op_eq (pv 3) q34 (q19 _))
 (q16 (q20 (pfn (q429 z) hr (pa2 (pv 0) (pv 1)))))
 q22)
 (q11 (ps_if (q18 op_eq (pv 3) q34 (q19 _))
 (q16 (q20 (pfn (q364 z) hr (pa3 (pv 0) (pv 1) (pv 4)))))
 q22)
 (q16 (q20 (pfn (q544 z) hr (pa3 (pv 0) (pv 1) (pv 4)))))))))),?_⟩
 exists _,rfl,aa,_,rfl,SqT.of ha,rfl,_,_,rfl,_,_,rfl,_,_,rfl,rfl
 exists _,rfl,rfl,_,rfl
 cases tw with
 | below n=>exact ite2 (λ_=>⟨_,rfl,_,rfl,_,rfl,b,ga,xs,low,n,L,gs,rfl,g,q⟩) (na rfl)
 | least k hk=>
  rw[wdn (by decide +kernel)]
  refine iteF ⟨_,rfl,rfl,_,rfl,ite2 (λ_=>?_) (na rfl)⟩
  exact⟨_,rfl,_,rfl,_,rfl,b,ga,xs,low,k,L,gs,rfl,g,hk,q⟩
 | most n wo m hb=>
  rw[wdn (by decide +kernel)]
  refine iteF ⟨_,rfl,rfl,_,rfl,?_⟩
  rw[wdn (by decide +kernel)]
  refine iteF ⟨_,rfl,rfl,_,rfl,ite2 (λ_=>?_) (na rfl)⟩
  exact⟨_,rfl,_,rfl,b,ga,xs,low,wo,m,L,gs,rfl,g,hb,q⟩
 | often n h0 h1=>
  rw[wdn (by decide +kernel)]
  refine iteF ⟨_,rfl,rfl,_,rfl,?_⟩
  rw[wdn (by decide +kernel)]
  refine iteF ⟨_,rfl,rfl,_,rfl,?_⟩
  rw[wdn (by decide +kernel)]
  refine iteF ⟨_,rfl,rfl,_,rfl,ite2 (λ_=>?_) (na rfl)⟩
  exact⟨_,rfl,_,rfl,_,rfl,b,ga,xs,low,_,L,gs,rfl,g,h0,h1,q⟩
 | up n=>
  rw[wdn (by decide +kernel)]
  refine iteF ⟨_,rfl,rfl,_,rfl,?_⟩
  rw[wdn (by decide +kernel)]
  refine iteF ⟨_,rfl,rfl,_,rfl,?_⟩
  rw[wdn (by decide +kernel)]
  refine iteF ⟨_,rfl,rfl,_,rfl,?_⟩
  rw[wdn (by decide +kernel)]
  refine iteF ?_
  exact⟨_,rfl,_,rfl,_,rfl,b,ga,xs,low,_,L,gs,rfl,g,q⟩
def q94:z.C P w 48 "_law_shown" pn3 (q230 K):=by
 have sc:=q418
 specialize z.d__law_shown
 obtain⟨b,ga,aa,av,xs,low,L,gs,qs,v,p,rfl,⟨tv,ha,ht⟩,g,hp,hd,hlv,q⟩:=h
 refine⟨_,(q11 (q251 (pv 3) (q151 rfl (q28 (pgn 4 sc.nd) (q28 (pgn 5 sc.nd) (q28 (pgn 6 sc.nd) q71)))))
 (q11 (ps_if (q18 op_eq (pv 4) q34 (q19 _))
 (q16 (q20 (pfn (q359 z) hr (q10 (pv 0) (pa4 (pv 1) (pv 2) (pv 5) (pv 6))))))
 q22)
 (q11 (ps_if (q18 op_eq (pv 4) q34 (q19 _))
 (q16 (q20 (pfn (q360 z) hr (q10 (pv 0) (pa4 (pv 1) (pv 2) (pv 5) (pv 6))))))
 q22)
 (q11 (ps_if (q18 op_eq (pv 4) q34 (q19 _))
 (q16 (q20 (pfn (q428 z) hr (q10 (pv 0) (pa4 (pv 1) (pv 2) (pix q26 (pv 6) q14) (pix q26 (pv 6) q14))))))
 q22)
 (q11 (ps_if (q18 op_eq (pv 4) q34 (q19 _))
 (q16 (q20 (pfn (q362 z) hr (q10 (pv 0) (pa4 (pv 1) (pv 2) (pv 5) (pv 6))))))
 q22)
 (q16 (q20 (pfn (q543 z) hr (q10 (pv 0) (pa4 (pv 1) (pv 2) (pv 5) (pv 6))))))))))),?_⟩
 obtain⟨wd,ewd⟩:∃ x,qs.wd=x:=⟨_,rfl⟩
 rw[ewd]at ha
 exists _,rfl,aa,_,rfl,SqT.of ha,rfl,_,_,rfl,_,_,rfl,_,_,rfl,rfl
 exists _,rfl,rfl,_,rfl
 cases qs with
 | below n a=>
  cases(show("below" : Str)=wd from ewd)
  cases(show tv = .int a from ht)
  exact ite2 (λ_=>⟨_,rfl,_,rfl,_,rfl,_,rfl,_,rfl,b,ga,v,p,low,n,a,L,xs,gs,rfl,SqT.of g.b,g.le,g.g,g.at_,g.gd,g.ln,hp,hd,{},q⟩) (na rfl)
 | least k wo=>
  cases(show("least" : Str)=wd from ewd)
  cases(show tv = .int wo from ht)
  rw[wdn (by decide +kernel)]
  refine iteF ⟨_,rfl,rfl,_,rfl,ite2 (λ_=>?_) (na rfl)⟩
  exact⟨_,rfl,_,rfl,_,rfl,_,rfl,_,rfl,b,ga,v,p,low,_,wo,L,xs,gs,rfl,SqT.of g.b,g.le,g.g,g.at_,g.gd,g.ln,hp,hd,{},q⟩
 | most wo m=>
  cases(show("most" : Str)=wd from ewd)
  obtain⟨a0,rfl,ha0⟩:PrR H tv (wo,m):=ht
  rw[wdn (by decide +kernel)]
  refine iteF ⟨_,rfl,rfl,_,rfl,?_⟩
  rw[wdn (by decide +kernel)]
  refine iteF ⟨_,rfl,rfl,_,rfl,ite2 (λ_=>?_) (na rfl)⟩
  exact⟨_,rfl,_,rfl,_,rfl,_,rfl,a0,_,_,_,rfl,rfl,SqT.of ha0,rfl,_,rfl,a0,_,_,_,rfl,rfl,SqT.of ha0,rfl,b,ga,v,p,low,wo,m,L,xs,gs,rfl,SqT.of g.b,g.le,g.g,g.at_,g.gd,g.ln,hp,hd,{},q⟩
 | often part ps=>
  cases(show("often" : Str)=wd from ewd)
  obtain⟨D,ts,rfl,hD,hts,_⟩:=ht
  rw[wdn (by decide +kernel)]
  refine iteF ⟨_,rfl,rfl,_,rfl,?_⟩
  rw[wdn (by decide +kernel)]
  refine iteF ⟨_,rfl,rfl,_,rfl,?_⟩
  rw[wdn (by decide +kernel)]
  refine iteF ⟨_,rfl,rfl,_,rfl,ite2 (λ_=>?_) (na rfl)⟩
  have hm:=q427 hd
  have q':∀ H',Same H H'->Q (.bl (ansF (oftF part p.m (q21 L low p)) ps)) H':=λH' s'=>by rw[hm];exact q H' s'
  exact⟨_,rfl,_,rfl,_,rfl,_,rfl,_,rfl,b,ga,D,v,p,low,part,ts,ps,L,xs,gs,rfl,hD,hts,SqT.of g.b,g.le,g.g,g.at_,g.gd,g.ln,hp,hd,hlv,λc hc=>by have:=q292 hd c hc;have:=g.few;lia,q'⟩
 | up n o=>
  cases(show("up" : Str)=wd from ewd)
  rw[wdn (by decide +kernel)]
  refine iteF ⟨_,rfl,rfl,_,rfl,?_⟩
  rw[wdn (by decide +kernel)]
  refine iteF ⟨_,rfl,rfl,_,rfl,?_⟩
  rw[wdn (by decide +kernel)]
  refine iteF ⟨_,rfl,rfl,_,rfl,?_⟩
  rw[wdn (by decide +kernel)]
  refine iteF ?_
  exact⟨_,rfl,_,rfl,_,rfl,_,rfl,_,rfl,b,ga,v,tv,p,low,n,o,L,xs,gs,rfl,ht,SqT.of g.b,g.le,g.g,g.at_,g.gd,g.ln,hp,hd,{},q⟩
noncomputable def Qs.is(ws ms:List Int):Qs->Prop
 | .below n a=>a=((ws.filter λx=>decide (x<n)).length:Int)
 | .least k wo=>ws[k]? = some wo
 | .most wo m=>bst (withM ws ms)=some (wo,m)
 | .often part ps=>1<=part/\part<=1000/\ps=(withM ws ms).filter λq=>decide ((ws.length:Int)<q.2*part)
 | .up n o=>o=(withM ws ms).find? λq=>decide (n<q.1)
theorem q745{x:Int}:∀{W:List Int}{k:Nat},W.Pairwise (· <= ·)->W[k]? = some x->W.countP (λy=>decide (y<x))<=k/\k<W.countP (λy=>decide (y<x))+W.count x
 | y::W,0,h,e=>by
  cases e
  obtain⟨h1,h2⟩:=List.pairwise_cons.mp h
  have z:(x::W).countP (λy=>decide (y<x))=0:=List.countP_eq_zero.mpr λy hy=>by
   rw[ZZ]
   rcases eB hy with rfl | hy
   ·lia
   ·have:=h1 y hy
    exact W92 this
  rw[z,count_cons_self]
  lia
 | y::W,k+1,h,e=>by
  obtain⟨h1,h2⟩:=List.pairwise_cons.mp h
  have e':W[k]? = some x:=e
  have ih:=q745 h2 e'
  have hy:=h1 x (WQ e')
  rw[YN,count_cons]
  by_cases c:y<x
  ·rw[ZL (ZA c),ZJ (by rw[beq_iff_eq];exact W99 c)]
   lia
  ·rw[ZJ (by rw[ZZ];exact c),ZL (beq_iff_eq.mpr {})]
   lia
theorem q433:∀{ss:List P2}{r:P2},(ss.Pairwise λp q=>p.1<q.1)->ss.find? f=some r -> ∀ q∈ss,f q=true->r.1<=q.1
 | x::ss,r,h,e,q,hq,hf=>by
  obtain⟨h1,h2⟩:=List.pairwise_cons.mp h
  rw[find?_cons]at e
  cases hx:f x with
  | true=>
   rw[hx]at e
   cases e
   rcases eB hq with z | z
   ·rw[z];exact Int.le_refl _
   ·exact Int.le_of_lt (h1 q z)
  | false=>
   rw[hx]at e
   rcases eB hq with z | z
   ·rw[z,hx]at hf;cases hf
   ·exact q433 h2 e q z hf
def head_min{ss:List P2}{r:P2}(h:ss.Pairwise λp q=>p.1<q.1)(e:(ss.filter f).head? = some r){q:P2}(hq:q∈ss)(hf:f q=true):r.1<=q.1:=by
 rw[head?_filter]at e
 exact q433 h e q hq hf
section
variable{ws ms:List Int}(hs:ms.Pairwise (·<·))(hm:∀ x,x∈ms↔x∈ws)
include hs hm
theorem q395:(withM ws ms).Pairwise λp q=>p.1<q.1:=by
 unfold withM
 rw[pairwise_map]
 exact hs
theorem q69{p:P2}:p∈withM ws ms↔p.1∈ws/\p.2=(ws.count p.1:Int):=by
 unfold withM
 rw[mem_map]
 constructor
 ·rintro ⟨x,hx,rfl⟩
  exact⟨(hm x).mp hx,rfl⟩
 ·rintro ⟨h1,h2⟩
  exact⟨p.1,(hm _).mpr h1,Prod.ext rfl h2.symm⟩
theorem Qs.is_ok{q:Qs}(hsrt:ws.Pairwise (· <= ·))(h:q.is ws ms):q.ok ws ms:=by
 cases q with
 | below n a=>exact h
 | least k wo=>
  have:=q745 hsrt h
  show _<=k/\k<_+_
  rw[q431]
  exact this
 | most wo m=>
  have h':bst (withM ws ms)=some (wo,m):=h
  have hne:withM ws ms≠[]:=λz=>by rw[z]at h';cases h'
  obtain⟨r,e,r1,r2,r3⟩:=q585 hne
  rw[h']at e
  cases e
  obtain⟨m1,m2⟩:=(q69 hs hm).mp r1
  have m2':m=(ws.count wo:Int):=m2
  have c0:0<ws.count wo:=List.count_pos_iff.mpr m1
  refine⟨{},m2',λx=>?_,λx hx=>?_⟩
  ·by_cases c:x∈ws
   ·exact r2 (x,(ws.count x:Int)) ((q69 hs hm).mpr ⟨c,rfl⟩)
   ·rw[List.count_eq_zero.mpr c]
    lia
  ·by_cases c:x∈ws
   ·have hle:=r2 (x,(ws.count x:Int)) ((q69 hs hm).mpr ⟨c,rfl⟩)
    have hle':(ws.count x:Int)<=m:=hle
    refine Classical.byContradiction λz=>?_
    have:=head_min (q395 hs hm) r3 (q:=(x,(ws.count x:Int))) ((q69 hs hm).mpr ⟨c,rfl⟩) (ZA (by show(ws.count x:Int)=m;lia))
    have:wo<=x:=this
    lia
   ·rw[List.count_eq_zero.mpr c]
    lia
 | often part ps=>exact⟨h.1,h.2.2⟩
 | up n o=>
  have h':o=(withM ws ms).find? λq=>decide (n<q.1):=h
  cases o with
  | none=>
   show ∀ x∈ws,x<=n
   intro x hx
   have:=List.find?_eq_none.mp h'.symm (x,(ws.count x:Int)) ((q69 hs hm).mpr ⟨hx,rfl⟩)
   rw[ZZ]at this
   have:¬ n<x:=this
   lia
  | some r=>
   have e:=h'.symm
   obtain⟨m1,m2⟩:=(q69 hs hm).mp (mem_of_find?_eq_some e)
   have c0:0<ws.count r.1:=List.count_pos_iff.mpr m1
   have hn:n<r.1:=ZF (find?_some (p:=λq:P2=>decide (n<q.1)) e)
   exact⟨hn,{},m2,λx hx hnx=>q433 (q395 hs hm) e (x,(ws.count x:Int)) ((q69 hs hm).mpr ⟨hx,rfl⟩) (ZA hnx)⟩
theorem Qs.is_tol{q:Qs}{low:Int}{L:Nat}{us:List Int}(hsrt:ws.Pairwise (· <= ·))(hin:InO L us)(hp:(offs low ws).Perm us)(h:q.is ws ms):TolW low L us q.wd q.nm (q.psi us.length):=by
 have hpw:ws.Perm (us.map λo=>low+o):=by
  have h1:=hp.map λo=>low+o
  have e:(offs low ws).map (λo=>low+o)=ws:=by
   rw[map_map,show((λo:Int=>low+o)∘λn=>n-low)=id from funext λo=>by show low+(o-low)=o;exact W53,map_id]
  rw[e]at h1
  exact h1
 have hca:=withM_ca hin hpw hm hs
 cases q with
 | below n a=>exact .below n
 | least k wo=>
  have h':ws[k]? = some wo:=h
  have hk:k<ws.length:=(eA h').1
  have hl:us.length=ws.length:=by rw[<- hp.length_eq,ZN]
  obtain⟨c1,c2⟩:=q323 L us k hin {}
  have cn:∀ o,ws.countP (λy=>decide (y<low+o))=ltC us o:=λo=>by
   rw[hpw.countP_eq,countP_map]
   refine countP_congr λx _=>?_
   show decide (low+x<low+o)=true↔decide (x<o)=true
   rw[ZZ,ZZ]
   lia
  have e:=q744 (x:=low+kth L us k) (k:=k) hsrt (by rw[cn];exact c1) (by rw[Int.add_assoc,cn];exact c2)
  rw[h']at e
  cases e
  exact .least k {}
 | most wo m=>
  have h':bst (withM ws ms)=some (wo,m):=h
  rw[hca]at h'
  exact .most _ wo m h'
 | often part ps=>exact .often part (by have:=h.1;exact W85 this) h.2.1
 | up n o=>
  have h':o=(withM ws ms).find? λq=>decide (n<q.1):=h
  rw[hca]at h'
  rw[h']
  exact .up n
end
def q249{K:Fg}{a D:Addr}{zc:List V}{ps:List P2}{H1:Hp}{Tt:V->Hp->(Bool->Hp->Prop)->Prop}{Te:V->Hp->(V->Hp->Prop)->Prop}{R:Hp->Prop}(f:P2->Bool)(ha:H1 a=some (.lst zc))(hz:Paired (PrR H1) zc ps)(hD:H1 D=none)(hn:zc.length<=1000)
  (hT:∀(t:Addr)(q:P2)(H:Hp)(Q:Bool->Hp->Prop),q∈ps->Same H1 H->H t=some (.tup [.int q.1,.int q.2])->Q (f q) H->Tt (.ref t) H Q) (hE:∀(t:Addr)(H:Hp)(Q:V->Hp->Prop),Q (.ref t) H->Te (.ref t) H Q)
  (hR:∀ ys,Paired (PrR H1) ys (ps.filter f)->ys.length<=1000->R (upd H1 D (.lst ys))) :
  ∃ W:Nat->Nat->List V->Hp->Prop,(∃ m,W 0 m [] (upd H1 D (.lst []))) /\
   ∀ i m ys H2,W i m ys H2->H2 D=some (.lst ys)/\(((Itl K a).stop i H2/\R H2)\/((Itl K a).go i H2/\ys.length<sizeLine /\ ∃ N:V->Hp->Prop,(∀ y H3,N y H3->H3 D=some (.lst ys) /\ ∃ m',m'<m/\W (i+1) m' (ys++[y]) (upd H3 D (.lst (ys++[y])))) /\
    ∀ x H',(Itl K a).yld i H2 x H'->Tt x H' λb H3=>if b=true then Te x H3 N else ∃ m',m'<m/\W (i+1) m' ys H3)):=by
 refine q114 (K:=K) (xs:=zc) (sz hn) (λi ys G'=>G'=upd H1 D (.lst ys)/\ys.length<=i/\Paired (PrR H1) ys ((ps.take i).filter f)) ⟨rfl,ZH _,.nil⟩ (λi ys G' ⟨e,_⟩=>by rw[e];exact SqL.of (q15 hD _ _ _ ha)) (λi ys G' ⟨e,e2,_⟩=>⟨by rw[e];exact q12,e2⟩) ?_ ?_
 ·rintro i z ys G' hzi ⟨rfl,e2,e3⟩
  obtain⟨q,gp,t,rfl,ht⟩:=q109 hz hzi
  have hlt:=(eA hzi).1
  have et:(ps.take (i+1)).filter f=(ps.take i).filter f++[q].filter f:=by rw[WW,gp,filter_append];rfl
  refine hT t q _ _ (WQ gp) (q15 hD _) (q15 hD _ _ _ ht) ?_
  cases c:f q with
  | true=>
   refine iteT (hE t _ _ ⟨q12,by rw[q85],by rw[ZU];exact Nat.succ_le_succ e2,?_⟩)
   rw[et,YR c]
   exact q61 e3 (.cons ⟨t,rfl,ht⟩ .nil)
  | false=>
   refine iteF ⟨_,{},rfl,(W19 hlt),rfl,Nat.le_succ_of_le e2,?_⟩
   rw[et,YS (by rw[c];exact fnt),filter_nil,append_nil]
   exact e3
 ·rintro ys G' ⟨rfl,e2,e3⟩
  rw[show zc.length=ps.length from Paired.length hz,YF]at e3
  exact hR ys e3 {}
theorem head_at:∀{ys:List V}{fl:List P2}{r:P2},Paired (PrR G) ys fl->fl.head? = some r -> ∃ v,atI ys 0=some v/\PrR G v r
 | _,_,r,.cons (a:=x) (l₁:=l) h t,e=>by cases e;exact⟨x,q86 (xs:=x::l) (j:=0) rfl,h⟩
theorem head_opt:∀{ys:List V}{fl:List P2},Paired (PrR G) ys fl -> ∃ v,atI (ys++[V.non]) 0=some v/\OptR G v fl.head?
 | _,_,.nil=>⟨.non,rfl,rfl⟩
 | _,_,.cons (a:=x) (l₁:=l) r t=>⟨x,q86 (xs:=(x::l)++[V.non]) (j:=0) rfl,r⟩
inductive q334(K:Fg)(vs:List V)(H:Hp)(Q:VK)(E:XK):Prop
 |mk(pen b wl:Addr)(n low:Int)(L:Nat)(ws:List Int)(_:vs=[.ref pen,.ref b,.ref wl])(_:Pen K H pen n)(_:n<10000000)(_:H b=some (.tup [.int low,.int (L:Int)]))(_:L<=40)(_:H wl=some (.lst (ws.map V.int)))(_:wl≠pen)(_:ws.length<=500)(_:∀(aa:Addr)(q:Qs)(ms:List Int)(H':Hp),Keep pen H H'->Pen K H' pen (n+10)->AskAt [pen] H' aa q->q.is ws ms->(∀ x,x∈ms↔x∈ws)->ms.Pairwise (·<·)->Q (.ref aa) H')
def q546:z.C P w 3 "_law_ask" pn12 (q334 K):=by
 have sc:=q533
 specialize z.d__law_ask
 obtain⟨pen,b,wl,n,low,L,ws,rfl,P0,hn,hb,hL,hwl,hwp,hwsl,q⟩:=h
 refine⟨_,(q11 (pst 3 sc.nd (pfn (q361 z) hr (pa1 (pv 2))))
 (q11 (pst 4 sc.nd (pfn (q23 z) hr (pa2 (pv 0) q14)))
 (q11 (pst 5 sc.nd (pe_op q47 (pe_op q29 (pix q26 (pv 1) q14) (pfn (q23 z) hr (pa2 (pv 0) (pe_op q29 (pe_op q252 q14 (pix q26 (pv 1) q14)) q14)))) q14))
 (q11 (q119 (ps_if (PW.pt (q148 (q18 (q673 hr.units) (pv 2) (q38 q13) (q19 _)) (q117 (q18 op_eq (pfn (q23 z) hr (pa2 (pv 0) q14)) q14 (q19 _)))))
 (q16 (pst 5 sc.nd (pix q32 (pv 2) (pfn (q23 z) hr (pa2 (pv 0) (pln z.len_ (pa1 (pv 2))))))))
 q22))
 (q11 (ps_if (q18 op_eq (pv 4) q14 (q19 _))
 (q16 (q20 (q30 (pa3 q34 (pv 5) (pln z.len_ (pa1 (q51 (cl:=[("_law_number", s.heap.objs.size+1+1)]) (cn:=["_law_number"]) (N:=["_law_number"]) (fr:=[5]) (sc0:=q17 q73) rfl (q31 (pv 2)) (λC s₂ H₂ fp=>(pv 0)) (λC s₂ H₂ fp=>(q18 op_lt (pv 0) (pv 1) (q19 _))) (by ac_rfl) ⟨by ac_rfl,trivial⟩ rfl rfl rfl cok rfl)))))))
 q22)
 (q11 (q119 (ps_if (PW.pt (q148 (q18 op_eq (pv 4) q14 (q19 _)) (q117 (q18 (q673 hr.units) (pv 2) (q38 q13) (q19 _)))))
 (q11 (pst 6 sc.nd (pfn (q23 z) hr (pa2 (pv 0) (pln z.len_ (pa1 (pv 2))))))
 (q16 (q20 (q30 (pa3 q34 (pv 6) (pix q32 (pv 2) (pv 6)))))))
 q22))
 (q11 (q119 (ps_if (PW.pt (q148 (q18 op_eq (pv 4) q14 (q19 _)) (q117 (q18 (q673 hr.units) (pv 2) (q38 q13) (q19 _)))))
 (q11 (pst 7 sc.nd (q44 (q682 rfl) () z.max_ bt_max (pa1 (q403 (x := "_law_worth") (cl:=[]) (cn:=[]) (TN:=["_law_many"]) (N:=[]) (fr:=[]) (sc0:=q17 q73) rfl (q31 (pv 3)) (λC s₂ H₂ fp=>(pv 1)) (λC s₂ H₂ fp=>q518) (λC s₂ H₂ fp=>(q519 (K:=K) (n:=2) rfl rfl (q28 (q100 (i:=0) (show(["_law_worth", "_law_many"]:List Str).Nodup by decide +kernel) rfl (Or.inl rfl)) (q28 (q100 (i:=1) (show(["_law_worth", "_law_many"]:List Str).Nodup by decide +kernel) rfl (Or.inl rfl)) q71)))) (by ac_rfl) trivial rfl rfl rfl ⟨by decide +kernel,by decide +kernel,by decide +kernel,by decide +kernel⟩ rfl))))
 (q16 (q20 (q30 (pa3 q34 q14 (pix q32 (q51 (cl:=[("_law_greatest", s.heap.objs.size+1+2)]) (cn:=["_law_greatest"]) (N:=["_law_greatest"]) (fr:=[7]) (sc0:=q17 q73) rfl (q31 (pv 3)) (λC s₂ H₂ fp=>(pv 0)) (λC s₂ H₂ fp=>(q18 op_eq (pix (q89 (K:=K) rfl) (pv 0) q14) (pv 1) (q19 _))) (by ac_rfl) ⟨by ac_rfl,trivial⟩ rfl rfl rfl cok rfl) q14))))))
 q22))
 (q11 (ps_if (q18 op_eq (pv 4) q14 (q19 _))
 (q11 (pst 8 sc.nd (pix q32 (q38 (pa2 (pe_op q29 q14 (pfn (q23 z) hr (pa2 (pv 0) q14))) (pe_op q29 q14 (pln z.len_ (pa1 (pv 2)))))) (pfn (q23 z) hr (pa2 (pv 0) q14))))
 (q16 (q20 (q30 (pa3 q34 (pv 8) (q51 (cl:=[("_law_worths", s.heap.objs.size+1+0),("_law_part", s.heap.objs.size+1+3)]) (cn:=["_law_worths", "_law_part"]) (N:=["_law_part", "_law_worths"]) (fr:=[8,2]) (sc0:=q17 q73) rfl (q31 (pv 3)) (λC s₂ H₂ fp=>(pv 0)) (λC s₂ H₂ fp=>(q18 op_gt (pe_op q113 (pix (q89 (K:=K) rfl) (pv 0) q14) (pv 1)) (q44 (q679 (K:=K) rfl) () z.len_ bt_len (pa1 (pv 2))) (q19 _))) (by ac_rfl) ⟨by ac_rfl,by ac_rfl,trivial⟩ rfl rfl rfl cok rfl))))))
 q22)
 (q16 (q20 (q30 (pa3 q34 (pv 5) (pix q32 (pe_op q169 (q51 (cl:=[("_law_number", s.heap.objs.size+1+1)]) (cn:=["_law_number"]) (N:=["_law_number"]) (fr:=[5]) (sc0:=q17 q73) rfl (q31 (pv 3)) (λC s₂ H₂ fp=>(pv 0)) (λC s₂ H₂ fp=>(q18 op_gt (pix (q89 (K:=K) rfl) (pv 0) q14) (pv 1) (q19 _))) (by ac_rfl) ⟨by ac_rfl,trivial⟩ rfl rfl rfl cok rfl) (q38 (pa1 q65))) q14))))))))))))),?_⟩
 have hp2:=p2pos L
 have hq2:=p2le hL
 have hml:(ws.map V.int).length=ws.length:=ZN _
 have hbp:b≠pen:=P0.ne hb
 refine⟨_,rfl,wl,ws,rfl,hwl,{},λD zc ms H1 s1 hD0 hD hmm hms hpz hml4=>?_⟩
 have hDp:D≠pen:=P0.fresh hD0
 have hzcl:zc.length=(withM ws ms).length:=Paired.length hpz
 have hzl:zc.length<=1000:=by rw[hzcl];unfold withM;rw[ZN];exact hml4
 have hcnt:∀ p∈withM ws ms,0<=p.2/\p.2<=500:=λp hp=>by
  have:=((q69 hms hmm).mp hp).2
  have:=count_le_length (a:=p.1) (l:=ws)
  lia
 refine⟨_,rfl,pen,5,n,rfl,P0.same s1,{},∅,∅,λwy H2 k2 P2 wy0 wy1=>?_⟩
 have k02:Keep pen H H2:=(Keep.same s1).trans k2
 have hb2:=k02 _ _ hbp hb
 exists _,rfl,b,_,_,_,rfl,rfl,SqT.of hb2,rfl,_,rfl,_,rfl,b,_,_,_,rfl,rfl,SqT.of hb2,rfl,_,_,rfl,rfl,⟨(W54 hL),(W87 hL),∅⟩
 dsimp only
 rw[q303]
 refine⟨_,_,rfl,rfl,pen,_,_,rfl,P2,{},{},{},λg H3 k3 P3 _ _=>⟨_,_,rfl,rfl,_,_,rfl,rfl,?_⟩⟩
 have k03:=k02.trans k3
 exists λσ G=>∃ num:Int,σ=[some (.ref pen),some (.ref b),some (.ref wl),some (.ref D),some (.int wy),some (.int num),none,none,none]/\Keep pen H3 G/\Pen K G pen (n+5),?_
 ·refine⟨_,rfl,szb rfl,λl4 hl4=>?_⟩
  have t4:=q15 hl4 (.lst [])
  have hwl4:=t4 _ _ (k03 _ _ hwp hwl)
  refine⟨wl,l4,ws,[],rfl,rfl,SqL.of hwl4,SqL.of q12,_,rfl,ite2 (λcc=>?_) (λcc=>?_)⟩
  ·have hne:ws≠[]:=λz=>by rw[z]at cc;exact absurd cc ∅
   have hpos:0<ws.length:=List.length_pos_iff.mpr hne
   refine⟨_,rfl,pen,2,_,rfl,P3.same t4,(W113 hn),∅,∅,λc5 H5 k5 P5 _ _=>⟨rfl,_,rfl,ite2 (λ_=>?_) (λ_=>?_)⟩⟩
   ·have hwl5:=k5 _ _ hwp hwl4
    refine⟨_,rfl,_,rfl,_,rfl,wl,_,rfl,.inl (SqL.of hwl5),pen,_,_,rfl,P5,{},{},{},λt6 H6 k6 P6 a0 a1=>?_⟩
    obtain⟨wv,_,hat⟩:=q79 (l:=ws) a0 (by rw[hml]at a1;exact a1)
    exact⟨wl,_,_,_,rfl,rfl,SqL.of (k6 _ _ hwp hwl5),hat,wv,rfl,(Keep.same t4).trans (k5.trans k6),P6.le {}⟩
   ·exact⟨_,rfl,(Keep.same t4).trans k5,P5.le {}⟩
  ·exact ite2 nf (λ_=>⟨_,rfl,Keep.same t4,(P3.same t4).le {}⟩)
 rintro σ G ⟨num,rfl,k4,P4⟩
 have kG:=k03.trans k4
 have hwlG:=kG _ _ hwp hwl
 have k1G:Keep pen H1 G:=k2.trans (k3.trans k4)
 have tk1G:TKeep H1 G:=by obtain⟨xs',ex⟩:=(P0.same s1).at;exact .keep k1G ex
 have hDG:=k1G _ _ hDp hD
 have hpzG:Paired (PrR G) zc (withM ws ms):=L2.Paired.mapP hpz λ_ _ z=>z.tk tk1G
 refine⟨_,rfl,rfl,_,rfl,ite2 (λ_=>?_) (λ_=>?_)⟩
 ·-- below
  refine⟨_,rfl,_,rfl,wl,rfl,⟨_,SqL.of hwlG⟩,λD2 hD2=>?_⟩
  refine q103 (p:=λx=>decide (x<num)) (g:=V.int) (SqL.of hwlG) hD2 (sz {}) (λn _ H1 Q1 _ q1=>⟨_,rfl,_,rfl,_,_,rfl,rfl,_,rfl,q1⟩) (λn _ _ H1 Q1 _ q1=>⟨_,rfl,q1⟩) ?_
  have t2:=q15 hD2 (.lst ((ws.filter λx=>decide (x<num)).map V.int))
  have e2:=@q12 G D2 (.lst ((ws.filter λx=>decide (x<num)).map V.int))
  generalize upd G D2 (.lst ((ws.filter λx=>decide (x<num)).map V.int))=G2 at *
  refine⟨D2,_,rfl,.inl (SqL.of e2),szb rfl,λaa haa=>?_⟩
  rw[ZN]
  have t3:=q15 haa (.tup [V.str "below", .int num,.int ((ws.filter λx=>decide (x<num)).length:Int)])
  exact q aa (.below num ((ws.filter λx=>decide (x<num)).length:Int)) ms _ (kG.trans (.same (t2.trans t3))) ((P4.same (t2.trans t3)).le {}) ⟨_,q12,rfl⟩ rfl hmm hms
 exists λσ G'=>σ=[some (.ref pen),some (.ref b),some (.ref wl),some (.ref D),some (.int wy),some (.int num),none,none,none]/\Same G G',?_
 ·refine⟨_,rfl,rfl,_,rfl,ite2 (λ_=>?_) (λ_=>ite2 nf (λ_=>⟨rfl,Same.refl _⟩))⟩
  refine⟨_,rfl,szb rfl,λl4 hl4=>?_⟩
  have t4:=q15 hl4 (.lst [])
  have hwl4:=t4 _ _ hwlG
  refine⟨wl,l4,ws,[],rfl,rfl,SqL.of hwl4,SqL.of q12,_,rfl,ite2 (λcc=>?_) (λcc=>⟨rfl,t4⟩)⟩
  have hne:ws≠[]:=λz=>by rw[z]at cc;exact absurd cc ∅
  have hpos:0<ws.length:=List.length_pos_iff.mpr hne
  refine⟨_,rfl,_,rfl,wl,_,rfl,.inl (SqL.of hwl4),pen,_,_,rfl,P4.same t4,{},{},{},λk6 H6 kk6 P6 a0 a1=>?_⟩
  obtain⟨kn,rfl⟩:=Int.eq_ofNat_of_zero_le a0
  have hk:kn<ws.length:={}
  have hwl6:=kk6 _ _ hwp hwl4
  refine⟨_,rfl,_,rfl,_,rfl,wl,_,_,_,rfl,rfl,SqL.of hwl6,q86 (j:=kn) (by rw[WM,ZR hk];rfl),szb rfl,λaa haa=>?_⟩
  have t7:=q15 haa (.tup [V.str "least", .int (kn:Int),.int ws[kn]])
  exact q aa (.least kn ws[kn]) ms _ (kG.trans ((Keep.same t4).trans (kk6.trans (.same t7)))) ((P6.same t7).le {}) ⟨_,q12,rfl⟩ (ZR hk) hmm hms
 rintro σ G1 ⟨rfl,u1⟩
 exists λσ G'=>σ=[some (.ref pen),some (.ref b),some (.ref wl),some (.ref D),some (.int wy),some (.int num),none,none,none]/\Same G G',?_
 ·refine⟨_,rfl,rfl,_,rfl,ite2 (λ_=>?_) (λ_=>ite2 nf (λ_=>⟨rfl,u1⟩))⟩
  refine⟨_,rfl,szb rfl,λl4 hl4=>?_⟩
  have t4:=u1.trans (q15 hl4 (.lst []))
  have hwl4:=t4 _ _ hwlG
  refine⟨wl,l4,ws,[],rfl,rfl,SqL.of hwl4,SqL.of q12,_,rfl,ite2 (λcc=>?_) (λcc=>⟨rfl,t4⟩)⟩
  generalize upd G1 l4 (.lst [])=G4 at *
  have hne:ws≠[]:=λz=>by rw[z]at cc;exact absurd cc ∅
  obtain⟨x0,hx0⟩:=exists_mem_of_ne_nil ws hne
  have hwne:withM ws ms≠[]:=λz=>by
   have:=(q69 hms hmm (p:=(x0,(ws.count x0:Int)))).mpr ⟨hx0,rfl⟩
   rw[z]at this;cases this
  obtain⟨r,hr1,hr2,hr3,hr4⟩:=q585 hwne
  have hD4:=t4 _ _ hDG
  have hpz4:Paired (PrR G4) zc (withM ws ms):=L2.Paired.mapP hpzG λ_ _ z=>z.tk (.same t4)
  refine⟨_,rfl,D,rfl,⟨_,SqL.of hD4⟩,λD9 hD9=>?_⟩
  refine q234 (xs:=zc) (sz hzl) (λi us H9=>us=((withM ws ms).take i).map (λ(p:Int×Int)=>V.int p.2)/\i<=(withM ws ms).length/\H9=upd G4 D9 (.lst us)) ⟨by simp,WA _,rfl⟩ (λi us H9 ⟨_,_,e⟩=>by rw[e];exact SqL.of (q15 hD9 _ _ _ hD4))
   (λi us H9 ⟨e1,e2,e3⟩=>⟨by rw[e3];exact q12,by rw[e1,ZN,length_take];lia⟩) ?_ ?_
  ·rintro i x us H9 hx ⟨e1,e2,rfl⟩ vs3 hvs3
   obtain⟨p,gp,px,rfl,hpx⟩:=q109 hpz4 hx
   have hi:i<(withM ws ms).length:=(eA gp).1
   match vs3,hvs3 with
   | [x0,x1],_=>
    refine⟨px,_,rfl,SqT.of (q15 hD9 _ _ _ hpx),rfl,_,_,rfl,_,_,rfl,rfl,⟨[_,_],rfl,rfl⟩,iteT ?_⟩
    refine⟨_,rfl,q12,?_,(W19 hi),by rw[q85]⟩
    rw[WW,gp,WS,<- e1]
    rfl
  rintro us H9 ⟨e1,e2,rfl⟩
  rw[hzcl,YF]at e1
  have hpos:0<((withM ws ms).map λ(p:Int×Int)=>p.2).length:=by rw[ZN];exact List.length_pos_iff.mpr hwne
  have s9:=q15 hD9 (.lst us)
  refine⟨D9,(withM ws ms).map (λ(p:Int×Int)=>p.2),rfl,SqL.of (by rw[q12,e1,map_map];rfl),hpos,λM hM hMle=>?_⟩
  have hMr:M=r.2:=by
   obtain⟨p,hp,rfl⟩:=eE hM
   have h1:=hr3 p hp
   have h2:=hMle r.2 (List.mem_map.mpr ⟨r,hr2,rfl⟩)
   lia
  subst hMr
  generalize upd G4 D9 (.lst us)=G9 at *
  have t9:=t4.trans s9
  have hD9':=t9 _ _ hDG
  have hpz9:Paired (PrR G9) zc (withM ws ms):=L2.Paired.mapP hpzG λ_ _ z=>z.tk (.same t9)
  refine⟨_,rfl,D,rfl,⟨_,SqL.of hD9'⟩,λD10 hD10=>?_⟩
  refine q249 (λp=>decide (p.2=r.2)) hD9' hpz9 hD10 hzl (λt p H' Q' _ _ ht q'=>⟨_,rfl,t,_,_,_,rfl,rfl,SqT.of ht,rfl,_,rfl,rfl,_,rfl,by rw[dec_int];exact q'⟩) (λt H' Q' q'=>⟨_,rfl,q'⟩) λys hys hyl=>?_
  have t10:=q15 hD10 (.lst ys)
  have e10:=@q12 G9 D10 (.lst ys)
  have hys10:Paired (PrR (upd G9 D10 (.lst ys))) ys _:=L2.Paired.mapP hys λ_ _ z=>z.tk (.same t10)
  generalize upd G9 D10 (.lst ys)=G10 at *
  obtain⟨v,hv,hvr⟩:=head_at hys10 hr4
  refine⟨D10,_,_,_,rfl,rfl,SqL.of e10,hv,szb rfl,λaa haa=>?_⟩
  have t11:=q15 haa (.tup [V.str "most", .int 0,v])
  have tz:=t9.trans (t10.trans t11)
  exact q aa (.most r.1 r.2) ms _ (kG.trans (.same tz)) ((P4.same tz).le {}) ⟨_,q12,PrR.tk (.same t11) hvr⟩ hr1 hmm hms
 rintro σ G2 ⟨rfl,u2⟩
 have hwl2:=u2 _ _ hwlG
 have hD2:=u2 _ _ hDG
 have hpz2:Paired (PrR G2) zc (withM ws ms):=L2.Paired.mapP hpzG λ_ _ z=>z.tk (.same u2)
 have P5:=P4.same u2
 refine⟨_,rfl,rfl,_,rfl,ite2 (λ_=>?_) (λ_=>?_)⟩
 ·-- often
  refine⟨_,rfl,pen,9,_,rfl,P5,{},∅,∅,λg6 G6 k6 P6 g0 g1=>⟨_,_,rfl,rfl,?_⟩⟩
  have hwl6:=k6 _ _ hwp hwl2
  refine⟨_,rfl,wl,_,rfl,.inl (SqL.of hwl6),_,_,rfl,rfl,szb rfl,λl7 hl7=>?_⟩
  rw[hml]
  have t7:=q15 hl7 (.lst [V.int (1+g6),.int (1+(ws.length:Int))])
  have e7:upd G6 l7 (.lst [V.int (1+g6),.int (1+(ws.length:Int))]) l7=some (.lst ([1+g6,1+(ws.length:Int)].map V.int)):=q12
  have hl7p:l7≠pen:=P6.fresh hl7
  generalize upd G6 l7 (.lst [V.int (1+g6),.int (1+(ws.length:Int))])=G7 at *
  refine⟨_,rfl,pen,2,_,rfl,P6.same t7,{},∅,∅,λt8 G8 k8 P8 a0 a1=>?_⟩
  obtain⟨part,hpm,hat⟩:=q79 (l:=[1+g6,1+(ws.length:Int)]) a0 (by show t8<2;lia)
  have hpart:1<=part/\part<=1000:=by
   simp only[mem_cons,not_mem_nil,or_false]at hpm
   rcases hpm with rfl | rfl <;> lia
  exists l7,_,_,_,rfl,rfl,SqL.of (k8 _ _ hl7p e7),hat
  have k28:Keep pen G2 G8:=k6.trans ((Keep.same t7).trans k8)
  have tk28:TKeep G2 G8:=by obtain⟨xs',ex⟩:=P5.at;exact .keep k28 ex
  have hwl8:=k28 _ _ hwp hwl2
  have hD8:=k28 _ _ hDp hD2
  have hpz8:Paired (PrR G8) zc (withM ws ms):=L2.Paired.mapP hpz2 λ_ _ z=>z.tk tk28
  refine⟨_,rfl,_,rfl,D,rfl,⟨_,SqL.of hD8⟩,λD9 hD9=>?_⟩
  refine q249 (λp=>decide ((ws.length:Int)<p.2*part)) hD8 hpz8 hD9 hzl (λt p H' Q' hp' s' ht q'=>⟨_,rfl,t,_,_,_,rfl,rfl,SqT.of ht,rfl,_,rfl,_,_,rfl,rfl,.inl ⟨by have:=hcnt p hp';lia,by have:=hcnt p hp';lia⟩,_,rfl,wl,_,rfl,.inl (SqL.of (s' _ _ hwl8)),_,_,rfl,rfl,_,rfl,by rw[hml];exact q'⟩) (λt H' Q' q'=>⟨_,rfl,q'⟩) λys hys hyl=>?_
  have t10:=q15 hD9 (.lst ys)
  have e10:=@q12 G8 D9 (.lst ys)
  have hys10:Paired (PrR (upd G8 D9 (.lst ys))) ys _:=L2.Paired.mapP hys λ_ _ z=>z.tk (.same t10)
  generalize upd G8 D9 (.lst ys)=G10 at *
  refine⟨szb rfl,λaa haa=>?_⟩
  have t11:=q15 haa (.tup [V.str "often", .int part,.ref D9])
  have tz:=t10.trans t11
  exact q aa (.often part ((withM ws ms).filter λp=>decide ((ws.length:Int)<p.2*part))) ms _ (kG.trans ((Keep.same u2).trans (k28.trans (.same tz)))) ((P8.same tz).le {}) ⟨_,q12,D9,ys,rfl,t11 _ _ e10,L2.Paired.mapP hys10 λ_ _ z=>z.tk (.same t11),λz=>P8.fresh hD9 (eD z)⟩ ⟨hpart.1,hpart.2,rfl⟩ hmm hms
 ·-- up
  refine⟨_,rfl,_,rfl,D,rfl,⟨_,SqL.of hD2⟩,λD9 hD9=>?_⟩
  refine q249 (λp=>decide (num<p.1)) hD2 hpz2 hD9 hzl (λt p H' Q' _ _ ht q'=>⟨_,rfl,t,_,_,_,rfl,rfl,SqT.of ht,rfl,_,rfl,_,_,rfl,rfl,_,rfl,q'⟩) (λt H' Q' q'=>⟨_,rfl,q'⟩) λys hys hyl=>?_
  have t10:=q15 hD9 (.lst ys)
  have e10:=@q12 G2 D9 (.lst ys)
  have hys10:Paired (PrR (upd G2 D9 (.lst ys))) ys _:=L2.Paired.mapP hys λ_ _ z=>z.tk (.same t10)
  generalize upd G2 D9 (.lst ys)=G10 at *
  refine⟨szb rfl,λl3 hl3=>?_⟩
  have t3:=q15 hl3 (.lst [V.non])
  have e3':upd G10 l3 (.lst [V.non]) l3=some (.lst [V.non]):=q12
  have eD3:=t3 _ _ e10
  generalize upd G10 l3 (.lst [V.non])=G3 at *
  refine⟨D9,l3,ys,[V.non],rfl,rfl,eD3,e3',szB (by simp;lia),λl4 hl4=>?_⟩
  have t4:=q15 hl4 (.lst (ys++[V.non]))
  have e4:=@q12 G3 l4 (.lst (ys++[V.non]))
  generalize upd G3 l4 (.lst (ys++[V.non]))=G4 at *
  have hfl:Paired (PrR G4) ys ((withM ws ms).filter λq=>decide (num<q.1)):=L2.Paired.mapP hys10 λ_ _ z=>z.tk (.same (t3.trans t4))
  obtain⟨pv',hpa,hpvo⟩:=head_opt hfl
  rw[head?_filter]at hpvo
  refine⟨l4,_,_,pv',rfl,rfl,SqL.of e4,hpa,szb rfl,λaa haa=>?_⟩
  have t11:=q15 haa (.tup [V.str "up", .int num,pv'])
  have tz:=u2.trans (t10.trans (t3.trans (t4.trans t11)))
  exact q aa (.up num ((withM ws ms).find? λq=>decide (num<q.1))) ms _ (kG.trans (.same tz)) ((P4.same tz).le {}) ⟨_,q12,OptR.tk (.same t11) hpvo⟩ rfl hmm hms
noncomputable def inS(low:Int)(e:Nat):V->Bool
 | .int g=>decide (low<=g)&&decide (g<low+2^e)
 | _=>false
noncomputable def gB(low:Int)(e:Nat)(gv:V):Int:=if inS low e gv=true then 1 else 0
def gB_half(low:Int)(e:Nat)(gv:V):gB low e gv+gB (low+2^e) e gv<=gB low (e+1) gv:=by
 have h4:(2:Int)^(e+1)=2^e+2^e:=by rw[YK];lia
 have hp:(0:Int)<2^e:=Int.pow_pos ∅
 unfold gB
 cases gv with
 | int g=>
  have hs:∀(lo:Int)(e:Nat),inS lo e (.int g)=true↔(lo<=g/\g<lo+2^e):=λlo e=>by
   show(decide (lo<=g)&&decide (g<lo+2^e))=true↔_
   rw[WC,decide_eq_true_iff,decide_eq_true_iff]
  by_cases c1:inS low e (.int g)=true
  ·have d1:=(hs _ _).mp c1
   have c2:¬ inS (low+2^e) e (.int g)=true:=λz=>by have:=(hs _ _).mp z;lia
   rw[ZL c1,ZJ c2,ZL ((hs _ _).mpr {})]
   lia
  ·rw[ZJ c1]
   by_cases c2:inS (low+2^e) e (.int g)=true
   ·have d2:=(hs _ _).mp c2
    rw[ZL c2,ZL ((hs _ _).mpr {})]
    lia
   ·rw[ZJ c2]
    split <;> lia
 | _=>exact Int.le_refl _
def q746(low:Int)(e:Nat)(gv:V):0<=gB low e gv/\gB low e gv<=1:=by unfold gB;split <;> lia
theorem q747(m:Int):∀ ns:List Int,ns.length=(ns.filter λn=>decide (n<m)).length+(ns.filter λn=>decide (m<=n)).length
 | []=>rfl
 | n::ns=>by
  have ih:=q747 m ns
  by_cases c:n<m
  ·rw[YR (by exact ZA c),YS (by rw[ZI (show ¬ m<=n by exact W47 c)];exact fnt),WT,WT]
   exact W44 ih
  ·rw[YS (by rw[ZI c];exact fnt),YR (by exact ZA (show m<=n by exact W13 c)),WT,WT]
   exact W48 ih
noncomputable def FinP(bar:Int)(gv:V)(cs:List TS.I3):Prop:=∀ c∈cs,c.1=c.2.1\/(c.2.2<=bar /\ ∀ g,gv = .int g -> ¬(c.1<=g/\g<=c.2.1))
abbrev q273:Nat:=2
abbrev q274:Nat:=40
noncomputable def rmF(low:Int)(e:Nat)(ns:List Int)(gv:V):Int:=(e:Int)*((ns.length:Int)+gB low e gv)
def q508(low:Int)(e:Nat)(ns:List Int)(gv:V):0<=rmF low e ns gv:=Int.mul_nonneg W38 (by have:=(q746 low e gv).1;lia)
def rm_half{low:Int}{e:Nat}{ns:List Int}(h:1<=(ns.length:Int)+gB low (e+1) gv):rmF low e (ns.filter λn=>decide (n<low+2^e)) gv+rmF (low+2^e) e (ns.filter λn=>decide (low+2^e<=n)) gv+1<=rmF low (e+1) ns gv:=by
 unfold rmF
 have h1:=gB_half low e gv
 have h2:=q747 (low+2^e) ns
 rw[<- Int.mul_add]
 have e1:(((e+1:Nat):Int))*((ns.length:Int)+gB low (e+1) gv)=(e:Int)*((ns.length:Int)+gB low (e+1) gv)+((ns.length:Int)+gB low (e+1) gv):=by
  rw[show(((e+1:Nat):Int))=(e:Int)+1 by lia,Int.add_mul,Int.one_mul]
 rw[e1]
 have h3:(e:Int)*((((ns.filter λn=>decide (n<low+2^e)).length:Nat):Int)+gB low e gv+((((ns.filter λn=>decide (low+2^e<=n)).length:Nat):Int)+gB (low+2^e) e gv))<=(e:Int)*((ns.length:Int)+gB low (e+1) gv):=Int.mul_le_mul_of_nonneg_left {} W38
 lia
inductive q144(K:Fg)(e:Nat)(vs:List V)(H:Hp)(Q:VK)(E:XK):Prop
 |mk(pen wl:Addr)(n low bar:Int)(ns:List Int)(gv:V)(_:vs=[.ref pen,.int low,.int (e:Int),.ref wl,gv,.int bar])(_:Pen K H pen n)(_:n+1+2*rmF low e ns gv<=50000000)(_:H wl=some (.lst (ns.map V.int)))(_:wl≠pen)(_:ns.length<=1000)(_:Wths low e ns)(_:(gv = .non \/ ∃ g,gv = .int g))(_:0<=bar)(_:∀(v:V)(p:Pp)(H':Hp),Keep pen H H'->Pen K H' pen (n+1+2*rmF low e ns gv)->PpAt H' v p->q35 e (offs low ns) p->(p.leaves:Int)<=1+rmF low e ns gv->FinP bar gv (q21 e low p)->Q v H')
def q509(K:Fg):Sp:=λvs H Q E=>∃ e,e<=q274/\q144 K e vs H Q E
def q275:z.C P w 43 "_law_fine" pn2 (q509 K):=by
 have sc:=q476
 refine z.d__law_fine.recur (k:=q273) (sp:=q144 K) q274 λe hen c__law_fine f fd F=>F.k sc λ_ _ _ s H _ Q _ hr h=>?_
 obtain⟨pen,wl,n,low,bar,ns,gv,rfl,P0,hn,hwl,hwp,hl9,hw,hgv,hbar,q⟩:=h
 refine⟨_,(q11 (pst 6 sc.nd (pln z.len_ (pa1 (pv 3))))
 (q11 (q119 (pst 7 sc.nd (q150 (q49 q514 (pv 4) q65 (q19 _)) (q250 (q281 op_le op_lt (pv 1) (pv 4) (pe_op q29 (pv 1) (pe_op q252 q14 (pv 2))))))))
 (q11 (q119 (ps_if (PW.pt (pw_or (q18 op_eq (pv 2) q14 (q19 _)) (q111 (PW.pt (q148 (q149 (q99 (pv 7))) (q148 (q18 op_le (pv 6) (pv 5) (q19 _)) (q117 (PW.pt (pw_or (q18 op_eq (pv 6) q14 (q19 _)) (q111 (q18 op_gt (pe_fn (q23 z) (hr.mono (ZQ (by decide:2<=q273) (WR _ _))) () (pa2 (pv 0) q14)) q14 (q19 _))))))))))))
 (q16 (q20 (q30 (pa2 q34 (pv 6)))))
 q22))
 (q11 (pst 8 sc.nd (pe_op q29 (pv 1) (pe_op q252 q14 (pe_op q47 (pv 2) q14))))
 (q11 (pst 9 sc.nd (pe_fn c__law_fine (hr.mono (ZH _)) () (q10 (pv 0) (q10 (pv 1) (pa4 (pe_op q47 (pv 2) q14) (q51 (cl:=[("_law_half", s.heap.objs.size+1+0)]) (cn:=["_law_half"]) (N:=["_law_half"]) (fr:=[8]) (sc0:=q17 q136) rfl (q31 (pv 3)) (λC s₂ H₂ fp=>(pv 0)) (λC s₂ H₂ fp=>(q18 op_lt (pv 0) (pv 1) (q19 _))) (by ac_rfl) ⟨by ac_rfl,trivial⟩ rfl rfl rfl cok rfl) (pv 4) (pv 5))))))
 (q11 (pst 10 sc.nd (pe_fn c__law_fine (hr.mono (ZH _)) () (q10 (pv 0) (q10 (pv 8) (pa4 (pe_op q47 (pv 2) q14) (q51 (cl:=[("_law_half", s.heap.objs.size+1+0)]) (cn:=["_law_half"]) (N:=["_law_half"]) (fr:=[8]) (sc0:=q17 q136) rfl (q31 (pv 3)) (λC s₂ H₂ fp=>(pv 0)) (λC s₂ H₂ fp=>(q18 op_ge (pv 0) (pv 1) (q19 _))) (by ac_rfl) ⟨by ac_rfl,trivial⟩ rfl rfl rfl cok rfl) (pv 4) (pv 5))))))
 (q16 (q20 (q30 (pa4 q34 (pv 6) (pv 9) (pv 10))))))))))),?_⟩
 have hml:(ns.map V.int).length=ns.length:=ZN _
 have hen':e<=40:=hen
 have hg0:=q508 low e ns gv
 exists _,rfl,wl,_,rfl,.inl (SqL.of hwl)
 rw[hml]
 have hp2:=p2pos e
 have hq2:=p2le hen'
 exists λσ G=>σ=[some (.ref pen),some (.int low),some (.int (e:Int)),some (.ref wl),some gv,some (.int bar),some (V.int (ns.length:Int)),some (.bl (inS low e gv)),none,none,none]/\G=H,?_
 ·exists _,rfl,rfl,_,rfl
  rcases hgv with rfl | ⟨g,rfl⟩
  ·exact iteF ⟨rfl,rfl⟩
  ·refine iteT ⟨_,rfl,_,rfl,_,_,rfl,rfl,_,rfl,?_⟩
   by_cases c:low<=g
   ·refine ite2 (λ_=>?_) (na c)
    exists _,rfl,_,rfl,_,_,rfl,rfl,⟨(W54 hen'),(W87 hen'),∅⟩,_,_,rfl,rfl,_,_,rfl,rfl
    dsimp only
    rw[q303]
    refine⟨?_,rfl⟩
    show _=[some (.ref pen),some (.int low),some (.int (e:Int)),some (.ref wl),some (.int g),some (.int bar),some (V.int (ns.length:Int)),some (.bl (decide (low<=g)&&decide (g<low+2^e))),none,none,none]
    rw[ZA c,Bool.true_and]
    rfl
   ·refine ite2 (ny c) (λ_=>?_)
    refine⟨?_,rfl⟩
    show _=[some (.ref pen),some (.int low),some (.int (e:Int)),some (.ref wl),some (.int g),some (.int bar),some (V.int (ns.length:Int)),some (.bl (decide (low<=g)&&decide (g<low+2^e))),none,none,none]
    rw[ZI c,WP]
    rfl
 rintro σ G ⟨rfl,rfl⟩
 have fin:∀(G':Hp)(m:Int),Keep pen G G'->Pen K G' pen m->m<=n+1->(e=0\/(inS low e gv=false/\(ns.length:Int)<=bar)) -> ∀ p,G' p=none->Q (.ref p) (upd G' p (.tup [V.str "all", .int (ns.length:Int)])):=λG' m k P' hm hfin p hp=>by
  have s':=q15 hp (.tup [V.str "all", .int (ns.length:Int)])
  refine q _ (.all (ns.length:Int)) _ (k.trans (.same s')) ((P'.same s').le {}) ⟨p,rfl,q12⟩ ?_ ?_ ?_
  ·have:((ns.length:Nat):Int)=(((offs low ns).length:Nat):Int):=by rw[ZN]
   cases e <;> exact this
  ·show((1:Nat):Int)<=_
   lia
  ·intro c hc
   rw[q98]at hc
   rw[eD hc]
   rcases hfin with z | ⟨z1,z2⟩
   ·left
    show low=low+2^e-1
    rw[z]
    exact W30
   ·refine .inr ⟨z2,λg eg ⟨a1,a2⟩=>?_⟩
    have a1':low<=g:=a1
    have a2':g<=low+2^e-1:=a2
    rw[eg]at z1
    have z1':(decide (low<=g)&&decide (g<low+2^e))=false:=z1
    rw[ZA a1',ZA (show g<low+2^e by lia)]at z1'
    cases z1'
 exists λσ G'=>σ=[some (.ref pen),some (.int low),some (.int (e:Int)),some (.ref wl),some gv,some (.int bar),some (V.int (ns.length:Int)),some (.bl (inS low e gv)),none,none,none]/\Keep pen G G'/\Pen K G' pen (n+1)/\e≠0/\1<=(ns.length:Int)+gB low e gv,?_
 ·exists _,rfl,rfl,_,rfl
  by_cases e0:e=0
  ·refine ite2 (λ_=>?_) (λz=>absurd (ZA (by rw[e0];rfl)) z)
   refine ite2 (λ_=>?_) nr
   exact⟨_,rfl,szb rfl,λp hp=>fin G n (Keep.refl _ _) P0 {} (.inl e0) p hp⟩
  refine ite2 (λz=>absurd (V.int.inj (ZF z)) {}) (λ_=>?_)
  exists _,rfl,_,rfl
  cases hi:inS low e gv with
  | true=>
   have hg1:gB low e gv=1:=ZL hi
   refine iteF ?_
   exact ite2 nf (λ_=>⟨rfl,Keep.refl _ _,P0.le {},e0,{}⟩)
  | false=>
   have hgp:=(q746 low e gv).1
   refine iteT ?_
   exists _,rfl,_,rfl,_,_,rfl,rfl,_,rfl
   by_cases c:(ns.length:Int)<=bar
   ·refine ite2 (λ_=>?_) (na c)
    exists _,rfl,rfl,_,rfl
    rw[dec_int]
    by_cases c2:(ns.length:Int)=0
    ·refine ite2 (λ_=>?_) (na c2)
     refine ite2 (λ_=>?_) nr
     exact⟨_,rfl,szb rfl,λp hp=>fin G n (Keep.refl _ _) P0 {} (.inr ⟨hi,c⟩) p hp⟩
    ·refine ite2 (ny c2) (λ_=>?_)
     refine⟨_,rfl,pen,8,n,rfl,P0,{},∅,∅,λv G1 k1 P1 v0 v1=>?_⟩
     exists _,_,rfl,rfl,_,rfl
     refine ite2 (λz=>?_) (λz=>?_)
     ·exact⟨_,rfl,szb rfl,λp hp=>fin G1 (n+1) k1 P1 {} (.inr ⟨hi,c⟩) p hp⟩
     ·exact⟨rfl,k1,P1,e0,{}⟩
   ·refine ite2 (ny c) (λ_=>?_)
    exact ite2 nf (λ_=>⟨rfl,Keep.refl _ _,P0.le {},e0,{}⟩)
 ·rintro σ G1 ⟨rfl,k1,P1,e0,hone⟩
  obtain⟨e,rfl⟩:∃ e',e=e'+1:=⟨e-1,{}⟩
  have hwl1:=k1 _ _ hwp hwl
  have ee:(((e+1:Nat):Int)-1)=(e:Int):=W31
  have hrm:=rm_half hone
  have r1:=q508 low e (ns.filter λn=>decide (n<low+2^e)) gv
  have r2:=q508 (low+2^e) e (ns.filter λn=>decide (low+2^e<=n)) gv
  exists _,rfl,_,rfl,_,_,rfl,rfl,_,_,rfl,rfl,⟨{},{},∅⟩,_,_,rfl,rfl
  dsimp only
  rw[ee,q303]
  refine⟨_,rfl,_,rfl,_,rfl,_,_,rfl,rfl,_,rfl,wl,rfl,⟨_,SqL.of hwl1⟩,λD2 hD2=>?_⟩
  refine q103 (p:=λn=>decide (n<low+2^e)) (g:=V.int) (SqL.of hwl1) hD2 (sz hl9) (λn _ H1 Q1 _ q1=>⟨_,rfl,_,rfl,_,_,rfl,rfl,_,rfl,q1⟩) (λn _ _ H1 Q1 _ q1=>⟨_,rfl,q1⟩) ?_
  have t2:=q15 hD2 (.lst ((ns.filter λn=>decide (n<low+2^e)).map V.int))
  have eD2:=@q12 G1 D2 (.lst ((ns.filter λn=>decide (n<low+2^e)).map V.int))
  have hD2p:D2≠pen:=P1.fresh hD2
  generalize upd G1 D2 (.lst ((ns.filter λn=>decide (n<low+2^e)).map V.int))=G3' at *
  refine⟨_,rfl,_,rfl,pen,D2,n+1,low,bar,_,gv,congrArg (λt=>[V.ref pen,V.int low,V.int t,V.ref D2,gv,V.int bar]) ee,P1.same t2,{},eD2,hD2p,ZQ (YC _ _) hl9,hw.loH,hgv,hbar,λv1 p1 G4 k4 P4 hp1 hd1 hv1 hf1=>?_⟩
  have k14:Keep pen G G4:=k1.trans ((Keep.same t2).trans k4)
  have hwl4:=k14 _ _ hwp hwl
  refine⟨_,rfl,_,rfl,_,rfl,_,_,rfl,rfl,_,rfl,wl,rfl,⟨_,SqL.of hwl4⟩,λD5 hD5=>?_⟩
  refine q103 (p:=λn=>decide (low+2^e<=n)) (g:=V.int) (SqL.of hwl4) hD5 (sz hl9) (λn _ H1 Q1 _ q1=>⟨_,rfl,_,rfl,_,_,rfl,rfl,_,rfl,q1⟩) (λn _ _ H1 Q1 _ q1=>⟨_,rfl,q1⟩) ?_
  have t5:=q15 hD5 (.lst ((ns.filter λn=>decide (low+2^e<=n)).map V.int))
  have eD5:=@q12 G4 D5 (.lst ((ns.filter λn=>decide (low+2^e<=n)).map V.int))
  have hD5p:D5≠pen:=P4.fresh hD5
  generalize upd G4 D5 (.lst ((ns.filter λn=>decide (low+2^e<=n)).map V.int))=G5 at *
  have P5:=P4.same t5
  refine⟨_,rfl,_,rfl,pen,D5,_,low+2^e,bar,_,gv,congrArg (λt=>[V.ref pen,V.int (low+2^e),V.int t,V.ref D5,gv,V.int bar]) ee,P5,{},eD5,hD5p,ZQ (YC _ _) hl9,hw.hiH,hgv,hbar,λv2 p2 G6 k6 P6 hp2' hd2 hv2 hf2=>?_⟩
  refine⟨_,rfl,_,rfl,_,rfl,szb rfl,λp hp=>?_⟩
  have t7:=q15 hp (.tup [V.str "split", .int (ns.length:Int),v1,v2])
  have tk6:TKeep G5 G6:=by obtain⟨xs,ex⟩:=P5.at;exact .keep k6 ex
  refine q _ (.split (ns.length:Int) p1 p2) _ (k14.trans ((Keep.same t5).trans (k6.trans (.same t7)))) ((P6.same t7).le {}) ⟨p,v1,v2,rfl,q12,hp1.tk ((TKeep.same t5).trans (tk6.trans (.same t7))),hp2'.tk (.same t7)⟩ ?_ ?_ ?_
  ·exists by rw[ZN],?_
   ·rw[q540 hw];exact hd1
   ·rw[q541 hw];exact hd2
  ·show((p1.leaves+p2.leaves:Nat):Int)<=_
   lia
  ·exact λc hc=>(eC hc).elim (hf1 c) (hf2 c)
noncomputable def Qs.gv:Qs->V
 | .least _ wo=>.int wo
 | .most wo _=>.int wo
 | .up _ (some r)=>.int r.1
 | _=>.non
inductive q276(u0:Fg)(vs:List V)(H:Hp)(Q:VK)(E:XK):Prop
 |mk(aa:Addr)(av:List Addr)(q:Qs)(_:vs=[.ref aa])(_:AskAt av H aa q)(_:Q q.gv H)
def q161:z.C P w 1 "_law_goal" ["_law_ask_here"] (q276 K):=by
 have sc:=q479
 specialize z.d__law_goal
 obtain⟨aa,av,qs,rfl,⟨tv,ha,ht⟩,q⟩:=h
 refine⟨_,(q11 (q251 (pv 0) (q151 rfl (q28 (pgn 1 sc.nd) (q28 (pgn 2 sc.nd) (q28 (pgn 3 sc.nd) q71)))))
 (q11 (ps_if (q18 op_eq (pv 1) q34 (q19 _))
 (q16 (q20 (pv 3)))
 q22)
 (q11 (ps_if (PW.pt (pw_or (q18 q253 (pv 3) q65 (q19 _)) (pw_or (q18 op_eq (pv 1) q34 (q19 _)) (q111 (q18 op_eq (pv 1) q34 (q19 _))))))
 (q16 (q20 q65))
 q22)
 (q16 (q20 (pix q26 (pv 3) q14)))))),?_⟩
 obtain⟨wd,ewd⟩:∃ x,qs.wd=x:=⟨_,rfl⟩
 rw[ewd]at ha
 exists _,rfl,aa,_,rfl,SqT.of ha,rfl,_,_,rfl,_,_,rfl,_,_,rfl,rfl
 exists _,rfl,rfl,_,rfl
 cases qs with
 | below n a=>
  cases(show("below" : Str)=wd from ewd)
  cases(show tv = .int a from ht)
  rw[wdn (by decide +kernel)]
  refine iteF ⟨_,rfl,rfl,_,rfl,iteF ?_⟩
  exact⟨_,rfl,rfl,_,rfl,ite2 (λ_=>ite2 (λ_=>q) nr) (na rfl)⟩
 | least k wo=>
  cases(show("least" : Str)=wd from ewd)
  cases(show tv = .int wo from ht)
  exact ite2 (λ_=>⟨_,rfl,q⟩) (na rfl)
 | most wo m=>
  cases(show("most" : Str)=wd from ewd)
  obtain⟨a0,rfl,ha0⟩:PrR H tv (wo,m):=ht
  rw[wdn (by decide +kernel)]
  refine iteF ⟨_,rfl,rfl,_,rfl,iteF ?_⟩
  exists _,rfl,rfl,_,rfl
  rw[wdn (by decide +kernel)]
  refine iteF ⟨_,rfl,rfl,_,rfl,?_⟩
  rw[wdn (by decide +kernel)]
  refine iteF ⟨_,rfl,a0,_,_,_,rfl,rfl,SqT.of ha0,rfl,q⟩
 | often part ps=>
  cases(show("often" : Str)=wd from ewd)
  obtain⟨D,ts,rfl,hD,hts,_⟩:=ht
  rw[wdn (by decide +kernel)]
  refine iteF ⟨_,rfl,rfl,_,rfl,iteF ?_⟩
  exists _,rfl,rfl,_,rfl
  rw[wdn (by decide +kernel)]
  refine iteF ⟨_,rfl,rfl,_,rfl,?_⟩
  exact ite2 (λ_=>q) (na rfl)
 | up n o=>
  cases(show("up" : Str)=wd from ewd)
  rw[wdn (by decide +kernel)]
  refine iteF ?_
  cases o with
  | none=>
   cases(show tv = .non from ht)
   exact⟨_,rfl,rfl,_,rfl,iteT (ite2 (λ_=>q) nr)⟩
  | some r=>
   obtain⟨a0,rfl,ha0⟩:PrR H tv r:=ht
   refine⟨_,rfl,rfl,_,rfl,iteF ?_⟩
   exists _,rfl,rfl,_,rfl
   rw[wdn (by decide +kernel)]
   refine iteF ⟨_,rfl,rfl,_,rfl,?_⟩
   rw[wdn (by decide +kernel)]
   refine iteF ⟨_,rfl,a0,_,_,_,rfl,rfl,SqT.of ha0,rfl,q⟩
def q640{e:Nat}{low w m:Int}{ws:List Int}(hw:Wths low e ws)(hd:q35 e (offs low ws) p)(h:mostF w m (q21 e low p)=true):0<m/\m=((ws.count w:Nat):Int) /\ ∀ x∈ws,((ws.count x:Nat):Int)<=m/\(x<w->((ws.count x:Nat):Int)<m):=by
 have hch:=q42 (low:=low) (q41 hd)
 unfold mostF at h
 rw[WC,WC]at h
 obtain⟨h0,ha,hn⟩:=h
 have h0':=ZF h0
 have ha':=ZF ha
 have hno:∀ c∈q21 e low p,overC w m c=false:=λc hc=>by
  cases z:overC w m c with
  | false=>rfl
  | true=>rw[List.any_eq_true.mpr ⟨c,hc,z⟩]at hn;cases hn
 obtain⟨c,hc,c1,c2,c3⟩:=q128 ha'
 have pc:=(q57 hw hd c hc).1
 rw[c1,c2,c3,q200]at pc
 refine⟨h0',pc,λx hx=>?_⟩
 obtain⟨d,hdm,d1,d2⟩:=q110 hch (hw x hx).1 (hw x hx).2
 have pd:=(q57 hw hd d hdm).1
 have pg:=q592 (ns:=ws) d1 d2
 have hpos:=List.count_pos_iff.mpr hx
 have hov:(decide (m<d.2.2)||(decide (d.2.2=m)&&decide (d.2.1<w)))=false:=hno d hdm
 rw[Bool.or_eq_false_iff,Bool.and_eq_false_iff]at hov
 have o1:=of_decide_eq_false hov.1
 refine⟨{},λhxw=>?_⟩
 have mt:=(q141 hch ha').1
 have hb:badC w d=false:=by
  cases z:badC w d with
  | false=>rfl
  | true=>rw[List.any_eq_true.mpr ⟨d,hdm,z⟩]at mt;cases mt
 have hb':(decide (0<d.2.2)&&(decide (d.1<w)&&decide (w<=d.2.1)))=false:=hb
 rw[ZA (show 0<d.2.2 by lia),ZA (show d.1<w by lia),Bool.true_and,Bool.true_and]at hb'
 have o2:=of_decide_eq_false hb'
 rcases hov.2 with z | z
 ·have:=of_decide_eq_false z
  lia
 ·have:=of_decide_eq_false z
  lia
def up_plain{e:Nat}{low n:Int}{ms:List Int}(hw:Wths low e ws)(hd:q35 e (offs low ws) p)(hm:∀ x,x∈ms↔x∈ws)(hs:ms.Pairwise (·<·))(h:upF n (q21 e low p) told=true):((withM ws ms).filter λq=>decide (n<q.1)).head? = told:=by
 have hch:=q42 (low:=low) (q41 hd)
 have cov:∀ x∈ws,n<x -> ∃ c∈q21 e low p,c.1<=x/\x<=c.2.1/\abvC n c=true:=λx hx hnx=>by
  obtain⟨d,hdm,d1,d2⟩:=q110 hch (hw x hx).1 (hw x hx).2
  have pd:=(q57 hw hd d hdm).1
  have pg:=q592 (ns:=ws) d1 d2
  have hpos:=List.count_pos_iff.mpr hx
  exists d,hdm,d1,d2
  show(decide (0<d.2.2)&&decide (n<d.2.1))=true
  rw[ZA (show 0<d.2.2 by lia),ZA (show n<d.2.1 by lia)]
  rfl
 cases told with
 | none=>
  have h':(!(q21 e low p).any (abvC n))=true:=h
  have e0:(withM ws ms).filter (λq=>decide (n<q.1))=[]:=by
   rw[filter_eq_nil_iff]
   intro q hq z
   obtain⟨x,hx,rfl⟩:=eE hq
   obtain⟨c,hc,_,_,hab⟩:=cov x ((hm x).mp hx) (ZF z)
   rw[List.any_eq_true.mpr ⟨c,hc,hab⟩]at h'
   cases h'
  rw[e0]
  rfl
 | some q=>
  have h':(decide (n<q.1)&&(decide (0<q.2)&&(decide (q33 q.1 (q21 e low p)=some q.2)&&!((q21 e low p).any λc=>abvC n c&&decide (c.1<q.1)))))=true:=h
  rw[WC,WC,WC]at h'
  obtain⟨h1,h2,h3,h4⟩:=h'
  have h1':=ZF h1
  have h2':=ZF h2
  have h3':=ZF h3
  obtain⟨c,hc,c1,c2,c3⟩:=q128 h3'
  have pc:=(q57 hw hd c hc).1
  rw[c1,c2,c3,q200]at pc
  have hqm:q.1∈ms:=(hm _).mpr (List.count_pos_iff.mp {})
  have no:∀ x∈ms,n<x->q.1<=x:=λx hx hnx=>by
   by_cases z:q.1<=x
   ·exact z
   ·obtain⟨d,hdm,d1,d2,hab⟩:=cov x ((hm x).mp hx) hnx
    rw[List.any_eq_true.mpr ⟨d,hdm,by rw[hab,ZA (show d.1<q.1 by lia)];rfl⟩]at h4
    cases h4
  clear hm hc h h3 h3' hch cov
  have key:∀ l:List Int,l.Pairwise (·<·)->q.1∈l->(∀ x∈l,n<x->q.1<=x)->((withM ws l).filter λr=>decide (n<r.1)).head? = some q:=by
   intro l
   induction l with
   | nil=>intro _ z;cases z
   | cons x l ih=>
    intro hs hq hno
    have hs':=List.pairwise_cons.mp hs
    have ew:withM ws (x::l)=(x,((ws.count x:Nat):Int))::withM ws l:=rfl
    rw[ew]
    by_cases z:n<x
    ·rw[YR (by exact ZA z)]
     have hx1:=hno x WD z
     have hx2:x=q.1:=by
      rcases eB hq with y | y
      ·exact y.symm
      ·have:=hs'.1 _ y
       lia
     show some (x,((ws.count x:Nat):Int))=some q
     rw[hx2,<- pc]
    ·rw[YS (by rw[ZI z];exact fnt)]
     refine ih hs'.2 ?_ λy hy=>hno y (ZY _ hy)
     rcases eB hq with y | y
     ·lia
     ·exact y
  exact key ms hs hqm no
noncomputable def Qs.ne:Qs->Qs->Bool
 | .below _ a,.below _ b=>!decide (b=a)
 | .least _ a,.least _ b=>!decide (b=a)
 | .most wo m,.most wo' m'=>!decide ((wo',m')=(wo,m))
 | .often _ ps,.often _ ps'=>!decide (ps'=ps)
 | .up _ none,.up _ (some _)=>true
 | .up _ (some r),.up _ (some r')=>!decide (r'=r)
 | _,_=>false
def Qs.sib:Qs->Qs->Prop
 | .below n _,.below n' _=>n'=n
 | .least k _,.least k' _=>k'=k
 | .most _ _,.most _ _=>True
 | .often p _,.often p' _=>p'=p
 | .up n _,.up n' (some _)=>n'=n
 | _,_=>False
theorem q748{a b:Int}(h:a<b):∀ us:List Int,us.countP (λx=>decide (x<a))+us.count a<=us.countP λx=>decide (x<b)
 | []=>ZH _
 | u::us=>by
  have ih:=q748 h us
  rw[YN,YN,count_cons]
  by_cases c1:u<a
  ·rw[ZL (ZA c1),ZL (ZA (show u<b by lia)),ZJ (by rw[beq_iff_eq];exact W99 c1)]
   lia
  ·rw[ZJ (by rw[ZZ];exact c1)]
   by_cases c2:u=a
   ·rw[ZL (beq_iff_eq.mpr c2),ZL (ZA (show u<b by lia))]
    lia
   ·rw[ZJ (by rw[beq_iff_eq];exact c2)]
    lia
def wrong_no{L:Nat}{low:Int}{ws ms:List Int}{q q':Qs}(hw:Wths low L ws)(hd:q35 L (offs low ws) p)(hm:∀ x,x∈ms↔x∈ws)(hs:ms.Pairwise (·<·))(hsrt:ws.Pairwise (· <= ·))(hq:q.is ws ms)(hsb:q.sib q')(hne:q.ne q'=true):q'.sh ws.length (q21 L low p)=false:=by
 have hok:=Qs.is_ok hs hm hsrt hq
 have hch:=q42 (low:=low) (q41 hd)
 cases e:q'.sh ws.length (q21 L low p) with
 | false=>rfl
 | true=>
  exfalso
  cases q with
  | below n a=>
   cases q' with
   | below n' a'=>
    cases(show n'=n from hsb)
    have hne':(!decide (a'=a))=true:=hne
    obtain⟨e1,e2⟩:=due_true (show dueF _ n a'=true from e)
    have e3:=q77 hw hd e1
    have h1:a=((ws.filter λx=>decide (x<n)).length:Int):=hok
    rw[ZA (show a'=a by lia)]at hne'
    cases hne'
   | _=>exact hsb.elim
  | least k wo=>
   cases q' with
   | least k' wo'=>
    cases(show k'=k from hsb)
    have hne':(!decide (wo'=wo))=true:=hne
    have e':q227 k wo' (q21 L low p)=true:=e
    unfold q227 at e'
    cases ha:q33 wo' (q21 L low p) with
    | none=>rw[ha]at e';cases e'
    | some x=>
     rw[ha]at e'
     obtain⟨c,hc,c1,c2,c3⟩:=q128 ha
     have pc:=(q57 hw hd c hc).1
     rw[c1,c2,q200,c3]at pc
     have e2:(decide (sumB wo' (q21 L low p)<=(k:Int))&&decide ((k:Int)<sumB wo' (q21 L low p)+x))=true:=e'
     rw[q77 hw hd (q141 hch ha).1,q431,WC,ZZ,ZZ]at e2
     obtain⟨h1,h2⟩:(ws.filter λx=>decide (x<wo)).length<=k/\k<(ws.filter λx=>decide (x<wo)).length+ws.count wo:=hok
     rw[q431]at h1 h2
     have h3:wo'=wo:=by
      rcases Int.lt_trichotomy wo' wo with z | z | z
      ·have:=q748 z ws
       lia
      ·exact z
      ·have:=q748 z ws
       lia
     rw[ZA h3]at hne'
     cases hne'
   | _=>exact hsb.elim
  | most wo m=>
   cases q' with
   | most wo' m'=>
    have hne':(!decide ((wo',m')=(wo,m)))=true:=hne
    obtain⟨p1,p2,p3⟩:=q640 hw hd (show mostF wo' m' _=true from e)
    obtain⟨h1,h2,h3,h4⟩:0<m/\m=(ws.count wo:Int)/\(∀ x,(ws.count x:Int)<=m) /\ ∀ x,x<wo->(ws.count x:Int)<m:=hok
    have a1:=p3 wo (List.count_pos_iff.mp (W43 h1 h2))
    have a2:=h3 wo'
    have em:m'=m:={}
    have ew:wo'=wo:=by
     rcases Int.lt_trichotomy wo' wo with z | z | z
     ·have:=h4 wo' z
      lia
     ·exact z
     ·have:=a1.2 z
      lia
    rw[em,ew,ZA rfl]at hne'
    cases hne'
   | _=>exact hsb.elim
  | often part ps=>
   cases q' with
   | often part' ps'=>
    cases(show part'=part from hsb)
    have hne':(!decide (ps'=ps))=true:=hne
    have h1:=q330 hw hd hm hs hq.1 W38 (show ansF (oftF part ws.length _) ps'=true from e)
    rw[ZA (h1.trans hq.2.2.symm)]at hne'
    cases hne'
   | _=>exact hsb.elim
  | up n o=>
   cases q' with
   | up n' o'=>
    cases o' with
    | none=>cases o <;> exact hsb.elim
    | some r'=>
     have en:n'=n:=by cases o <;> exact hsb
     cases en
     have h1:=up_plain hw hd hm hs (show upF n _ (some r')=true from e)
     have h2:o=(withM ws ms).find? λq=>decide (n<q.1):=hq
     rw[head?_filter,<- h2]at h1
     rw[h1]at hne
     have hne':(!decide (r'=r'))=true:=hne
     rw[ZA rfl]at hne'
     cases hne'
   | _=>cases o <;> exact hsb.elim
def ways_in{L:Nat}{low:Int}{ws:List Int}{q:Qs}(hw:Wths low L ws)(hd:q35 L (offs low ws) p)(hq:q.ok ws ms)(hsh:q.sh ws.length (q21 L low p)=true):∀ x∈waysP (q.pap low L (offs low ws)),x∈waysP p:=by
 have hno:∀ c∈q21 L low p,c.1<c.2.1->q.psi ws.length [c.1,c.2.1,c.2.2]=false:=λc hc hl=>by
  cases e:q.psi ws.length [c.1,c.2.1,c.2.2] with
  | false=>rfl
  | true=>rw[shows_no hw hd hc hl e hq]at hsh;cases hsh
 have key:∀(e:Nat)(lo:Int)(us:List Int)(p:Pp),q35 e us p->(∀ c∈q21 e lo p,c.1<c.2.1->q.psi ws.length [c.1,c.2.1,c.2.2]=false) -> ∀ x∈waysP (papF (f3 (q.psi ws.length)) e lo us),x∈waysP p:=by
  intro e
  induction e with
  | zero=>intro lo us p _ _ x hx;cases hx
  | succ e ih=>
   intro lo us p hd hc x hx
   unfold papF at hx
   split at hx
   ·rename_i k
    cases p with
    | all n=>
     exfalso
     have hn:n=(us.length:Int):=hd
     have:=hc (lo,lo+2^(e+1)-1,n) (List.mem_singleton.mpr rfl) (by have:=p2pos e;show lo<lo+2^(e+1)-1;rw[YK];lia)
     rw[hn]at this
     rw[show f3 (q.psi ws.length) lo (lo+2^(e+1)-1) us.length=q.psi ws.length [lo,lo+2^(e+1)-1,us.length]from rfl,this]at k
     cases k
    | split n l r=>
     rcases eC hx with hx | hx
     ·rcases eC hx with hx | hx
      ·exact mem_append_left _ (mem_append_left _ hx)
      ·obtain⟨y,hy,rfl⟩:=eE hx
       exact mem_append_left _ (WV _ (mem_map_of_mem (ih lo _ l hd.2.1 (λc h=>hc c (mem_append_left _ h)) y hy)))
     ·obtain⟨y,hy,rfl⟩:=eE hx
      exact WV _ (mem_map_of_mem (ih _ _ r hd.2.2 (λc h=>hc c (WV _ h)) y hy))
   ·cases hx
 have:=key L low (offs low ws) p hd hno
 unfold Qs.pap
 rw[ZN]
 exact this
def fine_yes{L:Nat}{low:Int}{ws ms:List Int}{q:Qs}(hw:Wths low L ws)(hd:q35 L (offs low ws) p)(hm:∀ x,x∈ms↔x∈ws)(hs:ms.Pairwise (·<·))(hq:q.ok ws ms)(hf:FinP 0 q.gv (q21 L low p)):q.sh ws.length (q21 L low p)=true:=by
 refine q332 hw hd hm hs hq λc hc=>?_
 rcases hf c hc with h | ⟨h1,h2⟩
 ·exact .inl h
 ·right
  have hz:=(q292 hd c hc).1
  cases e:q.psi ws.length [c.1,c.2.1,c.2.2] with
  | false=>rfl
  | true=>
   exfalso
   rcases q.lv hq ws.length W38 c.1 c.2.1 c.2.2 e with z | z
   ·lia
   ·cases q with
    | least k wo=>exact h2 wo rfl z
    | most wo m=>exact h2 wo rfl z
    | below n a=>
     have e':(decide (0<c.2.2)&&_)=true:=e
     rw[ZI {},WP]at e'
     cases e'
    | often part ps=>
     have e':(ws.length:Int)<c.2.2*part:=ZF e
     rw[show c.2.2=0 by lia,Int.zero_mul]at e'
     lia
    | up n o=>
     have e':(if c.2.2=0\/c.2.1<=n then false else _)=true:=e
     rw[ZL (.inl {})]at e'
     cases e'
def TvAt.keep(h:TvAt av H tv q)(k:TKeep H H')(kl:∀ a xs,a ∉ av->H a=some (.lst xs)->H' a=some (.lst xs)):TvAt av H' tv q:=by
 cases q with
 | below n a=>exact h
 | least k wo=>exact h
 | most wo m=>exact PrR.tk k h
 | often part ps=>
  obtain⟨D,ts,e1,e2,e3,e4⟩:=h
  exact⟨D,ts,e1,kl _ _ e4 e2,L2.Paired.mapP e3 λ_ _ z=>z.tk k,e4⟩
 | up n o=>exact OptR.tk k h
def TvAt.same(h:TvAt av H tv q)(s:Same H H'):TvAt av H' tv q:=h.keep (.same s) λa xs _ e=>s _ _ e
noncomputable def Cd(av:List Addr)(H:Hp)(q0:Qs)(v:V):Prop:=∃ c,q0.sib c/\TvAt av H v c
def sib_ask{q c:Qs}(h:q.sib c):c.wd=q.wd/\c.nm=q.nm:=by
 cases q with
 | below n a=>cases c with
  | below n' a'=>exact⟨rfl,(show n'=n from h)⟩
  | _=>exact h.elim
 | least n a=>cases c with
  | least n' a'=>exact⟨rfl,congrArg Int.ofNat (show n'=n from h)⟩
  | _=>exact h.elim
 | most n a=>cases c with
  | most n' a'=>exact⟨rfl,rfl⟩
  | _=>exact h.elim
 | often n a=>cases c with
  | often n' a'=>exact⟨rfl,(show n'=n from h)⟩
  | _=>exact h.elim
 | up n o=>cases c with
  | up n' o'=>cases o' with
   | none=>cases o <;> exact h.elim
   | some r=>exact⟨rfl,by cases o <;> exact h⟩
  | _=>cases o <;> exact h.elim
def cd_ne{q:Qs}(hs:q.sib c)(hx:TvAt av H x c)(hy:TvAt av H y q)(h:Q (.bl (q.ne c)) H):rNeQ K x y H Q:=by
 cases q with
 | below n a=>cases c with
  | below n' a'=>exact .inl ⟨a',a,hx,hy,h⟩
  | _=>exact hs.elim
 | least n a=>cases c with
  | least n' a'=>exact .inl ⟨a',a,hx,hy,h⟩
  | _=>exact hs.elim
 | most n a=>cases c with
  | most n' a'=>
   obtain⟨a1,rfl,h1⟩:=hx
   obtain⟨a2,rfl,h2⟩:=hy
   exact .inr (.inl ⟨a1,a2,(n',a'),(n,a),rfl,rfl,h1,h2,h⟩)
  | _=>exact hs.elim
 | often n a=>cases c with
  | often n' a'=>
   obtain⟨D1,t1,rfl,h1,p1,_⟩:=hx
   obtain⟨D2,t2,rfl,h2,p2,_⟩:=hy
   exact .inr (.inr (.inr ⟨D1,D2,t1,t2,a',a,rfl,rfl,SqL.of h1,SqL.of h2,q289 p1,q289 p2,h⟩))
  | _=>exact hs.elim
 | up n o=>cases c with
  | up n' o'=>cases o' with
   | none=>cases o <;> exact hs.elim
   | some r=>
    obtain⟨a1,rfl,h1⟩:PrR H x r:=hx
    cases o with
    | none=>
     cases(show y = .non from hy)
     exact .inr (.inr (.inl ⟨a1,_,rfl,rfl,SqT.of h1,h⟩))
    | some r2=>
     obtain⟨a2,rfl,h2⟩:PrR H y r2:=hy
     exact .inr (.inl ⟨a1,a2,r,r2,rfl,rfl,h1,h2,h⟩)
  | _=>cases o <;> exact hs.elim
def Lps(pen:Addr)(H:Hp)(v:V)(N:Nat):Prop:=∃ D ts ps,v = .ref D/\H D=some (.lst ts)/\Paired (PrR H) ts ps/\D≠pen/\ts.length<=N
def Lps.same{N:Nat}(h:Lps pen H v N)(s:Same H H'):Lps pen H' v N:=by
 obtain⟨D,ts,ps,e1,e2,e3,e4,e5⟩:=h
 exact⟨D,ts,ps,e1,s _ _ e2,L2.Paired.mapP e3 λ_ _ z=>z.tk (.same s),e4,e5⟩
def Lps.cat{N M:Nat}(hp:H pen=some o)(hx:Lps pen H x N)(hy:Lps pen H y M)(hz:N+M<=5000)(q:∀ v H',Same H H'->Lps pen H' v (N+M)->Q v H'):rCat x y H Q:=by
 obtain⟨D,ts,ps,rfl,e2,e3,e4,e5⟩:=hx
 obtain⟨D',ts',ps',rfl,f2,f3,f4,f5⟩:=hy
 refine⟨D,D',ts,ts',rfl,rfl,e2,f2,szB {},λp hp'=>?_⟩
 have s:=q15 hp' (.lst (ts++ts'))
 exact q _ _ s ⟨p,_,_,rfl,q12,q61 (L2.Paired.mapP e3 λ_ _ z=>z.tk (.same s)) (L2.Paired.mapP f3 λ_ _ z=>z.tk (.same s)),λz=>(by rw[z,hp]at hp';cases hp'),by rw[ZU];lia⟩
theorem q510{α β:Type}{R:α->β->Prop}:∀{l:List α}{m:List β}(k:Nat),Paired R l m->Paired R (l.take k) (m.take k)
 | _,_,0,_=>by rw[take_zero,take_zero];exact .nil
 | _,_,_+1,.nil=>.nil
 | _,_,k+1,.cons r t=>.cons r (q510 k t)
theorem q511{α β:Type}{R:α->β->Prop}:∀{l:List α}{m:List β}(k:Nat),Paired R l m->Paired R (l.drop k) (m.drop k)
 | _,_,0,h=>h
 | _,_,_+1,.nil=>.nil
 | _,_,k+1,.cons r t=>q511 k t
def Lps.cut{N:Nat}(hp:H pen=some o)(hx:Lps pen H x N)(q:∀ v H',Same H H'->Lps pen H' v N->Q v H'):rSlL K x lo hi H Q:=by
 obtain⟨D,ts,ps,rfl,e2,e3,e4,e5⟩:=hx
 refine⟨D,ts,rfl,SqL.of e2,λp hp'=>?_⟩
 have s:=q15 hp' (.lst (cutV ts lo hi))
 exact q _ _ s ⟨p,_,_,rfl,q12,q510 _ (q511 _ (L2.Paired.mapP e3 λ_ _ z=>z.tk (.same s))),λz=>(by rw[z,hp]at hp';cases hp'),ZQ (q190 _ _ _) e5⟩
def Lps.cd{N:Nat}{part:Int}(h:Lps pen H v N):Cd [pen] H (.often part ps) v:=by
 obtain⟨D,ts,qs,rfl,e2,e3,e4,e5⟩:=h
 exact⟨.often part qs,rfl,D,ts,rfl,e2,e3,λz=>e4 (eD z)⟩
inductive q187(K:Fg)(vs:List V)(H:Hp)(Q:VK)(E:XK):Prop
 |mk(pen b wl aa:Addr)(n low:Int)(L:Nat)(ws:List Int)(q0:Qs)(_:vs=[.ref pen,.ref b,.ref wl,.ref aa])(_:Pen K H pen n)(_:n<10000000)(_:H b=some (.tup [.int low,.int (L:Int)]))(_:L<=40)(_:H wl=some (.lst (ws.map V.int)))(_:wl≠pen)(_:ws.length<=500)(_:AskAt [pen] H aa q0)(_:(∀ part ps,q0 = .often part ps->ps.length<=1000))(_:∀(D:Addr)(zs:List V)(H':Hp),Keep pen H H'->Pen K H' pen (n+1)->H' D=some (.lst zs)->D≠pen->zs.length<=4->(∀ v∈zs,∃ a c,v = .ref a/\AskAt [pen] H' a c/\q0.sib c/\q0.ne c=true)->Q (.ref D) H')
def q366:z.C P w 3 "_law_others" pn5 (q187 K):=by
 have sc:=q352
 specialize z.d__law_others
 obtain⟨pen,b,wl,aa,n,low,L,ws,q0,rfl,P0,hn,hb,hL,hwl,hwp,hwsl,⟨tv,ha,ht⟩,hsz,q⟩:=h
 refine⟨_,(q11 (q251 (pv 3) (q151 rfl (q28 (pgn 4 sc.nd) (q28 (pgn 5 sc.nd) (q28 (pgn 6 sc.nd) q71)))))
 (q11 (pst 7 sc.nd (pe_op q29 (pix q26 (pv 1) q14) (pfn (q23 z) hr (pa2 (pv 0) (pe_op q252 q14 (pix q26 (pv 1) q14))))))
 (q11 (q119 (ps_if (q18 op_eq (pv 4) q34 (q19 _))
 (q16 (pst 8 sc.nd (q38 (pa4 (pe_op q29 (pv 6) q14) (pe_op q47 (pv 6) q14) (pe_op q29 (pln z.len_ (pa1 (pv 2))) q14) (pe_un un_neg q14)))))
 (q16 (ps_if (q18 op_eq (pv 4) q34 (q19 _))
 (q16 (pst 8 sc.nd (q38 (pa4 (pe_op q29 (pv 6) q14) (pe_op q47 (pv 6) q14) (pe_op q29 (pv 7) (q102 q437 () z.int_ q667 (pa1 (q49 op_eq (pv 7) (pv 6) (q19 _))))) (pe_op q47 (pix q26 (pv 1) q14) q14)))))
 (q16 (ps_if (q18 op_eq (pv 4) q34 (q19 _))
 (q16 (pst 8 sc.nd (q38 (pa4 (pe_op q169 (pv 6) (q38 (pa1 (q30 (pa2 (pv 7) q14))))) (pe_op q169 (q130 q296 (pv 6) (q189 q14) q188) (q130 q296 (pv 6) (q189 q14) q188)) (pe_op q169 (pe_op q169 (pv 6) (pv 6)) (q38 (pa1 (q30 (pa2 (pv 7) q14))))) (pe_op q169 (q130 q296 (pv 6) q188 (q189 (pe_un un_neg q14))) (q38 (pa1 (q30 (pa2 (pv 7) q14)))))))))
 (q16 (pst 8 sc.nd (q38 (pa4 (q30 (pa2 (pv 7) q14)) (q30 (pa2 (pe_op q47 (pix q26 (pv 1) q14) q14) q14)) (q30 (pa2 (pv 7) q14)) (q30 (pa2 (pe_op q29 (pix q26 (pv 1) q14) (pe_op q252 q14 (pix q26 (pv 1) q14))) q14))))))))))))
 (q16 (q20 (q51 (cl:=[("_law_word", s.heap.objs.size+1+0),("_law_told_here", s.heap.objs.size+1+2),("_law_number", s.heap.objs.size+1+1)]) (cn:=["_law_word", "_law_told_here", "_law_number"]) (N:=["_law_number", "_law_told_here", "_law_word"]) (fr:=[5,6,4]) (sc0:=q17 q138) rfl (q31 (pv 8)) (λC s₂ H₂ fp=>(q30 (pa3 (pv 3) (pv 1) (pv 0)))) (λC s₂ H₂ fp=>(q18 (op_neQ (K:=K) rfl hr.units) (pv 0) (pv 2) (q19 _))) (by ac_rfl) ⟨by ac_rfl,by ac_rfl,by ac_rfl,trivial⟩ rfl rfl rfl cok rfl)))))),?_⟩
 have hp2:=p2pos L
 have hq2:=p2le hL
 have hml:(ws.map V.int).length=ws.length:=ZN _
 obtain⟨wd,ewd⟩:∃ x,q0.wd=x:=⟨_,rfl⟩
 obtain⟨nm,enm⟩:∃ x,q0.nm=x:=⟨_,rfl⟩
 rw[ewd,enm]at ha
 exists _,rfl,aa,_,rfl,SqT.of ha,rfl,_,_,rfl,_,_,rfl,_,_,rfl,rfl
 exists _,rfl,b,_,_,_,rfl,rfl,SqT.of hb,rfl,_,rfl,_,rfl,b,_,_,_,rfl,rfl,SqT.of hb,rfl,_,_,rfl,rfl,⟨{},{},∅⟩
 dsimp only
 rw[q303]
 refine⟨pen,_,_,rfl,P0,{},{},{},λg H1 k1 P1 _ _=>⟨_,_,rfl,rfl,?_⟩⟩
 obtain⟨px,hpx⟩:=P0.at
 obtain⟨px1,hpx1⟩:=P1.at
 have ht1:TvAt [pen] H1 tv q0:=ht.keep (.keep k1 hpx) λa xs n e=>k1 _ _ (λz=>n (by rw[z];exact List.mem_singleton.mpr rfl)) e
 have hwl1:=k1 _ _ hwp hwl
 have hb1:=k1 _ _ (P0.ne hb) hb
 exists λσ G=>∃(l:Addr)(cv:List V),σ=[some (.ref pen),some (.ref b),some (.ref wl),some (.ref aa),some (.str wd),some (.int nm),some tv,some (.int (low+g)),some (.ref l)]/\Same H1 G/\G l=some (.lst cv)/\l≠pen/\cv.length<=4 /\ ∀ v∈cv,Cd [pen] G q0 v,?_
 ·have h4:(∃ m a,q0 = .below m a)\/(∃ k a,q0 = .least k a)\/(∃ part ps,q0 = .often part ps)\/(wd ≠ "below" /\ wd ≠ "least" /\ wd ≠ "often" /\ ∀ r v G,PrR G v r->Cd [pen] G q0 v):=by
   cases q0 with
   | below m a=>exact .inl ⟨_,_,rfl⟩
   | least m a=>exact .inr (.inl ⟨_,_,rfl⟩)
   | often m a=>exact .inr (.inr (.inl ⟨_,_,rfl⟩))
   | most m a=>
    cases(show("most" : Str)=wd from ewd)
    exact .inr (.inr (.inr ⟨by decide +kernel,by decide +kernel,by decide +kernel,λr v G h=>⟨.most r.1 r.2,trivial,h⟩⟩))
   | up m o=>
    cases(show("up" : Str)=wd from ewd)
    exact .inr (.inr (.inr ⟨by decide +kernel,by decide +kernel,by decide +kernel,λr v G h=>⟨.up m (some r),by cases o <;> rfl,h⟩⟩))
  exists _,rfl,rfl,_,rfl
  rcases h4 with ⟨m,a,rfl⟩ | ⟨k,a,rfl⟩ | ⟨part,ps,rfl⟩ | ⟨w1,w2,w3,hpr⟩
  ·cases(show("below" : Str)=wd from ewd)
   cases(show tv = .int a from ht)
   refine ite2 (λ_=>?_) (na rfl)
   refine⟨_,rfl,_,_,rfl,rfl,_,rfl,_,_,rfl,rfl,_,rfl,wl,_,rfl,.inl (SqL.of hwl1),_,_,rfl,rfl,_,rfl,szb rfl,λl hl=>?_⟩
   refine⟨l,_,rfl,q15 hl _,q12,P1.fresh hl,ZH _,λv hv=>?_⟩
   simp only[mem_cons,not_mem_nil,or_false]at hv
   rcases hv with rfl | rfl | rfl | rfl <;> exact⟨.below m _,rfl,rfl⟩
  ·cases(show("least" : Str)=wd from ewd)
   cases(show tv = .int a from ht)
   rw[wdn (by decide +kernel)]
   refine iteF ⟨_,rfl,rfl,_,rfl,ite2 (λ_=>?_) (na rfl)⟩
   refine⟨_,rfl,_,_,rfl,rfl,_,rfl,_,_,rfl,rfl,_,rfl,_,rfl,_,rfl,rfl,.inr ⟨_,rfl,_,_,rfl,rfl,_,rfl,b,_,_,_,rfl,rfl,SqT.of hb1,rfl,_,_,rfl,rfl,szb rfl,λl hl=>?_⟩⟩
   refine⟨l,_,rfl,q15 hl _,q12,P1.fresh hl,ZH _,λv hv=>?_⟩
   simp only[mem_cons,not_mem_nil,or_false]at hv
   rcases hv with rfl | rfl | rfl | rfl <;> exact⟨.least k _,rfl,rfl⟩
  ·cases(show("often" : Str)=wd from ewd)
   rw[wdn (by decide +kernel)]
   refine iteF ⟨_,rfl,rfl,_,rfl,?_⟩
   rw[wdn (by decide +kernel)]
   refine iteF ⟨_,rfl,rfl,_,rfl,ite2 (λ_=>?_) (na rfl)⟩
   have hps:=hsz _ _ rfl
   have hl0:Lps pen H1 tv 1000:=by
    obtain⟨D,ts,rfl,e2,e3,e4⟩:=ht1
    exact⟨D,ts,ps,rfl,e2,e3,λz=>e4 (List.mem_singleton.mpr z),by rw[show ts.length=ps.length from Paired.length e3];exact hps⟩
   have one:∀{H2:Hp}{i:Int}{t l:Addr},Same H1 H2->H2 t=none->upd H2 t (.tup [.int (low+g),.int i]) l=none->Lps pen (upd (upd H2 t (.tup [.int (low+g),.int i])) l (.lst [.ref t])) (.ref l) 1:=fun {H2 i t l} e0 e1 e2=>⟨l,_,[(low+g,i)],rfl,q12,.cons ⟨t,rfl,q15 e2 _ _ _ q12⟩ .nil,λz=>(by rw[z,q15 e1 _ _ _ (e0 _ _ hpx1)]at e2;cases e2),ZH _⟩
   refine⟨_,rfl,_,rfl,szb rfl,λt1 h1=>⟨szb rfl,λl1 hl1=>?_⟩⟩
   have s1:=(q15 h1 (.tup [V.int (low+g),.int 1])).trans (q15 hl1 (.lst [V.ref t1]))
   refine Lps.cat (s1 _ _ hpx1) (hl0.same s1) (one (.refl _) h1 hl1) {} λv1 G1 s2 c1=>?_
   have u1:=s1.trans s2
   exists _,rfl,_,rfl
   dsimp only [q396]
   refine Lps.cut (K:=K) (u1 _ _ hpx1) (hl0.same u1) λv2 G2 s3 c2=>?_
   have u2:=u1.trans s3
   exists _,rfl,_,rfl
   dsimp only [q396]
   refine Lps.cut (K:=K) (u2 _ _ hpx1) (hl0.same u2) λv3 G3 s4 c3=>?_
   have u3:=u2.trans s4
   refine Lps.cat (u3 _ _ hpx1) (c2.same s4) c3 {} λv4 G4 s5 c4=>?_
   have u4:=u3.trans s5
   exists _,rfl,_,rfl
   refine Lps.cat (u4 _ _ hpx1) (hl0.same u4) (hl0.same u4) {} λv5 G5 s6 c5=>?_
   have u5:=u4.trans s6
   refine⟨_,rfl,szb rfl,λt6 h6=>⟨szb rfl,λl6 hl6=>?_⟩⟩
   have s7:=(q15 h6 (.tup [V.int (low+g),.int 2])).trans (q15 hl6 (.lst [V.ref t6]))
   refine Lps.cat ((u5.trans s7) _ _ hpx1) (c5.same s7) (one u5 h6 hl6) {} λv6 G6 s8 c6=>?_
   have u6:=(u5.trans s7).trans s8
   exists _,rfl,_,rfl,_,rfl
   dsimp only [q396]
   refine Lps.cut (K:=K) (u6 _ _ hpx1) (hl0.same u6) λv7 G7 s9 c7=>?_
   have u7:=u6.trans s9
   refine⟨_,rfl,szb rfl,λt8 h8=>⟨szb rfl,λl8 hl8=>?_⟩⟩
   have s10:=(q15 h8 (.tup [V.int (low+g),.int 9999])).trans (q15 hl8 (.lst [V.ref t8]))
   refine Lps.cat ((u7.trans s10) _ _ hpx1) (c7.same s10) (one u7 h8 hl8) {} λv8 G8 s11 c8=>?_
   have u8:=(u7.trans s10).trans s11
   refine⟨szb rfl,λl hl=>?_⟩
   have s12:=q15 hl (.lst [v1,v4,v6,v8])
   have z68:=(s9.trans (s10.trans s11)).trans s12
   have z48:=(s6.trans (s7.trans s8)).trans z68
   have z18:=(s3.trans (s4.trans s5)).trans z48
   refine⟨l,_,rfl,u8.trans s12,q12,(P1.same u8).fresh hl,ZH _,λv hv=>?_⟩
   simp only[mem_cons,not_mem_nil,or_false]at hv
   rcases hv with rfl | rfl | rfl | rfl
   ·exact(c1.same z18).cd
   ·exact(c4.same z48).cd
   ·exact(c6.same z68).cd
   ·exact(c8.same s12).cd
  ·rw[wdn w1]
   refine iteF ⟨_,rfl,rfl,_,rfl,?_⟩
   rw[wdn w2]
   refine iteF ⟨_,rfl,rfl,_,rfl,?_⟩
   rw[wdn w3]
   refine iteF ⟨_,rfl,szb rfl,λt1 h1=>?_⟩
   have s1:=q15 h1 (.tup [V.int (low+g),.int 9999])
   refine⟨_,rfl,b,_,_,_,rfl,rfl,SqT.of (s1 _ _ hb1),rfl,_,_,rfl,rfl,szb rfl,λt2 h2=>?_⟩
   have s2:=s1.trans (q15 h2 (.tup [V.int (low-1),.int 1]))
   refine⟨_,rfl,szb rfl,λt3 h3=>?_⟩
   have s3:=s2.trans (q15 h3 (.tup [V.int (low+g),.int 0]))
   exists _,rfl,b,_,_,_,rfl,rfl,SqT.of (s3 _ _ hb1),rfl,_,rfl,b,_,_,_,rfl,rfl,SqT.of (s3 _ _ hb1),rfl,_,_,rfl,rfl,⟨{},{},∅⟩
   refine⟨_,_,rfl,rfl,szb rfl,λt4 h4=>⟨szb rfl,λl hl=>?_⟩⟩
   have s4:=q15 h4 (.tup [V.int (low+1*2^(L:Int).toNat),.int 1])
   have s5:=q15 hl (.lst [V.ref t1,.ref t2,.ref t3,.ref t4])
   have s45:=s4.trans s5
   have s35:=(q15 h3 (.tup [V.int (low+g),.int 0])).trans s45
   have s25:=(q15 h2 (.tup [V.int (low-1),.int 1])).trans s35
   refine⟨l,_,rfl,s3.trans s45,q12,(P1.same (s3.trans s4)).fresh hl,ZH _,λv hv=>?_⟩
   simp only[mem_cons,not_mem_nil,or_false]at hv
   rcases hv with rfl | rfl | rfl | rfl
   ·exact hpr (low+g,9999) _ _ ⟨t1,rfl,s25 _ _ q12⟩
   ·exact hpr (low-1,1) _ _ ⟨t2,rfl,s35 _ _ q12⟩
   ·exact hpr (low+g,0) _ _ ⟨t3,rfl,s45 _ _ q12⟩
   ·exact hpr (_,1) _ _ ⟨t4,rfl,s5 _ _ q12⟩
 ·rintro σ G ⟨l,cv,rfl,s1,hl,hlp,hcl,hcd⟩
  have P2:=P1.same s1
  have htv:TvAt [pen] G tv q0:=ht1.same s1
  refine⟨_,rfl,l,rfl,⟨_,SqL.of hl⟩,λD hD=>?_⟩
  have own:∀{G':Hp}{o:HO},Same G G'->Same G (upd G' D o):=fun {G' o} k a x e=>by
   rw[q27 (λz=>by rw[z,hD]at e;cases e)]
   exact k a x e
  refine q114 (K:=K) (xs:=cv) (sz {}) (λi ys G'=>G' D=some (.lst ys)/\Same G G'/\ys.length<=i /\ ∀ v∈ys,∃ a c u,v = .ref a/\G' a=some (.tup [.str wd,.int nm,u])/\TvAt [pen] G u c/\q0.sib c/\q0.ne c=true) ⟨q12,q15 hD _,ZH _,λv hv=>by cases hv⟩ (λi ys G' ⟨_,e,_⟩=>SqL.of (e _ _ hl)) (λi ys G' ⟨e,_,e2,_⟩=>⟨e,e2⟩) ?_ ?_
  ·rintro i x ys G' hx ⟨e1,e2,e3,e4⟩
   obtain⟨c,hs,hc⟩:=hcd x (WQ hx)
   have hlt:=(eA hx).1
   refine⟨_,rfl,_,rfl,cd_ne hs (hc.same e2) (htv.same e2) ⟨_,rfl,?_⟩⟩
   cases hne:q0.ne c with
   | true=>
    refine iteT ⟨_,rfl,_,rfl,_,rfl,szb rfl,λa ha'=>?_⟩
    have t1:=q15 ha' (.tup [V.str wd,.int nm,x])
    have e1':=t1 _ _ e1
    have ea:upd G' a (.tup [V.str wd,.int nm,x]) a=some (.tup [V.str wd,.int nm,x]):=q12
    refine⟨e1',q12,own (e2.trans t1),by rw[ZU];exact Nat.succ_le_succ e3,λv hv=>?_⟩
    have key:∀{a':Addr}{vs:List V},upd G' a (.tup [V.str wd,.int nm,x]) a'=some (.tup vs)->upd (upd G' a (.tup [V.str wd,.int nm,x])) D (.lst (ys++[.ref a])) a'=some (.tup vs):=fun {a' vs} e=>by
     rw[q27 (λz=>by rw[z,e1']at e;cases e)]
     exact e
    rcases eC hv with hv | hv
    ·obtain⟨a',c',u,h1,h2,h3⟩:=e4 v hv
     exact⟨a',c',u,h1,key (t1 _ _ h2),h3⟩
    ·exact⟨a,c,x,eD hv,key ea,hc,hs,hne⟩
   | false=>exact iteF ⟨_,{},rfl,{},e1,e2,Nat.le_succ_of_le e3,e4⟩
  ·rintro ys G' ⟨e1,e2,e3,e4⟩
   refine q D ys G' (k1.trans (.same (s1.trans e2))) (P2.same e2) e1 (P2.fresh hD) {} λv hv=>?_
   obtain⟨a,c,u,h1,h2,h3,h4,h5⟩:=e4 v hv
   obtain⟨w1,w2⟩:=sib_ask h4
   exact⟨a,c,h1,⟨u,by rw[w1,w2,ewd,enm];exact h2,h3.same e2⟩,h4,h5⟩
def Tbs.pen{H H':Hp}{pen:Addr}{xs:List V}(t:Tbs H)(k:Keep pen H H')(e:H pen=some (.lst xs)):Tbs H':=λq hq=>by
 obtain⟨ps,h1,h2,h3⟩:=t q hq
 exists ps,k _ _ (ne_of h1 e (by intro z;cases z)) h1,h2
 rcases h3 with h | ⟨c',oc,vs,tq,a,b,d⟩
 ·exact .inl h
 ·exact .inr ⟨c',oc,vs,tq,a,k _ _ (ne_of b e (by intro z;cases z)) b,d⟩
def Gth.pen{K:Fg}{H H':Hp}{b ga pen:Addr}{xs:List V}{low:Int}{L:Nat}{gs:List G3}{ys:List V}(g:Gth K H b ga xs low L gs)(k:Keep pen H H')(e:H pen=some (.lst ys))(n:ga≠pen):Gth K H' b ga xs low L gs:=
 ⟨k _ _ (ne_of g.b e (by intro z;cases z)) g.b,g.le,k _ _ n g.g,g.at_.tk (.keep k e),g.gd,g.ln,g.few,g.tb.pen k e⟩
def Pen.kp{n:Int}(p:Pen K H pen n)(k:KpT H H'):Pen K H' pen n:=by
 obtain⟨a,ns,c,r,h1,h2,h3⟩:=p
 refine⟨a,ns,c,r,k.l h1,?_,h3⟩
 rcases h2 with ⟨o,h⟩ | h
 ·exact .inl ⟨o,k _ _ (by intro _ z;cases z) h⟩
 ·exact .inr h
def AskAt.pen{av:List Addr}{pen:Addr}{H H':Hp}{aa:Addr}{q:Qs}{xs:List V}(h:AskAt av H aa q)(k:Keep pen H H')(e:H pen=some (.lst xs))(m:pen∈av):AskAt av H' aa q:=h.keep (.keep k e) λa xs n e=>k _ _ (λz=>n (z▸m)) e
def WyAt.kp(k:Keep pen H H')(e:H pen=some (.lst ys))(h:WyAt K H v x):WyAt K H' v x:=by
 obtain⟨a,ea,h⟩:=h
 exists a,ea
 exact k _ _ (ne_of h e (by intro z;cases z)) h
abbrev k_law:Nat:=50
abbrev sp_law(K:Fg):Sp:=q459 K [264,257,250,243,236]
def lex_le{us:List TS.I3}(h:us.Pairwise λx y=>TS.lex3 y x=false):(us.map (·.1)).Pairwise (· <= ·):=by
 rw[pairwise_map]
 refine h.imp fun {x y} z=>?_
 have:=TS.q237.mp z
 lia
def Only.no(h:∀ b ys,H b≠some (.lst ys))(hS:SqL K H a xs):Scr K H a xs:=by
 rcases hS with (h' | h') | h'
 ·exact absurd h' (h _ _)
 ·exact .inl h'
 ·exact .inr h'
def Tbs.first(h:∀ T∈([264,257,250,243,236]:List Addr),H T=some (.tbl #[])):Tbs H:=λq hq=>by
 have:q.1∈([264,257,250,243,236]:List Addr):=by
  have z:∀ q∈tbQ,q.1∈([264,257,250,243,236]:List Addr):=by decide +kernel
  exact z q hq
 exact⟨#[],h _ this,trivial,.inl rfl⟩
def Qs.gv_or(q:Qs):q.gv = .non \/ ∃ g,q.gv = .int g:=by
 cases q with
 | below n a=>exact .inl rfl
 | least k wo=>exact .inr ⟨_,rfl⟩
 | most wo m=>exact .inr ⟨_,rfl⟩
 | often p ps=>exact .inl rfl
 | up n o=>cases o with
  | none=>exact .inl rfl
  | some r=>exact .inr ⟨_,rfl⟩
def AskAt.less(h:AskAt (x::av) H aa q):AskAt av H aa q:=by
 obtain⟨tv,e,h⟩:=h
 exists tv,e
 cases q with
 | often part ps=>
  obtain⟨D',ts,e1,e2,e3,e4⟩:=h
  exact⟨D',ts,e1,e2,e3,λz=>e4 (ZY _ z)⟩
 | below n a=>exact h
 | least k wo=>exact h
 | most wo m=>exact h
 | up n o=>exact h
structure Lw4(K:Fg)(pen b ga wl aa D S:Addr)(low:Int)(L:Nat)(xs:List V)(gs:List G3)(ws:List Int)(qs:Qs)(zw:List V)(W:LL)(m:Int)(fs:List (V×Pp))(G:Hp):Prop where
 p:Pen K G pen m
 g:Gth K G b ga xs low L gs
 a:AskAt [S,pen] G aa qs
 w:G wl=some (.lst (ws.map V.int))
 d:G D=some (.lst zw)
 z:Paired (WyAt K G) zw W
 s:G S=some (.lst (fs.map (·.1)))
 f:∀ x∈fs,PpAt G x.1 x.2/\q35 L (Wh gs) x.2/\x.2.leaves<=90000
 n1:ga≠pen
 n2:wl≠pen
 n3:D≠pen
 n4:S≠pen
 n5:ga≠S
 n6:wl≠S
 n7:D≠S
section
variable {K:Fg}{pen b ga wl aa D S:Addr}{low:Int}{L:Nat}{xs:List V}{gs:List G3}{ws:List Int}{qs:Qs}{zw:List V}{W:LL}{m m':Int}{fs:List (V×Pp)}{G G':Hp}
def Lw4.same(h:Lw4 K pen b ga wl aa D S low L xs gs ws qs zw W m fs G)(s:Same G G'):Lw4 K pen b ga wl aa D S low L xs gs ws qs zw W m fs G':=
 ⟨h.p.same s,h.g.kp (.of s) (h.g.tb.same s),h.a.same s,s _ _ h.w,s _ _ h.d,L2.Paired.mapP h.z λ_ _ z=>z.same s,s _ _ h.s,λx hx=>⟨(h.f x hx).1.same s,(h.f x hx).2⟩,h.n1,h.n2,h.n3,h.n4,h.n5,h.n6,h.n7⟩
def Lw4.pn(h:Lw4 K pen b ga wl aa D S low L xs gs ws qs zw W m fs G)(k:Keep pen G G')(P':Pen K G' pen m'):Lw4 K pen b ga wl aa D S low L xs gs ws qs zw W m' fs G':=by
 obtain⟨y,e⟩:=h.p.at
 exact⟨P',h.g.pen k e h.n1,h.a.pen k e (by simp),k _ _ h.n2 h.w,k _ _ h.n3 h.d,L2.Paired.mapP h.z λ_ _ z=>z.kp k e,k _ _ h.n4 h.s,λx hx=>⟨(h.f x hx).1.tk (.keep k e),(h.f x hx).2⟩,h.n1,h.n2,h.n3,h.n4,h.n5,h.n6,h.n7⟩
def Lw4.le(h:Lw4 K pen b ga wl aa D S low L xs gs ws qs zw W m fs G)(l:m<=m'):Lw4 K pen b ga wl aa D S low L xs gs ws qs zw W m' fs G:={ h with p:=h.p.le l }
def Lw4.app(h:Lw4 K pen b ga wl aa D S low L xs gs ws qs zw W m fs G){p:Pp}(hv:PpAt G v p)(h2:q35 L (Wh gs) p)(h3:p.leaves<=90000):Lw4 K pen b ga wl aa D S low L xs gs ws qs zw W m (fs++[(v,p)]) (upd G S (.lst (fs.map (·.1)++[v]))):=by
 have k:=Keep.set S G (.lst (fs.map (·.1)++[v]))
 refine⟨h.p.other h.n4 h.s _,h.g.pen k h.s h.n5,h.a.pen k h.s (by simp),k _ _ h.n6 h.w,k _ _ h.n7 h.d,L2.Paired.mapP h.z λ_ _ z=>z.kp k h.s,by rw[q12,WS];rfl,λx hx=>?_,h.n1,h.n2,h.n3,h.n4,h.n5,h.n6,h.n7⟩
 rcases eC hx with hx | hx
 ·exact⟨(h.f x hx).1.tk (.keep k h.s),(h.f x hx).2⟩
 ·rw[eD hx]
  exact⟨hv.tk (.keep k h.s),h2,h3⟩
end
theorem nd_len:∀{l m:List Int},l.Nodup->(∀ x∈l,x∈m)->l.length<=m.length
 | [],_,_,_=>WA _
 | x::l,m,h,hs=>by
  obtain⟨h1,h2⟩:=List.nodup_cons.mp h
  have hx:=hs x WD
  have:=nd_len (m:=m.erase x) h2 λy hy=>(mem_erase_of_ne (λz:y=x=>h1 (z▸hy))).mpr (hs y (ZY _ hy))
  rw[length_erase_of_mem hx]at this
  have:=length_pos_of_mem hx
  rw[WT]
  lia
def pTr_same(s:Same H H')(h:PTr H v x):PTr H' v x:=by
 obtain⟨a,b,e,h1,h2⟩:=h
 exact⟨a,b,e,s _ _ h1,s _ _ h2⟩
def q749(e:H D=some (.lst ys))(h:PTr H v x):PTr (upd H D (.lst zs)) v x:=by
 obtain⟨a,b,ea,h1,h2⟩:=h
 have k:=Keep.set D H (.lst zs)
 exact⟨a,b,ea,k _ _ (ne_of h1 e (by intro z;cases z)) h1,k _ _ (ne_of h2 e (by intro z;cases z)) h2⟩
def at4(n:Nat){c:Int}(h0:0<=c)(h1:c<4):∃ bar:Int,0<=bar/\atI [V.int 0,.int 1,.int 2,.int (n:Int)] c=some (.int bar):=by
 rcases(show c=0\/c=1\/c=2\/c=3 by lia)with rfl | rfl | rfl | rfl
 ·exact⟨0,∅,rfl⟩
 ·exact⟨1,∅,rfl⟩
 ·exact⟨2,∅,rfl⟩
 ·exact⟨n,{},rfl⟩
theorem q434:∀{e:Nat}{us:List Int}{p:Pp},q35 e us p->dpP p<=e
 | 0,_,.all _,_=>ZH _
 | e+1,_,.all _,_=>WA _
 | 0,_,.split _ _ _,h=>h.elim
 | e+1,_,.split _ l r,⟨_,h1,h2⟩=>by
  show max (dpP l) (dpP r)+1<=_
  have:=q434 h1
  have:=q434 h2
  lia
def rm_le{low:Int}{L:Nat}{ws:List Int}(gv:V)(hL:L<=40)(hw:ws.length<=500):rmF low L ws gv<=20040:=by
 have h1:=q746 low L gv
 have h2:(L:Int)*((ws.length:Int)+gB low L gv)<=40*501:=Int.mul_le_mul {} {} {} ∅
 exact h2
def ok_law(z:Bz K mg base):∀(f:Addr)(fd:FuncData),Fun K "law" "law" s_law f fd->FnOk P w K mg base CX0 k_law f fd ["_law_script"] (sp_law K):=by
 have sc:=sc_law
 intro f fd F
 refine F.ok sc (λ_ _ _ _ ⟨_,_,e,_⟩=>by rw[e];rfl) λ_ _ _ s H _ Q _ hr h=>?_
 obtain⟨a,ns,rfl,hS,h63,hT,hO,q⟩:=h
 refine⟨_,(q11 (pst 1 sc.nd (q38 (pa3 (pr 0) q14 q14)))
 (q11 (pst 2 sc.nd (pfn (q353 z) hr (pa1 (pr 1))))
 (q11 (q251 (pfn (q247 z) hr (pa3 (pr 1) (pr 2) q14)) (q151 rfl (q28 (pgn 3 sc.nd) (q28 (pgn 4 sc.nd) q71))))
 (q11 (q232 (i:=5) (cl:=[]) (cn:=[]) (N:=[]) (fr:=[]) (sc0:=q17 s_law) sc.nd rfl (Or.inl rfl) rfl (q31 (pr 4)) (λC s₂ H₂ fp=>(pix (mx_tupK (K:=K) rfl) (pr 0) q14)) (by ac_rfl) trivial rfl rfl rfl cok rfl (by ac_rfl) (.inl rfl))
 (q11 (pst 6 sc.nd (pfn (q546 z) hr (pa3 (pr 1) (pr 2) (pr 5))))
 (q11 (pst 7 sc.nd (pfn (q507 z) hr (pa3 (pr 2) (pr 3) (pr 6))))
 (q11 (pst 8 sc.nd (pfn (q271 z) hr (pa1 (pr 7))))
 (q11 (pst 9 sc.nd (pfn (q275 z) hr (q10 (pr 1) (q10 (pix q308 (pr 2) q14) (pa4 (pix q308 (pr 2) q14) (pr 5) (pfn (q161 z) hr (pa1 (pr 6))) q14)))))
 (q11 (ps_if (PW.pt (pw_or (q149 (q99 (pfn (q94 z) hr (pa4 (pr 2) (pr 3) (pr 7) (pr 6))))) (q111 (q149 (q99 (pfn (q94 z) hr (pa4 (pr 2) (pr 3) (pr 9) (pr 6))))))))
 (q16 (q20 pe_bl))
 q22)
 (q11 (pst 10 sc.nd (q38 (pa2 (pr 9) (pr 7))))
 (q11 (q62 PassesOwn.never rfl (q80 rfl z.range_ (pa1 q14)) (pgn 11 sc.nd)
 (q11 (pst 12 sc.nd (pe_op om_add (pix q308 (pr 2) q14) (pfn (q23 z) hr (pa2 (pr 1) (pe_op q252 q14 (pix q308 (pr 2) q14))))))
 (q11 (q119 (ps_if (PW.pt (q148 (q409 op_eq (pfn (q23 z) hr (pa2 (pr 1) q14)) q14 (q19 _)) (q117 (q409 q514 (pfn (q161 z) hr (pa1 (pr 6))) q65 (q19 _)))))
 (q16 (pst 12 sc.nd (pfn (q161 z) hr (pa1 (pr 6)))))
 q22))
 (q16 (q129 (pe_bm YD YH YI q59 (pr 10) (pa1 (pfn (q275 z) hr (q10 (pr 1) (q10 (pix q308 (pr 2) q14) (pa4 (pix q308 (pr 2) q14) (pr 5) (pr 12) (pix mx_list (q38 (pa4 q14 q14 q14 (pln z.len_ (pa1 (pr 5))))) (pfn (q23 z) hr (pa2 (pr 1) q14))))))))))))))
 (q11 (q62 PassesOwn.never rfl (q31 (pr 10)) (pgn 13 sc.nd)
 (q11 (pst 14 sc.nd (q102 (q622 rfl hr.units) () z.dict_ bt_dict (pa1 (q133 (cl:=[]) (cn:=[]) (N:=[]) (fr:=[]) (sc0:=q17 s_law) rfl (q31 (pfn (q271 z) hr (pa1 (pr 13)))) (λC s₂ H₂ fp=>(q30 (pa2 (pr 0) pe_bl))) (by ac_rfl) trivial rfl rfl rfl cok rfl))))
 (q16 (ps_if (PW.pt (q148 (q99 (pfn (q94 z) hr (pa4 (pr 2) (pr 3) (pr 13) (pr 6)))) (q117 (q409 om_gt (pln z.len_ (pa1 (q51 (cl:=[("_law_theirs", s.heap.objs.size+1+0)]) (cn:=["_law_theirs"]) (N:=["_law_theirs"]) (fr:=[14]) (sc0:=q17 s_law) rfl (q31 (pr 8)) (λC s₂ H₂ fp=>(pr 0)) (λC s₂ H₂ fp=>(q409 (q707 hr.units) (pr 0) (pr 1) rfl)) (by ac_rfl) ⟨by ac_rfl,trivial⟩ rfl rfl rfl cok rfl))) q14 (q19 _)))))
 (q16 (q20 pe_bl))
 q22))))
 (q11 (q62 PassesOwn.never rfl (q31 (pfn (q366 z) hr (pa4 (pr 1) (pr 2) (pr 5) (pr 6)))) (pgn 15 sc.nd)
 (q16 (q62 PassesOwn.never rfl (q31 (q130 q296 (pr 10) q188 (q189 q14))) (pgn 13 sc.nd)
 (q16 (ps_if (q99 (pfn (q94 z) hr (pa4 (pr 2) (pr 3) (pr 13) (pr 15))))
 (q16 (q20 pe_bl))
 q22)))))
 (q16 (q20 pe_bl))))))))))))))),?_⟩
 refine⟨szb rfl,λpen hpen=>?_⟩
 have s0:=q15 hpen (.lst [.ref a,.int 0,.int 0])
 have P0:Pen K (upd H pen (.lst [.ref a,.int 0,.int 0])) pen 0:=⟨a,ns,0,0,q12,(Only.no hO hS).same s0,h63,∅,∅,∅⟩
 have T0:=(Tbs.first hT).same s0
 generalize upd H pen (.lst [.ref a,.int 0,.int 0])=H0 at *
 obtain⟨x0,hx0⟩:=P0.at
 refine⟨pen,_,rfl,P0,{},λb low L H1 k1 P1 hb l0 l1 hL=>?_⟩
 have T1:=T0.pen k1 hx0
 obtain⟨x1,hx1⟩:=P1.at
 refine⟨pen,b,_,12,low,L,rfl,P1,{},hb,hL,∅,∅,λp ga th xs zs gs us H2 k2 P2 hp hga hga0 hgt hgd hgl hth hth0 htr hpm hso hul=>?_⟩
 have T2:=T1.pen k2 hx1
 exists p,_,rfl,SqT.of hp,rfl,_,_,rfl,_,_,rfl,rfl
 have hb2:=k2 _ _ (P1.ne hb) hb
 have hgap:ga≠pen:=P1.fresh hga0
 obtain⟨hwp,hww⟩:=q743 hgd hpm
 have hsrt:=lex_le hso
 have hzl:zs.length=us.length:=Paired.length htr
 have hfew:(Wh gs).length<=900:=by rw[<- hwp.length_eq,ZN,ZN];lia
 refine⟨th,rfl,⟨_,SqL.of hth⟩,λwl hwl=>?_⟩
 refine q64 (xs:=zs) (sz {}) (λj ys H3=>H3=upd H2 wl (.lst ys)/\ys=((us.take j).map (·.1)).map V.int/\ys.length=j) ⟨rfl,by simp,rfl⟩ (λj ys H3 ⟨e,_⟩=>by rw[e];exact SqL.of (q15 hwl _ _ _ hth)) (λj ys H3 ⟨e1,_,e3⟩=>⟨by rw[e1];exact q12,e3⟩) ?_ ?_
 ·rintro j z ys H3 hz ⟨rfl,e2,e3⟩
  have hj:j<us.length:=by rw[<- hzl];exact(eA hz).1
  have gu:us[j]? = some us[j]:=ZR hj
  obtain⟨u',gu',ta,rfl,hta⟩:=q109 htr hz
  rw[gu]at gu'
  cases gu'
  refine⟨_,_,(q15 hwl _).seqT hta,rfl,q12,by rw[q85],?_,by rw[ZU,e3];rfl⟩
  rw[WW,gu,WS,WS,<- e2]
  rfl
 rintro ys H3 ⟨rfl,e2,e3⟩
 rw[hzl,YF]at e2
 subst e2
 have s3:=q15 hwl (.lst ((us.map (·.1)).map V.int))
 have hwl3:=@q12 H2 wl (.lst ((us.map (·.1)).map V.int))
 have hwlp:wl≠pen:=P2.fresh hwl
 generalize upd H2 wl (.lst ((us.map (·.1)).map V.int))=H3 at *
 have hwsl:(us.map (·.1)).length<=500:=by rw[ZN];exact hul
 generalize us.map (·.1)=ws at *
 have P3:=P2.same s3
 have g3:Gth K H3 b ga xs low L gs:=⟨s3 _ _ hb2,hL,s3 _ _ hga,hgt.same s3,hgd,{},hfew,T2.same s3⟩
 obtain⟨x3,hx3⟩:=P3.at
 refine⟨pen,b,wl,_,low,L,ws,rfl,P3,{},g3.b,hL,hwl3,hwlp,hwsl,λaa qs ms H4 k4 P4 hA his hmm hms=>?_⟩
 have g4:=g3.pen k4 hx3 hgap
 have hwl4:=k4 _ _ hwlp hwl3
 have hok:=Qs.is_ok hms hmm hsrt his
 have htol:=Qs.is_tol hms hmm hsrt (W_in hgd) hwp his
 have hyes:=told_yes hww hwp hL hfew hmm hms hok
 have hlv:=told_lv hww hwp hL hfew hmm hms hok
 have hdp:dpP (qs.pap low L (Wh gs))<=40:=ZQ (q736 L low (Wh gs)) hL
 have hkd:q35 L (Wh gs) (qs.pap low L (Wh gs)):=q291 L low (Wh gs)
 obtain⟨tv,hAt,hAv⟩:=id hA
 refine⟨b,ga,aa,xs,low,qs.nm,L,gs,qs.wd,tv,_,rfl,hAt,g4,htol,λH5 v k5 tb5 hp5=>?_⟩
 replace hp5:PpAt H5 v (qs.pap low L (Wh gs)):=hp5
 have g5:=g4.kp k5 tb5
 have hA5:=hA.kp k5
 have hwl5:=k5.l hwl4
 have P5:=P4.kp k5
 refine⟨40,∅,v,_,rfl,hp5,hdp,hlv,λD zw H6 s6 hD0 hD hzw=>?_⟩
 have g6:=g5.kp (.of s6) (g5.tb.same s6)
 have hA6:=hA5.same s6
 have hwl6:=s6 _ _ hwl5
 have P6:=P5.same s6
 have hp6:=hp5.same s6
 have hDp:D≠pen:=P5.fresh hD0
 have hwl0:(Wh gs).length=ws.length:=by rw[<- hwp.length_eq,ZN]
 have hpe:qs.pap low L (offs low ws)=qs.pap low L (Wh gs):=by unfold Qs.pap;rw[q432 hwp,hwp.length_eq]
 have hp2:=p2pos L
 have hq2:=p2le hL
 exists _,_,SqT.of g6.b,rfl,_,_,SqT.of g6.b,rfl,aa,[pen],qs,rfl,hA6
 have hrm:=rm_le (low:=low) qs.gv hL hwsl
 have hr0:=q508 low L ws qs.gv
 refine⟨L,hL,pen,wl,2000,low,0,ws,qs.gv,rfl,P6.le {},{},hwl6,hwlp,{},hww,Qs.gv_or qs,Int.le_refl _,λvf pf H7 k7 P7 hpf hdf hlf hff=>?_⟩
 obtain⟨x6,hx6⟩:=P6.at
 have g7:=g6.pen k7 hx6 hgap
 have hA7:=hA6.pen k7 hx6 (by simp)
 have hp7:=hp6.tk (.keep k7 hx6)
 have hfy:=fine_yes hww hdf hmm hms hok hff
 have hdfW:=q78 hwp hdf
 refine⟨b,ga,aa,[pen],xs,low,L,gs,qs,v,_,rfl,hA7,g7,hp7,hkd,hlv,λH8 s8=>?_⟩
 rw[hyes]
 refine⟨_,rfl,iteF ?_⟩
 refine⟨b,ga,aa,[pen],xs,low,L,gs,qs,vf,pf,rfl,hA7.same s8,g7.kp (.of s8) (g7.tb.same s8),hpf.same s8,hdfW,{},λH9 s9=>?_⟩
 rw[hwl0,hfy]
 refine⟨_,rfl,iteF ?_⟩
 have s79:=s8.trans s9
 refine⟨szb rfl,λS hS0=>?_⟩
 have sS:=q15 hS0 (.lst [vf,v])
 have s7S:=s79.trans sS
 have hne:∀{c:Addr}{o:HO},H9 c=some o->c≠S:=λe z=>by rw[z,hS0]at e;cases e
 have hD9:=s79 _ _ (k7 _ _ hDp hD)
 have L0:Lw4 K pen b ga wl aa D S low L xs gs ws qs zw (waysP (qs.pap low L (Wh gs))) 50000 [(vf,pf),(v,qs.pap low L (Wh gs))] (upd H9 S (.lst [vf,v])):=by
  refine⟨(P7.same s7S).le {},g7.kp (.of s7S) (g7.tb.same s7S),((hA7.same s79).add hS0).same sS,s7S _ _ (k7 _ _ hwlp hwl6),s7S _ _ (k7 _ _ hDp hD),L2.Paired.mapP hzw λ_ _ z=>(z.kp k7 hx6).same s7S,q12,λx hx=>?_,hgap,hwlp,hDp,(P7.same s79).fresh hS0,hne (g7.kp (.of s79) (g7.tb.same s79)).g,hne (s79 _ _ (k7 _ _ hwlp hwl6)),hne hD9⟩
  rcases eB hx with e | hx
  ·rw[e];exact⟨hpf.same s7S,hdfW,by show pf.leaves<=_;lia⟩
  ·rw[eD hx];exact⟨hp7.same s7S,hkd,hlv⟩
 generalize upd H9 S (.lst [vf,v])=G0 at *
 refine⟨3,rfl,∅,∅,q101 (n:=3) (λi σ G=>∃(v11 v12:Option V) (fs:List (V×Pp)),σ=[some (V.ref a),some (.ref pen),some (.ref b),some (.ref ga),some (.ref th),some (.ref wl),some (.ref aa),some v,some (.ref D),some vf,some (.ref S),v11,v12,none,none,none]/\fs.length=2+i/\Lw4 K pen b ga wl aa D S low L xs gs ws qs zw (waysP (qs.pap low L (Wh gs))) (50000+50000*i) fs G) ⟨_,_,[(vf,pf),(v,qs.pap low L (Wh gs))],rfl,rfl,L0.le {}⟩ ?_ ?_⟩
 ·rintro i σ G hi ⟨v11,v12,fs,rfl,hfl,hG⟩
  exists _,_,SqT.of hG.g.b,rfl,_,_,SqT.of hG.g.b,rfl,_,_,rfl,rfl,⟨(W54 hL),(W87 hL),∅⟩
  dsimp only
  rw[q303]
  refine⟨pen,_,_,rfl,hG.p,{},{},(W72 hp2 hq2),λg1 G1 kk1 PP1 _ _=>?_⟩
  have hG1:=hG.pn kk1 PP1
  exists λσ G2=>∃ gi:Int,σ=[some (V.ref a),some (.ref pen),some (.ref b),some (.ref ga),some (.ref th),some (.ref wl),some (.ref aa),some v,some (.ref D),some vf,some (.ref S),some (.int (0+(i:Int))),some (.int gi),none,none,none]/\Lw4 K pen b ga wl aa D S low L xs gs ws qs zw (waysP (qs.pap low L (Wh gs))) (50000+50000*i+2) fs G2,?_
  ·refine⟨pen,2,_,rfl,hG1.p,{},∅,∅,λv4 G3 kk3 PP3 _ _=>⟨rfl,ite2 (λ_=>?_) (λ_=>?_)⟩⟩
   ·have hG3:=hG1.pn kk3 PP3
    refine⟨aa,[S,pen],qs,rfl,hG3.a,rfl,ite2 (λc=>?_) (λc=>?_)⟩
    ·exists aa,[S,pen],qs,rfl,hG3.a
     rcases Qs.gv_or qs with e | ⟨g,e⟩
     ·rw[e]at c
      exact absurd c ∅
     ·exact⟨g,by rw[e];rfl,hG3.le {}⟩
    ·exact⟨_,rfl,hG3.le {}⟩
   ·exact⟨_,rfl,(hG1.pn kk3 PP3).le {}⟩
  ·rintro σ G2 ⟨gi,rfl,hG2⟩
   refine⟨.inl ⟨rfl,_,SqL.of hG2.s⟩,_,_,SqT.of hG2.g.b,rfl,_,_,SqT.of hG2.g.b,rfl,wl,_,rfl,.inl (SqL.of hG2.w),szb rfl,λl hl=>?_⟩
   have hml:(ws.map V.int).length=ws.length:=ZN _
   rw[hml]
   have sl:=q15 hl (.lst [V.int 0,.int 1,.int 2,.int (ws.length:Int)])
   have el:=@q12 G2 l (.lst [V.int 0,.int 1,.int 2,.int (ws.length:Int)])
   have hlp:l≠pen:=hG2.p.fresh hl
   have hG3:=hG2.same sl
   generalize upd G2 l (.lst [V.int 0,.int 1,.int 2,.int (ws.length:Int)])=G3 at *
   refine⟨pen,4,_,rfl,hG3.p,{},∅,∅,λc G4 kk4 PP4 c0 c1=>?_⟩
   have hG4:=hG3.pn kk4 PP4
   obtain⟨bar,hb0,hat⟩:=at4 ws.length c0 c1
   have hrm2:=rm_le (low:=low) (.int gi) hL hwsl
   have hr2:=q508 low L ws (.int gi)
   refine⟨_,_,SqL.of (kk4 _ _ hlp el),hat,L,hL,pen,wl,_,low,bar,ws,.int gi,rfl,hG4.p,{},hG4.w,hwlp,{},hww,.inr ⟨gi,rfl⟩,hb0,λu pu G5 kk5 PP5 hpu hdu hlu _=>?_⟩
   have hG5:=hG4.pn kk5 PP5
   exists S,_,_,rfl,rfl,hG5.s,by rw[ZN,hfl];exact WB (show 2+i<5 by lia) ∅
   exact⟨_,_,fs++[(u,pu)],rfl,by rw[ZU,hfl];rfl,(hG5.app hpu (q78 hwp hdu) {}).le {}⟩
 ·rintro σ G ⟨v11,v12,fs,rfl,hfl,hG⟩
  refine⟨S,rfl,⟨_,SqL.of hG.s⟩,q112 (K:=K) (a:=S) (xs:=fs.map (·.1)) (λj σ G1=>∃ v13 v14:Option V,σ=[some (V.ref a),some (.ref pen),some (.ref b),some (.ref ga),some (.ref th),some (.ref wl),some (.ref aa),some v,some (.ref D),some vf,some (.ref S),v11,v12,v13,v14,none]/\Same G G1) ⟨_,_,rfl,Same.refl _⟩ (λj σ G1 _ ⟨_,_,_,k⟩=>SqL.of (k _ _ hG.s)) ?_ ?_⟩
  ·rintro j y σ G1 hj ⟨v13,v14,rfl,sG1⟩
   obtain⟨⟨_,py⟩,hx,rfl⟩:∃ x:V×Pp,x∈fs/\y=x.1:=by
    rw[WM]at hj
    obtain⟨x,h1,h2⟩:=Option.map_eq_some_iff.mp hj
    exact⟨x,WQ h1,h2.symm⟩
   have hG1:=hG.same sG1
   obtain⟨hpy,hdy,hly⟩:=hG1.f _ hx
   refine⟨40,∅,y,py,rfl,hpy,ZQ (q434 hdy) hL,hly,λE zs' G2 s2 hE0 hE hzs'=>?_⟩
   have hzl':=Paired.length hzs'
   have hwl':=q142 py
   have hly':py.leaves<=90000:=hly
   refine⟨E,rfl,⟨_,SqL.of hE⟩,λDc hDc=>?_⟩
   refine q64 (K:=K) (xs:=zs') (szB {}) (λj out G3=>G3 Dc=some (.lst out)/\Same G2 G3/\out.length=j/\Paired (PTr G3) out ((waysP py).take j)) ⟨q12,q15 hDc _,rfl,.nil⟩ (λj out G3 ⟨_,s,_⟩=>SqL.of (s _ _ hE)) (λj out G3 ⟨a1,_,a3,_⟩=>⟨a1,a3⟩) ?_ ?_
   ·rintro j' z' out G3 hj' ⟨a1,sG3,a3,a4⟩
    obtain⟨wy,gwy,wa,rfl,hwa⟩:=q109 hzs' hj'
    refine⟨szb rfl,λtp htp=>?_⟩
    have s4:=q15 htp (.tup [V.ref wa,.bl true])
    have e4:=@q12 G3 tp (.tup [V.ref wa,.bl true])
    have a1':=s4 _ _ a1
    have a4':Paired (PTr (upd G3 tp (.tup [V.ref wa,.bl true]))) out _:=L2.Paired.mapP a4 λ_ _ z=>pTr_same s4 z
    generalize upd G3 tp (.tup [V.ref wa,.bl true])=G4 at *
    exists a1',q12,Same.own (sG3.trans s4) hDc,by rw[ZU,a3];rfl
    rw[WW,gwy]
    exact q61 (L2.Paired.mapP a4' λ_ _ z=>q749 a1' z) (.cons (q749 a1' ⟨tp,wa,rfl,e4,(sG3.trans s4) _ _ hwa⟩) .nil)
   rintro out G3 ⟨a1,sG3,a3,a4⟩
   rw[hzl',YF]at a4
   refine⟨Dc,_,waysP py,rfl,a1,a4,λd hd=>?_⟩
   have sd:=q15 hd (.dT (dTr (waysP py)))
   have ed:=@q12 G3 d (.dT (dTr (waysP py)))
   generalize upd G3 d (.dT (dTr (waysP py)))=G4 at *
   have s14:=s2.trans (sG3.trans sd)
   have hG4:=hG1.same s14
   refine⟨b,ga,aa,[S,pen],xs,low,L,gs,qs,y,py,rfl,hG4.a,hG4.g,(hG4.f _ hx).1,hdy,hly,λG5 s5=>⟨_,rfl,ite2 (λc=>?_) (λ_=>?_)⟩⟩
   ·have hG5:=hG4.same s5
    have hin:=ways_in hww (q78 hwp.symm hdy) hok (by rw[<- hwl0];exact c)
    refine⟨D,rfl,⟨_,SqL.of hG5.d⟩,λD6 hD6=>?_⟩
    have hzwl:=Paired.length hzw
    have hwlP:=q142 (qs.pap low L (Wh gs))
    refine q302 (p:=λ_=>false) (g:=id) (SqL.of hG5.d) hD6 (szB {}) (λx hx G6 Q6 s6 q6=>?_) (λx _ z=>absurd z ∅) ?_
    ·obtain⟨jx,hjx⟩:=getElem?_of_mem hx
     obtain⟨wy,gwy,wa,rfl,hwa⟩:=q109 hG5.z hjx
     exists d,wa,_,wy,rfl,rfl,s6 _ _ (s5 _ _ ed),s6 _ _ hwa
     rw[dTr_is,ZA (hin wy (by rw[hpe];exact WQ gwy))]
     exact q6
    ·have s6:=q15 hD6 (.lst ((zw.filter λ_=>false).map id))
     exists D6,_,rfl,.inl (SqL.of q12)
     rw[show((zw.filter λ_=>false).map (id:V->V)).length=0 by simp]
     exact⟨_,_,rfl,(sG1.trans s14).trans (s5.trans s6)⟩
   ·exact iteF ⟨_,_,rfl,(sG1.trans s14).trans s5⟩
  ·rintro σ G1 ⟨v13,v14,rfl,sG1⟩
   have hG1:=hG.same sG1
   refine⟨pen,b,wl,aa,_,low,L,ws,qs,rfl,hG1.p,{},hG1.g.b,hL,hG1.w,hwlp,hwsl,hG1.a.less,λpart ps e=>?_,λO zo G2 kO PO hO hOp hzo hall=>?_⟩
   ·rw[e]at his
    obtain⟨_,_,rfl⟩:=his
    have h3:ms.length<=ws.length:=nd_len (List.Pairwise.imp (λh=>Int.ne_of_lt h) hms) λx hx=>(hmm x).mp hx
    refine ZQ (YC _ _) ?_
    rw[show(withM ws ms).length=ms.length from ZN _]
    lia
   have hG2:=hG1.pn kO PO
   refine⟨O,rfl,⟨_,SqL.of hO⟩,q112 (K:=K) (a:=O) (xs:=zo) (λj σ G3=>∃ v13 v15:Option V,σ=[some (V.ref a),some (.ref pen),some (.ref b),some (.ref ga),some (.ref th),some (.ref wl),some (.ref aa),some v,some (.ref D),some vf,some (.ref S),v11,v12,v13,v14,v15]/\Same G2 G3) ⟨_,_,rfl,Same.refl _⟩ (λj σ G3 _ ⟨_,_,_,k⟩=>SqL.of (k _ _ hO)) ?_ ?_⟩
   ·rintro j y σ G3 hj ⟨v13',v15,rfl,sG3⟩
    obtain⟨ca,cq,rfl,hcA,hsib,hne'⟩:=hall y (WQ hj)
    have hG3:=hG2.same sG3
    refine⟨_,rfl,S,_,rfl,SqL.of hG3.s,λp3 hp3=>?_⟩
    have s3':=q15 hp3 (.lst (cutV (fs.map (·.1)) none (some 3)))
    have e3':upd G3 p3 (.lst (cutV (fs.map (·.1)) none (some 3))) p3=some (.lst (cutV (fs.map (·.1)) none (some 3))):=q12
    have hcut:∀ z∈cutV (fs.map (·.1)) none (some 3),z∈fs.map (·.1):=λz hz=>by
     unfold cutV at hz
     exact mem_of_mem_drop (mem_of_mem_take hz)
    generalize upd G3 p3 (.lst (cutV (fs.map (·.1)) none (some 3)))=G4 at *
    generalize cutV (fs.map (·.1)) none (some 3)=cu at *
    have hG4:=hG3.same s3'
    refine⟨p3,rfl,⟨_,SqL.of e3'⟩,q112 (K:=K) (a:=p3) (xs:=cu) (λi σ G5=>∃ v13:Option V,σ=[some (V.ref a),some (.ref pen),some (.ref b),some (.ref ga),some (.ref th),some (.ref wl),some (.ref aa),some v,some (.ref D),some vf,some (.ref S),v11,v12,v13,v14,some (.ref ca)]/\Same G4 G5) ⟨_,rfl,Same.refl _⟩ (λi σ G5 _ ⟨_,_,k⟩=>SqL.of (k _ _ e3')) ?_ ?_⟩
    ·rintro i y5 σ G5 hi5 ⟨v13'',rfl,s5⟩
     obtain⟨⟨_,p5⟩,hx5,rfl⟩:∃ x:V×Pp,x∈fs/\y5=x.1:=by
      obtain⟨x,h1,h2⟩:=eE (hcut _ (WQ hi5))
      exact⟨x,h1,h2.symm⟩
     have hG5:=hG4.same s5
     obtain⟨hpy,hdy,hly⟩:=hG5.f _ hx5
     refine⟨b,ga,ca,[pen],xs,low,L,gs,cq,y5,p5,rfl,((hcA.same sG3).same s3').same s5,hG5.g,hpy,hdy,hly,λG6 s6=>?_⟩
     rw[hwl0,wrong_no hww (q78 hwp.symm hdy) hmm hms hsrt his hsib hne']
     exact⟨_,rfl,iteF ⟨_,rfl,s5.trans s6⟩⟩
    ·rintro σ G5 ⟨v13'',rfl,s5⟩
     exact⟨_,_,rfl,(sG3.trans s3').trans s5⟩
   ·rintro σ G3 ⟨v13',v15,rfl,sG3⟩
    exact q _
end My
open PySem PySem.W PyProof.Rows
def L2.mt6{p:List Value->Prop}(h:∀ a b c d e f,p [a,b,c,d,e,f]):∀ us,us.length=6->p us:=L2.mt0 λa=>L2.mt5 (h a)
set_option maxRecDepth 100000 in
set_option maxHeartbeats 0 in
theorem PySem.Challenge.cw_manyleast_k40_whole_told_papers_lie_with_holds : PySem.Challenge.rw_manyleast_k40_whole_told_papers_lie_with.Holds := by
 refine MyQ.hd ?_
 k_fill
 refine L2.walkT (k:=My.k_law) (l:=PySem.Challenge.rw_manyleast_k40_whole_told_papers_lie_with) [(268,264),(261,257),(254,250),(247,243),(240,236)] ⟨rfl,∅,∅⟩ rfl rfl (λw h Y=>PySem.W.km_in_of Y) (λw h Y=>PySem.W.km_tabs_of Y) ?F
 case F=>
  intro w mg fa h KX G hmg
  exists List.forall_mem_cons.mpr ⟨⟨by kernel_rfl,by kernel_rfl⟩,List.forall_mem_cons.mpr ⟨⟨by kernel_rfl,by kernel_rfl⟩,List.forall_mem_cons.mpr ⟨⟨by kernel_rfl,by kernel_rfl⟩,List.forall_mem_cons.mpr ⟨⟨by kernel_rfl,by kernel_rfl⟩,List.forall_mem_cons.mpr ⟨⟨by kernel_rfl,by kernel_rfl⟩,λ_ h=>nomatch h⟩⟩⟩⟩⟩
  have d_law:L2.Def (L2.KOf KX) mg "law" My.s_law ["_law_script"]:=by
   dsimp only [L2.KOf]
   refine' L2.q756 KX G ?a ?l ?c ?k ?b
   (case a=>k_is);(case l=>k_is);(case c=>k_is);(case k=>k_is)
   (case b=>exact λ_ _ _ _ _ _ us hl=>match us,hl with | [_],_=>rfl)
  have z:∀ base:Heap,L2.BMain mg base->My.Bz (L2.KOf KX) mg base:=by
   dsimp only [L2.KOf]
   intro base bm
   refine' ⟨YA KX G ?z0,YA KX G ?z1,YA KX G ?z2,YA KX G ?z3,YA KX G ?z4,YA KX G ?z5,YA KX G ?z6,YA KX G ?z7,YA KX G ?z8,YA KX G ?z9,YA KX G ?z10,YA KX G ?z11,YA KX G ?z12,YA KX G ?z13,L2.q756 KX G ?a0 ?l0 ?c0 ?k0 (λ_ _ _ _ _ _=>L2.mt1 λ_=>rfl),L2.q756 KX G ?a1 ?l1 ?c1 ?k1 (λ_ _ _ _ _ _=>L2.mt1 λ_=>rfl),L2.q756 KX G ?a2 ?l2 ?c2 ?k2 (λ_ _ _ _ _ _=>L2.mt1 λ_=>rfl),L2.q756 KX G ?a3 ?l3 ?c3 ?k3 (λ_ _ _ _ _ _=>L2.mt2 λ_ _=>rfl),L2.q756 KX G ?a4 ?l4 ?c4 ?k4 (λ_ _ _ _ _ _=>L2.mt2 λ_ _=>rfl),L2.q756 KX G ?a5 ?l5 ?c5 ?k5 (λ_ _ _ _ _ _=>L2.mt2 λ_ _=>rfl),L2.q756 KX G ?a6 ?l6 ?c6 ?k6 (λ_ _ _ _ _ _=>L2.mt3 λ_ _ _=>rfl),L2.q756 KX G ?a7 ?l7 ?c7 ?k7 (λ_ _ _ _ _ _=>L2.mt3 λ_ _ _=>rfl),L2.q756 KX G ?a8 ?l8 ?c8 ?k8 (λ_ _ _ _ _ _=>L2.mt2 λ_ _=>rfl),L2.q756 KX G ?a9 ?l9 ?c9 ?k9 (λ_ _ _ _ _ _=>L2.mt2 λ_ _=>rfl),L2.q756 KX G ?a10 ?l10 ?c10 ?k10 (λ_ _ _ _ _ _=>L2.mt1 λ_=>rfl),L2.q756 KX G ?a11 ?l11 ?c11 ?k11 (λ_ _ _ _ _ _=>L2.mt1 λ_=>rfl),L2.q756 KX G ?a12 ?l12 ?c12 ?k12 (λ_ _ _ _ _ _=>L2.mt1 λ_=>rfl),L2.q756 KX G ?a13 ?l13 ?c13 ?k13 (λ_ _ _ _ _ _=>L2.mt2 λ_ _=>rfl),L2.q756 KX G ?a14 ?l14 ?c14 ?k14 (λ_ _ _ _ _ _=>L2.mt2 λ_ _=>rfl),L2.q756 KX G ?a15 ?l15 ?c15 ?k15 (λ_ _ _ _ _ _=>L2.mt3 λ_ _ _=>rfl),L2.q756 KX G ?a16 ?l16 ?c16 ?k16 (λ_ _ _ _ _ _=>L2.mt3 λ_ _ _=>rfl),L2.q756 KX G ?a17 ?l17 ?c17 ?k17 (λ_ _ _ _ _ _=>L2.mt3 λ_ _ _=>rfl),L2.q756 KX G ?a18 ?l18 ?c18 ?k18 (λ_ _ _ _ _ _=>L2.mt3 λ_ _ _=>rfl),L2.q756 KX G ?a19 ?l19 ?c19 ?k19 (λ_ _ _ _ _ _=>L2.mt2 λ_ _=>rfl),L2.q756 KX G ?a20 ?l20 ?c20 ?k20 (λ_ _ _ _ _ _=>L2.mt3 λ_ _ _=>rfl),L2.q756 KX G ?a21 ?l21 ?c21 ?k21 (λ_ _ _ _ _ _=>L2.mt2 λ_ _=>rfl),L2.q756 KX G ?a22 ?l22 ?c22 ?k22 (λ_ _ _ _ _ _=>L2.mt2 λ_ _=>rfl),L2.q756 KX G ?a23 ?l23 ?c23 ?k23 (λ_ _ _ _ _ _=>L2.mt5 λ_ _ _ _ _=>rfl),L2.q756 KX G ?a24 ?l24 ?c24 ?k24 (λ_ _ _ _ _ _=>L2.mt3 λ_ _ _=>rfl),L2.q756 KX G ?a25 ?l25 ?c25 ?k25 (λ_ _ _ _ _ _=>L2.mt3 λ_ _ _=>rfl),L2.q755 KX G ?a26 ?l26 ?c26 ?k26 ?h26 (λ_ _ _ _ _ _=>L2.mt3 λ_ _ _=>rfl),L2.q755 KX G ?a27 ?l27 ?c27 ?k27 ?h27 (λ_ _ _ _ _ _=>L2.mt3 λ_ _ _=>rfl),L2.q755 KX G ?a28 ?l28 ?c28 ?k28 ?h28 (λ_ _ _ _ _ _=>L2.mt2 λ_ _=>rfl),L2.q755 KX G ?a29 ?l29 ?c29 ?k29 ?h29 (λ_ _ _ _ _ _=>L2.mt3 λ_ _ _=>rfl),L2.q755 KX G ?a30 ?l30 ?c30 ?k30 ?h30 (λ_ _ _ _ _ _=>L2.mt3 λ_ _ _=>rfl),L2.q756 KX G ?a31 ?l31 ?c31 ?k31 (λ_ _ _ _ _ _=>L2.mt3 λ_ _ _=>rfl),L2.q756 KX G ?a32 ?l32 ?c32 ?k32 (λ_ _ _ _ _ _=>L2.mt4 λ_ _ _ _=>rfl),L2.q756 KX G ?a33 ?l33 ?c33 ?k33 (λ_ _ _ _ _ _=>L2.mt3 λ_ _ _=>rfl),L2.q756 KX G ?a34 ?l34 ?c34 ?k34 (λ_ _ _ _ _ _=>L2.mt3 λ_ _ _=>rfl),L2.q756 KX G ?a35 ?l35 ?c35 ?k35 (λ_ _ _ _ _ _=>L2.mt1 λ_=>rfl),L2.q756 KX G ?a36 ?l36 ?c36 ?k36 (λ_ _ _ _ _ _=>L2.mt1 λ_=>rfl),L2.q756 KX G ?a37 ?l37 ?c37 ?k37 (λ_ _ _ _ _ _=>L2.mt2 λ_ _=>rfl),L2.q756 KX G ?a38 ?l38 ?c38 ?k38 (λ_ _ _ _ _ _=>L2.mt3 λ_ _ _=>rfl),L2.q756 KX G ?a39 ?l39 ?c39 ?k39 (λ_ _ _ _ _ _=>L2.mt2 λ_ _=>rfl),L2.q756 KX G ?a40 ?l40 ?c40 ?k40 (λ_ _ _ _ _ _=>L2.mt5 λ_ _ _ _ _=>rfl),L2.q756 KX G ?a41 ?l41 ?c41 ?k41 (λ_ _ _ _ _ _=>L2.mt5 λ_ _ _ _ _=>rfl),L2.q756 KX G ?a42 ?l42 ?c42 ?k42 (λ_ _ _ _ _ _=>L2.mt5 λ_ _ _ _ _=>rfl),L2.q756 KX G ?a43 ?l43 ?c43 ?k43 (λ_ _ _ _ _ _=>L2.mt5 λ_ _ _ _ _=>rfl),L2.q756 KX G ?a44 ?l44 ?c44 ?k44 (λ_ _ _ _ _ _=>L2.mt5 λ_ _ _ _ _=>rfl),L2.q756 KX G ?a45 ?l45 ?c45 ?k45 (λ_ _ _ _ _ _=>L2.mt2 λ_ _=>rfl),L2.q756 KX G ?a46 ?l46 ?c46 ?k46 (λ_ _ _ _ _ _=>L2.mt2 λ_ _=>rfl),L2.q756 KX G ?a47 ?l47 ?c47 ?k47 (λ_ _ _ _ _ _=>L2.mt1 λ_=>rfl),L2.q756 KX G ?a48 ?l48 ?c48 ?k48 (λ_ _ _ _ _ _=>L2.mt3 λ_ _ _=>rfl),L2.q756 KX G ?a49 ?l49 ?c49 ?k49 (λ_ _ _ _ _ _=>L2.mt3 λ_ _ _=>rfl),L2.q756 KX G ?a50 ?l50 ?c50 ?k50 (λ_ _ _ _ _ _=>L2.mt3 λ_ _ _=>rfl),L2.q756 KX G ?a51 ?l51 ?c51 ?k51 (λ_ _ _ _ _ _=>L2.mt6 λ_ _ _ _ _ _=>rfl),L2.q756 KX G ?a52 ?l52 ?c52 ?k52 (λ_ _ _ _ _ _=>L2.mt1 λ_=>rfl),L2.q756 KX G ?a53 ?l53 ?c53 ?k53 (λ_ _ _ _ _ _=>L2.mt1 λ_=>rfl),L2.q756 KX G ?a54 ?l54 ?c54 ?k54 (λ_ _ _ _ _ _=>L2.mt3 λ_ _ _=>rfl),L2.q756 KX G ?a55 ?l55 ?c55 ?k55 (λ_ _ _ _ _ _=>L2.mt4 λ_ _ _ _=>rfl),L2.q756 KX G ?a56 ?l56 ?c56 ?k56 (λ_ _ _ _ _ _=>L2.mt3 λ_ _ _=>rfl),L2.q756 KX G ?a57 ?l57 ?c57 ?k57 (λ_ _ _ _ _ _=>L2.mt4 λ_ _ _ _=>rfl),L2.q756 KX G ?a58 ?l58 ?c58 ?k58 (λ_ _ _ _ _ _=>L2.mt1 λ_=>rfl),bm⟩
   (case z0=>k_is)
   (case z1=>k_is)
   (case z2=>k_is)
   (case z3=>k_is)
   (case z4=>k_is)
   (case z5=>k_is)
   (case z6=>k_is)
   (case z7=>k_is)
   (case z8=>k_is)
   (case z9=>k_is)
   (case z10=>k_is)
   (case z11=>k_is)
   (case z12=>k_is)
   (case z13=>k_is)
   (case a0 | l0 | c0 | k0=>k_is)
   (case a1 | l1 | c1 | k1=>k_is)
   (case a2 | l2 | c2 | k2=>k_is)
   (case a3 | l3 | c3 | k3=>k_is)
   (case a4 | l4 | c4 | k4=>k_is)
   (case a5 | l5 | c5 | k5=>k_is)
   (case a6 | l6 | c6 | k6=>k_is)
   (case a7 | l7 | c7 | k7=>k_is)
   (case a8 | l8 | c8 | k8=>k_is)
   (case a9 | l9 | c9 | k9=>k_is)
   (case a10 | l10 | c10 | k10=>k_is)
   (case a11 | l11 | c11 | k11=>k_is)
   (case a12 | l12 | c12 | k12=>k_is)
   (case a13 | l13 | c13 | k13=>k_is)
   (case a14 | l14 | c14 | k14=>k_is)
   (case a15 | l15 | c15 | k15=>k_is)
   (case a16 | l16 | c16 | k16=>k_is)
   (case a17 | l17 | c17 | k17=>k_is)
   (case a18 | l18 | c18 | k18=>k_is)
   (case a19 | l19 | c19 | k19=>k_is)
   (case a20 | l20 | c20 | k20=>k_is)
   (case a21 | l21 | c21 | k21=>k_is)
   (case a22 | l22 | c22 | k22=>k_is)
   (case a23 | l23 | c23 | k23=>k_is)
   (case a24 | l24 | c24 | k24=>k_is)
   (case a25 | l25 | c25 | k25=>k_is)
   (case a26 | l26 | c26 | k26=>k_is)
   (case h26=>kernel_rfl)
   (case a27 | l27 | c27 | k27=>k_is)
   (case h27=>kernel_rfl)
   (case a28 | l28 | c28 | k28=>k_is)
   (case h28=>kernel_rfl)
   (case a29 | l29 | c29 | k29=>k_is)
   (case h29=>kernel_rfl)
   (case a30 | l30 | c30 | k30=>k_is)
   (case h30=>kernel_rfl)
   (case a31 | l31 | c31 | k31=>k_is)
   (case a32 | l32 | c32 | k32=>k_is)
   (case a33 | l33 | c33 | k33=>k_is)
   (case a34 | l34 | c34 | k34=>k_is)
   (case a35 | l35 | c35 | k35=>k_is)
   (case a36 | l36 | c36 | k36=>k_is)
   (case a37 | l37 | c37 | k37=>k_is)
   (case a38 | l38 | c38 | k38=>k_is)
   (case a39 | l39 | c39 | k39=>k_is)
   (case a40 | l40 | c40 | k40=>k_is)
   (case a41 | l41 | c41 | k41=>k_is)
   (case a42 | l42 | c42 | k42=>k_is)
   (case a43 | l43 | c43 | k43=>k_is)
   (case a44 | l44 | c44 | k44=>k_is)
   (case a45 | l45 | c45 | k45=>k_is)
   (case a46 | l46 | c46 | k46=>k_is)
   (case a47 | l47 | c47 | k47=>k_is)
   (case a48 | l48 | c48 | k48=>k_is)
   (case a49 | l49 | c49 | k49=>k_is)
   (case a50 | l50 | c50 | k50=>k_is)
   (case a51 | l51 | c51 | k51=>k_is)
   (case a52 | l52 | c52 | k52=>k_is)
   (case a53 | l53 | c53 | k53=>k_is)
   (case a54 | l54 | c54 | k54=>k_is)
   (case a55 | l55 | c55 | k55=>k_is)
   (case a56 | l56 | c56 | k56=>k_is)
   (case a57 | l57 | c57 | k57=>k_is)
   (case a58 | l58 | c58 | k58=>k_is)
  exact L2.law_mkT d_law (λbase f fd bm hf=>My.ok_law (base:=base) (z base bm) f fd hf) hmg
#print axioms PySem.Challenge.cw_manyleast_k40_whole_told_papers_lie_with_holds
