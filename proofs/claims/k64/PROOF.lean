import PyProof.Rows.All
import Wide.All
import OpenK.AllK
import Wide.FinOn
import Lean
import PyProof.EqAt
import PyProof.EqKinds
import PyProof.TupleCall
import KE.KTryMore
import KE.KRevSl
import KE.KSortTup
import KE.KItemsList
import KE.KSortKey
import PyProof.Rows.SetFrom
import KE.KLam
import PyProof.NeKinds
import PySem.Challenge.RW_manyleast_k64_whole_pieces_answer_as_the
set_option Elab.async false
set_option linter.all false
set_option maxRecDepth 100000
set_option maxHeartbeats 4000000
def fnt:false ≠ true:=Bool.noConfusion
def nf {p:Prop} (z:false=true):p:=absurd z fnt
def nr {α:Type} {a:α} {p:Prop} (z:¬ a=a):p:=absurd rfl z
def na {p q:Prop} [Decidable p] (h:p) (z:¬ decide p=true):q:=absurd (decide_eq_true h) z
def ny {p q:Prop} [Decidable p] (h:¬ p) (z:decide p=true):q:=absurd (of_decide_eq_true z) h
namespace PySem.W.Fast
def tw7674292497303504648:=Nat
def tw1600396345302884861:=Nat
def tw3318930204785009659:=Nat
def tw2175422074033584067:=Nat
def tw2354685463279907810:=Nat
def tw12845323923169418520:=Nat
def tw10264152414661895175:=Nat
def tw3011958838997162855:=Nat
def tw14368117474535046342:=Nat
def tw12596166987079524099:=Nat
def tw7704981422072863698:=Nat
def tw10674067043680467898:=Nat
def tw7838100544984639888:=Nat
def tw10928185103094478626:=Nat
def tw4841561948144831862:=Nat
def tw14252402509523110066:=Nat
def tw11381643979880962071:=Nat
def tw9921685727807755435:=Nat
def tw5190544784514004910:=Nat
def tw14277264028472327525:=Nat
def tw159289920359884642:=Nat
def tw14202530840768277934:=Nat
def tw17089686603996939070:=Nat
def tw7291853029264518361:=Nat
def tw5039868494357483390:=Nat
def tw7253826797589774341:=Nat
def tw12433517554221672914:=Nat
def tw9983086225577768694:=Nat
def tw5505084317474838028:=Nat
def tw910545026019457994:=Nat
def tw17228944672201460023:=Nat
def tw15594624424295923622:=Nat
def tw5468458459307871393:=Nat
def tw1777386019989471594:=Nat
def tw9416342967383407621:=Nat
def tw13135024844165081551:=Nat
def tw16051238747791021906:=Nat
def tw15611139203357756287:=Nat
def tw968435071728953553:=Nat
def tw10366555236597406866:=Nat
def tw17646501400497837024:=Nat
def tw7424575791281338296:=Nat
def tw15867290793973653153:=Nat
def tw17639626319198420003:=Nat
def tw10498113233240878775:=Nat
def tw14442223042088135046:=Nat
def tw506084722562613460:=Nat
def tw7177272980506268132:=Nat
def tw6236597913760386638:=Nat
def tw2205725972480034407:=Nat
def tw15881791569963224565:=Nat
def tw12434119785876565568:=Nat
def tw209642371284989679:=Nat
def tw6763809976899758113:=Nat
def tw18109425805076668427:=Nat
def tw7380429999671960748:=Nat
def tw6315762791205855314:=Nat
def tw1614709238326827297:=Nat
def tw6234561926702834750:=Nat
def tw5867000216294841507:=Nat
def tw16258720467840586289:=Nat
def tw2596521859697326508:=Nat
def tw16505413488842263530:=Nat
def tw14047800177945244427:=Nat
def tw9747054618995711974:=Nat
def tw2450977443962013231:=Nat
def tw11353218422293117351:=Nat
def tw15223281260093290593:=Nat
def tw13939773330377455102:=Nat
def tw12049851283146712894:=Nat
def tw11678864987126886492:=Nat
def tw17059314371650493446:=Nat
def tw11223099715779107903:=Nat
def tw13465981591990043105:=Nat
def tw10323370739272191379:=Nat
def tw82005722241962319:=Nat
def tw16673349864108250374:=Nat
def tw6868188204366076418:=Nat
def tw7128652625623124251:=Nat
def tw1700297796934975892:=Nat
def tw4660560187823731358:=Nat
def tw10808111340453683001:=Nat
def tw5862322206346474224:=Nat
def tw10388913030401298273:=Nat
def tw16022913297337016482:=Nat
def tw5720434049817069038:=Nat
def tw301006041343888519:=Nat
def tw907066436341549541:=Nat
def tw16365900404782665486:=Nat
def tw12763007645173374492:=Nat
def tw10227356312978387625:=Nat
def tw352399395496652838:=Nat
def tw7702323841530612758:=Nat
def tw14599282561262730818:=Nat
def tw2837303323077362757:=Nat
def tw13548661231697801652:=Nat
def tw9174920438979683178:=Nat
def tw8990302438939108447:=Nat
def tw16625391248734187838:=Nat
def tw1540536381027328519:=Nat
def tw7609725042078104943:=Nat
def tw9826760416998294385:=Nat
def tw15608268961489184015:=Nat
def tw16044531387507112602:=Nat
def tw14300603829703142177:=Nat
def tw17467034209300981503:=Nat
def tw13758753613599618272:=Nat
def tw14218047221777303228:=Nat
def tw5901072332566809543:=Nat
def tw12444951494669534325:=Nat
def tw12519438092222798882:=Nat
def tw4231021851328312660:=Nat
def tw17469137010576402495:=Nat
def tw12200791725232319682:=Nat
def tw13880838815026709575:=Nat
def tw3439565294848903228:=Nat
def tw1411659736387885424:=Nat
def tw1074976015671464928:=Nat
def tw3984046339844578591:=Nat
def tw1250413296360375949:=Nat
def tw12866980909932383786:=Nat
def tw11881327016776672749:=Nat
def tw16145912080854870213:=Nat
def tw2611979165867773506:=Nat
def tw15343367966234289610:=Nat
def tw16416620250725466010:=Nat
def tw6313624620280223950:=Nat
def tw4995266846689475898:=Nat
def tw8963895112646091591:=Nat
def tw10778668411813757015:=Nat
def tw5371592265134195514:=Nat
def tw13967932697832078207:=Nat
def tw16082103331657907264:=Nat
def tw3212421987359364732:=Nat
def tw9835778138184858799:=Nat
def tw17742567168078797843:=Nat
def tw4568213894205559244:=Nat
def tw652038853030509935:=Nat
def tw7702375251252654666:=Nat
def tw15422292940531736126:=Nat
def tw8892284414119267889:=Nat
def tw15641563723708387084:=Nat
def tw4217844877387783379:=Nat
def tw10698749417285407384:=Nat
def tw4624444373769603351:=Nat
def tw7906664609892364329:=Nat
def tw5329663305018748003:=Nat
def tw8388976849371627365:=Nat
def tw8468329586102179312:=Nat
def tw11245778613873665809:=Nat
def tw2116318280633981780:=Nat
def tw12112156511666972985:=Nat
def tw8170966065458385997:=Nat
def tw1331674321610722113:=Nat
def tw14532334090647904587:=Nat
def tw10135827340599014466:=Nat
def tw4117854834480361561:=Nat
def tw16489502665604376411:=Nat
def tw12456111746291119536:=Nat
def tw14561318994479137940:=Nat
def tw11062753942163722384:=Nat
def tw2715829415663797675:=Nat
def tw16533043869709436987:=Nat
def tw9942995334421685102:=Nat
def tw15908440706551688552:=Nat
def tw700817654876334075:=Nat
def tw2445216400498832926:=Nat
def tw17341527279929756081:=Nat
def tw18118621365326969405:=Nat
def tw17051895053255351612:=Nat
def tw15030774354621848764:=Nat
def tw17830816381149701929:=Nat
def tw17891129725459621234:=Nat
def tw5747435597695942061:=Nat
def tw11552851535942150449:=Nat
def tw5682659003468527610:=Nat
def tw16914247507796531513:=Nat
def tw17597551394670742026:=Nat
def tw5850709125125892891:=Nat
def tw6733893054821508623:=Nat
def tw13149318282770895899:=Nat
def tw14815621092457149213:=Nat
def tw14008926687988313493:=Nat
def tw8406167087015551452:=Nat
def tw13181623349232852244:=Nat
def tw1575110450732024092:=Nat
def tw7705844590803021129:=Nat
def tw16330521978762534902:=Nat
def tw12109578091334022303:=Nat
def tw6442598024378944114:=Nat
def tw8387977697896384227:=Nat
def tw5543881179064118069:=Nat
def tw204416394771109489:=Nat
def tw8795766956512786128:=Nat
def tw14826499366414050920:=Nat
def tw16023561596762684905:=Nat
def tw5886414156432050711:=Nat
def tw10776569594758732305:=Nat
def tw3313165750111610149:=Nat
def tw2659083171236825624:=Nat
def tw13479588002707102239:=Nat
def tw1187478091160774648:=Nat
def tw3251786441892902534:=Nat
def tw2478687752371587528:=Nat
def tw4344256219701867515:=Nat
def tw10048816432922542669:=Nat
def tw15337901735698961701:=Nat
def tw4413209752999012450:=Nat
def tw8037673160584739394:=Nat
def tw6590170009088736220:=Nat
def tw16039470834707422454:=Nat
def tw16270905453106340941:=Nat
def tw3372637119799379252:=Nat
def tw17543331788088331501:=Nat
def tw4066328193345442044:=Nat
def tw1136097862803032843:=Nat
def tw4989752409047614439:=Nat
def tw2640517176969667911:=Nat
def tw12822463278888256752:=Nat
def tw10832747873455014894:=Nat
def tw11189239964411898533:=Nat
def tw3695023827613771029:=Nat
def tw17848417410149431110:=Nat
def tw8944570376034065166:=Nat
def tw17097151078496092382:=Nat
def tw2745378658709315504:=Nat
def tw15791378732498521703:=Nat
def tw14792579508260885592:=Nat
def tw4961258962502810436:=Nat
def tw16316514481622999022:=Nat
def tw17486315937911341988:=Nat
def tw11704966299223008444:=Nat
def tw12898935375424084938:=Nat
def tw8726686090494935559:=Nat
def tw8299587165046571585:=Nat
def tw10409003194638929243:=Nat
def tw15017498350615152487:=Nat
def tw14782018082280542048:=Nat
def tw12493364927238303292:=Nat
def tw6864627946063444615:=Nat
def tw11270171831386580612:=Nat
def tw9937092732693852872:=Nat
def tw15698701137761156408:=Nat
def tw2515147683548321767:=Nat
def tw2610878706196575380:=Nat
def tw4815639213182940869:=Nat
def tw528191112706905720:=Nat
def tw17819051917567742862:=Nat
def tw4272310698141147462:=Nat
def tw8469631976431751410:=Nat
def tw14812091148204673768:=Nat
def tw5601082147876943838:=Nat
def tw3772719875106906533:=Nat
def tw18405275960795730846:=Nat
def tw5887128229681561205:=Nat
def tw698818206398992135:=Nat
def tw7033123226975928093:=Nat
def tw8643274757629856961:=Nat
def tw15755722664435919614:=Nat
def tw191736159529225122:=Nat
def tw15398974502709059195:=Nat
def tw4428514896798540001:=Nat
def tw11599396805172193718:=Nat
def tw8671316591209415617:=Nat
def tw1754144696484785813:=Nat
def tw508768140701256891:=Nat
def tw8667215590884245030:=Nat
def tw16785603591046713906:=Nat
def tw18437741578303973484:=Nat
def tw15552394390470468643:=Nat
def tw9933985296693649337:=Nat
def tw1340611242074686334:=Nat
def tw10582798219273898823:=Nat
def tw13264165192970377661:=Nat
def tw4142010180246591321:=Nat
def tw12755112207726893488:=Nat
def tw3298300010936634344:=Nat
def tw13164717751046234774:=Nat
def tw1009135605508506968:=Nat
def tw4844919589645535085:=Nat
def tw14293001285050034306:=Nat
def tw12651082617264386299:=Nat
def tw11288216728676369268:=Nat
def tw3527853041542063372:=Nat
def tw6078404495086772986:=Nat
def tw18068323108987239918:=Nat
def tw3924395597765895423:=Nat
def tw15565584389326581863:=Nat
def tw4420261934667453287:=Nat
def tw875299224719475661:=Nat
def tw2918246702564738169:=Nat
def tw9529454967832367545:=Nat
def tw14916225686565035847:=Nat
def tw3438187778459393123:=Nat
def tw6968009936451361993:=Nat
def tw4748583799389997970:=Nat
def tw1309202734339608732:=Nat
def tw17963368263820307054:=Nat
def tw13621764292831103558:=Nat
def tw4950589735927936166:=Nat
def tw7761107803168033057:=Nat
def tw7912642910817192086:=Nat
def tw6557436029715433057:=Nat
def tw10681865433266786909:=Nat
def tw9648657426526094934:=Nat
def tw17775384146817740528:=Nat
def tw4431118429425593007:=Nat
def tw11749588713537377060:=Nat
def tw4429960525625888610:=Nat
def tw11887137725222702075:=Nat
def tw14779488989934752405:=Nat
def tw16042305462272429958:=Nat
def tw14590554241645140732:=Nat
def tw16586445673651656187:=Nat
def tw17023123218843384309:=Nat
def tw8952840872546439171:=Nat
def tw15381410110896658450:=Nat
def tw9550716036455223890:=Nat
def tw2246297048838052279:=Nat
def tw3562859311043964014:=Nat
def tw7680101059923337797:=Nat
def tw5677398921097938060:=Nat
def tw18073099967072575201:=Nat
def tw17216985733618570366:=Nat
def tw2297964913455375542:=Nat
def tw15018477175967828603:=Nat
def tw12414339555337455141:=Nat
def tw3223989944468558646:=Nat
def tw6916206897447758838:=Nat
def tw12026716509971077025:=Nat
def tw7814172746864783220:=Nat
def tw3171279331266756781:=Nat
def tw2182167179563949717:=Nat
def tw14676474121868903871:=Nat
def tw15681391376519199319:=Nat
def tw3389192785804387262:=Nat
def tw3072404116491829383:=Nat
def tw1963387934230081508:=Nat
def tw2207217210086020726:=Nat
def tw17044819959649551243:=Nat
def tw4692928888188244601:=Nat
def tw18235452253149247878:=Nat
def tw11565066897794326154:=Nat
def tw4604139818626484484:=Nat
def tw18078619283636933777:=Nat
def tw4983928325486299255:=Nat
def tw6376415523024199260:=Nat
def tw14428464832636438383:=Nat
def tw8552113705682161241:=Nat
def tw480278111867222062:=Nat
def tw15430456094236794606:=Nat
def tw14911805265737935263:=Nat
def tw5188951482470000806:=Nat
def tw4247745577103242744:=Nat
def tw6472956451160256859:=Nat
def tw11705138545887059525:=Nat
def tw16158868878642706968:=Nat
def tw15026383968613363534:=Nat
def tw2120457735356467843:=Nat
def tw4808950543253363581:=Nat
def tw144659140826314361:=Nat
def tw4950580800906469354:=Nat
def tw13690118669981414490:=Nat
def tw9377072233891000151:=Nat
def tw4230939364532708203:=Nat
def tw6932776233077646467:=Nat
def tw3452351148927849873:=Nat
def tw33629291032162940:=Nat
def tw3618129029108379041:=Nat
def tw9980838293368238746:=Nat
def tw17731241378077780531:=Nat
def tw1363473646964845656:=Nat
def tw7164447993671083142:=Nat
def tw15739421511342611067:=Nat
def tw6203324808043542537:=Nat
def tw16602414045665831649:=Nat
def tw5954155343702517267:=Nat
def tw2140310516834484182:=Nat
def tw4495318095693314834:=Nat
def tw2353099961009879568:=Nat
def tw12369536728580865824:=Nat
def tw1485493585128531333:=Nat
def tw7776016063620975759:=Nat
def tw8507300812334302929:=Nat
def tw3249111543083589531:=Nat
def tw18238567125629267890:=Nat
def tw8228753614773283151:=Nat
def tw612008121336243751:=Nat
def tw11343903489246459256:=Nat
def tw4143777134573641084:=Nat
def tw11223049913137328173:=Nat
def tw1859628274250455520:=Nat
def tw14676908826619030799:=Nat
def tw17109187352924961561:=Nat
def tw11699809319675599399:=Nat
def tw15915806478239237007:=Nat
def tw17882394903723346866:=Nat
def tw3203964364932667806:=Nat
def tw13599809739172481258:=Nat
def tw9057703355865801191:=Nat
def tw15603339954407093263:=Nat
def tw17944970265626361695:=Nat
def tw15523127495285566071:=Nat
def tw4088144234151177072:=Nat
def tw15905912420688748548:=Nat
def tw1227006098917210663:=Nat
def tw18024155805704515402:=Nat
def tw8837010606522363093:=Nat
def tw10926635696150222162:=Nat
def tw17602089171715195962:=Nat
def tw6234057829302764384:=Nat
def tw17937800105000055360:=Nat
def tw9760111895251921728:=Nat
def tw14366585254422855137:=Nat
def tw3745408631365147495:=Nat
def tw5292012071361942795:=Nat
def tw3620856892647408467:=Nat
def tw7654607311794919399:=Nat
def tw9885852853804880371:=Nat
def tw12000967465500802181:=Nat
def tw6628119156497107250:=Nat
def tw8853813002755587140:=Nat
def tw689096795711285700:=Nat
def tw15079362820179193744:=Nat
def tw12495214420855687126:=Nat
def tw11885624622457937270:=Nat
def tw3120346165206571232:=Nat
def tw9076072592305284689:=Nat
def tw14395782871525961079:=Nat
def tw9107689523670181856:=Nat
def tw12855495260564303276:=Nat
def tw10336556913703776536:=Nat
def tw15568258831191555420:=Nat
def tw13305298859380553211:=Nat
def tw13767260738629300338:=Nat
def tw297738783912879456:=Nat
def tw322295246221327223:=Nat
def tw17112086195055807262:=Nat
def tw14017121464172096563:=Nat
def tw508037691183021049:=Nat
def tw12574383615001655546:=Nat
def tw13965862743891884663:=Nat
def tw8724661656438207836:=Nat
def tw11516297942970172145:=Nat
def tw909316783026513908:=Nat
def tw10191239657598446345:=Nat
def tw18443185604178646013:=Nat
def tw10196020907070153890:=Nat
def tw13741008209235051298:=Nat
def tw4004120644863606594:=Nat
def tw2327721491251436090:=Nat
def tw2705130897364207962:=Nat
def tw11102700100208000855:=Nat
def tw11977646088073847918:=Nat
def tw10417425706776611645:=Nat
def tw13966456347038353127:=Nat
def tw17637979102295490783:=Nat
def tw6684263576911574636:=Nat
def tw18085040587513518195:=Nat
def tw5926090636028907017:=Nat
def tw5852682639967837176:=Nat
def tw6559644494775957954:=Nat
def tw8477670951307206872:=Nat
def tw13878754149126678279:=Nat
def tw11203456374039024713:=Nat
def tw17901681112765655948:=Nat
def tw10337434231580791950:=Nat
def tw13207504287123180351:=Nat
def tw17988845477219354645:=Nat
def tw18302063642845257522:=Nat
def tw16972992519164167638:=Nat
def tw712090011266550194:=Nat
def tw15817266053677822114:=Nat
def tw14985858801390555760:=Nat
def tw2176950028731537476:=Nat
def tw15568607915717550782:=Nat
def tw1069839481671484912:=Nat
def tw18395454504429595746:=Nat
def tw11774659008337028895:=Nat
def tw11641909142981106098:=Nat
def tw5269187590147569246:=Nat
def tw9942854486490610205:=Nat
def tw11210360578774706284:=Nat
def tw3592108883931922519:=Nat
def tw3721733620583759314:=Nat
def tw9594316055933176975:=Nat
def tw13608963045956336470:=Nat
def tw11880447994219283590:=Nat
def tw9145106041998997988:=Nat
def tw12412136462601083532:=Nat
def tw16266153115381851875:=Nat
def tw1198265368805838418:=Nat
def tw8159205760508497542:=Nat
def tw14974777253472074537:=Nat
def tw12270529452202628625:=Nat
def tw5508698786147645851:=Nat
def tw3393643103149240399:=Nat
def tw6885958272402144714:=Nat
def tw13447967112608379263:=Nat
def tw16243105911518860428:=Nat
def tw11619275535398678472:=Nat
def tw10864236124755784880:=Nat
def tw2549626780298786201:=Nat
def tw17377532221302565686:=Nat
def tw8932175759273126200:=Nat
def tw5753657283570344003:=Nat
def tw12737375916335539817:=Nat
def tw5349518993882738928:=Nat
def tw9379168398719077393:=Nat
def tw13731138097183494419:=Nat
def tw8785654052671995457:=Nat
def tw11231738744263300511:=Nat
def tw6449874082298323994:=Nat
def tw14855452152118709819:=Nat
def tw16831749919388689775:=Nat
def tw17204108299387176123:=Nat
def tw8651476451653079170:=Nat
def tw3717407646597466838:=Nat
def tw13842336184649019670:=Nat
def tw17817232725808157821:=Nat
def tw13346536630259862338:=Nat
def tw2169102718438706750:=Nat
def tw1939010633564704242:=Nat
def tw392191351601071785:=Nat
def tw10243347380657171891:=Nat
def tw13259977382368533591:=Nat
end PySem.W.Fast
namespace MyQ
open PySem PySem.W PyProof.Rows List
set_option maxRecDepth 100000 in
set_option maxHeartbeats 0 in
open_top hd for PySem.Challenge.rw_manyleast_k64_whole_pieces_answer_as_the
end MyQ
local macro_rules|`(tactic|walk_at "a")=>`(tactic|(first | exact .inl rfl | exact .inr rfl | assumption))
local macro_rules|`(tactic|walk_at "b")=>`(tactic|(first | exact Or.inl rfl | exact Or.inr (Or.inl rfl) | exact Or.inr (Or.inr rfl)))
local macro_rules|`(tactic|walk_at "c")=>`(tactic|(first | exact Or.inl rfl | exact Or.inr rfl))
set_option autoImplicit true
abbrev Fg:=PySem.W.Frag
abbrev VS:=PySem.Value->PySem.Shared->Prop
abbrev LL:=List (List Int)
abbrev Mg:=PySem.Str->Option PySem.Value
section
open PySem PySem.Spec PyProof.Rows PySem.W List
def ZA:type_of% @decide_eq_true:=@decide_eq_true
def ZC:type_of% @wpAny_bind:=@wpAny_bind
def ZE:type_of% @of_decide_eq_true:=@of_decide_eq_true
def ZG:type_of% @Nat.le_refl:=@Nat.le_refl
def ZH:type_of% @Heap.get?_push_of_some:=@Heap.get?_push_of_some
def ZI:type_of% @if_neg:=@if_neg
def ZJ:type_of% @length_map:=@length_map
def ZL:type_of% @if_pos:=@if_pos
def ZM:type_of% @getElem?_eq_getElem:=@getElem?_eq_getElem
def ZN:type_of% @decide_eq_false:=@decide_eq_false
def ZO:type_of% @Nat.le_trans:=@Nat.le_trans
def ZP:type_of% @wpAny_pure:=@wpAny_pure
def ZQ:type_of% @length_append:=@length_append
def ZR:type_of% @kasC_bind:=@kasC_bind
def ZU:type_of% @kasC_pure:=@kasC_pure
def ZV:type_of% @Heap.get?_push_size:=@Heap.get?_push_size
def ZW:type_of% @decide_eq_true_eq:=@decide_eq_true_eq
def ZX:type_of% @mem_cons_of_mem:=@mem_cons_of_mem
def ZY:type_of% @Array.length_toList:=@Array.length_toList
def ZZ:type_of% @Heap.lt_size:=@Heap.lt_size
def WA:type_of% @Nat.zero_le:=@Nat.zero_le
def WB:type_of% @size_toArray:=@size_toArray
def WC:type_of% @mem_cons_self:=@mem_cons_self
def WE:type_of% @Nat.le_add_left:=@Nat.le_add_left
def WF:type_of% @Array.getElem?_toList:=@Array.getElem?_toList
def WG:type_of% @Nat.lt_of_lt_of_le:=@Nat.lt_of_lt_of_le
def WH:type_of% @getElem?_map:=@getElem?_map
def WI:type_of% @Nat.ne_of_lt:=@Nat.ne_of_lt
def WK:type_of% @map_append:=@map_append
def WL:type_of% @Array.toList_append:=@Array.toList_append
def WM:type_of% @Array.getElem?_eq_getElem:=@Array.getElem?_eq_getElem
def WN:type_of% @Nat.min_eq_left:=@Nat.min_eq_left
def WO:type_of% @Bool.and_eq_true:=@Bool.and_eq_true
def WP:type_of% @length_filter_le:=@length_filter_le
def WQ:type_of% @PySem.F.plainAttrs_list:=@PySem.F.plainAttrs_list
def WS:type_of% @PySem.F.slot_list_append:=@PySem.F.slot_list_append
def WT:type_of% @PySem.F.type_list_append:=@PySem.F.type_list_append
def WU:type_of% @take_of_length_le:=@take_of_length_le
def WX:type_of% @length_cons:=@length_cons
def WY:type_of% @mem_of_getElem?:=@mem_of_getElem?
def WZ:type_of% @length_take:=@length_take
def YA:type_of% @getD_eq_getElem?_getD:=@getD_eq_getElem?_getD
def YC:type_of% @mem_append_right:=@mem_append_right
def YD:type_of% @PySem.W.mg_none_of:=@PySem.W.mg_none_of
def YE:type_of% @count_eq_countP:=@count_eq_countP
def YF:type_of% @append_assoc:=@append_assoc
def YG:type_of% @take_add_one:=@take_add_one
def YH:type_of% @Bool.false_and:=@Bool.false_and
def YI:type_of% @countP_cons:=@countP_cons
def YJ:type_of% @Bool.and_false:=@Bool.and_false
def YK:type_of% @map_congr_left:=@map_congr_left
def YL:type_of% @getElem?_append_right:=@getElem?_append_right
def YM:type_of% @PySem.mem_of_lookup:=@PySem.mem_of_lookup
def YN:type_of% @append_nil:=@append_nil
def YO:type_of% @Int.pow_succ:=@Int.pow_succ
def YQ:type_of% @take_length:=@take_length
def YR:type_of% @take_append_drop:=@take_append_drop
def YS:type_of% @wpAny_mono:=@wpAny_mono
def YT:type_of% @Int.emod_lt_of_pos:=@Int.emod_lt_of_pos
def YV:type_of% @flatMap_cons:=@flatMap_cons
def YW:type_of% @countP_eq_length_filter:=@countP_eq_length_filter
def YX:type_of% @getElem?_append_left:=@getElem?_append_left
def YY:type_of% @wpAny_newObj_type:=@wpAny_newObj_type
def YZ:type_of% @filter_cons:=@filter_cons
end
local macro_rules(kind:=Lean.Parser.Term.structInst)|`({})=>`(by omega)
local macro_rules|`(∅)=>`(by decide)
local macro_rules|`(tactic|exists $[$es],*)=>`(tactic|refine ⟨$[$es],*, ?_⟩)
local macro_rules|`(tactic|lia)=>`(tactic|omega)
def eA{l:List α}{i:Nat}{a:α}(h:l[i]?=some a):∃ h:i<l.length,l[i]=a:=List.getElem?_eq_some_iff.mp h
def eB{a b:α}{l:List α}(h:a∈b::l):a=b\/a∈l:=List.mem_cons.mp h
def eC{a:α}{l m:List α}(h:a∈l++m):a∈l\/a∈m:=List.mem_append.mp h
def eD{a b:α}(h:a∈[b]):a=b:=List.mem_singleton.mp h
def eE{f:α->β}{b:β}{l:List α}(h:b∈l.map f):∃ a,a∈l/\f a=b:=List.mem_map.mp h
section
variable {a b c d e f g h r s t u v x y:Nat}{i j k l m n o p q z:Int}{A B C D:Prop}
def W1(_:a<b):b-(a+1)<b-a:={}
def W2(_:a<=b):Min.min a b-c=a-c:={}
def W3(_:a+1<=b):c+b-1=c+(b-1):={}
def W4(_:a=b)(_:b<c):c-b=c-b-1+1:={}
def W5(_:a<b):c+b-1=c+(b-1):={}
def W6:i+j-i=j:={}
def W7(_:a+1<=b):c+b-(a+1)=c+(b-(a+1)):={}
def W8:6+6*a=6*(a+1):={}
def W9:a+b+1=a+1+b:={}
def W10:i+j<i+k↔j<k:={}
def W11:a+b-a=b:={}
def W12:a+b+1=a+(b+1):={}
def W13:a<=a+b:={}
def W14:a+1+b=a+b+1:={}
def W15(_:a<=b)(_:¬a=b):a<b:={}
def W16:i+j=i+k↔j=k:={}
def W17(_:¬a<b):b<=a:={}
def W18(_:a<b):a<=b:={}
def W19:i*2=2*i:={}
def W20(_:0<a):a-1<a:={}
def W21(_:a<b):a+1<=b:={}
def W22(_:¬i<j):j<=i:={}
def W23(_:a<=b):a+(b-a)=b:={}
def W24:a-b<=a:={}
def W25:i*2/2=i:={}
def W26(_:a<=100):a<=1000:={}
def W27(_:a<b):c+a<c+b:={}
def W28(_:a=b)(_:b<c)(_:c-b=d+1):c-(b+1)=d:={}
def W29(_:0<a)(_:b<a)(_:¬b=a-1):b<a-1:={}
def W30(_:a<b)(_:b<=c):a<c:={}
def W31(_:a<=b)(_:b<c):b-a<=c:={}
def W32(_:a<b+c)(_:b<=a):a-b<c:={}
def W33:((a:Int)+(b:Int)*1).toNat=a+b:={}
def W34:i*2=i+i:={}
def W35(_:a<b)(_:c=a):b-(a+1)<b-a:={}
def W36(_:0<a):a-1<=a:={}
def W37(_:¬a=0):a-1<a:={}
def W38(_:a=b)(_:c<b+1)(_:d+1<=b)(_:b+1-(d+1+1)<=c)(_:¬c=b):b-(d+1)<=c:={}
def W39(_:a+1<b):a<b:={}
def W40(_:1<=a)(_:b=c)(_:d+1<=c)(_:a+1<=c):c-(d+1)<=c-1:={}
def W41(_:a<=b)(_:¬a<b):a=b:={}
def W42(_:0<i)(_:i=(a:Int)):0<a:={}
def W43(_:a<=b):¬b<a:={}
def W44(_:a+1<=b):a<=b:={}
def W45(_:a<b+1)(_:¬a=b):a<b:={}
def W46:i<=j/\j<=i↔j=i:={}
def W47(_:i<j):¬j<=i:={}
def W48(_:a=b):b-1<=b:={}
def W49(_:a<b):Min.min a b=a:={}
def W50:a<=b+a:={}
def W51:i+(j-i)=j:={}
def W52(_:a+1<=b):c<=c+b-(a+1):={}
def W53:Min.min a b<=a:={}
def W54(_:a-1<b):a-1<=b:={}
def W55(_:a<b)(_:c=b):a<c:={}
def W56:(↑(a+1):Int)-1=(a:Int):={}
def W57(_:(a:Int)*1<=0):a=0:={}
def W58(_:a<b)(_:c<=a):c<b:={}
def W59(_:¬i<=j):j<i:={}
def W60(_:i-j=k):i=j+k:={}
def W61(_:a=b+c)(_:¬d<c):b+d=a+(d-c):={}
def W62(_:a<=b):c+a<=c+b:={}
def W63:a+(b+1)=a+1+b:={}
def W64(_:i<=j)(_:k=j)(_:k<=i):k=i:={}
def W65(_:a<=b):c+b-(c+a)<=c+b:={}
def W66(_:a<b-c)(_:c<b):c+a<b:={}
def W67(_:2<=a):0<a:={}
def W68(_:a<=b)(_:¬c>=a):(c+a)/2<=b:={}
def W69(_:a=b)(_:b<=300):b<=1000:={}
def W70(_:i<=j)(_:k=j)(_:k<=i):j=i:={}
def W71(_:a+b=c+(b-d))(_:c=a+d)(_:¬e<d):a+e=c+(e-d):={}
def W72(_:1<=a)(_:2<=b)(_:c+a+b<=d+e)(_:¬b-1=1):c+1+a+(b-1)<=d+e:={}
def W73(_:a=b)(_:c<d)(_:e+d<=b):e+c<a:={}
def W74:a<=a:={}
def W75(_:a<=b)(_:¬a<c):¬(d+b-(d+b-(d+a))<d+c/\d+c<=d+b):={}
def W76(_:a<b)(_:c<a):c<b:={}
def W77(_:1<=a)(_:2<=b)(_:c+a+b<=d+e)(_:¬b-1=1):a+(b-1)<=d+e:={}
def W78(_:a<=b)(_:b<a):False:={}
def W79(_:i=j):¬i<j:={}
def W80(_:¬a<=b):b<=a:={}
def W81:¬(a:Int)<0:={}
def W82(_:0<a)(_:b<a)(_:a-1<=b):b=a-1:={}
def W83(_:a<=b)(_:b<=c):a<=c:={}
def W84(_:a>1):a-1<a:={}
def W85(_:a>1):a-1<=a:={}
def W86(_:a=b-c+d)(_:¬e<b+d):b+d<=e:={}
def W87(_:a+b=c)(_:d<c)(_:¬d<a):d-a<b:={}
def W88(_:0<a)(_:b<c+a):b-c<a:={}
def W89(_:a<=b):(b:Int)-(a:Int)=(↑(b-a):Int):={}
def W90(_:1<=a)(_:b=c)(_:a+1<=c):c-1<c:={}
def W91(_:a<b):(a:Int)<(b:Int):={}
def W92(_:(a:Int)=0):a=0:={}
def W93(_:a+b=c):(a:Int)+(b:Int)=(c:Int):={}
def W94(_:a=b)(_:c<b+1)(_:¬c=b):c<b:={}
def W95(_:a<=40):0<=(a:Int):={}
def W96(_:a<=300):a<=1000:={}
def W97(_:i+0*j=k):i=k:={}
def W98(_:i<j):k+i<k+j:={}
def W99:0+a+b<=a+b:={}
def W100(_:a=b)(_:c<b+1):c<=b:={}
def W101:i-j+j=i:={}
def W102(_:0<=i)(_:a=2+(1+i).toNat)(_:i<6):j+1+(↑(1+i).toNat:Int)<=j+7:={}
def W103(_:a+1<b)(_:¬a+1+1=b):a+1+1<b:={}
def W104:(a:Int)+(b:Int)=(↑(a+b):Int):={}
def W105(_:1<=i):0<=i:={}
def W106(_:0<a)(_:a<=b):a-1<b:={}
def W107(_:a<=b-c)(_:c<=b):c+a<=b:={}
def W108(_:a<=b)(_:c<=a):c<=Min.min a b:={}
def W109:i*0=0:={}
def W110(_:2<=a)(_:a<=b):a-1<b:={}
def W111:i=i+2^0-1:={}
def W112:i+(a:Int)+(b:Int)=i+(↑(a+b):Int):={}
def W113(_:¬a>0):a=0:={}
def W114:(a:Int)+1=(↑(a+1):Int):={}
def W115(_:a<b+c)(_:b<=a)(_:c<=d-b):a-b<d-b:={}
def W116(_:a<=40):-2^62<=(a:Int):={}
def W117(_:i<=j):¬j<i:={}
def W118(_:a<b)(_:c+b=d+(b-e))(_:d=c+e)(_:¬a<e):a-e<b-e:={}
def W119(_:a<b+1+c):a<b+(c+1):={}
def W120(_:¬a=0):0<a:={}
def W121(_:a<=b-c)(_:c+a<b)(_:c<=b):a<b-c:={}
def W122:i+(↑(a+1):Int)=i+1+(a:Int):={}
def W123(_:a<=900):0<=(a:Int):={}
def W124(_:¬a-1=0):1<=a-1:={}
def W125(_:a=b)(_:b<=c)(_:¬b<c):b=c:={}
def W126(_:0<=i)(_:a=(2+i).toNat)(_:i<3):20*a<=300:={}
def W127(_:a=b)(_:b<=c)(_:d+c<=e)(_:d=f+g):d+b<=e:={}
def W128(_:(a:Int)=(b:Int)):b=a:={}
def W129(_:a>0):b<=b+a:={}
def W130:0+(a+b)<=a+b:={}
def W131(_:a<=b+c)(_:b<=d+1):a<=d+(c+1):={}
def W132(_:0<=i)(_:a=(2+i).toNat)(_:i<3):a<=4:={}
def W133(_:a+1<=b+1):a<=b:={}
def W134(_:a=b)(_:c<d)(_:¬b=0):b-1<b:={}
def W135(_:a<=40):(a:Int)<=1000000:={}
def W136(_:a=b)(_:c<b)(_:d=b)(_:e=b):c<e:={}
def W137(_:a+(b+1)+1<PySem.cLine):a+1+b+1<PySem.cLine:={}
def W138(_:0<i)(_:i<10^60):i≠0:={}
def W139(_:i<j):i<j+1:={}
def W140(_:0<i)(_:i<=1099511627776):i<10^60:={}
def W141(_:2<=a/\a<b)(_:b<=c):0+a<=c:={}
def W142(_:a<b+1)(_:c<b+1)(_:¬a=b)(_:¬c=b):c<b:={}
def W143(_:0<=i)(_:0<=j)(_:a=b)(_:b<k.toNat)(_:i<4)(_:k<=Max.max 12 j)(_:j<=60):b<=1000:={}
def W144(_:a<b+1):a<=b:={}
def W145(_:a<b+c)(_:d+a=e+(a-b))(_:e=d+b):a-b<c:={}
def W146(_:a<1)(_:b<a):¬a<1:={}
def W147(_:¬0<=i):i<0:={}
def W148(_:a<=b):0+a<=b:={}
def W149:0-(a:Int)+(a:Int)=0:={}
def W150(_:2<=a)(_:a<=3):1<=a:={}
def W151(_:a<=b):a<=b+1:={}
def W152(_:i<10000000):i<100000000:={}
def W153:i=0->i<=0:={}
def W154(_:¬i+j-1<k):k<=i+j-1:={}
def W155(_:1<=a)(_:b<a)(_:c<b)(_:¬a>1):¬b<a:={}
def W156(_:i>j)(_:i<=j):False:={}
def W157:0<=a:={}
def W158(_:a<=b)(_:b<a):c=d:={}
def W159(_:a<b)(_:c=b)(_:b<=d):a<d:={}
def W160(_:i=j):i<j+1:={}
def W161(_:a<=40):(a:Int)<2^62:={}
def W162(_:0<a)(_:b+a<=c)(_:b=d+e):b<=c:={}
def W163(_:a-1<b)(_:a-1=1):a-1<=b:={}
def W164(_:a<b)(_:b=c):a<c:={}
def W165(_:a<=b)(_:c+b<d):c+a<d:={}
def W166(_:a+(b+1)+1<PySem.cLine):a<PySem.cLine:={}
def W167(_:i<j)(_:k+1*l=i):k<j-l:={}
def W168(_:a<b)(_:c+b<=d):c+a<d:={}
def W169(_:a<b)(_:b<=a):False:={}
def W170(_:a<=b)(_:c=d)(_:b<e)(_:f+e<=d):f+a<c:={}
def W171(_:0<=i)(_:a=2+(1+i).toNat)(_:i<6):a<=8:={}
def W172(_:(a:Int)<(b:Int)):a<b:={}
def W173(_:a<b)(_:b<c):a<c:={}
def W174(_:a+1<=b):a<b:={}
def W175(_:a=b)(_:c<d)(_:¬b=0):0<b:={}
def W176(_:0<a)(_:2<=b)(_:¬b-1=1):2<=b-1/\b-1<b:={}
def W177(_:i<j)(_:j<=k):i<k:={}
def W178(_:i<=j):i+1<=j+1:={}
def W179(_:a=b)(_:b<c)(_:c<=40):a<=1000:={}
def W180:¬(↑(a+1):Int)=0:={}
def W181(_:a=b)(_:c<=b):c<=a:={}
def W182(_:0<i)(_:0<=j)(_:j<i)(_:i<=1099511627776):k<=k+j:={}
def W183(_:0<a):0<(a:Int):={}
def W184(_:i<=j/\j<i+k/\0<l/\l=(a:Int)):0<a:={}
def W185(_:a<b)(_:a=c)(_:c=b):False:={}
def W186(_:0<i):i≠0:={}
def W187(_:i+1*j=k)(_:¬k<l):¬i<l-j:={}
def W188(_:(a:Int)<=(b:Int)):a<=b:={}
def W189(_:0=a)(_:1<=a)(_:b=a)(_:c=a):False:={}
def W190(_:a<=1000):a<=99999:={}
def W191(_:i<j)(_:k=j)(_:k<=i):False:={}
def W192(_:a<b)(_:c+1<d)(_:b<a+1):e=c+1:={}
def W193(_:i<j)(_:j<i):False:={}
def W194(_:a<b)(_:a=c)(_:b=c):False:={}
def W195(_:i<10000000):i+3+1<100000000:={}
def W196(_:a+4<PySem.cLine):a<PySem.cLine:={}
def W197(_:a+1<=0):False:={}
def W198(_:a=b)(_:b<=300):0<(b:Int)+1:={}
def W199(_:1<=a):0<a:={}
def W200(_:a<b)(_:c=d-e+f)(_:¬a<d+f):a-d<b-d:={}
def W201(_:i+j-1<k)(_:i<=k/\k<=i+j-1):False:={}
def W202(_:a=b)(_:b<=300):(b:Int)+1<10^60:={}
def W203(_:a=b+c)(_:d=e-c+f)(_:c<e)(_:g=b+e)(_:¬h<g+f):g+f+(h-(b+c+(e-c+f)))=h:={}
def W204(_:i<=j)(_:j<=k):i<=k:={}
def W205(_:i<=j)(_:j<i):False:={}
def W206(_:i<10000000):i+3<100000000:={}
def W207(_:0<=i)(_:0<=j)(_:a=k.toNat)(_:i<4)(_:k<=Max.max 12 j)(_:j<=60):a<64:={}
def W208(_:¬(a:Int)<(b:Int)):b<=a:={}
def W209:¬0>(a:Int):={}
end
namespace L2
open PySem PySem.Spec PyProof.Rows List
abbrev Key:=Sum Int Str
noncomputable def keyIs:Key->Value->Bool
 | .inl k,v=>Value.isInt k v
 | .inr x,v=>Value.isStrOf x v
noncomputable def keyH(w:World):Key->Int
 | .inl k=>hashInt k
 | .inr x=>hashStr w x
theorem q47:∀{k:Key}{v:Value},keyIs k v=true->(∃ i t,k=Sum.inl i/\v=Value.int i t)\/(∃ x t,k=Sum.inr x/\v=Value.str x t)
 | .inl i,v,h=>by
  obtain⟨t,e⟩:=Value.isInt_shape (k:=i) (v:=v) h
  exact .inl ⟨i,t,rfl,e⟩
 | .inr x,v,h=>by
  obtain⟨t,e⟩:=Value.isStrOf_shape (x:=x) (v:=v) h
  exact .inr ⟨x,t,rfl,e⟩
def key_ll(a b:Int):decide ((Sum.inl a:Key)=Sum.inl b)=(a==b):=by
 by_cases e:a=b
 ·subst e;simp
 ·have h:¬(Sum.inl a:Key)=Sum.inl b:=λq=>e (Sum.inl.inj q)
  rw[ZN h]
  exact(beq_eq_false_iff_ne.mpr e).symm
def key_rr(a b:Str):decide ((Sum.inr a:Key)=Sum.inr b)=decide (a=b):=by
 by_cases e:a=b
 ·subst e;simp
 ·have h:¬(Sum.inr a:Key)=Sum.inr b:=λq=>e (Sum.inr.inj q)
  rw[ZN h,ZN e]
def key_lr(a:Int)(b:Str):decide ((Sum.inl a:Key)=Sum.inr b)=false:=ZN (λq=>nomatch q)
def key_rl(a:Str)(b:Int):decide ((Sum.inr a:Key)=Sum.inl b)=false:=ZN (λq=>nomatch q)
noncomputable def q665(prog:Program)(w:World):PySem.KeyKind prog w Key where
 is:=keyIs
 hash:=keyH w
 inj:=λv a b ha hb=>by
  rcases q47 ha with ⟨i,t,rfl,rfl⟩ | ⟨x,t,rfl,rfl⟩
  ·rcases q47 hb with ⟨j,u,rfl,e⟩ | ⟨y,u,rfl,e⟩
   ·injection e with e1 _;rw[e1]
   ·exact nomatch e
  ·rcases q47 hb with ⟨j,u,rfl,e⟩ | ⟨y,u,rfl,e⟩
   ·exact nomatch e
   ·injection e with e1 _;rw[e1]
 byValue:=λk v h=>by
  rcases q47 h with ⟨i,t,rfl,rfl⟩ | ⟨x,t,rfl,rfl⟩ <;> rfl
 pyHash:=λhv h=>by
  rcases q47 hv with ⟨i,t,rfl,rfl⟩ | ⟨x,t,rfl,rfl⟩
  ·exact wpAny_pyHash_int h
  ·exact wpAny_pyHash_str h
 eqBool:=λhu hv h=>by
  rcases q47 hu with ⟨i,t,rfl,rfl⟩ | ⟨x,t,rfl,rfl⟩
  ·rcases q47 hv with ⟨j,u,rfl,rfl⟩ | ⟨y,u,rfl,rfl⟩
   ·rw[key_ll]at h;exact wpAny_eqBool_int h
   ·rw[key_lr]at h;exact SeqAt.EqAt.int_str i t y u _ _ _ _ h
  ·rcases q47 hv with ⟨j,u,rfl,rfl⟩ | ⟨y,u,rfl,rfl⟩
   ·rw[key_rl]at h;exact SeqAt.EqAt.str_int x t j u _ _ _ _ h
   ·rw[key_rr]at h;exact wpAny_eqBool_str h
 «strs»:=λk x t v h=>by
  rcases q47 h with ⟨i,u,rfl,e⟩ | ⟨y,u,rfl,e⟩
  ·exact nomatch e
  ·injection e with e1 _
   subst e1
   cases v <;> rfl
inductive V where
 | non | bl (b:Bool) | int (i:Int) | str (x:Str) | byt (b:Array UInt8) | flt (b:UInt64) | ref (a:Addr) | ty (n:String)
 deriving DecidableEq
def RelV:V->Value->Prop
 | .non,u=>u=Value.none
 | .bl b,u=>u=Value.bool b
 | .int i,u=>∃ t,u=Value.int i t
 | .str x,u=>∃ t,u=Value.str x t
 | .byt b,u=>∃ t,u=Value.bytes b t
 | .flt b,u=>∃ t,u=Value.float b t
 | .ref a,u=>u=Value.ref a
 | .ty n,u=>u=Value.type n
abbrev Vals:List V->List Value->Prop:=Paired RelV
def Vals.length{xs:List V}{us:List Value}(r:Vals xs us):xs.length=us.length:=Paired.length r
theorem Vals.get:∀{xs:List V}{us:List Value}{i:Nat}{x:V},Vals xs us->xs[i]? = some x -> ∃ u,us[i]? = some u/\RelV x u
 | _,_,_,_,.nil,e=>by simp at e
 | _,_,0,_,.cons r _,e=>by simp at e;subst e;exact⟨_,rfl,r⟩
 | _,_,i+1,x,.cons _ t,e=>by
  obtain⟨u,h1,h2⟩:=Vals.get (i:=i) (x:=x) t (by simpa using e)
  exact⟨u,by simpa using h1,h2⟩
theorem Vals.set{x:V}{u:Value}(r:RelV x u):∀{xs:List V}{us:List Value}(i:Nat),Vals xs us->Vals (xs.set i x) (us.set i u)
 | _,_,_,.nil=>.nil
 | _,_,0,.cons _ t=>.cons r t
 | _,_,i+1,.cons q t=>.cons q (Vals.set r i t)
theorem Vals.append:∀{xs ys:List V}{us ws:List Value},Vals xs us->Vals ys ws->Vals (xs++ys) (us++ws)
 | _,_,_,_,.nil,s=>s
 | _,_,_,_,.cons r t,s=>.cons r (Vals.append t s)
theorem Vals.take:∀{xs:List V}{us:List Value}(n:Nat),Vals xs us->Vals (xs.take n) (us.take n)
 | _,_,0,_=>.nil
 | _,_,_+1,.nil=>.nil
 | _,_,n+1,.cons r t=>.cons r (Vals.take n t)
theorem Vals.drop:∀{xs:List V}{us:List Value}(n:Nat),Vals xs us->Vals (xs.drop n) (us.drop n)
 | _,_,0,r=>r
 | _,_,_+1,.nil=>.nil
 | _,_,n+1,.cons _ t=>Vals.drop n t
def RelO:Option V->Option Value->Prop
 | some v,some u=>RelV v u
 | none,none=>True
 | _,_=>False
def KV{κ:Type}:List (κ×V)->List (κ×Value)->Prop:=Paired λ(p:κ×V) (q:κ×Value)=>p.1=q.1/\RelV p.2 q.2
noncomputable def kV:Key->V
 | .inl i=>.int i
 | .inr x=>.str x
inductive HO where
 | lst (xs:List V)
 | tup (xs:List V)
 | dK (kvs:List (Key×V)) | dT (kvs:List (List Key×V))
 | set (S:Int->Bool) (n:Nat)
 | ins (C dx:Addr) (fs:List (Str×V))
 | own (x:Addr)
 | xd (fs:List (Str×V))
 | met (f x:Addr)
 | rng (lo hi:Int)
 | frz (o:Obj) (u:HO)
 | tbl (ps:Array Value)
 | ext (φ:Heap->Prop)
abbrev Hp:=Addr->Option HO
noncomputable def upd(H:Hp)(a:Addr)(o:HO):Hp:=λb=>if b=a then some o else H b
def q14:upd H a o a=some o:=by unfold upd;rw[ZL rfl]
def q27(h:b≠a):upd H a o b=H b:=by unfold upd;rw[ZI h]
def q103:upd (upd H a o) a u=upd H a u:=by
 funext b;unfold upd;split <;> rfl
def ne_of{H:Hp}{a b:Addr}{o u:HO}(h:H a=some o)(h':H b=some u)(d:o≠u):a≠b:=by
 intro e;subst e;rw[h]at h';exact d (Option.some.inj h')
def q26{H:Hp}{a b:Addr}{o:HO}(h:H a=some o)(h':H b=none):a≠b:=by
 intro e;subst e;rw[h]at h';cases h'
section
variable (P:Program)(w:World)
noncomputable def ObjOk(H:Hp)(h:Heap)(a:Addr):HO->Prop
 | .lst xs=>xs.length<=sizeLine /\ ∃(its:List Value)(n:Nat),Vals xs its/\h.get? a=some { cls:=.type "list", data:=.seq its.toArray n }
 | .tup xs=>xs.length<=sizeLine /\ ∃ its:List Value,Vals xs its/\IsTup h a its.toArray
 | .dK kvs=>kvs.length<=sizeLine/\(a==sysModules)=false /\ ∃ vs,KV kvs vs/\h.DictOf (q665 P w) a vs
 | .dT kvs=>kvs.length<=sizeLine/\(a==sysModules)=false /\ ∃ xs:List (List Key×Addr×Value),
   Paired (λ(p:List Key×V) (q:List Key×Addr×Value)=>p.1=q.1/\H q.2.1=some (.tup (p.1.map kV))/\RelV p.2 q.2.2) kvs xs /\
   ∃ o es ep,h.get? a=some o/\o.ExactDict/\o.data = .dict es ep/\es.toList=xs.map (entryOfKey (tupleKind (q665 P w)))/\(xs.map (·.1)).Nodup
 | .set S n=>h.SetOf (intKind P w) a S n
 | .ins C dx fs=>H dx=some (.own a)/\fs.length<=1000/\dx≠a/\h.get? a=some (PySem.W.instObj C dx) /\
   ∃ mA,h.Ns1 dx mA/\(∀ f,RelO (fs.lookup f) (mA f))/\PySem.Within mA (fs.map (·.1))
 | .own _=>∃ o,h.get? a=some o
 | .xd fs=>∃ mA,h.Ns1 a mA /\ ∀ f,RelO (fs.lookup f) (mA f)
 | .rng lo hi=>∃ t u v,h.get? a=some { cls:=.type "range", data:=.fields #[.int lo t,.int hi u,.int 1 v] }
 | .frz o u=>h.get? a=some o/\ObjOk H h a u
 | .tbl ps=>h.get? a=some { cls:=.none,data:=.fields ps }
 | .met f x=>h.get? a=some (PySem.W.methodObj (.ref f) (.ref x))
 | .ext φ=>φ h/\(∃ o,h.get? a=some o) /\ ∀ h1 h2:Heap,φ h1->(∀ o,h1.get? a=some o->h2.get? a=some o)->φ h2
noncomputable def HOk(H:Hp)(h:Heap):Prop:=∀ a o,H a=some o->ObjOk P w H h a o
end
section
variable {P:Program}{w:World}{H H':Hp}{h h':Heap}{a:Addr}{o:HO}
def ObjOk.lt(x:ObjOk P w H h a o):a<h.objs.size:=by
 cases o with
 | lst xs=>obtain⟨_,_,_,_,e⟩:=x;exact ZZ e
 | tup xs=>obtain⟨_,_,_,p⟩:=x;exact p.lt
 | dK kvs=>obtain⟨_,_,_,_,o,_,_,e,_⟩:=x;exact ZZ e
 | dT kvs=>obtain⟨_,_,_,_,o,_,_,e,_⟩:=x;exact ZZ e
 | set S n=>obtain⟨o,_,_,_,e,_⟩:=x;exact ZZ e
 | ins C dx fs=>obtain⟨_,_,_,e,_⟩:=x;exact ZZ e
 | own y=>obtain⟨_,e⟩:=x;exact ZZ e
 | xd fs=>obtain⟨_,⟨_,_,_,e,_⟩,_⟩:=x;exact ZZ e
 | rng lo hi=>obtain⟨_,_,_,e⟩:=x;exact ZZ e
 | frz ob u=>obtain⟨e,_⟩:=x;exact ZZ e
 | tbl ps=>exact ZZ (show h.get? a=some _ from x)
 | met f y=>exact ZZ (show h.get? a=some _ from x)
 | ext φ=>obtain⟨_,⟨_,e⟩,_⟩:=x;exact ZZ e
theorem Paired.mapP{α β:Type}{F G:α->β->Prop}:∀{l₁:List α}{l₂:List β},Paired F l₁ l₂->(∀ a b,F a b->G a b)->Paired G l₁ l₂
 | _,_,.nil,_=>.nil
 | _,_,.cons r t,f=>.cons (f _ _ r) (Paired.mapP t f)
theorem ObjOk.stay(x:ObjOk P w H h a o)(k:∀ b u,(b=a\/H b=some (.own a))->h.get? b=some u->h'.get? b=some u)
  (ho:∀ b,H b=some (.own a)->H' b=some (.own a)) (ht:∀ b xs,H b=some (.tup xs)->H' b=some (.tup xs)):ObjOk P w H' h' a o:=by
 induction o with
 | lst xs=>obtain⟨z,its,n,r,e⟩:=x;exact⟨z,its,n,r,k _ _ (.inl rfl) e⟩
 | tup xs=>obtain⟨z,its,r,ob,e,c⟩:=x;exact⟨z,its,r,ob,k _ _ (.inl rfl) e,c⟩
 | dK kvs=>obtain⟨z,y,vs,r,ob,es,ep,e,c⟩:=x;exact⟨z,y,vs,r,ob,es,ep,k _ _ (.inl rfl) e,c⟩
 | dT kvs=>
  obtain⟨z,y,xs,r,ob,es,ep,e,c⟩:=x
  exact⟨z,y,xs,Paired.mapP r λp q z=>⟨z.1,ht _ _ z.2.1,z.2.2⟩,ob,es,ep,k _ _ (.inl rfl) e,c⟩
 | set S n=>obtain⟨ob,es,ep,t,e,c⟩:=x;exact⟨ob,es,ep,t,k _ _ (.inl rfl) e,c⟩
 | ins C dx fs=>
  obtain⟨d,z,ne,e,mA,⟨od,es,ep,e2,c⟩,r⟩:=x
  exact⟨ho _ d,z,ne,k _ _ (.inl rfl) e,mA,⟨od,es,ep,k _ _ (.inr d) e2,c⟩,r⟩
 | own y=>obtain⟨ob,e⟩:=x;exact⟨ob,k _ _ (.inl rfl) e⟩
 | xd fs=>obtain⟨mA,⟨od,es,ep,e,c⟩,r⟩:=x;exact⟨mA,⟨od,es,ep,k _ _ (.inl rfl) e,c⟩,r⟩
 | rng lo hi=>obtain⟨t,u,v,e⟩:=x;exact⟨t,u,v,k _ _ (.inl rfl) e⟩
 | frz ob u ih=>obtain⟨e,q⟩:=x;exact⟨k _ _ (.inl rfl) e,ih q⟩
 | tbl ps=>
  have e:h.get? a=some { cls:=.none,data:=.fields ps }:=x
  show h'.get? a=some { cls:=.none,data:=.fields ps }
  exact k a _ (.inl rfl) e
 | met f y=>
  have e:h.get? a=some (PySem.W.methodObj (.ref f) (.ref y)):=x
  show h'.get? a=some (PySem.W.methodObj (.ref f) (.ref y))
  exact k a _ (.inl rfl) e
 | ext φ=>obtain⟨p,⟨o,e⟩,st⟩:=x;exact⟨st _ _ p λo q=>k _ _ (.inl rfl) q,⟨o,k _ _ (.inl rfl) e⟩,st⟩
def HOk.lt(x:HOk P w H h)(e:H a=some o):a<h.objs.size:=(x a o e).lt
def HOk.fresh(x:HOk P w H h)(e:h.objs.size<=a):H a=none:=by
 cases q:H a with
 | none=>rfl
 | some u=>exact absurd (WG (x.lt q) e) (Nat.lt_irrefl _)
def HOk.kept(x:HOk P w H h)(k:∀ b u,h.get? b=some u->h'.get? b=some u):HOk P w H h':=λa o e=>
 (x a o e).stay (λb u _ q=>k b u q) (λ_ q=>q) λ_ _ q=>q
def HOk.laid(x:HOk P w H h)(k:∀ b u,h.get? b=some u->h'.get? b=some u)(hp:h.objs.size<=a)(new:ObjOk P w (upd H a o) h' a o):HOk P w (upd H a o) h':=λb u e=>by
 have hn:=x.fresh hp
 by_cases hb:b=a
 ·subst hb;rw[q14]at e;cases e;exact new
 ·rw[q27 hb]at e
  exact(x b u e).stay (λc v _ q=>k c v q) (λc q=>by rw[q27 (q26 q hn)];exact q) λc xs q=>by rw[q27 (q26 q hn)];exact q
end
def Rd(H:Hp)(a:Addr)(u:HO):Prop:=H a=some u \/ ∃ o,H a=some (.frz o u)
def Rd.ok(r:Rd H a u)(x:HOk P w H h):ObjOk P w H h a u:=by
 rcases r with r | ⟨o,r⟩
 ·exact x a u r
 ·obtain⟨_,q⟩:=x a _ r
  exact q
def Mut:Option HO->Prop
 | some (.lst _)=>True
 | some (.dK _)=>True
 | some (.dT _)=>True
 | some (.set _ _)=>True
 | some (.ins _ _ _)=>True
 | some (.ext _)=>True
 | _=>False
section
variable {P:Program}{w:World}{H:Hp}{h h':Heap}{x e:Addr}{o':HO}
def HOk.write(ok:HOk P w H h)(mu:Mut (H x))(he:e=x\/H e=some (.own x))(k:∀ b u,b≠e->h.get? b=some u->h'.get? b=some u)(heo:∃ u,h'.get? e=some u)
  (new:ObjOk P w (upd H x o') h' x o'):HOk P w (upd H x o') h':=λb u q=>by
 have nown:∀ c y,H c=some (.own y)->c≠x:=λc y r z=>by subst z;rw[r]at mu;exact mu
 have ntup:∀ c xs,H c=some (.tup xs)->c≠x:=λc xs r z=>by subst z;rw[r]at mu;exact mu
 by_cases hb:b=x
 ·subst hb;rw[q14]at q;cases q;exact new
 ·rw[q27 hb]at q
  by_cases hbe:b=e
  ·have q':H b=some (.own x):=by
    rcases he with z | z
    ·exact absurd (hbe.trans z) hb
    ·rw[hbe];exact z
   rw[q]at q';cases q'
   obtain⟨v,hv⟩:=heo
   exact⟨v,by rw[hbe];exact hv⟩
  ·refine(ok b u q).stay (λc v hc r=>k c v ?_ r) (λc r=>by rw[q27 (nown c b r)];exact r) λc xs r=>by rw[q27 (ntup c xs r)];exact r
   rcases hc with rfl | hc
   ·exact hbe
   ·rintro rfl
    rcases he with z | z
    ·exact nown c b hc z
    ·rw[hc]at z;cases z;exact hb rfl
end
structure Un(fs ex:List Addr)(H H':Hp)(h h':Heap):Prop where
 keep:∀ b o,h.get? b=some o->H b=none->b ∉ fs->b ∉ ex->h'.get? b=some o
 slot:∀ b o,h.get? b=some o->H b=none->b∈fs->b ∉ ex -> ∃ sl,h'.get? b=some { o with slots:=sl }
 free:∀ b o,h.get? b=some o->H b=none->b ∉ ex->H' b=none
 there:∀ b o,h.get? b=some o->b ∉ ex -> ∃ o',h'.get? b=some o'
 tups:∀ b xs,H b=some (.tup xs)->H' b=some (.tup xs)
 frzs:∀ b o u,H b=some (.frz o u)->H' b=some (.frz o u)
 tbls:∀ b ps,H b=some (.tbl ps) -> ∃ more,H' b=some (.tbl (ps++more))
section
variable{fs fs' ex ex':List Addr}{H H1 H2:Hp}{h h1 h2 h':Heap}{a x e:Addr}{o:HO}
def Un.any(u:Un fs ex H H1 h h1)(q:h.get? b=some ob)(n:H b=none)(hx:b ∉ ex):∃ sl,h1.get? b=some { ob with slots:=sl }:=by
 by_cases hb:b∈fs
 ·exact u.slot b ob q n hb hx
 ·exact⟨ob.slots,u.keep b ob q n hb hx⟩
def Un.kept(k:∀ b u,h.get? b=some u->h'.get? b=some u):Un fs ex H H h h':=
 ⟨λb ob q _ _ _=>k b ob q,λb ob q _ _ _=>⟨ob.slots,k b ob q⟩,λ_ _ _ n _=>n,λb ob q _=>⟨ob,k b ob q⟩,λ_ _ q=>q,λ_ _ _ q=>q,λ_ ps q=>⟨#[],by rw[q];simp⟩⟩
def Un.refl:Un fs ex H H h h:=Un.kept λ_ _ q=>q
def Un.laid(k:∀ b u,h.get? b=some u->h'.get? b=some u)(hp:h.objs.size<=a)(hn:H a=none):Un fs ex H (upd H a o) h h' where
 keep:=λb u q _ _ _=>k b u q
 slot:=λb u q _ _ _=>⟨u.slots,k b u q⟩
 free:=λb u q n _=>by rw[q27 (WI (WG (ZZ q) hp))];exact n
 there:=λb u q _=>⟨u,k b u q⟩
 tups:=λb xs q=>by rw[q27 (q26 q hn)];exact q
 frzs:=λb u xs q=>by rw[q27 (q26 q hn)];exact q
 tbls:=λb ps q=>⟨#[],by rw[q27 (q26 q hn),q];simp⟩
def Un.write(mu:Mut (H x))(he:e=x\/H e=some (.own x))(k:∀ b u,b≠e->h.get? b=some u->h'.get? b=some u)(heo:∃ u,h'.get? e=some u):Un fs ex H (upd H x o) h h':=by
 have hx:∀ b,H b=none->b≠x:=λb n z=>by subst z;rw[n]at mu;exact mu
 have hb:∀ b,H b=none->b≠e:=λb n z=>by
  subst z
  rcases he with r | r
  ·exact hx b n r
  ·rw[n]at r;cases r
 have hm:∀ b u,H b=some u -> ¬ Mut (some u)->b≠x:=λb u q nm z=>by subst z;rw[q]at mu;exact nm mu
 refine⟨λb u q n _ _=>k b u (hb b n) q,λb u q n _ _=>⟨u.slots,k b u (hb b n) q⟩,λb u q n _=>by rw[q27 (hx b n)];exact n,λb u q _=>?_,
  λb xs q=>by rw[q27 (hm b _ q λz=>z)];exact q,λb u xs q=>by rw[q27 (hm b _ q λz=>z)];exact q,λb ps q=>⟨#[],by rw[q27 (hm b _ q λz=>z),q];simp⟩⟩
 by_cases hbe:b=e
 ·subst hbe;exact heo
 ·exact⟨u,k b u hbe q⟩
end
noncomputable def trk(h:Heap)(H:Hp):List Addr:=(List.range h.objs.size).filter λa=>(H a).isSome
noncomputable def hidT(h:Heap)(H:Hp):Heap:=PySem.W.hideAll h (trk h H)
def q666(h:Heap)(H:Hp):(hidT h H).objs.size=h.objs.size:=PySem.W.hideAll_size _ _
def hidT_get{h:Heap}(e:h.get? b=some o)(n:H b=none):(hidT h H).get? b=some o:=
 PySem.W.hideAll_get _ e λhm=>by
  have q:(H b).isSome=true:=(List.mem_filter.mp hm).2
  rw[n]at q;simp at q
def of_hidT{h:Heap}(e:(hidT h H).get? b=some o):h.get? b=some o/\H b=none:=by
 have e':h.get? b=some o:=PySem.W.of_hideAll (trk h H) e
 exists e'
 cases q:H b with
 | none=>rfl
 | some x=>
  have hm:b∈trk h H:=List.mem_filter.mpr ⟨List.mem_range.mpr (ZZ e'),by simp[q]⟩
  have z:(hidT h H).get? b=none:=PySem.W.hideAll_none (trk h H) hm
  rw[z]at e;cases e
noncomputable def allNews(g h:Heap)(L:Addr):List (Addr×Obj):=(List.range h.objs.size).filterMap λa=>if a=L\/(g.get? a).isSome=true then none else(h.get? a).map λo=>(a,o)
noncomputable def rest(g h:Heap)(L d:Addr):List (Addr×Obj):=(allNews g h L).filter λp=>decide (p.1≠d)
structure Mod(K:Fg)(mg:Mg)(base:Heap):Prop where
 kin:K.In base
 glob:base.Ns mainGlobals mg
 blt:∃ mb,base.Ns builtinsNs mb /\ ∀ x:Str,x ≠ "__name__" -> mb x=bootBuiltins x
 nolimit:base.NoLimit
structure Cx where
 prog:Program
 w:World
 K:Fg
 mg:Mg
 base:Heap
 A:Around
 N:List Str
 s₀:Shared
 H₀:Hp
 env:Env
 outer:List Env
 stack:List Env
 ex:List Addr
 fn:Str->Bool
 calm:Bool
 pn:List (Addr×Obj)
 xe:VS
variable {X:Cx}
noncomputable def frs(l:List Env):List Addr:=l.filterMap (·.frame)
noncomputable abbrev Cx.fs(X:Cx):List Addr:=frs X.outer
def Vis(sc:Scope)(x:Str):Prop:=sc.names.lookup x=some .local\/sc.names.lookup x=some .cell\/sc.names.lookup x=some .free
def Loc(sc:Scope)(x:Str):Prop:=sc.names.lookup x=some .local\/sc.names.lookup x=some .cell
noncomputable def Look(env:Env)(h:Heap)(m:Mg)(x:Str)(u:Value):Prop:=
 (env.kindOf x=some .local/\m x=some u)\/((env.kindOf x=some .cell\/env.kindOf x=some .free) /\ ∃ c,env.cells.lookup x=some c/\h.IsCell c (some u))
structure Cx.Ok(X:Cx):Prop where
 mod:Mod X.K X.mg X.base
 kind:X.env.scope.kind = .function
 glob:X.env.globals=mainGlobals
 blt:X.env.builtins=builtinsNs
 above:X.s₀.heap.objs.size<=X.env.locals
 inj:∀ x y c,X.env.cells.lookup x=some c->X.env.cells.lookup y=some c->x=y
 has:∀ x,(X.env.kindOf x=some .cell\/X.env.kindOf x=some .free) -> ∃ c,X.env.cells.lookup x=some c
 cab:∀ x c,X.fn x=true->X.env.cells.lookup x=some c->X.s₀.heap.objs.size<=c
 hd:X.calm=true->X.A.handled=none
 frames:X.A.frames=some X.stack
 stk:X.stack=X.outer\/(X.stack=X.env::X.outer/\X.env.frame=some X.env.locals)
 exf:∀ b∈X.ex,b≠X.env.locals /\ ∀ x c,X.env.cells.lookup x=some c->c≠b
 bs:∀ b o,X.base.get? b=some o->X.s₀.heap.get? b=some o/\X.H₀ b=none
 bsz:X.base.objs.size<=X.s₀.heap.objs.size
 noex:∀ b o,X.base.get? b=some o->b ∉ X.ex
 exfs:∀ b∈X.ex,b ∉ X.fs
 funs:X.s₀.heap.FunFrames X.base X.outer
 frf:∀ b∈X.fs,X.H₀ b=none
structure Inv(X:Cx)(pins:List (Addr×Obj))(σ:List (Option V))(H:Hp)(s:Shared):Prop where
 ok:X.Ok
 os:s.os=X.s₀.os
 bare:AllBare s.gens
 base:Un X.fs X.ex X.H₀ H X.s₀.heap s.heap
 loc:∃ m,s.heap.Ns X.env.locals m /\ ∀(i:Nat)(x:Str)(v:V),X.N[i]? = some x->σ[i]? = some (some v)->Vis X.env.scope x -> ∃ u,RelV v u/\Look X.env s.heap m x u
 cell:∀ x c,X.env.cells.lookup x=some c -> ∃ v,s.heap.IsCell c v
 free:H X.env.locals=none
 freeC:∀ x c,X.env.cells.lookup x=some c->H c=none
 pin:∀ p∈X.pn++pins,s.heap.get? p.1=some p.2/\H p.1=none/\p.1≠X.env.locals/\p.1 ∉ X.fs /\ ∀ v,p.2.data ≠ .cell v
 hok:HOk X.prog X.w H s.heap
 len:σ.length=X.N.length
section
variable {pins:List (Addr×Obj)}{σ:List (Option V)}{H H':Hp}{s:Shared}{h':Heap}
def Cx.Ok.nofr(ok:X.Ok)(e:X.base.get? b=some o):b ∉ X.fs:=λhb=>by
 have:=(ok.funs.mem hb).1
 rw[e]at this;cases this
def Inv.bs(I:Inv X pins σ H s):∀ b o,X.base.get? b=some o->s.heap.get? b=some o/\H b=none:=λb o e=>
 ⟨I.base.keep b o (I.ok.bs b o e).1 (I.ok.bs b o e).2 (I.ok.nofr e) (I.ok.noex b o e),I.base.free b o (I.ok.bs b o e).1 (I.ok.bs b o e).2 (I.ok.noex b o e)⟩
def Inv.bk(I:Inv X pins σ H s):∀ b o,X.base.get? b=some o->s.heap.get? b=some o:=λb o e=>(I.bs b o e).1
def Inv.mod(I:Inv X pins σ H s):Mod X.K X.mg X.base:=I.ok.mod
def Inv.kIn(I:Inv X pins σ H s):X.K.In s.heap:=I.ok.mod.kin.keeps I.bk
def Inv.lt(I:Inv X pins σ H s):X.env.locals<s.heap.objs.size:=let ⟨_,hn,_⟩:=I.loc;hn.lt
def Inv.sz(I:Inv X pins σ H s):X.s₀.heap.objs.size<=s.heap.objs.size:=ZO I.ok.above (Nat.le_of_lt I.lt)
def Inv.nofs(I:Inv X pins σ H s)(h:s.heap.objs.size<=a):a ∉ X.fs:=λhb=>by
 obtain⟨_,o,ho,_⟩:=I.ok.funs.mem hb
 exact absurd (WG (ZZ ho) (ZO I.sz h)) (Nat.lt_irrefl _)
def Inv.cne(I:Inv X pins σ H s):∀ x c,X.env.cells.lookup x=some c->c≠X.env.locals:=λx c e z=>by
 obtain⟨v,o,ho,hd⟩:=I.cell x c e
 obtain⟨m,⟨o',es,ep,ho',hd',_⟩,_⟩:=I.loc
 rw[z,ho']at ho;cases ho;rw[hd']at hd;cases hd
def Inv.funs(I:Inv X pins σ H s):s.heap.FunFrames X.base X.outer:=by
 have all:∀(l:List Env),(∀ b∈frs l,b∈X.fs)->X.s₀.heap.FunFrames X.base l->s.heap.FunFrames X.base l:=by
  intro l
  induction l with
  | nil=>intro _ _;trivial
  | cons env r ih=>
   intro hs hl
   obtain⟨hk,⟨L,o,hf,hn,ho,hd⟩,hr⟩:=hl
   have hL:L∈X.fs:=hs L (by unfold frs;rw[filterMap_cons,hf];exact WC)
   obtain⟨sl,e⟩:=I.base.slot L o ho (I.ok.frf L hL) hL λz=>I.ok.exfs L z hL
   exact⟨hk,⟨L,_,hf,hn,e,hd⟩,ih (λb hb=>hs b (by unfold frs;rw[filterMap_cons,hf];exact ZX _ hb)) hr⟩
 exact all X.outer (λ_ hb=>hb) I.ok.funs
def Inv.stack(I:Inv X pins σ H s):s.heap.FunFrames X.base X.stack:=by
 rcases I.ok.stk with e | ⟨e,hf⟩
 ·rw[e];exact I.funs
 ·rw[e]
  obtain⟨m,hn,_⟩:=I.loc
  refine .cons (by rw[I.ok.kind];decide) hf hn ?_ I.funs
  exact Heap.get?_none_of_le (ZO I.ok.bsz I.ok.above)
def Inv.stkSub(I:Inv X pins σ H s):∀ b∈frs X.stack,b∈X.env.locals::X.fs:=λb hb=>by
 rcases I.ok.stk with e | ⟨e,hf⟩
 ·rw[e]at hb;exact ZX _ hb
 ·rw[e]at hb
  unfold frs at hb
  rw[filterMap_cons,hf]at hb
  exact hb
def Inv.stkFree(I:Inv X pins σ H s):∀ b∈frs X.stack,H b=none:=λb hb=>by
 rcases eB (I.stkSub b hb)with e | hb
 ·rw[e];exact I.free
 ·obtain⟨_,o,ho,_⟩:=I.ok.funs.mem hb
  exact I.base.free b o ho (I.ok.frf b hb) λz=>I.ok.exfs b z hb
def Inv.step{g':Array GenState}{t':Nat}{d':Drawn}{ch:List Addr}(I:Inv X pins σ H s)
  (hch:∀ b∈ch,(b∈X.ex\/X.s₀.heap.objs.size<=b)/\b≠X.env.locals/\(∀ x c,X.env.cells.lookup x=some c->c≠b) /\ ∀ p∈X.pn++pins,p.1≠b)
  (keep:∀ b o,b≠X.env.locals->b ∉ X.fs->b ∉ ch->s.heap.get? b=some o->H b=none->h'.get? b=some o)
  (slot:∀ b o,b≠X.env.locals->b∈X.fs->b ∉ ch->s.heap.get? b=some o->H b=none -> ∃ sl,h'.get? b=some { o with slots:=sl }) (free:∀ b o,b ∉ ch->s.heap.get? b=some o->H b=none->H' b=none)
  (there:∀ b o,b ∉ ch->s.heap.get? b=some o -> ∃ o',h'.get? b=some o')
  (tups:∀ b xs,H b=some (.tup xs)->H' b=some (.tup xs)) (frzs:∀ b o u,H b=some (.frz o u)->H' b=some (.frz o u)) (tbls:∀ b ps,H b=some (.tbl ps) -> ∃ more,H' b=some (.tbl (ps++more)))
  (ns:∀ m,s.heap.Ns X.env.locals m->h'.Ns X.env.locals m) (hok:HOk X.prog X.w H' h') (hg:AllBare g') :
  Inv X pins σ H' { s with heap:=h',gens:=g',drawn:=d',toks:=t' }:=by
 have neL:∀ b o,X.s₀.heap.get? b=some o->b≠X.env.locals:=λb o e=>WI (WG (ZZ e) I.ok.above)
 have neC:∀ b o,X.s₀.heap.get? b=some o->b ∉ X.ex->b ∉ ch:=λb o e hx hb=>by
  rcases(hch b hb).1 with z | z
  ·exact hx z
  ·exact absurd (WG (ZZ e) z) (Nat.lt_irrefl _)
 have cellK:∀ x c,X.env.cells.lookup x=some c -> ∀ v,s.heap.IsCell c v->h'.IsCell c v:=λx c e v ⟨o,ho,hd⟩=>by
  have nch:c ∉ ch:=λz=>(hch c z).2.2.1 x c e rfl
  by_cases hc:c∈X.fs
  ·obtain⟨sl,q⟩:=slot c o (I.cne x c e) hc nch ho (I.freeC x c e)
   exact⟨_,q,hd⟩
  ·exact⟨o,keep c o (I.cne x c e) hc nch ho (I.freeC x c e),hd⟩
 refine⟨I.ok,I.os,hg,⟨λb o e n hb hx=>?_,λb o e n hb hx=>?_,λb o e n hx=>?_,λb o e hx=>?_,λb xs e=>tups b xs (I.base.tups b xs e),λb o xs e=>frzs b o xs (I.base.frzs b o xs e),λb ps e=>?_⟩,?_,λx c e=>?_,?_,λx c e=>?_,λp hp=>?_,hok,I.len⟩
 ·exact keep b o (neL b o e) hb (neC b o e hx) (I.base.keep b o e n hb hx) (I.base.free b o e n hx)
 ·obtain⟨sl,e1⟩:=I.base.slot b o e n hb hx
  obtain⟨sl',e2⟩:=slot b _ (neL b o e) hb (neC b o e hx) e1 (I.base.free b o e n hx)
  exact⟨sl',e2⟩
 ·obtain⟨o',e1⟩:=I.base.there b o e hx
  exact free b o' (neC b o e hx) e1 (I.base.free b o e n hx)
 ·obtain⟨o',e1⟩:=I.base.there b o e hx
  exact there b o' (neC b o e hx) e1
 ·obtain⟨m1,e1⟩:=I.base.tbls b ps e
  obtain⟨m2,e2⟩:=tbls b _ e1
  exact⟨m1++m2,by rw[e2,Array.append_assoc]⟩
 ·obtain⟨m,hn,hl⟩:=I.loc
  refine⟨m,ns m hn,λi x v e1 e2 e3=>?_⟩
  obtain⟨u,r,l⟩:=hl i x v e1 e2 e3
  exists u,r
  rcases l with l | ⟨k,c,e,z⟩
  ·exact .inl l
  ·exact .inr ⟨k,c,e,cellK x c e _ z⟩
 ·obtain⟨v,z⟩:=I.cell x c e
  exact⟨v,cellK x c e v z⟩
 ·obtain⟨m,⟨o,_,_,ho,_⟩,_⟩:=I.loc
  exact free _ o (λz=>(hch _ z).2.1 rfl) ho I.free
 ·obtain⟨v,o,ho,hd⟩:=I.cell x c e
  exact free c o (λz=>(hch c z).2.2.1 x c e rfl) ho (I.freeC x c e)
 ·obtain⟨e,n,ne,nf,d⟩:=I.pin p hp
  have nch:p.1 ∉ ch:=λz=>(hch p.1 z).2.2.2 p hp rfl
  exact⟨keep p.1 p.2 ne nf nch e n,free p.1 p.2 nch e n,ne,nf,d⟩
def Inv.un{t':Nat}(I:Inv X pins σ H s)(u:Un X.fs [] H H' s.heap h')(hok:HOk X.prog X.w H' h'):Inv X pins σ H' { s with heap:=h',toks:=t' }:=by
 obtain⟨m,⟨o,es,ep,ho,r⟩,_⟩:=id I.loc
 obtain⟨sl,hL⟩:=u.any ho I.free (by simp)
 exact I.step (g':=s.gens) (d':=s.drawn) (ch:=[]) (λ_ z=>nomatch z) (λb o _ hb _ e n=>u.keep b o e n hb (by simp)) (λb o _ hb _ e n=>u.slot b o e n hb (by simp)) (λb o _ e n=>u.free b o e n (by simp)) (λb o _ e=>u.there b o e (by simp)) u.tups u.frzs u.tbls (λm' hm=>by
  obtain⟨o',es',ep',ho',r'⟩:=hm
  rw[ho]at ho';cases ho'
  exact⟨_,es',ep',hL,r'⟩) hok I.bare
def Inv.call{g':Array GenState}{t':Nat}{d':Drawn}{ch:List Addr}(I:Inv X pins σ H s)(u:Un (frs X.stack) ch H H' s.heap h')(hok:HOk X.prog X.w H' h')(hg:AllBare g')
  (hch:∀ b∈ch,(b∈X.ex\/X.s₀.heap.objs.size<=b)/\b≠X.env.locals/\(∀ x c,X.env.cells.lookup x=some c->c≠b) /\ ∀ p∈X.pn++pins,p.1≠b) :
  Inv X pins σ H' { s with heap:=h',gens:=g',drawn:=d',toks:=t' }:=by
 obtain⟨m,⟨o,es,ep,ho,r⟩,_⟩:=id I.loc
 obtain⟨sl,hL⟩:=u.any ho I.free λz=>(hch _ z).2.1 rfl
 exact I.step (ch:=ch) hch (λb o hL hb hc e n=>u.keep b o e n (λz=>(eB (I.stkSub b z)).elim hL hb) hc) (λb o _ _ hc e n=>u.any e n hc) (λb o hc e n=>u.free b o e n hc) (λb o hc e=>u.there b o e hc) u.tups u.frzs u.tbls (λm' hm=>by
  obtain⟨o',es',ep',ho',r'⟩:=hm
  rw[ho]at ho';cases ho'
  exact⟨_,es',ep',hL,r'⟩) hok hg
def Inv.turned{t':Nat}{it:Addr}(I:Inv X pins σ H s)(k:∀ b o,b≠it->s.heap.get? b=some o->h'.get? b=some o)(hn:H it=none)(hL:it≠X.env.locals)
  (h1:it∈X.ex\/X.s₀.heap.objs.size<=it) (h2:∀ x c,X.env.cells.lookup x=some c->c≠it) (h3:∀ p∈X.pn++pins,p.1≠it):Inv X pins σ H { s with heap:=h',toks:=t' }:=by
 have nit:∀ b u,H b=some u->b≠it:=λb u e z=>by rw[z,hn]at e;cases e
 refine I.step (g':=s.gens) (d':=s.drawn) (ch:=[it]) (λb hb=>?_) (λb o _ _ hc e _=>k b o (λz=>hc (by simp[z])) e) (λb o _ _ hc e _=>⟨o.slots,k b o (λz=>hc (by simp[z])) e⟩) (λ_ _ _ _ n=>n)
  (λb o hc e=>⟨o,k b o (λz=>hc (by simp[z])) e⟩) (λ_ _ e=>e) (λ_ _ _ e=>e) (λb ps e=>⟨#[],by rw[e];simp⟩) (λm hm=>?_) (λb u e=>?_) I.bare
 ·have e:b=it:=by simpa using hb
  subst e
  exact⟨h1,hL,h2,h3⟩
 ·obtain⟨o,es,ep,ho,r⟩:=hm
  exact⟨o,es,ep,k _ o (Ne.symm hL) ho,r⟩
 ·refine(I.hok b u e).stay (λc v hc q=>k c v ?_ q) (λ_ q=>q) λ_ _ q=>q
  rcases hc with z | z
  ·rw[z];exact nit b u e
  ·exact nit c _ z
def Inv.tok(I:Inv X pins σ H s)(t:Nat):Inv X pins σ H { s with toks:=t }:=I.un (h':=s.heap) (t':=t) Un.refl I.hok
def Inv.kept{t':Nat}(I:Inv X pins σ H s)(k:∀ b u,s.heap.get? b=some u->h'.get? b=some u):Inv X pins σ H { s with heap:=h',toks:=t' }:=I.un (Un.kept k) (I.hok.kept k)
def Inv.laid{t':Nat}(I:Inv X pins σ H s)(k:∀ b u,s.heap.get? b=some u->h'.get? b=some u)(hp:s.heap.objs.size<=a)(new:ObjOk X.prog X.w (upd H a o) h' a o) :
  Inv X pins σ (upd H a o) { s with heap:=h',toks:=t' }:=I.un (Un.laid k hp (I.hok.fresh hp)) (I.hok.laid k hp new)
def Inv.write{t':Nat}(I:Inv X pins σ H s)(mu:Mut (H x))(he:e=x\/H e=some (.own x))(k:∀ b u,b≠e->s.heap.get? b=some u->h'.get? b=some u)(heo:∃ u,h'.get? e=some u)
  (new:ObjOk X.prog X.w (upd H x o) h' x o):Inv X pins σ (upd H x o) { s with heap:=h',toks:=t' }:=I.un (Un.write mu he k heo) (I.hok.write mu he k heo new)
def Inv.pins_of(I:Inv X pins σ H s)(h:∀ p∈pins',s.heap.get? p.1=some p.2/\H p.1=none/\p.1≠X.env.locals/\p.1 ∉ X.fs /\ ∀ v,p.2.data ≠ .cell v):Inv X pins' σ H s:=
 ⟨I.ok,I.os,I.bare,I.base,I.loc,I.cell,I.free,I.freeC,λp hp=>(eC hp).elim (λz=>I.pin p (mem_append_left _ z)) (h p),I.hok,I.len⟩
def q554{N:List Str}(hN:N.Nodup){i j:Nat}(a:N[i]? = some x)(b:N[j]? = some x):i=j:=by
 obtain⟨h1,e1⟩:=eA a
 obtain⟨h2,e2⟩:=eA b
 exact(getElem_inj hN).mp (e1.trans e2.symm)
def q297{M:Model}{A:Around}{E:VS}{i:Nat}(I:Inv X pins σ H s)(hN:X.N.Nodup)(hi:X.N[i]? = some x)(hx:Loc X.env.scope x)(r:RelV v u)
  (h:∀ s',Inv X pins (σ.set i (some v)) H s'->(∃ a,Heap.SameBut a s.heap s'.heap/\(a=X.env.locals\/X.env.cells.lookup x=some a))->Q () s') (hf:X.fn x=true\/X.env.scope.names.lookup x=some .local:=by walk_at "a"):wpAny M A (storeName X.env x u) Q E s:=by
 obtain⟨m,hn,hl⟩:=id I.loc
 have hcls:(X.env.scope.kind == .class||(X.env.scope.kind == .module&&X.env.locals != X.env.globals))=false:=by rw[I.ok.kind];rfl
 have hiσ:i<σ.length:=by rw[I.len];exact(eA hi).1
 have cne:=I.cne
 have tracked:∀{a:Addr}{h':Heap},(∃ o,s.heap.get? a=some o/\H a=none)->Heap.SameBut a s.heap h'->HOk X.prog X.w H h':=fun {a h'} ha hs b ob e=>by
  obtain⟨_,_,hfree⟩:=ha
  refine(I.hok b ob e).stay (λc w' hc q=>(hs.2 c ?_).trans q) (λ_ q=>q) λ_ _ q=>q
  rintro rfl
  rcases hc with rfl | hc
  ·rw[hfree]at e;cases e
  ·rw[hfree]at hc;cases hc
 rcases hx with hk | hk
 ·refine wpAny_storeName_local hk hn (λh' hn' hs=>?_) hcls
  obtain⟨oL,_,_,hoL,_⟩:=id hn
  refine h _ ⟨I.ok,I.os,I.bare,⟨λb o e n hb hx=>?_,λb o e n hb hx=>?_,I.base.free,λb o e hx=>?_,I.base.tups,I.base.frzs,I.base.tbls⟩,⟨_,hn',λj y v' e1 e2 e3=>?_⟩,λy c e=>?_,I.free,I.freeC,λp hp=>?_,tracked ⟨oL,hoL,I.free⟩ hs,by simpa using I.len⟩ ⟨_,hs,.inl rfl⟩
  ·exact(hs.2 b (WI (WG (ZZ e) I.ok.above))).trans (I.base.keep b o e n hb hx)
  ·obtain⟨sl,e1⟩:=I.base.slot b o e n hb hx
   exact⟨sl,(hs.2 b (WI (WG (ZZ e) I.ok.above))).trans e1⟩
  ·obtain⟨o',e1⟩:=I.base.there b o e hx
   exact⟨o',(hs.2 b (WI (WG (ZZ e) I.ok.above))).trans e1⟩
  ·by_cases hj:j=i
   ·subst hj
    rw[hi]at e1;cases e1
    rw[getElem?_set_self hiσ]at e2
    cases e2
    exact⟨u,r,.inl ⟨hk,by simp⟩⟩
   ·rw[getElem?_set_ne (Ne.symm hj)]at e2
    obtain⟨u',r',q⟩:=hl j y v' e1 e2 e3
    exists u',r'
    rcases q with ⟨k,e⟩ | ⟨k,c,e,z⟩
    ·refine .inl ⟨k,?_⟩
     have:y≠x:=λe=>hj (q554 hN e1 (e▸hi))
     simp[this,e]
    ·exact .inr ⟨k,c,e,z.sameBut hs (cne y c e)⟩
  ·obtain⟨w',z⟩:=I.cell y c e
   exact⟨w',z.sameBut hs (cne y c e)⟩
  ·obtain⟨e,n,ne,nf,d⟩:=I.pin p hp
   exact⟨(hs.2 p.1 ne).trans e,n,ne,nf,d⟩
 ·have hfn:X.fn x=true:=by
   rcases hf with z | z
   ·exact z
   ·rw[z]at hk;cases hk
  obtain⟨c,hc⟩:=I.ok.has x (.inl hk)
  obtain⟨w',z⟩:=I.cell x c hc
  refine wpAny_storeName_cell I.ok.kind hk hc z (λh' hc' hs=>?_)
  obtain⟨oc,hoc,hocd⟩:=id z
  refine h { s with heap:=h' } ⟨I.ok,I.os,I.bare,⟨λb o e n hb hx=>?_,λb o e n hb hx=>?_,I.base.free,λb o e hx=>?_,I.base.tups,I.base.frzs,I.base.tbls⟩,⟨m,hn.sameBut hs (Ne.symm (cne x c hc)),λj y v' e1 e2 e3=>?_⟩,λy c' e=>?_,I.free,I.freeC,λp hp=>?_,tracked ⟨oc,hoc,I.freeC x c hc⟩ hs,by simpa using I.len⟩ ⟨c,hs,.inr hc⟩
  ·exact(hs.2 b (WI (WG (ZZ e) (I.ok.cab x c hfn hc)))).trans (I.base.keep b o e n hb hx)
  ·obtain⟨sl,e1⟩:=I.base.slot b o e n hb hx
   exact⟨sl,(hs.2 b (WI (WG (ZZ e) (I.ok.cab x c hfn hc)))).trans e1⟩
  ·obtain⟨o',e1⟩:=I.base.there b o e hx
   exact⟨o',(hs.2 b (WI (WG (ZZ e) (I.ok.cab x c hfn hc)))).trans e1⟩
  ·by_cases hj:j=i
   ·subst hj
    rw[hi]at e1;cases e1
    rw[getElem?_set_self hiσ]at e2
    cases e2
    exact⟨u,r,.inr ⟨.inl hk,c,hc,hc'⟩⟩
   ·rw[getElem?_set_ne (Ne.symm hj)]at e2
    obtain⟨u',r',q⟩:=hl j y v' e1 e2 e3
    exists u',r'
    rcases q with q | ⟨k,c',e,z'⟩
    ·exact .inl q
    ·refine .inr ⟨k,c',e,z'.sameBut hs ?_⟩
     rintro rfl
     exact hj (q554 hN e1 (I.ok.inj _ _ _ e hc▸hi))
  ·by_cases hcc:c'=c
   ·subst hcc;exact⟨_,hc'⟩
   ·obtain⟨w2,z2⟩:=I.cell y c' e
    exact⟨w2,z2.sameBut hs hcc⟩
  ·obtain⟨e,n,ne,nf,d⟩:=I.pin p hp
   refine⟨(hs.2 p.1 ?_).trans e,n,ne,nf,d⟩
   intro q
   rw[q,hoc]at e
   have q':oc=p.2:=Option.some.inj e
   exact d w' (by rw[<- q'];exact hocd)
def q285{M:Model}{A:Around}{E:VS}{i:Nat}(I:Inv X pins σ H s)(hN:X.N.Nodup)(hi:X.N[i]? = some x)(hx:Loc X.env.scope x)(r:RelV v u)
  (h:∀ s',Inv X pins (σ.set i (some v)) H s'->Q () s') (hf:X.fn x=true\/X.env.scope.names.lookup x=some .local:=by walk_at "a"):wpAny M A (storeName X.env x u) Q E s:=
 q297 I hN hi hx r (λs' I' _=>h s' I') hf
def Inv.call'{s':Shared}(I:Inv X pins σ H s)(ho:s'.os=s.os)(u:Un (frs X.stack) ch H H' s.heap s'.heap)(hok:HOk X.prog X.w H' s'.heap)(hg:AllBare s'.gens)
  (hch:∀ b∈ch,(b∈X.ex\/X.s₀.heap.objs.size<=b)/\b≠X.env.locals/\(∀ x c,X.env.cells.lookup x=some c->c≠b) /\ ∀ p∈X.pn++pins,p.1≠b):Inv X pins σ H' s':=by
 obtain⟨h',g',d',t',o'⟩:=s'
 have e:o'=s.os:=ho
 subst e
 exact I.call (g':=g') (t':=t') (d':=d') u hok hg hch
end
abbrev XK:=Value->Option Addr->Hp->Prop
abbrev St:=List (Option V)
abbrev VK:=V->Hp->Prop
abbrev TE:=St->Hp->VK->Prop
abbrev TT:=St->Hp->(Bool->Hp->Prop)->Prop
abbrev TA:=St->Hp->(List V->Hp->Prop)->Prop
structure Ends where
 nx:St->Hp->Prop
 rt:VK
 bk:St->Hp->Prop:=λ_ _=>False
 ct:St->Hp->Prop:=λ_ _=>False
abbrev TS:=Ends->St->Hp->Prop
inductive EP(X:Cx)(pins:List (Addr×Obj))(σ:St)(Q:VK)(u:Value)(s':Shared):Prop
 |mk(v:V)(H':Hp)(_:Inv X pins σ H' s')(_:RelV v u)(_:Q v H')
inductive TP(X:Cx)(pins:List (Addr×Obj))(σ:St)(Q:Bool->Hp->Prop)(b:Bool)(s':Shared):Prop
 |mk(H':Hp)(_:Inv X pins σ H' s')(_:Q b H')
inductive AP(X:Cx)(pins:List (Addr×Obj))(σ:St)(Q:List V->Hp->Prop)(us:List Value)(s':Shared):Prop
 |mk(vs:List V)(H':Hp)(_:Inv X pins σ H' s')(_:Vals vs us)(_:Q vs H')
inductive NP(X:Cx)(pins:List (Addr×Obj))(N:St->Hp->Prop)(s':Shared):Prop
 |mk(σ':St)(H':Hp)(_:Inv X pins σ' H' s')(_:N σ' H')
inductive RP(X:Cx)(pins:List (Addr×Obj))(R:VK)(u:Value)(s':Shared):Prop
 |mk(v:V)(σ':St)(H':Hp)(_:Inv X pins σ' H' s')(_:RelV v u)(_:R v H')
def SP(X:Cx)(pins:List (Addr×Obj))(D:Ends)(f:Flow)(s':Shared):Prop:=
 match f with
 | .next=>NP X pins D.nx s'
 | .brk=>NP X pins D.bk s'
 | .cont=>NP X pins D.ct s'
 | .ret u=>RP X pins D.rt u s'
def PE(X:Cx)(e:Expr)(t:TE):Prop:=
 ∀(pins:List (Addr×Obj)) (s:Shared) (σ:St) (H:Hp) (Q:VK),Inv X pins σ H s->t σ H Q->wpAny (model X.prog X.w) X.A (eval e X.env) (EP X pins σ Q) X.xe s
def PT(X:Cx)(e:Expr)(t:TT):Prop:=
 ∀(pins:List (Addr×Obj)) (s:Shared) (σ:St) (H:Hp) (Q:Bool->Hp->Prop),Inv X pins σ H s->t σ H Q->wpAny (model X.prog X.w) X.A (isTrue e X.env (eval e X.env)) (TP X pins σ Q) X.xe s
def PW(X:Cx)(e:Expr)(t:TT):Prop:=
 ∀(whole:Sem Value) (pins:List (Addr×Obj)) (s:Shared) (σ:St) (H:Hp) (Q:Bool->Hp->Prop),Inv X pins σ H s->t σ H Q->wpAny (model X.prog X.w) X.A (isTrue e X.env whole) (TP X pins σ Q) X.xe s
def PW.pt(h:PW X e t):PT X e t:=h _
def PA(X:Cx)(es:List Expr)(t:TA):Prop:=
 ∀(pos:Pos) (pins:List (Addr×Obj)) (s:Shared) (σ:St) (H:Hp) (Q:List V->Hp->Prop),Inv X pins σ H s->t σ H Q->wpAny (model X.prog X.w) X.A (spliced (backTo pos (starEach es X.env))) (AP X pins σ Q) X.xe s
def PS(X:Cx)(st:Stmt)(t:TS):Prop:=
 ∀(pins:List (Addr×Obj)) (s:Shared) (σ:St) (H:Hp) (D:Ends),Inv X pins σ H s->t D σ H->wpAny (model X.prog X.w) X.A (exec st X.env) (SP X pins D) X.xe s
def PSs(X:Cx)(st:List Stmt)(t:TS):Prop:=
 ∀(pins:List (Addr×Obj)) (s:Shared) (σ:St) (H:Hp) (D:Ends),Inv X pins σ H s->t D σ H->wpAny (model X.prog X.w) X.A (execs st X.env) (SP X pins D) X.xe s
def thn{α:Type}{t:Sem α}{Q Q':α->Shared->Prop}{M:Model}{A:Around}{E:VS}{s:Shared}(h:wpAny M A t Q E s)(hQ:∀ a s,Q a s->Q' a s):wpAny M A t Q' E s:=YS h hQ λ_ _ x=>x
section
inductive tVar(i:Nat)(σ:St)(H:Hp)(Q:VK):Prop
 |mk(v:V)(_:σ[i]? = some (some v))(_:Q v H)
def tC(v:V):TE:=λ_ H Q=>Q v H
def q667{i:Nat}{pos:Pos}(hN:X.N[i]? = some x)(hv:Vis X.env.scope x)(hd:(x==("__debug__" : Str))=false:=by decide) (hcd:(x==("__classdict__" : Str))=false:=by decide):PE X (.Name x pos) (tVar i):=by
 intro pins s σ H Q I h
 obtain⟨v,e,h⟩:=h
 obtain⟨m,hn,hl⟩:=I.loc
 obtain⟨u,r,l⟩:=hl i x v hN e hv
 have fin:EP X pins σ Q u s:=⟨v,H,I,r,h⟩
 rcases l with ⟨hk,hm⟩ | ⟨hk,c,hc,hcell⟩
 ·exact wpAny_Name (wpAny_loadName_local I.ok.kind hk hn hm fin) hd
 ·rcases hk with hk | hk
  ·exact wpAny_Name (wpAny_loadName_cell I.ok.kind hk hc hcell fin) hd
  ·exact wpAny_Name (wpAny_loadName_free I.ok.kind hk hc hcell fin hcd) hd
def q13{i j pos}:PE X (.Constant (.int i) j pos) (tC (.int i)):=λ_ _ _ H _ I h=>wpAny_Constant_int ⟨.int i,H,I.tok _,⟨_,rfl⟩,h⟩
def pe_bl{b j pos}:PE X (.Constant (.bool b) j pos) (tC (.bl b)):=λ_ _ _ H _ I h=>Constant_bool ⟨.bl b,H,I,rfl,h⟩
def q60{j pos}:PE X (.Constant .none j pos) (tC .non):=λ_ _ _ H _ I h=>Constant_none ⟨.non,H,I,rfl,h⟩
def q51{x j pos}:PE X (.Constant (.str x) j pos) (tC (.str x)):=λ_ _ _ H _ I h=>Calls.Constant_str ⟨.str x,H,I.tok _,⟨_,rfl⟩,h⟩
def Gl(X:Cx)(x:Str):Prop:=X.env.kindOf x=some .globalImplicit
def q668{E:VS}{pos:Pos}(I:Inv X pins σ H s)(hg:Gl X x)(hm:X.mg x=some u)(h:Q u s)
  (hd:(x==("__debug__" : Str))=false:=by decide):wpAny (model X.prog X.w) X.A (eval (.Name x pos) X.env) Q E s:=
 Calls.Name_function_global I.ok.kind hg (Calls.loadGlobal_global (by rw[I.ok.glob];exact I.mod.glob.keeps I.bk) hm h) hd
def q449{E:VS}{pos:Pos}(I:Inv X pins σ H s)(hg:Gl X x)(hm:X.mg x=none)(hv:bootBuiltins x=some u)(h:Q u s)
  (hn:x ≠ "__name__" := by decide) (hd:(x==("__debug__" : Str))=false:=by decide):wpAny (model X.prog X.w) X.A (eval (.Name x pos) X.env) Q E s:=by
 obtain⟨mb,h1,h2⟩:=I.mod.blt
 exact Calls.Name_function_global I.ok.kind hg (Calls.loadGlobal_builtin (by rw[I.ok.glob];exact I.mod.glob.keeps I.bk) hm (by rw[I.ok.blt];exact h1.keeps I.bk) ((h2 x hn).trans hv) h) hd
def q298{pos:Pos}(hg:Gl X x)(hm:X.mg x=none)(hv:bootBuiltins x=some u)(r:RelV v u)(hn:x ≠ "__name__" := by decide) (hd:(x==("__debug__" : Str))=false:=by decide):PE X (.Name x pos) (tC v):=
 λ_ _ _ H _ I h=>q449 I hg hm hv ⟨v,H,I,r,h⟩ hn hd
variable{a b:Expr}{ta tb:TE}{pos:Pos}
inductive isB(x:V)(H:Hp)(Q:Bool->Hp->Prop):Prop
 |mk(c:Bool)(_:x = .bl c)(_:Q c H)
def tB(t:TE):TT:=λσ H Q=>t σ H λx H1=>isB x H1 Q
def q104{e:Expr}(h:PE X e t)(he:∀ whole,isTrue e X.env whole=(do let v <- whole;standAt e.pos;holding [v] (truthy v)):=by intro _;rfl):PT X e (tB t):=by
 intro pins s σ H Q I hw
 refine isTrue_plain (thn (h pins s σ H _ I hw) λv s1 ⟨x,H1,I1,r1,q1⟩=>?_) (he _)
 obtain⟨d,rfl,q⟩:=q1
 cases r1
 exact wpAny_truthy_bool ⟨H1,I1,q⟩
variable{tA tB':TT}{rest:List Expr}
def tAnd(t u:TT):TT:=λσ H Q=>t σ H λc H1=>if c=true then u σ H1 Q else Q false H1
def tOr(t u:TT):TT:=λσ H Q=>t σ H λc H1=>if c=true then Q true H1 else u σ H1 Q
def tNot(t:TT):TT:=λσ H Q=>t σ H λc H1=>Q (!c) H1
def q299(ha:PT X a tA):PW X (.BoolOp .And [a] pos) tA:=by
 intro wh pins s σ H Q I h
 refine isTrue_and (thn (ha pins s σ H Q I h) λc s1 e=>?_)
 cases c with
 | true=>exact isTrue_and_nil e
 | false=>exact e
def q138(ha:PT X a tA):PW X (.BoolOp .Or [a] pos) tA:=by
 intro wh pins s σ H Q I h
 refine isTrue_or (thn (ha pins s σ H Q I h) λc s1 e=>?_)
 cases c with
 | false=>exact isTrue_or_nil e
 | true=>exact e
def q450(ha:PT X a tA)(hb:PW X (.BoolOp .And (b::rest) pos) tB'):PW X (.BoolOp .And (a::b::rest) pos) (tAnd tA tB'):=by
 intro wh pins s σ H Q I h
 refine isTrue_and (thn (ha pins s σ H _ I h) λc s1 ⟨H1,I1,q1⟩=>?_)
 cases c with
 | true=>exact hb wh pins s1 σ H1 Q I1 q1
 | false=>exact⟨H1,I1,q1⟩
def pw_or(ha:PT X a tA)(hb:PW X (.BoolOp .Or (b::rest) pos) tB'):PW X (.BoolOp .Or (a::b::rest) pos) (tOr tA tB'):=by
 intro wh pins s σ H Q I h
 refine isTrue_or (thn (ha pins s σ H _ I h) λc s1 ⟨H1,I1,q1⟩=>?_)
 cases c with
 | true=>exact⟨H1,I1,q1⟩
 | false=>exact hb wh pins s1 σ H1 Q I1 q1
def q118(ha:PT X a tA):PT X (.UnaryOp .Not a pos) (tNot tA):=by
 intro pins s σ H Q I h
 exact isTrue_not (thn (ha pins s σ H (λc H1=>Q (!c) H1) I h) λc s' ⟨H1,I1,q⟩=>⟨H1,I1,q⟩)
def tAndV(ta tb:TE):TE:=λσ H Q=>ta σ H λx H1=>isB x H1 λc H1=>if c=true then tb σ H1 Q else Q (.bl false) H1
def tOrV(ta tb:TE):TE:=λσ H Q=>ta σ H λx H1=>isB x H1 λc H1=>if c=true then Q (.bl true) H1 else tb σ H1 Q
def tNotV(ta:TE):TE:=λσ H Q=>ta σ H λx H1=>isB x H1 λc H1=>Q (.bl (!c)) H1
def q300{op}(h:PE X a t):PE X (.BoolOp op [a] pos) t:=λpins s σ H Q I hw=>BoolOp_one (h pins s σ H Q I hw)
def q169(ha:PE X a ta)(hb:PE X (.BoolOp .And (b::rest) pos) tb):PE X (.BoolOp .And (a::b::rest) pos) (tAndV ta tb):=by
 intro pins s σ H Q I h
 refine BoolOp_and (thn (ha pins s σ H _ I h) λv s1 ⟨x,H1,I1,r1,q1⟩=>?_)
 obtain⟨c,rfl,q1⟩:=q1
 cases r1
 refine wpAny_truthy_bool ?_
 cases c with
 | true=>exact hb pins s1 σ H1 Q I1 q1
 | false=>exact⟨.bl false,H1,I1,rfl,q1⟩
def pe_or(ha:PE X a ta)(hb:PE X (.BoolOp .Or (b::rest) pos) tb):PE X (.BoolOp .Or (a::b::rest) pos) (tOrV ta tb):=by
 intro pins s σ H Q I h
 refine BoolOp_or (thn (ha pins s σ H _ I h) λv s1 ⟨x,H1,I1,r1,q1⟩=>?_)
 obtain⟨c,rfl,q1⟩:=q1
 cases r1
 refine wpAny_truthy_bool ?_
 cases c with
 | false=>exact hb pins s1 σ H1 Q I1 q1
 | true=>exact⟨.bl true,H1,I1,rfl,q1⟩
def pe_not(ha:PE X a ta):PE X (.UnaryOp .Not a pos) (tNotV ta):=by
 intro pins s σ H Q I h
 refine UnaryOp_ (thn (ha pins s σ H _ I h) λv s1 ⟨x,H1,I1,r1,q1⟩=>?_)
 obtain⟨c,rfl,q1⟩:=q1
 cases r1
 exact not_of (wpAny_truthy_bool ⟨.bl (!c),H1,I1,rfl,q1⟩)
def tIf(t:TT)(ta tb:TE):TE:=λσ H Q=>t σ H λc H1=>if c=true then ta σ H1 Q else tb σ H1 Q
def q555(hc:PT X c tA)(ha:PE X a ta)(hb:PE X b tb):PE X (.IfExp c a b pos) (tIf tA ta tb):=by
 intro pins s σ H Q I h
 refine wpAny_IfExp (thn (hc pins s σ H _ I h) λd s1 ⟨H1,I1,q1⟩=>?_)
 cases d with
 | true=>exact ha pins s1 σ H1 Q I1 q1
 | false=>exact hb pins s1 σ H1 Q I1 q1
end
def SqL(K:Fg)(H:Hp)(a:Addr)(xs:List V):Prop:=
 Rd H a (.lst xs) \/
  ∃(o:Obj)(its:Array Value)(n:Nat),K.lookup a=some o/\o.cls = .type "list" /\ o.dict=none/\o.data = .seq its n/\its.size<=sizeLine/\Vals xs its.toList
def SqT(K:Fg)(H:Hp)(a:Addr)(xs:List V):Prop:=
 Rd H a (.tup xs) \/
  ∃(o:Obj)(its:Array Value)(n:Nat),K.lookup a=some o/\o.cls = .type "tuple" /\ o.data = .seq its n/\its.size<=sizeLine/\Vals xs its.toList
noncomputable def absV:Value->Option V
 | .none=>some .non
 | .bool b=>some (.bl b)
 | .int i _=>some (.int i)
 | .str x _=>some (.str x)
 | .bytes b _=>some (.byt b)
 | .float b _=>some (.flt b)
 | .ref a=>some (.ref a)
 | .type n=>some (.ty n)
 | _=>none
def RelV.abs(r:RelV x u):absV u=some x:=by
 cases x with
 | non=>cases r;rfl
 | bl _=>cases r;rfl
 | int _=>obtain⟨t,rfl⟩:=r;rfl
 | str _=>obtain⟨t,rfl⟩:=r;rfl
 | byt _=>obtain⟨t,rfl⟩:=r;rfl
 | flt _=>obtain⟨t,rfl⟩:=r;rfl
 | ref _=>cases r;rfl
 | ty _=>cases r;rfl
def RelV.inj(r:RelV x u)(q:RelV y u):x=y:=Option.some.inj (r.abs.symm.trans q.abs)
theorem Vals.inj:∀{xs ys:List V}{us:List Value},Vals xs us->Vals ys us->xs=ys
 | _,_,_,.nil,.nil=>rfl
 | _,_,_,.cons r t,.cons r' t'=>by rw[r.inj r',Vals.inj t t']
section
variable {pins:List (Addr×Obj)}{σ:St}{H:Hp}{s:Shared}{a:Addr}{xs ys:List V}
def SqL.of{K:Fg}(h:H a=some (.lst xs)):SqL K H a xs:=.inl (.inl h)
def SqT.of{K:Fg}(h:H a=some (.tup xs)):SqT K H a xs:=.inl (.inl h)
def Inv.list(I:Inv X pins σ H s)(h:SqL X.K H a xs):∃ its:List Value,Vals xs its/\PlainL s.heap a its.toArray/\xs.length<=sizeLine:=by
 rcases h with h | ⟨o,its,n,hk,hc,hd,hs,hz,r⟩
 ·obtain⟨z,its,n,r,e⟩:=h.ok I.hok
  exact⟨its,r,⟨_,n,e,rfl,rfl,rfl⟩,z⟩
 ·exists its.toList,r,⟨o,n,I.kIn a o hk,hc,hd,by simpa using hs⟩
  have e:=r.length
  simp only[ZY]at e
  lia
def Inv.tuple(I:Inv X pins σ H s)(h:SqT X.K H a xs):∃ its:List Value,Vals xs its/\IsTup s.heap a its.toArray/\xs.length<=sizeLine:=by
 rcases h with h | ⟨o,its,n,hk,hc,hs,hz,r⟩
 ·obtain⟨z,its,r,p⟩:=h.ok I.hok
  exact⟨its,r,p,z⟩
 ·exists its.toList,r,⟨o,I.kIn a o hk,hc,n,by simpa using hs⟩
  have e:=r.length
  simp only[ZY]at e
  lia
def Inv.list_inj(I:Inv X pins σ H s)(h:SqL X.K H a xs)(h':SqL X.K H a ys):xs=ys:=by
 obtain⟨its,r,⟨o,n,e,_,_,d⟩,_⟩:=I.list h
 obtain⟨its',r',⟨o',n',e',_,_,d'⟩,_⟩:=I.list h'
 rw[e]at e';cases e'
 rw[d]at d'
 injection d' with d1 _
 have:its=its':=by simpa using congrArg Array.toList d1
 subst this
 exact r.inj r'
def Inv.tuple_inj(I:Inv X pins σ H s)(h:SqT X.K H a xs)(h':SqT X.K H a ys):xs=ys:=by
 obtain⟨its,r,⟨o,e,_,n,d⟩,_⟩:=I.tuple h
 obtain⟨its',r',⟨o',e',_,n',d'⟩,_⟩:=I.tuple h'
 rw[e]at e';cases e'
 rw[d]at d'
 injection d' with d1 _
 have:its=its':=by simpa using congrArg Array.toList d1
 subst this
 exact r.inj r'
end
noncomputable abbrev Cx.wish(X:Cx)(E:VS):Cx:={ X with xe:=E }
noncomputable abbrev Cx.nox(X:Cx):Cx:=X.wish λ_ _=>False
def Cx.Ok.wish{X:Cx}(ok:X.Ok)(E:VS):(X.wish E).Ok:=
 ⟨ok.mod,ok.kind,ok.glob,ok.blt,ok.above,ok.inj,ok.has,ok.cab,ok.hd,ok.frames,ok.stk,ok.exf,ok.bs,ok.bsz,ok.noex,ok.exfs,ok.funs,ok.frf⟩
def Cx.Ok.unwish{X:Cx}(ok:(X.wish E).Ok):X.Ok:=
 ⟨ok.mod,ok.kind,ok.glob,ok.blt,ok.above,ok.inj,ok.has,ok.cab,ok.hd,ok.frames,ok.stk,ok.exf,ok.bs,ok.bsz,ok.noex,ok.exfs,ok.funs,ok.frf⟩
section
variable {pins:List (Addr×Obj)}{σ:St}{H:Hp}{s:Shared}{E:VS}
def Inv.wish(I:Inv X pins σ H s)(E:VS):Inv (X.wish E) pins σ H s:=⟨I.ok.wish E,I.os,I.bare,I.base,I.loc,I.cell,I.free,I.freeC,I.pin,I.hok,I.len⟩
def Inv.unwish(I:Inv (X.wish E) pins σ H s):Inv X pins σ H s:=⟨I.ok.unwish,I.os,I.bare,I.base,I.loc,I.cell,I.free,I.freeC,I.pin,I.hok,I.len⟩
def SP.unwish(h:SP (X.wish E) pins D f s'):SP X pins D f s':=by
 cases f with
 | next=>obtain⟨σ',H',I,q⟩:=h;exact⟨σ',H',I.unwish,q⟩
 | brk=>obtain⟨σ',H',I,q⟩:=h;exact⟨σ',H',I.unwish,q⟩
 | cont=>obtain⟨σ',H',I,q⟩:=h;exact⟨σ',H',I.unwish,q⟩
 | ret u=>obtain⟨v,σ',H',I,r,q⟩:=h;exact⟨v,σ',H',I.unwish,r,q⟩
def PSs.nox{st:List Stmt}{t:TS}(h:PSs X.nox st t):PSs X st t:=λpins s σ H D I hw=>
 YS (h pins s σ H D (I.wish _) hw) (λ_ _ q=>q.unwish) λ_ _ z=>False.elim z
end
section
variable {st:Stmt}{rest:List Stmt}{t u:TS}{e:Expr}{te:TE}{pos:Pos}
def tNext:TS:=λD σ H=>D.nx σ H
def tSeq(t u:TS):TS:=λD σ H=>t { D with nx:=u D } σ H
def q21:PSs X [] tNext:=λ_ _ σ H _ I h=>wpAny_execs_nil ⟨σ,H,I,h⟩
def q12(h1:PS X st t)(h2:PSs X rest u):PSs X (st::rest) (tSeq t u):=by
 intro pins s σ H D I h
 refine wpAny_execs_cons (thn (h1 pins s σ H { D with nx:=u D } I h) λf s1 q=>?_)
 cases f with
 | next=>
  obtain⟨σ',H',I',q⟩:=q
  exact h2 pins s1 σ' H' D I' q
 | ret v=>exact q
 | brk=>exact q
 | cont=>exact q
def q15(h1:PS X st t):PSs X [st] t:=by
 intro pins s σ H D I h
 refine wpAny_execs_cons (thn (h1 pins s σ H D I h) λf s1 q=>?_)
 cases f with
 | next=>exact wpAny_execs_nil q
 | ret v=>exact q
 | brk=>exact q
 | cont=>exact q
def Inv.quiet(I:Inv X pins σ H s):interactive X.env=false:=by simp[interactive,I.ok.kind]
def tDrop(te:TE):TS:=λD σ H=>te σ H λ_ H1=>D.nx σ H1
def q75(he:PE X e te)(hs:swapsWith e none pos.line X.env=pure false:=by rfl):PS X (.Expr e pos) (tDrop te):=by
 intro pins s σ H D I h
 exact wpAny_Expr_any (thn (he pins s σ H _ I h) λv s1 ⟨x,H1,I1,r1,q1⟩=>⟨σ,H1,I1,q1⟩) I.quiet hs
def tRet(te:TE):TS:=λD σ H=>te σ H D.rt
def q18(he:PE X e te):PS X (.Return (some e) pos) (tRet te):=by
 intro pins s σ H D I h
 exact wpAny_Return_some (thn (he pins s σ H _ I h) λv s1 ⟨x,H1,I1,r1,q1⟩=>⟨x,σ,H1,I1,r1,q1⟩)
def tIfS(c:TT)(t u:TS):TS:=λD σ H=>c σ H λb H1=>if b=true then t D σ H1 else u D σ H1
def ps_if(hc:PT X c tc)(ha:PSs X a t)(hb:PSs X b u):PS X (.If c a b pos) (tIfS tc t u):=by
 intro pins s σ H D I h
 refine wpAny_If (thn (hc pins s σ H _ I h) λd s1 ⟨H1,I1,q1⟩=>?_)
 cases d with
 | true=>exact ha pins s1 σ H1 D I1 q1
 | false=>exact hb pins s1 σ H1 D I1 q1
def tNever:TS:=λ_ _ _=>False
def q157:PS X st tNever:=λ_ _ _ _ _ _ h=>h.elim
end
abbrev TG:=V->St->Hp->(St->Hp->Prop)->Prop
abbrev TGs:=List V->St->Hp->(St->Hp->Prop)->Prop
def PG(X:Cx)(target:Expr)(t:TG):Prop:=
 ∀(pins:List (Addr×Obj)) (s:Shared) (σ:St) (H:Hp) (v:V) (u:Value) (Q:St->Hp->Prop),Inv X pins σ H s->RelV v u->t v σ H Q ->
  wpAny (model X.prog X.w) X.A (assign target X.env u) (λ_ s'=>NP X pins Q s') X.xe s
def PGs(X:Cx)(ts:List Expr)(t:TGs):Prop:=
 ∀(pins:List (Addr×Obj)) (s:Shared) (σ:St) (H:Hp) (vs:List V) (us:List Value) (Q:St->Hp->Prop),Inv X pins σ H s->Vals vs us->t vs σ H Q ->
  wpAny (model X.prog X.w) X.A (assignInOrder ((assignEach ts X.env).map (·.2)) us) (λ_ s'=>NP X pins Q s') X.xe s
abbrev TSet:=V->V->V->Hp->(Hp->Prop)->Prop
def PSet(X:Cx)(t:TSet):Prop:=
 ∀(pins:List (Addr×Obj)) (s:Shared) (σ:St) (H:Hp) (o i v:V) (ov iv u:Value) (Q:Hp->Prop),Inv X pins σ H s->RelV o ov->RelV i iv->RelV v u->t o i v H Q ->
  wpAny (model X.prog X.w) X.A (setItem ov iv u) (λ_ s'=>∃ H',Inv X pins σ H' s'/\Q H') X.xe s
section
variable {pos:Pos}
def gName(i:Nat):TG:=λv σ H Q=>Q (σ.set i (some v)) H
def q105{i:Nat}(hN:X.N.Nodup)(hi:X.N[i]? = some x)(hx:Loc X.env.scope x)(hf:X.fn x=true\/X.env.scope.names.lookup x=some .local:=by walk_at "a"):PG X (.Name x pos) (gName i):=by
 intro pins s σ H v u Q I r h
 exact wpAny_assign_Name (q285 I hN hi hx r (λs' I'=>⟨_,H,I',h⟩) hf)
def gNil:TGs:=λvs σ H Q=>vs=[]/\Q σ H
inductive gCons(t:TG)(u:TGs)(vs:List V)(σ:St)(H:Hp)(Q:St->Hp->Prop):Prop
 |mk(v:V)(r:List V)(_:vs=v::r)(_:t v σ H λσ' H'=>u r σ' H' Q)
def q90:PGs X [] gNil:=by
 intro pins s σ H vs us Q I r h
 obtain⟨e,h⟩:=h
 subst e
 cases r
 exact assignInOrder_nil ⟨σ,H,I,h⟩
theorem q28(h1:PG X e t)(h2:PGs X es u)
  (hs:(assignEach (e::es) X.env).map (·.2)=assign e X.env::(assignEach es X.env).map (·.2):=by rfl):PGs X (e::es) (gCons t u):=by
 intro pins s σ H vs us Q I r h
 obtain⟨v,vr,e1,h⟩:=h
 subst e1
 cases r with
 | cons r rr=>
  rw[hs]
  refine assignInOrder_cons (thn (h1 pins s σ H _ _ _ I r h) λ_ s1 ⟨σ1,H1,I1,q1⟩=>?_)
  exact h2 pins s1 σ1 H1 _ _ Q I1 rr q1
inductive gTup(K:Fg)(n:Nat)(t:TGs)(v:V)(σ:St)(H:Hp)(Q:St->Hp->Prop):Prop
 |mk(a:Addr)(xs:List V)(_:v = .ref a)(_:SqT K H a xs)(_:xs.length=n)(_:t xs σ H Q)
def q170{k:Nat}{n:Nat}(hc:X.calm=true)(h:PGs X es t)
  (hn:(assignEach es X.env).length=n:=by rfl) (hst:(assignEach es X.env).findIdx? (·.1)=none:=by rfl):PG X (.Tuple es k pos) (gTup X.K n t):=by
 intro pins s σ H v u Q I r hw
 obtain⟨a,xs,e1,hq,hl,hw⟩:=hw
 subst e1
 cases r
 obtain⟨its,rv,ht,hz⟩:=I.tuple hq
 refine assign_Tuple_tuple (I.ok.hd hc) ht (by simp[hn,<- hl,rv.length]) hst λh' hx=>?_
 have I1:Inv X pins σ H { s with heap:=h' }:=I.kept (t':=s.toks) λb o e=>hx b o (WI (ZZ e)) e
 exact h pins _ σ H xs _ Q I1 (by simpa using rv) hw
def gSub(to ti:TE)(t:TSet):TG:=λv σ H Q=>to σ H λo H1=>ti σ H1 λi H2=>t o i v H2 λH3=>Q σ H3
def q556(ho:PE X o to)(hi:PE X i ti)(hs:PSet X t)
  (ha:∀ v,assign (.Subscript o i pos) X.env v=(do
   let ov <- holding [v] (eval o X.env)
   let iv <- holding [v,ov] (eval i X.env)
   standAt pos
   holding [v,ov,iv] (setItem ov iv v)
   release [v,ov,iv] []):=by intro _;rfl):PG X (.Subscript o i pos) (gSub to ti t):=by
 intro pins s σ H v u Q I r h
 rw[ha]
 refine ZC (wpAny_holding (thn (ho pins s σ H _ I h) λov s1 ⟨x,H1,I1,r1,q1⟩=>?_))
 refine ZC (wpAny_holding (thn (hi pins s1 σ H1 _ I1 q1) λiv s2 ⟨y,H2,I2,r2,q2⟩=>?_))
 refine ZC (wpAny_standAt (ZC (wpAny_holding (thn (hs pins s2 σ H2 x y v ov iv u _ I2 r1 r2 r q2) λ_ s3 ⟨H3,I3,q3⟩=>?_))))
 exact wpAny_release ⟨σ,H3,I3,q3⟩
noncomputable def tAsg(te:TE)(g:TG):TS:=λD σ H=>te σ H λx H1=>g x σ H1 D.nx
def q260(he:PE X e te)(hg:PG X tg g)(hs:swapsWithSole [tg] e pos.line X.env=pure false:=by rfl)(hw:swappedStores [tg] e X.env=pure none:=by rfl)
  (h1:(assignEach [tg] X.env).map (·.2)=[assign tg X.env]:=by rfl):PS X (.Assign [tg] e pos) (tAsg te g):=by
 intro pins s σ H D I h
 refine wpAny_Assign_stores (thn (he pins s σ H _ I h) λv s1 ⟨x,H1,I1,r1,q1⟩=>?_) hs hw
 rw[h1]
 exact thn (hg pins s1 σ H1 x v _ I1 r1 q1) λ_ s2 q=>q
def ps_set{i:Nat}(hN:X.N.Nodup)(hi:X.N[i]? = some x)(hx:Loc X.env.scope x)(he:PE X e te)(hs:swapsWith e (some (.Name x pos')) pos.line X.env=pure false:=by rfl)(hf:X.fn x=true\/X.env.scope.names.lookup x=some .local:=by walk_at "a") :
  PS X (.Assign [.Name x pos'] e pos) (tAsg te (gName i)):=by
 intro pins s σ H D I h
 refine wpAny_Assign_Name (thn (he pins s σ H _ I h) λv s1 ⟨y,H1,I1,r1,q1⟩=>?_) hs
 exact q285 I1 hN hi hx r1 (λs2 I2=>⟨_,H1,I2,q1⟩) hf
end
section
variable {pos:Pos}
inductive tWhile(c:TT)(tb:TS)(D:Ends)(σ:St)(H:Hp):Prop
 |mk(W:Nat->St->Hp->Prop)(_:(∃ m,W m σ H))(_:∀ m σ H,W m σ H->c σ H λb H1=>if b=true then ∃ N:St->Hp->Prop,(∀ σ' H',N σ' H' -> ∃ m',m'<m/\W m' σ' H')/\tb { D with nx:=N,ct:=N,bk:=D.nx } σ H1 else D.nx σ H1)
def ps_while(hp:PassesOwn (model X.prog X.w) X.A X.env X.xe)(hc:PT X c tc)(hb:PSs X body tb):PS X (.While c body [] pos) (tWhile tc tb):=by
 intro pins s σ H D I h
 obtain⟨W,⟨m0,w0⟩,turn⟩:=h
 refine wpAny_While (codeAny_whileLoop (λn s'=>∃ σ' H',Inv X pins σ' H' s'/\W n σ' H') ?_ m0 ⟨σ,H,I,w0⟩)
 rintro n s1 ⟨σ1,H1,I1,w1⟩
 refine wpAny_passesOwn hp (thn (hc pins s1 σ1 H1 _ I1 (turn n σ1 H1 w1)) λb s2 ⟨H2,I2,q2⟩=>?_)
 cases b with
 | true=>
  obtain⟨N,hN,q2⟩:=q2
  rw[ZL rfl]
  refine wpAny_passesOwn hp (thn (hb pins s2 σ1 H2 _ I2 q2) λf s3 q3=>?_)
  cases f with
  | next=>
   obtain⟨σ3,H3,I3,n3⟩:=q3
   obtain⟨m',hm,w3⟩:=hN σ3 H3 n3
   exact⟨m',hm,σ3,H3,I3,w3⟩
  | cont=>
   obtain⟨σ3,H3,I3,n3⟩:=q3
   obtain⟨m',hm,w3⟩:=hN σ3 H3 n3
   exact⟨m',hm,σ3,H3,I3,w3⟩
  | brk=>exact q3
  | ret v=>exact q3
 | false=>
  rw[ZI fnt]
  exact wpAny_execs_nil ⟨σ1,H2,I2,q2⟩
end
structure It where
 go:Nat->Hp->Prop
 yld:Nat->Hp->V->Hp->Prop
 stop:Nat->Hp->Prop
noncomputable def FpOk(X:Cx)(pins:List (Addr×Obj))(H:Hp)(b:Addr):Prop:=
 H b=none/\b≠X.env.locals/\b ∉ X.fs/\(b∈X.ex\/X.s₀.heap.objs.size<=b)/\(∀ x c,X.env.cells.lookup x=some c->c≠b) /\ ∀ p∈X.pn++pins,p.1≠b
def Inv.fpOk{s:Shared}(I:Inv X pins σ H s)(hb:s.heap.objs.size<=b)(hn:H' b=none):FpOk X pins H' b:=by
 refine⟨hn,Nat.ne_of_gt (WG I.lt hb),I.nofs hb,.inr (ZO I.sz hb),λx c e z=>?_,λp hp z=>?_⟩
 ·obtain⟨v,q⟩:=I.cell x c e
  exact absurd (WG q.lt (by rw[z];exact hb)) (Nat.lt_irrefl _)
 ·exact absurd (WG (ZZ (I.pin p hp).1) (by rw[z];exact hb)) (Nat.lt_irrefl _)
structure Turn(P:Program)(w:World)(K:Fg)(tg:Expr)(J:It)(fp:List Addr)(it:Addr)(tn:Nat->Heap->Prop):Prop where
 mem:it∈fp
 obj:∀ i h,tn i h -> ∀ b∈fp,∃ o,h.get? b=some o /\ ∀ v,o.data ≠ .cell v
 keep:∀ i h h',tn i h->(∀ b∈fp,∀ o,h.get? b=some o->h'.get? b=some o)->tn i h'
 item:∀(X:Cx),X.prog=P->X.w=w->X.K=K->X.calm=true -> ∀(i:Nat) (pins:List (Addr×Obj)) (s:Shared) (σ:St) (H:Hp) (E:VS),Inv X pins σ H s->(∀ b∈fp,FpOk X pins H b)->tn i s.heap->J.go i H ->
  wpAny (model P w) X.A (pyNext (.ref it)) (λr s1=>∃ u,r=some u /\
   wpAny (model P w) X.A (letOwnedTupleGo tg (.ref it) u) (λ_ s2=>∃ x H',Inv X pins σ H' s2/\RelV x u/\J.yld i H x H'/\tn (i+1) s2.heap /\ ∀ b∈fp,H' b=none) E s1) E s
 done:∀(X:Cx),X.prog=P->X.w=w->X.K=K->X.calm=true -> ∀(i:Nat) (pins:List (Addr×Obj)) (s:Shared) (σ:St) (H:Hp) (E:VS),Inv X pins σ H s->(∀ b∈fp,FpOk X pins H b)->tn i s.heap->J.stop i H ->
  wpAny (model P w) X.A (pyNext (.ref it)) (λr s1=>r=none/\Inv X pins σ H s1) E s
 self:∀(A:Around)(i:Nat)(s:Shared)(Q:VS)(E:VS),tn i s.heap->Q (.ref it) s->wpAny (model P w) A (pyIter (.ref it)) Q E s
abbrev TI:=St->Hp->(It->Hp->Prop)->Prop
inductive PIE(X:Cx)(pins:List (Addr×Obj))(σ:St)(tg:Expr)(R:It->Hp->Prop)(itv:Value)(s2:Shared):Prop
 |mk(it:Addr)(fp:List Addr)(tn:Nat->Heap->Prop)(J:It)(H':Hp)(_:itv = .ref it)(_:Inv X pins σ H' s2)(_:Turn X.prog X.w X.K tg J fp it tn)(_:tn 0 s2.heap)(_:∀ b∈fp,FpOk X pins H' b)(_:R J H')
def PI(X:Cx)(tg itr:Expr)(wi:TI):Prop:=
 ∀(pins:List (Addr×Obj)) (s:Shared) (σ:St) (H:Hp) (R:It->Hp->Prop),Inv X pins σ H s->wi σ H R ->
  wpAny (model X.prog X.w) X.A (eval itr X.env) (λv s1=>wpAny (model X.prog X.w) X.A (pyIter v) (PIE X pins σ tg R) X.xe s1) X.xe s
def go_of{s:Shared}{o:Obj}(ho:s.heap.get? it=some o)(hc:o.cls = .type n)(hd:o.data = .fields vs)
  (hn:["enumerate", "zip", "dict_itemiterator", "dict_reverseitemiterator", "odict_iterator", "itertools.zip_longest", "itertools.pairwise"].contains n=false) (hQ:Q () s):wpAny M A (letOwnedTupleGo tg (.ref it) u) Q E s:=by
 unfold letOwnedTupleGo
 cases tg <;> first
  | exact ZP hQ
  | (cases u <;> first
    | exact ZP hQ
    | (refine ZC (wpAny_load ho ?_)
       rw[hc,hd]
       show wpAny M A (if(["enumerate", "zip", "dict_itemiterator", "dict_reverseitemiterator", "odict_iterator", "itertools.zip_longest", "itertools.pairwise"].contains n&&vs[0]?==some (rawInt _))=true then _ else _) Q E s
       rw[ZI (by intro h;rw[hn,YH]at h;cases h)]
       exact ZP hQ))
def Itl(K:Fg)(a:Addr):It:=
 ⟨λi H=>∃ xs x,SqL K H a xs/\xs[i]? = some x,λi H x H'=>H'=H /\ ∀ xs,SqL K H a xs->xs[i]? = some x,λi H=>∃ xs,SqL K H a xs/\xs.length<=i⟩
noncomputable def Itt(K:Fg)(a:Addr):It:=
 ⟨λi H=>∃ xs x,SqT K H a xs/\xs[i]? = some x,λi H x H'=>H'=H /\ ∀ xs,SqT K H a xs->xs[i]? = some x,λi H=>∃ xs,SqT K H a xs/\xs.length<=i⟩
noncomputable def Itr(lo:Int)(n:Nat):It:=⟨λi _=>i<n,λi H x H'=>H'=H/\x = .int (lo+i),λi _=>n<=i⟩
def q669{P:Program}{w:World}{K:Fg}{tg:Expr}(a it:Addr):Turn P w K tg (Itl K a) [it] it (λi h=>h.IsListIter it a i) where
 mem:=by simp
 obj:=λi h st b hb=>by
  have e:b=it:=by simpa using hb
  subst e
  obtain⟨o,e,c,d⟩:=st
  exact⟨o,e,λv z=>by rw[d]at z;cases z⟩
 keep:=λi h h' st k=>st.at λo e=>k it (by simp) o e
 item:=by
  intro X hP hw hK hc i pins s σ H E I hf st hg
  subst hP hw hK
  obtain⟨xs,x,hq,hx⟩:=hg
  obtain⟨its,rv,p,hz⟩:=I.list hq
  obtain⟨u,hu,ru⟩:=rv.get hx
  obtain⟨f0,f1,f2,f3,f4,f5⟩:=hf it (by simp)
  refine wpAny_pyNext_list_item st p.isList (x:=u) (by simpa using hu) λh' st' sb=>?_
  have I1:Inv X pins σ H { s with heap:=h' }:=I.turned (t':=s.toks) (λb o hb e=>(sb.2 b hb).trans e) f0 f1 f3 f4 f5
  obtain⟨o,e,c,d⟩:=id st'
  exact⟨u,rfl,go_of (s:={ s with heap:=h' }) e c d ∅ ⟨x,H,I1,ru,⟨rfl,λys hy=>by rw[I.list_inj hy hq];exact hx⟩,st',λb hb=>(hf b hb).1⟩⟩
 done:=by
  intro X hP hw hK hc i pins s σ H E I hf st hg
  subst hP hw hK
  obtain⟨xs,hq,hx⟩:=hg
  obtain⟨its,rv,p,hz⟩:=I.list hq
  obtain⟨f0,f1,f2,f3,f4,f5⟩:=hf it (by simp)
  have hl:=rv.length
  exact wpAny_pyNext_list_end (I.ok.hd hc) st p.isList (by simp;lia) λh' eb=>⟨rfl,I.turned (t':=s.toks) (λb o hb e=>eb b o hb e) f0 f1 f3 f4 f5⟩
 self:=λ_ _ _ _ _ st h=>wpAny_pyIter_listiter st h
def q616{P:Program}{w:World}{K:Fg}{tg:Expr}(a it:Addr):Turn P w K tg (Itt K a) [it] it (λi h=>h.IsTupleIter it a i) where
 mem:=by simp
 obj:=λi h st b hb=>by
  have e:b=it:=by simpa using hb
  subst e
  obtain⟨o,e,c,d⟩:=st
  exact⟨o,e,λv z=>by rw[d]at z;cases z⟩
 keep:=λi h h' st k=>st.at λo e=>k it (by simp) o e
 item:=by
  intro X hP hw hK hc i pins s σ H E I hf st hg
  subst hP hw hK
  obtain⟨xs,x,hq,hx⟩:=hg
  obtain⟨its,rv,p,hz⟩:=I.tuple hq
  obtain⟨u,hu,ru⟩:=rv.get hx
  obtain⟨f0,f1,f2,f3,f4,f5⟩:=hf it (by simp)
  refine wpAny_pyNext_tuple_item st (show s.heap.IsTuple a its.toArray from p) (x:=u) (by simpa using hu) λh' st' sb=>?_
  have I1:Inv X pins σ H { s with heap:=h' }:=I.turned (t':=s.toks) (λb o hb e=>(sb.2 b hb).trans e) f0 f1 f3 f4 f5
  obtain⟨o,e,c,d⟩:=id st'
  exact⟨u,rfl,go_of (s:={ s with heap:=h' }) e c d ∅ ⟨x,H,I1,ru,⟨rfl,λys hy=>by rw[I.tuple_inj hy hq];exact hx⟩,st',λb hb=>(hf b hb).1⟩⟩
 done:=by
  intro X hP hw hK hc i pins s σ H E I hf st hg
  subst hP hw hK
  obtain⟨xs,hq,hx⟩:=hg
  obtain⟨its,rv,p,hz⟩:=I.tuple hq
  obtain⟨f0,f1,f2,f3,f4,f5⟩:=hf it (by simp)
  have hl:=rv.length
  exact wpAny_pyNext_tuple_end (I.ok.hd hc) st (show s.heap.IsTuple a its.toArray from p) (by simp;lia) λh' eb=>⟨rfl,I.turned (t':=s.toks) (λb o hb e=>eb b o hb e) f0 f1 f3 f4 f5⟩
 self:=λ_ _ _ _ _ st h=>wpAny_pyIter_tupleiter st h
def q617{P:Program}{w:World}{K:Fg}{tg:Expr}(it:Addr)(lo:Int)(n:Nat):Turn P w K tg (Itr lo n) [it] it (λi h=>IsRangeIter h it (lo+(i:Nat)*1) ((n:Int)-(i:Nat)) 1) where
 mem:=by simp
 obj:=λi h st b hb=>by
  have e:b=it:=by simpa using hb
  subst e
  exact⟨_,st,λv z=>by
   have z':Data.fields _=Data.cell v:=z
   cases z'⟩
 keep:=λi h h' st k=>k it (by simp) _ st
 item:=by
  intro X hP hw hK hc i pins s σ H E I hf st hg
  subst hP hw hK
  obtain⟨f0,f1,f2,f3,f4,f5⟩:=hf it (by simp)
  have W:=Walks.range (prog:=X.prog) (w:=X.w) (I.ok.hd hc) it lo 1 n
  refine W.item i s _ _ hg st λv h' tk hv st' kk=>?_
  obtain⟨t,rfl⟩:=hv
  have I1:Inv X pins σ H { s with heap:=h',toks:=tk }:=I.turned (λb o hb e=>kk b o (by simpa using hb) e) f0 f1 f3 f4 f5
  refine⟨_,rfl,go_of (s:={ s with heap:=h',toks:=tk }) (n := "range_iterator") st' rfl rfl ∅ ⟨.int (lo+i),H,I1,⟨t,?_⟩,⟨rfl,rfl⟩,st',λb hb=>(hf b hb).1⟩⟩
  rw[Int.mul_one]
 done:=by
  intro X hP hw hK hc i pins s σ H E I hf st hg
  subst hP hw hK
  obtain⟨f0,f1,f2,f3,f4,f5⟩:=hf it (by simp)
  exact wpAny_pyNext_range_end (I.ok.hd hc) st (by have:n<=i:=hg;lia) λh' eb=>⟨rfl,I.turned (t':=s.toks) (λb o hb e=>eb b o hb e) f0 f1 f3 f4 f5⟩
 self:=λ_ _ _ _ _ st h=>wpAny_pyIter_rangeiter st h
section
variable {tg:Expr}
inductive jList(K:Fg)(x:V)(H:Hp)(R:It->Hp->Prop):Prop
 |mk(a:Addr)(_:x = .ref a)(_:∃ xs,SqL K H a xs)(_:R (Itl K a) H)
def iList(K:Fg)(tl:TE):TI:=λσ H R=>tl σ H λx H1=>jList K x H1 R
inductive jTup(K:Fg)(x:V)(H:Hp)(R:It->Hp->Prop):Prop
 |mk(a:Addr)(_:x = .ref a)(_:∃ xs,SqT K H a xs)(_:R (Itt K a) H)
def iTup(K:Fg)(tl:TE):TI:=λσ H R=>tl σ H λx H1=>jTup K x H1 R
def q34{l:Expr}{tl:TE}(hl:PE X l tl):PI X tg l (iList X.K tl):=by
 intro pins s σ H R I h
 refine thn (hl pins s σ H _ I h) λv s1 ⟨x,H1,I1,r1,q1⟩=>?_
 obtain⟨a,e,⟨xs,hq⟩,q⟩:=q1
 subst e
 cases r1
 obtain⟨its,rv,p,hz⟩:=I1.list hq
 refine wpAny_pyIter_list p.isList ?_
 refine⟨s1.heap.objs.size,[s1.heap.objs.size],_,_,H1,rfl,I1.kept (t':=s1.toks) λb o e=>ZH _ e,q669 a _,⟨_,ZV _ rfl,rfl,rfl⟩,λb hb=>?_,q⟩
 have e:b=s1.heap.objs.size:=by simpa using hb
 subst e
 exact I1.fpOk (ZG _) (I1.hok.fresh (ZG _))
def q557{l:Expr}{tl:TE}(hl:PE X l tl):PI X tg l (iTup X.K tl):=by
 intro pins s σ H R I h
 refine thn (hl pins s σ H _ I h) λv s1 ⟨x,H1,I1,r1,q1⟩=>?_
 obtain⟨a,e,⟨xs,hq⟩,q⟩:=q1
 subst e
 cases r1
 obtain⟨its,rv,p,hz⟩:=I1.tuple hq
 refine wpAny_pyIter_tuple (show s1.heap.IsTuple a its.toArray from p) ?_
 refine⟨s1.heap.objs.size,[s1.heap.objs.size],_,_,H1,rfl,I1.kept (t':=s1.toks) λb o e=>ZH _ e,q616 a _,⟨_,ZV _ rfl,rfl,rfl⟩,λb hb=>?_,q⟩
 have e:b=s1.heap.objs.size:=by simpa using hb
 subst e
 exact I1.fpOk (ZG _) (I1.hok.fresh (ZG _))
def range_it{s:Shared}{lo hi:Int}{t u v:Tok}{tk:Nat}(I:Inv X pins σ H s)(h1:-(2^62)<=lo)(h2:lo<2^62)(h3:-(2^62)<=hi)(h4:hi<2^62)
  (q:R (Itr lo (hi-lo).toNat) H):wpAny (model X.prog X.w) X.A (pyIter (.ref s.heap.objs.size)) (PIE X pins σ tg R) E { s with heap:=s.heap.push { cls:=.type "range", data:=.fields #[.int lo t,.int hi u,.int 1 v] },toks:=tk }:=by
 refine wpAny_pyIter_range (IsRange.new ..) (small_one h1 h2 h3 h4) ?_
 have I1:Inv X pins σ H { s with heap:=s.heap.push { cls:=.type "range", data:=.fields #[.int lo t,.int hi u,.int 1 v] },toks:=tk }:=I.kept λb o e=>ZH _ e
 refine⟨(s.heap.push { cls:=.type "range", data:=.fields #[.int lo t,.int hi u,.int 1 v] }).objs.size,[(s.heap.push { cls:=.type "range", data:=.fields #[.int lo t,.int hi u,.int 1 v] }).objs.size],_,_,H,rfl,
  I1.kept (t':=tk) λb o e=>ZH _ e,q617 _ lo (hi-lo).toNat,?_,λb hb=>?_,q⟩
 ·have e1:lo+((0:Nat):Int)*1=lo:=by simp
  have e2:(((hi-lo).toNat:Nat):Int)-((0:Nat):Int)=Builtin.Range.rangeSize lo hi 1:=by rw[rangeSize_one];split <;> lia
  show IsRangeIter _ _ (lo+((0:Nat):Int)*1) ((((hi-lo).toNat:Nat):Int)-((0:Nat):Int)) 1
  rw[e1,e2]
  exact ZV _ rfl
 ·have e:b=(s.heap.push { cls:=.type "range", data:=.fields #[.int lo t,.int hi u,.int 1 v] }).objs.size:=by simpa using hb
  subst e
  exact I1.fpOk (ZG _) (I1.hok.fresh (ZG _))
inductive jRng1(vs:List V)(H:Hp)(R:It->Hp->Prop):Prop
 |mk(j:Int)(_:vs=[.int j])(_:-(2^62)<=j)(_:j<2^62)(_:R (Itr 0 j.toNat) H)
def iRng1(ta:TA):TI:=λσ H R=>ta σ H λvs H1=>jRng1 vs H1 R
def q41{p pos:Pos}(hg:Gl X "range") (hm:X.mg "range" = none) (ha:PA X [a] ta) (hs:starEach [a] X.env=[(false,eval a X.env)]:=by rfl):PI X tg (.Call (.Name "range" p) [a] [] pos) (iRng1 ta):=by
 intro pins s σ H R I h
 refine Call_ (q449 I hg hm boot_range (PyProof.Rows.callWith_type1 (thn (ha pos pins s σ H _ I h) λus s1 ⟨vs,H1,I1,r1,q1⟩=>?_) hs rfl))
 obtain⟨j,e,q1,q2,q⟩:=q1
 subst e
 cases r1 with
 | cons r rr=>
  cases rr
  obtain⟨t,rfl⟩:=r
  exact call_range_1 (range_it I1 {} {} q1 q2 (by simpa using q))
noncomputable def tFor(wi:TI)(g:TG)(tb:TS):TS:=λD σ H=>wi σ H λJ H1=>∃ W:Nat->Nat->St->Hp->Prop,(∃ m,W 0 m σ H1) /\ ∀ i m σ H,W i m σ H ->
 (J.stop i H/\D.nx σ H)\/(J.go i H /\ ∃ N:St->Hp->Prop,(∀ σ' H',N σ' H' -> ∃ m',m'<m/\W (i+1) m' σ' H') /\ ∀ x H',J.yld i H x H'->g x σ H' λσ2 H2=>tb { D with nx:=N,ct:=N,bk:=D.nx } σ2 H2)
noncomputable def q558(fp:List Addr)(h:Heap):List (Addr×Obj):=fp.filterMap λb=>(h.get? b).map λo=>(b,o)
def q99{h:Heap}(hb:b∈fp)(e:h.get? b=some o):(b,o)∈q558 fp h:=List.mem_filterMap.mpr ⟨b,hb,by rw[e];rfl⟩
def q670{h:Heap}{p:Addr×Obj}(hp:p∈q558 fp h):p.1∈fp/\h.get? p.1=some p.2:=by
 obtain⟨b,hb,e⟩:=List.mem_filterMap.mp hp
 cases q:h.get? b with
 | none=>rw[q]at e;cases e
 | some o=>
  rw[q]at e
  have e':(b,o)=p:=Option.some.inj e
  subst e'
  exact⟨hb,q⟩
def Inv.pinned{s:Shared}(I:Inv X pins σ H s)(hf:∀ b∈fp,FpOk X pins H b)(ho:∀ b∈fp,∃ o,s.heap.get? b=some o /\ ∀ v,o.data ≠ .cell v):Inv X (pins++q558 fp s.heap) σ H s:=
 I.pins_of λp hp=>(eC hp).elim (λz=>I.pin p (YC _ z)) λz=>by
  obtain⟨hb,e⟩:=q670 z
  obtain⟨f0,f1,f2,_⟩:=hf p.1 hb
  obtain⟨o,e',d⟩:=ho p.1 hb
  rw[e]at e';cases e'
  exact⟨e,f0,f1,f2,d⟩
def Inv.unpinned(I:Inv X (pins++pl) σ H s):Inv X pins σ H s:=I.pins_of λp hp=>I.pin p (YC _ (mem_append_left _ hp))
def q61{pos:Pos}(hp:PassesOwn (model X.prog X.w) X.A X.env X.xe)(hc:X.calm=true)(hi:PI X tg itr wi)(hg:PG X tg g)(hb:PSs X body tb)
  (hs:∀ x,foldedSetIterable itr X.env x=pure x:=by intro _;rfl):PS X (.For tg itr body [] pos) (tFor wi g tb):=by
 intro pins s σ H D I h
 refine wpAny_For (thn (hi pins s σ H _ I h) λv s1 h1=>thn h1 λitv s2 h2=>?_) hs
 obtain⟨it,fp,tn,J,H2,e,I2,T,st2,f2,W,⟨m0,w0⟩,turn⟩:=h2
 subst e
 have stat:∀{H':Hp},(∀ b∈fp,H' b=none) -> ∀ b∈fp,FpOk X pins H' b:=λhn b hb=>⟨hn b hb,(f2 b hb).2⟩
 refine codeAny_forLoop_any (λn s'=>∃ i σ' H',Inv X pins σ' H' s'/\tn i s'.heap/\(∀ b∈fp,H' b=none)/\W i n σ' H') ?_ m0 ⟨0,σ,H2,I2,st2,λb hb=>(f2 b hb).1,w0⟩
 rintro n s3 ⟨i,σ3,H3,I3,st3,fr3,w3⟩
 rcases turn i n σ3 H3 w3 with ⟨stop,qn⟩ | ⟨go,N,hN,step⟩
 ·refine wpAny_passesOwn hp (thn (T.done X rfl rfl rfl hc i pins s3 σ3 H3 X.xe I3 (stat fr3) st3 stop) λr s4 ⟨hr,I4⟩=>?_)
  subst hr
  exact wpAny_execs_nil ⟨σ3,H3,I4,qn⟩
 ·refine wpAny_passesOwn hp (thn (T.item X rfl rfl rfl hc i pins s3 σ3 H3 X.xe I3 (stat fr3) st3 go) λr s4 ⟨u,hr,h4⟩=>?_)
  subst hr
  refine wpAny_passesOwn hp (thn h4 λ_ s5 ⟨x,H5,I5,r5,y5,st5,fr5⟩=>?_)
  have I5':=I5.pinned (stat fr5) (T.obj _ _ st5)
  refine wpAny_passesOwn hp (thn (hg _ s5 σ3 H5 x u _ I5' r5 (step x H5 y5)) λ_ s6 ⟨σ6,H6,I6,q6⟩=>?_)
  refine wpAny_passesOwn hp (thn (hb _ s6 σ6 H6 _ I6 q6) λf s7 q7=>?_)
  have again:∀{σ7:St}{H7:Hp},Inv X (pins++q558 fp s5.heap) σ7 H7 s7->N σ7 H7 -> ∃ m,m<n /\ ∃ i σ' H',Inv X pins σ' H' s7/\tn i s7.heap/\(∀ b∈fp,H' b=none)/\W i m σ' H':=fun {σ7 H7} I7 n7=>by
   obtain⟨m',hm,w7⟩:=hN σ7 H7 n7
   refine⟨m',hm,i+1,σ7,H7,I7.unpinned,T.keep _ _ _ st5 λb hb o e=>(I7.pin (b,o) (YC _ (YC _ (q99 hb e)))).1,λb hb=>?_,w7⟩
   obtain⟨o,e,d⟩:=T.obj _ _ st5 b hb
   exact(I7.pin (b,o) (YC _ (YC _ (q99 hb e)))).2.1
  cases f with
  | next=>obtain⟨σ7,H7,I7,n7⟩:=q7;exact again I7 n7
  | cont=>obtain⟨σ7,H7,I7,n7⟩:=q7;exact again I7 n7
  | brk=>obtain⟨σ7,H7,I7,q7⟩:=q7;exact⟨σ7,H7,I7.unpinned,q7⟩
  | ret v=>obtain⟨x7,σ7,H7,I7,r7,q7⟩:=q7;exact⟨x7,σ7,H7,I7.unpinned,r7,q7⟩
end
def q95{K:Fg}{a:Addr}{xs:List V}{g:TG}{tb:TS}{D:Ends}{σ:St}{H:Hp}(Pv:Nat->St->Hp->Prop)(h0:Pv 0 σ H)(hl:∀ i σ H,i<=xs.length->Pv i σ H->SqL K H a xs)
  (hs:∀ i x σ H,xs[i]? = some x->Pv i σ H->g x σ H λσ2 H2=>tb { D with nx:=Pv (i+1),ct:=Pv (i+1),bk:=D.nx } σ2 H2) (hd:∀ σ H,Pv xs.length σ H->D.nx σ H) :
  ∃ W:Nat->Nat->St->Hp->Prop,(∃ m,W 0 m σ H) /\ ∀ i m σ H,W i m σ H ->
   ((Itl K a).stop i H/\D.nx σ H)\/((Itl K a).go i H /\ ∃ N:St->Hp->Prop,(∀ σ' H',N σ' H' -> ∃ m',m'<m/\W (i+1) m' σ' H') /\ ∀ x H',(Itl K a).yld i H x H'->g x σ H' λσ2 H2=>tb { D with nx:=N,ct:=N,bk:=D.nx } σ2 H2):=by
 exists λi m σ H=>m=xs.length-i/\i<=xs.length/\Pv i σ H,⟨xs.length,by simp,WA _,h0⟩
 rintro i m σ H ⟨rfl,hi,p⟩
 have q:=hl i σ H hi p
 by_cases hlt:i<xs.length
 ·refine .inr ⟨⟨xs,xs[i],q,by simp[hlt]⟩,Pv (i+1),λσ' H' p'=>⟨xs.length-(i+1),(W1 hlt),rfl,hlt,p'⟩,λx H' y=>?_⟩
  obtain⟨e,y⟩:=y
  subst e
  exact hs i x σ _ (y xs q) p
 ·have e:i=xs.length:=(W41 hi hlt)
  subst e
  exact .inl ⟨⟨xs,q,ZG _⟩,hd σ H p⟩
def q408{K:Fg}{a:Addr}{xs:List V}{g:TG}{tb:TS}{D:Ends}{σ:St}{H:Hp}(Pv:Nat->St->Hp->Prop)(h0:Pv 0 σ H)(hl:∀ i σ H,i<=xs.length->Pv i σ H->SqT K H a xs)
  (hs:∀ i x σ H,xs[i]? = some x->Pv i σ H->g x σ H λσ2 H2=>tb { D with nx:=Pv (i+1),ct:=Pv (i+1),bk:=D.nx } σ2 H2) (hd:∀ σ H,Pv xs.length σ H->D.nx σ H) :
  ∃ W:Nat->Nat->St->Hp->Prop,(∃ m,W 0 m σ H) /\ ∀ i m σ H,W i m σ H ->
   ((Itt K a).stop i H/\D.nx σ H)\/((Itt K a).go i H /\ ∃ N:St->Hp->Prop,(∀ σ' H',N σ' H' -> ∃ m',m'<m/\W (i+1) m' σ' H') /\ ∀ x H',(Itt K a).yld i H x H'->g x σ H' λσ2 H2=>tb { D with nx:=N,ct:=N,bk:=D.nx } σ2 H2):=by
 exists λi m σ H=>m=xs.length-i/\i<=xs.length/\Pv i σ H,⟨xs.length,by simp,WA _,h0⟩
 rintro i m σ H ⟨rfl,hi,p⟩
 have q:=hl i σ H hi p
 by_cases hlt:i<xs.length
 ·refine .inr ⟨⟨xs,xs[i],q,by simp[hlt]⟩,Pv (i+1),λσ' H' p'=>⟨xs.length-(i+1),{},rfl,hlt,p'⟩,λx H' y=>?_⟩
  obtain⟨e,y⟩:=y
  subst e
  exact hs i x σ _ (y xs q) p
 ·have e:i=xs.length:={}
  subst e
  exact .inl ⟨⟨xs,q,ZG _⟩,hd σ H p⟩
def q106{lo:Int}{n:Nat}{g:TG}{tb:TS}{D:Ends}{σ:St}{H:Hp}(Pv:Nat->St->Hp->Prop)(h0:Pv 0 σ H)
  (hs:∀ i σ H,i<n->Pv i σ H->g (.int (lo+i)) σ H λσ2 H2=>tb { D with nx:=Pv (i+1),ct:=Pv (i+1),bk:=D.nx } σ2 H2) (hd:∀ σ H,Pv n σ H->D.nx σ H) :
  ∃ W:Nat->Nat->St->Hp->Prop,(∃ m,W 0 m σ H) /\ ∀ i m σ H,W i m σ H ->
   ((Itr lo n).stop i H/\D.nx σ H)\/((Itr lo n).go i H /\ ∃ N:St->Hp->Prop,(∀ σ' H',N σ' H' -> ∃ m',m'<m/\W (i+1) m' σ' H') /\ ∀ x H',(Itr lo n).yld i H x H'->g x σ H' λσ2 H2=>tb { D with nx:=N,ct:=N,bk:=D.nx } σ2 H2):=by
 exists λi m σ H=>m=n-i/\i<=n/\Pv i σ H,⟨n,by simp,WA _,h0⟩
 rintro i m σ H ⟨rfl,hi,p⟩
 by_cases hlt:i<n
 ·refine .inr ⟨hlt,Pv (i+1),λσ' H' p'=>⟨n-(i+1),(W1 hlt),rfl,hlt,p'⟩,λx H' y=>?_⟩
  obtain⟨e,y⟩:=y
  subst e y
  exact hs i σ _ hlt p
 ·have e:i=n:=(W41 hi hlt)
  subst e
  exact .inl ⟨ZG _,hd σ H p⟩
theorem while_by(Pv:St->Hp->Prop)(μ:St->Hp->Nat)(h0:Pv σ H)
  (hs:∀ σ H,Pv σ H->c σ H λb H1=>if b=true then tb { D with nx:=λσ' H'=>Pv σ' H'/\μ σ' H'<μ σ H,ct:=λσ' H'=>Pv σ' H'/\μ σ' H'<μ σ H,bk:=D.nx } σ H1 else D.nx σ H1)
  (mono:∀ σ H Q Q',(∀ b H1,Q b H1->Q' b H1)->c σ H Q->c σ H Q'):tWhile c tb D σ H:=by
 exists λm σ H=>m=μ σ H/\Pv σ H,⟨_,rfl,h0⟩
 rintro m σ H ⟨rfl,p⟩
 refine mono σ H _ _ (λb H1 q=>?_) (hs σ H p)
 cases b with
 | true=>exact⟨_,λσ' H' ⟨p',l⟩=>⟨_,l,rfl,p'⟩,q⟩
 | false=>exact q
abbrev R2:=V->V->Hp->VK->Prop
def OpR(X:Cx)(f:Value->Value->Sem Value)(r:R2):Prop:=
 ∀(pins:List (Addr×Obj)) (s:Shared) (σ:St) (H:Hp) (x y:V) (v u:Value) (Q:VK),Inv X pins σ H s->RelV x v->RelV y u->r x y H Q ->
  wpAny (model X.prog X.w) X.A (f v u) (EP X pins σ Q) X.xe s
def UnR(X:Cx)(f:Value->Sem Value)(r:V->Hp->VK->Prop):Prop:=
 ∀(pins:List (Addr×Obj)) (s:Shared) (σ:St) (H:Hp) (x:V) (v:Value) (Q:VK),Inv X pins σ H s->RelV x v->r x H Q ->
  wpAny (model X.prog X.w) X.A (f v) (EP X pins σ Q) X.xe s
def CallR(X:Cx)(f:Value)(r:List V->Hp->VK->Prop):Prop:=
 ∀(pins:List (Addr×Obj)) (s:Shared) (σ:St) (H:Hp) (xs:List V) (us:List Value) (Q:VK),Inv X pins σ H s->Vals xs us->r xs H Q ->
  wpAny (model X.prog X.w) X.A (call f us) (EP X pins σ Q) X.xe s
def tOp(r:R2)(ta tb:TE):TE:=λσ H Q=>ta σ H λx H1=>tb σ H1 λy H2=>r x y H2 Q
def tUn(r:V->Hp->VK->Prop)(ta:TE):TE:=λσ H Q=>ta σ H λx H1=>r x H1 Q
inductive rI(C:Int->Int->Prop)(g:Int->Int->V)(x y:V)(H:Hp)(Q:VK):Prop
 |mk(i j:Int)(_:x = .int i)(_:y = .int j)(_:C i j)(_:Q (g i j) H)
inductive rI0(g:Int->Int->V)(x y:V)(H:Hp)(Q:VK):Prop
 |mk(i j:Int)(_:x = .int i)(_:y = .int j)(_:Q (g i j) H)
inductive rU(g:Int->V)(x:V)(H:Hp)(Q:VK):Prop
 |mk(i)(_:x = .int i)(_:Q (g i) H)
section
variable{a b c:Expr}{ta tb tc:TE}{pos:Pos}
def binT(ha:PE X a ta)(hb:PE X b tb){pins:List (Addr×Obj)}{s:Shared}{σ:St}{H:Hp}{R:V->V->Hp->Prop}(I:Inv X pins σ H s)
  (h:ta σ H λx H1=>tb σ H1 λy H2=>R x y H2) {Q:VS} {f:Value->Value->Sem Value}
  (hf:∀ v u s2 x y H2,Inv X pins σ H2 s2->RelV x v->RelV y u->R x y H2->wpAny (model X.prog X.w) X.A (f v u) Q X.xe s2) :
  wpAny (model X.prog X.w) X.A (eval a X.env) (λv s₁=>wpAny (model X.prog X.w) X.A (eval b X.env) (λu s₂=>wpAny (model X.prog X.w) X.A (f v u) Q X.xe s₂) X.xe s₁) X.xe s:=by
 refine thn (ha pins s σ H _ I h) λv s1 ⟨x,H1,I1,r1,q1⟩=>?_
 refine thn (hb pins s1 σ H1 _ I1 q1) λu s2 ⟨y,H2,I2,r2,q2⟩=>?_
 exact hf v u s2 x y H2 I2 r1 r2 q2
def pe_op{op:Operator}{r:R2}(ho:OpR X (binaryOp op) r)(ha:PE X a ta)(hb:PE X b tb):PE X (.BinOp a op b pos) (tOp r ta tb):=by
 intro pins s σ H Q I h
 exact wpAny_BinOp (binT ha hb I h λv u s2 x y H2 I2 rx ry q=>ho pins s2 σ H2 x y v u Q I2 rx ry q)
def pe_un(ho:UnR X (unaryOp op) r)(ha:PE X a ta):PE X (.UnaryOp op a pos) (tUn r ta):=by
 intro pins s σ H Q I h
 exact UnaryOp_ (thn (ha pins s σ H _ I h) λv s1 ⟨x,H1,I1,r1,q1⟩=>ho pins s1 σ H1 x v Q I1 r1 q1)
def opI{f:Value->Value->Sem Value}{C:Int->Int->Prop}{g:Int->Int->Int}
  (rule:∀(i j:Int)(t u:Tok)(s:Shared)(Q:VS)(E:VS),C i j->Q (.int (g i j) s.toks) { s with toks:=s.toks+1 }->wpAny (model X.prog X.w) X.A (f (.int i t) (.int j u)) Q E s) :
  OpR X f (rI C λi j=>.int (g i j)):=by
 intro pins s σ H x y v u Q I rx ry h
 obtain⟨i,j,rfl,rfl,hc,q⟩:=h
 obtain⟨t,rfl⟩:=rx
 obtain⟨t',rfl⟩:=ry
 exact rule i j t t' s _ _ hc ⟨.int (g i j),H,I.tok _,⟨_,rfl⟩,q⟩
def opI0{f:Value->Value->Sem Value}{g:Int->Int->Int}
  (rule:∀(i j:Int)(t u:Tok)(s:Shared)(Q:VS)(E:VS),Q (.int (g i j) s.toks) { s with toks:=s.toks+1 }->wpAny (model X.prog X.w) X.A (f (.int i t) (.int j u)) Q E s) :
  OpR X f (rI0 λi j=>.int (g i j)):=by
 intro pins s σ H x y v u Q I rx ry h
 obtain⟨i,j,rfl,rfl,q⟩:=h
 obtain⟨t,rfl⟩:=rx
 obtain⟨t',rfl⟩:=ry
 exact rule i j t t' s _ _ ⟨.int (g i j),H,I.tok _,⟨_,rfl⟩,q⟩
def opB0{f:Value->Value->Sem Value}{g:Int->Int->Bool}
  (rule:∀(i j:Int)(t u:Tok)(s:Shared)(Q:VS)(E:VS),Q (.bool (g i j)) s->wpAny (model X.prog X.w) X.A (f (.int i t) (.int j u)) Q E s) :
  OpR X f (rI0 λi j=>.bl (g i j)):=by
 intro pins s σ H x y v u Q I rx ry h
 obtain⟨i,j,rfl,rfl,q⟩:=h
 obtain⟨t,rfl⟩:=rx
 obtain⟨t',rfl⟩:=ry
 exact rule i j t t' s _ _ ⟨.bl (g i j),H,I,rfl,q⟩
def CPow(i j:Int):Prop:=0<=j/\j<=1000000/\i.natAbs<2^64
def CMul(i j:Int):Prop:=(-(2^64)<i/\i<2^64)\/(-(2^64)<j/\j<2^64)
def CMul.ok{i j:Int}(h:CMul i j):IntMulOk i j:=by
 rcases h with ⟨h1,h2⟩ | ⟨h1,h2⟩
 ·exact .of_left (intBits_le_64 h1 h2)
 ·exact .of_right (intBits_le_64 h1 h2)
def q30:OpR X (binaryOp .Add) (rI0 λi j=>.int (i+j)):=opI0 λ_ _ _ _ _ _ _ q=>add_int q
def q74:OpR X (binaryOp .Sub) (rI0 λi j=>.int (i-j)):=opI0 λ_ _ _ _ _ _ _ q=>sub_int q
def q84:OpR X (binaryOp .Mult) (rI CMul λi j=>.int (i*j)):=opI λ_ _ _ _ _ _ _ hc q=>mul_int q hc.ok
def q134:OpR X (binaryOp .Mod) (rI (λ_ j=>0<j) λi j=>.int (i%j)):=opI λi j _ _ _ _ _ hc q=>by
 have h1:(0:Int)<j:=hc
 exact mod_int' (W186 hc) (by rw[Int.fmod_eq_emod_of_nonneg i {}];exact q)
def q451:OpR X (binaryOp .Pow) (rI CPow λi j=>.int (i^j.toNat)):=opI λ_ _ _ _ _ _ _ hc q=>pow_int_small hc.1 hc.2.1 hc.2.2 q
def q671:OpR X (binaryOp .LShift) (rI CPow λi j=>.int (i*2^j.toNat)):=opI λ_ _ _ _ _ _ _ hc q=>lshift_int_small hc.1 hc.2.1 hc.2.2 q
def unI{f:Value->Sem Value}{g:Int->Int}
  (rule:∀(i:Int)(t:Tok)(s:Shared)(Q:VS)(E:VS),Q (.int (g i) s.toks) { s with toks:=s.toks+1 }->wpAny (model X.prog X.w) X.A (f (.int i t)) Q E s) :
  UnR X f (rU λi=>.int (g i)):=by
 intro pins s σ H x v Q I rx h
 obtain⟨i,rfl,q⟩:=h
 obtain⟨t,rfl⟩:=rx
 exact rule i t s _ _ ⟨.int (g i),H,I.tok _,⟨_,rfl⟩,q⟩
def un_neg:UnR X (unaryOp .USub) (rU λi=>.int (-i)):=unI λ_ _ _ _ _ q=>neg_int q
end
noncomputable def scal:V->V->Bool
 | .non,.non=>true | .non,.int _=>true | .int _,.non=>true | .non,.bl _=>true | .bl _,.non=>true | .non,.str _=>true | .str _,.non=>true
 | .int _,.int _=>true | .bl _,.bl _=>true | .str _,.str _=>true | .byt _,.byt _=>true
 | .int _,.str _=>true | .str _,.int _=>true | .bl _,.str _=>true | .str _,.bl _=>true
 | _,_=>false
noncomputable def rEq:R2:=λx y H Q=>scal x y=true/\Q (.bl (decide (x=y))) H
noncomputable def rNe:R2:=λx y H Q=>scal x y=true/\Q (.bl (!decide (x=y))) H
def dec_int{i j:Int}:decide (V.int i=V.int j)=(i==j):=by
 rw[Bool.eq_iff_iff]
 simp
def dec_bl{i j:Bool}:decide (V.bl i=V.bl j)=(i==j):=by
 rw[Bool.eq_iff_iff]
 simp
def q672:decide (V.str i=V.str j)=(i==j):=by
 rw[Bool.eq_iff_iff]
 simp
def q673{i j:Array UInt8}:decide (V.byt i=V.byt j)=(i.toList==j.toList):=by
 rw[Bool.eq_iff_iff]
 cases i
 cases j
 simp
section
variable{a b c:Expr}{ta tb tc:TE}{pos:Pos}
def q37{k k':Bool}(I:Inv X pins σ H s)(q:Q (.bl k) H)(e:k=k'):EP X pins σ Q (.bool k') s:=by
 subst e
 exact⟨.bl k,H,I,rfl,q⟩
def op_eq:OpR X (compareOp .Eq) rEq:=by
 intro pins s σ H x y v u Q I rx ry h
 obtain⟨hs,q⟩:=h
 cases x with
 | non=>
  cases rx
  cases y with
  | non=>cases ry;exact PySem.EqNone.eq_none_none (q37 I q (by simp))
  | bl j=>cases ry;exact PySem.EqNone.eq_none_bool (q37 I q (by simp))
  | int j=>obtain⟨t',rfl⟩:=ry;exact PySem.EqNone.eq_none_int (q37 I q (by simp))
  | str j=>obtain⟨t',rfl⟩:=ry;exact PySem.EqNone.eq_none_str (q37 I q (by simp))
  | _=>exact absurd (show false=true from hs) fnt
 | bl i=>
  cases rx
  cases y with
  | non=>cases ry;exact PySem.EqNone.eq_bool_none (q37 I q (by simp))
  | bl j=>cases ry;exact eq_bool (q37 I q dec_bl)
  | str j=>obtain⟨t',rfl⟩:=ry;exact PySem.EqMixed.eq_bool_str (q37 I q (by simp))
  | _=>exact absurd (show false=true from hs) fnt
 | int i=>
  obtain⟨t,rfl⟩:=rx
  cases y with
  | non=>cases ry;exact PySem.EqNone.eq_int_none (q37 I q (by simp))
  | int j=>obtain⟨t',rfl⟩:=ry;exact eq_int (q37 I q dec_int)
  | str j=>obtain⟨t',rfl⟩:=ry;exact PySem.EqMixed.eq_int_str (q37 I q (by simp))
  | _=>exact absurd (show false=true from hs) fnt
 | str i=>
  obtain⟨t,rfl⟩:=rx
  cases y with
  | non=>cases ry;exact PySem.EqNone.eq_str_none (q37 I q (by simp))
  | bl j=>cases ry;exact PySem.EqMixed.eq_str_bool (q37 I q (by simp))
  | int j=>obtain⟨t',rfl⟩:=ry;exact PySem.EqMixed.eq_str_int (q37 I q (by simp))
  | str j=>obtain⟨t',rfl⟩:=ry;exact eq_str (q37 I q q672)
  | _=>exact absurd (show false=true from hs) fnt
 | byt i=>
  obtain⟨t,rfl⟩:=rx
  cases y with
  | byt j=>obtain⟨t',rfl⟩:=ry;exact PySem.W.eq_bytes (q37 I q q673)
  | _=>exact absurd (show false=true from hs) fnt
 | _=>cases y <;> exact absurd (show false=true from hs) fnt
def op_ne:OpR X (compareOp .NotEq) rNe:=by
 intro pins s σ H x y v u Q I rx ry h
 obtain⟨hs,q⟩:=h
 cases x with
 | non=>
  cases rx
  cases y with
  | non=>cases ry;exact PySem.EqNone.ne_none_none (q37 I q (by simp))
  | bl j=>cases ry;exact PySem.EqNone.ne_none_bool (q37 I q (by simp))
  | int j=>obtain⟨t',rfl⟩:=ry;exact PySem.EqNone.ne_none_int (q37 I q (by simp))
  | str j=>obtain⟨t',rfl⟩:=ry;exact PySem.EqNone.ne_none_str (q37 I q (by simp))
  | _=>exact absurd (show false=true from hs) fnt
 | bl i=>
  cases rx
  cases y with
  | non=>cases ry;exact PySem.EqNone.ne_bool_none (q37 I q (by simp))
  | bl j=>cases ry;exact ne_bool (q37 I q (congrArg not dec_bl))
  | str j=>obtain⟨t',rfl⟩:=ry;exact PySem.EqMixed.ne_bool_str (q37 I q (by simp))
  | _=>exact absurd (show false=true from hs) fnt
 | int i=>
  obtain⟨t,rfl⟩:=rx
  cases y with
  | non=>cases ry;exact PySem.EqNone.ne_int_none (q37 I q (by simp))
  | int j=>obtain⟨t',rfl⟩:=ry;exact ne_int (q37 I q (congrArg not dec_int))
  | str j=>obtain⟨t',rfl⟩:=ry;exact PySem.EqMixed.ne_int_str (q37 I q (by simp))
  | _=>exact absurd (show false=true from hs) fnt
 | str i=>
  obtain⟨t,rfl⟩:=rx
  cases y with
  | non=>cases ry;exact PySem.EqNone.ne_str_none (q37 I q (by simp))
  | bl j=>cases ry;exact PySem.EqMixed.ne_str_bool (q37 I q (by simp))
  | int j=>obtain⟨t',rfl⟩:=ry;exact PySem.EqMixed.ne_str_int (q37 I q (by simp))
  | str j=>obtain⟨t',rfl⟩:=ry;exact ne_str (q37 I q (congrArg not q672))
  | _=>exact absurd (show false=true from hs) fnt
 | byt i=>
  obtain⟨t,rfl⟩:=rx
  cases y with
  | byt j=>obtain⟨t',rfl⟩:=ry;exact PySem.W.ne_bytes (q37 I q (congrArg not q673))
  | _=>exact absurd (show false=true from hs) fnt
 | _=>cases y <;> exact absurd (show false=true from hs) fnt
def op_lt:OpR X (compareOp .Lt) (rI0 λi j=>.bl (decide (i<j))):=opB0 λ_ _ _ _ _ _ _ q=>lt_int q
def op_le:OpR X (compareOp .LtE) (rI0 λi j=>.bl (decide (i<=j))):=opB0 λ_ _ _ _ _ _ _ q=>le_int q
def op_gt:OpR X (compareOp .Gt) (rI0 λi j=>.bl (decide (j<i))):=opB0 λ_ _ _ _ _ _ _ q=>gt_int q
def op_ge:OpR X (compareOp .GtE) (rI0 λi j=>.bl (decide (j<=i))):=opB0 λ_ _ _ _ _ _ _ q=>ge_int q
def q261:OpR X (compareOp .Is) (λx y H Q=>y = .non/\Q (.bl (decide (x = .non))) H):=by
 intro pins s σ H x y v u Q I rx ry h
 obtain⟨rfl,q⟩:=h
 cases ry
 refine is_none_gen (q37 I q ?_)
 cases x <;> first
  | (cases rx;rfl)
  | (obtain⟨t,rfl⟩:=rx;rfl)
def op_notN:OpR X (compareOp .IsNot) (λx y H Q=>y = .non/\Q (.bl (!decide (x = .non))) H):=by
 intro pins s σ H x y v u Q I rx ry h
 obtain⟨rfl,q⟩:=h
 cases ry
 refine isnot_none_gen (q37 I q ?_)
 cases x <;> first
  | (cases rx;rfl)
  | (obtain⟨t,rfl⟩:=rx;rfl)
def q19(b:Expr)(h:op ≠ .In:=by decide)(h2:op ≠ .NotIn:=by decide):behindInMarks op b=false:=by
 have e1:(op==CmpOp.In)=false:=by cases op <;> first | rfl | exact absurd rfl h
 have e2:(op==CmpOp.NotIn)=false:=by cases op <;> first | rfl | exact absurd rfl h2
 cases b <;> simp[behindInMarks,e1,e2]
def q76{op:CmpOp}{r:R2}(ho:OpR X (compareOp op) r)(ha:PE X a ta)(hb:PE X b tb)(hm:behindInMarks op b=false):PE X (.Compare a [op] [b] pos) (tOp r ta tb):=by
 intro pins s σ H Q I h
 exact wpAny_Compare1 (binT ha hb I h λv u s2 x y H2 I2 rx ry q=>ho pins s2 σ H2 x y v u Q I2 rx ry q) hm
def tTest(t:TE):TT:=λσ H Q=>t σ H λx H'=>isB x H' Q
def q20(ho:OpR X (compareOp op) r)(ha:PE X a ta)(hb:PE X b tb)(hm:behindInMarks op b=false):PT X (.Compare a [op] [b] pos) (tTest (tOp r ta tb)):=by
 intro pins s σ H Q I h
 refine wpAny_isTrue_Compare1 (thn (ha pins s σ H _ I h) λv s1 ⟨x,H1,I1,r1,q1⟩=>thn (hb pins s1 σ H1 _ I1 q1) λu s2 ⟨y,H2,I2,r2,q2⟩=>
  thn (ho pins s2 σ H2 x y v u _ I2 r1 r2 q2) λc s3 ⟨z,H3,I3,r3,k,e,q3⟩=>?_) hm
 subst e
 cases r3
 exact wpAny_truthy_bool ⟨H3,I3,q3⟩
def tChain(r r':R2)(ta tb tc:TE):TE:=λσ H Q=>ta σ H λx H1=>tb σ H1 λy H2=>r x y H2 λz H3=>∃ k,z = .bl k /\
 (if k=true then tc σ H3 λw' H4=>r' y w' H4 Q else Q (.bl false) H3)
theorem q409(ho:OpR X (compareOp op) r)(ho':OpR X (compareOp op') r')(ha:PE X a ta)(hb:PE X b tb)(hc:PE X c tc)
  (hm:lastMarks [op,op'] [b,c]=false:=by with_unfolding_all rfl):PE X (.Compare a [op,op'] [b,c] pos) (tChain r r' ta tb tc):=by
 intro pins s σ H Q I h
 refine Compare_chain (thn (ha pins s σ H _ I h) λv s1 ⟨x,H1,I1,r1,q1⟩=>chain_link (thn (hb pins s1 σ H1 _ I1 q1) λu s2 ⟨y,H2,I2,r2,q2⟩=>
  thn (ho pins s2 σ H2 x y v u _ I2 r1 r2 q2) λd s3 ⟨z,H3,I3,r3,k,e,q3⟩=>?_)) hm
 subst e
 cases r3
 refine wpAny_truthy_bool ?_
 cases k with
 | false=>exact ite_ff ⟨.bl false,H3,I3,rfl,q3⟩
 | true=>exact ite_tt (chain_last (thn (hc pins s3 σ H3 _ I3 q3) λw' s4 ⟨z',H4,I4,r4,q4⟩=>ho' pins s4 σ H4 y z' u w' Q I4 r2 r4 q4))
theorem q559(ho:OpR X (compareOp op) r)(ho':OpR X (compareOp op') r')(ha:PE X a ta)(hb:PE X b tb)(hc:PE X c tc)
  (hm:lastMarks [op,op'] [b,c]=false:=by with_unfolding_all rfl):PT X (.Compare a [op,op'] [b,c] pos) (tTest (tChain r r' ta tb tc)):=by
 intro pins s σ H Q I h
 refine isTrue_chain (thn (ha pins s σ H _ I h) λv s1 ⟨x,H1,I1,r1,q1⟩=>test_link (thn (hb pins s1 σ H1 _ I1 q1) λu s2 ⟨y,H2,I2,r2,q2⟩=>
  thn (ho pins s2 σ H2 x y v u _ I2 r1 r2 q2) λd s3 ⟨z,H3,I3,r3,k,e,q3⟩=>?_)) hm
 subst e
 cases r3
 refine wpAny_truthy_bool ?_
 cases k with
 | false=>
  obtain⟨k',e',q'⟩:=q3
  cases e'
  exact ite_ff ⟨H3,I3,q'⟩
 | true=>
  refine ite_tt (test_last (thn (hc pins s3 σ H3 _ I3 q3) λw' s4 ⟨z',H4,I4,r4,q4⟩=>thn (ho' pins s4 σ H4 y z' u w' _ I4 r2 r4 q4) λd' s5 ⟨z2,H5,I5,r5,k2,e2,q5⟩=>?_))
  subst e2
  cases r5
  exact wpAny_truthy_bool ⟨H5,I5,q5⟩
def q560:(sizeLine:Nat)<2^63:=by rw[sizeLine_eq];decide
def vals1(r:Vals [x] us):∃ u,us=[u]/\RelV x u:=by
 cases r with
 | cons r1 r2=>cases r2;exact⟨_,rfl,r1⟩
def vals2(r:Vals [x,y] us):∃ u w',us=[u,w']/\RelV x u/\RelV y w':=by
 cases r with
 | cons r1 r2=>
  cases r2 with
  | cons r3 r4=>cases r4;exact⟨_,_,rfl,r1,r3⟩
inductive q618  (xs:List V) (H:Hp) (Q:VK):Prop
 |mk(i j)(_:xs=[.int i,.int j])(_:Q (.int (if j > i then j else i)) H)
def q674(hc:X.calm=true):CallR X (.builtin "max") q618:=by
 intro pins s σ H xs us Q I r h
 obtain⟨i,j,rfl,q⟩:=h
 obtain⟨u,w',rfl,⟨t,rfl⟩,⟨t',rfl⟩⟩:=vals2 r
 refine max_two_ints (I.ok.hd hc) λh' tk k=>⟨_,H,I.kept k,?_,q⟩
 by_cases hj:j > i
 ·rw[ZL hj,ZL hj];exact⟨_,rfl⟩
 ·rw[ZI hj,ZI hj];exact⟨_,rfl⟩
inductive q619  (xs:List V) (H:Hp) (Q:VK):Prop
 |mk(i j)(_:xs=[.int i,.int j])(_:Q (.int (if j<i then j else i)) H)
def q675(hc:X.calm=true):CallR X (.builtin "min") q619:=by
 intro pins s σ H xs us Q I r h
 obtain⟨i,j,rfl,q⟩:=h
 obtain⟨u,w',rfl,⟨t,rfl⟩,⟨t',rfl⟩⟩:=vals2 r
 refine min_two_ints (I.ok.hd hc) λh' tk k=>⟨_,H,I.kept k,?_,q⟩
 by_cases hj:j<i
 ·rw[ZL hj,ZL hj];exact⟨_,rfl⟩
 ·rw[ZI hj,ZI hj];exact⟨_,rfl⟩
end
structure ObjM(h:Heap)(x dx C:Addr)(mA:Mg):Prop where
 obj:h.get? x=some (PySem.W.instObj C dx)
 ns:h.Ns1 dx mA
 ne:dx≠x
def q676{h:Heap}(n:h.Ns1 dx mA):∃ od,h.get? dx=some od /\ ∀ name,PySem.W.lookIn name od=some (mA name):=by
 obtain⟨o,es,ep,ho,hd,hk,_,hm⟩:=n
 refine⟨o,ho,λname=>?_⟩
 have e:=hm name
 unfold nsFind findBy at e
 rw[<- Array.find?_toList]at e
 unfold PySem.W.lookIn
 rw[hd]
 dsimp only
 split
 ·rename_i y q
  rw[q]at e
  exact congrArg some e
 ·rename_i q
  rw[q]at e
  have a:es.toList.any (·.refKey)=false:=by
   rw[any_eq_false]
   intro y hy
   obtain⟨z,t,hkey⟩:=hk y (Array.mem_toList_iff.mp hy)
   simp[DictEntry.refKey,hkey]
  have a':¬ es.toList.any (·.refKey)=true:=by rw[a];exact fnt
  rw[ZI a']
  exact congrArg some e
def ObjM.look(I:ObjM h x dx C mA):∃ od,PySem.W.InstAt h x (PySem.W.instObj C dx) C (some od) /\ ∀ name,PySem.W.lookIn name od=some (mA name):=
 let ⟨od,ho,hl⟩:=q676 I.ns
 ⟨od,⟨I.obj,rfl,rfl,ho⟩,hl⟩
section
variable {P:Program}{w:World}{H H':Hp}{h h':Heap}{a C dx:Addr}{fs fs':List (Str×V)}
def ins_get(hok:HOk P w H h)(e:H a=some (.ins C dx fs)):∃ mA,ObjM h a dx C mA/\(∀ f,RelO (fs.lookup f) (mA f))/\PySem.Within mA (fs.map (·.1))/\fs.length<=1000/\H dx=some (.own a):=by
 obtain⟨d,z,ne,ob,mA,n,r,q⟩:=(show ObjOk P w H h a (.ins C dx fs)from hok a _ e)
 exact⟨mA,⟨ob,n,ne⟩,r,q,z,d⟩
end
structure Cls(K:Fg)(C:Addr):Prop where
 pg:PySem.W.plainGet K C Str.empty=true
 hd:PySem.W.hasDictIn K C=true
 po:PySem.W.plainOver K C=true
 sa:PySem.W.findIn K (.ref C) "__setattr__" = some (some (.builtin "object.__setattr__"))
def Cls.get{K:Fg}{C:Addr}(c:Cls K C)(f:Str):PySem.W.plainGet K C f=true:=c.pg
structure Con(K:Fg)(C:Addr)(f:Str)(v:V)(u:Value):Prop where
 at_:PySem.W.findIn K (.ref C) f=some (some u)
 rel:RelV v u
 get:PySem.W.specialIn K u "__get__" = some none
 cp:PySem.W.copiedNames.contains f=false
structure Meth(K:Fg)(C:Addr)(m:Str)(f:Addr):Prop where
 at_:PySem.W.findIn K (.ref C) m=some (some (.ref f))
 fn:PySem.W.isFn K (.ref f)=true
 kp:PySem.W.keepIn K (.ref f)=true
section
variable {pins:List (Addr×Obj)}{σ:St}{H:Hp}{s:Shared}{A:Around}{E:VS}{Q:VS}{c:Value}{b:Bool}
inductive TyOf(K:Fg)(H:Hp):V->Value->Prop where
 | non:TyOf K H .non (.type "NoneType")
 | bl (x:Bool):TyOf K H (.bl x) (.type "bool")
 | int (i:Int):TyOf K H (.int i) (.type "int")
 | str (x:Str):TyOf K H (.str x) (.type "str")
 | flt (x:UInt64):TyOf K H (.flt x) (.type "float")
 | lst {a:Addr} {xs:List V} (e:H a=some (.lst xs)):TyOf K H (.ref a) (.type "list")
 | frz {a:Addr} {o:Obj} {xs:List V} (e:H a=some (.frz o (.lst xs))):TyOf K H (.ref a) (.type "list")
 | tup {a:Addr} {xs:List V} (e:H a=some (.tup xs)):TyOf K H (.ref a) (.type "tuple")
 | dK {a:Addr} {kvs:List (Key×V)} (e:H a=some (.dK kvs)):TyOf K H (.ref a) (.type "dict")
 | dT {a:Addr} {kvs:List (List Key×V)} (e:H a=some (.dT kvs)):TyOf K H (.ref a) (.type "dict")
 | ins {a C dx:Addr} {fs:List (Str×V)} (e:H a=some (.ins C dx fs)) (cl:Cls K C) (ha:PySem.W.findIn K (.ref C) "__class__" = some (some (.builtin "object.__class__")))
   (hn:PySem.W.specialIn K (.builtin "object.__class__") "__get__" = some (some (.builtin "getset_descriptor.__get__"))) (htk:PySem.W.takesIn K (.builtin "object.__class__")=some true)
   (hm:PySem.W.mroIn K C (.type "object")=some true):TyOf K H (.ref a) (.ref C)
def q677(I:Inv X pins σ H s)(rx:RelV x u)(ty:TyOf X.K H x t)(e:PySem.W.kitOne X.K t c=some b)(h:∀ tk,Q (.bool b) { s with toks:=tk }) :
  wpAny (model X.prog X.w) A (call (.builtin "isinstance") [u,c]) Q E s:=by
 cases ty with
 | non=>cases(show u=Value.none from rx);exact PySem.W.kia_one PySem.W.kitx_none I.kIn True.intro e (λz=>nomatch z) h
 | bl y=>cases(show u=Value.bool y from rx);exact PySem.W.kia_one PySem.W.kitx_bool I.kIn True.intro e (λz=>nomatch z) h
 | int i=>obtain⟨t,q⟩:=(show ∃ t,u=Value.int i t from rx);cases q;exact PySem.W.kia_one PySem.W.kitx_int I.kIn True.intro e (λz=>nomatch z) h
 | str y=>obtain⟨t,q⟩:=(show ∃ t,u=Value.str y t from rx);cases q;exact PySem.W.kia_one PySem.W.kitx_str I.kIn True.intro e (λz=>nomatch z) h
 | flt y=>obtain⟨t,q⟩:=(show ∃ t,u=Value.float y t from rx);cases q;exact PySem.W.kia_one PySem.W.kitx_float I.kIn True.intro e (λz=>nomatch z) h
 | @lst a xs ea=>
  cases(show u=Value.ref a from rx)
  obtain⟨_,_,n,_,h1⟩:=(show ObjOk X.prog X.w H s.heap a (.lst xs)from I.hok a _ ea)
  exact PySem.W.kia_one PySem.W.kitx_list I.kIn ⟨_,h1,rfl⟩ e (λz=>nomatch z) h
 | @frz a ob xs ea=>
  cases(show u=Value.ref a from rx)
  obtain⟨_,_,_,n,_,h1⟩:=(show ObjOk X.prog X.w H s.heap a (.frz ob (.lst xs))from I.hok a _ ea)
  exact PySem.W.kia_one PySem.W.kitx_list I.kIn ⟨_,h1,rfl⟩ e (λz=>nomatch z) h
 | @tup a xs ea=>
  cases(show u=Value.ref a from rx)
  obtain⟨_,_,_,p⟩:=(show ObjOk X.prog X.w H s.heap a (.tup xs)from I.hok a _ ea)
  obtain⟨o,h1,h2,_⟩:=p
  exact PySem.W.kia_one PySem.W.kitx_tuple I.kIn ⟨o,h1,h2⟩ e (λz=>nomatch z) h
 | @dK a kvs ea=>
  cases(show u=Value.ref a from rx)
  obtain⟨_,_,vs,_,p⟩:=(show ObjOk X.prog X.w H s.heap a (.dK kvs)from I.hok a _ ea)
  obtain⟨o,es,ep,h1,h2,_⟩:=p
  exact PySem.W.kia_one PySem.W.kitx_dict I.kIn ⟨o,h1,h2.1⟩ e (λz=>nomatch z) h
 | @dT a kvs ea=>
  cases(show u=Value.ref a from rx)
  obtain⟨_,_,xs,_,o,es,ep,h1,h2,_⟩:=(show ObjOk X.prog X.w H s.heap a (.dT kvs)from I.hok a _ ea)
  exact PySem.W.kia_one PySem.W.kitx_dict I.kIn ⟨o,h1,h2.1⟩ e (λz=>nomatch z) h
 | @ins a C dx fs ea cl ha hn htk hm=>
  cases(show u=Value.ref a from rx)
  obtain⟨mA,O,_⟩:=ins_get I.hok ea
  obtain⟨od,J,_⟩:=O.look
  exact PySem.W.kia_one (PySem.W.kitx_own (cl.get _) cl.hd ha hn htk hm) I.kIn J e (λz=>nomatch z) h
end
structure Room(k:Nat)(A:Around):Prop where
 hd:A.handled=none
 dp:A.depth+3*k+5<recursionLimit
 un:A.units+16*k+200<cLine
def Room.mono{j k:Nat}(r:Room k A)(h:j<=k):Room j A:=⟨r.hd,by have:=r.dp;lia,by have:=r.un;lia⟩
def Room.deeper{k:Nat}{A:Around}(r:Room (k+1) A)(env:Env):Room k (A.deeper env):=
 ⟨r.hd,by have:=r.dp;show A.depth+1+3*k+5<_;lia,by have:=r.un;show A.units+3+16*k+200<_;lia⟩
def Room.depth{k:Nat}{A:Around}(r:Room k A):A.depth<recursionLimit:=by have:=r.dp;lia
def Room.units{k:Nat}{A:Around}(r:Room k A):A.units+64<cLine:=by have:=r.un;lia
def tNil:TA:=λ_ H Q=>Q [] H
def tCons(ta:TE)(tr:TA):TA:=λσ H Q=>ta σ H λx H1=>tr σ H1 λxs H2=>Q (x::xs) H2
section
variable {e:Expr}{es:List Expr}{te:TE}{t:TA}{pos:Pos}
def q11:PA X [] tNil:=λ_ _ _ _ H Q I h=>Calls.spliced_nil ⟨[],H,I,.nil,h⟩
def q10(ha:PE X e te)(hr:PA X es t)(hs:starEach (e::es) X.env=(false,eval e X.env)::starEach es X.env:=by rfl):PA X (e::es) (tCons te t):=by
 intro pos pins s σ H Q I h
 rw[hs]
 show wpAny _ _ (spliced ((false,eval e X.env)::backTo pos (starEach es X.env))) _ _ s
 refine Calls.spliced_cons (thn (ha pins s σ H _ I h) λu s1 ⟨x,H1,I1,r1,q1⟩=>?_)
 exact thn (hr pos pins s1 σ H1 _ I1 q1) λus s2 ⟨xs,H2,I2,r2,q2⟩=>⟨x::xs,H2,I2,.cons r1 r2,q2⟩
noncomputable def tTup(t:TA):TE:=λσ H Q=>t σ H λxs H1=>xs.length<=sizeLine /\ ∀ p,H1 p=none->Q (.ref p) (upd H1 p (.tup xs))
noncomputable def tLst(t:TA):TE:=λσ H Q=>t σ H λxs H1=>xs.length<=sizeLine /\ ∀ p,H1 p=none->Q (.ref p) (upd H1 p (.lst xs))
def q29{x1}(h:PA X es t):PE X (.Tuple es x1 pos) (tTup t):=by
 intro pins s σ H Q I hq
 refine wpAny_Tuple_spliced (thn (h pos pins s σ H _ I hq) λus s1 ⟨xs,H1,I1,r,z,q⟩=>⟨by rw[<- r.length];exact z,?_⟩)
 have hf:H1 s1.heap.objs.size=none:=I1.hok.fresh (ZG _)
 refine⟨.ref s1.heap.objs.size,upd H1 s1.heap.objs.size (.tup xs),I1.laid (t':=s1.toks) (λb u e=>ZH _ e) (ZG _) ?_,rfl,q _ hf⟩
 exact⟨z,us,r,⟨_,ZV _ rfl,rfl,_,rfl⟩⟩
def q32(h:PA X es t):PE X (.List es pos) (tLst t):=by
 intro pins s σ H Q I hq
 refine wpAny_List_spliced (thn (h pos pins s σ H _ I hq) λus s1 ⟨xs,H1,I1,r,z,q⟩=>⟨by rw[<- r.length];exact z,?_⟩)
 have hf:H1 s1.heap.objs.size=none:=I1.hok.fresh (ZG _)
 refine⟨.ref s1.heap.objs.size,upd H1 s1.heap.objs.size (.lst xs),I1.laid (t':=s1.toks) (λb u e=>ZH _ e) (ZG _) ?_,rfl,q _ hf⟩
 exact⟨z,us,0,r,ZV _ rfl⟩
end
abbrev Sp:=List V->Hp->VK->XK->Prop
abbrev CXT:=List Env->Hp->Shared->XK->VS
structure Env0(P:Program)(w:World)(K:Fg)(mg:Mg)(base:Heap)(A:Around)(outer:List Env)(s:Shared)(H:Hp):Prop where
 frames:A.frames=some outer
 mod:Mod K mg base
 bs:∀ b o,base.get? b=some o->s.heap.get? b=some o/\H b=none
 bsz:base.objs.size<=s.heap.objs.size
 funs:s.heap.FunFrames base outer
 frf:∀ b∈frs outer,H b=none
 hok:HOk P w H s.heap
 bare:AllBare s.gens
inductive CE(outer:List Env)(P:Program)(w:World)(H:Hp)(s:Shared)(Q:VK)(u:Value)(s':Shared):Prop
 |mk(v:V)(H':Hp)(_:s'.os=s.os)(_:AllBare s'.gens)(_:Un (frs outer) [] H H' s.heap s'.heap)(_:HOk P w H' s'.heap)(_:RelV v u)(_:Q v H')
noncomputable def CR(CX:CXT)(outer:List Env)(P:Program)(w:World)(H:Hp)(s:Shared)(Q:VK)(E:XK)(r:Result)(s':Shared):Prop:=
 match r with
 | .ok (.ret u)=>CE outer P w H s Q u s'
 | .ok _=>False
 | .error e=>CX outer H s E e s'
structure FnOk(P:Program)(w:World)(K:Fg)(mg:Mg)(base:Heap)(CX:CXT)(k:Nat)(f:Addr)(fd:FuncData)(ps:List Str)(sp:Sp):Prop where
 len:∀ vs H Q E,sp vs H Q E->vs.length=ps.length
 run:∀(A:Around)(outer:List Env)(s:Shared)(H:Hp)(args:Args)(us:List Value)(vs:List V)(Q:VK)(E:XK),Room k A->Env0 P w K mg base A outer s H->BindsTo s fd args (ps.zip us)->Vals vs us->sp vs H Q E ->
  codeAny (model P w) A (.call (.ref f) args) (CR CX outer P w H s Q E) s
def FnOk.mono{P:Program}{w:World}{K:Fg}{mg:Mg}{base:Heap}{CX:CXT}{j k:Nat}{f:Addr}{fd:FuncData}{ps:List Str}{sp:Sp}(F:FnOk P w K mg base CX j f fd ps sp)(h:j<=k) :
  FnOk P w K mg base CX k f fd ps sp:=⟨F.len,λA outer s H args us vs Q E hr=>F.run A outer s H args us vs Q E (hr.mono h)⟩
section
variable {pins:List (Addr×Obj)}{σ:St}{H:Hp}{s s':Shared}
def Inv.env0(I:Inv X pins σ H s):Env0 X.prog X.w X.K X.mg X.base X.A X.stack s H:=
 ⟨I.ok.frames,I.ok.mod,I.bs,ZO I.ok.bsz I.sz,I.stack,I.stkFree,I.hok,I.bare⟩
def Inv.after(I:Inv X pins σ H s)(h:CE X.stack X.prog X.w H s Q u s'):EP X pins σ Q u s':=by
 obtain⟨v,H',os,bare,un,hok,r,q⟩:=h
 obtain⟨hh,g,d,t,os'⟩:=s'
 obtain rfl:os'=s.os:=os
 exact⟨v,H',I.call (h':=hh) (g':=g) (d':=d) (t':=t) (ch:=[]) un hok bare (λb z=>absurd z (by simp)),r,q⟩
end
def tCall(sp:Sp)(dvs:List V)(E:XK)(t:TA):TE:=λσ H Q=>t σ H λvs H1=>sp (vs++dvs) H1 Q E
def Binds(K:Fg)(fd:FuncData)(ps:List Str)(ds:List Value):Prop:=
 ∀(s:Shared)(us:List Value),K.In s.heap->(us++ds).length=ps.length->BindsTo s fd ⟨us,[]⟩ (ps.zip (us++ds))
def Binds.all{K:Fg}{fd:FuncData}{ps:List Str}(h:∀ us:List Value,us.length=ps.length->bindArgs fd ⟨us,[]⟩=pure (ps.zip us)):Binds K fd ps []:=λs us _ hl=>by
 rw[YN]at hl ⊢
 exact .of_eq (h us hl)
def q678(CX:CXT)(X:Cx)(E:XK):Prop:=∀(pins:List (Addr×Obj)) (σ:St) (H:Hp) (s:Shared) (e:Value) (s':Shared),Inv X pins σ H s->CX X.stack H s E e s'->X.xe e s'
section
variable {CX:CXT}{k:Nat}{f C:Addr}{fd:FuncData}{ps:List Str}{sp:Sp}{dvs:List V}{ds:List Value}{E:XK}{x m:Str}{p pos apos:Pos}{e o:Expr}{es:List Expr}{ta:TE}{t:TA}
theorem run_fn(F:FnOk X.prog X.w X.K X.mg X.base CX k f fd ps sp)(hr:Room k X.A)(hb:Binds X.K fd ps ds)(hd:Vals dvs ds)(hx:q678 CX X E)
  (I:Inv X pins σ H s) (r:Vals vs us) (h:sp (vs++dvs) H Q E):wpAny (model X.prog X.w) X.A (call (.ref f) us) (EP X pins σ Q) X.xe s:=by
 have r2:Vals (vs++dvs) (us++ds):=r.append hd
 have hl:(us++ds).length=ps.length:=by rw[<- r2.length];exact F.len _ _ _ _ h
 refine wpAny_call (codeAny_mono (F.run X.A X.stack s H ⟨us,[]⟩ (us++ds) (vs++dvs) Q E hr I.env0 (hb s us I.kIn hl) r2 h) λr s' hq=>?_)
 cases r with
 | error e=>exact hx pins σ H s e s' I hq
 | ok fl=>
  cases fl with
  | ret u=>exact I.after hq
  | next=>exact False.elim hq
  | brk=>exact False.elim hq
  | cont=>exact False.elim hq
def pe_call(F:FnOk X.prog X.w X.K X.mg X.base CX k f fd ps sp)(hr:Room k X.A)(hg:Gl X x)(hm:X.mg x=some (.ref f))(hk:PySem.W.keepIn X.K (.ref f)=true)(hb:Binds X.K fd ps ds)(hd:Vals dvs ds)(hx:q678 CX X E)
  (ha:PA X (e::es) t) (hdb:(x==("__debug__" : Str))=false:=by decide) (he:starEach (e::es) X.env=(false,eval e X.env)::starEach es X.env:=by rfl) (hpl:(backTo pos (starEach es X.env)).any (·.1)=false:=by rfl) :
  PE X (.Call (.Name x p) (e::es) [] pos) (tCall sp dvs E t):=by
 intro pins s σ H Q I h
 refine wpAny_Call_Name_kw (q668 I hg hm ?_ hdb)
 refine PySem.W.callWith_K (h₀:=X.base) I.ok.mod.kin hk (thn (ha pos pins s σ H _ I h) λus s1 ⟨vs,H1,I1,r,q⟩=>⟨I1.kIn,?_⟩) he hpl
 exact run_fn F hr hb hd hx I1 r q
structure Mk(K:Fg)(C f:Addr):Prop where
 makes:PySem.W.makesIn K C=true
 init:PySem.W.findIn K (.ref C) "__init__" = some (some (.ref f))
 fn:PySem.W.isFn K (.ref f)=true
 kp:PySem.W.keepIn K (.ref C)=true
end
section
variable {CX:CXT}{k:Nat}{f C:Addr}{fd:FuncData}{ps ks:List Str}{sp:Sp}{E:XK}{x m:Str}{p pos apos kpos:Pos}{e o:Expr}{es:List Expr}{kws:List Keyword}{te ta:TE}{t tk:TA}{nm:Option Str}
structure KBinds(K:Fg)(fd:FuncData)(ps ks:List Str)(g:List Value->List Value->List Value)(gV:List V->List V->List V):Prop where
 to:∀(s:Shared)(us ws:List Value),K.In s.heap->(g us ws).length=ps.length->BindsTo s fd ⟨us,ks.zip ws⟩ (ps.zip (g us ws))
 rel:∀{vs:List V}{us:List Value}{zs:List V}{ws:List Value},Vals vs us->Vals zs ws->Vals (gV vs zs) (g us ws)
variable {g:List Value->List Value->List Value}{gV:List V->List V->List V}
end
structure FnScope(N P:List Str)(sc:Scope):Prop where
 kind:sc.kind = .function
 co:sc.isCoroutine=false
 gen:sc.isGenerator=false
 nd:N.Nodup
 pre:N.take P.length=P
 par:∀ x∈P,sc.names.lookup x=some .local\/sc.names.lookup x=some .cell
 nofree:∀ y∈sc.names,y.2 ≠ .free
theorem q452{kindOf:Str->Option NameKind}{x:Str}:∀{binds:List (Str×Value)} {m:Mg},(∀ v,(x,v) ∉ binds)->bindL kindOf binds m x=m x
 | [],_,_=>rfl
 | (n,v)::r,m,h=>by
  unfold bindL
  rw[q452 λw hw=>h w (ZX _ hw)]
  split
  ·have:x≠n:=by rintro rfl;exact h v WC
   simp[this]
  ·rfl
theorem q453{kindOf:Str->Option NameKind}{x:Str}:∀{binds:List (Str×Value)} {m:Mg},(∀ v,(x,v) ∉ binds)->bindC kindOf binds m x=m x
 | [],_,_=>rfl
 | (n,v)::r,m,h=>by
  unfold bindC
  rw[q453 λw hw=>h w (ZX _ hw)]
  split
  ·rfl
  ·have:x≠n:=by rintro rfl;exact h v WC
   simp[this]
theorem q454{kindOf:Str->Option NameKind}{x:Str}{v:Value}:∀{P:List Str}{vs:List Value}{i:Nat}{m:Mg},P.Nodup->P[i]? = some x->vs[i]? = some v->kindOf x=some .local ->
  bindL kindOf (P.zip vs) m x=some v
 | [],_,_,_,_,h,_,_=>by simp at h
 | _::_,[],_,_,_,_,h,_=>by simp at h
 | p::P,w::vs,0,m,nd,h1,h2,hk=>by
  simp at h1 h2;subst h1;subst h2
  show bindL kindOf ((p,w)::P.zip vs) m p=_
  unfold bindL
  rw[q452 λv hv=>(List.nodup_cons.mp nd).1 (of_mem_zip hv).1,ZL hk]
  simp
 | p::P,w::vs,i+1,m,nd,h1,h2,hk=>by
  show bindL kindOf ((p,w)::P.zip vs) m x=_
  unfold bindL
  exact q454 (i:=i) (List.nodup_cons.mp nd).2 (by simpa using h1) (by simpa using h2) hk
theorem q455{kindOf:Str->Option NameKind}{x:Str}{v:Value}:∀{P:List Str}{vs:List Value}{i:Nat}{m:Mg},P.Nodup->P[i]? = some x->vs[i]? = some v->kindOf x≠some .local ->
  bindC kindOf (P.zip vs) m x=some v
 | [],_,_,_,_,h,_,_=>by simp at h
 | _::_,[],_,_,_,_,h,_=>by simp at h
 | p::P,w::vs,0,m,nd,h1,h2,hk=>by
  simp at h1 h2;subst h1;subst h2
  show bindC kindOf ((p,w)::P.zip vs) m p=_
  unfold bindC
  rw[q453 λv hv=>(List.nodup_cons.mp nd).1 (of_mem_zip hv).1,ZI hk]
  simp
 | p::P,w::vs,i+1,m,nd,h1,h2,hk=>by
  show bindC kindOf ((p,w)::P.zip vs) m x=_
  unfold bindC
  exact q455 (i:=i) (List.nodup_cons.mp nd).2 (by simpa using h1) (by simpa using h2) hk
noncomputable def start(N:List Str)(vs:List V):St:=vs.map some++List.replicate (N.length-vs.length) none
noncomputable def cxOf(CX:CXT)(P:Program)(w:World)(K:Fg)(mg:Mg)(base:Heap)(N:List Str)(qual:Str)(scope:Scope)(f:Addr)(cd:Value)(A:Around)(outer:List Env)(s:Shared)(H:Hp)(E:XK):Cx where
 prog:=P
 w:=w
 K:=K
 mg:=mg
 base:=base
 A:=A.deeper (envOfC qual scope s.heap.objs.size f cd)
 N:=N
 s₀:=s
 H₀:=H
 env:=envOfC qual scope s.heap.objs.size f cd
 outer:=outer
 stack:=envOfC qual scope s.heap.objs.size f cd::outer
 ex:=[]
 calm:=true
 fn:=λ_=>true
 pn:=[]
 xe:=λe s'=>wpAny (model P w) (A.deeper (envOfC qual scope s.heap.objs.size f cd)) (leaving (envOfC qual scope s.heap.objs.size f cd) e) (λ_ s''=>CX outer H s E e s'') (λe' s''=>CX outer H s E e' s'') s'
def q561{sc:Scope}{n:Nat}(h:sc.names.lookup x=some .cell):∃ c,(cellsFrom n sc.names []).lookup x=some c:=by
 have q:=PySem.W.cellsFrom_some sc.names n [] (.inl h)
 exact Option.isSome_iff_exists.mp q
def q679{CX:CXT}{P:Program}{w:World}{K:Fg}{mg:Mg}{base:Heap}{N ps:List Str}{qual:Str}{scope:Scope}{f:Addr}{cd:Value}{A:Around}{outer:List Env}{s s1:Shared}{H:Hp}{E:XK}{us:List Value}{vs:List V}
  (S:FnScope N ps scope) (hd:A.handled=none) (e0:Env0 P w K mg base A outer s H) (hl:vs.length=ps.length) (r:Vals vs us)
  (x:InCallC s s.heap.objs.size (bindL (envOfC qual scope s.heap.objs.size f cd).kindOf (ps.zip us) λ_=>none) (cellsFrom (s.heap.objs.size+1) scope.names []) (bindC (envOfC qual scope s.heap.objs.size f cd).kindOf (ps.zip us) λ_=>none) s1) :
  Inv (cxOf CX P w K mg base N qual scope f cd A outer s H E) [] (start N vs) H s1:=by
 have hpl:ps.length<=N.length:=by have:=congrArg List.length S.pre;rw[WZ]at this;lia
 obtain⟨h1,tk,rfl,hk⟩:=x.done
 have noA:∀ b:Addr,b ∉ (cxOf CX P w K mg base N qual scope f cd A outer s H E).ex:=λb z=>absurd (show b∈([]:List Addr)from z) (by simp)
 refine⟨⟨e0.mod,S.kind,rfl,rfl,ZG _,λy z c h1 h2=>?_,λy hy=>?_,λy c _ h=>?_,λ_=>hd,Around.frames_deeper e0.frames,.inr ⟨rfl,rfl⟩,λb z=>absurd z (noA b),e0.bs,e0.bsz,λb _ _=>noA b,λb z=>absurd z (noA b),e0.funs,e0.frf⟩,
  rfl,e0.bare,Un.kept hk,⟨_,x.toInCall.ns,λi y v h1 h2 h3=>?_⟩,λy c h=>⟨_,x.cell y c h⟩,e0.hok.fresh (ZG _),λy c h=>?_,λp hp=>absurd (show p∈([]:List (Addr×Obj))from hp) (by simp),e0.hok.kept hk,?_⟩
 ·exact name_of_addr x.apart (YM h1) (YM h2)
 ·have hy:scope.names.lookup y=some .cell\/scope.names.lookup y=some .free:=hy
  rcases hy with hy | hy
  ·exact q561 hy
  ·exact absurd rfl (S.nofree _ (YM hy))
 ·exact Nat.le_of_lt (x.above y c (YM h))
 ·have hi:i<vs.length:=by
   unfold start at h2
   by_cases hi:i<vs.length
   ·exact hi
   ·rw[YL (by simpa using hi)]at h2
    rw[getElem?_replicate]at h2
    split at h2 <;> cases h2
  have ha:vs[i]? = some v:=by
   unfold start at h2
   rw[YX (by simpa using hi),WH]at h2
   cases e:vs[i]? with
   | none=>rw[e]at h2;cases h2
   | some a=>rw[e]at h2;cases h2;rfl
  obtain⟨u,hu,rv⟩:=r.get ha
  have hp:ps[i]? = some y:=by
   rw[<- S.pre,getElem?_take_of_lt (W164 hi hl)];exact h1
  have ndP:ps.Nodup:=by rw[<- S.pre];exact S.nd.sublist (take_sublist _ _)
  exists u,rv
  rcases S.par y (WY hp)with k | k
  ·exact .inl ⟨k,q454 ndP hp hu k⟩
  ·obtain⟨c,e⟩:=q561 (n:=s.heap.objs.size+1) k
   refine .inr ⟨.inl k,c,e,?_⟩
   have q:=x.cell y c e
   rw[q455 ndP hp hu (by show scope.names.lookup y≠_;rw[k];decide)]at q
   exact q
 ·exact e0.hok.fresh (Nat.le_of_lt (x.above y c (YM h)))
 ·unfold start
  show _=N.length
  rw[ZQ,ZJ,length_replicate]
  lia
theorem fn_of{CX:CXT}{P:Program}{w:World}{K:Fg}{mg:Mg}{base:Heap}{k:Nat}{f:Addr}{name qual:Str}{params:Arguments}{body:List Stmt}{scope:Scope}{dV kV doc pm cdv ct oc:Value}{an od:Option Addr}
  {osl:Array (Option Value)} {N ps:List Str} {sp:Sp} (lk:K.lookup f=some ⟨oc,od,.func (PySem.W.fnOf name qual params body scope dV kV doc pm an cdv ct),osl⟩) (hcd:PySem.W.codeIn K cdv qual=true) (S:FnScope N ps scope)
  (len:∀ vs H Q E,sp vs H Q E->vs.length=ps.length)
  (hbody:∀(A:Around)(outer:List Env)(s:Shared)(H:Hp)(vs:List V)(Q:VK)(E:XK),Room k (A.deeper (envOfC qual scope s.heap.objs.size f cdv))->sp vs H Q E ->
   ∃ t,PSs (cxOf CX P w K mg base N qual scope f cdv A outer s H E) body t/\t { nx:=λ_ H'=>Q .non H',rt:=Q } (start N vs) H) :
  FnOk P w K mg base CX (k+1) f (PySem.W.fnOf name qual params body scope dV kV doc pm an cdv ct) ps sp:=by
 refine⟨len,λA outer s H args us vs Q E hr e0 hb r hsp=>?_⟩
 have hl:=len _ _ _ _ hsp
 have KX:K.In s.heap:=e0.mod.kin.keeps λb o e=>(e0.bs b o e).1
 have lim:s.heap.NoLimit:=e0.mod.nolimit.keeps λb o e=>(e0.bs b o e).1
 have hkind:∀ y∈ps.zip us,scope.names.lookup y.1=some .local\/(scope.names.lookup y.1=some .cell/\((cellsFrom (s.heap.objs.size+1) scope.names []).lookup y.1).isSome=true):=λ⟨n,v⟩ hy=>by
  rcases S.par n (of_mem_zip hy).1 with q | q
  ·exact .inl q
  ·exact .inr ⟨q,PySem.W.cellsFrom_some _ _ _ (.inl q)⟩
 refine codeAny_call_function hr.depth (KX _ _ lk) rfl S.co S.gen rfl (PySem.W.codeRec_of KX hcd) (hb _ _ _ _ ?_)
 refine wpAny_newFunctionEnv_cells S.kind hkind λenv he s1 x=>?_
 subst he
 refine⟨lim.keeps x.toInCall.keep,codeAny_func ?_⟩
 obtain⟨t,ht,hq⟩:=hbody A outer s H vs Q E (hr.deeper _) hsp
 have I:Inv (cxOf CX P w K mg base N qual scope f cdv A outer s H E) [] (start N vs) H s1:=q679 S hr.hd e0 hl r x
 refine YS (ht [] s1 (start N vs) H _ I hq) (λfl s' hs=>?_) λe s' hs=>hs
 have fin:∀{σ':St}{H':Hp}{v:V}{u:Value},Inv (cxOf CX P w K mg base N qual scope f cdv A outer s H E) [] σ' H' s'->RelV v u->Q v H'->CE outer P w H s Q u s':=
  fun {σ' H' v u} J rv q=>⟨v,H',J.os,J.bare,J.base,J.hok,rv,q⟩
 cases fl with
 | ret u=>
  obtain⟨v,σ',H',J,rv,q⟩:=hs
  exact fin J rv q
 | next=>
  obtain⟨σ',H',J,q⟩:=hs
  exact fin (v:=V.non) (u:=Value.none) J rfl q
 | brk=>
  obtain⟨_,_,_,q⟩:=hs
  exact False.elim q
 | cont=>
  obtain⟨_,_,_,q⟩:=hs
  exact False.elim q
section
variable {x:Str}{p pos:Pos}{e:Expr}{es:List Expr}{t:TA}{id T:String}{r:List V->Hp->VK->Prop}
def tCB(r:List V->Hp->VK->Prop)(t:TA):TE:=λσ H Q=>t σ H λvs H1=>r vs H1 Q
def q36(hc:CallR X (.builtin id) r)(hg:Gl X x)(hm:X.mg x=none)(hv:bootBuiltins x=some (.builtin id))(ha:PA X (e::es) t)(hn:x ≠ "__name__" := by decide) (hdb:(x==("__debug__" : Str))=false:=by decide)
  (he:starEach (e::es) X.env=(false,eval e X.env)::starEach es X.env:=by rfl) (hpl:(backTo pos (starEach es X.env)).any (·.1)=false:=by rfl):PE X (.Call (.Name x p) (e::es) [] pos) (tCB r t):=by
 intro pins s σ H Q I h
 refine wpAny_Call_Name_kw (q449 I hg hm hv ?_ hn hdb)
 exact PyProof.Rows.callWith_builtin1 (thn (ha pos pins s σ H _ I h) λus s1 ⟨vs,H1,I1,r1,q1⟩=>hc pins s1 σ H1 vs us Q I1 r1 q1) he hpl
def q202(hc:CallR X (.type T) r)(hg:Gl X x)(hm:X.mg x=none)(hv:bootBuiltins x=some (.type T))(ha:PA X (e::es) t)(hn:x ≠ "__name__" := by decide) (hdb:(x==("__debug__" : Str))=false:=by decide)
  (he:starEach (e::es) X.env=(false,eval e X.env)::starEach es X.env:=by rfl) (hpl:(backTo pos (starEach es X.env)).any (·.1)=false:=by rfl):PE X (.Call (.Name x p) (e::es) [] pos) (tCB r t):=by
 intro pins s σ H Q I h
 refine wpAny_Call_Name_kw (q449 I hg hm hv ?_ hn hdb)
 exact PyProof.Rows.callWith_type1 (thn (ha pos pins s σ H _ I h) λus s1 ⟨vs,H1,I1,r1,q1⟩=>hc pins s1 σ H1 vs us Q I1 r1 q1) he hpl
end
end L2
namespace HT
set_option autoImplicit false
open PySem PyProof.Rows
section
open PySem.SeqAt
open PySem.AutoSeq1 (wpAny_loadPart')
open PySem.MeetsSeq PySem.MeetsSeq2 PySem.MeetsSeq3
end
section
variable {prog:Program}{w:World}{A:Around}{E:VS}{s:Shared}
noncomputable def sIx(n d:Nat):Option Int->Nat
 | none=>d
 | some v=>if v<0 then(v+(n:Int)).toNat else min v.toNat n
def q788(n d:Nat):sIx n d none=d:=rfl
def q789(n d k:Nat):sIx n d (some (k:Int))=min k n:=by
 show(if(k:Int)<0 then((k:Int)+(n:Int)).toNat else min (k:Int).toNat n)=min k n
 rw[ZI W81,Int.toNat_natCast]
def sIx_le(n d:Nat)(hd:d<=n)(o:Option Int):sIx n d o<=n:=by
 cases o with
 | none=>exact hd
 | some v=>
  show(if v<0 then(v+(n:Int)).toNat else min v.toNat n)<=n
  by_cases hv:v<0
  ·rw[ZL hv];lia
  ·rw[ZI hv];exact Nat.min_le_right _ _
def q680(v:Int)(n d:Nat):(if v<0 then max (v+(n:Int)) 0 else min v (n:Int))=((sIx n d (some v):Nat):Int):=by
 show(if v<0 then max (v+(n:Int)) 0 else min v (n:Int))=(((if v<0 then(v+(n:Int)).toNat else min v.toNat n):Nat):Int)
 by_cases hv:v<0
 ·simp only[ZL hv];lia
 ·simp only[ZI hv];lia
def q620(lo hi:Option Int)(n:Nat):Builtin.Slice.sliceAdjust lo hi 1 (n:Int)=(((sIx n 0 lo:Nat):Int),((sIx n n hi:Nat):Int)):=by
 have h1:¬((1:Int)<0):={}
 unfold Builtin.Slice.sliceAdjust
 simp only[h1,if_false]
 refine Prod.ext ?_ ?_
 ·cases lo with
  | none=>rfl
  | some v=>exact q680 v n 0
 ·cases hi with
  | none=>rfl
  | some v=>exact q680 v n n
def q621(i j:Nat):Builtin.Slice.slicePlaces (i:Int) (j:Int) 1=j-i:=by
 unfold Builtin.Slice.slicePlaces
 have h1:(1:Int) > 0:={}
 simp only[h1,if_true,Int.ediv_one]
 split <;> lia
def q372{v:Value}{o:Option Int}{Q:Option Int->Shared->Prop}(p:IsPart v o)(h:Q o s):wpAny (model prog w) A (Builtin.Slice.slicePartIndex v) Q E s:=by
 cases p with
 | none=>exact slicePart_none h
 | int i t=>exact slicePart_int h
def q135{sl:Addr}{vl vu:Value}{lo hi:Option Int}{n:Nat}{Q:Int×Int×Nat->Shared->Prop}(hs:s.heap.IsSliceOf sl vl vu .none)(pl:IsPart vl lo)(pu:IsPart vu hi)
  (h:Q (((sIx n 0 lo:Nat):Int),1,sIx n n hi-sIx n 0 lo) s):wpAny (model prog w) A (Builtin.Slice.sliceApplied (.ref sl) (pure (n:Int))) Q E s:=by
 obtain⟨os,hos,hcs,hds⟩:=id hs
 unfold Builtin.Slice.sliceApplied Builtin.Slice.sliceFields
 refine ZC (ZC (wpAny_field hos hds (x:=vl) rfl (ZC (wpAny_field hos hds (x:=vu) rfl (ZC (wpAny_field hos hds (x:=.none) rfl (ZP ?_)))))))
 refine ZC (slicePart_none ?_)
 show wpAny _ _ (if((1:Int)==0)=true then _ else _) _ _ s
 rw[ZI ∅]
 refine ZC (q372 pl (ZC (q372 pu (ZC (ZP ?_)))))
 show wpAny _ _ (match Builtin.Slice.sliceAdjust lo hi 1 (n:Int)with | (lo,hi)=>pure (lo,(1:Int),Builtin.Slice.slicePlaces lo hi 1)) _ _ s
 rw[q620 lo hi n]
 show wpAny _ _ (pure (((sIx n 0 lo:Nat):Int),(1:Int),Builtin.Slice.slicePlaces ((sIx n 0 lo:Nat):Int) ((sIx n n hi:Nat):Int) 1)) _ _ s
 rw[q621]
 exact ZP h
def pick_gen(xs:Array Value)(i k:Nat):((List.range k).filterMap λ(m:Nat)=>xs[((i:Int)+(m:Int)*1).toNat]?).toArray=((xs.toList.drop i).take k).toArray:=by
 have e:(λ(m:Nat)=>xs[((i:Int)+(m:Int)*1).toNat]?)=λm=>xs[i+m]?:=by
  funext m
  have:((i:Int)+(m:Int)*1).toNat=i+m:=W33
  rw[this]
 rw[e]
 have:=pick_run xs i k
 rw[List.filterMap_map]at this
 have e2:((λx=>xs[x]?)∘λx=>i+x)=λm=>xs[i+m]?:=rfl
 rw[e2]at this
 rw[this]
def q622{t sl:Addr}{items:Array Value}{vl vu:Value}{lo hi:Option Int}{Q:VS}(ht:IsTup s.heap t items)(hs:s.heap.IsSliceOf sl vl vu .none)(pl:IsPart vl lo)(pu:IsPart vu hi)
  (hw:¬(sIx items.size 0 lo=0/\sIx items.size items.size hi=items.size))
  (h:Q (.ref s.heap.objs.size) { s with heap:=s.heap.push { cls:=.type "tuple", data:=.seq ((items.toList.drop (sIx items.size 0 lo)).take (sIx items.size items.size hi-sIx items.size 0 lo)).toArray } })
  (hsz:items.size<=sizeLine):wpAny (model prog w) A (getItem (.ref t) (.ref sl)) Q E s:=by
 have htake:sizeOk (.seq ((items.toList.drop (sIx items.size 0 lo)).take (sIx items.size items.size hi-sIx items.size 0 lo)).toArray):=by
  show((items.toList.drop (sIx items.size 0 lo)).take (sIx items.size items.size hi-sIx items.size 0 lo)).toArray.size<=sizeLine
  rw[List.size_toArray,List.length_take,List.length_drop,ZY]
  lia
 have hj:sIx items.size items.size hi<=items.size:=sIx_le _ _ (ZG _) hi
 obtain⟨os,hos,hcs,hds⟩:=id hs
 have hTs:s.TypeIs (.ref sl) "slice" := ⟨os,hos,hcs⟩
 unfold getItem
 try with_reducible refine wpAny_holding ?_
 first | refine ZC (ZP ?_) | skip
 refine ZC (wpAny_sequenceKey ht.typeIs ∅ ?_)
 refine ZC (wpAny_callSpecial?_slot (name:=Str.ofString "__getitem__") ht.typeIs PyProof.Rows.slot_tuple_getitem
  (wpAny_call_entry PyProof.Rows.slot_tuple_getitem ht.typeIs entry_tuple_getitem ?_ (args_tuple_getitem _ _)))
 show wpAny _ _ (Builtin.Tuple.tupleItemsOf (.ref t) >>= _) _ _ s
 refine ZC (tupleItemsOf_ ht ?_)
 refine ZC (wpAny_typeOf hTs ?_)
 rw[ZL ∅]
 refine ZC (q135 hs pl pu ?_)
 have hno:¬((((sIx items.size 0 lo:Nat):Int)==0&&(1:Int)==1&&(sIx items.size items.size hi-sIx items.size 0 lo)==items.size)=true):=by
  intro q
  rw[WO,WO]at q
  have q1:((sIx items.size 0 lo:Nat):Int)=0:=eq_of_beq q.1.1
  have q2:sIx items.size items.size hi-sIx items.size 0 lo=items.size:=eq_of_beq q.2
  exact hw ⟨(W92 q1),{}⟩
 show wpAny _ _ (if(((sIx items.size 0 lo:Nat):Int)==0&&(1:Int)==1&&(sIx items.size items.size hi-sIx items.size 0 lo)==items.size)=true then _ else _) _ _ s
 rw[ZI hno,pick_gen]
 first
  | exact ZC (m:=Builtin.Tuple.tupleExact _) (YY (ZP ⟨_,rfl,ZP h⟩) htake)
  | exact ZC (m:=Builtin.Tuple.tupleExact _) (YY (ZC (ZP (ZP ⟨_,rfl,ZP h⟩))) htake)
  | exact ZC (ZC (m:=Builtin.Tuple.tupleExact _) (YY (ZP (ZP ⟨_,rfl,ZP h⟩)) htake))
  | exact ZC (ZC (m:=Builtin.Tuple.tupleExact _) (YY (ZP ⟨_,rfl,ZP h⟩) htake))
end
end HT
namespace L2
open PySem PySem.Spec PyProof.Rows List
variable {X:Cx}
abbrev TO:=St->Hp->(Option Int->Hp->Prop)->Prop
def PO(X:Cx)(e:Option Expr)(t:TO):Prop:=
 ∀(pins:List (Addr×Obj)) (s:Shared) (σ:St) (H:Hp) (Q:Option Int->Hp->Prop),Inv X pins σ H s->t σ H Q ->
  wpAny (model X.prog X.w) X.A (evalPart e X.env) (λu s'=>∃ o H',Inv X pins σ H' s'/\IsPart u o/\Q o H') X.xe s
def tNoPart:TO:=λ_ H Q=>Q none H
inductive jPart(x:V)(H:Hp)(Q:Option Int->Hp->Prop):Prop
 |mk(i:Int)(_:x = .int i)(_:Q (some i) H)
def tPart(t:TE):TO:=λσ H Q=>t σ H λx H1=>jPart x H1 Q
def q100{ns:List Int}:∀{us:List Value},Vals (ns.map V.int) us->IntsAre us ns:=by
 induction ns with
 | nil=>intro us r;rw[map_nil]at r;cases r;exact .nil
 | cons n ns ih=>
  intro us r
  rw[map_cons]at r
  cases r with
  | cons r1 r2=>
   obtain⟨t,e⟩:=r1
   subst e
   exact .cons n t (ih r2)
section
variable {e:Expr}{te:TE}{lo hi:Option Expr}{tl th:TO}{pos p2:Pos}
def q516:PO X none tNoPart:=by
 intro pins s σ H Q I h
 rw[evalPart_none]
 exact ZP ⟨none,H,I,.none,h⟩
def q77(h:PE X e te):PO X (some e) (tPart te):=by
 intro pins s σ H Q I hw
 rw[evalPart_some]
 refine thn (h pins s σ H _ I hw) λu s1 ⟨x,H1,I1,r1,q1⟩=>?_
 obtain⟨i,rfl,q⟩:=q1
 obtain⟨t,rfl⟩:=r1
 exact⟨some i,H1,I1,.int i t,q⟩
def SlR(X:Cx)(r:V->Option Int->Option Int->Hp->VK->Prop):Prop:=
 ∀(pins:List (Addr×Obj)) (s:Shared) (σ:St) (H:Hp) (x:V) (v vl vu:Value) (lo hi:Option Int) (sl:Addr) (Q:VK),Inv X pins σ H s->RelV x v->s.heap.IsSliceOf sl vl vu .none->IsPart vl lo->IsPart vu hi->r x lo hi H Q ->
  ∃ T id,typeLookup (.type T) "__getitem__" = pure (some (.builtin id))/\s.TypeIs v T/\wpAny (model X.prog X.w) X.A (getItem v (.ref sl)) (EP X pins σ Q) X.xe s
def tSl(r:V->Option Int->Option Int->Hp->VK->Prop)(te:TE)(tl th:TO):TE:=λσ H Q=>te σ H λx H1=>tl σ H1 λl H2=>th σ H2 λu H3=>r x l u H3 Q
def q108(hr:SlR X r)(he:PE X e te)(hl:PO X lo tl)(hu:PO X hi th):PE X (.Subscript e (.Slice lo hi none p2) pos) (tSl r te tl th):=by
 intro pins s σ H Q I h
 refine Subscript_ (thn (he pins s σ H _ I h) λv s1 ⟨x,H1,I1,r1,q1⟩=>?_)
 refine wpAny_Slice (thn (hl pins s1 σ H1 _ I1 q1) λvl s2 ⟨l,H2,I2,pl,q2⟩=>thn (hu pins s2 σ H2 _ I2 q2) λvu s3 ⟨u,H3,I3,pu,q3⟩=>?_)
 rw[evalPart_none]
 refine ZP ?_
 have I4:Inv X pins σ H3 { s3 with heap:=s3.heap.push { cls:=.type "slice", data:=.fields #[vl,vu,.none] } }:=I3.kept (t':=s3.toks) λb ob q=>ZH _ q
 obtain⟨T,id,hT,ht,hg⟩:=hr pins { s3 with heap:=s3.heap.push { cls:=.type "slice", data:=.fields #[vl,vu,.none] } } σ H3 x v vl vu l u s3.heap.objs.size Q I4 r1 (Heap.IsSliceOf.new ..) pl pu q3
 show wpAny (model X.prog X.w) X.A (subscriptTail e (.Slice lo hi none p2) v (.ref s3.heap.objs.size)) (EP X pins σ Q) X.xe { s3 with heap:=s3.heap.push { cls:=.type "slice", data:=.fields #[vl,vu,.none] } }
 exact tail_any (ops:=[.ref s3.heap.objs.size,v]) ht hT hg (by with_unfolding_all rfl)
noncomputable def cutV(xs:List V)(lo hi:Option Int):List V:=(xs.drop (HT.sIx xs.length 0 lo)).take (HT.sIx xs.length xs.length hi-HT.sIx xs.length 0 lo)
def q301(xs:List V)(lo hi:Option Int):(cutV xs lo hi).length<=xs.length:=by
 unfold cutV
 rw[WZ,length_drop]
 lia
def Vals.nil_iff(r:Vals xs us):us=[]↔xs=[]:=by
 cases r with
 | nil=>simp
 | cons _ _=>simp
end
noncomputable def ixN(n:Nat)(i:Int):Option Nat:=if 0<=i then(if i<n then some i.toNat else none)else if -(n:Int)<=i then some (i+n).toNat else none
noncomputable def atI{α:Type}(xs:List α)(i:Int):Option α:=(ixN xs.length i).bind λj=>xs[j]?
def q681{n:Nat}{i:Int}{j:Nat}(h:ixN n i=some j):seqIndex? i n=some j/\j<n /\ -(n:Int)<=i/\i<n:=by
 unfold ixN at h
 by_cases h0:0<=i
 ·rw[ZL h0]at h
  by_cases h1:i<n
  ·rw[ZL h1]at h
   have e:i.toNat=j:=Option.some.inj h
   exact⟨by rw[seqIndex_of h0 h1,e],{},{},h1⟩
  ·rw[ZI h1]at h;cases h
 ·rw[ZI h0]at h
  by_cases h1:-(n:Int)<=i
  ·rw[ZL h1]at h
   have e:(i+n).toNat=j:=Option.some.inj h
   exact⟨by rw[seqIndex_neg (W147 h0) h1,e],{},h1,{}⟩
  ·rw[ZI h1]at h;cases h
def q682{α:Type}{xs:List α}{i:Int}{v:α}(h:atI xs i=some v):∃ j,seqIndex? i xs.length=some j/\xs[j]? = some v/\j<xs.length /\ -(xs.length:Int)<=i/\i<xs.length:=by
 unfold atI at h
 cases e:ixN xs.length i with
 | none=>rw[e]at h;cases h
 | some j=>
  rw[e]at h
  obtain⟨h1,h2,h3,h4⟩:=q681 e
  exact⟨j,h1,h,h2,h3,h4⟩
def q44{α:Type}{xs:List α}{j:Nat}{v:α}(h:xs[j]? = some v):atI xs (j:Int)=some v:=by
 have hj:j<xs.length:=(eA h).1
 have e:ixN xs.length (j:Int)=some j:=by
  unfold ixN
  rw[ZL {},ZL (W91 hj)];simp
 unfold atI;rw[e];exact h
def q562{α:Type}(xs:List α)(v:α):atI (xs++[v]) (-1)=some v:=by
 have hl:(xs++[v]).length=xs.length+1:=by simp
 have e:ixN (xs++[v]).length (-1)=some xs.length:=by
  unfold ixN
  rw[hl,ZI ∅,ZL {}]
  congr 1
  lia
 unfold atI
 rw[e]
 show(xs++[v])[xs.length]? = some v
 simp
def q683(b:Expr):Prop:=∀ o i,subscripted b false o i=operate [o,i] (getItem o i)
def IxR(X:Cx)(r:R2):Prop:=
 ∀(value slice:Expr) (pins:List (Addr×Obj)) (s:Shared) (σ:St) (H:Hp) (x y:V) (v u:Value) (Q:VK),Inv X pins σ H s->RelV x v->RelV y u->r x y H Q ->
  subscripted slice false v u=operate [v,u] (getItem v u)->wpAny (model X.prog X.w) X.A (subscriptTail value slice v u) (EP X pins σ Q) X.xe s
def MtR(X:Cx)(id:String)(r:V->List V->Hp->VK->Prop):Prop:=
 ∀(pins:List (Addr×Obj)) (s:Shared) (σ:St) (H:Hp) (x:V) (xs:List V) (v:Value) (us:List Value) (Q:VK),Inv X pins σ H s->RelV x v->Vals xs us->r x xs H Q ->
  wpAny (model X.prog X.w) X.A (call (.builtin id) (v::us)) (EP X pins σ Q) X.xe s
section
variable{a b:Expr}{ta tb:TE}{pos:Pos}
def pe_ix(hr:IxR X r)(ha:PE X a ta)(hb:PE X b tb)(hs:q683 b):PE X (.Subscript a b pos) (tOp r ta tb):=by
 intro pins s σ H Q I h
 exact Subscript_ (binT ha hb I h λv u s2 x y H2 I2 rx ry q=>hr a b pins s2 σ H2 x y v u Q I2 rx ry q (hs _ _))
inductive rIxL(K:Fg)(x y:V)(H:Hp)(Q:VK):Prop
 |mk(p:Addr)(xs:List V)(i:Int)(v:V)(_:x = .ref p)(_:y = .int i)(_:SqL K H p xs)(_:atI xs i=some v)(_:Q v H)
inductive rIxT(K:Fg)(x y:V)(H:Hp)(Q:VK):Prop
 |mk(p:Addr)(xs:List V)(i:Int)(v:V)(_:x = .ref p)(_:y = .int i)(_:SqT K H p xs)(_:atI xs i=some v)(_:Q v H)
def q54:IxR X (rIxL X.K):=by
 intro value slice pins s σ H x y v u Q I rx ry h hs
 obtain⟨p,xs,i,z,rfl,rfl,hq,he,q⟩:=h
 cases rx
 obtain⟨t,rfl⟩:=ry
 obtain⟨its,r,pl,hz⟩:=I.list hq
 obtain⟨j,h1,h2,h3,h4,h5⟩:=q682 he
 obtain⟨w,ew,rw'⟩:=r.get h2
 have hl:=r.length
 have hn:=q560
 have fin:EP X pins σ Q w s:=⟨z,H,I,rw',q⟩
 by_cases h0:0<=i
 ·have hj:i.toNat=j:=by
   rw[seqIndex_of h0 h5]at h1
   exact Option.some.inj h1
  exact item_listR pl.isList h0 {} (by rw[hj];simpa using ew) fin hs
 ·have hj:(i+(its.toArray.size:Int)).toNat=j:=by
   rw[seqIndex_neg (W147 h0) h4]at h1
   rw[WB,<- hl]
   exact Option.some.inj h1
  exact subscriptTail_builtinR (x:=w) pl.isList.typeIs slot_list_getitem.lookup
   (wpAny_getItem_list_neg (Q:=λr s'=>r=w/\EP X pins σ Q r s') pl.isList {} (by rw[WB] <;> lia) {} (by rw[hj];simpa using ew) ⟨rfl,fin⟩) hs
def q24:IxR X (rIxT X.K):=by
 intro value slice pins s σ H x y v u Q I rx ry h hs
 obtain⟨p,xs,i,z,rfl,rfl,hq,he,q⟩:=h
 cases rx
 obtain⟨t,rfl⟩:=ry
 obtain⟨its,r,pl,hz⟩:=I.tuple hq
 obtain⟨j,h1,h2,h3,h4,h5⟩:=q682 he
 obtain⟨w,ew,rw'⟩:=r.get h2
 have hl:=r.length
 have hn:=q560
 have fin:EP X pins σ Q w s:=⟨z,H,I,rw',q⟩
 exact subscriptTail_builtinR (x:=w) pl.typeIs slot_tuple_getitem.lookup
  (getItem_tuple (j:=j) (Q:=λr s'=>r=w/\EP X pins σ Q r s') pl {} {} (by rw[WB,<- hl];exact h1) (by simpa using ew) ⟨rfl,fin⟩) hs
def q623(its:List Value)(n j:Nat)(u:Value):Obj.mapSeq (·.setIfInBounds j u) { cls:=.type "list", data:=.seq its.toArray n } = { cls:=.type "list", data:=.seq (its.set j u).toArray n }:=by
 simp[Obj.mapSeq]
def Inv.lst{s:Shared}(I:Inv X pins σ H s)(h:H p=some (.lst xs)) :
  ∃(its:List Value)(n:Nat),Vals xs its/\s.heap.get? p=some { cls:=.type "list", data:=.seq its.toArray n }/\xs.length<=sizeLine:=by
 obtain⟨z,its,n,r,e⟩:=I.hok p _ h
 exact⟨its,n,r,e,z⟩
def Inv.lstUpd{s:Shared}{ys:List V}{its its':List Value}{n n':Nat}{f:Obj->Obj}(I:Inv X pins σ H s)(h:H p=some (.lst xs))
  (ho:s.heap.get? p=some { cls:=.type "list", data:=.seq its.toArray n }) (hf:f { cls:=.type "list", data:=.seq its.toArray n } = { cls:=.type "list", data:=.seq its'.toArray n' }) (r:Vals ys its') (hz:ys.length<=sizeLine) (t:Nat) :
  Inv X pins σ (upd H p (.lst ys)) { s with heap:=s.heap.update p f,toks:=t }:=by
 have e:(s.heap.update p f).get? p=some { cls:=.type "list", data:=.seq its'.toArray n' }:=by
  rw[Heap.get?_update_self f ho (by rw[hf] <;> rfl),hf]
 refine I.write (x:=p) (e:=p) (by rw[h];trivial) (.inl rfl) (λb u hb q=>(Heap.get?_update_other _ _ (Ne.symm hb)).trans q) ⟨_,e⟩ ?_
 exact⟨hz,its',n',r,e⟩
inductive rSetL  (o:V) (i:V) (v:V) (H:Hp) (Q:Hp->Prop):Prop
 |mk(p xs k j)(_:o = .ref p)(_:i = .int k)(_:H p=some (.lst xs))(_:ixN xs.length k=some j)(_:Q (upd H p (.lst (xs.set j v))))
def set_list:PSet X rSetL:=by
 intro pins s σ H o i v ov iv u Q I ro ri rv h
 obtain⟨p,xs,k,j,rfl,rfl,hp,hj,q⟩:=h
 cases ro
 obtain⟨t,rfl⟩:=ri
 obtain⟨its,n,r,ho,hz⟩:=I.lst hp
 obtain⟨h1,h2,h3,h4⟩:=q681 hj
 have hl:=r.length
 have hn:=q560
 have I':Inv X pins σ (upd H p (.lst (xs.set j v))) { s with heap:=s.heap.update p (Obj.mapSeq (·.setIfInBounds j u)) }:=
  I.lstUpd hp ho (q623 its n j u) (r.set rv j) (by rw[length_set];exact hz) s.toks
 by_cases h0:0<=k
 ·have hk:k.toNat=j:=by
   rw[seqIndex_of h0 h4]at h1
   exact Option.some.inj h1
  exact PySem.W.ki_setAt ho h0 {} (by rw[WB,<- hl];exact h4) (by rw[hk];exact⟨_,I',q⟩)
 ·have hk:(k+(its.toArray.size:Int)).toNat=j:=by
   rw[seqIndex_neg (W147 h0) h3]at h1
   rw[WB,<- hl]
   exact Option.some.inj h1
  exact PySem.W.ki_setBack ho {} (by rw[WB,<- hl];exact h3) {} (by rw[hk];exact⟨_,I',q⟩)
def q456(lo hi:Option Int)(n:Nat):(sliceBounds lo hi none n).1=((HT.sIx n 0 lo:Nat):Int)/\(sliceBounds lo hi none n).2.1=((HT.sIx n n hi:Nat):Int)/\(sliceBounds lo hi none n).2.2=1:=by
 refine⟨?_,?_,rfl⟩
 ·cases lo with
  | none=>simp[sliceBounds,HT.sIx]
  | some i=>
   simp only[sliceBounds,HT.sIx,Option.getD_none,show(1:Int) > 0 by decide,if_true]
   by_cases h:i<0
   ·simp only[h,if_true] <;> lia
   ·simp only[h,if_false] <;> lia
 ·cases hi with
  | none=>simp[sliceBounds,HT.sIx]
  | some i=>
   simp only[sliceBounds,HT.sIx,Option.getD_none,show(1:Int) > 0 by decide,if_true]
   by_cases h:i<0
   ·simp only[h,if_true] <;> lia
   ·simp only[h,if_false] <;> lia
def q410(its:List Value)(lo hi:Option Int):slicePick its.toArray lo hi none=((its.drop (HT.sIx its.length 0 lo)).take (HT.sIx its.length its.length hi-HT.sIx its.length 0 lo)).toArray:=by
 obtain⟨h1,h2,h3⟩:=q456 lo hi its.toArray.size
 unfold slicePick
 rw[h1,h2,h3]
 simp only[sliceRange_one,pick_run,WB] <;> rfl
inductive rSlL(K:Fg)(x:V)(lo:Option Int)(hi:Option Int)(H:Hp)(Q:VK):Prop
 |mk(a xs)(_:x = .ref a)(_:SqL K H a xs)(_:∀ p,H p=none->Q (.ref p) (upd H p (.lst (cutV xs lo hi))))
def q302:SlR X (rSlL X.K):=by
 intro pins s σ H x v vl vu lo hi sl Q I rx hs pl pu h
 obtain⟨a,xs,rfl,hx,q⟩:=h
 cases rx
 obtain⟨its,r,ht,hz⟩:=I.list hx
 have hlen:=r.length
 exists "list", _,slot_list_getitem.lookup,ht.isList.typeIs
 refine wpAny_getItem_list_slice ht.isList hs pl pu .none (by simp) ?_ (by rw[WB] <;> lia)
 rw[q410,<- hlen]
 refine⟨.ref s.heap.objs.size,_,I.laid (t':=s.toks) (o:=.lst (cutV xs lo hi)) (λb ob q=>ZH _ q) (ZG _) ?_,rfl,q _ (I.hok.fresh (ZG _))⟩
 exact⟨ZO (q301 xs lo hi) hz,_,0,(r.drop (HT.sIx xs.length 0 lo)).take (HT.sIx xs.length xs.length hi-HT.sIx xs.length 0 lo),ZV _ rfl⟩
noncomputable def flatV:V->Bool
 | .non=>true
 | .bl _=>true
 | .int _=>true
 | .str _=>true
 | _=>false
noncomputable def eqV:V->V->Bool
 | .non,.non=>true
 | .bl a,.bl b=>a==b
 | .bl a,.int b=>(if a then 1 else 0)==b
 | .int a,.bl b=>a==(if b then 1 else 0)
 | .int a,.int b=>a==b
 | .str a,.str b=>a==b
 | _,_=>false
def q457(ry:RelV y u)(rx:RelV x v)(fy:flatV y=true)(fx:flatV x=true):SeqAt.EqAt A s u v (eqV y x):=by
 cases y with
 | non=>
  cases ry
  cases x with
  | non=>cases rx;exact SeqAt.EqAt.same _
  | bl b=>cases rx;exact SeqAt.EqAt.none_bool b
  | int b=>obtain⟨t,rfl⟩:=rx;exact SeqAt.EqAt.none_int b t
  | str b=>obtain⟨t,rfl⟩:=rx;exact SeqAt.EqAt.none_str b t
  | _=>exact absurd (show false=true from fx) fnt
 | bl a=>
  cases ry
  cases x with
  | non=>cases rx;exact SeqAt.EqAt.bool_none a
  | bl b=>cases rx;exact SeqAt.EqAt.bool_bool a b
  | int b=>obtain⟨t,rfl⟩:=rx;exact SeqAt.EqAt.bool_int a b t
  | str b=>obtain⟨t,rfl⟩:=rx;exact SeqAt.EqAt.bool_str a b t
  | _=>exact absurd (show false=true from fx) fnt
 | int a=>
  obtain⟨t',rfl⟩:=ry
  cases x with
  | non=>cases rx;exact SeqAt.EqAt.int_none a t'
  | bl b=>cases rx;exact SeqAt.EqAt.int_bool a t' b
  | int b=>obtain⟨t,rfl⟩:=rx;exact SeqAt.EqAt.int_int a t' b t
  | str b=>obtain⟨t,rfl⟩:=rx;exact SeqAt.EqAt.int_str a t' b t
  | _=>exact absurd (show false=true from fx) fnt
 | str a=>
  obtain⟨t',rfl⟩:=ry
  cases x with
  | non=>cases rx;exact SeqAt.EqAt.str_none a t'
  | bl b=>cases rx;exact SeqAt.EqAt.str_bool a t' b
  | int b=>obtain⟨t,rfl⟩:=rx;exact SeqAt.EqAt.str_int a t' b t
  | str b=>obtain⟨t,rfl⟩:=rx;exact SeqAt.EqAt.str_str a t' b t
  | _=>exact absurd (show false=true from fx) fnt
 | _=>exact absurd (show false=true from fy) fnt
noncomputable def eqU(x:V)(u:Value):Bool:=match u with
 | .none=>eqV .non x
 | .bool b=>eqV (.bl b) x
 | .int i _=>eqV (.int i) x
 | .str z _=>eqV (.str z) x
 | _=>false
def eqU_of(r:RelV y u)(f:flatV y=true):eqU x u=eqV y x:=by
 cases y with
 | non=>cases r;rfl
 | bl b=>cases r;rfl
 | int i=>obtain⟨t,rfl⟩:=r;rfl
 | str z=>obtain⟨t,rfl⟩:=r;rfl
 | _=>exact absurd (show false=true from f) fnt
theorem q411{A:Around}{s:Shared}{x:V}{v:Value}(rx:RelV x v)(fx:flatV x=true):∀{xs:List V}{us:List Value},Vals xs us->xs.all flatV=true -> ∀ u∈us,SeqAt.EqAt A s u v (eqU x u)
 | _,_,.nil,_=>λu hu=>by cases hu
 | y::xs,u::us,.cons r t,f=>λu' hu=>by
  rw[all_cons,WO]at f
  rcases eB hu with rfl | hu
  ·rw[eqU_of r f.1];exact q457 r rx f.1 fx
  ·exact q411 rx fx t f.2 u' hu
inductive q124(K:Fg)(xs:List V)(H:Hp)(Q:VK):Prop
 |mk(p ys)(_:xs=[.ref p])(_:(SqL K H p ys\/SqT K H p ys))(_:Q (.int ys.length) H)
def q262:CallR X (.builtin "len") (q124 X.K):=by
 intro pins s σ H xs us Q I r h
 obtain⟨p,ys,rfl,hq,q⟩:=h
 obtain⟨u,rfl,rx⟩:=vals1 r
 cases rx
 have hn:=q560
 rcases hq with hq | hq
 ·obtain⟨its,r',pl,hz⟩:=I.list hq
  have hlen:=r'.length
  exact Calls.call_len_list pl.isList (by simp only[WB] <;> lia) ⟨.int ys.length,H,I.tok _,⟨s.toks+1,by rw[WB,hlen]⟩,q⟩
 ·obtain⟨its,r',pl,hz⟩:=I.tuple hq
  have hlen:=r'.length
  exact len_tuple pl (by simp only[WB] <;> lia) ⟨.int ys.length,H,I.tok _,⟨s.toks+1,by rw[WB,hlen]⟩,q⟩
def tyV(K:Fg)(T:String)(x:V)(H:Hp):Prop:=match x with
 | .str _=>T = "str"
 | .int _=>T = "int"
 | .ref p=>(T = "list" /\ ∃ xs,SqL K H p xs)\/(T = "tuple" /\ ∃ o,K.lookup p=some o/\o.cls = .type "tuple" /\ o.dict=none) \/
   (T = "dict" /\ ((∃ kvs,H p=some (.dK kvs)) \/ ∃ kvs,H p=some (.dT kvs)))\/(T = "set" /\ ∃ S n,H p=some (.set S n))
 | _=>False
theorem tyV_is{s:Shared}(I:Inv X pins σ H s)(r:RelV x v)(ty:tyV X.K T x H) :
  s.TypeIs v T /\ ∀ a,v = .ref a -> ∃ ob,s.heap.get? a=some ob/\ob.dict=none:=by
 cases x with
 | str z=>
  obtain⟨t,rfl⟩:=r
  cases(show T = "str" from ty)
  exact⟨typeIs_str s z t,λ_ e=>nomatch e⟩
 | int i=>
  obtain⟨t,rfl⟩:=r
  cases(show T = "int" from ty)
  exact⟨typeIs_int s i t,λ_ e=>nomatch e⟩
 | ref p=>
  cases r
  rcases ty with ⟨rfl,xs,hq⟩ | ⟨rfl,o,hk,hc,hd⟩ | ⟨rfl,hk⟩ | ⟨rfl,S,n,hk⟩
  ·obtain⟨its,_,pl,_⟩:=I.list hq
   refine⟨pl.isList.typeIs,λa e=>?_⟩
   cases e
   obtain⟨o,n,e,c,hd,_⟩:=pl
   exact⟨o,e,hd⟩
  ·refine⟨⟨o,I.kIn p o hk,hc⟩,λa e=>?_⟩
   cases e
   exact⟨o,I.kIn _ o hk,hd⟩
  ·have z:∃ o,s.heap.get? p=some o/\o.ExactDict:=by
    rcases hk with ⟨kvs,hk⟩ | ⟨kvs,hk⟩
    ·obtain⟨_,_,_,_,o,_,_,e,ex,_⟩:=I.hok p _ hk
     exact⟨o,e,ex⟩
    ·obtain⟨_,_,_,_,o,_,_,e,ex,_⟩:=I.hok p _ hk
     exact⟨o,e,ex⟩
   obtain⟨o,e,ex⟩:=z
   refine⟨⟨o,e,ex.1⟩,λa e2=>?_⟩
   cases e2
   exact⟨o,e,ex.2.1⟩
  ·obtain⟨o,_,_,_,e,ex,_⟩:=I.hok p _ hk
   refine⟨⟨o,e,ex.1⟩,λa e2=>?_⟩
   cases e2
   exact⟨o,e,ex.2.1⟩
 | _=>exact False.elim ty
def tBM(K:Fg)(T:String)(r:V->List V->Hp->VK->Prop)(to:TE)(t:TA):TE:=λσ H Q=>to σ H λx H1=>tyV K T x H1/\t σ H1 λxs H2=>r x xs H2 Q
variable{o e:Expr}{es:List Expr}{to:TE}{t:TA}{name:Str}{apos cpos:Pos}{T id:String}{r:V->List V->Hp->VK->Prop}
def pe_bm(pa:PlainAttrs T)(slot:Slot T name id)(hty:typeOf (.builtin id)=pure (.type "method_descriptor")) (hm:MtR X id r) (ho:PE X o to) (ha:PA X (e::es) t)
  (hbase:attributeBase o name X.env (eval o X.env)=eval o X.env:=by rfl)
  (hfew:((backTo cpos (starEach (e::es) X.env)).all (λx=>!x.1)&&(backToKw cpos (keywordEach [] X.env)).all (λx=>x.1.isSome)
   && decide ((e::es).length+([]:List Keyword).length+(if([]:List Keyword).isEmpty then 0 else 1)<30))=true:=by rfl)
  (hline:(apos.endLine==cpos.line)=true:=by rfl) (hs:starEach (e::es) X.env=(false,eval e X.env)::starEach es X.env:=by rfl) (hplain:(backTo cpos (starEach es X.env)).any (·.1)=false:=by rfl) :
  PE X (.Call (.Attribute o name apos) (e::es) [] cpos) (tBM X.K T r to t):=by
 intro pins s σ H Q I h
 refine wpAny_Call_method_late hbase hfew hline rfl (thn (ho pins s σ H _ I h) λv s1 ⟨x,H1,I1,r1,ty,q1⟩=>?_)
 obtain⟨h1,h2⟩:=tyV_is I1 r1 ty
 exists T,id,pa,slot,hty,h1,h2
 have hA:=ha cpos pins s1 σ H1 _ I1 q1
 rw[hs]at hA ⊢
 refine Calls.callWith_builtin (by show(false||(backTo cpos (starEach es X.env)).any (·.1))=false;rw[hplain] <;> rfl) (Calls.evalArgs_plain ?_)
 exact thn hA λus s2 ⟨vs,H2,I2,r2,q2⟩=>hm pins s2 σ H2 x vs v us Q I2 r1 r2 q2
/- xs.append(e),list.index on a module's tuple .. are MtR facts of 06m -/
end
def MtM(X:Cx)(id:String)(r:V->List V->Hp->VK->Prop):Prop:=
 ∀(pins:List (Addr×Obj)) (s:Shared) (σ:St) (H:Hp) (x:V) (xs:List V) (v:Value) (us:List Value) (Q:VK),Inv X pins σ H s->RelV x v->Vals xs us->r x xs H Q ->
  wpAny (model X.prog X.w) X.A (call (.builtin id) (v::us)) (EP X pins σ Q) X.xe s
theorem Vals.one:∀{x:V}{us:List Value},Vals [x] us -> ∃ u,us=[u]/\RelV x u
 | _,_,.cons r .nil=>⟨_,rfl,r⟩
theorem Vals.rep{xs:List V}{us:List Value}(h:Vals xs us):∀ k:Nat,Vals (List.replicate k xs).flatten (List.replicate k us).flatten
 | 0=>.nil
 | k+1=>by
  rw[replicate_succ,replicate_succ,flatten_cons,flatten_cons]
  exact Vals.append h (Vals.rep h k)
theorem q458(its:List Value):∀(k:Nat)(acc:List Value),
  List.foldl (λx1 x2=>x1++x2) acc.toArray (List.replicate k its.toArray)=(acc++(List.replicate k its).flatten).toArray
 | 0,acc=>by simp
 | k+1,acc=>by
  have e:acc.toArray++its.toArray=(acc++its).toArray:=by simp
  have e2:(acc++its)++(List.replicate k its).flatten=acc++(List.replicate (k+1) its).flatten:=by
   rw[replicate_succ,flatten_cons,YF]
  rw[<- e2,<- q458 its k (acc++its),<- e,replicate_succ,foldl_cons]
section
variable {pins:List (Addr×Obj)}{σ:St}{H:Hp}{s:Shared}{l b:Addr}{xs ys zs:List V}
def Inv.lset{its its':List Value}{n:Nat}{f:Array Value->Array Value}{t':Nat}(I:Inv X pins σ H s)(hH:H l=some (.lst xs))
  (e:s.heap.get? l=some { cls:=.type "list", data:=.seq its.toArray n }) (hf:f its.toArray=its'.toArray) (hv:Vals ys its') (hz:ys.length<=sizeLine) :
  Inv X pins σ (upd H l (.lst ys)) { s with heap:=s.heap.update l (Obj.mapSeq f),toks:=t' }:=by
 have q:=PySem.IsL.update e f
 rw[hf]at q
 refine I.write (x:=l) (e:=l) (by rw[hH];exact trivial) (.inl rfl) (λb' u hb hu=>(Heap.get?_update_other s.heap (Obj.mapSeq f) (Ne.symm hb)).trans hu) ⟨_,q⟩ ?_
 exact⟨hz,its',_,hv,q⟩
def Inv.lnew{t':Nat}(I:Inv X pins σ H s)(hv:Vals ys its)(hz:ys.length<=sizeLine) :
  Inv X pins σ (upd H s.heap.objs.size (.lst ys)) { s with heap:=s.heap.push { cls:=.type "list", data:=.seq its.toArray },toks:=t' }:=
 I.laid (λ_ _ q=>ZH _ q) (ZG _) ⟨hz,its,0,hv,ZV _ rfl⟩
def Inv.fresh(I:Inv X pins σ H s):H s.heap.objs.size=none:=I.hok.fresh (ZG _)
def Inv.lstM(I:Inv X pins σ H s)(hH:H l=some (.lst xs)):xs.length<=sizeLine /\ ∃(its:List Value)(n:Nat),Vals xs its/\xs.length=its.length/\s.heap.get? l=some { cls:=.type "list", data:=.seq its.toArray n }:=by
 obtain⟨z,its,n,r,e⟩:=I.hok l _ hH
 exact⟨z,its,n,r,r.length,e⟩
def notLongL{n:Nat}(h:n<=sizeLine):Builtin.List.listTooLong n=false:=by
 unfold Builtin.List.listTooLong
 exact ZN {}
end
inductive rAppend  (x:V) (vs:List V) (H:Hp) (Q:VK):Prop
 |mk(l xs y)(_:x = .ref l)(_:vs=[y])(_:H l=some (.lst xs))(_:xs.length<sizeLine)(_:Q .non (upd H l (.lst (xs++[y]))))
def q42:MtM X "list.append" rAppend:=by
 intro pins s σ H x vs v us Q I rx rv h
 obtain⟨l,xs,y,rfl,rfl,hH,hz,q⟩:=h
 cases rx
 obtain⟨u,rfl,ru⟩:=rv.one
 obtain⟨z,its,n,r,hl,e⟩:=I.lstM hH
 refine call_meets F.slot_list_append ⟨_,e,rfl⟩ F.entry_list_append (F.args_list_append_2 _ _) (PySem.list_append l its.toArray n u (by rw[WB];lia)) ⟨e,?_⟩
 refine⟨.non,_,I.lset (its':=its++[u]) hH e (by simp) (r.append (.cons ru .nil)) ?_,rfl,q⟩
 rw[ZQ,length_singleton]
 lia
inductive rCat  (x:V) (y:V) (H:Hp) (Q:VK):Prop
 |mk(l b xs zs)(_:x = .ref l)(_:y = .ref b)(_:H l=some (.lst xs))(_:H b=some (.lst zs))(_:xs.length+zs.length<=sizeLine)(_:∀ p,H p=none->Q (.ref p) (upd H p (.lst (xs++zs))))
def q109:OpR X (binaryOp .Add) rCat:=by
 intro pins s σ H x y v u Q I rx ry h
 obtain⟨l,b,xs,zs,rfl,rfl,hH,hB,hz,q⟩:=h
 cases rx
 cases ry
 obtain⟨z,its,n,r,hl,e⟩:=I.lstM hH
 obtain⟨z2,its2,n2,r2,hl2,e2⟩:=I.lstM hB
 refine PySem.P.add_list e e2 ?_ (by rw[WB,WB];lia)
 have ea:its.toArray++its2.toArray=(its++its2).toArray:=by simp
 rw[ea]
 exact⟨.ref _,_,I.lnew (t':=s.toks) (r.append r2) (by rw[ZQ];lia),rfl,q _ I.fresh⟩
inductive rRep  (x:V) (y:V) (H:Hp) (Q:VK):Prop
 |mk(l k xs)(_:x = .ref l)(_:y = .int k)(_:H l=some (.lst xs))(_:-(2^63)<=k)(_:k<2^63)(_:xs.length*k.toNat<=sizeLine)(_:∀ p,H p=none->Q (.ref p) (upd H p (.lst (List.replicate k.toNat xs).flatten)))
def len_rep{α:Type}(xs:List α)(k:Nat):(List.replicate k xs).flatten.length=k*xs.length:=by
 induction k with
 | zero=>simp
 | succ k ih=>rw[replicate_succ,flatten_cons,ZQ,ih,Nat.succ_mul,Nat.add_comm]
def op_rep:OpR X (binaryOp .Mult) rRep:=by
 intro pins s σ H x y v u Q I rx ry h
 obtain⟨l,k,xs,rfl,rfl,hH,h1,h2,hz,q⟩:=h
 cases rx
 obtain⟨t,rfl⟩:=ry
 obtain⟨z,its,n,r,hl,e⟩:=I.lstM hH
 have hlen:its.toArray.size*k.toNat<=sizeLine:=by rw[WB,<- hl];exact hz
 have hcap:¬ its.toArray.size*k.toNat > (2^63-1)/8:=by
  have:(sizeLine:Nat)<=(2^63-1)/8:=∅
  lia
 have hfit:¬(!Builtin.List.listFitsIndex k)=true:=by
  rw[fitsIndex_both h1 h2]
  exact fnt
 have hlong:¬ Builtin.List.listTooLong (its.toArray.size*k.toNat)=true:=by
  rw[notLongL hlen]
  exact fnt
 have hnew:List.foldl (λx1 x2=>x1++x2) #[] (List.replicate (if its.toArray.isEmpty=true then 0 else k.toNat) its.toArray)=(List.replicate k.toNat its).flatten.toArray:=by
  have f0:∀ m:Nat,List.foldl (λx1 x2=>x1++x2) #[] (List.replicate m its.toArray)=(List.replicate m its).flatten.toArray:=λm=>by
   have:=q458 its m []
   rw[nil_append]at this
   exact this
  rw[f0]
  cases its with
  | nil=>simp
  | cons a r'=>rw[ZI (by simp)]
 refine wpAny_binaryOp_repeat_ref (T := "list") (U := "int") ∅ ⟨_,e,rfl⟩ (λs'=>typeIs_int s' k t) noFill_list_mul F.fills_int_mul F.slot_int_rmul repeat_list F.slot_int_index.lookup
  (call_meets F.slot_int_rmul (typeIs_int s k t) F.entry_int_rmul (F.args_int_rmul_2 _ _) (int___rmul___int_list k t l its.toArray n)
   ⟨e,rfl,⟨_,e,rfl⟩,call_meets F.slot_list_mul ⟨_,e,rfl⟩ F.entry_list_mul (F.args_list_mul_2 _ _) (AutoListH.list___mul___list_int_3 l its.toArray n k t hfit hcap hlong) ⟨e,?_⟩⟩)
 rw[hnew]
 exact⟨.ref _,_,I.lnew (t':=s.toks) (r.rep k.toNat) (by rw[len_rep,Nat.mul_comm];exact hz),rfl,q _ I.fresh⟩
section
variable {prog:Program}{w:World}{A:Around}{E:VS}{s:Shared}
set_option maxRecDepth 100000 in
end
end L2
namespace Att
set_option autoImplicit false
open PySem PySem.W PySem.Calls PyProof.Rows
def q303{P:Params}{h:Heap}:∀(ns:List Int)(vs:List Value),WellAll P h vs (ns.map WData.int)->IntsAre vs ns:=by
 intro ns
 induction ns with
 | nil=>
  intro vs w
  rw[List.map_nil]at w
  cases w
  exact .nil
 | cons n ns ih=>
  intro vs w
  rw[List.map_cons]at w
  cases w with
  | cons a b=>
   cases a
   exact .cons _ _ (ih _ b)
theorem q684{l:OpenLaw}{n:Nat}(hn:l.most=some n){P:Params}{h:Heap}{args:List WData}{vals:List Value}
  (hpre:l.row.toRowW.claim.pre args=true) (hwl:WellAll P h vals args) :
  ∃ a vs ns,vals=[Value.ref a]/\args=[WData.list (ns.map WData.int)]/\h.get? a=some { cls:=.type "list", data:=.seq vs.toArray }/\IntsAre vs ns/\ns.length<=n:=by
 have hsh:WShape.hasAll [] args [.list .int]=true:=(pre_splitW hpre).1
 have hc:l.pre.holds [] { args:=args }=true:=(pre_splitW hpre).2
 obtain⟨d,r,rfl,h1,h2⟩:=hasAllW_cons hsh
 obtain rfl:=hasAllW_nil h2
 obtain⟨xs,rfl,h3⟩:=hasW_list h1
 obtain⟨ns,rfl⟩:=items_int h3
 have hlen:ns.length<=n:=by
  unfold OpenLaw.pre at hc
  have h4:(WTm.not (.lt (.lit (.int (n:Int))) (.len (.arg 0)))).holds [] { args:=[.list (ns.map .int)] }=true:=by
   have h4:=(holds_andW hc).1
   rw[hn]at h4
   exact h4
  have h5:=condW_of h4 (w_not (w_lt w_lit (w_len_list (w_arg rfl))))
  rw[List.length_map]at h5
  refine Nat.le_of_not_lt λq=>?_
  have q':(n:Int)<((ns.length:Nat):Int):=(W91 q)
  first
   | (rw[ZA q']at h5;exact absurd h5 ∅)
   | (simp at h5;lia)
 cases hwl with
 | cons w1 w2=>
  cases w2
  cases w1 with
  | list ho hall=>exact⟨_,_,ns,rfl,rfl,ho,q303 ns _ hall,hlen⟩
def q685(l:OpenLaw)(args:List WData):l.row.toRowW.claim.post args (.bool true) args=true:=
 postW_of (r:=l.row.toRowW) (X:=(true==true))
  (show WShape.has [] (.bool true) .bool=true by first | rfl | decide | simp[WShape.has,WShape.arms,WShape.armsAll])
  (show(WTm.eq .res (.lit (.bool true))).value [] { args:=args,res:=some (.bool true),after:=args }=some (.bool (true==true))from w_eq_bool (w_res rfl) w_lit) rfl
def q784{l:OpenLaw}{n:Nat}{q:Program}{loose:List Str}{XP:(Mg)->Heap->Prop}{YP:World->Heap->Prop}{d:DefRec}
  (hn:l.most=some n) (hdf:d.params.defaults=[])
  (call:∀(w:World)(s₀ s₁:Shared)(mg mb:Mg)(fa:Addr)(o:Obj)(pm cd doc:Value)(a:Addr)(vs:List Value)(ns:List Int),
   Ground q loose [] XP w s₀ mg mb s₁.heap->YP w s₁.heap ->
   s₁.heap.get? fa=some o->o.data = .func (docDef d.name d.params d.body d.scope pm cd doc)->s₁.heap.CodeRec cd d.name->mg d.name=some (.ref fa) ->
   s₁.heap.get? a=some { cls:=.type "list", data:=.seq vs.toArray }->IntsAre vs ns->ns.length<=n->s₁.gens = #[] ->
   codeAny (model l.prog w) callerA (.call (.ref fa) ⟨[.ref a],[]⟩) (λr s'=>r = .ok (.ret (.bool true))/\OldK s₁.heap s'.heap/\s'.os=s₁.os/\AllBare s'.gens) s₁) :
  WalkO q loose XP YP l.row.toRowW d [] (λf vs=>PySem.call f vs):=by
 intro w s₀ s₁ mg mb G Y fa o pm cd doc dV kV ho hd hcd hD hmg hg args vals as hpre hlay hrd hwl hlo
 obtain rfl:dV = .none:=Dflts.none hD hdf
 obtain rfl:kV = .none:=Dflts.noKw hD
 obtain⟨a,vs,ns,rfl,rfl,hobj,hints,hlen⟩:=q684 hn hpre hwl
 refine enter_call (codeAny_mono (call w s₀ s₁ mg mb fa o pm cd doc a vs ns G Y ho (fd_plain hd) hcd hmg hobj hints hlen hg) λr s' hq=>?_)
 obtain⟨rfl,h2,h3,h4⟩:=hq
 exact⟨.inl ⟨.bool true,.bool true,[],rfl,λ_=>rfl,.bool true,q685 l _,λ_=>⟨List.Pairwise.nil,λ_ hm=>(nomatch hm)⟩⟩,h2,h3,h4⟩
end Att
namespace L2
open PySem PySem.Spec PyProof.Rows List
variable {X:Cx}
theorem q304:∀{vs:List Value}{ns:List Int},IntsAre vs ns->Vals (ns.map V.int) vs
 | _,_,.nil=>.nil
 | _,_,.cons n t h=>.cons ⟨t,rfl⟩ (q304 h)
def Only(H:Hp):Prop:=∀ b,H b=none \/ ∃ o xs,H b=some (.frz o (.lst xs))
noncomputable abbrev KOf{K:Fg}{h:Heap}(_:K.In h):Fg:=K
end L2
/- THE LAST THEOREM (shape;LID,My.* are yours):
  My.Adr: a structure of the addresses that your layer names (classes,functions);My.Txt K t: a structure (Prop) of the equations over K;
  My.txt_mk:{K} {implicit addresses ..} (e1:nsIn K mainGlobals "law" = some (some (.ref f))) (e2:K.lookup f=some ⟨oc,od,.func (fnOf "law" "law" params body scope dV kV doc pm an cdv ct),sl⟩) (e3:codeIn K cdv "law" = true) .. : ∃ t,My.Txt K t
set_option maxRecDepth 100000 in
set_option maxHeartbeats 0 in
theorem PySem.Challenge.cw_LID_holds : PySem.Challenge.rw_LID.Holds := by
 w_on;o_law;k_head;(case hw=>w_witness2)
 k_fill
 refine L2.walk_of (l:=PySem.Challenge.rw_LID) (n:=63) (k:=40) (x := "script") (CX:=λw=>..) (sp:=λ_=>My.sp_law) rfl ∅ rfl ⟨rfl,∅,∅⟩ (λw h Y=>PySem.W.kIn_of Y) ?F ?S ?C
 case F=>
  intro w mg fa h KX G hmg
  have T:∃ t,My.Txt (L2.KOf KX) t:=by
   dsimp only [L2.KOf]                          -- K must stand as «<heap const> w.params» for k_is
   refine' My.txt_mk ?e1 ?e2 ?e3 ..
   (case e1=>PySem.W.k_is)                    -- in the order: a name->its address->its object->its parts
   (case e2=>PySem.W.k_is)
   ..
  obtain⟨t,T⟩:=T
  have e0:=hmg.symm.trans (PySem.W.mg_of KX G T.law)
  cases e0                                       -- fa is the law's own address
  exact⟨_,λs u=>.of_eq rfl,λbase kb nb=>My.law_fn T kb nb⟩     -- if «.of_eq rfl» comes too early: refine' ⟨_,?b,λbase kb nb=>My.law_fn T kb nb⟩;exact λs u=>.of_eq rfl
 case S=>exact λw H a ns hl hO hS=>..
 case C=>exact ..
(the tactic k_is has no namespace: write k_is) -/
namespace L2
open PySem PySem.Spec PyProof.Rows List
variable {X:Cx}
noncomputable def q125(s:Stmt):Arguments:=match s with
 | .FunctionDef _ a _ _ _ _ _ _ _ _=>a
 | _=>{ posonlyargs:=[],args:=[],vararg:=none,kwonlyargs:=[],kw_defaults:=[],kwarg:=none,defaults:=[] }
noncomputable def q91(s:Stmt):List Stmt:=match s with
 | .FunctionDef _ _ b _ _ _ _ _ _ _=>b
 | _=>[]
noncomputable def q16(s:Stmt):Scope:=match s with
 | .FunctionDef _ _ _ _ _ _ sc _ _ _=>sc
 | _=>{ kind:=.function,names:=[],isGenerator:=false,isCoroutine:=false }
abbrev CX0:CXT:=λ_ _ _ _ _ _=>False
abbrev E0:XK:=λ_ _ _=>False
def pass0:q678 CX0 X E0:=λ_ _ _ _ _ _ _ h=>h.elim
structure Fun(K:Fg)(x qual:Str)(st:Stmt)(f:Addr)(fd:FuncData):Prop where
 ex:∃(oc:Value) (od:Option Addr) (kV doc pm:Value) (an:Option Addr) (cdv ct:Value) (osl:Array (Option Value)),
  fd=PySem.W.fnOf x qual (q125 st) (q91 st) (q16 st) .none kV doc pm an cdv ct/\K.lookup f=some ⟨oc,od,.func fd,osl⟩/\PySem.W.codeIn K cdv qual=true
 kp:PySem.W.keepIn K (.ref f)=true
section
variable {P:Program}{w:World}{K:Fg}{mg:Mg}{base:Heap}
def Fun.ok{x qual:Str}{st:Stmt}{f:Addr}{fd:FuncData}{N ps:List Str}{k:Nat}{sp:Sp}(F:Fun K x qual st f fd)(S:FnScope N ps (q16 st))(len:∀ vs H Q E,sp vs H Q E->vs.length=ps.length)
  (hbody:∀(cdv:Value)(A:Around)(outer:List Env)(s:Shared)(H:Hp)(vs:List V)(Q:VK)(E:XK),Room k (A.deeper (envOfC qual (q16 st) s.heap.objs.size f cdv))->sp vs H Q E ->
   ∃ t,PSs (cxOf CX0 P w K mg base N qual (q16 st) f cdv A outer s H E).nox (q91 st) t/\t { nx:=λ_ H'=>Q .non H',rt:=Q } (start N vs) H):FnOk P w K mg base CX0 (k+1) f fd ps sp:=by
 obtain⟨oc,od,kV,doc,pm,an,cdv,ct,osl,rfl,lk,hcd⟩:=F.ex
 refine fn_of lk hcd S len λA outer s H vs Q E hr hsp=>?_
 obtain⟨t,h,q⟩:=hbody cdv A outer s H vs Q E hr hsp
 exact⟨t,h.nox,q⟩
def fun_mk{x qual:Str}{st:Stmt}{f:Addr}{oc:Value}{od an:Option Addr}{osl:Array (Option Value)}{kV doc pm cdv ct:Value}(l:K.lookup f=some ⟨oc,od,.func (PySem.W.fnOf x qual (q125 st) (q91 st) (q16 st) .none kV doc pm an cdv ct),osl⟩)
  (c:PySem.W.codeIn K cdv qual=true) (k:PySem.W.keepIn K (.ref f)=true):Fun K x qual st f (PySem.W.fnOf x qual (q125 st) (q91 st) (q16 st) .none kV doc pm an cdv ct):=⟨⟨oc,od,kV,doc,pm,an,cdv,ct,osl,rfl,l,c⟩,k⟩
end
def q52{n:Nat}(h:n<=1000):n<sizeLine:=Nat.lt_of_le_of_lt h ∅
def pv(i:Nat){pos:Pos}(hN:X.N[i]? = some x:=by rfl)(hv:Vis X.env.scope x:=by walk_at "b") (hd:(x==("__debug__" : Str))=false:=by decide)
  (hcd:(x==("__classdict__" : Str))=false:=by decide):PE X (.Name x pos) (tVar i):=q667 hN hv hd hcd
def iteF{A B:Prop}(h:B):if false=true then A else B:=by
 rw[ZI fnt]
 exact h
def iteT{A B:Prop}(h:A):if true=true then A else B:=by
 rw[ZL rfl]
 exact h
def ite2{c A B:Prop}[Decidable c](h1:c->A)(h2:¬ c->B):if c then A else B:=by
 by_cases h:c
 ·rw[ZL h]
  exact h1 h
 ·rw[ZI h]
  exact h2 h
def iteNS{c A B:Prop}[Decidable c](hc:c)(h:B):if(!decide c)=true then A else B:=by
 rw[ZA hc]
 exact iteF h
def Same(H H':Hp):Prop:=∀ b o,H b=some o->H' b=some o
def Same.refl(H:Hp):Same H H:=λ_ _ h=>h
def Same.trans(a:Same H H1)(b:Same H1 H2):Same H H2:=λc o h=>b c o (a c o h)
def Same.free(e:Same H H')(h:H' l=Option.none):H l=Option.none:=by
 cases q:H l with
 | none=>rfl
 | some o=>
  rw[e l o q]at h
  cases h
def Same.seq{K:Fg}{H H':Hp}{a:Addr}{xs:List V}(e:Same H H')(h:SqL K H a xs):SqL K H' a xs:=by
 rcases h with (h | ⟨o,h⟩) | h
 ·exact .inl (.inl (e _ _ h))
 ·exact .inl (.inr ⟨o,e _ _ h⟩)
 ·exact .inr h
def q17(h:H p=none)(o:HO):Same H (upd H p o):=λb u q=>by rw[q27 (q26 q h)];exact q
structure Def(K:Fg)(mg:Mg)(x:Str)(st:Stmt)(ps:List Str):Prop where
 ex:∃(f:Addr)(fd:FuncData),Fun K x x st f fd/\(∀ us:List Value,us.length=ps.length->bindArgs fd ⟨us,[]⟩=pure (ps.zip us))/\mg x=some (.ref f)
def q791{K:Fg}{h:Heap}{mg:Mg}{x:Str}{st:Stmt}{ps:List Str}{f:Addr}{oc:Value}{od an:Option Addr}{osl:Array (Option Value)}{kV doc pm cdv ct:Value}
  (KX:K.In h) (G:h.Ns mainGlobals mg) (a:PySem.W.nsIn K mainGlobals x=some (some (.ref f)))
  (l:K.lookup f=some ⟨oc,od,.func (PySem.W.fnOf x x (q125 st) (q91 st) (q16 st) .none kV doc pm an cdv ct),osl⟩)
  (c:PySem.W.codeIn K cdv x=true) (k:PySem.W.keepIn K (.ref f)=true)
  (b:∀(kV doc pm:Value)(an:Option Addr)(cdv ct:Value)(us:List Value),us.length=ps.length->bindArgs (PySem.W.fnOf x x (q125 st) (q91 st) (q16 st) .none kV doc pm an cdv ct) ⟨us,[]⟩=pure (ps.zip us)) :
  Def K mg x st ps:=⟨f,_,fun_mk l c k,b kV doc pm an cdv ct,PySem.W.mg_of KX G a⟩
structure Cal(P:Program)(w:World)(K:Fg)(mg:Mg)(base:Heap)(k:Nat)(x:Str)(ps:List Str)(sp:Sp):Prop where
 ex:∃(f:Addr)(fd:FuncData),FnOk P w K mg base CX0 k f fd ps sp/\Binds K fd ps []/\PySem.W.keepIn K (.ref f)=true/\mg x=some (.ref f)
def Def.cal{P:Program}{w:World}{K:Fg}{mg:Mg}{base:Heap}{k:Nat}{x:Str}{st:Stmt}{ps:List Str}{sp:Sp}(d:Def K mg x st ps)
  (F:∀(f:Addr)(fd:FuncData),Fun K x x st f fd->FnOk P w K mg base CX0 k f fd ps sp):Cal P w K mg base k x ps sp:=by
 obtain⟨f,fd,h1,h2,h3⟩:=d.ex
 exact⟨f,fd,F f fd h1,.all h2,h1.kp,h3⟩
section
variable {k:Nat}{x:Str}{ps:List Str}{sp:Sp}{p pos:Pos}{e:Expr}{es:List Expr}{t:TA}
def pe_fn(c:Cal X.prog X.w X.K X.mg X.base k x ps sp)(hr:Room k X.A)(hg:Gl X x)(ha:PA X (e::es) t)(hdb:(x==("__debug__" : Str))=false:=by decide)
  (he:starEach (e::es) X.env=(false,eval e X.env)::starEach es X.env:=by rfl) (hpl:(backTo pos (starEach es X.env)).any (·.1)=false:=by rfl) :
  PE X (.Call (.Name x p) (e::es) [] pos) (tCall sp [] E0 t):=by
 obtain⟨f,fd,F,B,kp,m⟩:=c.ex
 exact pe_call F hr hg m kp B .nil pass0 ha hdb he hpl
end
def q624{n:Nat}(h:n<10^60):n.log2<9000:=by
 by_cases h0:n=0
 ·subst h0;decide
 ·have h1:n.log2<200:=(Nat.log2_lt h0).mpr (WG h ∅)
  lia
def q69:OpR X (binaryOp .FloorDiv) (rI (λ_ j=>0<j/\j<10^60) λi j=>.int (i/j)):=opI λi j _ _ _ _ _ hc q=>by
 have h1:(0:Int)<j:=hc.1
 have h2:j<10^60:=hc.2
 exact floordiv_int {} (by rw[Int.fdiv_eq_ediv_of_nonneg i {}];exact q) (.inl (PyProof.noPylong_of_log2 (q624 {})))
inductive q686(K:Fg)(xs:List V)(H:Hp)(Q:VK):Prop
 |mk(x c t b)(_:xs=[x,.ty c])(_:TyOf K H x t)(_:PySem.W.kitOne K t (.type c)=some b)(_:Q (.bl b) H)
def q203:CallR X (.builtin "isinstance") (q686 X.K):=by
 intro pins s σ H xs us Q I r h
 obtain⟨x,c,t,b,rfl,ty,e,q⟩:=h
 obtain⟨u,w',rfl,ru,rw'⟩:=vals2 r
 cases rw'
 exact q677 I ru ty e λtk=>⟨.bl b,H,I.tok tk,rfl,q⟩
inductive Rop_catU(K:Fg)(x:V)(y:V)(H:Hp)(Q:VK):Prop
 |mk(a b xs ys)(_:x = .ref a)(_:y = .ref b)(_:SqT K H a xs)(_:SqT K H b ys)(_:xs.length+ys.length<=sizeLine)(_:∀ p H',Same H H'->SqT K H' p (xs++ys)->(H a=some (.tup xs)->H b=some (.tup ys)->H' p=some (.tup (xs++ys)))->Q (.ref p) H')
def op_catU:OpR X (binaryOp .Add) (Rop_catU X.K):=by
 intro pins s σ H x y v u Q I rx ry h
 obtain⟨a,b,xs,ys,rfl,rfl,ha,hb,hz,q1⟩:=h
 cases rx
 cases ry
 obtain⟨its,r1,p1,_⟩:=I.tuple ha
 obtain⟨its2,r2,p2,_⟩:=I.tuple hb
 have hz':its.length+its2.length<=sizeLine:=by rw[<- r1.length,<- r2.length];exact hz
 obtain⟨⟨cls,dd,data,sl⟩,ho,hc,n,hd⟩:=id p1
 obtain⟨⟨cls2,dd2,data2,sl2⟩,ho2,hc2,n2,hd2⟩:=id p2
 simp only at hc hd hc2 hd2
 subst hc hd hc2 hd2
 have e:its.toArray++its2.toArray=(its++its2).toArray:=by simp
 by_cases hv:its=[]
 ·have hx:xs=[]:=r1.nil_iff.mp hv
  subst hx
  exact concat_meets ⟨_,ho,rfl⟩ ⟨_,ho2,rfl⟩ noFill_tuple_add seq_tuple_add PySem.F.slot_tuple_add PySem.F.entry_tuple_add (PySem.F.args_tuple_add_2 _ _)
   (tuple_addW0 a b its.toArray its2.toArray n n2 dd dd2 sl sl2 (by simp[hv])) ⟨ho,ho2,⟨.ref b,H,I,rfl,q1 b H (Same.refl H) (by simpa using hb) (λ_ z=>by simpa using z)⟩⟩
 ·by_cases hw:its2=[]
  ·have hy:ys=[]:=r2.nil_iff.mp hw
   subst hy
   exact concat_meets ⟨_,ho,rfl⟩ ⟨_,ho2,rfl⟩ noFill_tuple_add seq_tuple_add PySem.F.slot_tuple_add PySem.F.entry_tuple_add (PySem.F.args_tuple_add_2 _ _)
    (tuple_addW1 a b its.toArray its2.toArray n n2 dd dd2 sl sl2 (by simpa using hv) (by simp[hw])) ⟨ho,ho2,⟨.ref a,H,I,rfl,q1 a H (Same.refl H) (by simpa using ha) (λz _=>by simpa using z)⟩⟩
  ·refine concat_meets ⟨_,ho,rfl⟩ ⟨_,ho2,rfl⟩ noFill_tuple_add seq_tuple_add PySem.F.slot_tuple_add PySem.F.entry_tuple_add (PySem.F.args_tuple_add_2 _ _)
    (tuple_addW2 a b its.toArray its2.toArray n n2 dd dd2 sl sl2 (by simpa using hv) (by simpa using hw) (by rw[WB,WB];exact hz')) ⟨ho,ho2,?_⟩
   rw[e]
   refine⟨.ref s.heap.objs.size,_,I.laid (t':=s.toks) (o:=.tup (xs++ys)) (λb ob q=>ZH _ q) (ZG _) ?_,rfl,q1 _ _ (q17 (I.hok.fresh (ZG _)) _) (SqT.of q14) (λ_ _=>q14)⟩
   exact⟨by rw[ZQ];exact hz,_,r1.append r2,IsTup.new _ _⟩
section
def bt_int:bootBuiltins "int" = some (.type "int"):=by decide +kernel
def bt_bool:bootBuiltins "bool" = some (.type "bool"):=by decide +kernel
def bt_str:bootBuiltins "str" = some (.type "str"):=by decide +kernel
def q204:bootBuiltins "tuple" = some (.type "tuple"):=by decide +kernel
def bt_len:bootBuiltins "len" = some (.builtin "len"):=by decide +kernel
def q70:bootBuiltins "isinstance" = some (.builtin "isinstance"):=by decide +kernel
def bt_max:bootBuiltins "max" = some (.builtin "max"):=by decide +kernel
def bt_min:bootBuiltins "min" = some (.builtin "min"):=by decide +kernel
def bt_all:bootBuiltins "all" = some (.builtin "all"):=by decide +kernel
def q687:bootBuiltins "sum" = some (.builtin "sum"):=by decide +kernel
def q139:bootBuiltins "sorted" = some (.builtin "sorted"):=by decide +kernel
end
section
variable {K:Fg}
def q517:PySem.W.kitOne K (.type "int") (.type "int")=some true:=by kernel_rfl
def q459:PySem.W.kitOne K (.type "int") (.type "bool")=some false:=by kernel_rfl
def q518:PySem.W.kitOne K (.type "str") (.type "str")=some true:=by kernel_rfl
end
def Keep(p:Addr)(H H':Hp):Prop:=∀ b o,b≠p->H b=some o->H' b=some o
def Keep.refl(p:Addr)(H:Hp):Keep p H H:=λ_ _ _ h=>h
def Keep.trans(a:Keep p H H1)(b:Keep p H1 H2):Keep p H H2:=λc o n h=>b c o n (a c o n h)
def Keep.same(s:Same H H'):Keep p H H':=λb o _ h=>s b o h
def Keep.set(p:Addr)(H:Hp)(o:HO):Keep p H (upd H p o):=λb u n h=>by rw[q27 n];exact h
def Keep.new(h:H q=none)(o:HO):Keep p H (upd H q o):=.same (q17 h o)
def Same.seqT{K:Fg}{H H':Hp}{a:Addr}{xs:List V}(e:Same H H')(h:SqT K H a xs):SqT K H' a xs:=by
 rcases h with (h | ⟨o,h⟩) | h
 ·exact .inl (.inl (e _ _ h))
 ·exact .inl (.inr ⟨o,e _ _ h⟩)
 ·exact .inr h
def sz{n:Nat}(h:n<=1000):n<=sizeLine:=Nat.le_of_lt (q52 h)
def szb{n:Nat}(h:Nat.ble n 1000=true):n<=sizeLine:=sz (Nat.le_of_ble_eq_true h)
def q126{l:List Int}{i:Int}(h0:0<=i)(h1:i<(l.length:Int)):∃ v,v∈l/\atI (l.map V.int) i=some (.int v):=by
 have hk:i.toNat<l.length:={}
 have ek:i=((i.toNat:Nat):Int):={}
 have q:atI (l.map V.int) ((i.toNat:Nat):Int)=some (.int l[i.toNat]):=q44 (by rw[WH,ZM hk] <;> rfl)
 rw[<- ek]at q
 exact⟨l[i.toNat],getElem_mem hk,q⟩
noncomputable def relN(scope sc0:Scope):List (Str×NameKind):=scope.names.map λ(n,k)=>if(k == .free&&sc0.kind == .function&&sc0.names.lookup n==some .cell) then(n,.cell) else(n,k)
def q92(env:Env):List (Str×Addr)->Prop
 | []=>True
 | (n,c)::r=>env.cells.lookup n=some c/\q92 env r
theorem q92.look{env:Env}:∀{cl:List (Str×Addr)} {n:Str} {c:Addr},q92 env cl->cl.lookup n=some c->env.cells.lookup n=some c
 | [],_,_,_,h=>by cases h
 | (m,d)::r,n,c,hc,h=>by
  rw[lookup_cons]at h
  cases hx:n==m with
  | true=>
   rw[hx]at h
   cases h
   rw[eq_of_beq hx]
   exact hc.1
  | false=>
   rw[hx]at h
   exact q92.look hc.2 h
def q305{cl:List (Str×Addr)}(h:n∈cl.map (·.1)):∃ c,cl.lookup n=some c:=by
 induction cl with
 | nil=>cases h
 | cons p r ih=>
  obtain⟨m,d⟩:=p
  rw[lookup_cons]
  cases hx:n==m with
  | true=>exact⟨d,rfl⟩
  | false=>
   rcases eB h with e | e
   ·have e':n=m:=e
    rw[e',beq_self_eq_true]at hx
    cases hx
   ·exact ih e
structure CompOk(scope sc0:Scope)(x:Str)(N cn:List Str):Prop where
 has:∀ p∈relN scope sc0,(p.2 = .cell\/p.2 = .free)->p.1∈cn
 nc:∀ p∈scope.names,p.2 ≠ .cell
 names:∀ p∈scope.names,p.2 = .local->scope.names.lookup p.1=some .local
 hx:scope.names.lookup x=some .local
 hx':(relN scope sc0).lookup x=some .local
 nd:(x::N).Nodup
 frs:∀ y∈N,(relN scope sc0).lookup y=some .cell/\sc0.names.lookup y=some .cell/\y∈cn
noncomputable def q55(X:Cx)(scope:Scope)(cl:List (Str×Addr))(C:Addr)(x:Str)(N:List Str)(s₂:Shared)(H₂:Hp)(fp:List Addr):Cx where
 prog:=X.prog
 w:=X.w
 K:=X.K
 mg:=X.mg
 base:=X.base
 A:=X.A
 N:=x::N
 s₀:=s₂
 H₀:=H₂
 env:=compEnvC scope cl C X.env
 outer:=X.stack
 stack:=X.stack
 ex:=fp
 fn:=λ_=>false
 calm:=X.calm
 pn:=[]
 xe:=λ_ _=>False
noncomputable def tComp(wi:TI)(te:TE)(fr:List Nat):TE:=λσ H Q=>wi σ H λJ H1=>∀ D,H1 D=none -> ∃ W:Nat->Nat->List V->Hp->Prop,(∃ m,W 0 m [] (upd H1 D (.lst []))) /\
 ∀ i m ys H2,W i m ys H2->H2 D=some (.lst ys)/\((J.stop i H2/\Q (.ref D) H2)\/(J.go i H2/\ys.length<sizeLine /\ ∃ N:V->Hp->Prop,(∀ y H3,N y H3->H3 D=some (.lst ys) /\ ∃ m',m'<m/\W (i+1) m' (ys++[y]) (upd H3 D (.lst (ys++[y])))) /\
  ∀ x H',J.yld i H2 x H'->te (some x::fr.map λj=>(σ[j]?).getD none) H' N))
def q373{α:Type}:∀{l:List (Str×α)} {x:Str} {a:α},l.lookup x=some a->(x,a)∈l:=λh=>YM h
abbrev nbOf(prog:Program)(w:World)(A:Around)(env:Env)(R:Result->Shared->Prop):VS:=notedBy (model prog w) A env λe s'=>R (.error e) s'
noncomputable def PTs(X:Cx)(ifs:List Expr)(tt:TT):Prop:=
 ∀(pins:List (Addr×Obj)) (s:Shared) (σ:St) (H:Hp) (Q:Bool->Hp->Prop),Inv X pins σ H s->tt σ H Q ->
  wpAny (model X.prog X.w) X.A (forIn ifs true λc r=>if r=true then do let ok <- isTrue c X.env (eval c X.env);pure (ForInStep.yield ok)else pure (ForInStep.yield r)) (TP X pins σ Q) X.xe s
def q519:PTs X [] (λ_ H Q=>Q true H):=λ_ _ _ H _ I h=>wpAny_tests_nil ⟨H,I,h⟩
def q688(h:PT X cc tt):PTs X [cc] tt:=λpins s σ H Q I hw=>wpAny_tests_one (h pins s σ H Q I hw)
structure CompOkG(scope sc0:Scope)(N cn:List Str):Prop where
 has:∀ p∈relN scope sc0,(p.2 = .cell\/p.2 = .free)->p.1∈cn
 nc:∀ p∈scope.names,p.2 ≠ .cell
 names:∀ p∈scope.names,p.2 = .local->scope.names.lookup p.1=some .local
 frs:∀ y∈N,(relN scope sc0).lookup y=some .cell/\sc0.names.lookup y=some .cell/\y∈cn
noncomputable def tCompG(k:Nat)(wi:TI)(gt:TG)(tt:TT)(te:TE)(fr:List Nat):TE:=λσ H Q=>wi σ H λJ H1=>∀ D,H1 D=none -> ∃ W:Nat->Nat->List V->Hp->Prop,(∃ m,W 0 m [] (upd H1 D (.lst []))) /\
 ∀ i m ys H2,W i m ys H2->H2 D=some (.lst ys)/\((J.stop i H2/\Q (.ref D) H2)\/(J.go i H2/\ys.length<sizeLine /\ ∃(N:V->Hp->Prop)(Z:Hp->Prop),(∀ y H3,N y H3->H3 D=some (.lst ys) /\ ∃ m',m'<m/\W (i+1) m' (ys++[y]) (upd H3 D (.lst (ys++[y]))))/\(∀ H3,Z H3 -> ∃ m',m'<m/\W (i+1) m' ys H3) /\
  ∀ x H',J.yld i H2 x H' -> ∀ vs:St,vs.length=k->gt x (vs++fr.map λj=>(σ[j]?).getD none) H' λσ' H3=>(∃ vs':St,vs'.length=k/\σ'=vs'++fr.map λj=>(σ[j]?).getD none)/\tt σ' H3 λb H4=>if b=true then te σ' H4 N else Z H4))
section
variable {prog:Program}{w:World}{A:Around}{R:Result->Shared->Prop}{s:Shared}
theorem q625(I:Nat->Shared->Prop)
  (turn:∀ n s,I n s->wpAny (model prog w) A (pyNext it) (λr s₁=>match r with
   | none=>R (.ok .next) s₁
   | some v=>wpAny (model prog w) A (letOwnedTupleGo target it v) (λ_ s₁'=>wpAny (model prog w) A (assign target env v) (λ_ s₂=>
     wpAny (model prog w) A (forIn ifs true λc r=>if r=true then do let ok <- isTrue c env (eval c env);pure (ForInStep.yield ok)else pure (ForInStep.yield r)) (λokb s₂'=>if okb=true then
     wpAny (model prog w) A (eval elt env) (λx s₃=>wpAny (model prog w) A (call (.builtin "list.append") [acc,x]) (λ_ s₄=>∃ m,m<n/\I m s₄) (nbOf prog w A env R) s₃) (nbOf prog w A env R) s₂'
     else ∃ m,m<n/\I m s₂') (nbOf prog w A env R) s₂) (nbOf prog w A env R) s₁') (nbOf prog w A env R) s₁) (nbOf prog w A env R) s)
  (n:Nat) (h:I n s) :
  codeAny (model prog w) A (.compLoop (.ListComp elt [⟨target,itr,ifs,0⟩] scope pos) 0 it acc env) R s:=by
 refine codeAny_loop rfl I (λn s hI=>?_) n h
 show wpAny _ _ ((compTurn (.ListComp elt [⟨target,itr,ifs,0⟩] scope pos) 0 it acc env).onRaise (λx=>do noteFrame x env;theTreesLotGoes x)) _ _ s
 refine wpAny_noted ?_
 rw[compTurn_list]
 refine ZC (wpAny_standAt (ZC (YS (turn n s hI) (λr s₁ h₁=>?_) λ_ _ h'=>h')))
 cases r with
 | none=>exact ZP h₁
 | some v=>
  refine ZC (YS h₁ (λ_ s₁' h₁'=>ZC (YS h₁' (λ_ s₂ h₂=>ZC (YS h₂ (λokb s₂' h₂'=>?_) λ_ _ h'=>h')) λ_ _ h'=>h')) λ_ _ h'=>h')
  cases okb with
  | false=>exact ZP ⟨rfl,h₂'⟩
  | true=>exact ZC (ZC (YS h₂' (λx s₃ h₃=>ZC (YS h₃ (λ_ s₄ h₄=>ZP (ZP ⟨rfl,h₄⟩)) λ_ _ h'=>h')) λ_ _ h'=>h'))
end
def q237{X:Cx}{elt itr tg:Expr}{ifs:List Expr}{x:Str}{pos:Pos}{scope sc0:Scope}{cl:List (Str×Addr)}{cn TN N:List Str}{fr:List Nat}{gt:TG}{tt:TT}{te:TE}{pins:List (Addr×Obj)}{σ:St}{H2:Hp}{s2:Shared}{it:Addr}{fp:List Addr}
  {tn:Nat->Heap->Prop} {J:It} {RR:Value->Addr->Result->Shared->Prop} {R:Hp->Prop} {E:VS} {W:Nat->Nat->List V->Hp->Prop} {m0:Nat}
  (hc:X.calm=true) (he:∀(C:Addr)(s₂:Shared)(H₂:Hp)(fp:List Addr),PE (q55 X scope cl C x (TN++N) s₂ H₂ fp) elt te) (hct:∀(C:Addr)(s₂:Shared)(H₂:Hp)(fp:List Addr),PTs (q55 X scope cl C x (TN++N) s₂ H₂ fp) ifs tt) (hgt:∀(C:Addr)(s₂:Shared)(H₂:Hp)(fp:List Addr),PG (q55 X scope cl C x (TN++N) s₂ H₂ fp) tg gt)
  (hcl:q92 X.env cl) (hcn:cl.map (·.1)=cn) (hsc:X.env.scope=sc0) (hk:scope.kind = .function) (hok:CompOkG scope sc0 N cn) (hfr:fr.map (λj=>X.N[j]?)=N.map some)
  (I2:Inv X pins σ H2 s2) (T:Turn X.prog X.w X.K tg J fp it tn) (st2:tn 0 s2.heap) (f2:∀ b∈fp,FpOk X pins H2 b)
  (w0:W 0 m0 [] (upd H2 s2.heap.objs.size (.lst [])))
  (turn:∀ i m ys H,W i m ys H->H s2.heap.objs.size=some (.lst ys)/\((J.stop i H/\R H)\/(J.go i H/\ys.length<sizeLine /\ ∃(N:V->Hp->Prop)(Z:Hp->Prop),
   (∀ y H3,N y H3->H3 s2.heap.objs.size=some (.lst ys) /\ ∃ m',m'<m/\W (i+1) m' (ys++[y]) (upd H3 s2.heap.objs.size (.lst (ys++[y]))))/\(∀ H3,Z H3 -> ∃ m',m'<m/\W (i+1) m' ys H3) /\
   ∀ x H',J.yld i H x H' -> ∀ vs:St,vs.length=TN.length+1->gt x (vs++fr.map λj=>(σ[j]?).getD none) H' λσ' H3=>(∃ vs':St,vs'.length=TN.length+1/\σ'=vs'++fr.map λj=>(σ[j]?).getD none)/\tt σ' H3 λb H4=>if b=true then te σ' H4 N else Z H4)))
  (hRR:∀(C:Addr)(H6:Hp)(s6:Shared)(m6:Mg),s6.heap.Ns C m6->Inv X pins σ H6 s6->FpOk X pins H6 C->R H6->RR (.ref s2.heap.objs.size) C (.ok .next) s6) :
  wpAny (model X.prog X.w) X.A (newList []) (λacc s₃=>wpAny (model X.prog X.w) X.A (newFunctionEnv scope X.env.globals cl [] X.env.qual none .none (some X.env)) (λcenv s₄=>
   codeAny (model X.prog X.w) X.A (.compStart (.ListComp elt [⟨tg,itr,ifs,0⟩] scope pos) 0 (.ref it) acc { cenv with scope:=relabel scope X.env }) (RR acc cenv.locals) s₄) E s₃) E s2:=by
 refine YY (wpAny_newFunctionEnv hok.nc (by intro y hy;simp at hy) (λh4 hns hsb=>?_) hk)
 dsimp only at hns hsb ⊢
 have rel:∀ y,(compEnvC scope cl 0 X.env).scope.names.lookup y=(relN scope sc0).lookup y:=λy=>by
  show(relabel scope X.env).names.lookup y=_
  unfold relabel relN Env.kindOf
  rw[hsc]
 generalize hD:s2.heap.objs.size=D at *
 have I3:Inv X pins σ (upd H2 D (.lst [])) { s2 with heap:=s2.heap.push { cls:=.type "list", dict:=none,data:=.seq ([]:List Value).toArray } }:=
  I2.laid (t':=s2.toks) (λb u e=>ZH _ e) (Nat.le_of_eq hD) ⟨WA _,[],0,.nil,by rw[<- hD];exact ZV _ rfl⟩
 have k23:∀ b u,s2.heap.get? b=some u->(s2.heap.push { cls:=.type "list", dict:=none,data:=.seq ([]:List Value).toArray }).get? b=some u:=λb u e=>ZH _ e
 have hsz:s2.heap.objs.size<=(s2.heap.push { cls:=.type "list", dict:=none,data:=.seq ([]:List Value).toArray }).objs.size:=by rw[Heap.size_push];exact Nat.le_succ _
 generalize hh3:s2.heap.push { cls:=.type "list", dict:=none,data:=.seq ([]:List Value).toArray }=h3 at *
 have k34:∀ b u,h3.get? b=some u->h4.get? b=some u:=λb u e=>(hsb.2 b (WI (ZZ e))).trans (ZH _ e)
 generalize hC:h3.objs.size=C at *
 have I4:Inv X pins σ (upd H2 D (.lst [])) { s2 with heap:=h4,toks:=s2.toks+([]:List (Str×Value)).length }:=I3.kept (t':=s2.toks+0) k34
 generalize hH3:upd H2 D (.lst [])=H3 at *
 have ltC:∀ b o,s2.heap.get? b=some o->b<C:=λb o e=>WG (ZZ e) hsz
 have lenF:fr.length=N.length:=by simpa using congrArg List.length hfr
 have fpo:∀ b∈fp,b≠C/\b ∉ frs X.stack:=λb hb=>by
  obtain⟨o,e,_⟩:=T.obj 0 s2.heap st2 b hb
  refine⟨WI (ltC b o e),λz=>?_⟩
  obtain⟨_,n1,n2,_⟩:=f2 b hb
  rcases eB (I2.stkSub b z)with q | q
  ·exact n1 q
  ·exact n2 q
 have H3C:H3 C=none:=I3.hok.fresh (Nat.le_of_eq hC)
 have okX:(q55 X scope cl C x (TN++N) { s2 with heap:=h3 } H3 fp).Ok:=by
  refine⟨I2.ok.mod,hk,I2.ok.glob,I2.ok.blt,Nat.le_of_eq hC,λy z c e1 e2=>I2.ok.inj y z c (hcl.look e1) (hcl.look e2),λy hy=>?_,λy c z=>(fnt z).elim,λz=>I2.ok.hd z,I2.ok.frames,.inl rfl,
   λb hb=>⟨(fpo b hb).1,λy c e=>(f2 b hb).2.2.2.2.1 y c (hcl.look e)⟩,λb o e=>I3.bs b o e,ZO I2.ok.bsz I3.sz,λb o e hb=>?_,λb hb=>(fpo b hb).2,I3.stack,I3.stkFree⟩
  ·have hy':(relN scope sc0).lookup y=some .cell\/(relN scope sc0).lookup y=some .free:=by
    rcases hy with hy | hy
    ·exact .inl ((rel y).symm.trans hy)
    ·exact .inr ((rel y).symm.trans hy)
   have hm:y∈cn:=by
    rcases hy' with q | q
    ·exact hok.has (y,.cell) (q373 q) (.inl rfl)
    ·exact hok.has (y,.free) (q373 q) (.inr rfl)
   exact q305 (cl:=cl) (n:=y) (by rw[hcn];exact hm)
  ·rcases(f2 b hb).2.2.2.1 with z | z
   ·exact I2.ok.noex b o e z
   ·exact absurd (WG (ZZ e) (ZO I2.ok.bsz z)) (Nat.lt_irrefl _)
 have I5:Inv (q55 X scope cl C x (TN++N) { s2 with heap:=h3 } H3 fp) [] (List.replicate (TN.length+1) none++fr.map λj=>(σ[j]?).getD none) H3 { s2 with heap:=h4,toks:=s2.toks+([]:List (Str×Value)).length }:=by
  refine⟨okX,rfl,I4.bare,Un.kept k34,⟨_,hns,λi y v e1 e2 e3=>?_⟩,λy c e=>I4.cell y c (hcl.look e),H3C,λy c e=>I4.freeC y c (hcl.look e),λp hp=>absurd (show p∈([]:List (Addr×Obj))from hp) (by simp),I4.hok,by simp[q55,lenF];exact W14⟩
  by_cases hiT:i<TN.length+1
  ·exfalso
   rw[YX (by rw[length_replicate];exact hiT),getElem?_replicate,ZL hiT]at e2
   cases e2
  ·obtain⟨j,rfl⟩:∃ j,i=TN.length+1+j:=⟨i-(TN.length+1),{}⟩
   have e1':N[j]? = some y:=by
    have e1b:(x::(TN++N))[TN.length+1+j]? = some y:=e1
    rw[show TN.length+1+j=(TN.length+j)+1 by exact W14,getElem?_cons_succ,YL {},show TN.length+j-TN.length=j by lia]at e1b
    exact e1b
   have e2':(fr.map λj=>(σ[j]?).getD none)[j]? = some (some v):=by
    rw[YL (by rw[length_replicate];lia),length_replicate,show TN.length+1+j-(TN.length+1)=j by lia]at e2
    exact e2
   obtain⟨k,ek⟩:∃ k,fr[j]? = some k:=by
    have:j<fr.length:=by rw[lenF];exact(eA e1').1
    exact⟨fr[j],ZM this⟩
   rw[WH,ek]at e2'
   have e2'':(σ[k]?).getD none=some v:=Option.some.inj e2'
   have eσ:σ[k]? = some (some v):=by
    cases q:σ[k]? with
    | none=>rw[q]at e2'';cases e2''
    | some o=>rw[q]at e2'';exact congrArg some e2''
   have eN:X.N[k]? = some y:=by
    have z:=congrArg (λl=>l[j]?) hfr
    simp only[WH,ek,e1',Option.map_some]at z
    exact Option.some.inj z
   obtain⟨r1,r2,r3⟩:=hok.frs y (WY e1')
   obtain⟨m,_,hl⟩:=I4.loc
   obtain⟨u,ru,look⟩:=hl k y v eN eσ (.inr (.inl (by rw[hsc];exact r2)))
   refine⟨u,ru,.inr ⟨.inl ((rel y).trans r1),?_⟩⟩
   rcases look with ⟨l1,_⟩ | ⟨_,c,l1,l2⟩
   ·exfalso
    have l1':X.env.scope.names.lookup y=some .local:=l1
    rw[hsc,r2]at l1'
    cases l1'
   ·obtain⟨c',l3⟩:=q305 (cl:=cl) (n:=y) (by rw[hcn];exact r3)
    have l4:=hcl.look l3
    rw[l1]at l4
    cases l4
    exact⟨c,l3,l2⟩
 have st4:tn 0 h4:=T.keep 0 s2.heap h4 st2 λb hb o e=>k34 b o (k23 b o e)
 have fp5:∀{H':Hp},(∀ b∈fp,H' b=none) -> ∀ b∈fp,FpOk (q55 X scope cl C x (TN++N) { s2 with heap:=h3 } H3 fp) [] H' b:=λhn b hb=>
  ⟨hn b hb,(fpo b hb).1,(fpo b hb).2,.inl hb,λy c e=>(f2 b hb).2.2.2.2.1 y c (hcl.look e),λp hp=>absurd (show p∈([]:List (Addr×Obj))from hp) (by simp)⟩
 have fr3:∀ b∈fp,H3 b=none:=λb hb=>by
  obtain⟨o,e,_⟩:=T.obj 0 s2.heap st2 b hb
  have:b≠D:=WI (hD▸ZZ e)
  rw[<- hH3,q27 this]
  exact(f2 b hb).1
 have fin:∀(H6:Hp)(s6:Shared)(σ6:St),Inv (q55 X scope cl C x (TN++N) { s2 with heap:=h3 } H3 fp) [] σ6 H6 s6->Inv X pins σ H6 s6/\FpOk X pins H6 C:=by
  intro H6 s6 σ6 I6
  refine⟨I3.call' (s':=s6) (ch:=fp) I6.os ⟨I6.base.keep,I6.base.slot,I6.base.free,I6.base.there,I6.base.tups,I6.base.frzs,I6.base.tbls⟩ I6.hok I6.bare (λb hb=>?_),I3.fpOk (Nat.le_of_eq hC) I6.free⟩
  obtain⟨_,n1,_,n3,n4,n5⟩:=f2 b hb
  exact⟨n3,n1,n4,n5⟩
 have loop:codeAny (model X.prog X.w) X.A (.compLoop (.ListComp elt [⟨tg,itr,ifs,0⟩] scope pos) 0 (.ref it) (.ref D) (compEnvC scope cl C X.env))
   (RR (.ref D) C) { s2 with heap:=h4,toks:=s2.toks+([]:List (Str×Value)).length }:=by
  refine q625 (λn s'=>∃(i:Nat)(vs:St)(ys:List V)(H':Hp),vs.length=TN.length+1/\Inv (q55 X scope cl C x (TN++N) { s2 with heap:=h3 } H3 fp) [] (vs++fr.map λj=>(σ[j]?).getD none) H' s'/\tn i s'.heap/\(∀ b∈fp,H' b=none)/\W i n ys H') ?_ m0
   ⟨0,List.replicate (TN.length+1) none,[],H3,by simp,I5,st4,fr3,w0⟩
  rintro n s6 ⟨i,vs,ys,H6,hvs,I6,st6,fr6,w6⟩
  obtain⟨hDl,hw⟩:=turn i n ys H6 w6
  rcases hw with ⟨stop,qn⟩ | ⟨go,hlen,N',Z',hN',hZ',step⟩
  ·refine thn (T.done (q55 X scope cl C x (TN++N) { s2 with heap:=h3 } H3 fp) rfl rfl rfl hc i [] s6 _ H6 _ I6 (fp5 fr6) st6 stop) λr s7 ⟨hr,I7⟩=>?_
   subst hr
   obtain⟨m7,hn7,_⟩:=I7.loc
   obtain⟨J7,F7⟩:=fin H6 s7 _ I7
   exact hRR C H6 s7 m7 hn7 J7 F7 qn
  ·refine thn (T.item (q55 X scope cl C x (TN++N) { s2 with heap:=h3 } H3 fp) rfl rfl rfl hc i [] s6 _ H6 _ I6 (fp5 fr6) st6 go) λr s7 ⟨u,hr,h7⟩=>?_
   subst hr
   refine thn h7 λ_ s8 ⟨x8,H8,I8,r8,y8,st8,fr8⟩=>?_
   have I8':=I8.pinned (fp5 fr8) (T.obj _ _ st8)
   refine YS (hgt C { s2 with heap:=h3 } H3 fp _ s8 _ H8 x8 u _ I8' r8 (step x8 H8 y8 vs hvs)) (λ_ s9 h9=>?_) λ_ _ z=>False.elim z
   obtain⟨σ9,H9a,I9,⟨vs9,hl9,e9⟩,n9a⟩:=h9
   subst e9
   refine YS (hct C { s2 with heap:=h3 } H3 fp _ s9 _ H9a _ I9 n9a) (λokb s9b h9b=>?_) λ_ _ z=>False.elim z
   obtain⟨H9,I9b,n9⟩:=h9b
   cases okb with
   | false=>
    rw[ZI fnt]at n9 ⊢
    obtain⟨m',hm,w9⟩:=hZ' _ n9
    refine⟨m',hm,i+1,vs9,ys,_,hl9,I9b.unpinned,T.keep _ _ _ st8 λb hb o e=>(I9b.pin (b,o) (YC _ (YC _ (q99 hb e)))).1,λb hb=>?_,w9⟩
    obtain⟨o,e,d⟩:=T.obj _ _ st8 b hb
    exact(I9b.pin (b,o) (YC _ (YC _ (q99 hb e)))).2.1
   | true=>
    rw[ZL rfl]at n9 ⊢
    refine YS (he C { s2 with heap:=h3 } H3 fp _ s9b _ H9 _ I9b n9) (λy s10 h10=>?_) λ_ _ z=>False.elim z
    obtain⟨y10,H10,I10,r10,n10⟩:=h10
    obtain⟨hD10,m',hm,w10⟩:=hN' y10 H10 n10
    refine YS (q42 (X:=q55 X scope cl C x (TN++N) { s2 with heap:=h3 } H3 fp) _ s10 _ H10 (.ref D) [y10] (.ref D) [y] (λ_ H'=>H'=upd H10 D (.lst (ys++[y10]))) I10 rfl (.cons r10 .nil) ⟨D,ys,y10,rfl,rfl,hD10,hlen,rfl⟩) (λ_ s11 h11=>?_) λ_ _ z=>False.elim z
    obtain⟨_,H11,I11,_,e11⟩:=h11
    subst e11
    refine⟨m',hm,i+1,vs9,ys++[y10],_,hl9,I11.unpinned,T.keep _ _ _ st8 λb hb o e=>(I11.pin (b,o) (YC _ (YC _ (q99 hb e)))).1,λb hb=>?_,w10⟩
    obtain⟨o,e,d⟩:=T.obj _ _ st8 b hb
    exact(I11.pin (b,o) (YC _ (YC _ (q99 hb e)))).2.1
 exact codeAny_compStart_list loop (T.self _ 0 _ _ _ st4 loop)
def q412{X:Cx}(hsc:X.env.scope=sc0)(h:(relN scope sc0).lookup x=some .local):(compEnvC scope cl C X.env).scope.names.lookup x=some .local:=by
 show(relabel scope X.env).names.lookup x=_
 rw[<- h]
 unfold relabel relN Env.kindOf
 rw[hsc]
theorem q460{X:Cx}{elt itr:Expr}{x:Str}{px pos:Pos}{scope sc0:Scope}{cl:List (Str×Addr)}{cn N:List Str}{fr:List Nat}{te:TE}{pins:List (Addr×Obj)}{σ:St}{H2:Hp}{s2:Shared}{it:Addr}{fp:List Addr}
  {tn:Nat->Heap->Prop} {J:It} {RR:Value->Addr->Result->Shared->Prop} {R:Hp->Prop} {E:VS} {W:Nat->Nat->List V->Hp->Prop} {m0:Nat}
  (hc:X.calm=true) (he:∀(C:Addr)(s₂:Shared)(H₂:Hp)(fp:List Addr),PE (q55 X scope cl C x N s₂ H₂ fp) elt te)
  (hcl:q92 X.env cl) (hcn:cl.map (·.1)=cn) (hsc:X.env.scope=sc0) (hk:scope.kind = .function) (hok:CompOk scope sc0 x N cn) (hfr:fr.map (λj=>X.N[j]?)=N.map some)
  (I2:Inv X pins σ H2 s2) (T:Turn X.prog X.w X.K (.Name x px) J fp it tn) (st2:tn 0 s2.heap) (f2:∀ b∈fp,FpOk X pins H2 b)
  (w0:W 0 m0 [] (upd H2 s2.heap.objs.size (.lst [])))
  (turn:∀ i m ys H,W i m ys H->H s2.heap.objs.size=some (.lst ys)/\((J.stop i H/\R H)\/(J.go i H/\ys.length<sizeLine /\ ∃ N:V->Hp->Prop,
   (∀ y H3,N y H3->H3 s2.heap.objs.size=some (.lst ys) /\ ∃ m',m'<m/\W (i+1) m' (ys++[y]) (upd H3 s2.heap.objs.size (.lst (ys++[y])))) /\
   ∀ x H',J.yld i H x H'->te (some x::fr.map λj=>(σ[j]?).getD none) H' N)))
  (hRR:∀(C:Addr)(H6:Hp)(s6:Shared)(m6:Mg),s6.heap.Ns C m6->Inv X pins σ H6 s6->FpOk X pins H6 C->R H6->RR (.ref s2.heap.objs.size) C (.ok .next) s6) :
  wpAny (model X.prog X.w) X.A (newList []) (λacc s₃=>wpAny (model X.prog X.w) X.A (newFunctionEnv scope X.env.globals cl [] X.env.qual none .none (some X.env)) (λcenv s₄=>
   codeAny (model X.prog X.w) X.A (.compStart (.ListComp elt [⟨.Name x px,itr,[],0⟩] scope pos) 0 (.ref it) acc { cenv with scope:=relabel scope X.env }) (RR acc cenv.locals) s₄) E s₃) E s2:=by
 refine q237 (TN:=[]) (gt:=gName 0) (tt:=λ_ H Q=>Q true H) hc he (λ_ _ _ _=>q519) (λ_ _ _ _=>q105 hok.nd rfl (.inl ?_) (.inr ?_)) hcl hcn hsc hk ⟨hok.has,hok.nc,hok.names,hok.frs⟩ hfr I2 T st2 f2 w0 (λi m ys H h=>?_) hRR
 ·exact q412 hsc hok.hx'
 ·exact q412 hsc hok.hx'
 obtain⟨a,b⟩:=turn i m ys H h
 exists a
 rcases b with b | ⟨g,l,N,h1,h2⟩
 ·exact .inl b
 refine .inr ⟨g,l,N,λ_=>False,h1,λ_ z=>z.elim,λx H' y vs hv=>?_⟩
 match vs,hv with
 | [v0],_=>exact⟨⟨[some x],rfl,rfl⟩,iteT (h2 x H' y)⟩
def Inv.let_go{s:Shared}(I:Inv X pins σ H s)(F:FpOk X pins H C)(sb:Heap.SameBut C s.heap h'):Inv X pins σ H { s with heap:=h' }:=by
 obtain⟨f0,f1,_,f3,f4,f5⟩:=F
 exact I.turned (t':=s.toks) (λb o hb e=>(sb.2 b hb).trans e) f0 f1 f3 f4 f5
def q192{X:Cx}{elt itr:Expr}{x:Str}{px pos:Pos}{scope sc0:Scope}{cl:List (Str×Addr)}{cn N:List Str}{fr:List Nat}{wi:TI}{te:TE}
  (hc:X.calm=true) (hi:PI X (.Name x px) itr wi) (he:∀(C:Addr)(s₂:Shared)(H₂:Hp)(fp:List Addr),PE (q55 X scope cl C x N s₂ H₂ fp) elt te)
  (hclos:closureFor scope X.env=pure cl) (hcl:q92 X.env cl) (hcn:cl.map (·.1)=cn) (hsc:X.env.scope=sc0) (hk:scope.kind = .function) (hok:CompOk scope sc0 x N cn)
  (hfr:fr.map (λj=>X.N[j]?)=N.map some) (hs:∀ v,foldedSetIterable itr X.env v=pure v:=by intro _;rfl) :
  PE X (.ListComp elt [⟨.Name x px,itr,[],0⟩] scope pos) (tComp wi te fr):=by
 intro pins s σ H Q I h
 rw[eval_ListComp]
 refine wpAny_comprehension_free (use:=none) rfl hs hclos hk hok.names (thn (hi pins s σ H _ I h) λv s1 h1=>thn h1 λitv s2 h2=>?_)
 obtain⟨it,fp,tn,J,H2,e,I2,T,st2,f2,hq⟩:=h2
 subst e
 obtain⟨W,⟨m0,w0⟩,turn⟩:=hq s2.heap.objs.size (I2.hok.fresh (ZG _))
 exact q460 (RR:=λacc C=>compPost (model X.prog X.w) X.A X.xe none (EP X pins σ Q) acc C) (R:=λH6=>Q (.ref s2.heap.objs.size) H6) hc he hcl hcn hsc hk hok hfr I2 T st2 f2 w0 turn
  λC H6 s6 m6 hn I6 F6 q=>⟨m6,hn,λh' sb=>⟨.ref s2.heap.objs.size,H6,I6.let_go F6 sb,rfl,q⟩⟩
noncomputable def tSetComp(i:Nat)(wi:TI)(te:TE)(fr:List Nat):TS:=λD σ H=>tComp wi te fr σ H λv H1=>D.nx (σ.set i (some v)) H1
def q158{X:Cx}{i:Nat}{y:Str}{py spos:Pos}{elt itr:Expr}{x:Str}{px pos:Pos}{scope sc0:Scope}{cl:List (Str×Addr)}{cn N:List Str}{fr:List Nat}{wi:TI}{te:TE}
  (hN:X.N.Nodup) (hiN:X.N[i]? = some y) (hy:Loc X.env.scope y)
  (hc:X.calm=true) (hi:PI X (.Name x px) itr wi) (he:∀(C:Addr)(s₂:Shared)(H₂:Hp)(fp:List Addr),PE (q55 X scope cl C x N s₂ H₂ fp) elt te)
  (hclos:closureFor scope X.env=pure cl) (hcl:q92 X.env cl) (hcn:cl.map (·.1)=cn) (hsc:X.env.scope=sc0) (hk:scope.kind = .function) (hok:CompOk scope sc0 x N cn)
  (hfr:fr.map (λj=>X.N[j]?)=N.map some) (hsw:swapsWith (.ListComp elt [⟨.Name x px,itr,[],0⟩] scope pos) (some (.Name y py)) spos.line X.env=pure true)
  (hf:X.fn y=true\/X.env.scope.names.lookup y=some .local) (hs:∀ v,foldedSetIterable itr X.env v=pure v:=by intro _;rfl) :
  PS X (.Assign [.Name y py] (.ListComp elt [⟨.Name x px,itr,[],0⟩] scope pos) spos) (tSetComp i wi te fr):=by
 intro pins s σ H D I h
 rw[exec_Assign_Name_used _ _ _ _ hsw]
 refine ZC (wpAny_standAt (ZC ?_))
 show wpAny _ X.A (do let _ <- comprehension (.ListComp elt [⟨.Name x px,itr,[],0⟩] scope pos) scope X.env _ (newList []) false (eval itr X.env) (some (assign (.Name y py) X.env))) _ _ s
 refine ZC (YS (wpAny_comprehension_free (use:=some (assign (.Name y py) X.env)) (Q:=λ_ s'=>SP X pins D .next s') rfl hs hclos hk hok.names
  (thn (hi pins s σ H _ I h) λv s1 h1=>thn h1 λitv s2 h2=>?_)) (λ_ s' hq=>ZP (ZP hq)) λ_ _ e=>e)
 obtain⟨it,fp,tn,J,H2,e,I2,T,st2,f2,hq⟩:=h2
 subst e
 obtain⟨W,⟨m0,w0⟩,turn⟩:=hq s2.heap.objs.size (I2.hok.fresh (ZG _))
 refine q460 (RR:=λacc C=>compPost (model X.prog X.w) X.A X.xe (some (assign (.Name y py) X.env)) (λ_ s'=>SP X pins D .next s') acc C) (R:=λH6=>D.nx (σ.set i (some (.ref s2.heap.objs.size))) H6) hc he hcl hcn hsc hk hok hfr I2 T st2 f2 w0 turn
  λC H6 s6 m6 hn I6 F6 q=>?_
 show wpAny _ X.A (assign (.Name y py) X.env (.ref s2.heap.objs.size)) _ _ _
 refine wpAny_assign_Name (q297 (v:=.ref s2.heap.objs.size) I6 hN hiN hy rfl (λs7 I7 ⟨a,sb,ha⟩=>?_) hf)
 have neC:C≠a:=by
  rcases ha with ha | ha
  ·rw[ha];exact F6.2.1
  ·exact Ne.symm (F6.2.2.2.2.1 y a ha)
 exact⟨m6,hn.sameBut sb neC,λh' sb'=>⟨_,H6,I7.let_go F6 sb',q⟩⟩
def q78{lo:Int}{n:Nat}{T:V->Hp->(V->Hp->Prop)->Prop}{D:Addr}{H1:Hp}{R:Hp->Prop}(hn:n<=sizeLine)(Pv:Nat->List V->Hp->Prop)(h0:Pv 0 [] (upd H1 D (.lst [])))
  (hD:∀ i ys H,Pv i ys H->H D=some (.lst ys)/\ys.length=i)
  (hs:∀ i ys H,i<n->Pv i ys H->T (.int (lo+i)) H λy H3=>H3 D=some (.lst ys)/\Pv (i+1) (ys++[y]) (upd H3 D (.lst (ys++[y]))))
  (hd:∀ ys H,Pv n ys H->R H) :
  ∃ W:Nat->Nat->List V->Hp->Prop,(∃ m,W 0 m [] (upd H1 D (.lst []))) /\
   ∀ i m ys H2,W i m ys H2->H2 D=some (.lst ys)/\(((Itr lo n).stop i H2/\R H2)\/((Itr lo n).go i H2/\ys.length<sizeLine /\ ∃ N:V->Hp->Prop,(∀ y H3,N y H3->H3 D=some (.lst ys) /\ ∃ m',m'<m/\W (i+1) m' (ys++[y]) (upd H3 D (.lst (ys++[y])))) /\
    ∀ x H',(Itr lo n).yld i H2 x H'->T x H' N)):=by
 exists λi m ys H=>m=n-i/\i<=n/\Pv i ys H,⟨n,by simp,WA _,h0⟩
 rintro i m ys H2 ⟨rfl,hi,p⟩
 obtain⟨d1,d2⟩:=hD i ys H2 p
 exists d1
 by_cases hlt:i<n
 ·refine .inr ⟨hlt,{},λy H3=>H3 D=some (.lst ys)/\Pv (i+1) (ys++[y]) (upd H3 D (.lst (ys++[y]))),λy H3 ⟨z1,z2⟩=>⟨z1,n-(i+1),(W35 hlt d2),rfl,hlt,z2⟩,λx H' y=>?_⟩
  obtain⟨e,y⟩:=y
  subst e y
  exact hs i ys _ hlt p
 ·have e:i=n:=(W125 d2 hi hlt)
  subst e
  exact .inl ⟨ZG _,hd ys H2 p⟩
end L2
namespace HT
set_option autoImplicit false
open PySem PySem.Spec PyProof.Rows List
section
variable {prog:Program}{w:World}{A:Around}{E:VS}{s:Shared}
def q626{t sl:Addr}{items:Array Value}{vl vu:Value}{lo hi:Option Int}{Q:VS}(ht:IsTup s.heap t items)(hs:s.heap.IsSliceOf sl vl vu .none)(pl:IsPart vl lo)(pu:IsPart vu hi)
  (h0:sIx items.size 0 lo=0) (h1:sIx items.size items.size hi=items.size) (h:Q (.ref t) s):wpAny (model prog w) A (getItem (.ref t) (.ref sl)) Q E s:=by
 obtain⟨os,hos,hcs,hds⟩:=id hs
 have hTs:s.TypeIs (.ref sl) "slice" := ⟨os,hos,hcs⟩
 have hT:s.TypeIs (.ref t) "tuple" := ht.typeIs
 unfold getItem
 try with_reducible refine wpAny_holding ?_
 first | refine ZC (ZP ?_) | skip
 refine ZC (wpAny_sequenceKey ht.typeIs ∅ ?_)
 refine ZC (wpAny_callSpecial?_slot (name:=Str.ofString "__getitem__") ht.typeIs PyProof.Rows.slot_tuple_getitem
  (wpAny_call_entry PyProof.Rows.slot_tuple_getitem ht.typeIs entry_tuple_getitem ?_ (args_tuple_getitem _ _)))
 show wpAny _ _ (Builtin.Tuple.tupleItemsOf (.ref t) >>= _) _ _ s
 refine ZC (tupleItemsOf_ ht ?_)
 refine ZC (wpAny_typeOf hTs ?_)
 rw[ZL ∅]
 refine ZC (q135 hs pl pu ?_)
 have hyes:((((sIx items.size 0 lo:Nat):Int)==0&&(1:Int)==1&&(sIx items.size items.size hi-sIx items.size 0 lo)==items.size)=true):=by
  rw[h0,h1];simp
 show wpAny _ _ (if(((sIx items.size 0 lo:Nat):Int)==0&&(1:Int)==1&&(sIx items.size items.size hi-sIx items.size 0 lo)==items.size)=true then _ else _) _ _ s
 rw[ZL hyes]
 first
  | exact ZC (wpAny_typeOf hT (ZP ⟨_,rfl,ZP h⟩))
  | exact ZP ⟨_,rfl,ZP h⟩
  | exact ZC (ZP ⟨_,rfl,ZP h⟩)
  | (wp_walk;exact⟨_,rfl,ZP h⟩)
  | (wp_walk;exact⟨_,rfl,h⟩)
end
end HT
namespace L2
open PySem PySem.Spec PyProof.Rows List
variable {X:Cx}
def TupF(H:Hp)(a:Addr)(xs:List V):Prop:=∃ o:Obj,H a=some (.frz o (.tup xs))/\o.cls = .type "tuple" /\ o.dict=none
def TupF.sq{K:Fg}{H:Hp}{a:Addr}{xs:List V}(h:TupF H a xs):SqT K H a xs:=by
 obtain⟨o,h,_⟩:=h
 exact .inl (.inr ⟨o,h⟩)
def TupF.same(h:TupF H a xs)(s:Same H H'):TupF H' a xs:=by
 obtain⟨o,h,c⟩:=h
 exact⟨o,s _ _ h,c⟩
section
inductive q461(K:Fg)(xs:List V)(H:Hp)(Q:VK):Prop
 |mk(p ys)(_:xs=[.ref p])(_:SqL K H p ys)(_:∀ l H',Same H H'->TupF H' l ys->Q (.ref l) H')
def q193:CallR X (.type "tuple") (q461 X.K):=by
 intro pins s σ H xs us Q I r h
 obtain⟨p,ys,rfl,hq,q⟩:=h
 obtain⟨u,rfl,rx⟩:=vals1 r
 cases rx
 obtain⟨its,r',pl,hz⟩:=I.list hq
 have hlen:=r'.length
 refine call_tuple_list pl.isList (λh' kp=>?_) (by simp only[WB] <;> lia)
 have I1:Inv X pins σ H { s with heap:=h' }:=I.kept (t':=s.toks) kp
 have I2:Inv X pins σ (upd H h'.objs.size (.frz { cls:=.type "tuple", data:=.seq its.toArray } (.tup ys))) { s with heap:=h'.push { cls:=.type "tuple", data:=.seq its.toArray } }:=
  I1.laid (t':=s.toks) (λb o e=>ZH _ e) (ZG _) (show ObjOk X.prog X.w _ _ _ (.frz _ (.tup ys)) from⟨ZV _ rfl,hz,its,r',IsTup.new _ _⟩)
 exact⟨.ref h'.objs.size,_,I2,rfl,q _ _ (q17 (I1.hok.fresh (ZG _)) _) ⟨_,q14,rfl,rfl⟩⟩
def cutV_all{xs:List V}{lo hi:Option Int}(h0:HT.sIx xs.length 0 lo=0)(h1:HT.sIx xs.length xs.length hi=xs.length):cutV xs lo hi=xs:=by
 unfold cutV
 rw[h0,h1,drop_zero,Nat.sub_zero,YQ]
inductive Rsl_tupF  (x:V) (lo:Option Int) (hi:Option Int) (H:Hp) (Q:VK):Prop
 |mk(a xs)(_:x = .ref a)(_:TupF H a xs)(_:∀ p H',Same H H'->TupF H' p (cutV xs lo hi)->Q (.ref p) H')
def q520:SlR X Rsl_tupF:=by
 intro pins s σ H x v vl vu lo hi sl Q I rx hs pl pu h
 obtain⟨a,xs,rfl,hx,q⟩:=h
 cases rx
 obtain⟨its,r,ht,hz⟩:=I.tuple (hx.sq (K:=X.K))
 have hlen:its.toArray.size=xs.length:=by rw[WB];exact r.length.symm
 exists "tuple", _,PyProof.Rows.slot_tuple_getitem.lookup,ht.typeIs
 by_cases hw:HT.sIx xs.length 0 lo=0/\HT.sIx xs.length xs.length hi=xs.length
 ·refine HT.q626 ht hs pl pu (by rw[hlen];exact hw.1) (by rw[hlen];exact hw.2) ⟨.ref a,H,I,rfl,q a H (Same.refl H) ?_⟩
  rw[cutV_all hw.1 hw.2]
  exact hx
 ·refine HT.q622 ht hs pl pu (by rw[hlen];exact hw) ?_ (by rw[hlen];exact hz)
  rw[hlen]
  refine⟨.ref s.heap.objs.size,_,I.laid (t':=s.toks) (o:=.frz { cls:=.type "tuple", data:=.seq ((its.toArray.toList.drop (HT.sIx xs.length 0 lo)).take (HT.sIx xs.length xs.length hi-HT.sIx xs.length 0 lo)).toArray } (.tup (cutV xs lo hi))) (λb ob q=>ZH _ q) (ZG _) ?_,rfl,
   q _ _ (q17 (I.hok.fresh (ZG _)) _) ⟨_,q14,rfl,rfl⟩⟩
  exact⟨ZV _ rfl,ZO (q301 xs lo hi) hz,_,(r.drop (HT.sIx xs.length 0 lo)).take (HT.sIx xs.length xs.length hi-HT.sIx xs.length 0 lo),IsTup.new _ _⟩
theorem q238{x:V}:∀{xs:List V}{us:List Value},Vals xs us->xs.all flatV=true->us.countP (eqU x)=xs.countP λy=>eqV y x
 | _,_,.nil,_=>rfl
 | y::xs,u::us,.cons r t,f=>by
  rw[all_cons,WO]at f
  rw[YI,YI,eqU_of r f.1,q238 t f.2]
inductive q627(K:Fg)(x:V)(xs:List V)(H:Hp)(Q:VK):Prop
 |mk(a ys v)(_:x = .ref a)(_:xs=[v])(_:SqT K H a ys)(_:flatV v=true)(_:ys.all flatV=true)(_:Q (.int (ys.countP λy=>eqV y v:Nat)) H)
def q689:MtR X "tuple.count" (q627 X.K):=by
 intro pins s σ H x xs v us Q I rx rv h
 obtain⟨a,ys,y,rfl,rfl,ha,f1,f2,q⟩:=h
 cases rx
 obtain⟨u,rfl,ru⟩:=rv.one
 obtain⟨its,r,p,hz⟩:=I.tuple ha
 obtain⟨⟨cls,dd,data,sl⟩,ho,hc,n,hd⟩:=id p
 simp only at hc hd
 subst hc hd
 refine call_meets F.slot_tuple_count ⟨_,ho,rfl⟩ F.entry_tuple_count (F.args_tuple_count_2 _ _) (SeqAt.tuple_countAt a its.toArray n dd sl u (eqU y)) ⟨ho,λz hz=>q411 ru f1 r f2 z (by simpa using hz),?_⟩
 refine⟨.int (ys.countP λy'=>eqV y' y:Nat),H,I.tok _,?_,q⟩
 rw[<- q238 r f2]
 exact⟨_,rfl⟩
def tBMF(T:String)(r:V->List V->Hp->VK->Prop)(to:TE)(t:TA):TE:=λσ H Q=>to σ H λx H1=>(∃ a o u,x = .ref a/\H1 a=some (.frz o u)/\o.cls = .type T/\o.dict=none)/\t σ H1 λxs H2=>r x xs H2 Q
variable{o e:Expr}{es:List Expr}{to:TE}{t:TA}{name:Str}{apos cpos:Pos}{T id:String}{r:V->List V->Hp->VK->Prop}
def pe_bmF(pa:PlainAttrs T)(slot:Slot T name id)(hty:typeOf (.builtin id)=pure (.type "method_descriptor")) (hm:MtR X id r) (ho:PE X o to) (ha:PA X (e::es) t)
  (hbase:attributeBase o name X.env (eval o X.env)=eval o X.env:=by rfl)
  (hfew:((backTo cpos (starEach (e::es) X.env)).all (λx=>!x.1)&&(backToKw cpos (keywordEach [] X.env)).all (λx=>x.1.isSome)
   && decide ((e::es).length+([]:List Keyword).length+(if([]:List Keyword).isEmpty then 0 else 1)<30))=true:=by rfl)
  (hline:(apos.endLine==cpos.line)=true:=by rfl) (hs:starEach (e::es) X.env=(false,eval e X.env)::starEach es X.env:=by rfl) (hplain:(backTo cpos (starEach es X.env)).any (·.1)=false:=by rfl) :
  PE X (.Call (.Attribute o name apos) (e::es) [] cpos) (tBMF T r to t):=by
 intro pins s σ H Q I h
 refine wpAny_Call_method_late hbase hfew hline rfl (thn (ho pins s σ H _ I h) λv s1 ⟨x,H1,I1,r1,ty,q1⟩=>?_)
 obtain⟨a,ob,u,rfl,hH,hc,hd⟩:=ty
 cases r1
 obtain⟨hg,_⟩:=I1.hok a _ hH
 exists T,id,pa,slot,hty,⟨ob,hg,hc⟩,λb eb=>?_
 ·cases eb
  exact⟨ob,hg,hd⟩
 have hA:=ha cpos pins s1 σ H1 _ I1 q1
 rw[hs]at hA ⊢
 refine Calls.callWith_builtin (by show(false||(backTo cpos (starEach es X.env)).any (·.1))=false;rw[hplain] <;> rfl) (Calls.evalArgs_plain ?_)
 exact thn hA λus s2 ⟨vs,H2,I2,r2,q2⟩=>hm pins s2 σ H2 (.ref a) vs (.ref a) us Q I2 rfl r2 q2
end
def q690(bs:List Bool):((List.range bs.length).all λi=>bs.getD i true)=bs.all id:=by
 rw[Bool.eq_iff_iff,all_eq_true,all_eq_true]
 constructor
 ·intro h b hb
  obtain⟨i,hi,rfl⟩:=List.mem_iff_getElem.mp hb
  have:=h i (List.mem_range.mpr hi)
  simpa [YA,hi] using this
 ·intro h i hi
  have hi':=List.mem_range.mp hi
  have:=h bs[i] (getElem_mem hi')
  simpa [YA,hi'] using this
inductive q691(K:Fg)(xs:List V)(H:Hp)(Q:VK):Prop
 |mk(p:Addr)(bs:List Bool)(_:xs=[.ref p])(_:SqL K H p (bs.map V.bl))(_:Q (.bl (bs.all id)) H)
def call_all(hc:X.calm=true):CallR X (.builtin "all") (q691 X.K):=by
 intro pins s σ H xs us Q I r h
 obtain⟨p,bs,rfl,hq,q⟩:=h
 obtain⟨u,rfl,rx⟩:=vals1 r
 cases rx
 obtain⟨its,r',pl,hz⟩:=I.list hq
 have hl:=r'.length
 rw[ZJ]at hl
 obtain⟨o,n,ho,_⟩:=id pl
 have hlt:p<s.heap.objs.size:=ZZ ho
 refine call_all_walk (wpAny_pyIter_list pl.isList ⟨s.heap.objs.size,_,_,_,_,_,λi=>bs.getD i true,rfl,Walks.list (A:=X.A.in1) (show X.A.in1.handled=none from I.ok.hd hc) s.heap.objs.size p (WI hlt) its.toArray,⟨⟨_,ZV _ rfl,rfl,rfl⟩,pl.isList.at λo e=>ZH _ e⟩,?_,?_⟩)
 ·intro i v s' Q' E' hv hQ'
  have hv':its[i]? = some v:=by simpa using hv
  have hi:i<bs.length:=by rw[hl];exact(eA hv').1
  obtain⟨u',hu',ru'⟩:=r'.get (i:=i) (x:=.bl bs[i]) (by rw[WH,ZM hi] <;> rfl)
  rw[hv']at hu'
  cases hu'
  cases ru'
  refine wpAny_truthy_bool ?_
  have e:bs.getD i true=bs[i]:=by simp[YA,hi]
  rw[<- e]
  exact hQ'
 ·intro h' tk hk
  refine⟨.bl (bs.all id),H,I.kept (t':=tk) λb ob e=>hk b ob (by simp;exact WI (ZZ e)) (ZH _ e),?_,q⟩
  show Value.bool _=Value.bool _
  congr 1
  rw[WB,<- hl]
  exact q690 bs
inductive Rop_neL(K:Fg)(x:V)(y:V)(H:Hp)(Q:VK):Prop
 |mk(a b:Addr)(ns ms:List Int)(_:x = .ref a)(_:y = .ref b)(_:SqL K H a (ns.map V.int))(_:SqL K H b (ms.map V.int))(_:Q (.bl (!decide (ns=ms))) H)
def op_neL(hu:X.A.units+64<cLine):OpR X (compareOp .NotEq) (Rop_neL X.K):=by
 intro pins s σ H x y v u Q I rx ry h
 obtain⟨a,b,ns,ms,rfl,rfl,ha,hb,q⟩:=h
 cases rx
 cases ry
 obtain⟨its,r1,p1,_⟩:=I.list ha
 obtain⟨its2,r2,p2,_⟩:=I.list hb
 exact PySem.W.ke_ne_ints p1.isList p2.isList (q100 r1) (q100 r2) hu ⟨.bl _,H,I,rfl,q⟩
def ctxV:Addr:=111
def Ctx(cls:Value)(vs:Array Value):Prop:=cls ≠ .ref ctxV->vs[2]? = some .none
def Exc(n:Nat)(h:Heap)(x:Addr)(cls:Value)(dd:Option Addr)(fl:Value):Prop:=
 ∃(oe:Obj)(vs:Array Value)(T:Addr)(oT:Obj)(ts:Array Value),(h.get? x=some oe/\oe.cls=cls/\oe.dict=dd/\oe.data = .fields vs/\vs[1]? = some (.ref T)/\Ctx cls vs) /\
  (n<=T/\T≠x)/\h.get? T=some oT/\oT.data = .fields ts/\ts[3]? = some fl
structure Fly(n:Nat)(fs:List Addr)(x:Addr)(h h':Heap):Prop where
 keep:∀ b o,h.get? b=some o->b<n->b≠x->b ∉ fs->h'.get? b=some o
 slot:∀ b o,h.get? b=some o->b∈fs -> ∃ sl,h'.get? b=some { o with slots:=sl }
 there:∀ b o,h.get? b=some o -> ∃ o',h'.get? b=some o'
structure Out(P:Program)(w:World)(outer:List Env)(H:Hp)(s:Shared)(x:Addr)(cls:Value)(dd:Option Addr)(n:Nat)(H':Hp)(fl:Value)(s':Shared):Prop where
 os:s'.os=s.os
 bare:AllBare s'.gens
 un:Un (frs outer) [] H H' s.heap s'.heap
 hok:HOk P w H' s'.heap
 exc:Exc n s'.heap x cls dd fl
 free:H' x=none
 new:s.heap.get? x=none
 old:s.heap.objs.size<=n
 low:∀ b u,H' b=some u->b<n
def CX1(P:Program)(w:World):CXT:=λouter H s E e s'=>∃(x:Addr)(cls:Value)(dd:Option Addr)(n:Nat)(H':Hp),e = .ref x/\Out P w outer H s x cls dd n H' .none s'/\E cls dd H'
section
variable {pins:List (Addr×Obj)}{σ:St}{H H':Hp}{s s':Shared}{x:Addr}{cls fl:Value}{dd:Option Addr}{n:Nat}
structure Away(X:Cx)(pins:List (Addr×Obj))(σ:St)(H:Hp)(s:Shared)(x:Addr)(cls:Value)(dd:Option Addr)(n:Nat)(fl:Value):Prop where
 inv:Inv X pins σ H s
 exc:Exc n s.heap x cls dd fl
 free:H x=none
 new:X.s₀.heap.get? x=none
 old:X.s₀.heap.objs.size<=n
 low:∀ b u,H b=some u->b<n
 loc:X.env.locals<n
end
structure Lv(X:Cx)(E:XK):Prop where
 xe:X.xe=λe s'=>wpAny (model X.prog X.w) X.A (leaving X.env e) (λ_ s''=>CX1 X.prog X.w X.outer X.H₀ X.s₀ E e s'') (λe' s''=>CX1 X.prog X.w X.outer X.H₀ X.s₀ E e' s'') s'
 ex:X.ex=[]
 stack:X.stack=X.env::X.outer
 frame:X.env.frame=some X.env.locals
 calm:X.calm=true
structure ECls(K:Fg)(C:Addr):Prop where
 ga:PySem.W.findIn K (.ref C) "__getattribute__" = some (some (.builtin "BaseException.__getattribute__"))
 gh:PySem.W.findIn K (.ref C) "__getattr__" = some none
 sb:PySem.W.subIn K (.ref C) (.type "BaseException")=some true
 cl:PySem.W.isClsIn K C=true
 fi:PySem.W.findIn K (.ref C) "__class__" = some (some (.builtin "object.__class__"))
 sp:PySem.W.specialIn K (.builtin "object.__class__") "__get__" = some (some (.builtin "getset_descriptor.__get__"))
 tk:PySem.W.takesIn K (.builtin "object.__class__")=some true
 mr:PySem.W.mroIn K C (.type "object")=some true
section
variable {prog:Program}{w:World}{A:Around}{E:VS}{s:Shared}
def q628{i:Nat}(a1:s.heap.IsTupleIter ia tp i)(a2:s.heap.IsTuple tp us)(a3:us[i]? = some u)
  (k:∀ h',h'.IsTupleIter ia tp (i+1)->Heap.SameBut ia s.heap h'->Q u { s with heap:=h' }):wpAny (model prog w) A (Builtin.SmallTypes.nextOf (.ref ia)) Q E s:=by
 obtain⟨o,b1,b2,b3⟩:=id a1
 obtain⟨ot,c1,_,nt,c2⟩:=a2
 unfold Builtin.SmallTypes.nextOf
 refine ZC (wpAny_callSpecial?_slot (name:=Str.ofString "__next__") a1.typeIs F.slot_tuple_iterator_next (wpAny_call_entry F.slot_tuple_iterator_next a1.typeIs F.entry_tuple_iterator_next ?_ (F.args_tuple_iterator_next_1 _)))
 show wpAny _ _ (field (.ref ia) 0 >>= _) _ _ s
 refine ZC (wpAny_field b1 b3 (x:=.ref tp) rfl ?_)
 show wpAny _ _ (if(Value.ref tp==Value.none)=true then _ else _) _ _ s
 rw[ZI (show ¬((Value.ref tp==Value.none)=true)from fnt)]
 show wpAny _ _ (field (.ref ia) 1 >>= _) _ _ s
 refine ZC (wpAny_field b1 b3 (x:=.int i 0) rfl ?_)
 show wpAny _ _ (seqItems? (.ref tp) >>= _) _ _ s
 refine ZC (wpAny_seqItems c1 c2 ?_)
 simp only[Int.toNat_natCast,a3]
 refine ZC (wpAny_setField b1 b3 (by simp) (ZP ⟨u,rfl,ZP (k _ ?_ (Heap.SameBut.update ..))⟩))
 exact⟨_,Heap.get?_update_self _ b1 (Obj.isFreed_of_fields (Obj.data_mapFields b3 _)),(Obj.cls_mapFields ..).trans b2,by rw[Obj.data_mapFields b3];simp[rawInt]⟩
def q692{i:Nat}{Q:VS}(hh:A.handled=none)(a1:s.heap.IsTupleIter ia tp i)(a2:s.heap.IsTuple tp us)(a3:us[i]? = none)
  (k:∀ h' x,Heap.ExtBut ia s.heap h'->(∃ o,h'.get? x=some o/\o.cls = .type "StopIteration")->E (.ref x) { s with heap:=h' }):wpAny (model prog w) A (Builtin.SmallTypes.nextOf (.ref ia)) Q E s:=by
 obtain⟨o,b1,b2,b3⟩:=id a1
 obtain⟨ot,c1,_,nt,c2⟩:=a2
 unfold Builtin.SmallTypes.nextOf
 refine ZC (wpAny_callSpecial?_slot (name:=Str.ofString "__next__") a1.typeIs F.slot_tuple_iterator_next (wpAny_call_entry F.slot_tuple_iterator_next a1.typeIs F.entry_tuple_iterator_next ?_ (F.args_tuple_iterator_next_1 _)))
 show wpAny _ _ (field (.ref ia) 0 >>= _) _ _ s
 refine ZC (wpAny_field b1 b3 (x:=.ref tp) rfl ?_)
 show wpAny _ _ (if(Value.ref tp==Value.none)=true then _ else _) _ _ s
 rw[ZI (show ¬((Value.ref tp==Value.none)=true)from fnt)]
 show wpAny _ _ (field (.ref ia) 1 >>= _) _ _ s
 refine ZC (wpAny_field b1 b3 (x:=.int i 0) rfl ?_)
 show wpAny _ _ (seqItems? (.ref tp) >>= _) _ _ s
 refine ZC (wpAny_seqItems c1 c2 ?_)
 simp only[Int.toNat_natCast,a3]
 refine ZC (wpAny_rule (ZC (wpAny_setField b1 b3 (by simp) ?_)))
 show wpAny _ _ (newExc (.type "StopIteration") [] >>= λ_=>_) _ _ _
 refine ZC ?_
 simp only[newExc,newTuple]
 refine ZC (YY ?_ (by size_fits))
 refine ZC (m:=firstArgMember _ _) (wpAny_of_eq (a:=Value.none) (by first | rfl | simp[firstArgMember]) (YY ?_ (by size_fits)))
 simp only[raiseNew]
 refine ZC (wpAny_handled ?_)
 first | rw[show A.in1.handled=none from hh] | (rw[hh];skip)
 exact ZC (ZP (wpAny_throw (k _ _ (((Heap.SameBut.update ..).extBut.push _).push _) ⟨_,ZV _ rfl,rfl⟩)))
def q629{i:Nat}{Q:Option Value->Shared->Prop}(e0:IsEnum s.heap en ia i was)(a1:s.heap.IsTupleIter ia tp i)(a2:s.heap.IsTuple tp us)(a3:us[i]? = some u)(ne:en≠ia)
  (k:∀ h',IsEnumOut h' en ia ((i:Int)+1) u s.heap.objs.size->h'.IsTupleIter ia tp (i+1)->h'.get? s.heap.objs.size=some { cls:=.type "tuple", data:=.seq #[.int i s.toks,u] } ->
   (∀ b o,b≠en->b≠ia->s.heap.get? b=some o->h'.get? b=some o)->Q (some (.ref s.heap.objs.size)) { s with heap:=h',toks:=s.toks+1 }) :
  wpAny (model prog w) A (pyNext (.ref en)) Q E s:=by
 have ty:s.TypeIs (.ref en) "enumerate" := ⟨_,e0,rfl⟩
 unfold pyNext
 refine ZC (wpAny_attempt (wpAny_callSpecial?_slot (name:=Str.ofString "__next__") ty F.slot_enumerate_next (wpAny_call_entry F.slot_enumerate_next ty F.entry_enumerate_next ?_ (F.args_enumerate_next_1 _))))
 obtain⟨h0,g,d,tk,os⟩:=s
 show wpAny _ _ (field (.ref en) 2 >>= _) _ _ _
 refine ZC (wpAny_field e0 rfl (x:=.ref ia) rfl (ZC (q628 a1 a2 a3 λh1 n1 s1=>?_)))
 replace s1:Heap.SameBut ia h0 h1:=s1
 have e1:IsEnum h1 en ia i was:=(s1.2 en ne).trans e0
 show wpAny _ _ (field (.ref en) 3 >>= _) _ _ ⟨h1,g,d,tk,os⟩
 refine ZC (wpAny_field e1 rfl (x:=rawInt i) rfl ?_)
 show wpAny _ _ (field (.ref en) 4 >>= _) _ _ ⟨h1,g,d,tk,os⟩
 refine ZC (wpAny_field e1 rfl (x:=.none) rfl ?_)
 show wpAny _ _ (mkInt i >>= _) _ _ ⟨h1,g,d,tk,os⟩
 refine ZC (wpAny_mkInt ?_)
 show wpAny _ _ (setField (.ref en) 3 (rawInt ((i:Int)+1)) >>= _) _ _ ⟨h1,g,d,tk+1,os⟩
 refine ZC (wpAny_setField_rec e1 (by simp) λh2 e2 s2=>?_)
 replace s2:Heap.SameBut en h1 h2:=s2
 replace e2:IsEnum h2 en ia ((i:Int)+1) was:=e2
 show wpAny _ _ (setField (.ref en) 4 .none >>= _) _ _ ⟨h2,g,d,tk+1,os⟩
 refine ZC (wpAny_setField_rec e2 (by simp) λh3 e3 s3=>?_)
 replace s3:Heap.SameBut en h2 h3:=s3
 replace e3:IsEnum h3 en ia ((i:Int)+1) was:=e3
 show wpAny _ _ (newTuple [.int i tk,u] >>= _) _ _ ⟨h3,g,d,tk+1,os⟩
 refine ZC (wpAny_newTuple ?_)
 have z3:h3.objs.size=h0.objs.size:=by rw[s3.1,s2.1,s1.1]
 have l0:en<h0.objs.size:=ZZ e0
 have ni:ia≠en:=Ne.symm ne
 generalize hh4:h3.push { cls:=.type "tuple", data:=.seq #[.int i tk,u] }=h4
 have e4:IsEnum h4 en ia ((i:Int)+1) was:=by rw[<- hh4];exact ZH _ e3
 have t4:h4.get? h0.objs.size=some { cls:=.type "tuple", data:=.seq #[.int i tk,u] }:=by rw[<- hh4,<- z3];exact ZV _ rfl
 have k4:∀ b o,b≠en->b≠ia->h0.get? b=some o->h4.get? b=some o:=λb o m1 m2 q=>by
  rw[<- hh4]
  exact ZH _ (s3.extBut b o m1 (s2.extBut b o m1 (s1.extBut b o m2 q)))
 have n4:h4.IsTupleIter ia tp (i+1):=by
  rw[<- hh4]
  obtain⟨o,q,r⟩:=(n1.extBut s2.extBut ni).extBut s3.extBut ni
  exact⟨o,ZH _ q,r⟩
 show wpAny _ _ (Builtin.SmallTypes.ownedTupleIsFree (.ref en) >>= _) _ _ ⟨h4,g,d,tk+1,os⟩
 rw[z3]
 clear hh4
 refine ZC ?_
 unfold Builtin.SmallTypes.ownedTupleIsFree
 refine ZC (wpAny_field e4 rfl (x:=.none) rfl (ZP ?_))
 simp only[if_true]
 refine ZC (wpAny_rule (ZC (wpAny_field e4 rfl (x:=was) rfl (ZC (wpAny_setField_rec e4 (by simp) λh5 e5 s5=>?_)))))
 replace s5:Heap.SameBut en h4 h5:=s5
 replace e5:IsEnum h5 en ia ((i:Int)+1) u:=e5
 show wpAny _ _ (Builtin.SmallTypes.ownedTupleHandOut (.ref en) (.ref h0.objs.size) >>= _) _ _ ⟨h5,g,d,tk+1,os⟩
 refine ZC ?_
 unfold Builtin.SmallTypes.ownedTupleHandOut
 refine ZC (wpAny_setField_rec e5 (by simp) λh6 e6 s6=>?_)
 replace s6:Heap.SameBut en h5 h6:=s6
 replace e6:IsEnumOut h6 en ia ((i:Int)+1) u h0.objs.size:=e6
 refine wpAny_setField_rec e6 (by simp) λh7 e7 s7=>?_
 replace s7:Heap.SameBut en h6 h7:=s7
 replace e7:IsEnumOut h7 en ia ((i:Int)+1) u h0.objs.size:=e7
 have up:∀ b o,b≠en->h4.get? b=some o->h7.get? b=some o:=λb o m q=>s7.extBut b o m (s6.extBut b o m (s5.extBut b o m q))
 refine ZC (wpAny_letGo (ZP ⟨_,rfl,ZP (k h7 e7 ?_ (up _ _ (Nat.ne_of_gt l0) t4) λb o m1 m2 q=>up b o m1 (k4 b o m1 m2 q))⟩))
 obtain⟨o,q,r⟩:=n4
 exact⟨o,up _ _ ni q,r⟩
def q693{i:Nat}(hh:A.handled=none)(e0:IsEnum s.heap en ia i was)(a1:s.heap.IsTupleIter ia tp i)(a2:s.heap.IsTuple tp us)(a3:us[i]? = none)
  (k:∀ h',Heap.ExtBut ia s.heap h'->Q none { s with heap:=h' }):wpAny (model prog w) A (pyNext (.ref en)) Q E s:=by
 have ty:s.TypeIs (.ref en) "enumerate" := ⟨_,e0,rfl⟩
 unfold pyNext
 refine ZC (wpAny_attempt (wpAny_callSpecial?_slot (name:=Str.ofString "__next__") ty F.slot_enumerate_next (wpAny_call_entry F.slot_enumerate_next ty F.entry_enumerate_next ?_ (F.args_enumerate_next_1 _))))
 show wpAny _ _ (field (.ref en) 2 >>= _) _ _ _
 refine ZC (wpAny_field e0 rfl (x:=.ref ia) rfl (ZC (q692 hh a1 a2 a3 λh' x q1 q2=>?_)))
 obtain⟨o,o1,o2⟩:=q2
 exact ZC (wpAny_isInstance (T := "StopIteration") (b:=true) ⟨o,o1,o2⟩ isSubtype_stop (ZP (k _ q1)))
end
noncomputable def Ite(K:Fg)(a:Addr):It:=
 ⟨λi H=>∃ xs x,SqT K H a xs/\xs[i]? = some x,λi H x H'=>∃ p y,x = .ref p/\H p=none/\H'=upd H p (.tup [.int i,y]) /\ ∀ xs,SqT K H a xs->xs[i]? = some y,λi H=>∃ xs,SqT K H a xs/\xs.length<=i⟩
def q694:2<=sizeLine:=szb rfl
def q630{P:Program}{w:World}{K:Fg}{es:List Expr}{x1:Nat}{pos:Pos}(a en ia:Addr)(ne:en≠ia) :
  Turn P w K (.Tuple es x1 pos) (Ite K a) [en,ia] en (λi h=>(∃ was,IsEnum h en ia (i:Nat) was)/\h.IsTupleIter ia a i) where
 mem:=by simp
 obj:=λi h st b hb=>by
  obtain⟨⟨was,q1⟩,o,q2,q3,q4⟩:=st
  rcases eB hb with z | z
  ·subst z
   exact⟨_,q1,λv y=>by cases y⟩
  ·have z':b=ia:=by simpa using z
   subst z'
   exact⟨o,q2,λv y=>by rw[q4]at y;cases y⟩
 keep:=λi h h' st k=>by
  obtain⟨⟨was,q1⟩,o,q2,q3⟩:=st
  exact⟨⟨was,k en (by simp) _ q1⟩,o,k ia (by simp) _ q2,q3⟩
 item:=by
  intro X hP hw hK hc i pins s σ H E I hf st hg
  subst hP hw hK
  obtain⟨⟨was,q1⟩,q2⟩:=st
  obtain⟨xs,x,hq,hx⟩:=hg
  obtain⟨its,rv,p,hz⟩:=I.tuple hq
  obtain⟨u,hu,ru⟩:=rv.get hx
  refine q629 q1 q2 (show s.heap.IsTuple a its.toArray from p) (u:=u) (by simpa using hu) ne λh1 e1 n1 t1 k1=>⟨_,rfl,?_⟩
  refine wpAny_letOwnedTupleGo_enum e1 λh2 e2 s2=>?_
  replace s2:Heap.SameBut en h1 h2:=s2
  have len:en<s.heap.objs.size:=ZZ q1
  have t2:h2.get? s.heap.objs.size=some { cls:=.type "tuple", data:=.seq #[.int i s.toks,u] }:=(s2.2 _ (Nat.ne_of_gt len)).trans t1
  have kk:∀ b o,b≠en->b≠ia->s.heap.get? b=some o->h2.get? b=some o:=λb o m1 m2 q=>(s2.2 b m1).trans (k1 b o m1 m2 q)
  have fr:H s.heap.objs.size=none:=I.hok.fresh (ZG _)
  have f1:=hf en (by simp)
  have f2:=hf ia (by simp)
  have neq:∀ b,H b≠none->b≠en/\b≠ia:=λb m=>⟨λz=>m (z▸f1.1),λz=>m (z▸f2.1)⟩
  have un:Un (frs X.stack) [en,ia] H (upd H s.heap.objs.size (.tup [.int i,x])) s.heap h2:=by
   have nn:∀ b,b ∉ [en,ia]->b≠en/\b≠ia:=λb m=>⟨λz=>m (by simp[z]),λz=>m (by simp[z])⟩
   have np:∀ b o,s.heap.get? b=some o->b≠s.heap.objs.size:=λb o q=>WI (ZZ q)
   exact⟨λb o q _ _ m=>kk b o (nn b m).1 (nn b m).2 q,λb o q _ _ m=>⟨o.slots,kk b o (nn b m).1 (nn b m).2 q⟩,λb o q m _=>by rw[q27 (np b o q)];exact m,λb o q m=>⟨o,kk b o (nn b m).1 (nn b m).2 q⟩,
    λb ys q=>by rw[q27 (q26 q fr)];exact q,λb o v q=>by rw[q27 (q26 q fr)];exact q,λb ps q=>⟨#[],by rw[q27 (q26 q fr),q];simp⟩⟩
  have hok:HOk X.prog X.w (upd H s.heap.objs.size (.tup [.int i,x])) h2:=λb ob e=>by
   by_cases hb:b=s.heap.objs.size
   ·subst hb
    rw[q14]at e
    cases e
    exact⟨q694,[.int i s.toks,u],.cons ⟨_,rfl⟩ (.cons ru .nil),⟨_,t2,rfl,_,rfl⟩⟩
   ·rw[q27 hb]at e
    refine(I.hok b ob e).stay (λc v z q=>?_) (λc q=>by rw[q27 (q26 q fr)];exact q) λc ys q=>by rw[q27 (q26 q fr)];exact q
    have m:H c≠none:=by
     rcases z with rfl | z
     ·rw[e];exact λy=>nomatch y
     ·rw[z];exact λy=>nomatch y
    exact kk c v (neq c m).1 (neq c m).2 q
  have J:Inv X pins σ (upd H s.heap.objs.size (.tup [.int i,x])) { s with heap:=h2,toks:=s.toks+1 }:=by
   refine I.call' (s':={ s with heap:=h2,toks:=s.toks+1 }) (ch:=[en,ia]) rfl un hok I.bare λb hb=>?_
   rcases eB hb with z | z
   ·subst z
    exact⟨f1.2.2.2.1,f1.2.1,f1.2.2.2.2.1,f1.2.2.2.2.2⟩
   ·have z':b=ia:=by simpa using z
    subst z'
    exact⟨f2.2.2.2.1,f2.2.1,f2.2.2.2.2.1,f2.2.2.2.2.2⟩
  refine⟨.ref s.heap.objs.size,_,J,rfl,⟨s.heap.objs.size,x,rfl,fr,rfl,λys hy=>by rw[I.tuple_inj hy hq];exact hx⟩,⟨⟨u,?_⟩,?_⟩,λb hb=>?_⟩
  ·have:((i+1:Nat):Int)=(i:Int)+1:={}
   rw[this]
   exact e2
  ·obtain⟨o,q,r⟩:=n1
   exact⟨o,(s2.2 ia (Ne.symm ne)).trans q,r⟩
  ·have hb':b=en\/b=ia:=by simpa using hb
   have lb:b<s.heap.objs.size:=by
    rcases hb' with z | z
    ·rw[z];exact len
    ·obtain⟨o,q,_⟩:=q2
     rw[z];exact ZZ q
   rw[q27 (WI lb)]
   exact(hf b hb).1
 done:=by
  intro X hP hw hK hc i pins s σ H E I hf st hg
  subst hP hw hK
  obtain⟨⟨was,q1⟩,q2⟩:=st
  obtain⟨xs,hq,hx⟩:=hg
  obtain⟨its,rv,p,hz⟩:=I.tuple hq
  obtain⟨f0,f1,f2,f3,f4,f5⟩:=hf ia (by simp)
  have hl:=rv.length
  exact q693 (I.ok.hd hc) q1 q2 (show s.heap.IsTuple a its.toArray from p) (by simp;lia) λh' eb=>⟨rfl,I.turned (t':=s.toks) (λb o hb e=>eb b o hb e) f0 f1 f3 f4 f5⟩
 self:=λ_ _ _ _ _ st h=>by
  obtain⟨⟨was,q1⟩,_⟩:=st
  exact wpAny_pyIter_enum q1 h
def q695(tp:Addr)(us:Array Value)(n:Nat)(dct:Option Addr)(sl:Array (Option Value)) :
  Meets (Builtin.«enumerate.__new__» ⟨[.type "enumerate", .ref tp],[]⟩) (λ_ R s=>s.heap.get? tp=some { cls:=.type "tuple", dict:=dct,data:=.seq us n,slots:=sl } /\
   R (.ok (.ret (.ref (s.heap.push { cls:=.type "tuple_iterator", data:=.fields #[.ref tp,.int 0 0] }).objs.size)))
    { s with heap:=(s.heap.push { cls:=.type "tuple_iterator", data:=.fields #[.ref tp,.int 0 0] }).push { cls:=.type "enumerate", data:=.fields #[.none,.bool false,.ref s.heap.objs.size,rawInt 0,.none,.none] } }):=
 .of_wp λprog w A R s z=>by
  obtain⟨hp,g,d,tk,os⟩:=s
  obtain⟨z1,z2⟩:=z
  have sb:=sub_enumerate
  have T:Heap.IsTuple (Shared.heap ⟨hp,g,d,tk,os⟩) tp us:=⟨_,z1,rfl,n,rfl⟩
  wp_walk using AutoSeq1.wpAny_loadPart' z1
  refine wpAny_stack_any λst=>ZP ?_
  split
  ·rename_i c _ _ _ _ _
   cases(c==Value.type "enumerate")
   all_goals
    wp_walk using AutoSeq1.wpAny_loadPart' z1,wpAny_pyIter_tuple T
    exact⟨_,rfl,z2⟩
  ·wp_walk using AutoSeq1.wpAny_loadPart' z1,wpAny_pyIter_tuple T
   exact⟨_,rfl,z2⟩
section
variable {prog:Program}{w:World}{A:Around}{E:VS}{s:Shared}
def q631(T:s.heap.IsTuple tp us)
  (k:∀ h',IsEnum h' (s.heap.objs.size+1) s.heap.objs.size 0 .none->h'.IsTupleIter s.heap.objs.size tp 0->(∀ b o,s.heap.get? b=some o->h'.get? b=some o)->Q (.ref (s.heap.objs.size+1)) { s with heap:=h' }) :
  wpAny (model prog w) A (call (.type "enumerate") [.ref tp]) Q E s:=by
 obtain⟨⟨c,dct,dt,sl⟩,z1,z2,n,z3⟩:=T
 simp only at z2 z3
 subst z2 z3
 refine callType_new F.called_enumerate ∅ (F.typeCall_enumerate_1 _) (F.newCall_enumerate_1 _) (λobj=>F.args_object_init_2 obj _) F.entry_enumerate_new (q695 tp us n dct sl) ⟨z1,?_⟩
 generalize ho:({ cls:=.type "tuple_iterator", data:=.fields #[.ref tp,.int 0 0] }:Obj)=o1
 have y1:(s.heap.push o1).objs.size=s.heap.objs.size+1:=Heap.size_push ..
 have y2:∀ o2:Obj,o2.isFreed=false->((s.heap.push o1).push o2).get? (s.heap.objs.size+1)=some o2:=λo2 f=>by
  have:=ZV (s.heap.push o1) (o:=o2) f
  rwa [y1]at this
 show _/\_
 rw[y1]
 have y3:=y2 { cls:=.type "enumerate", data:=.fields #[.none,.bool false,.ref s.heap.objs.size,rawInt 0,.none,.none] } rfl
 refine⟨⟨_,y3,rfl⟩,k _ y3 ⟨o1,ZH _ (ZV _ (by rw[<- ho];rfl)),by rw[<- ho],by rw[<- ho];rfl⟩ λb o q=>ZH _ (ZH _ q)⟩
end
section
variable {es:List Expr}{x1:Nat}{tpos:Pos}
noncomputable def iEnum(K:Fg)(ta:TA):TI:=λσ H R=>ta σ H λvs H1=>∃ a,vs=[.ref a]/\(∃ xs,SqT K H1 a xs)/\R (Ite K a) H1
def pi_enum{l:Expr}{ta:TA}{p pos:Pos}(hg:Gl X "enumerate") (hm:X.mg "enumerate" = none) (ha:PA X [l] ta) (hs:starEach [l] X.env=[(false,eval l X.env)]:=by rfl) :
  PI X (.Tuple es x1 tpos) (.Call (.Name "enumerate" p) [l] [] pos) (iEnum X.K ta):=by
 intro pins s σ H R I h
 refine Call_ (q449 I hg hm boot_enumerate (PyProof.Rows.callWith_type1 (thn (ha pos pins s σ H _ I h) λus s1 ⟨vs,H1,I1,r1,q1⟩=>?_) hs rfl))
 obtain⟨a,e,⟨xs,hq⟩,q⟩:=q1
 subst e
 cases r1 with
 | cons r rr=>
  cases rr
  cases r
  obtain⟨its,rv,p,hz⟩:=I1.tuple hq
  refine q631 (show s1.heap.IsTuple a its.toArray from p) λh' e1 e2 k=>wpAny_pyIter_enum e1 ?_
  have I2:Inv X pins σ H1 { s1 with heap:=h' }:=I1.kept (t':=s1.toks) k
  refine⟨s1.heap.objs.size+1,[s1.heap.objs.size+1,s1.heap.objs.size],_,_,H1,rfl,I2,q630 a _ _ (Nat.succ_ne_self _),⟨⟨_,e1⟩,e2⟩,λb hb=>?_,q⟩
  have hb':s1.heap.objs.size<=b:=by
   have z:b=s1.heap.objs.size+1\/b=s1.heap.objs.size:=by simpa using hb
   rcases z with z | z
   ·rw[z];exact Nat.le_succ _
   ·rw[z];exact ZG _
  exact I1.fpOk hb' (I1.hok.fresh hb')
def for_enum{K:Fg}{a:Addr}{xs:List V}{g:TG}{tb:TS}{D:Ends}{σ:St}{H:Hp}(Pv:Nat->St->Hp->Prop)(h0:Pv 0 σ H)(hl:∀ i σ H,i<=xs.length->Pv i σ H->SqT K H a xs)
  (hs:∀ i x σ H p,xs[i]? = some x->Pv i σ H->H p=none->g (.ref p) σ (upd H p (.tup [.int i,x])) λσ2 H2=>tb { D with nx:=Pv (i+1),ct:=Pv (i+1),bk:=D.nx } σ2 H2) (hd:∀ σ H,Pv xs.length σ H->D.nx σ H) :
  ∃ W:Nat->Nat->St->Hp->Prop,(∃ m,W 0 m σ H) /\ ∀ i m σ H,W i m σ H ->
   ((Ite K a).stop i H/\D.nx σ H)\/((Ite K a).go i H /\ ∃ N:St->Hp->Prop,(∀ σ' H',N σ' H' -> ∃ m',m'<m/\W (i+1) m' σ' H') /\ ∀ x H',(Ite K a).yld i H x H'->g x σ H' λσ2 H2=>tb { D with nx:=N,ct:=N,bk:=D.nx } σ2 H2):=by
 exists λi m σ H=>m=xs.length-i/\i<=xs.length/\Pv i σ H,⟨xs.length,by simp,WA _,h0⟩
 rintro i m σ H ⟨rfl,hi,p⟩
 have q:=hl i σ H hi p
 by_cases hlt:i<xs.length
 ·refine .inr ⟨⟨xs,xs[i],q,by simp[hlt]⟩,Pv (i+1),λσ' H' p'=>⟨xs.length-(i+1),{},rfl,hlt,p'⟩,λx H' y=>?_⟩
  obtain⟨pp,yv,rfl,e2,rfl,y⟩:=y
  exact hs i yv σ _ pp (y xs q) p e2
 ·have e:i=xs.length:={}
  subst e
  exact .inl ⟨⟨xs,q,ZG _⟩,hd σ H p⟩
end
structure CalX(P:Program)(w:World)(K:Fg)(mg:Mg)(base:Heap)(k:Nat)(x:Str)(ps:List Str)(sp:Sp):Prop where
 ex:∃(f:Addr)(fd:FuncData),FnOk P w K mg base (CX1 P w) k f fd ps sp/\Binds K fd ps []/\PySem.W.keepIn K (.ref f)=true/\mg x=some (.ref f)
open PySem.Builtin.ObjectAttr in
structure XFld(K:Fg)(C:Addr)(f:Str):Prop where
 sa:PySem.W.findIn K (.ref C) "__setattr__" = some (some (.builtin "object.__setattr__"))
 na:PySem.W.findIn K (.ref C) f=some none
 hd:PySem.W.hasDictIn K C=true
noncomputable def q696(wi:TI)(tt:TT)(te:TE)(fr:List Nat):TE:=λσ H Q=>wi σ H λJ H1=>∀ D,H1 D=none -> ∃ W:Nat->Nat->List V->Hp->Prop,(∃ m,W 0 m [] (upd H1 D (.lst []))) /\
 ∀ i m ys H2,W i m ys H2->H2 D=some (.lst ys)/\((J.stop i H2/\Q (.ref D) H2)\/(J.go i H2/\ys.length<sizeLine /\ ∃ N:V->Hp->Prop,(∀ y H3,N y H3->H3 D=some (.lst ys) /\ ∃ m',m'<m/\W (i+1) m' (ys++[y]) (upd H3 D (.lst (ys++[y])))) /\
  ∀ x H',J.yld i H2 x H'->tt (some x::fr.map λj=>(σ[j]?).getD none) H' λb H3=>if b=true then te (some x::fr.map λj=>(σ[j]?).getD none) H3 N else ∃ m',m'<m/\W (i+1) m' ys H3))
theorem q306{X:Cx}{elt itr cc:Expr}{x:Str}{px pos:Pos}{scope sc0:Scope}{cl:List (Str×Addr)}{cn N:List Str}{fr:List Nat}{tt:TT}{te:TE}{pins:List (Addr×Obj)}{σ:St}{H2:Hp}{s2:Shared}{it:Addr}{fp:List Addr}
  {tn:Nat->Heap->Prop} {J:It} {RR:Value->Addr->Result->Shared->Prop} {R:Hp->Prop} {E:VS} {W:Nat->Nat->List V->Hp->Prop} {m0:Nat}
  (hc:X.calm=true) (he:∀(C:Addr)(s₂:Shared)(H₂:Hp)(fp:List Addr),PE (q55 X scope cl C x N s₂ H₂ fp) elt te) (hct:∀(C:Addr)(s₂:Shared)(H₂:Hp)(fp:List Addr),PT (q55 X scope cl C x N s₂ H₂ fp) cc tt)
  (hcl:q92 X.env cl) (hcn:cl.map (·.1)=cn) (hsc:X.env.scope=sc0) (hk:scope.kind = .function) (hok:CompOk scope sc0 x N cn) (hfr:fr.map (λj=>X.N[j]?)=N.map some)
  (I2:Inv X pins σ H2 s2) (T:Turn X.prog X.w X.K (.Name x px) J fp it tn) (st2:tn 0 s2.heap) (f2:∀ b∈fp,FpOk X pins H2 b)
  (w0:W 0 m0 [] (upd H2 s2.heap.objs.size (.lst [])))
  (turn:∀ i m ys H,W i m ys H->H s2.heap.objs.size=some (.lst ys)/\((J.stop i H/\R H)\/(J.go i H/\ys.length<sizeLine /\ ∃ N:V->Hp->Prop,
   (∀ y H3,N y H3->H3 s2.heap.objs.size=some (.lst ys) /\ ∃ m',m'<m/\W (i+1) m' (ys++[y]) (upd H3 s2.heap.objs.size (.lst (ys++[y])))) /\
   ∀ x H',J.yld i H x H'->tt (some x::fr.map λj=>(σ[j]?).getD none) H' λb H3=>if b=true then te (some x::fr.map λj=>(σ[j]?).getD none) H3 N else ∃ m',m'<m/\W (i+1) m' ys H3)))
  (hRR:∀(C:Addr)(H6:Hp)(s6:Shared)(m6:Mg),s6.heap.Ns C m6->Inv X pins σ H6 s6->FpOk X pins H6 C->R H6->RR (.ref s2.heap.objs.size) C (.ok .next) s6) :
  wpAny (model X.prog X.w) X.A (newList []) (λacc s₃=>wpAny (model X.prog X.w) X.A (newFunctionEnv scope X.env.globals cl [] X.env.qual none .none (some X.env)) (λcenv s₄=>
   codeAny (model X.prog X.w) X.A (.compStart (.ListComp elt [⟨.Name x px,itr,[cc],0⟩] scope pos) 0 (.ref it) acc { cenv with scope:=relabel scope X.env }) (RR acc cenv.locals) s₄) E s₃) E s2:=by
 refine q237 (TN:=[]) (gt:=gName 0) (tt:=tt) hc he (λC s h f=>q688 (hct C s h f)) (λ_ _ _ _=>q105 hok.nd rfl (.inl ?_) (.inr ?_)) hcl hcn hsc hk ⟨hok.has,hok.nc,hok.names,hok.frs⟩ hfr I2 T st2 f2 w0 (λi m ys H h=>?_) hRR
 ·exact q412 hsc hok.hx'
 ·exact q412 hsc hok.hx'
 obtain⟨a,b⟩:=turn i m ys H h
 exists a
 rcases b with b | ⟨g,l,N,h1,h2⟩
 ·exact .inl b
 refine .inr ⟨g,l,N,λH3=>∃ m',m'<m/\W (i+1) m' ys H3,h1,λ_ z=>z,λx H' y vs hv=>?_⟩
 match vs,hv with
 | [v0],_=>exact⟨⟨[some x],rfl,rfl⟩,h2 x H' y⟩
def q71{X:Cx}{elt itr cc:Expr}{x:Str}{px pos:Pos}{scope sc0:Scope}{cl:List (Str×Addr)}{cn N:List Str}{fr:List Nat}{wi:TI}{tt:TT}{te:TE}
  (hc:X.calm=true) (hi:PI X (.Name x px) itr wi) (he:∀(C:Addr)(s₂:Shared)(H₂:Hp)(fp:List Addr),PE (q55 X scope cl C x N s₂ H₂ fp) elt te) (hct:∀(C:Addr)(s₂:Shared)(H₂:Hp)(fp:List Addr),PT (q55 X scope cl C x N s₂ H₂ fp) cc tt)
  (hclos:closureFor scope X.env=pure cl) (hcl:q92 X.env cl) (hcn:cl.map (·.1)=cn) (hsc:X.env.scope=sc0) (hk:scope.kind = .function) (hok:CompOk scope sc0 x N cn)
  (hfr:fr.map (λj=>X.N[j]?)=N.map some) (hs:∀ v,foldedSetIterable itr X.env v=pure v:=by intro _;rfl) :
  PE X (.ListComp elt [⟨.Name x px,itr,[cc],0⟩] scope pos) (q696 wi tt te fr):=by
 intro pins s σ H Q I h
 rw[eval_ListComp]
 refine wpAny_comprehension_free (use:=none) rfl hs hclos hk hok.names (thn (hi pins s σ H _ I h) λv s1 h1=>thn h1 λitv s2 h2=>?_)
 obtain⟨it,fp,tn,J,H2,e,I2,T,st2,f2,hq⟩:=h2
 subst e
 obtain⟨W,⟨m0,w0⟩,turn⟩:=hq s2.heap.objs.size (I2.hok.fresh (ZG _))
 exact q306 (RR:=λacc C=>compPost (model X.prog X.w) X.A X.xe none (EP X pins σ Q) acc C) (R:=λH6=>Q (.ref s2.heap.objs.size) H6) hc he hct hcl hcn hsc hk hok hfr I2 T st2 f2 w0 turn
  λC H6 s6 m6 hn I6 F6 q=>⟨m6,hn,λh' sb=>⟨.ref s2.heap.objs.size,H6,I6.let_go F6 sb,rfl,q⟩⟩
noncomputable def q632(i:Nat)(wi:TI)(tt:TT)(te:TE)(fr:List Nat):TS:=λD σ H=>q696 wi tt te fr σ H λv H1=>D.nx (σ.set i (some v)) H1
def q462{X:Cx}{i:Nat}{spos:Pos}{scope:Scope}{cl:List (Str×Addr)}{N:List Str}{fr:List Nat}
  (hN:X.N.Nodup) (hiN:X.N[i]? = some y) (hy:Loc X.env.scope y)
  (hc:X.calm=true) (hi:PI X (.Name x px) itr wi) (he:∀(C:Addr)(s₂:Shared)(H₂:Hp)(fp:List Addr),PE (q55 X scope cl C x N s₂ H₂ fp) elt te) (hct:∀(C:Addr)(s₂:Shared)(H₂:Hp)(fp:List Addr),PT (q55 X scope cl C x N s₂ H₂ fp) cc tt)
  (hclos:closureFor scope X.env=pure cl) (hcl:q92 X.env cl) (hcn:cl.map (·.1)=cn) (hsc:X.env.scope=sc0) (hk:scope.kind = .function) (hok:CompOk scope sc0 x N cn)
  (hfr:fr.map (λj=>X.N[j]?)=N.map some) (hsw:swapsWith (.ListComp elt [⟨.Name x px,itr,[cc],0⟩] scope pos) (some (.Name y py)) spos.line X.env=pure true)
  (hf:X.fn y=true\/X.env.scope.names.lookup y=some .local) (hs:∀ v,foldedSetIterable itr X.env v=pure v:=by intro _;rfl) :
  PS X (.Assign [.Name y py] (.ListComp elt [⟨.Name x px,itr,[cc],0⟩] scope pos) spos) (q632 i wi tt te fr):=by
 intro pins s σ H D I h
 rw[exec_Assign_Name_used _ _ _ _ hsw]
 refine ZC (wpAny_standAt (ZC ?_))
 show wpAny _ X.A (do let _ <- comprehension (.ListComp elt [⟨.Name x px,itr,[cc],0⟩] scope pos) scope X.env _ (newList []) false (eval itr X.env) (some (assign (.Name y py) X.env))) _ _ s
 refine ZC (YS (wpAny_comprehension_free (use:=some (assign (.Name y py) X.env)) (Q:=λ_ s'=>SP X pins D .next s') rfl hs hclos hk hok.names
  (thn (hi pins s σ H _ I h) λv s1 h1=>thn h1 λitv s2 h2=>?_)) (λ_ s' hq=>ZP (ZP hq)) λ_ _ e=>e)
 obtain⟨it,fp,tn,J,H2,e,I2,T,st2,f2,hq⟩:=h2
 subst e
 obtain⟨W,⟨m0,w0⟩,turn⟩:=hq s2.heap.objs.size (I2.hok.fresh (ZG _))
 refine q306 (RR:=λacc C=>compPost (model X.prog X.w) X.A X.xe (some (assign (.Name y py) X.env)) (λ_ s'=>SP X pins D .next s') acc C) (R:=λH6=>D.nx (σ.set i (some (.ref s2.heap.objs.size))) H6) hc he hct hcl hcn hsc hk hok hfr I2 T st2 f2 w0 turn
  λC H6 s6 m6 hn I6 F6 q=>?_
 show wpAny _ X.A (assign (.Name y py) X.env (.ref s2.heap.objs.size)) _ _ _
 refine wpAny_assign_Name (q297 (v:=.ref s2.heap.objs.size) I6 hN hiN hy rfl (λs7 I7 ⟨a,sb,ha⟩=>?_) hf)
 have neC:C≠a:=by
  rcases ha with ha | ha
  ·rw[ha];exact F6.2.1
  ·exact Ne.symm (F6.2.2.2.2.1 y a ha)
 exact⟨m6,hn.sameBut sb neC,λh' sb'=>⟨_,H6,I7.let_go F6 sb',q⟩⟩
def q521{K:Fg}{a:Addr}{xs:List V}{p:V->Bool}{g:V->V}{Tt:V->Hp->(Bool->Hp->Prop)->Prop}{Te:V->Hp->(V->Hp->Prop)->Prop}{D:Addr}{H1:Hp}{R:Hp->Prop}
  (ha:SqL K H1 a xs) (hD:H1 D=none) (hn:xs.length<=sizeLine) (hT:∀ x∈xs,∀(H:Hp)(Q:Bool->Hp->Prop),Same H1 H->Q (p x) H->Tt x H Q) (hE:∀ x∈xs,p x=true -> ∀(H:Hp)(Q:V->Hp->Prop),Same H1 H->Q (g x) H->Te x H Q)
  (hR:R (upd H1 D (.lst ((xs.filter p).map g)))) :
  ∃ W:Nat->Nat->List V->Hp->Prop,(∃ m,W 0 m [] (upd H1 D (.lst []))) /\
   ∀ i m ys H2,W i m ys H2->H2 D=some (.lst ys)/\(((Itl K a).stop i H2/\R H2)\/((Itl K a).go i H2/\ys.length<sizeLine /\ ∃ N:V->Hp->Prop,(∀ y H3,N y H3->H3 D=some (.lst ys) /\ ∃ m',m'<m/\W (i+1) m' (ys++[y]) (upd H3 D (.lst (ys++[y])))) /\
    ∀ x H',(Itl K a).yld i H2 x H'->Tt x H' λb H3=>if b=true then Te x H3 N else ∃ m',m'<m/\W (i+1) m' ys H3)):=by
 exists λi m ys H=>m=xs.length-i/\i<=xs.length/\ys=((xs.take i).filter p).map g/\H=upd H1 D (.lst ys),⟨xs.length,by simp,WA _,by simp,rfl⟩
 rintro i m ys H2 ⟨rfl,hi,hy,rfl⟩
 have sm:=q17 hD (.lst ys)
 have q:=sm.seq ha
 have hyl:ys.length<=i:=by
  rw[hy,ZJ]
  exact ZO (WP _ _) (by rw[WZ];exact Nat.min_le_left _ _)
 exists q14
 by_cases hlt:i<xs.length
 ·refine .inr ⟨⟨xs,xs[i],q,by simp[hlt]⟩,{},λy H3=>H3=upd H1 D (.lst ys)/\y=g xs[i]/\p xs[i]=true,λy H3 ⟨z1,z2,z3⟩=>⟨by rw[z1];exact q14,xs.length-(i+1),(W1 hlt),rfl,hlt,?eq,by rw[z1,q103]⟩,λx H' y=>?st⟩
  case eq=>
   rw[take_succ_eq_append_getElem hlt,filter_append,WK,<- hy,z2]
   simp[z3]
  case st=>
   obtain⟨e,y⟩:=y
   subst e
   have hx:xs[i]? = some x:=y xs q
   have hx':xs[i]=x:=by simpa [hlt] using hx
   have hm:x∈xs:=by rw[<- hx'];exact getElem_mem hlt
   refine hT x hm _ _ sm ?_
   by_cases hp:p x=true
   ·rw[ZL hp]
    exact hE x hm hp _ _ sm ⟨rfl,by rw[hx'],by rw[hx'];exact hp⟩
   ·rw[ZI hp]
    refine⟨xs.length-(i+1),{},rfl,hlt,?_,rfl⟩
    rw[take_succ_eq_append_getElem hlt,filter_append,WK,<- hy,hx']
    simp[hp]
 ·have e:i=xs.length:=(W41 hi hlt)
  subst e
  refine .inl ⟨⟨xs,q,ZG _⟩,?_⟩
  rw[hy,YQ]
  exact hR
section
variable {P:Program}{w:World}{K:Fg}{mg:Mg}{base:Heap}
def prevSp(sp:Nat->Sp):Nat->Sp
 | 0=>λ_ _ _ _=>False
 | e+1=>sp e
def Def.recur{sp:Nat->Sp}{x:Str}{st:Stmt}{ps:List Str}(d:Def K mg x st ps){k:Nat}(n:Nat)
  (step:∀ e,e<=n->Cal P w K mg base (e+k) x ps (prevSp sp e) -> ∀(f:Addr)(fd:FuncData),Fun K x x st f fd->FnOk P w K mg base CX0 (e+(k+1)) f fd ps (sp e)) :
  Cal P w K mg base (n+(k+1)) x ps (λvs H Q E=>∃ e,e<=n/\sp e vs H Q E):=by
 obtain⟨f,fd,h1,h2,h3⟩:=d.ex
 have all:∀ e,e<=n->FnOk P w K mg base CX0 (e+(k+1)) f fd ps (sp e):=by
  intro e
  induction e with
  | zero=>exact λhe=>step 0 he ⟨f,fd,⟨λ_ _ _ _ h=>h.elim,λ_ _ _ _ _ _ _ _ _ _ _ _ _ h=>h.elim⟩,.all h2,h1.kp,h3⟩ f fd h1
  | succ e ih=>exact λhe=>step (e+1) he ⟨f,fd,(ih (W44 he)).mono {},.all h2,h1.kp,h3⟩ f fd h1
 refine⟨f,fd,⟨?_,?_⟩,.all h2,h1.kp,h3⟩
 ·rintro vs H Q E ⟨e,he,h⟩
  exact(all e he).len vs H Q E h
 ·rintro A outer s H args us vs Q E hr he hb hv ⟨e,hle,h⟩
  exact(all e hle).run A outer s H args us vs Q E (hr.mono {}) he hb hv h
end
def q633{K:Fg}{a:Addr}{xs:List V}{g:V->V}{Te:V->Hp->(V->Hp->Prop)->Prop}{D:Addr}{H1:Hp}{R:Hp->Prop}
  (ha:SqL K H1 a xs) (hD:H1 D=none) (hn:xs.length<=sizeLine) (hE:∀ x∈xs,∀(H:Hp)(Q:V->Hp->Prop),Same H1 H->Q (g x) H->Te x H Q) (hR:R (upd H1 D (.lst (xs.map g)))) :
  ∃ W:Nat->Nat->List V->Hp->Prop,(∃ m,W 0 m [] (upd H1 D (.lst []))) /\
   ∀ i m ys H2,W i m ys H2->H2 D=some (.lst ys)/\(((Itl K a).stop i H2/\R H2)\/((Itl K a).go i H2/\ys.length<sizeLine /\ ∃ N:V->Hp->Prop,(∀ y H3,N y H3->H3 D=some (.lst ys) /\ ∃ m',m'<m/\W (i+1) m' (ys++[y]) (upd H3 D (.lst (ys++[y])))) /\
    ∀ x H',(Itl K a).yld i H2 x H'->Te x H' N)):=by
 exists λi m ys H=>m=xs.length-i/\i<=xs.length/\ys=(xs.take i).map g/\H=upd H1 D (.lst ys),⟨xs.length,by simp,WA _,by simp,rfl⟩
 rintro i m ys H2 ⟨rfl,hi,hy,rfl⟩
 have sm:=q17 hD (.lst ys)
 have q:=sm.seq ha
 have hyl:ys.length<=i:=by
  rw[hy,ZJ,WZ];exact Nat.min_le_left _ _
 exists q14
 by_cases hlt:i<xs.length
 ·refine .inr ⟨⟨xs,xs[i],q,by simp[hlt]⟩,{},λy H3=>H3=upd H1 D (.lst ys)/\y=g xs[i],λy H3 ⟨z1,z2⟩=>⟨by rw[z1];exact q14,xs.length-(i+1),{},rfl,hlt,?eq,by rw[z1,q103]⟩,λx H' y=>?st⟩
  case eq=>
   rw[take_succ_eq_append_getElem hlt,WK,<- hy,z2]
   rfl
  case st=>
   obtain⟨e,y⟩:=y
   subst e
   have hx:xs[i]? = some x:=y xs q
   have hx':xs[i]=x:=by simpa [hlt] using hx
   have hm:x∈xs:=by rw[<- hx'];exact getElem_mem hlt
   exact hE x hm _ _ sm ⟨rfl,by rw[hx']⟩
 ·have e:i=xs.length:={}
  subst e
  refine .inl ⟨⟨xs,q,ZG _⟩,?_⟩
  rw[hy,YQ]
  exact hR
inductive q413(K:Fg)(xs:List V)(H:Hp)(Q:VK):Prop
 |mk(p:Addr)(ns:List Int)(_:xs=[.ref p])(_:SqL K H p (ns.map V.int))(_:ns.length<64)(_:∀(l:Addr)(ms:List Int),H l=none->ms.Perm ns->ms.Pairwise (· <= ·)->Q (.ref l) (upd H l (.lst (ms.map V.int))))
def q263:CallR X (.builtin "sorted") (q413 X.K):=by
 intro pins s σ H xs us Q I r h
 obtain⟨p,ns,rfl,hq,h64,q⟩:=h
 obtain⟨u,rfl,rx⟩:=vals1 r
 cases rx
 obtain⟨its,r',pl,hz⟩:=I.list hq
 have hl:=r'.length
 rw[ZJ]at hl hz
 refine PyProof.Rows.sorted_ints pl.isList (q100 r') {} λout ms a1 a2 a3=>?_
 obtain⟨e,he⟩:=PyProof.Rows.sortedAll_at s.heap its out
 have hml:ms.length=ns.length:=a2.length_eq
 refine⟨.ref (s.heap.objs.size+1),_,I.laid (t':=s.toks) (a:=s.heap.objs.size+1) (o:=.lst (ms.map V.int)) (λb ob z=>PyProof.Rows.sortedAll_old z) (Nat.le_succ _) ?_,rfl,q _ ms (I.hok.fresh (Nat.le_succ _)) a2 a3⟩
 exists by rw[ZJ];lia,out.toList,e,q304 a1
 rw[he]
section
variable {K:Fg}
def q194(h:X.K=K):IxR X (rIxT K):=by subst h;exact q24
def q697(h:X.K=K):CallR X (.builtin "len") (q124 K):=by subst h;exact q262
def pe_bmK{o e:Expr}{es:List Expr}{to:TE}{t:TA}{name:Str}{apos cpos:Pos}{T id:String}{r:V->List V->Hp->VK->Prop}(h:X.K=K)
  (pa:PlainAttrs T) (slot:Slot T name id) (hty:typeOf (.builtin id)=pure (.type "method_descriptor")) (hm:MtR X id r) (ho:PE X o to) (ha:PA X (e::es) t)
  (hbase:attributeBase o name X.env (eval o X.env)=eval o X.env:=by rfl)
  (hfew:((backTo cpos (starEach (e::es) X.env)).all (λx=>!x.1)&&(backToKw cpos (keywordEach [] X.env)).all (λx=>x.1.isSome)&&decide ((e::es).length+([]:List Keyword).length+(if([]:List Keyword).isEmpty then 0 else 1)<30))=true:=by rfl)
  (hline:(apos.endLine==cpos.line)=true:=by rfl) (hs:starEach (e::es) X.env=(false,eval e X.env)::starEach es X.env:=by rfl) (hplain:(backTo cpos (starEach es X.env)).any (·.1)=false:=by rfl) :
  PE X (.Call (.Attribute o name apos) (e::es) [] cpos) (tBM K T r to t):=by subst h;exact pe_bm pa slot hty hm ho ha hbase hfew hline hs hplain
end
inductive Tr where
 | non
 | many (n:Int)
 | part (ms:List Int) (l r:Tr)
noncomputable def Tr.deep:Tr->Nat
 | .non=>0
 | .many _=>0
 | .part _ l r=>max l.deep r.deep+1
noncomputable def q35(H:Hp):V->Tr->Prop
 | v,.non=>v = .non
 | v,.many n=>∃ a,v = .ref a/\H a=some (.tup [.str "many", .int n])
 | v,.part ms l r=>∃ a m x y,v = .ref a/\H a=some (.tup [.str "part", .ref m,x,y])/\TupF H m (ms.map V.int)/\q35 H x l/\q35 H y r
def TKeep(H H':Hp):Prop:=∀ b xs,(H b=some (.tup xs)->H' b=some (.tup xs)) /\ ∀ o,H b=some (.frz o (.tup xs))->H' b=some (.frz o (.tup xs))
def TKeep.same(s:Same H H'):TKeep H H':=λ_ _=>⟨s _ _,λ_=>s _ _⟩
def TKeep.keep(s:Keep p H H')(e:H p=some (.lst ys)):TKeep H H':=λ_ _=>⟨λh=>s _ _ (ne_of h e (by intro z;cases z)) h,λ_ h=>s _ _ (ne_of h e (by intro z;cases z)) h⟩
def TKeep.set(e:H p=some (.lst ys)):TKeep H (upd H p (.lst zs)):=.keep (Keep.set p H _) e
def TupF.tk(h:TupF H a xs)(s:TKeep H H'):TupF H' a xs:=by
 obtain⟨o,h,c⟩:=h
 exact⟨o,(s _ _).2 o h,c⟩
theorem q35.tk{H H':Hp}(s:TKeep H H'):∀{t:Tr}{v:V},q35 H v t->q35 H' v t
 | .non,_,h=>h
 | .many _,_,⟨a,e,h⟩=>⟨a,e,(s _ _).1 h⟩
 | .part _ _ _,_,⟨a,m,x,y,e,h,hm,hl,hr⟩=>⟨a,m,x,y,e,(s _ _).1 h,hm.tk s,q35.tk s hl,q35.tk s hr⟩
def q35.same(s:Same H H')(h:q35 H v t):q35 H' v t:=h.tk (.same s)
def q205{A:Around}{xs ys:List V}(I:Inv X pins σ H s)(ha:SqT X.K H a xs)(hb:SqT X.K H b ys)(hl:xs.length=ys.length)
  (he:∀(j:Nat)(x y:V),xs[j]? = some x->ys[j]? = some y -> ∀ u v,RelV x u->RelV y v->SeqAt.EqAt A.in1 s u v true) (hu:A.units<cLine) :
  SeqAt.RcAt A s (.ref a) (.ref b) true/\SeqAt.RcNeAt A s (.ref a) (.ref b) false:=by
 obtain⟨its,r1,p1,_⟩:=I.tuple ha
 obtain⟨its2,r2,p2,_⟩:=I.tuple hb
 have l1:=r1.length
 have l2:=r2.length
 have hz:its.toArray.size=its2.toArray.size:=by rw[WB,WB];lia
 have el:∀(j:Nat)(h1:j<its.toArray.size)(h2:j<its2.toArray.size),SeqAt.EqAt A.in1 s its.toArray[j] its2.toArray[j] ((λ_=>true) j):=by
  intro j h1 h2
  have h1':j<xs.length:=by rw[WB]at h1;lia
  have h2':j<ys.length:=by rw[WB]at h2;lia
  obtain⟨v1,e1,r1'⟩:=r1.get (i:=j) (x:=xs[j]) (ZM h1')
  obtain⟨v2,e2,r2'⟩:=r2.get (i:=j) (x:=ys[j]) (ZM h2')
  have g1:its.toArray[j]=v1:=by
   have:=eA e1
   simpa using this.2
  have g2:its2.toArray[j]=v2:=by
   have:=eA e2
   simpa using this.2
  rw[g1,g2]
  exact he j _ _ (ZM h1') (ZM h2') _ _ r1' r2'
 have t0:((List.range (min its.toArray.size its2.toArray.size)).all (λ_=>true)&&its.toArray.size==its2.toArray.size)=true:=by
  rw[hz];simp
 constructor
 ·rw[<- t0]
  exact SeqAt.RcAt.tuples p1 p2 hu el
 ·have z:=SeqAt.RcNeAt.tuples (e:=λ_=>true) p1 p2 hu el
  rw[t0]at z
  exact z
def q159(h:SeqAt.RcAt A s (.ref a) (.ref b) true):SeqAt.EqAt A s (.ref a) (.ref b) true:=by
 by_cases e:a=b
 ·subst e
  exact SeqAt.EqAt.same _
 ·exact .of_refs e h
def q563{i:Int}(r1:RelV (.int i) u)(r2:RelV (.int i) v):SeqAt.EqAt A s u v true:=by
 have z:=q457 (A:=A) (s:=s) r1 r2 rfl rfl
 have e:eqV (.int i) (.int i)=true:=by simp[eqV]
 rw[e]at z
 exact z
def q564(r1:RelV (.str i) u)(r2:RelV (.str i) v):SeqAt.EqAt A s u v true:=by
 have z:=q457 (A:=A) (s:=s) r1 r2 rfl rfl
 have e:eqV (.str i) (.str i)=true:=by simp[eqV]
 rw[e]at z
 exact z
theorem q463{A:Around}{ns:List Int}(I:Inv X pins σ H s)(ha:SqT X.K H a (ns.map V.int))(hb:SqT X.K H b (ns.map V.int))(hu:A.units<cLine) :
  SeqAt.RcAt A s (.ref a) (.ref b) true/\SeqAt.RcNeAt A s (.ref a) (.ref b) false:=by
 refine q205 I ha hb rfl (λj x y h1 h2 u v r1 r2=>?_) hu
 rw[h1]at h2
 cases h2
 rw[WH]at h1
 cases e:ns[j]? with
 | none=>rw[e]at h1;cases h1
 | some n=>
  rw[e]at h1
  cases h1
  exact q563 r1 r2
theorem q307(I:Inv X pins σ H s):∀(t:Tr)(A:Around)(x y:V)(u v:Value),q35 H x t->q35 H y t->RelV x u->RelV y v->A.units+t.deep+2<cLine ->
  SeqAt.EqAt A s u v true/\SeqAt.RcNeAt A s u v false/\SeqAt.RcAt A s u v true
 | .non,A,x,y,u,v,hx,hy,ru,rv,hu=>by
  cases hx
  cases hy
  cases ru
  cases rv
  exact⟨SeqAt.EqAt.same _,SeqAt.RcNeAt.none_none,SeqAt.RcAt.none_none⟩
 | .many n,A,x,y,u,v,⟨a,ea,ha⟩,⟨b,eb,hb⟩,ru,rv,hu=>by
  subst ea eb
  cases ru
  cases rv
  have z:=q205 (A:=A) I (SqT.of ha) (SqT.of hb) rfl (λj x y h1 h2 u v r1 r2=>by
   match j,h1,h2 with
   | 0,h1,h2=>cases h1;cases h2;exact q564 r1 r2
   | 1,h1,h2=>cases h1;cases h2;exact q563 r1 r2
   | j+2,h1,h2=>cases h1) {}
  exact⟨q159 z.1,z.2,z.1⟩
 | .part ms l r,A,x,y,u,v,⟨a,m,x1,y1,ea,ha,hm,hl,hr⟩,⟨b,m',x2,y2,eb,hb,hm',hl',hr'⟩,ru,rv,hu=>by
  subst ea eb
  cases ru
  cases rv
  have hd:(Tr.part ms l r).deep=max l.deep r.deep+1:=rfl
  have hA:A.in1.units=A.units+1:=rfl
  have z:=q205 (A:=A) I (SqT.of ha) (SqT.of hb) rfl (λj x y h1 h2 u v r1 r2=>by
   match j,h1,h2 with
   | 0,h1,h2=>cases h1;cases h2;exact q564 r1 r2
   | 1,h1,h2=>
    cases h1;cases h2
    cases r1
    cases r2
    exact q159 (q463 I hm.sq hm'.sq {}).1
   | 2,h1,h2=>cases h1;cases h2;exact(q307 I l A.in1 _ _ _ _ hl hl' r1 r2 {}).1
   | 3,h1,h2=>cases h1;cases h2;exact(q307 I r A.in1 _ _ _ _ hr hr' r1 r2 {}).1
   | j+4,h1,h2=>cases h1) {}
  exact⟨q159 z.1,z.2,z.1⟩
inductive Rop_neTr  (x:V) (y:V) (H:Hp) (Q:VK):Prop
 |mk(t:Tr)(_:q35 H x t)(_:q35 H y t)(_:t.deep<=60)(_:Q (.bl false) H)
def q698(hu:X.A.units+64<cLine):OpR X (compareOp .NotEq) Rop_neTr:=by
 intro pins s σ H x y v u Q I rx ry h
 obtain⟨t,hx,hy,hd,q⟩:=h
 exact(q307 I t X.A x y v u hx hy rx ry {}).2.1 _ _ _ _ ⟨.bl false,H,I,rfl,q⟩
noncomputable def onI{α:Type}(f:Int->α)(d:α):V->α
 | .int n=>f n
 | _=>d
def filt_onI{p:Int->Bool}{g:Int->V}(ns:List Int):(((ns.map V.int).filter (onI p false)).map (onI g .non))=(ns.filter p).map g:=by
 induction ns with
 | nil=>rfl
 | cons n ns ih=>
  rw[map_cons,YZ,YZ]
  have e:onI p false (.int n)=p n:=rfl
  rw[e]
  by_cases h:p n=true
  ·rw[ZL h,ZL h,map_cons,map_cons,ih];rfl
  ·rw[ZI h,ZI h];exact ih
section
variable {K:Fg}{a:Addr}{ns:List Int}{p:Int->Bool}{g:Int->V}{Tt:V->Hp->(Bool->Hp->Prop)->Prop}{Te:V->Hp->(V->Hp->Prop)->Prop}{D:Addr}{H1:Hp}{R:Hp->Prop}
def q127(ha:SqL K H1 a (ns.map V.int))(hD:H1 D=none)(hn:ns.length<=sizeLine)(hT:∀ n∈ns,∀(H:Hp)(Q:Bool->Hp->Prop),Same H1 H->Q (p n) H->Tt (.int n) H Q)
  (hE:∀ n∈ns,p n=true -> ∀(H:Hp)(Q:V->Hp->Prop),Same H1 H->Q (g n) H->Te (.int n) H Q) (hR:R (upd H1 D (.lst ((ns.filter p).map g)))) :
  ∃ W:Nat->Nat->List V->Hp->Prop,(∃ m,W 0 m [] (upd H1 D (.lst []))) /\
   ∀ i m ys H2,W i m ys H2->H2 D=some (.lst ys)/\(((Itl K a).stop i H2/\R H2)\/((Itl K a).go i H2/\ys.length<sizeLine /\ ∃ N:V->Hp->Prop,(∀ y H3,N y H3->H3 D=some (.lst ys) /\ ∃ m',m'<m/\W (i+1) m' (ys++[y]) (upd H3 D (.lst (ys++[y])))) /\
    ∀ x H',(Itl K a).yld i H2 x H'->Tt x H' λb H3=>if b=true then Te x H3 N else ∃ m',m'<m/\W (i+1) m' ys H3)):=by
 refine q521 (p:=onI p false) (g:=onI g .non) ha hD (by rw[ZJ];exact hn) (λx hx H Q s q=>?_) (λx hx hp H Q s q=>?_) (by rw[filt_onI];exact hR)
 ·obtain⟨n,hm,rfl⟩:=eE hx
  exact hT n hm H Q s q
 ·obtain⟨n,hm,rfl⟩:=eE hx
  exact hE n hm hp H Q s q
def q699(ha:SqL K H1 a (ns.map V.int))(hD:H1 D=none)(hn:ns.length<=sizeLine)(hE:∀ n∈ns,∀(H:Hp)(Q:V->Hp->Prop),Same H1 H->Q (g n) H->Te (.int n) H Q)(hR:R (upd H1 D (.lst (ns.map g)))) :
  ∃ W:Nat->Nat->List V->Hp->Prop,(∃ m,W 0 m [] (upd H1 D (.lst []))) /\
   ∀ i m ys H2,W i m ys H2->H2 D=some (.lst ys)/\(((Itl K a).stop i H2/\R H2)\/((Itl K a).go i H2/\ys.length<sizeLine /\ ∃ N:V->Hp->Prop,(∀ y H3,N y H3->H3 D=some (.lst ys) /\ ∃ m',m'<m/\W (i+1) m' (ys++[y]) (upd H3 D (.lst (ys++[y])))) /\
    ∀ x H',(Itl K a).yld i H2 x H'->Te x H' N)):=by
 refine q633 (g:=onI g .non) ha hD (by rw[ZJ];exact hn) (λx hx H Q s q=>?_) (by rw[map_map];exact hR)
 obtain⟨n,hm,rfl⟩:=eE hx
 exact hE n hm H Q s q
end
def Keep.free(k:Keep p H H')(hl:H' l=none)(hp:H' p=some o):H l=none:=by
 cases e:H l with
 | none=>rfl
 | some u=>
  have n:l≠p:=λz=>by rw[z,hp]at hl;cases hl
  rw[k l u n e]at hl
  cases hl
def Keep.own(k:Keep p H H')(hr:H r=none):Keep p H (upd H' r o):=λc u hc z=>by
 rw[q27 (q26 z hr)]
 exact k c u hc z
def p2pos(L:Nat):(0:Int)<2^L:=by
 induction L with
 | zero=>decide
 | succ L ih=>rw[YO];lia
def p2le{L:Nat}(h:L<=40):(2:Int)^L<=1099511627776:=by
 have e:(2:Int)^L=((2^L:Nat):Int):=by simp
 have:2^L<=2^40:=Nat.pow_le_pow_right ∅ h
 rw[e]
 have e2:(2:Nat)^40=1099511627776:=∅
 lia
def p2half(e:Nat):(2:Int)^(e+1)/2=2^e:=by rw[YO];exact W25
def p2succ(e:Nat):(2:Int)^(e+1)=2^e+2^e:=by rw[YO];exact W34
def p2one{e:Nat}(h:(2:Int)^e=1):e=0:=by
 cases e with
 | zero=>rfl
 | succ e=>have:=p2pos e;rw[p2succ]at h;lia
def q700(L:Nat):(1:Int)*2^((L:Int)).toNat=2^L:=by rw[Int.one_mul];rfl
inductive Alk(K:Fg)(H:Hp):Nat->V->V->Prop where
 | flat {n:Nat} {x:V} (h:flatV x=true):Alk K H n x x
 | tup {n:Nat} {a b:Addr} {xs ys:List V} (ha:SqT K H a xs) (hb:SqT K H b ys) (hl:xs.length=ys.length) (h:∀(j:Nat)(x y:V),xs[j]? = some x->ys[j]? = some y->Alk K H n x y):Alk K H (n+1) (.ref a) (.ref b)
 | lst {n:Nat} {a b:Addr} {xs ys:List V} (ha:SqL K H a xs) (hb:SqL K H b ys) (hl:xs.length=ys.length) (h:∀(j:Nat)(x y:V),xs[j]? = some x->ys[j]? = some y->Alk K H n x y):Alk K H (n+1) (.ref a) (.ref b)
def eqV_self:∀{x:V},flatV x=true->eqV x x=true:=by
 intro x h
 cases x <;> simp[flatV]at h <;> simp[eqV]
def q565{A:Around}{xs ys:List V}(I:Inv X pins σ H s)(ha:SqL X.K H a xs)(hb:SqL X.K H b ys)(hl:xs.length=ys.length)
  (he:∀(j:Nat)(x y:V),xs[j]? = some x->ys[j]? = some y -> ∀ u v,RelV x u->RelV y v->SeqAt.EqAt A.in1 s u v true) (hu:A.units<cLine) :
  SeqAt.RcAt A s (.ref a) (.ref b) true/\SeqAt.RcNeAt A s (.ref a) (.ref b) false:=by
 obtain⟨its,r1,p1,_⟩:=I.list ha
 obtain⟨its2,r2,p2,_⟩:=I.list hb
 have l1:=r1.length
 have l2:=r2.length
 have hz:its.toArray.size=its2.toArray.size:=by rw[WB,WB];lia
 have el:∀(j:Nat)(h1:j<its.toArray.size)(h2:j<its2.toArray.size),SeqAt.EqAt A.in1 s its.toArray[j] its2.toArray[j] ((λ_=>true) j):=by
  intro j h1 h2
  have h1':j<xs.length:=by rw[WB]at h1;lia
  have h2':j<ys.length:=by rw[WB]at h2;lia
  obtain⟨v1,e1,r1'⟩:=r1.get (i:=j) (x:=xs[j]) (ZM h1')
  obtain⟨v2,e2,r2'⟩:=r2.get (i:=j) (x:=ys[j]) (ZM h2')
  have g1:its.toArray[j]=v1:=by
   have:=eA e1
   simpa using this.2
  have g2:its2.toArray[j]=v2:=by
   have:=eA e2
   simpa using this.2
  rw[g1,g2]
  exact he j _ _ (ZM h1') (ZM h2') _ _ r1' r2'
 have t0:(List.range its.toArray.size).all (λ_=>true)=true:=by simp
 constructor
 ·rw[<- t0]
  exact SeqAt.RcAt.lists p1.isList p2.isList hz hu el
 ·have z:=SeqAt.RcNeAt.lists (e:=λ_=>true) p1.isList p2.isList hz hu el
  rw[t0]at z
  exact z
def q566(I:Inv X pins σ H s){n:Nat}(h:Alk X.K H n x y):∀(A:Around)(u v:Value),RelV x u->RelV y v->A.units+n+1<cLine->SeqAt.EqAt A s u v true:=by
 induction h with
 | @flat n x hf=>
  intro A u v ru rv hu
  have z:=q457 (A:=A) (s:=s) ru rv hf hf
  rw[eqV_self hf]at z
  exact z
 | tup ha hb hl _ ih=>
  intro A u v ru rv hu
  cases ru
  cases rv
  exact q159 (q205 I ha hb hl (λj x y h1 h2 u v r1 r2=>ih j x y h1 h2 A.in1 u v r1 r2 (by show A.units+1+_+1<cLine;exact W137 hu)) (W166 hu)).1
 | lst ha hb hl _ ih=>
  intro A u v ru rv hu
  cases ru
  cases rv
  exact q159 (q565 I ha hb hl (λj x y h1 h2 u v r1 r2=>ih j x y h1 h2 A.in1 u v r1 r2 (by show A.units+1+_+1<cLine;lia)) {}).1
def alk_refs(I:Inv X pins σ H s){n:Nat}(h:Alk X.K H n (.ref a) (.ref b))(A:Around)(hu:A.units+n+1<cLine):SeqAt.RcAt A s (.ref a) (.ref b) true/\SeqAt.RcNeAt A s (.ref a) (.ref b) false:=by
 cases h with
 | flat hf=>exact absurd hf (by simp[flatV])
 | tup ha hb hl h=>exact q205 I ha hb hl (λj x y h1 h2 u v r1 r2=>q566 I (h j x y h1 h2) A.in1 u v r1 r2 (by show A.units+1+_+1<cLine;exact W137 hu)) (W166 hu)
 | lst ha hb hl h=>exact q565 I ha hb hl (λj x y h1 h2 u v r1 r2=>q566 I (h j x y h1 h2) A.in1 u v r1 r2 (by show A.units+1+_+1<cLine;lia)) {}
inductive q701(K:Fg)(x:V)(y:V)(H:Hp)(Q:VK):Prop
 |mk(n:Nat)(a b:Addr)(_:x = .ref a)(_:y = .ref b)(_:Alk K H n (.ref a) (.ref b))(_:n<=60)(_:Q (.bl false) H)
def q414(hu:X.A.units+64<cLine):OpR X (compareOp .NotEq) (q701 X.K):=by
 intro pins s σ H x y v u Q I rx ry h
 obtain⟨n,a,b,rfl,rfl,hk,hn,q⟩:=h
 cases rx
 cases ry
 exact(alk_refs I hk X.A {}).2 _ _ _ _ ⟨.bl false,H,I,rfl,q⟩
def q415{X:Cx}{pos:Pos}{scope:Scope}{cl:List (Str×Addr)}{N:List Str}{fr:List Nat}
  (hc:X.calm=true) (hi:PI X tg itr wi) (he:∀(C:Addr)(s₂:Shared)(H₂:Hp)(fp:List Addr),PE (q55 X scope cl C x (TN++N) s₂ H₂ fp) elt te) (hct:∀(C:Addr)(s₂:Shared)(H₂:Hp)(fp:List Addr),PTs (q55 X scope cl C x (TN++N) s₂ H₂ fp) ifs tt) (hgt:∀(C:Addr)(s₂:Shared)(H₂:Hp)(fp:List Addr),PG (q55 X scope cl C x (TN++N) s₂ H₂ fp) tg gt)
  (hclos:closureFor scope X.env=pure cl) (hcl:q92 X.env cl) (hcn:cl.map (·.1)=cn) (hsc:X.env.scope=sc0) (hk:scope.kind = .function) (hok:CompOkG scope sc0 N cn)
  (hfr:fr.map (λj=>X.N[j]?)=N.map some) (hs:∀ v,foldedSetIterable itr X.env v=pure v:=by intro _;rfl) :
  PE X (.ListComp elt [⟨tg,itr,ifs,0⟩] scope pos) (tCompG (TN.length+1) wi gt tt te fr):=by
 intro pins s σ H Q I h
 rw[eval_ListComp]
 refine wpAny_comprehension_free (use:=none) rfl hs hclos hk hok.names (thn (hi pins s σ H _ I h) λv s1 h1=>thn h1 λitv s2 h2=>?_)
 obtain⟨it,fp,tn,J,H2,e,I2,T,st2,f2,hq⟩:=h2
 subst e
 obtain⟨W,⟨m0,w0⟩,turn⟩:=hq s2.heap.objs.size (I2.hok.fresh (ZG _))
 exact q237 (RR:=λacc C=>compPost (model X.prog X.w) X.A X.xe none (EP X pins σ Q) acc C) (R:=λH6=>Q (.ref s2.heap.objs.size) H6) hc he hct hgt hcl hcn hsc hk hok hfr I2 T st2 f2 w0 turn
  λC H6 s6 m6 hn I6 F6 q=>⟨m6,hn,λh' sb=>⟨.ref s2.heap.objs.size,H6,I6.let_go F6 sb,rfl,q⟩⟩
def q239{K:Fg}{a:Addr}{xs:List V}{Tn:V->Hp->(V->Hp->Prop)->(Hp->Prop)->Prop}{D:Addr}{H1:Hp}{R:Hp->Prop}(hn:xs.length<=sizeLine)(Pv:Nat->List V->Hp->Prop)(h0:Pv 0 [] (upd H1 D (.lst [])))
  (hl:∀ i ys H,Pv i ys H->SqL K H a xs) (hD:∀ i ys H,Pv i ys H->H D=some (.lst ys)/\ys.length<=i)
  (hs:∀ i x ys H,xs[i]? = some x->Pv i ys H->Tn x H (λy H3=>H3 D=some (.lst ys)/\Pv (i+1) (ys++[y]) (upd H3 D (.lst (ys++[y])))) (Pv (i+1) ys))
  (hd:∀ ys H,Pv xs.length ys H->R H) :
  ∃ W:Nat->Nat->List V->Hp->Prop,(∃ m,W 0 m [] (upd H1 D (.lst []))) /\
   ∀ i m ys H2,W i m ys H2->H2 D=some (.lst ys)/\(((Itl K a).stop i H2/\R H2)\/((Itl K a).go i H2/\ys.length<sizeLine /\ ∃(N:V->Hp->Prop)(Z:Hp->Prop),(∀ y H3,N y H3->H3 D=some (.lst ys) /\ ∃ m',m'<m/\W (i+1) m' (ys++[y]) (upd H3 D (.lst (ys++[y]))))/\(∀ H3,Z H3 -> ∃ m',m'<m/\W (i+1) m' ys H3) /\
    ∀ x H',(Itl K a).yld i H2 x H'->Tn x H' N Z)):=by
 exists λi m ys H=>m=xs.length-i/\i<=xs.length/\Pv i ys H,⟨xs.length,by simp,WA _,h0⟩
 rintro i m ys H2 ⟨rfl,hi,p⟩
 obtain⟨d1,d2⟩:=hD i ys H2 p
 have q:=hl i ys H2 p
 exists d1
 by_cases hlt:i<xs.length
 ·refine .inr ⟨⟨xs,xs[i],q,by simp[hlt]⟩,{},λy H3=>H3 D=some (.lst ys)/\Pv (i+1) (ys++[y]) (upd H3 D (.lst (ys++[y]))),Pv (i+1) ys,λy H3 ⟨z1,z2⟩=>⟨z1,xs.length-(i+1),{},rfl,hlt,z2⟩,λH3 z=>⟨xs.length-(i+1),{},rfl,hlt,z⟩,λx H' y=>?_⟩
  obtain⟨e,y⟩:=y
  subst e
  exact hs i x ys _ (y xs q) p
 ·have e:i=xs.length:={}
  subst e
  exact .inl ⟨⟨xs,q,ZG _⟩,hd ys H2 p⟩
inductive q634(K:Fg)(xs:List V)(H:Hp)(Q:VK):Prop
 |mk(p:Addr)(ns:List Int)(_:xs=[.ref p])(_:SqL K H p (ns.map V.int))(_:Q (.int ns.sum) H)
def q308(hc:X.calm=true):CallR X (.builtin "sum") (q634 X.K):=by
 intro pins s σ H xs us Q I r h
 obtain⟨p,ns,rfl,hq,q⟩:=h
 obtain⟨u,rfl,rx⟩:=vals1 r
 cases rx
 obtain⟨its,r',pl,hz⟩:=I.list hq
 have hi:=q100 r'
 obtain⟨ys,hx⟩:=hi.allInts.items
 have hl':s.heap.IsList p (intItems ys):=hx▸pl.isList
 refine sum_intListG (I.ok.hd hc) hl' λh' tk t' hk=>?_
 have e1:ns=ys.toList.map (·.1):=by
  rw[<- nums_intItems,<- hx]
  exact(show numsOf its.toArray.toList=ns from hi.numsOf).symm
 have e2:preSum (numAt ys) ys.size=ns.sum:=by
  rw[preSum_eq,WU (by simp),e1]
 rw[e2]
 exact⟨.int ns.sum,H,I.kept (t':=tk) hk,⟨_,rfl⟩,q⟩
def q522{K:Fg}{es:List Expr}{k:Nat}{t:TGs}{n:Nat}{pos:Pos}(hK:X.K=K)(hc:X.calm=true)(h:PGs X es t)
  (hn:(assignEach es X.env).length=n:=by rfl) (hst:(assignEach es X.env).findIdx? (·.1)=none:=by rfl):PG X (.Tuple es k pos) (gTup K n t):=by subst hK;exact q170 hc h hn hst
def q240{K:Fg}{a:Addr}{xs:List V}{T:V->Hp->(V->Hp->Prop)->Prop}{D:Addr}{H1:Hp}{R:Hp->Prop}(hn:xs.length<=sizeLine)(Pv:Nat->List V->Hp->Prop)(h0:Pv 0 [] (upd H1 D (.lst [])))
  (hl:∀ i ys H,Pv i ys H->SqL K H a xs) (hD:∀ i ys H,Pv i ys H->H D=some (.lst ys)/\ys.length=i)
  (hs:∀ i x ys H,xs[i]? = some x->Pv i ys H->T x H λy H3=>H3 D=some (.lst ys)/\Pv (i+1) (ys++[y]) (upd H3 D (.lst (ys++[y]))))
  (hd:∀ ys H,Pv xs.length ys H->R H) :
  ∃ W:Nat->Nat->List V->Hp->Prop,(∃ m,W 0 m [] (upd H1 D (.lst []))) /\
   ∀ i m ys H2,W i m ys H2->H2 D=some (.lst ys)/\(((Itl K a).stop i H2/\R H2)\/((Itl K a).go i H2/\ys.length<sizeLine /\ ∃ N:V->Hp->Prop,(∀ y H3,N y H3->H3 D=some (.lst ys) /\ ∃ m',m'<m/\W (i+1) m' (ys++[y]) (upd H3 D (.lst (ys++[y])))) /\
    ∀ x H',(Itl K a).yld i H2 x H'->T x H' N)):=by
 exists λi m ys H=>m=xs.length-i/\i<=xs.length/\Pv i ys H,⟨xs.length,by simp,WA _,h0⟩
 rintro i m ys H2 ⟨rfl,hi,p⟩
 obtain⟨d1,d2⟩:=hD i ys H2 p
 have q:=hl i ys H2 p
 exists d1
 by_cases hlt:i<xs.length
 ·refine .inr ⟨⟨xs,xs[i],q,by simp[hlt]⟩,{},λy H3=>H3 D=some (.lst ys)/\Pv (i+1) (ys++[y]) (upd H3 D (.lst (ys++[y]))),λy H3 ⟨z1,z2⟩=>⟨z1,xs.length-(i+1),(W35 hlt d2),rfl,hlt,z2⟩,λx H' y=>?_⟩
  obtain⟨e,y⟩:=y
  subst e
  exact hs i x ys _ (y xs q) p
 ·have e:i=xs.length:=(W125 d2 hi hlt)
  subst e
  exact .inl ⟨⟨xs,q,ZG _⟩,hd ys H2 p⟩
end L2
namespace HT
set_option autoImplicit false
open PySem PySem.Spec PyProof.Rows List
section
open PySem.SeqAt
open PySem.AutoSeq1 (wpAny_loadPart')
open PySem.MeetsSeq PySem.MeetsSeq2 PySem.MeetsSeq3
end
end HT
namespace L2
open PySem PySem.Spec PyProof.Rows List
variable {X:Cx}
def q140{K:Fg}{a:Addr}{xs:List V}{Tt:V->Hp->(Bool->Hp->Prop)->Prop}{Te:V->Hp->(V->Hp->Prop)->Prop}{D:Addr}{H1:Hp}{R:Hp->Prop}(hn:xs.length<=sizeLine)(Pv:Nat->List V->Hp->Prop)(h0:Pv 0 [] (upd H1 D (.lst [])))
  (hl:∀ i ys H,Pv i ys H->SqL K H a xs) (hD:∀ i ys H,Pv i ys H->H D=some (.lst ys)/\ys.length<=i)
  (hs:∀ i x ys H,xs[i]? = some x->Pv i ys H->Tt x H λb H3=>if b=true then Te x H3 (λy H4=>H4 D=some (.lst ys)/\Pv (i+1) (ys++[y]) (upd H4 D (.lst (ys++[y]))))else ∃ m',m'<xs.length-i/\m'=xs.length-(i+1)/\i+1<=xs.length/\Pv (i+1) ys H3)
  (hd:∀ ys H,Pv xs.length ys H->R H) :
  ∃ W:Nat->Nat->List V->Hp->Prop,(∃ m,W 0 m [] (upd H1 D (.lst []))) /\
   ∀ i m ys H2,W i m ys H2->H2 D=some (.lst ys)/\(((Itl K a).stop i H2/\R H2)\/((Itl K a).go i H2/\ys.length<sizeLine /\ ∃ N:V->Hp->Prop,(∀ y H3,N y H3->H3 D=some (.lst ys) /\ ∃ m',m'<m/\W (i+1) m' (ys++[y]) (upd H3 D (.lst (ys++[y])))) /\
    ∀ x H',(Itl K a).yld i H2 x H'->Tt x H' λb H3=>if b=true then Te x H3 N else ∃ m',m'<m/\W (i+1) m' ys H3)):=by
 exists λi m ys H=>m=xs.length-i/\i<=xs.length/\Pv i ys H,⟨xs.length,by simp,WA _,h0⟩
 rintro i m ys H2 ⟨rfl,hi,p⟩
 obtain⟨d1,d2⟩:=hD i ys H2 p
 have q:=hl i ys H2 p
 exists d1
 by_cases hlt:i<xs.length
 ·refine .inr ⟨⟨xs,xs[i],q,by simp[hlt]⟩,{},λy H3=>H3 D=some (.lst ys)/\Pv (i+1) (ys++[y]) (upd H3 D (.lst (ys++[y]))),λy H3 ⟨z1,z2⟩=>⟨z1,xs.length-(i+1),{},rfl,hlt,z2⟩,λx H' y=>?_⟩
  obtain⟨e,y⟩:=y
  subst e
  exact hs i x ys _ (y xs q) p
 ·have e:i=xs.length:={}
  subst e
  exact .inl ⟨⟨xs,q,ZG _⟩,hd ys H2 p⟩
inductive Rop_catF  (x:V) (y:V) (H:Hp) (Q:VK):Prop
 |mk(a b xs ys)(_:x = .ref a)(_:y = .ref b)(_:TupF H a xs)(_:TupF H b ys)(_:xs.length+ys.length<=sizeLine)(_:∀ p H',Same H H'->TupF H' p (xs++ys)->Q (.ref p) H')
def op_catF:OpR X (binaryOp .Add) Rop_catF:=by
 intro pins s σ H x y v u Q I rx ry h
 obtain⟨a,b,xs,ys,rfl,rfl,ha,hb,hz,q1⟩:=h
 cases rx
 cases ry
 obtain⟨its,r1,p1,_⟩:=I.tuple (ha.sq (K:=X.K))
 obtain⟨its2,r2,p2,_⟩:=I.tuple (hb.sq (K:=X.K))
 have hz':its.length+its2.length<=sizeLine:=by rw[<- r1.length,<- r2.length];exact hz
 obtain⟨⟨cls,dd,data,sl⟩,ho,hc,n,hd⟩:=id p1
 obtain⟨⟨cls2,dd2,data2,sl2⟩,ho2,hc2,n2,hd2⟩:=id p2
 simp only at hc hd hc2 hd2
 subst hc hd hc2 hd2
 have e:its.toArray++its2.toArray=(its++its2).toArray:=by simp
 by_cases hv:its=[]
 ·have hx:xs=[]:=r1.nil_iff.mp hv
  subst hx
  exact concat_meets ⟨_,ho,rfl⟩ ⟨_,ho2,rfl⟩ noFill_tuple_add seq_tuple_add PySem.F.slot_tuple_add PySem.F.entry_tuple_add (PySem.F.args_tuple_add_2 _ _)
   (tuple_addW0 a b its.toArray its2.toArray n n2 dd dd2 sl sl2 (by simp[hv])) ⟨ho,ho2,⟨.ref b,H,I,rfl,q1 b H (Same.refl H) (by simpa using hb)⟩⟩
 ·by_cases hw:its2=[]
  ·have hy:ys=[]:=r2.nil_iff.mp hw
   subst hy
   exact concat_meets ⟨_,ho,rfl⟩ ⟨_,ho2,rfl⟩ noFill_tuple_add seq_tuple_add PySem.F.slot_tuple_add PySem.F.entry_tuple_add (PySem.F.args_tuple_add_2 _ _)
    (tuple_addW1 a b its.toArray its2.toArray n n2 dd dd2 sl sl2 (by simpa using hv) (by simp[hw])) ⟨ho,ho2,⟨.ref a,H,I,rfl,q1 a H (Same.refl H) (by simpa using ha)⟩⟩
  ·refine concat_meets ⟨_,ho,rfl⟩ ⟨_,ho2,rfl⟩ noFill_tuple_add seq_tuple_add PySem.F.slot_tuple_add PySem.F.entry_tuple_add (PySem.F.args_tuple_add_2 _ _)
    (tuple_addW2 a b its.toArray its2.toArray n n2 dd dd2 sl sl2 (by simpa using hv) (by simpa using hw) (by rw[WB,WB];exact hz')) ⟨ho,ho2,?_⟩
   rw[e]
   refine⟨.ref s.heap.objs.size,upd H s.heap.objs.size (.frz { cls:=.type "tuple", data:=.seq (its++its2).toArray } (.tup (xs++ys))),I.laid (t':=s.toks) (λb ob q=>ZH _ q) (ZG _) ?_,rfl,q1 _ _ (q17 (I.hok.fresh (ZG _)) _) ⟨_,q14,rfl,rfl⟩⟩
   exact⟨ZV _ rfl,by rw[ZQ];exact hz,_,r1.append r2,IsTup.new _ _⟩
def best_in{ys:Array (Int×Tok)}{k:Nat}(h:(intItems ys)[k]? = some v):∃ t,v = .int (numAt ys k) t/\k<ys.size:=by
 unfold intItems at h
 rw[Array.getElem?_map]at h
 cases e:ys[k]? with
 | none=>rw[e]at h;cases h
 | some y=>
  rw[e]at h
  refine⟨y.2,?_,(Array.getElem?_eq_some_iff.mp e).1⟩
  have e2:numAt ys k=y.1:=by
   unfold numAt
   simp[e,Array.getD_eq_getD_getElem?]
  rw[e2]
  exact(Option.some.inj h).symm
def num_mem{ys:Array (Int×Tok)}{k:Nat}(h:k<ys.size):numAt ys k∈ys.toList.map (·.1):=by
 refine List.mem_map.mpr ⟨ys[k],by simp,?_⟩
 unfold numAt
 simp[h]
def num_of{ys:Array (Int×Tok)}{a:Int}(h:a∈ys.toList.map (·.1)):∃ j,j<ys.size/\numAt ys j=a:=by
 obtain⟨y,hy,rfl⟩:=eE h
 obtain⟨j,hj,e⟩:=List.mem_iff_getElem.mp hy
 exists j,by simpa using hj
 unfold numAt
 have:ys[j]'(by simpa using hj)=y:=by simpa using e
 simp[this,show j<ys.size by simpa using hj]
inductive q635(K:Fg)(xs:List V)(H:Hp)(Q:VK):Prop
 |mk(p:Addr)(ns:List Int)(_:xs=[.ref p])(_:SqL K H p (ns.map V.int))(_:0<ns.length)(_:∀ M,M∈ns->(∀ a∈ns,a<=M)->Q (.int M) H)
def q702(hc:X.calm=true):CallR X (.builtin "max") (q635 X.K):=by
 intro pins s σ H xs us Q I r h
 obtain⟨p,ns,rfl,hq,hn,q⟩:=h
 obtain⟨u,rfl,rx⟩:=vals1 r
 cases rx
 obtain⟨its,r',pl,hz⟩:=I.list hq
 have hi:=q100 r'
 obtain⟨ys,hx⟩:=hi.allInts.items
 have hl':s.heap.IsList p (intItems ys):=hx▸pl.isList
 have e1:ns=ys.toList.map (·.1):=by
  rw[<- nums_intItems,<- hx]
  exact(show numsOf its.toArray.toList=ns from hi.numsOf).symm
 have hsz:0<ys.size:=by rw[e1]at hn;simpa using hn
 refine max_intList (I.ok.hd hc) hl' hsz λv h' tk hv hk=>?_
 obtain⟨t,rfl,hlt⟩:=best_in hv
 refine⟨.int _,H,I.kept (t':=tk) hk,⟨_,rfl⟩,q _ (by rw[e1];exact num_mem hlt) (λa ha=>?_)⟩
 rw[e1]at ha
 obtain⟨j,hj,rfl⟩:=num_of ha
 exact(argBest_gt (numAt ys) (ys.size-1)).2 j {}
section
def q703{A:Around}{p q:Int×Int}(I:Inv X pins σ H s)(ha:SqT X.K H a [.int p.1,.int p.2])(hb:SqT X.K H b [.int q.1,.int q.2])(hab:a=b->p=q)(hu:A.units+4<cLine) :
  SeqAt.EqAt A s (.ref b) (.ref a) (decide (q=p)):=by
 by_cases e:q=p
 ·subst e
  rw[ZA rfl]
  exact q159 (q463 (ns:=[q.1,q.2]) I hb ha (W196 hu)).1
 ·rw[ZN e]
  have hne:b≠a:=λz=>e (hab z.symm).symm
  refine .of_refs hne ?_
  obtain⟨its,r1,p1,_⟩:=I.tuple hb
  obtain⟨its2,r2,p2,_⟩:=I.tuple ha
  have l1:its.length=2:=r1.length.symm
  have l2:its2.length=2:=r2.length.symm
  have z:=SeqAt.RcAt.tuples (A:=A) (e:=λj=>[q.1,q.2].getD j 0==[p.1,p.2].getD j 0) p1 p2 (W196 hu) (λj h1 h2=>by
   have h1':j<2:=by rw[WB]at h1;lia
   obtain⟨v1,e1,r1'⟩:=r1.get (i:=j) (x:=.int ([q.1,q.2].getD j 0)) (by match j,h1' with | 0,_=>rfl | 1,_=>rfl)
   obtain⟨v2,e2,r2'⟩:=r2.get (i:=j) (x:=.int ([p.1,p.2].getD j 0)) (by match j,h1' with | 0,_=>rfl | 1,_=>rfl)
   have g1:its.toArray[j]=v1:=by
    have:=eA e1
    simpa using this.2
   have g2:its2.toArray[j]=v2:=by
    have:=eA e2
    simpa using this.2
   rw[g1,g2]
   exact q457 r1' r2' rfl rfl)
  have f:((List.range (min its.toArray.size its2.toArray.size)).all (λj=>[q.1,q.2].getD j 0==[p.1,p.2].getD j 0)&&its.toArray.size==its2.toArray.size)=false:=by
   rw[WB,WB,l1,l2]
   show(((q.1==p.1)&&((q.2==p.2)&&true))&&true)=false
   rw[Bool.and_true,Bool.and_true]
   by_cases c1:q.1=p.1
   ·have c2:¬ q.2=p.2:=λc2=>e (Prod.ext c1 c2)
    rw[beq_eq_false_iff_ne.mpr c2,YJ]
   ·rw[beq_eq_false_iff_ne.mpr c1,YH]
  rw[f]at z
  exact z
def q309(H:Hp)(xs:List V)(ps:List (Int×Int)):Prop:=xs.length=ps.length /\ ∀(j:Nat)(x:V)(q:Int×Int),xs[j]? = some x->ps[j]? = some q -> ∃ b,x = .ref b/\H b=some (.tup [.int q.1,.int q.2])
variable{a b c d:Expr}{ta tb tc td:TE}{pos:Pos}
end
end L2
namespace TS
set_option autoImplicit false
open PySem PySem.W PyProof.Rows List
abbrev M2:=StateT SortSt Sem
noncomputable def gallop':Bool->Keyed->Array Keyed->Nat->Nat->Nat->M2 (Option Nat):=sortPriv% PySem.Builtin.gallop
noncomputable def mergeLo':Array Keyed->Array Keyed->M2 (Array Keyed):=sortPriv% PySem.Builtin.mergeLo
def mergeHi':Array Keyed->Array Keyed->M2 (Array Keyed):=sortPriv% PySem.Builtin.mergeHi
noncomputable def setMG':Nat->M2 Unit:=sortPriv% PySem.Builtin.setMinGallop
section
variable {prog:Program}{w:World}{A:Around}{E:VS}
theorem c_for{β:Type}{f:Nat->β->M2 (ForInStep β)}{Q:β->SortSt->Shared->Prop}(I:Nat->β->SortSt->Shared->Prop) :
  ∀(l:List Nat)(n:Nat)(b:β)(st:SortSt)(s:Shared),I n b st s->(∀ b st s,I (n+l.length) b st s->Q b st s) ->
  (∀ k x b st s,n<=k->k<n+l.length->I k b st s->kasC (model prog w) A E (f x b) (λr st' s'=>match r with | .done b'=>Q b' st' s' | .yield b'=>I (k+1) b' st' s') st s) ->
  kasC (model prog w) A E (forIn l b f) Q st s
 | [],n,b,st,s,hi,hq,_=>kasC_nil (hq b st s hi)
 | x::l,n,b,st,s,hi,hq,hs=>by
  refine kasC_cons (YS (hs n x b st s (ZG _) (by simp) hi) (λr s' h=>?_) λ_ _ e=>e)
  obtain⟨r,st'⟩:=r
  cases r with
  | done b'=>exact h
  | yield b'=>
   refine c_for I l (n+1) b' st' s' h (λb st s hb=>hq b st s (by simpa [Nat.add_assoc,Nat.add_comm,Nat.add_left_comm] using hb)) (λk x b st s h1 h2 h3=>hs k x b st s (W44 h1) (by simp at h2 ⊢;exact W119 h2) h3)
def c_range{β:Type}{f:Nat->β->M2 (ForInStep β)}{Q:β->SortSt->Shared->Prop}{n:Nat}{b:β}{st:SortSt}{s:Shared}(I:Nat->β->SortSt->Shared->Prop)(h0:I 0 b st s)(hq:∀ b st s,I n b st s->Q b st s)
  (hs:∀ k x b st s,k<n->I k b st s->kasC (model prog w) A E (f x b) (λr st' s'=>match r with | .done b'=>Q b' st' s' | .yield b'=>I (k+1) b' st' s') st s):kasC (model prog w) A E (forIn [0:n] b f) Q st s:=by
 refine kasC_range (c_for I (List.range' 0 (n-0)) 0 b st s h0 (λb st s h=>hq b st s ?_) (λk x b st s h1 h2 h3=>hs k x b st s ?_ h3))
 ·simpa using h
 ·simpa using h2
def q96{β:Type}{f:Nat->β->M2 (ForInStep β)}{Q:β->SortSt->Shared->Prop}{n:Nat}{b:β}{st:SortSt}{s:Shared}(I:Nat->β->SortSt->Shared->Prop)(R:β->SortSt->Shared->Prop)(h0:I 0 b st s)(he:∀ b st s,I n b st s->R b st s)
  (hs:∀ k x b st s,k<n->I k b st s->kasC (model prog w) A E (f x b) (λr st' s'=>match r with | .done b'=>R b' st' s' | .yield b'=>I (k+1) b' st' s') st s) (hR:∀ b st s,R b st s->Q b st s):kasC (model prog w) A E (forIn [0:n] b f) Q st s:=
 YS (c_range I h0 he hs) (λr s' h=>hR _ _ _ h) λ_ _ e=>e
def q56{arr:Array Keyed}{i:Nat}{Q:Keyed->SortSt->Shared->Prop}{st:SortSt}{s:Shared}(hi:i<arr.size)(h:Q (kas_item arr i) st s):kasC (model prog w) A E (elem' arr i) Q st s:=by
 rw[elem'_eq]
 have e:arr[i]? = some (kas_item arr i):=by
  unfold kas_item
  simp[Array.getD,hi]
 rw[e]
 exact ZU h
def Good(prog:Program)(w:World)(A:Around)(E:VS)(κ:SortKind)(P:Keyed->Prop)(lt:Keyed->Keyed->Bool)(s:Shared):Prop:=
 ∀(x y:Keyed)(st:SortSt)(Q:Option Bool->SortSt->Shared->Prop),P x->P y->kindOf st=κ->Q (some (lt x y)) st s->kasC (model prog w) A E (lt' x y) Q st s
variable {κ:SortKind}{P:Keyed->Prop}{lt:Keyed->Keyed->Bool}
def q241{s:Shared}(G:Good prog w A E κ P lt s){left:Bool}{key:Keyed}{arr:Array Keyed}{base n hint k:Nat}{Q:Option Nat->SortSt->Shared->Prop}{st:SortSt}(hst:kindOf st=κ)(hk:P key)(hP:∀ i,i<n->P (kas_item arr (base+i)))
  (hsz:base+n<=arr.size) (hh:hint<n) (hkn:k<=n) (hB:∀ i,i<n->(if left=true then lt (kas_item arr (base+i)) key else !(lt key (kas_item arr (base+i))))=decide (i<k)) (h:Q (some k) st s) :
  kasC (model prog w) A E (gallop' left key arr base n hint) Q st s:=by
 have bey:∀(i:Nat)(Q':Option Bool->SortSt->Shared->Prop),i<n->Q' (some (decide (i<k))) st s->kasC (model prog w) A E (do
   let x <- elem' arr (base+i)
   if left=true then lt' x key else do
    let r <- lt' key x
    pure (Option.map (λx=>!x) r)) Q' st s:=by
  intro i Q' hi hq
  refine ZR (q56 (W168 hi hsz) ?_)
  have hb:=hB i hi
  cases left with
  | true=>
   rw[ZL rfl]at hb ⊢
   exact G _ _ _ _ (hP i hi) hk hst (by rw[hb];exact hq)
  | false=>
   rw[ZI fnt]at hb ⊢
   refine ZR (G _ _ _ _ hk (hP i hi) hst (ZU ?_))
   show Q' (some (!(lt key (kas_item arr (base+i))))) st s
   rw[hb]
   exact hq
 refine ZR (bey hint _ hh ?_)
 dsimp only
 by_cases c:hint<k
 ·rw[ZL (ZA c)]
  refine ZR (q96 (λt r st' s'=>st'=st/\s'=s /\ ∃ la of,r=(none,la,of)/\la<of/\hint+la<k/\t+1<=of) (λr st' s'=>st'=st/\s'=s /\ ∃ la of,r=(none,la,of)/\la<of/\hint+la<k/\k<=hint+min of (n-hint))
   ⟨rfl,rfl,0,1,rfl,{},{},{}⟩ ?_ ?_ ?_)
  ·rintro r st' s' ⟨rfl,rfl,la,of,rfl,h1,h2,h3⟩
   exact⟨rfl,rfl,la,of,rfl,h1,h2,{}⟩
  ·rintro t x r st' s' ht ⟨rfl,rfl,la,of,rfl,h1,h2,h3⟩
   dsimp only
   by_cases c2:of>=n-hint
   ·rw[ZL c2]
    exact ZU ⟨rfl,rfl,la,of,rfl,h1,h2,{}⟩
   ·rw[ZI c2]
    refine ZR (bey (hint+of) _ {} ?_)
    dsimp only
    by_cases c3:hint+of<k
    ·rw[ZI (by simp[c3])]
     exact ZU ⟨rfl,rfl,of,2*of+1,rfl,{},c3,{}⟩
    ·rw[ZL (by simp[c3])]
     exact ZU ⟨rfl,rfl,la,of,rfl,h1,h2,{}⟩
  ·rintro r st' s' ⟨rfl,rfl,la,of,rfl,h1,h2,h3⟩
   dsimp only
   refine ZR (q96 (λt r st₂ s₂=>st₂=st'/\s₂=s' /\ ∃ lo hi,r=(none,lo,hi)/\lo<=k/\k<=hi/\hi<=n/\(hi-lo)+t<=n) (λr st₂ s₂=>st₂=st'/\s₂=s' /\ ∃ lo,r=(none,lo,k)) ⟨rfl,rfl,_,_,rfl,{},{},{},{}⟩ ?_ ?_ ?_)
   ·rintro r st₂ s₂ ⟨rfl,rfl,lo,hi,rfl,g1,g2,g3,g4⟩
    obtain rfl:hi=k:={}
    exact⟨rfl,rfl,lo,rfl⟩
   ·rintro t x r st₂ s₂ ht ⟨rfl,rfl,lo,hi,rfl,g1,g2,g3,g4⟩
    dsimp only
    by_cases c2:lo>=hi
    ·rw[ZL c2]
     obtain rfl:hi=k:={}
     exact ZU ⟨rfl,rfl,lo,rfl⟩
    ·rw[ZI c2]
     refine ZR (bey (lo+(hi-lo)/2) _ {} ?_)
     dsimp only
     by_cases c3:lo+(hi-lo)/2<k
     ·rw[ZL (ZA c3)]
      exact ZU ⟨rfl,rfl,_,_,rfl,{},{},{},{}⟩
     ·rw[ZI (by simp[c3])]
      exact ZU ⟨rfl,rfl,_,_,rfl,{},{},{},{}⟩
   ·rintro r st₂ s₂ ⟨rfl,rfl,lo,rfl⟩
    exact ZU h
 ·rw[ZI (by simp[c])]
  refine ZR (q96 (λt r st' s'=>st'=st/\s'=s /\ ∃ la of,r=(none,la,of)/\la<of/\k<=hint-la/\la<=hint/\t+1<=of) (λr st' s'=>st'=st/\s'=s /\ ∃ la of,r=(none,la,of)/\la<of/\k<=hint-la/\la<=hint/\hint+1-min of (hint+1)<=k)
   ⟨rfl,rfl,0,1,rfl,{},{},W157,{}⟩ ?_ ?_ ?_)
  ·rintro r st' s' ⟨rfl,rfl,la,of,rfl,h1,h2,h3,h4⟩
   exact⟨rfl,rfl,la,of,rfl,h1,h2,h3,{}⟩
  ·rintro t x r st' s' ht ⟨rfl,rfl,la,of,rfl,h1,h2,h3,h4⟩
   dsimp only
   by_cases c2:of>=hint+1
   ·rw[ZL c2]
    exact ZU ⟨rfl,rfl,la,of,rfl,h1,h2,h3,{}⟩
   ·rw[ZI c2]
    refine ZR (bey (hint-of) _ {} ?_)
    dsimp only
    by_cases c3:hint-of<k
    ·rw[ZL (ZA c3)]
     exact ZU ⟨rfl,rfl,la,of,rfl,h1,h2,h3,{}⟩
    ·rw[ZI (by simp[c3])]
     exact ZU ⟨rfl,rfl,of,2*of+1,rfl,{},{},{},{}⟩
  ·rintro r st' s' ⟨rfl,rfl,la,of,rfl,h1,h2,h3,h4⟩
   dsimp only
   refine ZR (q96 (λt r st₂ s₂=>st₂=st'/\s₂=s' /\ ∃ lo hi,r=(none,lo,hi)/\lo<=k/\k<=hi/\hi<=n/\(hi-lo)+t<=n) (λr st₂ s₂=>st₂=st'/\s₂=s' /\ ∃ lo,r=(none,lo,k)) ⟨rfl,rfl,_,_,rfl,{},{},(W31 h3 hh),{}⟩ ?_ ?_ ?_)
   ·rintro r st₂ s₂ ⟨rfl,rfl,lo,hi,rfl,g1,g2,g3,g4⟩
    obtain rfl:hi=k:={}
    exact⟨rfl,rfl,lo,rfl⟩
   ·rintro t x r st₂ s₂ ht ⟨rfl,rfl,lo,hi,rfl,g1,g2,g3,g4⟩
    dsimp only
    by_cases c2:lo>=hi
    ·rw[ZL c2]
     obtain rfl:hi=k:={}
     exact ZU ⟨rfl,rfl,lo,rfl⟩
    ·rw[ZI c2]
     refine ZR (bey (lo+(hi-lo)/2) _ {} ?_)
     dsimp only
     by_cases c3:lo+(hi-lo)/2<k
     ·rw[ZL (ZA c3)]
      exact ZU ⟨rfl,rfl,_,_,rfl,{},{},{},{}⟩
     ·rw[ZI (by simp[c3])]
      exact ZU ⟨rfl,rfl,_,_,rfl,{},{},{},{}⟩
   ·rintro r st₂ s₂ ⟨rfl,rfl,lo,rfl⟩
    exact ZU h
end
section
variable {P:Keyed->Prop}{lt:Keyed->Keyed->Bool}
structure Tot(P:Keyed->Prop)(lt:Keyed->Keyed->Bool):Prop where
 trans:∀ x y z,P x->P y->P z->lt y x=false->lt z y=false->lt z x=false
 asym:∀ x y,P x->P y->lt x y=true->lt y x=false
def Srt(lt:Keyed->Keyed->Bool)(l:List Keyed):Prop:=l.Pairwise λx y=>lt y x=false
structure MInv(lt:Keyed->Keyed->Bool)(al bl o:List Keyed)(i j:Nat):Prop where
 perm:o.Perm (al.take i++bl.take j)
 srt:Srt lt o
 ba:∀ x∈o,∀ y∈al.drop i,lt y x=false
 bb:∀ x∈o,∀ y∈bl.drop j,lt y x=false
def MInv.zero(al bl:List Keyed):MInv lt al bl [] 0 0:=⟨by simp,.nil,λx hx=>absurd hx (by simp),λx hx=>absurd hx (by simp)⟩
def q636(l:List Keyed)(i k:Nat):l.drop i=(l.drop i).take k++l.drop (i+k):=by
 rw[<- drop_drop,YR]
def q637(l:List Keyed)(i k:Nat):l.take (i+k)=l.take i++(l.drop i).take k:=take_add
def MInv.chunkA{al bl o:List Keyed}{i j:Nat}(m:MInv lt al bl o i j)(ha:Srt lt al)(k:Nat)(hc:∀ x∈(al.drop i).take k,∀ y∈bl.drop j,lt y x=false):MInv lt al bl (o++(al.drop i).take k) (i+k) j:=by
 have hd:=q636 al i k
 have hs:Srt lt (al.drop i):=List.Pairwise.sublist (drop_sublist i al) ha
 rw[hd]at hs
 have hs':=List.pairwise_append.mp hs
 have sub1:∀ y∈(al.drop i).take k,y∈al.drop i:=λy hy=>mem_of_mem_take hy
 have sub2:∀ y∈al.drop (i+k),y∈al.drop i:=λy hy=>by rw[hd];exact YC _ hy
 refine⟨?_,?_,λx hx y hy=>?_,λx hx y hy=>?_⟩
 ·rw[q637]
  refine(m.perm.append_right _).trans ?_
  rw[YF,YF]
  exact List.Perm.append_left _ perm_append_comm
 ·refine List.pairwise_append.mpr ⟨m.srt,?_,λx hx y hy=>m.ba x hx y (sub1 y hy)⟩
  have:=hs'.1
  simpa [take_take] using this
 ·rcases eC hx with h | h
  ·exact m.ba x h y (sub2 y hy)
  ·exact hs'.2.2 x (by simpa [take_take] using h) y hy
 ·rcases eC hx with h | h
  ·exact m.bb x h y hy
  ·exact hc x h y hy
def MInv.swap{al bl o:List Keyed}{i j:Nat}(m:MInv lt al bl o i j):MInv lt bl al o j i:=⟨m.perm.trans perm_append_comm,m.srt,m.bb,m.ba⟩
def MInv.chunkB{al bl o:List Keyed}{i j:Nat}(m:MInv lt al bl o i j)(hb:Srt lt bl)(k:Nat)(hc:∀ x∈(bl.drop j).take k,∀ y∈al.drop i,lt y x=false):MInv lt al bl (o++(bl.drop j).take k) i (j+k):=
 (m.swap.chunkA hb k hc).swap
def Fin2(lt:Keyed->Keyed->Bool)(al bl r:List Keyed):Prop:=r.Perm (al++bl)/\Srt lt r
def MInv.fin{al bl o:List Keyed}{i j:Nat}(m:MInv lt al bl o i j)(hi:al.length<=i)(hj:bl.length<=j):Fin2 lt al bl o:=by
 have p:=m.perm
 rw[WU hi,WU hj]at p
 exact⟨p,m.srt⟩
def MInv.doneB{al bl o:List Keyed}{i j:Nat}(m:MInv lt al bl o i j)(ha:Srt lt al)(hj:bl.length<=j):Fin2 lt al bl (o++al.drop i++bl.drop j):=by
 have e:bl.drop j=[]:=drop_of_length_le hj
 have z:=m.chunkA ha al.length (λx _ y hy=>by rw[e]at hy;cases hy)
 rw[e,YN]
 have e2:(al.drop i).take al.length=al.drop i:=WU (by rw[length_drop];exact W24)
 rw[e2]at z
 exact z.fin W50 hj
def MInv.doneA{al bl o:List Keyed}{i j:Nat}(m:MInv lt al bl o i j)(hb:Srt lt bl)(hi:al.length<=i):Fin2 lt al bl (o++al.drop i++bl.drop j):=by
 have e:al.drop i=[]:=drop_of_length_le hi
 have z:=m.chunkB hb bl.length (λx _ y hy=>by rw[e]at hy;cases hy)
 rw[e,YN]
 have e2:(bl.drop j).take bl.length=bl.drop j:=WU (by rw[length_drop];exact W24)
 rw[e2]at z
 exact z.fin hi W50
def MInv.lastA{al bl o:List Keyed}{i j:Nat}(m:MInv lt al bl o i j)(ha:Srt lt al)(hb:Srt lt bl)(hl:∀ x∈bl,∀ y∈al.drop i,lt y x=false):Fin2 lt al bl (o++bl.drop j++al.drop i):=by
 have z:=m.chunkB hb bl.length (λx hx y hy=>hl x (mem_of_mem_drop (mem_of_mem_take hx)) y hy)
 have e2:(bl.drop j).take bl.length=bl.drop j:=WU (by rw[length_drop];exact W24)
 rw[e2]at z
 have z2:=z.doneB ha W50
 have e3:bl.drop (j+bl.length)=[]:=drop_of_length_le {}
 rw[e3,YN]at z2
 exact z2
theorem bound(B:Nat->Bool):∀ n,(∀ i j,i<=j->j<n->B j=true->B i=true) -> ∃ k,k<=n /\ ∀ i,i<n->B i=decide (i<k)
 | 0,_=>⟨0,ZG _,λi hi=>absurd hi (Nat.not_lt_zero _)⟩
 | n+1,h=>by
  obtain⟨k,hk,hB⟩:=bound B n λi j a b c=>h i j a {} c
  cases hn:B n with
  | true=>
   refine⟨n+1,ZG _,λi hi=>?_⟩
   rw[h i n (W144 hi) {} hn,ZA hi]
  | false=>
   refine⟨k,(W151 hk),λi hi=>?_⟩
   by_cases e:i=n
   ·rw[e,hn,ZN {}]
   ·exact hB i (W45 hi e)
def q58{a:Array Keyed}{i:Nat}(h:i<a.size):a.toList[i]? = some (kas_item a i):=by
 unfold kas_item
 simp[Array.getD,h]
def q22{a:Array Keyed}{i:Nat}(h:i<a.size):kas_item a i∈a.toList:=WY (q58 h)
def q119{a:Array Keyed}{i:Nat}{y:Keyed}(h:y∈a.toList.drop i):∃ j,i<=j/\j<a.size/\y=kas_item a j:=by
 obtain⟨k,hk⟩:=mem_iff_getElem?.mp h
 rw[getElem?_drop]at hk
 have hl:=(eA hk).1
 have hl':i+k<a.size:=by simpa using hl
 exists i+k,W13,hl'
 rw[q58 hl']at hk
 exact(Option.some.inj hk).symm
def q374{a:Array Keyed}{i k:Nat}{y:Keyed}(h:y∈(a.toList.drop i).take k):∃ j,i<=j/\j<i+k/\j<a.size/\y=kas_item a j:=by
 obtain⟨m,hm⟩:=mem_iff_getElem?.mp h
 rw[getElem?_take]at hm
 by_cases c:m<k
 ·rw[ZL c,getElem?_drop]at hm
  have hl:=(eA hm).1
  have hl':i+m<a.size:=by simpa using hl
  exists i+m,W13,(W27 c),hl'
  rw[q58 hl']at hm
  exact(Option.some.inj hm).symm
 ·rw[ZI c]at hm
  cases hm
def q110{a:Array Keyed}{i j:Nat}(T:Tot P lt)(h:Srt lt a.toList)(hP:∀ x∈a.toList,P x)(hij:i<j)(hj:j<a.size):lt (kas_item a j) (kas_item a i)=false:=by
 have hi:i<a.size:=(W76 hj hij)
 have z:=List.pairwise_iff_getElem.mp h i j (by simpa using hi) (by simpa using hj) hij
 have e1:=(eA (q58 hi)).2
 have e2:=(eA (q58 hj)).2
 rw[e1,e2]at z
 exact z
end
end TS
namespace TS
set_option autoImplicit false
open PySem PySem.W PyProof.Rows List
section
variable {P:Keyed->Prop}{lt:Keyed->Keyed->Bool}{a b out:Array Keyed}{i j k:Nat}
abbrev AInv(lt:Keyed->Keyed->Bool)(a b out:Array Keyed)(i j:Nat):Prop:=MInv lt a.toList b.toList out.toList i j
abbrev FinA(lt:Keyed->Keyed->Bool)(a b r:Array Keyed):Prop:=Fin2 lt a.toList b.toList r.toList
def q286(h:k<=a.size):(a.extract i k).toList=(a.toList.drop i).take (k-i):=by
 simp[extract_eq_take_drop]
def q242:(a.extract i a.size).toList=a.toList.drop i:=by
 rw[q286 (ZG _)]
 exact WU (by simp)
def q206(h:i<a.size):(a.toList.drop i).take 1=[kas_item a i]:=by
 have e:=(eA (q58 h))
 obtain⟨h1,h2⟩:=e
 rw[drop_eq_getElem_cons h1,h2]
 rfl
def pushB(T:Tot P lt)(sb:Srt lt b.toList)(sa:Srt lt a.toList)(pa:∀ x∈a.toList,P x)(pb:∀ x∈b.toList,P x)(m:AInv lt a b out i j)(hi:i<a.size)(hj:j<b.size)(h:lt (kas_item b j) (kas_item a i)=true):AInv lt a b (out.push (kas_item b j)) i (j+1):=by
 have z:=m.chunkB sb 1 (λx hx y hy=>by
  rw[q206 hj]at hx
  cases eD hx
  obtain⟨j',h1,h2,rfl⟩:=q119 hy
  have q1:=T.asym _ _ (pb _ (q22 hj)) (pa _ (q22 hi)) h
  by_cases e:i=j'
  ·rw[<- e];exact q1
  ·exact T.trans _ _ _ (pb _ (q22 hj)) (pa _ (q22 hi)) (pa _ (q22 h2)) q1 (q110 T sa pa (W15 h1 e) h2))
 rw[q206 hj]at z
 simpa [AInv] using z
def pushA(T:Tot P lt)(sb:Srt lt b.toList)(sa:Srt lt a.toList)(pa:∀ x∈a.toList,P x)(pb:∀ x∈b.toList,P x)(m:AInv lt a b out i j)(hi:i<a.size)(h:j<b.size->lt (kas_item b j) (kas_item a i)=false):AInv lt a b (out.push (kas_item a i)) (i+1) j:=by
 have z:=m.chunkA sa 1 (λx hx y hy=>by
  rw[q206 hi]at hx
  cases eD hx
  obtain⟨j',h1,h2,rfl⟩:=q119 hy
  have hj:j<b.size:=(W58 h2 h1)
  have q1:=h hj
  by_cases e:j=j'
  ·rw[<- e];exact q1
  ·exact T.trans _ _ _ (pa _ (q22 hi)) (pb _ (q22 hj)) (pb _ (q22 h2)) q1 (q110 T sb pb (W15 h1 e) h2))
 rw[q206 hi]at z
 simpa [AInv] using z
def exA(T:Tot P lt)(sa:Srt lt a.toList)(pa:∀ x∈a.toList,P x){key:Keyed}(hk:P key)(n:Nat)(hn:i+n<=a.size):∃ k,k<=n /\ ∀ t,t<n->(if false=true then lt (kas_item a (i+t)) key else !(lt key (kas_item a (i+t))))=decide (t<k):=by
 refine bound _ n λt u htu hu h=>?_
 rw[ZI fnt]at h ⊢
 rw[Bool.not_eq_true']at h ⊢
 by_cases e:t=u
 ·rw[e];exact h
 ·exact T.trans _ _ _ (pa _ (q22 {})) (pa _ (q22 (W168 hu hn))) hk (q110 T sa pa {} {}) h
def exB(T:Tot P lt)(sb:Srt lt b.toList)(pb:∀ x∈b.toList,P x){key:Keyed}(hk:P key)(n:Nat)(hn:j+n<=b.size):∃ k,k<=n /\ ∀ t,t<n->(if true=true then lt (kas_item b (j+t)) key else !(lt key (kas_item b (j+t))))=decide (t<k):=by
 refine bound _ n λt u htu hu h=>?_
 rw[ZL rfl]at h ⊢
 by_cases e:t=u
 ·rw[e];exact h
 ·cases c:lt (kas_item b (j+t)) key with
  | true=>rfl
  | false=>
   have z:=T.trans _ _ _ hk (pb _ (q22 {})) (pb _ (q22 {})) c (q110 T sb pb (show j+t<j+u by lia) {})
   rw[h]at z
   cases z
def galA(T:Tot P lt)(sb:Srt lt b.toList)(sa:Srt lt a.toList)(pa:∀ x∈a.toList,P x)(pb:∀ x∈b.toList,P x)(m:AInv lt a b out i j)(hi:i<=a.size)(hj:j<b.size)(hk:k<=a.size-i)
  (h:∀ t,t<a.size-i->(if false=true then lt (kas_item a (i+t)) (kas_item b j)else !(lt (kas_item b j) (kas_item a (i+t))))=decide (t<k)) :
  AInv lt a b (out++a.extract i (i+k)) (i+k) j/\(i+k<a.size->lt (kas_item b j) (kas_item a (i+k))=true):=by
 constructor
 ·have z:=m.chunkA sa k (λx hx y hy=>by
   obtain⟨i',g1,g2,g3,rfl⟩:=q374 hx
   obtain⟨j',h1,h2,rfl⟩:=q119 hy
   have q:=h (i'-i) (W115 g2 g1 hk)
   rw[ZI fnt,show i+(i'-i)=i' by exact W23 g1,ZA (W32 g2 g1),Bool.not_eq_true']at q
   by_cases e:j=j'
   ·rw[<- e];exact q
   ·exact T.trans _ _ _ (pa _ (q22 g3)) (pb _ (q22 hj)) (pb _ (q22 h2)) q (q110 T sb pb (W15 h1 e) h2))
  have e:(out++a.extract i (i+k)).toList=out.toList++(a.toList.drop i).take k:=by
   rw[WL,q286 (W107 hk hi),show i+k-i=k by exact W11]
  show MInv lt _ _ (out++a.extract i (i+k)).toList _ _
  rw[e]
  exact z
 ·intro hlt
  have q:=h k (W121 hk hlt hi)
  rw[ZI fnt,ZN {},Bool.not_eq_false']at q
  exact q
def galB(T:Tot P lt)(sb:Srt lt b.toList)(sa:Srt lt a.toList)(pa:∀ x∈a.toList,P x)(pb:∀ x∈b.toList,P x)(m:AInv lt a b out i j)(hi:i<a.size)(hj:j<=b.size)(hk:k<=b.size-j)
  (h:∀ t,t<b.size-j->(if true=true then lt (kas_item b (j+t)) (kas_item a i)else !(lt (kas_item a i) (kas_item b (j+t))))=decide (t<k)) :
  AInv lt a b (out++b.extract j (j+k)) i (j+k)/\(j+k<b.size->lt (kas_item b (j+k)) (kas_item a i)=false):=by
 constructor
 ·have z:=m.chunkB sb k (λx hx y hy=>by
   obtain⟨j',g1,g2,g3,rfl⟩:=q374 hx
   obtain⟨i',h1,h2,rfl⟩:=q119 hy
   have q:=h (j'-j) (W115 g2 g1 hk)
   rw[ZL rfl,show j+(j'-j)=j' by exact W23 g1,ZA (W32 g2 g1)]at q
   have q1:=T.asym _ _ (pb _ (q22 g3)) (pa _ (q22 hi)) q
   by_cases e:i=i'
   ·rw[<- e];exact q1
   ·exact T.trans _ _ _ (pb _ (q22 g3)) (pa _ (q22 hi)) (pa _ (q22 h2)) q1 (q110 T sa pa (W15 h1 e) h2))
  have e:(out++b.extract j (j+k)).toList=out.toList++(b.toList.drop j).take k:=by
   rw[WL,q286 (W107 hk hj),show j+k-j=k by exact W11]
  show MInv lt _ _ (out++b.extract j (j+k)).toList _ _
  rw[e]
  exact z
 ·intro hlt
  have q:=h k (W121 hk hlt hj)
  rw[ZL rfl,ZN {}]at q
  exact q
def doneB(sa:Srt lt a.toList)(m:AInv lt a b out i j)(h:j=b.size):FinA lt a b (out++a.extract i a.size++b.extract j b.size):=by
 have z:=MInv.doneB m sa (by rw[h];simp)
 show Fin2 lt _ _ (out++a.extract i a.size++b.extract j b.size).toList
 rw[WL,WL,q242,q242]
 exact z
def doneA(sb:Srt lt b.toList)(m:AInv lt a b out i j)(h:i=a.size):FinA lt a b (out++a.extract i a.size++b.extract j b.size):=by
 have z:=MInv.doneA m sb (by rw[h];simp)
 show Fin2 lt _ _ (out++a.extract i a.size++b.extract j b.size).toList
 rw[WL,WL,q242,q242]
 exact z
def lastA(sa:Srt lt a.toList)(sb:Srt lt b.toList)(m:AInv lt a b out i j)(h:i+1=a.size)(hl:∀ x∈b.toList,lt (kas_item a (a.size-1)) x=false):FinA lt a b (out++b.extract j b.size++a.extract i a.size):=by
 have z:=MInv.lastA m sa sb (λx hx y hy=>by
  obtain⟨i',g1,g2,rfl⟩:=q119 hy
  have:i'=a.size-1:={}
  rw[this]
  exact hl x hx)
 show Fin2 lt _ _ (out++b.extract j b.size++a.extract i a.size).toList
 rw[WL,WL,q242,q242]
 exact z
end
section
variable {prog:Program}{w:World}{A:Around}{E:VS}{κ:SortKind}{P:Keyed->Prop}{lt:Keyed->Keyed->Bool}
def Kp(st st':SortSt):Prop:=kindOf st'=kindOf st/\arrOf st'=arrOf st/\pendingOf st'=pendingOf st/\failedOf st'=failedOf st
def Kp.refl(st:SortSt):Kp st st:=⟨rfl,rfl,rfl,rfl⟩
def Kp.trans{a b c:SortSt}(h:Kp a b)(g:Kp b c):Kp a c:=⟨g.1.trans h.1,g.2.1.trans h.2.1,g.2.2.1.trans h.2.2.1,g.2.2.2.trans h.2.2.2⟩
def q567{g:Nat}{Q:Unit->SortSt->Shared->Prop}{st:SortSt}{s:Shared}(h:∀ st',Kp st st'->Q () st' s):kasC (model prog w) A E (setMG' g) Q st s:=by
 refine kasC_modify (h _ ⟨rfl,rfl,rfl,rfl⟩)
end
end TS
namespace TS
set_option autoImplicit false
open PySem PySem.W PyProof.Rows List
section
variable {prog:Program}{w:World}{A:Around}{E:VS}{κ:SortKind}{P:Keyed->Prop}{lt:Keyed->Keyed->Bool}
def q160{β:Type}{f:Nat->β->M2 (ForInStep β)}{Q:β->SortSt->Shared->Prop}{n:Nat}{b:β}{st:SortSt}{s:Shared}(I:Nat->β->SortSt->Shared->Prop)(R:β->SortSt->Shared->Prop)(h0:I 0 b st s)(he:∀ b st s,I n b st s->R b st s)
  (hs:∀ k x b st s,k<n->I k b st s -> ∀ N:ForInStep β->SortSt->Shared->Prop,(∀{b st s},R b st s->N (.done b) st s)->(∀{b st s},I (k+1) b st s->N (.yield b) st s)->kasC (model prog w) A E (f x b) N st s) (hR:∀ b st s,R b st s->Q b st s):kasC (model prog w) A E (forIn [0:n] b f) Q st s:=
 q96 I R h0 he (λk x b st s hk hi=>hs k x b st s hk hi _ id id) hR
def c_J1{α:Type}(J:Unit->Nat->M2 α){c:Prop}{_d:Decidable c}{x y:Nat}{Q:α->SortSt->Shared->Prop}{st:SortSt}{s:Shared}(h:∀ g,kasC (model prog w) A E (J () g) Q st s):kasC (model prog w) A E (if c then J () x else J () y) Q st s:=by
 split <;> exact h _
def c_jp{α β γ:Type}(J:Unit->β->γ->M2 α){c:Prop}{_d:Decidable c}{x:M2 α}{o:β}{i:γ}{Q:α->SortSt->Shared->Prop}{st:SortSt}{s:Shared}(I:β->γ->Prop)(hJ:∀ o i,I o i->kasC (model prog w) A E (J () o i) Q st s)(hx:c->(∀ o i,I o i->kasC (model prog w) A E (J () o i) Q st s)->kasC (model prog w) A E x Q st s)(h0:¬ c->I o i):kasC (model prog w) A E (if c then x else J () o i) Q st s:=by
 by_cases h:c
 ·rw[ZL h]
  exact hx h hJ
 ·rw[ZI h]
  exact hJ _ _ (h0 h)
def mergeLo_{s:Shared}(G:Good prog w A E κ P lt s)(T:Tot P lt){a b:Array Keyed}{Q:Array Keyed->SortSt->Shared->Prop}{st:SortSt}(hst:kindOf st=κ)(pa:∀ x∈a.toList,P x)(pb:∀ x∈b.toList,P x)(sa:Srt lt a.toList)(sb:Srt lt b.toList)
  (na:0<a.size) (nb:0<b.size) (h0:lt (kas_item b 0) (kas_item a 0)=true) (hl:∀ x∈b.toList,lt (kas_item a (a.size-1)) x=false) (h:∀ r st',Kp st st'->FinA lt a b r->Q r st' s):kasC (model prog w) A E (mergeLo' a b) Q st s:=by
 have m0:AInv lt a b (#[]:Array Keyed) 0 0:=MInv.zero _ _
 have m1:=pushB T sb sa pa pb m0 na nb h0
 refine ZR (kasC_lift (wpAny_rule ?_))
 refine ZR (q56 nb ?_)
 extract_lets -merge
 dsimp -zeta +zetaDelta only
 by_cases c1:1=b.size
 ·rw[ZL (by simp[<- c1])]
  exact ZU (h _ _ (Kp.refl _) (doneB sa m1 c1))
 rw[ZI (by simpa using c1)]
 by_cases c2:0+1=a.size
 ·rw[ZL (by simp[<- c2])]
  exact ZU (h _ _ (Kp.refl _) (lastA sa sb m1 c2 hl))
 rw[ZI (by simpa using c2)]
 refine ZR (kasC_get ?_)
 refine ZR (q160 (λt r st' s'=>Kp st st'/\s'=s /\ ∃ out i j mg,r=(none,out,i,j,mg)/\AInv lt a b out i j/\i+1<a.size/\j<b.size/\t<=i+j)
  (λr st' s'=>Kp st st'/\s'=s /\ ∃ res z,r=(some res,z)/\FinA lt a b res) ⟨Kp.refl _,rfl,_,_,_,_,rfl,m1,{},{},{}⟩ ?_ ?_ ?_)
 ·rintro r st' s' ⟨_,_,out,i,j,mg,_,_,h1,h2,h3⟩
  lia
 ·rintro t x r st' s' ht ⟨K1,rfl,out,i,j,mg,rfl,m,hi,hj,hij⟩ N dn yl
  dsimp -zeta only
  extract_lets -merge
  dsimp -zeta +zetaDelta only
  refine ZR (q160 (λu r st₂ s₂=>st₂=st'/\s₂=s' /\ ∃ out₂ i₂ j₂ ac bc,r=(none,out₂,i₂,j₂,ac,bc)/\AInv lt a b out₂ i₂ j₂/\i₂+1<a.size/\j₂<b.size/\u+(i+j)<=i₂+j₂)
   (λr st₂ s₂=>st₂=st'/\s₂=s'/\((∃ res z,r=(some res,z)/\FinA lt a b res) \/ ∃ out₂ i₂ j₂ ac bc,r=(none,out₂,i₂,j₂,ac,bc)/\AInv lt a b out₂ i₂ j₂/\i₂+1<a.size/\j₂<b.size/\i+j<=i₂+j₂))
   ⟨rfl,rfl,_,_,_,_,_,rfl,m,hi,hj,W130⟩ ?_ ?_ ?_)
  ·rintro r st₂ s₂ ⟨_,_,out₂,i₂,j₂,ac,bc,_,_,h1,h2,h3⟩
   lia
  ·rintro u x r st₂ s₂ hu ⟨rfl,rfl,out₂,i₂,j₂,ac,bc,rfl,m₂,hi₂,hj₂,hu₂⟩ N dn yl
   dsimp -zeta only
   extract_lets -merge
   dsimp -zeta +zetaDelta only
   refine ZR (q56 hj₂ (ZR (q56 (show i₂<a.size by exact W39 hi₂) ?_)))
   refine ZR (G _ _ _ _ (pb _ (q22 hj₂)) (pa _ (q22 (show i₂<a.size by lia))) (K1.1.trans hst) ?_)
   dsimp -zeta only
   cases hb:lt (kas_item b j₂) (kas_item a i₂) with
   | true=>
    rw[ZL rfl]
    refine ZR (q56 hj₂ ?_)
    have m₃:=pushB T sb sa pa pb m₂ {} hj₂ hb
    by_cases d1:j₂+1=b.size
    ·rw[ZL (by simp[<- d1])]
     exact ZU (dn ⟨rfl,rfl,.inl ⟨_,_,rfl,doneB sa m₃ d1⟩⟩)
    rw[ZI (by simpa using d1)]
    by_cases d2:bc+1>=mg
    ·rw[ZL d2]
     exact ZU (dn ⟨rfl,rfl,.inr ⟨_,_,_,_,_,rfl,m₃,hi₂,{},{}⟩⟩)
    ·rw[ZI d2]
     exact ZU (yl ⟨rfl,rfl,_,_,_,_,_,rfl,m₃,hi₂,{},{}⟩)
   | false=>
    rw[ZI fnt]
    refine ZR (q56 (show i₂<a.size by lia) ?_)
    have m₃:=pushA T sb sa pa pb m₂ {} (λ_=>hb)
    by_cases d1:i₂+1+1=a.size
    ·rw[ZL (by simp[<- d1])]
     exact ZU (dn ⟨rfl,rfl,.inl ⟨_,_,rfl,lastA sa sb m₃ d1 hl⟩⟩)
    rw[ZI (by simpa using d1)]
    by_cases d2:ac+1>=mg
    ·rw[ZL d2]
     exact ZU (dn ⟨rfl,rfl,.inr ⟨_,_,_,_,_,rfl,m₃,(W103 hi₂ d1),hj₂,{}⟩⟩)
    ·rw[ZI d2]
     exact ZU (yl ⟨rfl,rfl,_,_,_,_,_,rfl,m₃,{},hj₂,{}⟩)
  ·rintro r st₂ s₂ ⟨rfl,rfl,hr⟩
   rcases hr with ⟨res,z,rfl,hf⟩ | ⟨out₂,i₂,j₂,ac,bc,rfl,m₂,hi₂,hj₂,hu₂⟩
   ·exact ZU (dn ⟨K1,rfl,_,_,rfl,hf⟩)
   dsimp -zeta only
   extract_lets -merge
   dsimp -zeta +zetaDelta only
   refine ZR (kasC_lift (wpAny_rule ?_))
   refine ZR (q160 (λu r st₃ s₃=>Kp st st₃/\s₃=s₂ /\ ∃ out₃ i₃ j₃ mg ac bc,r=(none,out₃,i₃,j₃,mg,ac,bc)/\AInv lt a b out₃ i₃ j₃/\i₃+1<a.size/\j₃<b.size/\u+(i₂+j₂)<=i₃+j₃)
    (λr st₃ s₃=>Kp st st₃/\s₃=s₂/\((∃ res z,r=(some res,z)/\FinA lt a b res) \/ ∃ out₃ i₃ j₃ mg ac bc,r=(none,out₃,i₃,j₃,mg,ac,bc)/\AInv lt a b out₃ i₃ j₃/\i₃+1<a.size/\j₃<b.size/\i₂+j₂+1<=i₃+j₃))
    ⟨K1,rfl,_,_,_,_,_,_,rfl,m₂,hi₂,hj₂,W130⟩ ?_ ?_ ?_)
   ·rintro r st₃ s₃ ⟨_,_,out₃,i₃,j₃,mg,ac,bc,_,_,h1,h2,h3⟩
    lia
   ·rintro u x r st₃ s₃ hu ⟨K3,rfl,out₃,i₃,j₃,mg,ac,bc,rfl,m₃,hi₃,hj₃,hu₃⟩ N dn yl
    dsimp -zeta only
    extract_lets -merge +onlyGivenNames _ _ _ _ _ _ _ _ _ _ _
    dsimp -zeta +zetaDelta only
    extract_lets -underBinder jp
    refine c_J1 jp λmgx=>?_
    dsimp -zeta only [jp]
    clear jp
    obtain⟨k,hk,hB⟩:=exA T sa pa (pb _ (q22 hj₃)) (a.size-i₃) (i:=i₃) {}
    obtain⟨m₄,hk4⟩:=galA T sb sa pa pb m₃ {} hj₃ hk hB
    have key:∀ st₄,Kp st st₄->kindOf st₄=κ:=λst₄ K4=>K4.1.trans hst
    refine ZR (q567 λst₄ K4=>?_)
    have K5:=K3.trans K4
    refine ZR (q56 hj₃ ?_)
    refine ZR (q241 G (key _ K5) (pb _ (q22 hj₃)) (λt ht=>pa _ (q22 {})) {} {} hk hB ?_)
    dsimp -zeta only
    extract_lets -merge +onlyGivenNames _
    dsimp -zeta +zetaDelta only
    extract_lets -underBinder jp
    refine c_jp jp (λo i'=>AInv lt a b o i' j₃/\i'+1<a.size/\lt (kas_item b j₃) (kas_item a i')=true/\i₃<=i') ?_ ?_ ?_
    ·rintro o i' ⟨m₄,hi4,hb4,hle⟩
     dsimp -zeta only [jp]
     clear jp
     refine ZR (q56 hj₃ ?_)
     extract_lets -merge
     dsimp -zeta +zetaDelta only
     have m₅:=pushB T sb sa pa pb m₄ (W39 hi4) hj₃ hb4
     by_cases d3:j₃+1=b.size
     ·rw[ZL (by simp[<- d3])]
      exact ZU (dn ⟨K5,rfl,.inl ⟨_,_,rfl,doneB sa m₅ d3⟩⟩)
     rw[ZI (by simpa using d3)]
     have hi5:i'<a.size:={}
     refine ZR (q56 hi5 ?_)
     generalize o.push (kas_item b j₃)=o5 at m₅ ⊢
     have hj5:i₃+j₃<i'+(j₃+1)/\j₃+1<b.size:={}
     generalize j₃+1=j5 at m₅ hj5 ⊢
     obtain⟨k2,hk2,hB2⟩:=exB T sb pb (pa _ (q22 hi5)) (b.size-j5) (j:=j5) {}
     obtain⟨m₆,hk6⟩:=galB T sb sa pa pb m₅ hi5 {} hk2 hB2
     refine ZR (q241 G (key _ K5) (pa _ (q22 hi5)) (λt ht=>pb _ (q22 {})) {} {} hk2 hB2 ?_)
     dsimp -zeta only
     extract_lets -merge +onlyGivenNames _
     dsimp -zeta +zetaDelta only
     extract_lets -underBinder jp
     refine c_jp jp (λo j'=>AInv lt a b o i' j'/\j'<b.size/\lt (kas_item b j') (kas_item a i')=false/\j5<=j') ?_ ?_ ?_
     ·rintro o j' ⟨m₆,hj6,hb6,hl6⟩
      dsimp -zeta only [jp]
      clear jp
      refine ZR (q56 hi5 ?_)
      extract_lets -merge
      dsimp -zeta +zetaDelta only
      have m₇:=pushA T sb sa pa pb m₆ hi5 (λ_=>hb6)
      by_cases d5:i'+1+1=a.size
      ·rw[ZL (by simp[<- d5])]
       exact ZU (dn ⟨K5,rfl,.inl ⟨_,_,rfl,lastA sa sb m₇ d5 hl⟩⟩)
      rw[ZI (by simpa using d5)]
      split
      ·exact ZU (dn ⟨K5,rfl,.inr ⟨_,_,_,_,_,_,rfl,m₇,(W103 hi4 d5),hj6,{}⟩⟩)
      ·exact ZU (yl ⟨K5,rfl,_,_,_,_,_,_,rfl,m₇,{},hj6,{}⟩)
     ·intro hk20 J
      clear_value jp
      dsimp -zeta +zetaDelta only
      by_cases d4:j5+k2=b.size
      ·rw[ZL (by simp[<- d4])]
       exact ZU (dn ⟨K5,rfl,.inl ⟨_,_,rfl,doneB sa m₆ d4⟩⟩)
      rw[ZI (by simpa using d4)]
      exact J _ _ ⟨m₆,{},hk6 {},(W129 hk20)⟩
     ·intro hk20
      obtain rfl:k2=0:=(W113 hk20)
      exact⟨m₅,{},hk6 {},ZG _⟩
    ·intro hk0 J
     clear_value jp
     dsimp -zeta +zetaDelta only
     by_cases d1:i₃+k+1=a.size
     ·rw[ZL (by simp[<- d1])]
      exact ZU (dn ⟨K5,rfl,.inl ⟨_,_,rfl,lastA sa sb m₄ d1 hl⟩⟩)
     rw[ZI (by simpa using d1)]
     by_cases d2:i₃+k=a.size
     ·rw[ZL (by simp[<- d2])]
      exact ZU (dn ⟨K5,rfl,.inl ⟨_,_,rfl,doneA sb m₄ d2⟩⟩)
     rw[ZI (by simpa using d2)]
     exact J _ _ ⟨m₄,{},hk4 {},(W129 hk0)⟩
    ·intro hk0
     obtain rfl:k=0:=(W113 hk0)
     exact⟨m₃,hi₃,hk4 {},ZG _⟩
   ·rintro r st₃ s₃ ⟨K3,rfl,hr⟩
    rcases hr with ⟨res,z,rfl,hf⟩ | ⟨out₃,i₃,j₃,mg,ac,bc,rfl,m₃,hi₃,hj₃,hu₃⟩
    ·exact ZU (dn ⟨K3,rfl,_,_,rfl,hf⟩)
    dsimp -zeta only
    extract_lets -merge
    dsimp -zeta +zetaDelta only
    refine ZR (q567 λst₄ K4=>?_)
    exact ZU (yl ⟨K3.trans K4,rfl,_,_,_,_,rfl,m₃,hi₃,hj₃,{}⟩)
 ·rintro r st' s' ⟨K1,rfl,res,z,rfl,hf⟩
  exact ZU (h _ _ K1 hf)
end
end TS
namespace TS
set_option autoImplicit false
open PySem PySem.W PyProof.Rows List
section
variable {P:Keyed->Prop}{lt:Keyed->Keyed->Bool}
structure HInv(lt:Keyed->Keyed->Bool)(al bl o:List Keyed)(i j:Nat):Prop where
 perm:o.Perm (al.drop i++bl.drop j)
 srt:Srt lt o
 ba:∀ x∈al.take i,∀ y∈o,lt y x=false
 bb:∀ x∈bl.take j,∀ y∈o,lt y x=false
def HInv.swap{al bl o:List Keyed}{i j:Nat}(m:HInv lt al bl o i j):HInv lt bl al o j i:=⟨m.perm.trans perm_append_comm,m.srt,m.bb,m.ba⟩
def HInv.chunkA{al bl o:List Keyed}{i j:Nat}(m:HInv lt al bl o i j)(ha:Srt lt al)(at_:Nat)(h:at_<=i)(hi:i<=al.length)(hc:∀ x∈bl.take j,∀ y∈(al.take i).drop at_,lt y x=false):HInv lt al bl ((al.take i).drop at_++o) at_ j:=by
 have hs:Srt lt (al.take i):=List.Pairwise.sublist (take_sublist i al) ha
 have e0:(al.take i).take at_=al.take at_:=by rw[take_take,WN h]
 have e1:al.take i=al.take at_++(al.take i).drop at_:=by rw[<- e0,YR]
 have hs2:=hs
 rw[e1]at hs2
 have hs':=List.pairwise_append.mp hs2
 have e2:al.drop at_=(al.take i).drop at_++al.drop i:=by
  have z:al=al.take i++al.drop i:=(YR i al).symm
  have z2:=congrArg (List.drop at_) z
  rw[drop_append_of_le_length (by rw[WZ];exact W108 hi h)]at z2
  exact z2
 have sub1:∀ y∈(al.take i).drop at_,y∈al.take i:=λy hy=>mem_of_mem_drop hy
 have sub2:∀ y∈al.take at_,y∈al.take i:=λy hy=>by rw[e1];exact mem_append_left _ hy
 refine⟨?_,?_,λx hx y hy=>?_,λx hx y hy=>?_⟩
 ·rw[e2,YF]
  exact m.perm.append_left _
 ·exact List.pairwise_append.mpr ⟨hs'.2.1,m.srt,λx hx y hy=>m.ba x (sub1 x hx) y hy⟩
 ·rcases eC hy with h' | h'
  ·exact hs'.2.2 x hx y h'
  ·exact m.ba x (sub2 x hx) y h'
 ·rcases eC hy with h' | h'
  ·exact hc x hx y h'
  ·exact m.bb x hx y h'
def HInv.chunkB{al bl o:List Keyed}{i j:Nat}(m:HInv lt al bl o i j)(hb:Srt lt bl)(at_:Nat)(h:at_<=j)(hj:j<=bl.length)(hc:∀ x∈al.take i,∀ y∈(bl.take j).drop at_,lt y x=false):HInv lt al bl ((bl.take j).drop at_++o) i at_:=
 (m.swap.chunkA hb at_ h hj hc).swap
def HInv.zero(al bl:List Keyed):HInv lt al bl [] al.length bl.length:=⟨by simp,.nil,λx hx y hy=>absurd hy (by simp),λx hx y hy=>absurd hy (by simp)⟩
def HInv.fin{al bl o:List Keyed}(m:HInv lt al bl o 0 0):Fin2 lt al bl o:=⟨by simpa using m.perm,m.srt⟩
variable{a b out:Array Keyed}{i j k:Nat}
abbrev BInv(lt:Keyed->Keyed->Bool)(a b out:Array Keyed)(i j:Nat):Prop:=HInv lt a.toList b.toList out.reverse.toList i j
def ext0(h:i<=a.size):(a.extract k i).toList=(a.toList.take i).drop k:=by
 rw[q286 h,drop_take]
def q310{x:Keyed}(h:x∈a.toList.take i):∃ t,t<i/\t<a.size/\x=kas_item a t:=by
 obtain⟨m,hm⟩:=mem_iff_getElem?.mp h
 rw[getElem?_take]at hm
 by_cases c:m<i
 ·rw[ZL c]at hm
  have hl:=(eA hm).1
  have hl':m<a.size:=by simpa using hl
  exists m,c,hl'
  rw[q58 hl']at hm
  exact(Option.some.inj hm).symm
 ·rw[ZI c]at hm
  cases hm
def q568{x:Keyed}(h:x∈(a.toList.take i).drop k):∃ t,k<=t/\t<i/\t<a.size/\x=kas_item a t:=by
 obtain⟨m,hm⟩:=mem_iff_getElem?.mp h
 rw[getElem?_drop,getElem?_take]at hm
 by_cases c:k+m<i
 ·rw[ZL c]at hm
  have hl:=(eA hm).1
  have hl':k+m<a.size:=by simpa using hl
  exists k+m,W13,c,hl'
  rw[q58 hl']at hm
  exact(Option.some.inj hm).symm
 ·rw[ZI c]at hm
  cases hm
def one_last(h0:0<i)(h:i<=a.size):(a.toList.take i).drop (i-1)=[kas_item a (i-1)]:=by
 obtain⟨t,rfl⟩:∃ t,i=t+1:=⟨i-1,{}⟩
 have e:=q58 (a:=a) (i:=t) (W174 h)
 rw[Nat.add_sub_cancel,YG,e,drop_append_of_le_length (by simp;lia),drop_of_length_le (by rw[WZ];exact W53)]
 rfl
def hgalA(T:Tot P lt)(sb:Srt lt b.toList)(sa:Srt lt a.toList)(pa:∀ x∈a.toList,P x)(pb:∀ x∈b.toList,P x)(m:BInv lt a b out i j)(hi:i<=a.size)(hj0:0<j)(hj:j<=b.size)(hk:k<=i)
  (h:∀ t,k<=t->t<i->lt (kas_item b (j-1)) (kas_item a t)=true):BInv lt a b (out++(a.extract k i).reverse) k j:=by
 have z:=m.chunkA sa k hk (by simpa using hi) (λx hx y hy=>by
  obtain⟨j',h1,h2,rfl⟩:=q310 hx
  obtain⟨t,g1,g2,g3,rfl⟩:=q568 hy
  have q:=T.asym _ _ (pb _ (q22 (W106 hj0 hj))) (pa _ (q22 g3)) (h t g1 g2)
  by_cases e:j'=j-1
  ·rw[e];exact q
  ·exact T.trans _ _ _ (pb _ (q22 h2)) (pb _ (q22 {})) (pa _ (q22 g3)) (q110 T sb pb (W29 hj0 h1 e) {}) q)
 have e:(out++(a.extract k i).reverse).reverse.toList=(a.toList.take i).drop k++out.reverse.toList:=by
  rw[<- ext0 hi]
  simp
 show HInv lt _ _ (out++(a.extract k i).reverse).reverse.toList _ _
 rw[e]
 exact z
def hgalB(T:Tot P lt)(sb:Srt lt b.toList)(sa:Srt lt a.toList)(pa:∀ x∈a.toList,P x)(pb:∀ x∈b.toList,P x)(m:BInv lt a b out i j)(hi0:0<i)(hi:i<=a.size)(hj:j<=b.size)(hk:k<=j)
  (h:∀ t,k<=t->t<j->lt (kas_item b t) (kas_item a (i-1))=false):BInv lt a b (out++(b.extract k j).reverse) i k:=by
 have z:=m.chunkB sb k hk (by simpa using hj) (λx hx y hy=>by
  obtain⟨i',h1,h2,rfl⟩:=q310 hx
  obtain⟨t,g1,g2,g3,rfl⟩:=q568 hy
  have q:=h t g1 g2
  by_cases e:i'=i-1
  ·rw[e];exact q
  ·exact T.trans _ _ _ (pa _ (q22 h2)) (pa _ (q22 (W106 hi0 hi))) (pb _ (q22 g3)) (q110 T sa pa (W29 hi0 h1 e) {}) q)
 have e:(out++(b.extract k j).reverse).reverse.toList=(b.toList.take j).drop k++out.reverse.toList:=by
  rw[<- ext0 hj]
  simp
 show HInv lt _ _ (out++(b.extract k j).reverse).reverse.toList _ _
 rw[e]
 exact z
def q569(h0:0<i)(h:i<=a.size):out++(a.extract (i-1) i).reverse=out.push (kas_item a (i-1)):=by
 apply Array.toList_inj.mp
 rw[WL,Array.toList_reverse,ext0 h,one_last h0 h]
 simp
def q704(T:Tot P lt)(sb:Srt lt b.toList)(sa:Srt lt a.toList)(pa:∀ x∈a.toList,P x)(pb:∀ x∈b.toList,P x)(m:BInv lt a b out i j)(hi0:0<i)(hi:i<=a.size)(hj0:0<j)(hj:j<=b.size)(h:lt (kas_item b (j-1)) (kas_item a (i-1))=true):BInv lt a b (out.push (kas_item a (i-1))) (i-1) j:=by
 rw[<- q569 hi0 hi]
 exact hgalA T sb sa pa pb m hi hj0 hj (W36 hi0) λt h1 h2=>by
  have:t=i-1:=(W82 hi0 h2 h1)
  rw[this];exact h
def hpushB(T:Tot P lt)(sb:Srt lt b.toList)(sa:Srt lt a.toList)(pa:∀ x∈a.toList,P x)(pb:∀ x∈b.toList,P x)(m:BInv lt a b out i j)(hi0:0<i)(hi:i<=a.size)(hj0:0<j)(hj:j<=b.size)(h:lt (kas_item b (j-1)) (kas_item a (i-1))=false):BInv lt a b (out.push (kas_item b (j-1))) i (j-1):=by
 rw[<- q569 hj0 hj]
 exact hgalB T sb sa pa pb m hi0 hi hj (W36 hj0) λt h1 h2=>by
  have:t=j-1:=(W82 hj0 h2 h1)
  rw[this];exact h
def q570(sb:Srt lt b.toList)(m:BInv lt a b out i j)(hj:j<=b.size)(h:i=0):FinA lt a b (a.extract 0 i++b.extract 0 j++out.reverse):=by
 subst h
 have z:=(m.chunkB sb 0 (WA _) (by simpa using hj) (λx hx=>absurd hx (by simp))).fin
 show Fin2 lt _ _ (a.extract 0 0++b.extract 0 j++out.reverse).toList
 rw[WL,WL,ext0 hj,ext0 (WA _)]
 simpa using z
def hdoneB(sa:Srt lt a.toList)(m:BInv lt a b out i j)(hi:i<=a.size)(h:j=0):FinA lt a b (a.extract 0 i++b.extract 0 j++out.reverse):=by
 subst h
 have z:=(m.chunkA sa 0 (WA _) (by simpa using hi) (λx hx=>absurd hx (by simp))).fin
 show Fin2 lt _ _ (a.extract 0 i++b.extract 0 0++out.reverse).toList
 rw[WL,WL,ext0 hi,ext0 (WA _)]
 simpa using z
def q571(sa:Srt lt a.toList)(sb:Srt lt b.toList)(m:BInv lt a b out i j)(hi:i<=a.size)(hj:j<=b.size)(h:j=1)(hf:∀ x∈a.toList,lt x (kas_item b 0)=false):FinA lt a b (b.extract 0 j++a.extract 0 i++out.reverse):=by
 subst h
 have z:=m.chunkA sa 0 (WA _) (by simpa using hi) (λx hx y hy=>by
  obtain⟨t,h1,h2,rfl⟩:=q310 hx
  have:t=0:={}
  subst this
  exact hf y (mem_of_mem_take (mem_of_mem_drop hy)))
 have z2:=(z.chunkB sb 0 (WA _) (by simpa using hj) (λx hx=>absurd hx (by simp))).fin
 show Fin2 lt _ _ (b.extract 0 1++a.extract 0 i++out.reverse).toList
 rw[WL,WL,ext0 hi,ext0 hj]
 simpa using z2
end
section
variable {prog:Program}{w:World}{A:Around}{E:VS}{κ:SortKind}{P:Keyed->Prop}{lt:Keyed->Keyed->Bool}
def mergeHi_{s:Shared}(G:Good prog w A E κ P lt s)(T:Tot P lt){a b:Array Keyed}{Q:Array Keyed->SortSt->Shared->Prop}{st:SortSt}(hst:kindOf st=κ)(pa:∀ x∈a.toList,P x)(pb:∀ x∈b.toList,P x)(sa:Srt lt a.toList)(sb:Srt lt b.toList)
  (na:0<a.size) (nb:0<b.size) (hl:lt (kas_item b (b.size-1)) (kas_item a (a.size-1))=true) (hf:∀ x∈a.toList,lt x (kas_item b 0)=false) (h:∀ r st',Kp st st'->FinA lt a b r->Q r st' s):kasC (model prog w) A E (mergeHi' a b) Q st s:=by
 have m0:BInv lt a b (#[]:Array Keyed) a.size b.size:=by
  have z:=HInv.zero (lt:=lt) a.toList b.toList
  simpa [BInv] using z
 have m1:=q704 T sb sa pa pb m0 na (ZG _) nb (ZG _) hl
 refine ZR (kasC_lift (wpAny_rule ?_))
 refine ZR (q56 (show a.size-1<a.size by exact W20 na) ?_)
 extract_lets -merge
 dsimp -zeta +zetaDelta only
 by_cases c1:a.size-1=0
 ·rw[ZL (by simp[c1])]
  exact ZU (h _ _ (Kp.refl _) (q570 sb m1 (ZG _) c1))
 rw[ZI (by simpa using c1)]
 by_cases c2:b.size=1
 ·rw[ZL (by simp[c2])]
  exact ZU (h _ _ (Kp.refl _) (q571 sa sb m1 (W36 na) (ZG _) c2 hf))
 rw[ZI (by simpa using c2)]
 refine ZR (kasC_get ?_)
 refine ZR (q160 (λt r st' s'=>Kp st st'/\s'=s /\ ∃ i j out mg,r=(none,i,j,out,mg)/\BInv lt a b out i j/\1<=i/\i<=a.size/\2<=j/\j<=b.size/\t+i+j<=a.size+b.size)
  (λr st' s'=>Kp st st'/\s'=s /\ ∃ res z,r=(some res,z)/\FinA lt a b res) ⟨Kp.refl _,rfl,_,_,_,_,rfl,m1,{},{},{},W74,{}⟩ ?_ ?_ ?_)
 ·rintro r st' s' ⟨_,_,i,j,out,mg,_,_,h1,h2,h3,h4,h5⟩
  lia
 ·rintro t x r st' s' ht ⟨K1,rfl,i,j,out,mg,rfl,m,hi0,hi,hj0,hj,hij⟩ N dn yl
  dsimp -zeta only
  extract_lets -merge
  dsimp -zeta +zetaDelta only
  refine ZR (q160 (λu r st₂ s₂=>st₂=st'/\s₂=s' /\ ∃ i₂ j₂ out₂ ac bc,r=(none,i₂,j₂,out₂,ac,bc)/\BInv lt a b out₂ i₂ j₂/\1<=i₂/\i₂<=a.size/\2<=j₂/\j₂<=b.size/\u+i₂+j₂<=i+j)
   (λr st₂ s₂=>st₂=st'/\s₂=s'/\((∃ res z,r=(some res,z)/\FinA lt a b res) \/ ∃ i₂ j₂ out₂ ac bc,r=(none,i₂,j₂,out₂,ac,bc)/\BInv lt a b out₂ i₂ j₂/\1<=i₂/\i₂<=a.size/\2<=j₂/\j₂<=b.size/\i₂+j₂<=i+j))
   ⟨rfl,rfl,_,_,_,_,_,rfl,m,hi0,hi,hj0,hj,W99⟩ ?_ ?_ ?_)
  ·rintro r st₂ s₂ ⟨_,_,i₂,j₂,out₂,ac,bc,_,_,h1,h2,h3,h4,h5⟩
   lia
  ·rintro u x r st₂ s₂ hu ⟨rfl,rfl,i₂,j₂,out₂,ac,bc,rfl,m₂,hi₂0,hi₂,hj₂0,hj₂,hu₂⟩ N dn yl
   dsimp -zeta only
   extract_lets -merge
   dsimp -zeta +zetaDelta only
   have ja:j₂-1<b.size:=(W110 hj₂0 hj₂)
   have ia:i₂-1<a.size:={}
   refine ZR (q56 ja (ZR (q56 ia ?_)))
   refine ZR (G _ _ _ _ (pb _ (q22 ja)) (pa _ (q22 ia)) (K1.1.trans hst) ?_)
   dsimp -zeta only
   cases hb:lt (kas_item b (j₂-1)) (kas_item a (i₂-1)) with
   | true=>
    rw[ZL rfl]
    refine ZR (q56 ia ?_)
    have m₃:=q704 T sb sa pa pb m₂ (W199 hi₂0) hi₂ (W67 hj₂0) hj₂ hb
    by_cases d1:i₂-1=0
    ·rw[ZL (by simp[d1])]
     exact ZU (dn ⟨rfl,rfl,.inl ⟨_,_,rfl,q570 sb m₃ hj₂ d1⟩⟩)
    rw[ZI (by simpa using d1)]
    by_cases d2:ac+1>=mg
    ·rw[ZL d2]
     exact ZU (dn ⟨rfl,rfl,.inr ⟨_,_,_,_,_,rfl,m₃,(W124 d1),(W54 ia),{},{},{}⟩⟩)
    ·rw[ZI d2]
     exact ZU (yl ⟨rfl,rfl,_,_,_,_,_,rfl,m₃,{},{},{},{},{}⟩)
   | false=>
    rw[ZI fnt]
    refine ZR (q56 ja ?_)
    have m₃:=hpushB T sb sa pa pb m₂ {} hi₂ {} hj₂ hb
    by_cases d1:j₂-1=1
    ·rw[ZL (by simp[d1])]
     exact ZU (dn ⟨rfl,rfl,.inl ⟨_,_,rfl,q571 sa sb m₃ hi₂ (W163 ja d1) d1 hf⟩⟩)
    rw[ZI (by simpa using d1)]
    by_cases d2:bc+1>=mg
    ·rw[ZL d2]
     exact ZU (dn ⟨rfl,rfl,.inr ⟨_,_,_,_,_,rfl,m₃,{},{},{},(W54 ja),(W77 hi₂0 hj₂0 hu₂ d1)⟩⟩)
    ·rw[ZI d2]
     exact ZU (yl ⟨rfl,rfl,_,_,_,_,_,rfl,m₃,{},{},{},{},(W72 hi₂0 hj₂0 hu₂ d1)⟩)
  ·rintro r st₂ s₂ ⟨rfl,rfl,hr⟩
   rcases hr with ⟨res,z,rfl,hfin⟩ | ⟨i₂,j₂,out₂,ac,bc,rfl,m₂,hi₂0,hi₂,hj₂0,hj₂,hu₂⟩
   ·exact ZU (dn ⟨K1,rfl,_,_,rfl,hfin⟩)
   dsimp -zeta only
   extract_lets -merge
   dsimp -zeta +zetaDelta only
   refine ZR (kasC_lift (wpAny_rule ?_))
   refine ZR (q160 (λu r st₃ s₃=>Kp st st₃/\s₃=s₂ /\ ∃ i₃ j₃ out₃ mg ac bc,r=(none,i₃,j₃,out₃,mg,ac,bc)/\BInv lt a b out₃ i₃ j₃/\1<=i₃/\i₃<=a.size/\2<=j₃/\j₃<=b.size/\u+i₃+j₃<=i₂+j₂)
    (λr st₃ s₃=>Kp st st₃/\s₃=s₂/\((∃ res z,r=(some res,z)/\FinA lt a b res) \/ ∃ i₃ j₃ out₃ mg ac bc,r=(none,i₃,j₃,out₃,mg,ac,bc)/\BInv lt a b out₃ i₃ j₃/\1<=i₃/\i₃<=a.size/\2<=j₃/\j₃<=b.size/\1+i₃+j₃<=i₂+j₂))
    ⟨K1,rfl,_,_,_,_,_,_,rfl,m₂,hi₂0,hi₂,hj₂0,hj₂,W99⟩ ?_ ?_ ?_)
   ·rintro r st₃ s₃ ⟨_,_,i₃,j₃,out₃,mg,ac,bc,_,_,h1,h2,h3,h4,h5⟩
    lia
   ·rintro u x r st₃ s₃ hu ⟨K3,rfl,i₃,j₃,out₃,mg,ac,bc,rfl,m₃,hi₃0,hi₃,hj₃0,hj₃,hu₃⟩ N dn yl
    dsimp -zeta only
    extract_lets -merge +onlyGivenNames _ _ _ _ _ _ _ _ _ _ _
    dsimp -zeta +zetaDelta only
    extract_lets -underBinder jp
    refine c_J1 jp λmgx=>?_
    dsimp -zeta only [jp]
    clear jp
    have ja:j₃-1<b.size:=(W110 hj₃0 hj₃)
    obtain⟨k,hk,hB⟩:=exA T sa pa (pb _ (q22 ja)) i₃ (i:=0) (W148 hi₃)
    have gA:∀ t,t<k->lt (kas_item b (j₃-1)) (kas_item a t)=false:=λt ht=>by
     have q:=hB t (W30 ht hk)
     rw[ZI fnt,Nat.zero_add,ZA ht,Bool.not_eq_true']at q
     exact q
    have gB:∀ t,k<=t->t<i₃->lt (kas_item b (j₃-1)) (kas_item a t)=true:=λt h1 h2=>by
     have q:=hB t h2
     rw[ZI fnt,Nat.zero_add,ZN (W43 h1),Bool.not_eq_false']at q
     exact q
    have m₄:=hgalA T sb sa pa pb m₃ hi₃ (W67 hj₃0) hj₃ hk gB
    have key:∀ st₄,Kp st st₄->kindOf st₄=κ:=λst₄ K4=>K4.1.trans hst
    refine ZR (q567 λst₄ K4=>?_)
    have K5:=K3.trans K4
    refine ZR (q56 ja ?_)
    refine ZR (q241 G (key _ K5) (pb _ (q22 ja)) (λt ht=>pa _ (q22 {})) (W148 hi₃) {} hk hB ?_)
    dsimp -zeta only
    extract_lets -merge +onlyGivenNames _
    dsimp -zeta +zetaDelta only
    extract_lets -underBinder jp
    refine c_jp jp (λi' o=>BInv lt a b o i' j₃/\0<i'/\i'<=i₃/\lt (kas_item b (j₃-1)) (kas_item a (i'-1))=false) ?_ ?_ ?_
    ·rintro i' o ⟨m₄,hi4,hi4',hb4⟩
     dsimp -zeta only [jp]
     clear jp
     refine ZR (q56 ja ?_)
     extract_lets -merge
     dsimp -zeta +zetaDelta only
     have m₅:=hpushB T sb sa pa pb m₄ hi4 (W83 hi4' hi₃) (W67 hj₃0) {} hb4
     by_cases d3:j₃-1=1
     ·rw[ZL (by simp[d3])]
      exact ZU (dn ⟨K5,rfl,.inl ⟨_,_,rfl,q571 sa sb m₅ {} (W163 ja d3) d3 hf⟩⟩)
     rw[ZI (by simpa using d3)]
     have hi5:i'-1<a.size:={}
     refine ZR (q56 hi5 ?_)
     generalize o.push (kas_item b (j₃-1))=o5 at m₅ ⊢
     have hj5:2<=j₃-1/\j₃-1<j₃:=(W176 hi4 hj₃0 d3)
     generalize j₃-1=j5 at m₅ hj5 ⊢
     obtain⟨k2,hk2,hB2⟩:=exB T sb pb (pa _ (q22 hi5)) j5 (j:=0) (W141 hj5 hj₃)
     have gA2:∀ t,t<k2->lt (kas_item b t) (kas_item a (i'-1))=true:=λt ht=>by
      have q:=hB2 t (W30 ht hk2)
      rw[ZL rfl,Nat.zero_add,ZA ht]at q
      exact q
     have gB2:∀ t,k2<=t->t<j5->lt (kas_item b t) (kas_item a (i'-1))=false:=λt h1 h2=>by
      have q:=hB2 t h2
      rw[ZL rfl,Nat.zero_add,ZN (W43 h1)]at q
      exact q
     refine ZR (q241 G (key _ K5) (pa _ (q22 hi5)) (λt ht=>pb _ (q22 {})) (W141 hj5 hj₃) {} hk2 hB2 ?_)
     dsimp -zeta only
     extract_lets -merge +onlyGivenNames _
     dsimp -zeta +zetaDelta only
     extract_lets -underBinder jp
     refine c_jp jp (λj' o=>BInv lt a b o i' j'/\2<=j'/\j'<=j5/\lt (kas_item b (j'-1)) (kas_item a (i'-1))=true) ?_ ?_ ?_
     ·rintro j' o ⟨m₆,hj6,hj6',hb6⟩
      dsimp -zeta only [jp]
      clear jp
      refine ZR (q56 hi5 ?_)
      extract_lets -merge
      dsimp -zeta +zetaDelta only
      have m₇:=q704 T sb sa pa pb m₆ hi4 (W83 hi4' hi₃) (W67 hj6) {} hb6
      by_cases d6:i'-1=0
      ·rw[ZL (by simp[d6])]
       exact ZU (dn ⟨K5,rfl,.inl ⟨_,_,rfl,q570 sb m₇ {} d6⟩⟩)
      rw[ZI (by simpa using d6)]
      split
      ·exact ZU (dn ⟨K5,rfl,.inr ⟨_,_,_,_,_,_,rfl,m₇,(W124 d6),(W54 hi5),{},{},{}⟩⟩)
      ·exact ZU (yl ⟨K5,rfl,_,_,_,_,_,_,rfl,m₇,{},{},{},{},{}⟩)
     ·intro hz2 J
      clear_value jp
      dsimp -zeta +zetaDelta only
      have m₆:=hgalB T sb sa pa pb m₅ hi4 (W83 hi4' hi₃) {} (show k2<=j5 by lia) gB2
      by_cases d4:k2=1
      ·rw[ZL (by simp[d4])]
       exact ZU (dn ⟨K5,rfl,.inl ⟨_,_,rfl,q571 sa sb m₆ {} {} d4 hf⟩⟩)
      rw[ZI (by simpa using d4)]
      by_cases d5:k2=0
      ·rw[ZL (by simp[d5])]
       exact ZU (dn ⟨K5,rfl,.inl ⟨_,_,rfl,hdoneB sa m₆ {} d5⟩⟩)
      rw[ZI (by simpa using d5)]
      exact J _ _ ⟨m₆,{},{},gA2 _ (W37 d5)⟩
     ·intro hz2
      exact⟨m₅,{},ZG _,gA2 _ {}⟩
    ·intro hz J
     clear_value jp
     dsimp -zeta +zetaDelta only
     by_cases d1:k=0
     ·rw[ZL (by simp[d1])]
      exact ZU (dn ⟨K5,rfl,.inl ⟨_,_,rfl,q570 sb m₄ hj₃ d1⟩⟩)
     rw[ZI (by simpa using d1)]
     exact J _ _ ⟨m₄,(W120 d1),{},gA _ (W37 d1)⟩
    ·intro hz
     exact⟨m₃,(W199 hi₃0),ZG _,gA _ {}⟩
   ·rintro r st₃ s₃ ⟨K3,rfl,hr⟩
    rcases hr with ⟨res,z,rfl,hfin⟩ | ⟨i₃,j₃,out₃,mg,ac,bc,rfl,m₃,hi₃0,hi₃,hj₃0,hj₃,hu₃⟩
    ·exact ZU (dn ⟨K3,rfl,_,_,rfl,hfin⟩)
    dsimp -zeta only
    extract_lets -merge
    dsimp -zeta +zetaDelta only
    refine ZR (q567 λst₄ K4=>?_)
    exact ZU (yl ⟨K3.trans K4,rfl,_,_,_,_,rfl,m₃,hi₃0,hi₃,hj₃0,hj₃,{}⟩)
 ·rintro r st' s' ⟨K1,rfl,res,z,rfl,hfin⟩
  exact ZU (h _ _ K1 hfin)
end
end TS
namespace TS
set_option autoImplicit false
open PySem PySem.W PyProof.Rows List
section
variable {prog:Program}{w:World}{A:Around}{E:VS}
theorem c_upto{β:Type}{f:Nat->β->M2 (ForInStep β)}{R:β->SortSt->Shared->Prop}(I:Nat->β->SortSt->Shared->Prop) :
  ∀(m a:Nat)(b:β)(st:SortSt)(s:Shared),I a b st s->(∀ b st s,I (a+m) b st s->R b st s) ->
  (∀ k b st s,a<=k->k<a+m->I k b st s->kasC (model prog w) A E (f k b) (λr st' s'=>match r with | .done b'=>R b' st' s' | .yield b'=>I (k+1) b' st' s') st s) ->
  kasC (model prog w) A E (forIn (List.range' a m) b f) R st s
 | 0,a,b,st,s,hi,hq,_=>kasC_nil (hq b st s hi)
 | m+1,a,b,st,s,hi,hq,hs=>by
  rw[range'_succ]
  refine kasC_cons (YS (hs a b st s (ZG _) {} hi) (λr s' h=>?_) λ_ _ e=>e)
  obtain⟨r,st'⟩:=r
  cases r with
  | done b'=>exact h
  | yield b'=>exact c_upto I m (a+1) b' st' s' h (λb st s hb=>hq b st s (by rw[show a+(m+1)=a+1+m by exact W63];exact hb)) (λk b st s h1 h2 h3=>hs k b st s (W44 h1) (W119 h2) h3)
def q207{β:Type}{f:Nat->β->M2 (ForInStep β)}{Q:β->SortSt->Shared->Prop}{a n:Nat}{b:β}{st:SortSt}{s:Shared}(han:a<=n)(I:Nat->β->SortSt->Shared->Prop)(R:β->SortSt->Shared->Prop)(h0:I a b st s)(he:∀ b st s,I n b st s->R b st s)
  (hs:∀ k b st s,a<=k->k<n->I k b st s->kasC (model prog w) A E (f k b) (λr st' s'=>match r with | .done b'=>R b' st' s' | .yield b'=>I (k+1) b' st' s') st s) (hR:∀ b st s,R b st s->Q b st s):kasC (model prog w) A E (forIn [a:n] b f) Q st s:=by
 refine kasC_range (YS (c_upto I (n-a) a b st s h0 (λb st s h=>he b st s (by rw[show a+(n-a)=n by exact W23 han]at h;exact h)) (λk b st s h1 h2 h3=>hs k b st s h1 {} h3)) (λr s' h=>hR _ _ _ h) λ_ _ e=>e)
end
section
variable {P:Keyed->Prop}{lt:Keyed->Keyed->Bool}
def q113{xs ys:Array Keyed}{i j:Nat}(h:xs[i]? = ys[j]?):kas_item xs i=kas_item ys j:=by
 unfold kas_item
 rw[Array.getD_eq_getD_getElem?,Array.getD_eq_getD_getElem?,h]
def q311{xs:Array Keyed}{src d:Nat}(hs:src<xs.size)(hd:d<=src)(t:Nat):kas_item (bubble xs src d) t=if t=src-d then kas_item xs src else if src-d<t/\t<=src then kas_item xs (t-1)else kas_item xs t:=by
 have e:=getElem?_bubble hs d hd t
 by_cases h1:t=src-d
 ·rw[ZL h1]at e ⊢;exact q113 e
 ·rw[ZI h1]at e ⊢
  by_cases h2:src-d<t/\t<=src
  ·rw[ZL h2]at e ⊢;exact q113 e
  ·rw[ZI h2]at e ⊢;exact q113 e
def q195{xs:Array Keyed}{i j:Nat}(hj:j<=xs.size)(t:Nat):kas_item (mirror xs i j ((j-i)/2)) t=if i<=t/\t<j then kas_item xs (i+j-1-t)else kas_item xs t:=by
 have e:=getElem?_mirror_all (i:=i) hj t
 by_cases h1:i<=t/\t<j
 ·rw[ZL h1]at e ⊢;exact q113 e
 ·rw[ZI h1]at e ⊢;exact q113 e
structure Loc(xs ys:Array Keyed)(lo hi:Nat):Prop where
 size:ys.size=xs.size
 perm:ys.Perm xs
 out:∀ t,t<lo\/hi<=t->ys[t]? = xs[t]?
def Loc.refl(xs:Array Keyed)(lo hi:Nat):Loc xs xs lo hi:=⟨rfl,Array.Perm.refl _,λ_ _=>rfl⟩
def Loc.trans{xs ys zs:Array Keyed}{lo hi:Nat}(a:Loc xs ys lo hi)(b:Loc ys zs lo hi):Loc xs zs lo hi:=⟨b.size.trans a.size,b.perm.trans a.perm,λt ht=>(b.out t ht).trans (a.out t ht)⟩
def Loc.wide{xs ys:Array Keyed}{lo hi lo' hi':Nat}(a:Loc xs ys lo hi)(h1:lo'<=lo)(h2:hi<=hi'):Loc xs ys lo' hi':=⟨a.size,a.perm,λt ht=>a.out t {}⟩
def Loc.good{xs ys:Array Keyed}{lo hi:Nat}(a:Loc xs ys lo hi)(h:∀ x∈xs.toList,P x):∀ x∈ys.toList,P x:=λx hx=>h x ((Array.perm_iff_toList_perm.mp a.perm).mem_iff.mp hx)
def q638{xs:Array Keyed}{src d:Nat}(hs:src<xs.size)(hd:d<=src):Loc xs (bubble xs src d) (src-d) (src+1):=⟨bubble_size _ _ _,bubble_perm _ _ _,λt ht=>by
 rw[getElem?_bubble hs d hd t]
 by_cases h1:t=src-d
 ·lia
 ·rw[ZI h1,ZI {}]⟩
def q79{xs:Array Keyed}{i j:Nat}(hj:j<=xs.size):Loc xs (mirror xs i j ((j-i)/2)) i j:=⟨mirror_size _ _ _ _,mirror_perm _ _ _ _,λt ht=>by
 rw[getElem?_mirror_all hj t,ZI {}]⟩
def Asc(lt:Keyed->Keyed->Bool)(xs:Array Keyed)(lo n:Nat):Prop:=∀ p q,p<q->q<n->lt (kas_item xs (lo+q)) (kas_item xs (lo+p))=false
def Su(st st':SortSt):Prop:=kindOf st'=kindOf st/\pendingOf st'=pendingOf st/\failedOf st'=failedOf st
def Su.refl(st:SortSt):Su st st:=⟨rfl,rfl,rfl⟩
def Su.trans{a b c:SortSt}(h:Su a b)(g:Su b c):Su a c:=⟨g.1.trans h.1,g.2.1.trans h.2.1,g.2.2.trans h.2.2⟩
def ins_asc(T:Tot P lt){xs:Array Keyed}{lo k l:Nat}(hp:∀ x∈xs.toList,P x)(hz:lo+k<xs.size)(hl:l<=k)(hs:Asc lt xs lo k)(h1:∀ t,t<l->lt (kas_item xs (lo+k)) (kas_item xs (lo+t))=false)(h2:∀ t,l<=t->t<k->lt (kas_item xs (lo+k)) (kas_item xs (lo+t))=true) :
  Asc lt (bubble xs (lo+k) (lo+k-(lo+l))) lo (k+1):=by
 have pm:∀ t,t<=k->P (kas_item xs (lo+t)):=λt ht=>hp _ (q22 (W165 ht hz))
 intro p q hpq hq
 rw[q311 hz (W65 hl),q311 hz {}]
 by_cases q1:q=l
 ·rw[ZL {},ZI {},ZI {}]
  exact h1 p {}
 ·rw[ZI (show ¬ lo+q=lo+k-(lo+k-(lo+l)) by lia)]
  by_cases q2:l<q
  ·rw[ZL (show lo+k-(lo+k-(lo+l))<lo+q/\lo+q<=lo+k by lia),show lo+q-1=lo+(q-1) by exact W5 hpq]
   by_cases p1:p=l
   ·rw[ZL {}]
    exact T.asym _ _ (pm k (ZG _)) (pm (q-1) {}) (h2 (q-1) {} {})
   ·rw[ZI {}]
    by_cases p2:l<p
    ·rw[ZL {},show lo+p-1=lo+(p-1) by exact W5 p2]
     exact hs (p-1) (q-1) {} {}
    ·rw[ZI (W75 hl p2)]
     exact hs p (q-1) {} {}
  ·rw[ZI (W75 hl q2),ZI {},ZI {}]
   exact hs p q hpq {}
end
section
variable {prog:Program}{w:World}{A:Around}{E:VS}{κ:SortKind}{P:Keyed->Prop}{lt:Keyed->Keyed->Bool}
def q375{s:Shared}(G:Good prog w A E κ P lt s){i j:Nat}{Q:Option Bool->SortSt->Shared->Prop}{st:SortSt}(hst:kindOf st=κ)(hp:∀ x∈(arrOf st).toList,P x)(hi:i<(arrOf st).size)(hj:j<(arrOf st).size)
  (h:Q (some (lt (kas_item (arrOf st) i) (kas_item (arrOf st) j))) st s):kasC (model prog w) A E (ltAt' i j) Q st s:=by
 rw[ltAt'_eq]
 refine ZR (kasC_get (ZR (q56 hi (ZR (q56 hj ?_)))))
 exact G _ _ _ _ (hp _ (q22 hi)) (hp _ (q22 hj)) hst h
def c_move{k l:Nat}{Q:Unit->SortSt->Shared->Prop}{st:SortSt}{s:Shared}(h:∀ st',Su st st'->arrOf st'=bubble (arrOf st) k (k-l)->Q () st' s):kasC (model prog w) A E (moveDown' k l) Q st s:=by
 rw[moveDown'_eq]
 exact kasC_modify (h _ ⟨rfl,rfl,rfl⟩ rfl)
def c_rev{i j:Nat}{Q:Unit->SortSt->Shared->Prop}{st:SortSt}{s:Shared}(h:∀ st',Su st st'->arrOf st'=mirror (arrOf st) i j ((j-i)/2)->Q () st' s):kasC (model prog w) A E (reverseSlice' i j) Q st s:=by
 rw[reverseSlice'_eq]
 exact kasC_modify (h _ ⟨rfl,rfl,rfl⟩ rfl)
def q523{s:Shared}(G:Good prog w A E κ P lt s)(T:Tot P lt){lo n ok:Nat}{Q:Bool->SortSt->Shared->Prop}{st:SortSt}(hst:kindOf st=κ)(hp:∀ x∈(arrOf st).toList,P x)(hn:lo+n<=(arrOf st).size)(hok:ok<=n)(h1:1<=n)(hs:Asc lt (arrOf st) lo ok)
  (h:∀ st',Su st st'->Loc (arrOf st) (arrOf st') lo (lo+n)->Asc lt (arrOf st') lo n->Q true st' s):kasC (model prog w) A E (binarySort' lo n ok) Q st s:=by
 refine ZR (q207 (show max ok 1<=n by lia) (λk r st' s'=>s'=s/\r=(none,())/\Su st st'/\Loc (arrOf st) (arrOf st') lo (lo+n)/\Asc lt (arrOf st') lo k) (λr st' s'=>s'=s/\r=(none,())/\Su st st'/\Loc (arrOf st) (arrOf st') lo (lo+n)/\Asc lt (arrOf st') lo n)
  ⟨rfl,rfl,Su.refl _,Loc.refl _ _ _,λp q h1 h2=>hs p q h1 {}⟩ (λ_ _ _ h=>h) ?_ ?_)
 ·rintro k r st' s' hk1 hk2 ⟨rfl,rfl,S1,L1,A1⟩
  dsimp only
  have hp':=L1.good hp
  have hz:(arrOf st').size=(arrOf st).size:=L1.size
  refine ZR (q96 (λu r st₂ s₂=>st₂=st'/\s₂=s' /\ ∃ l r',r=(none,l,r')/\l<=r'/\r'<=k/\(r'-l)+u<=k/\(∀ t,t<l->lt (kas_item (arrOf st') (lo+k)) (kas_item (arrOf st') (lo+t))=false) /\ ∀ t,r'<=t->t<k->lt (kas_item (arrOf st') (lo+k)) (kas_item (arrOf st') (lo+t))=true)
   (λr st₂ s₂=>st₂=st'/\s₂=s' /\ ∃ l r',r=(none,l,r')/\l<=k/\(∀ t,t<l->lt (kas_item (arrOf st') (lo+k)) (kas_item (arrOf st') (lo+t))=false) /\ ∀ t,l<=t->t<k->lt (kas_item (arrOf st') (lo+k)) (kas_item (arrOf st') (lo+t))=true)
   ⟨rfl,rfl,0,k,rfl,W157,W74,{},λt ht=>absurd ht (Nat.not_lt_zero _),λt h1 h2=>(W169 h2 h1).elim⟩ ?_ ?_ ?_)
  ·rintro r st₂ s₂ ⟨rfl,rfl,l,r',rfl,g1,g2,g3,g4,g5⟩
   exact⟨rfl,rfl,l,r',rfl,{},g4,λt h1 h2=>g5 t {} h2⟩
  ·rintro u x r st₂ s₂ hu ⟨rfl,rfl,l,r',rfl,g1,g2,g3,g4,g5⟩
   dsimp only
   by_cases c:l>=r'
   ·rw[ZL c]
    exact ZU ⟨rfl,rfl,l,r',rfl,{},g4,λt h1 h2=>g5 t {} h2⟩
   rw[ZI c]
   refine ZR (q375 G (S1.1.trans hst) hp' (W73 hz hk2 hn) {} ?_)
   dsimp only
   have pm:∀ t,t<=k->P (kas_item (arrOf st₂) (lo+t)):=λt ht=>hp' _ (q22 (W170 ht hz hk2 hn))
   cases hl:lt (kas_item (arrOf st₂) (lo+k)) (kas_item (arrOf st₂) (lo+(l+r')/2)) with
   | true=>
    rw[ZL rfl]
    refine ZU ⟨rfl,rfl,_,_,rfl,{},(W68 g2 c),{},g4,λt h1 h2=>?_⟩
    by_cases e:t=(l+r')/2
    ·rw[e];exact hl
    ·cases c2:lt (kas_item (arrOf st₂) (lo+k)) (kas_item (arrOf st₂) (lo+t)) with
     | true=>rfl
     | false=>
      have z:=T.trans _ _ _ (pm ((l+r')/2) {}) (pm t (W18 h2)) (pm k (ZG _)) (A1 _ _ {} h2) c2
      rw[hl]at z
      cases z
   | false=>
    rw[ZI fnt]
    refine ZU ⟨rfl,rfl,_,_,rfl,{},{},{},λt ht=>?_,g5⟩
    by_cases e:t=(l+r')/2
    ·rw[e];exact hl
    ·exact T.trans _ _ _ (pm t {}) (pm ((l+r')/2) (W68 g2 c)) (pm k (ZG _)) (A1 _ _ {} {}) hl
  ·rintro r st₂ s₂ ⟨rfl,rfl,l,r',rfl,g1,g4,g5⟩
   dsimp only
   refine ZR (c_move λst₃ S3 e3=>ZU ⟨rfl,rfl,S1.trans S3,?_,?_⟩)
   ·rw[e3]
    exact L1.trans ((q638 (W73 hz hk2 hn) (W65 g1)).wide {} {})
   ·rw[e3]
    exact ins_asc T hp' {} g1 A1 g4 g5
 ·rintro r st' s' ⟨rfl,rfl,S1,L1,A1⟩
  exact ZU (h _ S1 L1 A1)
end
end TS
namespace TS
set_option autoImplicit false
open PySem PySem.W PyProof.Rows List
section
variable {P:Keyed->Prop}{lt:Keyed->Keyed->Bool}
def Desc(lt:Keyed->Keyed->Bool)(xs:Array Keyed)(lo n:Nat):Prop:=∀ p q,p<q->q<n->lt (kas_item xs (lo+p)) (kas_item xs (lo+q))=false
noncomputable def EqT(lt:Keyed->Keyed->Bool)(xs:Array Keyed)(lo i m:Nat):Prop:=∀ p q,i<=p->p<m->i<=q->q<m->lt (kas_item xs (lo+p)) (kas_item xs (lo+q))=false
def q141(T:Tot P lt){xs:Array Keyed}{lo m:Nat}(hp:∀ x∈xs.toList,P x)(hz:lo+m<xs.size)(h:Desc lt xs lo m)(h1:0<m->lt (kas_item xs (lo+m-1)) (kas_item xs (lo+m))=false):Desc lt xs lo (m+1):=by
 have pm:∀ t,t<=m->P (kas_item xs (lo+t)):=λt ht=>hp _ (q22 (W165 ht hz))
 intro p q hpq hq
 by_cases e:q=m
 ·have z:=h1 {}
  rw[show lo+m-1=lo+(m-1) by lia]at z
  rw[e]
  by_cases e2:p=m-1
  ·rw[e2];exact z
  ·exact T.trans _ _ _ (pm m (ZG _)) (pm (m-1) {}) (pm p {}) z (h p (m-1) {} {})
 ·exact h p q hpq (W45 hq e)
def q572(T:Tot P lt){xs:Array Keyed}{lo m:Nat}(hp:∀ x∈xs.toList,P x)(hz:lo+m<xs.size)(h:Asc lt xs lo m)(h1:0<m->lt (kas_item xs (lo+m)) (kas_item xs (lo+m-1))=false):Asc lt xs lo (m+1):=by
 have pm:∀ t,t<=m->P (kas_item xs (lo+t)):=λt ht=>hp _ (q22 {})
 intro p q hpq hq
 by_cases e:q=m
 ·have z:=h1 {}
  rw[show lo+m-1=lo+(m-1) by lia]at z
  rw[e]
  by_cases e2:p=m-1
  ·rw[e2];exact z
  ·exact T.trans _ _ _ (pm p {}) (pm (m-1) {}) (pm m (ZG _)) (h p (m-1) {} {}) z
 ·exact h p q hpq {}
def q120{xs:Array Keyed}{lo i m t:Nat}(hz:lo+m<=xs.size)(ht:t<m):kas_item (mirror xs (lo+i) (lo+m) ((lo+m-(lo+i))/2)) (lo+t)=if i<=t then kas_item xs (lo+(i+m-1-t))else kas_item xs (lo+t):=by
 rw[q195 hz]
 by_cases c:i<=t
 ·rw[ZL {},ZL c,show lo+i+(lo+m)-1-(lo+t)=lo+(i+m-1-t) by lia]
 ·rw[ZI {},ZI c]
def q196{xs:Array Keyed}{lo i m:Nat}(hz:lo+m<=xs.size)(h:Desc lt xs lo m)(he:EqT lt xs lo i m):Desc lt (mirror xs (lo+i) (lo+m) ((lo+m-(lo+i))/2)) lo m:=by
 intro p q hpq hq
 rw[q120 hz (W76 hq hpq),q120 hz hq]
 by_cases c1:i<=p
 ·rw[ZL c1,ZL {}]
  exact he _ _ {} {} {} {}
 ·rw[ZI c1]
  by_cases c2:i<=q
  ·rw[ZL c2]
   exact h _ _ {} {}
  ·rw[ZI c2]
   exact h p q hpq hq
def q639{xs:Array Keyed}{lo m:Nat}(hz:lo+m<=xs.size)(h:Desc lt xs lo m):Asc lt (mirror xs lo (lo+m) ((lo+m-lo)/2)) lo m:=by
 have e:mirror xs lo (lo+m) ((lo+m-lo)/2)=mirror xs (lo+0) (lo+m) ((lo+m-(lo+0))/2):=rfl
 rw[e]
 intro p q hpq hq
 rw[q120 hz hq,q120 hz {},ZL (WA _),ZL (WA _)]
 exact h _ _ {} {}
end
section
variable {prog:Program}{w:World}{A:Around}{E:VS}{κ:SortKind}{P:Keyed->Prop}{lt:Keyed->Keyed->Bool}
def c_jS{α:Type}(J:Unit->M2 α){c:Prop}{_d:Decidable c}{x:M2 α}{Q:α->SortSt->Shared->Prop}{st:SortSt}{s:Shared}(I:SortSt->Prop)(hJ:∀ st,I st->kasC (model prog w) A E (J ()) Q st s)(hx:c->(∀ st,I st->kasC (model prog w) A E (J ()) Q st s)->kasC (model prog w) A E x Q st s)(h0:¬ c->I st):kasC (model prog w) A E (if c then x else J ()) Q st s:=by
 by_cases h:c
 ·rw[ZL h]
  exact hx h hJ
 ·rw[ZI h]
  exact hJ _ (h0 h)
def q705{s:Shared}(G:Good prog w A E κ P lt s)(T:Tot P lt){lo nrem:Nat}{Q:Option Nat->SortSt->Shared->Prop}{st:SortSt}(hst:kindOf st=κ)(hp:∀ x∈(arrOf st).toList,P x)(hn:lo+nrem<=(arrOf st).size)(h1:1<=nrem)
  (h:∀ n st',1<=n->n<=nrem->Su st st'->Loc (arrOf st) (arrOf st') lo (lo+nrem)->Asc lt (arrOf st') lo n->Q (some n) st' s):kasC (model prog w) A E (countRun' lo nrem) Q st s:=by
 have irr:∀ x,P x->lt x x=false:=λx hx=>by
  cases c:lt x x with
  | false=>rfl
  | true=>exact c.symm.trans (T.asym x x hx hx c)
 refine ZR (q207 (show 1<=nrem by lia) (λk r st₉ s₉=>st₉=st/\s₉=s/\r=(none,k)/\Asc lt (arrOf st) lo k) (λr st₉ s₉=>st₉=st/\s₉=s /\ ∃ k,r=(none,k)/\1<=k/\k<=nrem/\Asc lt (arrOf st) lo k/\(k=nrem\/lt (kas_item (arrOf st) (lo+k)) (kas_item (arrOf st) (lo+k-1))=true))
  ⟨rfl,rfl,rfl,λp q a b=>absurd b (W146 b a)⟩ (λr st₉ s₉ ⟨e1,e2,e3,e4⟩=>⟨e1,e2,nrem,e3,{},ZG _,e4,.inl rfl⟩) ?_ ?_)
 ·rintro k r st₉ s₉ hk1 hk2 ⟨rfl,rfl,rfl,A9⟩
  dsimp only
  refine ZR (q375 G hst hp {} {} ?_)
  dsimp only
  cases hl:lt (kas_item (arrOf st₉) (lo+k)) (kas_item (arrOf st₉) (lo+k-1)) with
  | true=>
   rw[ZL rfl]
   exact ZU ⟨rfl,rfl,k,rfl,hk1,(W18 hk2),A9,.inr hl⟩
  | false=>
   rw[ZI fnt]
   exact ZU ⟨rfl,rfl,rfl,q572 T hp {} A9 λ_=>hl⟩
 ·rintro r st₁ s₁ ⟨rfl,rfl,n,rfl,g1,g2,A1,hbr⟩
  dsimp -zeta only
  extract_lets -merge -underBinder
  dsimp -zeta +zetaDelta only
  extract_lets -merge -underBinder jp
  by_cases c1:n=nrem
  ·rw[ZL (by simp[c1])]
   exact ZU (h n _ g1 g2 (Su.refl _) (Loc.refl _ _ _) A1)
  rw[ZI (by simpa using c1)]
  have hbr':lt (kas_item (arrOf st₁) (lo+n)) (kas_item (arrOf st₁) (lo+n-1))=true:=by
   rcases hbr with z | z
   ·exact absurd z c1
   ·exact z
  have pm1:∀ t,t<=n->P (kas_item (arrOf st₁) (lo+t)):=λt ht=>hp _ (q22 {})
  rw[show lo+n-1=lo+(n-1) by lia]at hbr'
  have hge1:=T.asym _ _ (pm1 n (ZG _)) (pm1 (n-1) {}) hbr'
  refine c_jS jp (λst₂=>Su st₁ st₂/\Loc (arrOf st₁) (arrOf st₂) lo (lo+nrem)/\Desc lt (arrOf st₂) lo (n+1)) ?_ ?_ ?_
  ·rintro st₂ ⟨S2,L2,D2⟩
   dsimp -zeta +zetaDelta only
   clear jp
   refine ZR (kasC_lift (wpAny_rule ?_))
   refine ZR (q207 (show n+1<=nrem by lia) (λk r st₄ s₄=>s₄=s₁/\Su st₁ st₄/\Loc (arrOf st₁) (arrOf st₄) lo (lo+nrem) /\ ∃ q,r=(none,k,q)/\q+1<=k/\Desc lt (arrOf st₄) lo k/\EqT lt (arrOf st₄) lo (k-(q+1)) k)
    (λr st₄ s₄=>s₄=s₁/\Su st₁ st₄/\Loc (arrOf st₁) (arrOf st₄) lo (lo+nrem) /\ ∃ m q,r=(none,m,q)/\q+1<=m/\m<=nrem/\Desc lt (arrOf st₄) lo m/\EqT lt (arrOf st₄) lo (m-(q+1)) m)
    ⟨rfl,S2,L2,0,rfl,{},D2,λp q h1 h2 h3 h4=>by
     have ep:p=n:={}
     have eq':q=n:={}
     rw[ep,eq']
     exact irr _ (L2.good hp _ (q22 (by have:=L2.size;lia)))⟩ (λr st₄ s₄ ⟨e1,e2,e3,q,e4,e5,e6,e7⟩=>⟨e1,e2,e3,nrem,q,e4,e5,ZG _,e6,e7⟩) ?_ ?_)
   ·rintro k r st₄ s₄ hk1 hk2 ⟨rfl,S4,L4,q,rfl,hq,D4,E4⟩
    dsimp only
    have hz4:=L4.size
    have hp4:=L4.good hp
    have hk4:kindOf st₄=κ:=S4.1.trans hst
    have pm:∀ t,t<=k->P (kas_item (arrOf st₄) (lo+t)):=λt ht=>hp4 _ (q22 (W170 ht hz4 hk2 hn))
    refine ZR (q375 G hk4 hp4 (W73 hz4 hk2 hn) {} ?_)
    dsimp only
    cases hl:lt (kas_item (arrOf st₄) (lo+k)) (kas_item (arrOf st₄) (lo+k-1)) with
    | true=>
     rw[ZL rfl]
     rw[show lo+k-1=lo+(k-1) by exact W3 hq]at hl
     have hge:=T.asym _ _ (pm k (ZG _)) (pm (k-1) {}) hl
     by_cases hq0:q > 0
     ·rw[ZL hq0]
      refine ZR (c_rev λst₅ S5 e5=>ZU ⟨rfl,S4.trans S5,?_,0,rfl,{},?_,λp q' h1 h2 h3 h4=>?_⟩)
      ·rw[e5]
       exact L4.trans ((q79 {}).wide (W52 hq) {})
      ·rw[e5,show lo+k-(q+1)=lo+(k-(q+1)) by exact W7 hq]
       have D5:=q196 {} D4 E4
       have hp5:=(q79 (xs:=arrOf st₄) (i:=lo+(k-(q+1))) (j:=lo+k) {}).good hp4
       have z1:kas_item (mirror (arrOf st₄) (lo+(k-(q+1))) (lo+k) ((lo+k-(lo+(k-(q+1))))/2)) (lo+k)=kas_item (arrOf st₄) (lo+k):=by
        rw[q195 {},ZI {}]
       refine q141 T hp5 (by rw[mirror_size];lia) D5 λ_=>?_
       rw[show lo+k-1=lo+(k-1) by lia,z1,q120 {} {},ZL {}]
       exact T.trans _ _ _ (pm k (ZG _)) (pm (k-1) {}) (pm _ {}) hge (E4 _ _ {} {} {} {})
      ·have ep:p=k:={}
       have eq':q'=k:={}
       rw[ep,eq']
       refine irr _ ?_
       have L5:Loc (arrOf st₄) (arrOf st₅) (lo+k-(q+1)) (lo+k):=by
        rw[e5]
        exact q79 {}
       exact L5.good hp4 _ (q22 (by have:=L5.size;lia))
     ·rw[ZI hq0]
      refine ZU ⟨rfl,S4,L4,0,rfl,{},q141 T hp4 {} D4 λ_=>?_,λp q' h1 h2 h3 h4=>?_⟩
      ·rw[show lo+k-1=lo+(k-1) by lia]
       exact hge
      ·have ep:p=k:={}
       have eq':q'=k:={}
       rw[ep,eq']
       exact irr _ (pm k (ZG _))
    | false=>
     rw[ZI fnt]
     refine ZR (q375 G hk4 hp4 {} {} ?_)
     dsimp only
     cases hl2:lt (kas_item (arrOf st₄) (lo+k-1)) (kas_item (arrOf st₄) (lo+k)) with
     | true=>
      rw[ZL rfl]
      exact ZU ⟨rfl,S4,L4,k,q,rfl,hq,(W18 hk2),D4,E4⟩
     | false=>
      rw[ZI fnt]
      refine ZU ⟨rfl,S4,L4,q+1,rfl,{},q141 T hp4 {} D4 λ_=>hl2,λp q' h1 h2 h3 h4=>?_⟩
      rw[show lo+k-1=lo+(k-1) by exact W3 hq]at hl hl2
      by_cases ep:p=k
      ·by_cases eq':q'=k
       ·rw[ep,eq']
        exact irr _ (pm k (ZG _))
       ·rw[ep]
        exact T.trans _ _ _ (pm q' (W100 ep h4)) (pm (k-1) (W48 ep)) (pm k (ZG _)) (E4 _ _ (W40 g1 ep hq hk1) (W90 g1 ep hk1) (W38 ep h4 hq h3 eq') (W94 ep h4 eq')) hl
      ·by_cases eq':q'=k
       ·rw[eq']
        exact T.trans _ _ _ (pm k (ZG _)) (pm (k-1) (W48 eq')) (pm p (W100 eq' h2)) hl2 (E4 _ _ (W38 eq' h2 hq h1 ep) (W94 eq' h2 ep) (W40 g1 eq' hq hk1) (W90 g1 eq' hk1))
       ·exact E4 _ _ {} (W142 h4 h2 eq' ep) {} (W45 h4 eq')
   ·rintro r st₄ s₄ ⟨rfl,S4,L4,m,q,rfl,hq,hm,D4,E4⟩
    dsimp -zeta only
    extract_lets -merge -underBinder
    dsimp -zeta +zetaDelta only
    extract_lets -merge -underBinder jp
    have hz4:=L4.size
    refine c_jS jp (λst₅=>Su st₁ st₅/\Loc (arrOf st₁) (arrOf st₅) lo (lo+nrem)/\Desc lt (arrOf st₅) lo m) ?_ ?_ ?_
    ·rintro st₅ ⟨S5,L5,D5⟩
     dsimp -zeta only [jp]
     clear jp
     have hz5:=L5.size
     refine ZR (c_rev λst₆ S6 e6=>?_)
     have L6:Loc (arrOf st₁) (arrOf st₆) lo (lo+nrem):=by
      rw[e6]
      exact L5.trans ((q79 {}).wide (ZG _) (W62 hm))
     have A6:Asc lt (arrOf st₆) lo m:=by
      rw[e6]
      exact q639 {} D5
     have hz6:=L6.size
     have hp6:=L6.good hp
     have hk6:kindOf st₆=κ:=(S5.trans S6).1.trans hst
     refine ZR (q207 (show m<=nrem by lia) (λk r st₉ s₉=>st₉=st₆/\s₉=s₄/\r=(none,k)/\Asc lt (arrOf st₆) lo k) (λr st₉ s₉=>st₉=st₆/\s₉=s₄ /\ ∃ k,r=(none,k)/\m<=k/\k<=nrem/\Asc lt (arrOf st₆) lo k/\(k=nrem\/lt (kas_item (arrOf st₆) (lo+k)) (kas_item (arrOf st₆) (lo+k-1))=true))
      ⟨rfl,rfl,rfl,A6⟩ (λr st₉ s₉ ⟨e1,e2,e3,e4⟩=>⟨e1,e2,nrem,e3,{},ZG _,e4,.inl rfl⟩) ?_ ?_)
     ·rintro k r st₉ s₉ hk1 hk2 ⟨rfl,rfl,rfl,A9⟩
      dsimp only
      refine ZR (q375 G hk6 hp6 {} {} ?_)
      dsimp only
      cases hl:lt (kas_item (arrOf st₉) (lo+k)) (kas_item (arrOf st₉) (lo+k-1)) with
      | true=>
       rw[ZL rfl]
       exact ZU ⟨rfl,rfl,k,rfl,hk1,(W18 hk2),A9,.inr hl⟩
      | false=>
       rw[ZI fnt]
       exact ZU ⟨rfl,rfl,rfl,q572 T hp6 {} A9 λ_=>hl⟩
     ·rintro r st₇ s₇ ⟨rfl,rfl,k,rfl,g1,g2,g3,_⟩
      exact ZU (h k _ {} g2 (S5.trans S6) L6 g3)
    ·intro hq0 J
     clear_value jp
     refine ZR (c_rev λst₅ S5 e5=>J _ ⟨S4.trans S5,?_,?_⟩)
     ·rw[e5]
      exact L4.trans ((q79 {}).wide (W52 hq) (W62 hm))
     ·rw[e5,show lo+m-(q+1)=lo+(m-(q+1)) by exact W7 hq]
      exact q196 {} D4 E4
    ·exact λ_=>⟨S4,L4,D4⟩
  ·intro c2 J
   clear_value jp
   refine ZR (q375 G hst hp {} {} ?_)
   dsimp only
   cases hl0:lt (kas_item (arrOf st₁) lo) (kas_item (arrOf st₁) (lo+n-1)) with
   | true=>
    rw[ZL rfl]
    exact ZU (h n _ g1 g2 (Su.refl _) (Loc.refl _ _ _) A1)
   | false=>
    rw[ZI fnt]
    rw[show lo+n-1=lo+(n-1) by lia]at hl0
    have hl0':lt (kas_item (arrOf st₁) (lo+0)) (kas_item (arrOf st₁) (lo+(n-1)))=false:=hl0
    have E1:EqT lt (arrOf st₁) lo 0 n:=λp q _ hp1 _ hq1=>by
     have z1:lt (kas_item (arrOf st₁) (lo+(n-1))) (kas_item (arrOf st₁) (lo+q))=false:=by
      by_cases e:q=n-1
      ·rw[e];exact irr _ (pm1 (n-1) {})
      ·exact A1 _ _ {} (W84 c2)
     have z2:lt (kas_item (arrOf st₁) (lo+p)) (kas_item (arrOf st₁) (lo+0))=false:=by
      by_cases e:p=0
      ·rw[e];exact irr _ (pm1 0 {})
      ·exact A1 _ _ {} {}
     have z3:=T.trans _ _ _ (pm1 q (W18 hq1)) (pm1 (n-1) (W85 c2)) (pm1 0 {}) z1 hl0'
     exact T.trans _ _ _ (pm1 q {}) (pm1 0 {}) (pm1 p (W18 hp1)) z3 z2
    refine ZR (c_rev λst₂ S2 e2=>?_)
    have L2:Loc (arrOf st₁) (arrOf st₂) lo (lo+nrem):=by
     rw[e2]
     exact(q79 {}).wide (ZG _) (W62 g2)
    have D2:Desc lt (arrOf st₂) lo (n+1):=by
     have D1:=q196 (i:=0) (show lo+n<=(arrOf st₁).size by lia) (λp q a b=>E1 p q (WA _) (W76 b a) (WA _) b) E1
     have hp2:=(q79 (xs:=arrOf st₁) (i:=lo) (j:=lo+n) {}).good hp
     have z1:kas_item (mirror (arrOf st₁) lo (lo+n) ((lo+n-lo)/2)) (lo+n)=kas_item (arrOf st₁) (lo+n):=by
      rw[q195 {},ZI {}]
     rw[e2]
     refine q141 T hp2 (by rw[mirror_size];lia) D1 λ_=>?_
     have z2:=q120 (xs:=arrOf st₁) (lo:=lo) (i:=0) (m:=n) (t:=n-1) {} (W84 c2)
     rw[ZL (WA _)]at z2
     rw[show lo+n-1=lo+(n-1) by lia,z1]
     have z3:kas_item (mirror (arrOf st₁) lo (lo+n) ((lo+n-lo)/2)) (lo+(n-1))=kas_item (arrOf st₁) (lo+(0+n-1-(n-1))):=z2
     rw[z3]
     exact T.trans _ _ _ (pm1 n (ZG _)) (pm1 (n-1) (W85 c2)) (pm1 _ {}) hge1 (E1 _ _ (WA _) {} (WA _) {})
    exact J _ ⟨S2,L2,D2⟩
  ·intro c2
   have en:n=1:={}
   have D2:Desc lt (arrOf st₁) lo (n+1):=by
    refine q141 T hp {} (λp q a b=>absurd b (W155 g1 b a c2)) λ_=>?_
    rw[show lo+n-1=lo+(n-1) by lia]
    exact hge1
   have S2:=Su.refl st₁
   have L2:=Loc.refl (arrOf st₁) lo (lo+nrem)
   exact⟨S2,L2,D2⟩
end
end TS
namespace TS
set_option autoImplicit false
open PySem PySem.W PyProof.Rows List
section
variable {P:Keyed->Prop}{lt:Keyed->Keyed->Bool}
theorem set_list:∀(l:List Keyed)(xs:Array Keyed)(b off:Nat),b+off+l.length<=xs.size ->
  ((l.zipIdx off).foldl (λa x=>a.setIfInBounds (b+x.snd) x.fst) xs).toList=xs.toList.take (b+off)++l++xs.toList.drop (b+off+l.length)
 | [],xs,b,off,h=>by simp
 | x::l,xs,b,off,h=>by
  rw[WX]at h
  rw[zipIdx_cons,foldl_cons]
  have ih:=set_list l (xs.setIfInBounds (b+off) x) b (off+1) (by rw[Array.size_setIfInBounds];lia)
  rw[ih,Array.toList_setIfInBounds]
  have hl:b+off<xs.toList.length:=by simp;lia
  have tl:(xs.toList.take (b+off)).length=b+off:=by rw[WZ];lia
  have es:xs.toList.set (b+off) x=xs.toList.take (b+off)++x::xs.toList.drop (b+off+1):=by rw[set_eq_take_append_cons_drop,ZL hl]
  have e1:(xs.toList.set (b+off) x).take (b+(off+1))=xs.toList.take (b+off)++[x]:=by
   rw[es,take_append,tl,WU {},show b+(off+1)-(b+off)=1 by lia]
   rfl
  have e2:(xs.toList.set (b+off) x).drop (b+(off+1)+l.length)=xs.toList.drop (b+off+(x::l).length):=by
   rw[drop_set,ZL {},WX]
   congr 1
   lia
  rw[e1,e2,YF,YF,YF]
  rfl
def q573{xs:Array Keyed}{b e t:Nat}(he:e<=xs.size)(ht:b+t<e):kas_item (xs.extract b e) t=kas_item xs (b+t):=by
 refine q113 ?_
 rw[Array.getElem?_extract,ZL {}]
def q574{xs:Array Keyed}{b e:Nat}(he:e<=xs.size):(xs.extract b e).size=e-b:=by
 rw[Array.size_extract]
 exact W2 he
def q575{xs:Array Keyed}(h:∀ p q,p<q->q<xs.size->lt (kas_item xs q) (kas_item xs p)=false):Srt lt xs.toList:=by
 refine List.pairwise_iff_getElem.mpr λi j hi hj hij=>?_
 have hj':j<xs.size:=by simpa using hj
 have hi':i<xs.size:=by simpa using hi
 have e1:=(eA (q58 hi')).2
 have e2:=(eA (q58 hj')).2
 rw[e1,e2]
 exact h i j hij hj'
def q576{xs:Array Keyed}{y:Keyed}(h:y∈xs.toList):∃ t,t<xs.size/\y=kas_item xs t:=by
 obtain⟨j,_,h2,h3⟩:=q119 (i:=0) (a:=xs) (by simpa using h)
 exact⟨j,h2,h3⟩
end
section
variable {prog:Program}{w:World}{A:Around}{E:VS}{κ:SortKind}{P:Keyed->Prop}{lt:Keyed->Keyed->Bool}
def c_set{st₁ st:SortSt}{Q:PUnit->SortSt->Shared->Prop}{s:Shared}(h:Q ⟨⟩ st₁ s):kasC (model prog w) A E (set st₁:M2 PUnit) Q st s:=by
 unfold kasC
 rw[StateT.run_set]
 exact ZP h
def mergeAt_{s:Shared}(G:Good prog w A E κ P lt s)(T:Tot P lt){i sa na pw sb nb pw2:Nat}{Q:Bool->SortSt->Shared->Prop}{st:SortSt}(hst:kindOf st=κ)(hf:failedOf st=none)(hp:∀ x∈(arrOf st).toList,P x)
  (h1:(pendingOf st)[i]? = some (sa,na,pw)) (h2:(pendingOf st)[i+1]? = some (sb,nb,pw2)) (hsb:sb=sa+na) (hna:0<na) (hnb:0<nb) (hz:sb+nb<=(arrOf st).size) (A1:Asc lt (arrOf st) sa na) (A2:Asc lt (arrOf st) sb nb)
  (h:∀ st':SortSt,kindOf st'=κ->failedOf st'=none->pendingOf st'=((pendingOf st).setIfInBounds i (sa,na+nb,pw)).eraseIdxIfInBounds (i+1)->Loc (arrOf st) (arrOf st') sa (sb+nb)->Asc lt (arrOf st') sa (na+nb)->Q true st' s) :
  kasC (model prog w) A E (mergeAt' i) Q st s:=by
 have irr:∀ x,P x->lt x x=false:=λx hx=>by
  cases c:lt x x with
  | false=>rfl
  | true=>exact c.symm.trans (T.asym x x hx hx c)
 have p1:∀ t,t<na->P (kas_item (arrOf st) (sa+t)):=λt ht=>hp _ (q22 {})
 have p2:∀ t,t<nb->P (kas_item (arrOf st) (sb+t)):=λt ht=>hp _ (q22 {})
 refine ZR (kasC_get ?_)
 dsimp only
 rw[h1,h2]
 dsimp only
 refine ZR (c_set ?_)
 refine ZR (q56 (show sb<(arrOf st).size by lia) ?_)
 have pk:P (kas_item (arrOf st) sb):=p2 0 hnb
 obtain⟨k,hk,hB⟩:∃ k,k<=na /\ ∀ t,t<na->(if false=true then lt (kas_item (arrOf st) (sa+t)) (kas_item (arrOf st) sb)else !(lt (kas_item (arrOf st) sb) (kas_item (arrOf st) (sa+t))))=decide (t<k):=by
  refine bound _ na λt u htu hu hh=>?_
  rw[ZI fnt,Bool.not_eq_true']at hh ⊢
  by_cases e:t=u
  ·rw[e];exact hh
  ·exact T.trans _ _ _ (p1 t (W58 hu htu)) (p1 u hu) pk (A1 t u (W15 htu e) hu) hh
 have B1:∀ t,t<k->lt (kas_item (arrOf st) sb) (kas_item (arrOf st) (sa+t))=false:=λt ht=>by
  have q:=hB t (W30 ht hk)
  rw[ZI fnt,ZA ht,Bool.not_eq_true']at q
  exact q
 have B2:∀ t,k<=t->t<na->lt (kas_item (arrOf st) sb) (kas_item (arrOf st) (sa+t))=true:=λt g1 g2=>by
  have q:=hB t g2
  rw[ZI fnt,ZN (W43 g1),Bool.not_eq_false']at q
  exact q
 have C1:∀ t,t<nb->lt (kas_item (arrOf st) (sb+t)) (kas_item (arrOf st) sb)=false:=λt ht=>by
  by_cases e:t=0
  ·rw[e];exact irr _ pk
  ·exact A2 0 t (W120 e) ht
 refine ZR (q241 G hst pk (λt ht=>p1 t ht) (show sa+na<=(arrOf st).size by lia) hna hk hB ?_)
 dsimp only
 have key:∀ t,t<k -> ∀ u,u<nb->lt (kas_item (arrOf st) (sb+u)) (kas_item (arrOf st) (sa+t))=false:=λt ht u hu=>
  T.trans _ _ _ (p1 t (W30 ht hk)) pk (p2 u hu) (B1 t ht) (C1 u hu)
 by_cases c1:na-k=0
 ·rw[ZL (by simp[c1])]
  refine ZU (h _ hst hf rfl (Loc.refl _ _ _) λp q hpq hq=>?_)
  by_cases q1:q<na
  ·exact A1 p q hpq q1
  ·have eq1:sa+q=sb+(q-na):=(W61 hsb q1)
   by_cases p3:p<na
   ·rw[eq1]
    exact key p {} (q-na) (W145 hq eq1 hsb)
   ·rw[eq1,show sa+p=sb+(p-na) by exact W71 eq1 hsb p3]
    exact A2 _ _ (W118 hpq eq1 hsb p3) {}
 rw[ZI (by simpa using c1)]
 replace c1:k<na:={}
 have elast:sa+k+(na-k)-1=sa+(na-1):={}
 rw[elast]
 clear elast
 have pl:P (kas_item (arrOf st) (sa+(na-1))):=p1 _ (W20 hna)
 refine ZR (q56 (show sa+(na-1)<(arrOf st).size by lia) ?_)
 obtain⟨k2,hk2,hB2⟩:∃ k2,k2<=nb /\ ∀ t,t<nb->(if true=true then lt (kas_item (arrOf st) (sb+t)) (kas_item (arrOf st) (sa+(na-1)))else !(lt (kas_item (arrOf st) (sa+(na-1))) (kas_item (arrOf st) (sb+t))))=decide (t<k2):=by
  refine bound _ nb λt u htu hu hh=>?_
  rw[ZL rfl]at hh ⊢
  by_cases e:t=u
  ·rw[e];exact hh
  ·cases c:lt (kas_item (arrOf st) (sb+t)) (kas_item (arrOf st) (sa+(na-1))) with
   | true=>rfl
   | false=>
    have z:=T.trans _ _ _ pl (p2 t (W58 hu htu)) (p2 u hu) c (A2 t u (W15 htu e) hu)
    rw[hh]at z
    cases z
 have B3:∀ t,t<k2->lt (kas_item (arrOf st) (sb+t)) (kas_item (arrOf st) (sa+(na-1)))=true:=λt ht=>by
  have q:=hB2 t (W30 ht hk2)
  rw[ZL rfl,ZA ht]at q
  exact q
 have B4:∀ t,k2<=t->t<nb->lt (kas_item (arrOf st) (sb+t)) (kas_item (arrOf st) (sa+(na-1)))=false:=λt g1 g2=>by
  have q:=hB2 t g2
  rw[ZL rfl,ZN (W43 g1)]at q
  exact q
 have key2:∀ t,t<na -> ∀ u,k2<=u->u<nb->lt (kas_item (arrOf st) (sb+u)) (kas_item (arrOf st) (sa+t))=false:=λt ht u g1 g2=>by
  by_cases e:t=na-1
  ·rw[e];exact B4 u g1 g2
  ·exact T.trans _ _ _ (p1 t ht) pl (p2 u g2) (A1 t (na-1) (W29 hna ht e) (W20 hna)) (B4 u g1 g2)
 refine ZR (q241 G hst pl (λt ht=>p2 t ht) (show sb+nb<=(arrOf st).size by lia) (W20 hnb) hk2 hB2 ?_)
 dsimp only
 by_cases c2:k2=0
 ·rw[ZL (by simp[c2])]
  refine ZU (h _ hst hf rfl (Loc.refl _ _ _) λp q hpq hq=>?_)
  by_cases q1:q<na
  ·exact A1 p q hpq q1
  ·have eq1:sa+q=sb+(q-na):=(W61 hsb q1)
   by_cases p3:p<na
   ·rw[eq1]
    exact key2 p p3 (q-na) {} (W145 hq eq1 hsb)
   ·rw[eq1,show sa+p=sb+(p-na) by exact W71 eq1 hsb p3]
    exact A2 _ _ (W118 hpq eq1 hsb p3) {}
 rw[ZI (by simpa using c2)]
 have xz:((arrOf st).extract (sa+k) sb).size=na-k:=by rw[q574 (W162 hnb hz hsb)];lia
 have yz:((arrOf st).extract sb (sb+k2)).size=k2:=by rw[q574 {}];exact W11
 have xi:∀ t,t<na-k->kas_item ((arrOf st).extract (sa+k) sb) t=kas_item (arrOf st) (sa+(k+t)):=λt ht=>by
  rw[q573 (W162 hnb hz hsb) {},show sa+k+t=sa+(k+t) by lia]
 have yi:∀ t,t<k2->kas_item ((arrOf st).extract sb (sb+k2)) t=kas_item (arrOf st) (sb+t):=λt ht=>q573 (W127 yz hk2 hz hsb) {}
 have xm:∀ z∈((arrOf st).extract (sa+k) sb).toList,∃ t,k<=t/\t<na/\z=kas_item (arrOf st) (sa+t):=λz hz'=>by
  obtain⟨t,g1,rfl⟩:=q576 hz'
  rw[xz]at g1
  exact⟨k+t,W13,(W66 g1 c1),xi t g1⟩
 have ym:∀ z∈((arrOf st).extract sb (sb+k2)).toList,∃ t,t<k2/\z=kas_item (arrOf st) (sb+t):=λz hz'=>by
  obtain⟨t,g1,rfl⟩:=q576 hz'
  rw[yz]at g1
  exact⟨t,g1,yi t g1⟩
 have px:∀ z∈((arrOf st).extract (sa+k) sb).toList,P z:=λz hz'=>by
  obtain⟨t,g1,g2,rfl⟩:=xm z hz'
  exact p1 t g2
 have py:∀ z∈((arrOf st).extract sb (sb+k2)).toList,P z:=λz hz'=>by
  obtain⟨t,g1,rfl⟩:=ym z hz'
  exact p2 t (W159 g1 yz hk2)
 have sx:Srt lt ((arrOf st).extract (sa+k) sb).toList:=q575 λp q g1 g2=>by
  rw[xz]at g2
  rw[xi p {},xi q g2]
  exact A1 _ _ (W27 g1) (W66 g2 c1)
 have sy:Srt lt ((arrOf st).extract sb (sb+k2)).toList:=q575 λp q g1 g2=>by
  rw[yz]at g2
  rw[yi p {},yi q g2]
  exact A2 _ _ {} (W159 g2 yz hk2)
 have xl:(arrOf st).toList.take (sa+k)++(((arrOf st).extract (sa+k) sb).toList++((arrOf st).extract sb (sb+k2)).toList)++(arrOf st).toList.drop (sb+k2)=(arrOf st).toList:=by
  rw[ext0 (show sb<=(arrOf st).size by lia),ext0 (show sb+k2<=(arrOf st).size by exact W127 yz hk2 hz hsb)]
  generalize (arrOf st).toList=l
  have e1:l.take sb=l.take (sa+k)++(l.take sb).drop (sa+k):=by
   have:(l.take sb).take (sa+k)=l.take (sa+k):=by rw[take_take,WN {}]
   rw[<- this,YR]
  have e2:l.take (sb+k2)=l.take sb++(l.take (sb+k2)).drop sb:=by
   have:(l.take (sb+k2)).take sb=l.take sb:=by rw[take_take,WN {}]
   rw[<- this,YR]
  rw[<- YF,<- e1,<- e2,YR]
 have fin:∀(r:Array Keyed)(st₂:SortSt),arrOf st₂=arrOf st->FinA lt ((arrOf st).extract (sa+k) sb) ((arrOf st).extract sb (sb+k2)) r ->
   Loc (arrOf st) (List.foldl (λa x=>a.setIfInBounds (sa+k+x.snd) x.fst) (arrOf st₂) r.toList.zipIdx) sa (sb+nb)/\Asc lt (List.foldl (λa x=>a.setIfInBounds (sa+k+x.snd) x.fst) (arrOf st₂) r.toList.zipIdx) sa (na+nb):=by
  intro r st₂ K2 F
  rw[K2]
  have rz:r.toList.length=na-k+k2:=by
   rw[F.1.length_eq,ZQ,ZY,ZY,xz,yz]
  clear xz yz
  have ys:=set_list r.toList (arrOf st) (sa+k) 0 {}
  generalize List.foldl (λa x=>a.setIfInBounds (sa+k+x.snd) x.fst) (arrOf st) r.toList.zipIdx=zs at ys ⊢
  rw[Nat.add_zero,rz,show sa+k+(na-k+k2)=sb+k2 by lia]at ys
  have tl:((arrOf st).toList.take (sa+k)).length=sa+k:=by rw[WZ,ZY];lia
  have gl:∀ t,zs[t]? = if t<sa+k then(arrOf st)[t]? else if t<sb+k2 then r.toList[t-(sa+k)]? else(arrOf st)[t]?:=λt=>by
   rw[<- WF,ys]
   by_cases g1:t<sa+k
   ·rw[ZL g1,YF,YX {},getElem?_take,ZL g1,WF]
   ·rw[ZI g1]
    by_cases g2:t<sb+k2
    ·rw[ZL g2,YX (by rw[ZQ];lia),YL {},tl]
    ·rw[ZI g2,YL (by rw[ZQ];lia),getElem?_drop,ZQ,tl,rz,WF]
     congr 1
     exact W203 tl rz c1 hsb g2
  clear tl
  have pz:zs.toList.Perm (arrOf st).toList:=by
   rw[ys]
   refine List.Perm.trans ?_ (List.Perm.of_eq xl)
   exact(List.Perm.append_left _ F.1).append_right _
  have zz:zs.size=(arrOf st).size:=by
   have:=pz.length_eq
   simpa using this
  refine⟨⟨zz,Array.perm_iff_toList_perm.mpr pz,λt ht=>?_⟩,λp q hpq hq=>?_⟩
  ·rw[gl t]
   by_cases g1:t<sa+k
   ·rw[ZL g1]
   ·rw[ZI g1,ZI {}]
  ·clear zz
   have rm:∀ t,k<=t->t<na+k2->kas_item zs (sa+t)=kas_item r (t-k)/\((∃ u,k<=u/\u<na/\kas_item zs (sa+t)=kas_item (arrOf st) (sa+u)) \/ ∃ u,u<k2/\kas_item zs (sa+t)=kas_item (arrOf st) (sb+u)):=λt g1 g2=>by
    have e:=gl (sa+t)
    rw[ZI {},ZL {},show sa+t-(sa+k)=t-k by lia,WF]at e
    have e2:=q113 e
    exists e2
    have hm:=q22 (a:=r) (i:=t-k) (by rw[<- ZY,rz];lia)
    rcases eC (F.1.mem_iff.mp hm)with z | z
    ·obtain⟨u,a1,a2,a3⟩:=xm _ z
     exact .inl ⟨u,a1,a2,e2.trans a3⟩
    ·obtain⟨u,a1,a3⟩:=ym _ z
     exact .inr ⟨u,a1,e2.trans a3⟩
   have lowi:∀ t,t<k->kas_item zs (sa+t)=kas_item (arrOf st) (sa+t):=λt ht=>q113 (by rw[gl,ZL (W27 ht)])
   have hii:∀ t,na+k2<=t->kas_item zs (sa+t)=kas_item (arrOf st) (sb+(t-na)):=λt ht=>by
    refine q113 ?_
    rw[gl,ZI {},ZI {},show sb+(t-na)=sa+t by lia]
   by_cases p3:p<k
   ·rw[lowi p p3]
    by_cases q1:q<k
    ·rw[lowi q q1]
     exact A1 p q hpq (W173 q1 c1)
    ·by_cases q2:q<na+k2
     ·rcases(rm q (W17 q1) q2).2 with ⟨u,a1,a2,a3⟩ | ⟨u,a1,a3⟩
      ·rw[a3]
       exact A1 p u {} a2
      ·rw[a3]
       exact key p p3 u {}
     ·rw[hii q (W86 rz q2)]
      exact key p p3 _ (W88 hnb hq)
   ·by_cases p4:p<na+k2
    ·by_cases q2:q<na+k2
     ·rw[(rm p (W17 p3) p4).1,(rm q {} q2).1]
      have z:=List.pairwise_iff_getElem.mp F.2 (p-k) (q-k) {} {} {}
      have e1:=(eA (q58 (a:=r) (i:=p-k) (by rw[<- ZY,rz];lia))).2
      have e2:=(eA (q58 (a:=r) (i:=q-k) (by rw[<- ZY,rz];lia))).2
      rw[e1,e2]at z
      exact z
     ·rw[hii q {}]
      rcases(rm p {} p4).2 with ⟨u,a1,a2,a3⟩ | ⟨u,a1,a3⟩
      ·rw[a3]
       exact key2 u a2 _ {} (W88 hnb hq)
      ·rw[a3]
       exact A2 u _ {} {}
    ·rw[hii p (W86 rz p4),hii q {}]
     exact A2 _ _ (W200 hpq rz p4) {}
 have x0:kas_item ((arrOf st).extract (sa+k) sb) 0=kas_item (arrOf st) (sa+k):=xi 0 {}
 have y0:kas_item ((arrOf st).extract sb (sb+k2)) 0=kas_item (arrOf st) sb:=yi 0 (W175 yz c1 c2)
 have xe:kas_item ((arrOf st).extract (sa+k) sb) (((arrOf st).extract (sa+k) sb).size-1)=kas_item (arrOf st) (sa+(na-1)):=by
  rw[xz,xi _ {}]
  congr 1
  lia
 have ye:kas_item ((arrOf st).extract sb (sb+k2)) (((arrOf st).extract sb (sb+k2)).size-1)=kas_item (arrOf st) (sb+(k2-1)):=by
  rw[yz,yi _ (W134 yz c1 c2)]
 by_cases c3:na-k<=k2
 ·rw[ZL c3]
  refine ZR (mergeLo_ G T hst px py sx sy (show 0<((arrOf st).extract (sa+k) sb).size by rw[xz];lia) (show 0<((arrOf st).extract sb (sb+k2)).size by rw[yz];lia) (by rw[x0,y0];exact B2 k (ZG _) {}) (λz hz'=>?_) λr st₂ K2 F=>?_)
  ·rw[xe]
   obtain⟨t,g1,rfl⟩:=ym z hz'
   exact T.asym _ _ (p2 t {}) pl (B3 t g1)
  ·obtain⟨f1,f2⟩:=fin r st₂ K2.2.1 F
   refine ZR (kasC_modify (ZR (kasC_get (ZU ?_))))
   have ef:failedOf st₂=none:=K2.2.2.2.trans hf
   show Q (failedOf st₂).isNone _ s
   rw[ef]
   exact h _ (K2.1.trans hst) ef K2.2.2.1 f1 f2
 ·rw[ZI c3]
  refine ZR (mergeHi_ G T hst px py sx sy (show 0<((arrOf st).extract (sa+k) sb).size by rw[xz];lia) (show 0<((arrOf st).extract sb (sb+k2)).size by rw[yz];lia) (by rw[xe,ye];exact B3 _ {}) (λz hz'=>?_) λr st₂ K2 F=>?_)
  ·rw[y0]
   obtain⟨t,g1,g2,rfl⟩:=xm z hz'
   exact T.asym _ _ pk (p1 t g2) (B2 t g1 g2)
  ·obtain⟨f1,f2⟩:=fin r st₂ K2.2.1 F
   refine ZR (kasC_modify (ZR (kasC_get (ZU ?_))))
   have ef:failedOf st₂=none:=K2.2.2.2.trans hf
   show Q (failedOf st₂).isNone _ s
   rw[ef]
   exact h _ (K2.1.trans hst) ef K2.2.2.1 f1 f2
end
end TS
namespace TS
set_option autoImplicit false
open PySem PySem.W PyProof.Rows List
section
variable {P:Keyed->Prop}{lt:Keyed->Keyed->Bool}
noncomputable abbrev pr(p:Nat×Nat×Nat):Nat×Nat:=(p.1,p.2.1)
def Runs(lt:Keyed->Keyed->Bool)(xs:Array Keyed):Nat->List (Nat×Nat)->Nat->Prop
 | b,[],e=>b=e
 | b,(s,l)::r,e=>s=b/\0<l/\Asc lt xs b l/\Runs lt xs (b+l) r e
theorem Runs.le{xs:Array Keyed}:∀{l:List (Nat×Nat)} {b e:Nat},Runs lt xs b l e->b+l.length<=e
 | [],b,e,h=>by
  have:b=e:=h
  simp[this]
 | (s,l)::r,b,e,⟨_,h1,_,h2⟩=>by
  have:=h2.le
  rw[WX]
  lia
theorem Runs.app{xs:Array Keyed}:∀{l1 l2:List (Nat×Nat)} {b e:Nat},Runs lt xs b (l1++l2) e↔∃ m,Runs lt xs b l1 m/\Runs lt xs m l2 e
 | [],l2,b,e=>⟨λh=>⟨b,rfl,h⟩,λ⟨m,h1,h2⟩=>by
   have:b=m:=h1
   rw[this];exact h2⟩
 | (s,l)::r,l2,b,e=>⟨λ⟨h1,h2,h3,h4⟩=>by
   obtain⟨m,g1,g2⟩:=Runs.app.mp h4
   exact⟨m,⟨h1,h2,h3,g1⟩,g2⟩,λ⟨m,⟨h1,h2,h3,h4⟩,g⟩=>⟨h1,h2,h3,Runs.app.mpr ⟨m,h4,g⟩⟩⟩
def Asc.same{xs ys:Array Keyed}{b l:Nat}(h:∀ t,b<=t->t<b+l->kas_item ys t=kas_item xs t)(a:Asc lt xs b l):Asc lt ys b l:=λp q h1 h2=>by
 rw[h _ {} (W27 h2),h _ W13 {}]
 exact a p q h1 h2
theorem Runs.same{xs ys:Array Keyed}:∀{l:List (Nat×Nat)} {b e:Nat},(∀ t,b<=t->t<e->kas_item ys t=kas_item xs t)->Runs lt xs b l e->Runs lt ys b l e
 | [],b,e,_,h=>h
 | (s,l)::r,b,e,h,⟨h1,h2,h3,h4⟩=>by
  have hl:=h4.le
  exact⟨h1,h2,h3.same λt g1 g2=>h t g1 {},h4.same λt g1 g2=>h t {} g2⟩
def Loc.item{xs ys:Array Keyed}{lo hi t:Nat}(a:Loc xs ys lo hi)(h:t<lo\/hi<=t):kas_item ys t=kas_item xs t:=q113 (a.out t h)
def q706{α:Type}{l:List α}{i:Nat}(h:i+1<l.length):∃ l1 a b l2,l=l1++a::b::l2/\l1.length=i/\l[i]? = some a/\l[i+1]? = some b:=by
 have h0:i<l.length:=(W39 h)
 refine⟨l.take i,l[i],l[i+1],l.drop (i+2),?_,by rw[WZ];lia,ZM h0,ZM h⟩
 rw[<- drop_eq_getElem_cons h,<- drop_eq_getElem_cons h0,YR]
def q707{α:Type}(l1 l2:List α)(a b v:α):((l1++a::b::l2).set l1.length v).eraseIdx (l1.length+1)=l1++v::l2:=by
 induction l1 with
 | nil=>rfl
 | cons x l1 ih=>simpa using ih
def q708(pd:Array (Nat×Nat×Nat))(i:Nat)(f:Nat×Nat×Nat->Nat×Nat×Nat)(hf:∀ x,pr (f x)=pr x):(pd.modify i f).toList.map pr=pd.toList.map pr:=by
 apply ext_getElem?
 intro j
 rw[WH,WH,WF,WF,Array.getElem?_modify]
 by_cases c:i=j
 ·rw[ZL c]
  cases pd[j]? with
  | none=>rfl
  | some x=>simp[hf x]
 ·rw[ZI c]
end
section
variable {prog:Program}{w:World}{A:Around}{E:VS}{κ:SortKind}{P:Keyed->Prop}{lt:Keyed->Keyed->Bool}
def ite_lt{c:Prop}[Decidable c]{a b n:Nat}(h1:a+1<n)(h2:b+1<n):(if c then a else b)+1<n:=by split <;> assumption
def c_iteF{α:Type}{c:Prop}[Decidable c]{x y:M2 α}{Q:α->SortSt->Shared->Prop}{st:SortSt}{s:Shared}(hc:¬ c)(h:kasC (model prog w) A E y Q st s):kasC (model prog w) A E (if c then x else y) Q st s:=by rw[ZI hc];exact h
def q376{s:Shared}(G:Good prog w A E κ P lt s)(T:Tot P lt){i lo:Nat}{Q:Bool->SortSt->Shared->Prop}{st:SortSt}(hst:kindOf st=κ)(hf:failedOf st=none)(hp:∀ x∈(arrOf st).toList,P x)
  (hi:i+1<(pendingOf st).size) (hlo:lo<=(arrOf st).size) (hr:Runs lt (arrOf st) 0 ((pendingOf st).toList.map pr) lo)
  (h:∀ st':SortSt,kindOf st'=κ->failedOf st'=none->(pendingOf st').size+1=(pendingOf st).size->Loc (arrOf st) (arrOf st') 0 lo->Runs lt (arrOf st') 0 ((pendingOf st').toList.map pr) lo->Q true st' s) :
  kasC (model prog w) A E (mergeAt' i) Q st s:=by
 obtain⟨l1,⟨sa,na,pw⟩,⟨sb,nb,pw2⟩,l2,e,el,g1,g2⟩:=q706 (l:=(pendingOf st).toList) (i:=i) (by simpa using hi)
 rw[WF]at g1 g2
 rw[e,WK,map_cons,map_cons]at hr
 obtain⟨m,r1,rfl,na0,A1,hsb,nb0,A2,r2⟩:=Runs.app.mp hr
 have hsb':sb=sa+na:=hsb
 have na0':0<na:=na0
 have nb0':0<nb:=nb0
 have r2':Runs lt (arrOf st) (sa+na+nb) (l2.map pr) lo:=r2
 have hl2:=r2'.le
 have A2':Asc lt (arrOf st) sb nb:=by rw[hsb'];exact A2
 refine mergeAt_ G T hst hf hp g1 g2 hsb' na0' nb0' {} A1 A2' λst' k1 k2 k3 L A3=>?_
 have ep:(pendingOf st').toList=l1++(sa,na+nb,pw)::l2:=by
  rw[k3,Array.toList_eraseIdxIfInBounds,Array.toList_setIfInBounds,e,<- el]
  exact q707 l1 l2 _ _ _
 refine h st' k1 k2 ?_ (L.wide (WA _) {}) ?_
 ·rw[<- ZY,<- ZY,ep,e]
  simp
  lia
 ·rw[ep,WK,map_cons]
  refine Runs.app.mpr ⟨sa,r1.same λt _ ht=>L.item (.inl ht),rfl,(show 0<na+nb by lia),A3,?_⟩
  show Runs lt (arrOf st') (sa+(na+nb)) (l2.map pr) lo
  rw[<- Nat.add_assoc]
  exact r2'.same λt ht _=>L.item (.inr {})
def c_jN{α:Type}(J:Unit->Nat->M2 α){c:Prop}{_d:Decidable c}{x:M2 α}{n:Nat}{Q:α->SortSt->Shared->Prop}{st:SortSt}{s:Shared}(I:Nat->SortSt->Prop)(hJ:∀ n st,I n st->kasC (model prog w) A E (J () n) Q st s)(hx:c->(∀ n st,I n st->kasC (model prog w) A E (J () n) Q st s)->kasC (model prog w) A E x Q st s)(h0:¬ c->I n st):kasC (model prog w) A E (if c then x else J () n) Q st s:=by
 by_cases h:c
 ·rw[ZL h]
  exact hx h hJ
 ·rw[ZI h]
  exact hJ _ _ (h0 h)
def q464{s:Shared}(G:Good prog w A E κ P lt s)(T:Tot P lt){Q:Unit->SortSt->Shared->Prop}{st:SortSt}(hst:kindOf st=κ)(hf:failedOf st=none)(hpd:pendingOf st = #[])(hp:∀ x∈(arrOf st).toList,P x)(hn:1<=(arrOf st).size)
  (h:∀ st':SortSt,failedOf st'=none->(arrOf st').Perm (arrOf st)->Asc lt (arrOf st') 0 (arrOf st').size->Q () st' s):kasC (model prog w) A E sortRuns' Q st s:=by
 refine ZR (kasC_get ?_)
 try dsimp -zeta only
 try extract_lets -merge -underBinder
 try dsimp -zeta +zetaDelta only
 refine ZR (q96 (λt r st' s'=>s'=s/\kindOf st'=κ/\failedOf st'=none/\Loc (arrOf st) (arrOf st') 0 (arrOf st).size /\ ∃ lo,r=(none,lo)/\lo<=(arrOf st).size/\t<=lo/\Runs lt (arrOf st') 0 ((pendingOf st').toList.map pr) lo)
  (λr st' s'=>s'=s/\kindOf st'=κ/\failedOf st'=none/\Loc (arrOf st) (arrOf st') 0 (arrOf st).size/\r=(none,(arrOf st).size)/\Runs lt (arrOf st') 0 ((pendingOf st').toList.map pr) (arrOf st).size)
  ⟨rfl,hst,hf,Loc.refl _ _ _,0,rfl,WA _,WA _,by rw[hpd];exact rfl⟩ ?_ ?_ ?_)
 ·rintro r st' s' ⟨e1,e2,e3,e4,lo,e5,e6,e7,e8⟩
  have e7':(arrOf st).size<=lo:=e7
  have el:lo=(arrOf st).size:={}
  subst el
  exact⟨e1,e2,e3,e4,e5,e8⟩
 ·rintro t x r st' s' ht ⟨rfl,k1,f1,L1,lo,rfl,hlo,htl,R1⟩
  try dsimp -zeta only
  try extract_lets -merge -underBinder
  try dsimp -zeta +zetaDelta only
  have hz1:=L1.size
  have hp1:=L1.good hp
  by_cases c1:lo>=(arrOf st).size
  ·rw[ZL c1]
   have el:lo=(arrOf st).size:={}
   subst el
   exact ZU ⟨rfl,k1,f1,L1,rfl,R1⟩
  rw[ZI c1]
  refine ZR (q705 G T k1 hp1 (show lo+((arrOf st).size-lo)<=(arrOf st').size by lia) (show 1<=(arrOf st).size-lo by lia) λfo st₂ fo1 fo2' S2 L2' A2=>?_)
  dsimp -zeta only
  extract_lets -merge -underBinder +onlyGivenNames _
  dsimp -zeta +zetaDelta only
  extract_lets -merge -underBinder jp
  have fo2:fo<=(arrOf st).size-lo:=fo2'
  have L2:Loc (arrOf st') (arrOf st₂) lo (lo+((arrOf st).size-lo)):=L2'
  have L12:Loc (arrOf st) (arrOf st₂) 0 (arrOf st).size:=L1.trans (L2.wide (WA _) {})
  have k2:kindOf st₂=κ:=S2.1.trans k1
  have f2:failedOf st₂=none:=S2.2.2.trans f1
  have R2:Runs lt (arrOf st₂) 0 ((pendingOf st₂).toList.map pr) lo:=by
   rw[S2.2.1]
   exact R1.same λt _ ht=>L2.item (.inl ht)
  have hz2:=L12.size
  refine c_jN jp (λn st₃=>kindOf st₃=κ/\failedOf st₃=none/\Loc (arrOf st) (arrOf st₃) 0 (arrOf st).size/\Runs lt (arrOf st₃) 0 ((pendingOf st₃).toList.map pr) lo/\Asc lt (arrOf st₃) lo n/\0<n/\lo+n<=(arrOf st).size) ?_ ?_ ?_
  ·rintro fo st₂ ⟨kS,fS,LS,RS,Am,hm,hm2⟩
   have hz2:=LS.size
   dsimp -zeta only [jp]
   clear jp
   refine ZR (kasC_get ?_)
   try dsimp only
   cases hb:(pendingOf st₂).back? with
   | none=>
    refine ZR (kasC_modify (ZU ⟨rfl,kS,fS,LS,lo+fo,rfl,(show lo+fo<=(arrOf st).size by lia),(show t+1<=lo+fo by lia),?_⟩))
    show Runs lt (arrOf st₂) 0 (((pendingOf st₂).push (lo,fo,0)).toList.map pr) (lo+fo)
    rw[Array.toList_push,WK]
    exact Runs.app.mpr ⟨lo,RS,rfl,hm,Am,rfl⟩
   | some x=>
    obtain⟨s1,n1,z1⟩:=x
    try dsimp only
    refine ZR (q96 (λu r st₄ s₄=>s₄=s'/\r=(none,())/\kindOf st₄=κ/\failedOf st₄=none/\Loc (arrOf st) (arrOf st₄) 0 (arrOf st).size/\Runs lt (arrOf st₄) 0 ((pendingOf st₄).toList.map pr) lo/\Asc lt (arrOf st₄) lo fo)
     (λr st₄ s₄=>s₄=s'/\r=(none,())/\kindOf st₄=κ/\failedOf st₄=none/\Loc (arrOf st) (arrOf st₄) 0 (arrOf st).size/\Runs lt (arrOf st₄) 0 ((pendingOf st₄).toList.map pr) lo/\Asc lt (arrOf st₄) lo fo)
     ⟨rfl,rfl,kS,fS,LS,RS,Am⟩ (λ_ _ _ z=>z) ?_ ?_)
    ·rintro u x r st₄ s₄ hu ⟨rfl,rfl,k4,f4,L4,R4,A4⟩
     try dsimp only
     refine ZR (kasC_get ?_)
     try dsimp only
     have hz4:=L4.size
     have stop:kasC (model prog w) A E (pure (ForInStep.done ((none:Option Unit),())):M2 _) (λr st' s'=>match r with
       | .done b'=>s'=s₄/\b'=(none,())/\kindOf st'=κ/\failedOf st'=none/\Loc (arrOf st) (arrOf st') 0 (arrOf st).size/\Runs lt (arrOf st') 0 ((pendingOf st').toList.map pr) lo/\Asc lt (arrOf st') lo fo
       | .yield b'=>s'=s₄/\b'=(none,())/\kindOf st'=κ/\failedOf st'=none/\Loc (arrOf st) (arrOf st') 0 (arrOf st).size/\Runs lt (arrOf st') 0 ((pendingOf st').toList.map pr) lo/\Asc lt (arrOf st') lo fo) st₄ s₄:=ZU ⟨rfl,rfl,k4,f4,L4,R4,A4⟩
     by_cases c5:(pendingOf st₄).size > 1
     ·rw[ZL c5]
      cases h5:(pendingOf st₄)[(pendingOf st₄).size-2]? with
      | none=>exact stop
      | some y=>
       obtain⟨y1,y2,older⟩:=y
       try dsimp only
       split
       ·exact stop
       ·refine ZR (q376 G T k4 f4 (L4.good hp) (show(pendingOf st₄).size-2+1<(pendingOf st₄).size by lia) {} R4 λst₅ k5 f5 _ L5 R5=>?_)
        exact ZU ⟨rfl,rfl,k5,f5,L4.trans (L5.wide (ZG _) {}),R5,A4.same λt g1 _=>L5.item (.inr g1)⟩
     ·rw[ZI c5]
      exact stop
    ·rintro r st₄ s₄ ⟨rfl,rfl,k4,f4,L4,R4,A4⟩
     try dsimp only
     refine ZR (kasC_modify (ZR (kasC_modify (ZU ⟨rfl,k4,f4,L4,lo+fo,rfl,(show lo+fo<=(arrOf st).size by lia),(show t+1<=lo+fo by lia),?_⟩))))
     show Runs lt (arrOf st₄) 0 (((Array.modify (pendingOf st₄) _ _).push (lo,fo,0)).toList.map pr) (lo+fo)
     rw[Array.toList_push,WK,q708]
     ·exact Runs.app.mpr ⟨lo,R4,rfl,hm,A4,rfl⟩
     ·exact λ_=>rfl
  ·intro c J
   have c2:fo<minRun' (arrOf st).size (arrOf st).size 0:=c
   clear_value jp
   refine ZR (kasC_lift (wpAny_rule ?_))
   refine ZR (q523 G T k2 (L12.good hp) (show lo+(min ((arrOf st).size-lo) (minRun' (arrOf st).size (arrOf st).size 0))<=(arrOf st₂).size by lia) (show fo<=(min ((arrOf st).size-lo) (minRun' (arrOf st).size (arrOf st).size 0)) by lia) (show 1<=(min ((arrOf st).size-lo) (minRun' (arrOf st).size (arrOf st).size 0)) by lia) A2 λst₃ S3 L3' A3'=>?_)
   have L3:Loc (arrOf st₂) (arrOf st₃) lo (lo+(min ((arrOf st).size-lo) (minRun' (arrOf st).size (arrOf st).size 0))):=L3'
   have A3:Asc lt (arrOf st₃) lo (min ((arrOf st).size-lo) (minRun' (arrOf st).size (arrOf st).size 0)):=A3'
   have kS:kindOf st₃=κ:=S3.1.trans k2
   have fS:failedOf st₃=none:=S3.2.2.trans f2
   have LS:Loc (arrOf st) (arrOf st₃) 0 (arrOf st).size:=L12.trans (L3.wide (WA _) {})
   have RS:Runs lt (arrOf st₃) 0 ((pendingOf st₃).toList.map pr) lo:=by
    rw[S3.2.1]
    exact R2.same λt _ ht=>L3.item (.inl ht)
   have Am:=A3
   have hm:0<(min ((arrOf st).size-lo) (minRun' (arrOf st).size (arrOf st).size 0)):={}
   refine c_iteF (by simp) ?_
   exact J _ _ ⟨kS,fS,LS,RS,Am,hm,show lo+(min ((arrOf st).size-lo) (minRun' (arrOf st).size (arrOf st).size 0))<=(arrOf st).size by lia⟩
  ·exact λc2=>⟨k2,f2,L12,R2,A2,fo1,{}⟩
 ·rintro r st' s' ⟨rfl,k1,f1,L1,rfl,R1⟩
  try dsimp only
  have hz1:=L1.size
  refine ZR (q96 (λt r st₂ s₂=>s₂=s'/\r=(none,())/\kindOf st₂=κ/\failedOf st₂=none/\Loc (arrOf st) (arrOf st₂) 0 (arrOf st).size/\Runs lt (arrOf st₂) 0 ((pendingOf st₂).toList.map pr) (arrOf st).size/\(pendingOf st₂).size+t<=(arrOf st).size)
   (λr st₂ s₂=>s₂=s'/\r=(none,())/\failedOf st₂=none/\Loc (arrOf st) (arrOf st₂) 0 (arrOf st).size/\Runs lt (arrOf st₂) 0 ((pendingOf st₂).toList.map pr) (arrOf st).size/\(pendingOf st₂).size<=1)
   ⟨rfl,rfl,k1,f1,L1,R1,by have:=R1.le;simp at this;lia⟩ ?_ ?_ ?_)
  ·rintro r st₂ s₂ ⟨e1,e2,e3,e4,e5,e6,e7⟩
   have e7':(pendingOf st₂).size+(arrOf st).size<=(arrOf st).size:=e7
   exact⟨e1,e2,e4,e5,e6,{}⟩
  ·rintro t x r st₂ s₂ ht ⟨rfl,rfl,k2,f2,L2,R2,hs2⟩
   try dsimp only
   refine ZR (kasC_get ?_)
   try dsimp only
   have hz2:=L2.size
   by_cases c1:(pendingOf st₂).size<=1
   ·rw[ZL c1]
    exact ZU ⟨rfl,rfl,f2,L2,R2,c1⟩
   rw[ZI c1]
   refine ZR (q376 G T k2 f2 (L2.good hp) (ite_lt (show(pendingOf st₂).size-2-1+1<(pendingOf st₂).size by lia) (show(pendingOf st₂).size-2+1<(pendingOf st₂).size by lia)) (show(arrOf st).size<=(arrOf st₂).size by lia) R2 λst₅ k5 f5 e5 L5 R5=>?_)
   exact ZU ⟨rfl,rfl,k5,f5,L2.trans (L5.wide (ZG _) W74),R5,{}⟩
  ·rintro r st₂ s₂ ⟨rfl,rfl,f2,L2,R2,hs2⟩
   have hz2:=L2.size
   refine ZU (h st₂ f2 L2.perm ?_)
   rw[hz2]
   cases hl:(pendingOf st₂).toList with
   | nil=>
    rw[hl]at R2
    have z:0=(arrOf st).size:=R2
    exact(W189 z hn hz2 hz1).elim
   | cons y l=>
    have hll:l=[]:=by
     have:(pendingOf st₂).toList.length<=1:=by simpa using hs2
     rw[hl,WX]at this
     exact eq_nil_of_length_eq_zero {}
    rw[hl,hll]at R2
    obtain⟨_,_,A9,e9⟩:=R2
    have e9':0+y.2.1=(arrOf st).size:=e9
    rw[<- e9',Nat.zero_add]
    exact A9
end
end TS
namespace TS
set_option autoImplicit false
open PySem PySem.W PyProof.Rows List
abbrev I3:=Int×Int×Int
section
variable {prog:Program}{w:World}{A:Around}{E:VS}{s:Shared}
def one_lt{a b:Int}{t u:Tok}{Q:Bool->Shared->Prop}(h:Q (decide (a<b)) s):wpAny (model prog w) A (oneLt' false (.int a t) (.int b u)) Q E s:=
 kat_one _ _ (lt_int h)
end
end TS
namespace L2
open PySem PySem.Spec PyProof.Rows List
variable {X:Cx}
def q142(K:Fg)(H:Hp)(y:V)(u:TS.I3):Prop:=∃ a,y = .ref a/\SqT K H a [.int u.1,.int u.2.1,.int u.2.2]
noncomputable def absR:Value->V
 | .ref a=>.ref a
 | _=>.non
theorem q243{α β γ:Type}{R:β->γ->Prop}{f:α->β}{g:α->γ}:∀(l:List α),(∀ v∈l,R (f v) (g v))->Paired R (l.map f) (l.map g)
 | [],_=>.nil
 | x::l,h=>.cons (h x (WC ..)) (q243 l λv hv=>h v (ZX _ hv))
structure M1(X:Cx)(o:Expr)(m:Str)(apos:Pos)(e:Expr)(cpos:Pos):Prop where
 base:attributeBase o m X.env (eval o X.env)=eval o X.env
 few:((backTo cpos (starEach [e] X.env)).all (λx=>!x.1)&&(backToKw cpos (keywordEach [] X.env)).all (λx=>x.1.isSome)
  && decide (([e]:List Expr).length+([]:List Keyword).length+(if([]:List Keyword).isEmpty then 0 else 1)<30))=true
 line:(apos.endLine==cpos.line)=true
 trees:backTo cpos (starEach [e] X.env)=[(false,eval e X.env)]
structure M2(X:Cx)(o:Expr)(m:Str)(apos:Pos)(e f:Expr)(cpos:Pos):Prop where
 base:attributeBase o m X.env (eval o X.env)=eval o X.env
 few:((backTo cpos (starEach [e,f] X.env)).all (λx=>!x.1)&&(backToKw cpos (keywordEach [] X.env)).all (λx=>x.1.isSome)
  && decide (([e,f]:List Expr).length+([]:List Keyword).length+(if([]:List Keyword).isEmpty then 0 else 1)<30))=true
 line:(apos.endLine==cpos.line)=true
 trees:backTo cpos (starEach [e,f] X.env)=[(false,eval e X.env),(false,eval f X.env)]
end L2
namespace TS
set_option autoImplicit false
open PySem PySem.W PyProof.Rows List
abbrev I2:=Int×Int
noncomputable def lex2(a b:I2):Bool:=if a.1=b.1 then decide (a.2<b.2)else decide (a.1<b.1)
def q244{a b:I2}:lex2 a b=false↔(b.1<a.1\/(a.1=b.1/\b.2<=a.2)):=by
 unfold lex2
 split
 ·rw[decide_eq_false_iff_not];lia
 ·rw[decide_eq_false_iff_not];lia
def q709{a b:I2}:lex2 a b=true↔¬(b.1<a.1\/(a.1=b.1/\b.2<=a.2)):=by
 rw[<- q244,Bool.not_eq_false]
def TupI2(h:Heap)(v:Value)(t:I2):Prop:=∃(a:Addr)(o:Obj)(n:Nat)(t1 t2:Tok),v = .ref a/\h.get? a=some o/\o.cls = .type "tuple" /\ o.data = .seq #[.int t.1 t1,.int t.2 t2] n
section
variable {prog:Program}{w:World}{A:Around}{E:VS}{s:Shared}
def cmp2{x y:Value}{t u:I2}{Q:Bool->Shared->Prop}(hx:TupI2 s.heap x t)(hy:TupI2 s.heap y u)(h:Q (lex2 t u) s):wpAny (model prog w) A (keyLt' (tuples' true) x y) Q E s:=by
 obtain⟨a,o,n,t1,t2,rfl,ho,_,hd⟩:=hx
 obtain⟨b,o',n',u1,u2,rfl,ho',_,hd'⟩:=hy
 refine kat_lt ho hd ho' hd' ?_
 unfold lex2 at h
 show KatLex prog w A true _ Q [(_,_),(_,_)] 0 s
 refine kat_cons (wpAny_eqBool_int (kat_go (λe=>kat_yes ?_) (λe=>kat_no ?_)))
 ·rw[ZL (beq_iff_eq.mp e)]at h
  refine kat_cons (wpAny_eqBool_int (kat_go (λe=>kat_yes (kat_nil ?_)) (λe=>kat_no (one_lt h))))
  have e':=beq_iff_eq.mp e
  rw[ZN (W79 e')]at h
  exact h
 ·rw[ZI (λz=>by rw[beq_iff_eq.mpr z]at e;cases e)]at h
  exact oneLt_int h
def good2(ts:Value->I2):Good prog w A E (tuples' true) (λx=>TupI2 s.heap x.1 (ts x.1)) (λx y=>lex2 (ts x.1) (ts y.1)) s:=by
 intro x y st Q hx hy hk hq
 rw[lt'_eq]
 refine ZR (kasC_get (ZR (kasC_lift (wpAny_attempt ?_))))
 rw[hk]
 exact cmp2 (E:=_) hx hy (ZU hq)
def tot2{P:Keyed->Prop}(ts:Value->I2):Tot P (λx y=>lex2 (ts x.1) (ts y.1)):=
 ⟨λx y z _ _ _ h1 h2=>by rw[q244]at h1 h2 ⊢;lia,λx y _ _ h=>by rw[q709]at h;rw[q244];lia⟩
def TupI2.keep{h h':Heap}{v:Value}{t:I2}(k:∀ b o,h.get? b=some o->o.cls = .type "tuple" -> h'.get? b=some o) (z:TupI2 h v t):TupI2 h' v t:=by
 obtain⟨a,o,n,t1,t2,e,ho,hc,hd⟩:=z
 exact⟨a,o,n,t1,t2,e,k a o ho hc,hc,hd⟩
theorem q710{h:Heap}{ts:Value->I2}:∀(vs:List Value),(∀ v∈vs,TupI2 h v (ts v)) -> ∃ fs:List Value,KatTups h vs fs/\fs.length=vs.length /\ ∀ v∈fs,∃ i t,v=Value.int i t
 | [],_=>⟨[],trivial,rfl,λv hv=>absurd hv (by simp)⟩
 | v::vs,hT=>by
  obtain⟨fs,k1,k2,k3⟩:=q710 vs λu hu=>hT u (ZX _ hu)
  obtain⟨a,o,n,t1,t2,rfl,ho,hc,hd⟩:=hT v (WC ..)
  exact⟨_::fs,KatTups.cons ho hc hd (f:=.int (ts (.ref a)).1 t1) rfl k1,by simp[k2],λu hu=>by
   rcases eB hu with e | e
   ·exact⟨_,_,e⟩
   ·exact k3 u e⟩
def q465{a:Addr}{vs:List Value}{n:Nat}{ts:Value->I2}{Q:PySem.Fin->Shared->Prop}(ho:s.heap.get? a=some (seqObj "list" vs.toArray n)) (hT:∀ v∈vs,TupI2 s.heap v (ts v)) (hz:vs.length<=sizeLine)
  (h:∀ out:Array Value,out.toList.Perm vs->(out.toList.Pairwise λx y=>lex2 (ts y) (ts x)=false)->Q (.done (.ret .none)) { s with heap:=sortedHeap s.heap a vs out }):wpAny (model prog w) A (Builtin.«list.sort» ⟨[.ref a],[]⟩) Q E s:=by
 have ha:a<s.heap.objs.size:=ZZ ho
 have hvz:vs.toArray.size=vs.length:=WB ..
 obtain⟨e1,ho1⟩:∃ e1,(s.heap.update a (Obj.mapSeq λ_=>(#[]:Array Value))).get? a=some (seqObj "list" #[] e1):=⟨_,get?_update_seq ho λ_=>#[]⟩
 rw[list_sort_plain]
 refine ZC (listItems_at ho rfl (ZC (listUpdate_at ho rfl ?_ (by rw[hvz];exact hz) (WA _))))
 refine ZC (seqEpoch_at ho1 rfl (ZC (wpAny_newTuple (ZC (wpAny_newList (wpAny_holding ?_) (WA _))) (by show vs.length<=_;exact hz))))
 obtain⟨h6,e6⟩:∃ h6,h6=((s.heap.update a (Obj.mapSeq λ_=>(#[]:Array Value))).push (seqObj "tuple" vs.toArray 0)).push (seqObj "list" #[] 0):=⟨_,rfl⟩
 have ho6:h6.get? a=some (seqObj "list" #[] e1):=by
  rw[e6]
  exact ZH _ (ZH _ ho1)
 have hT6:∀ v∈vs,TupI2 h6 v (ts v):=λv hv=>(hT v hv).keep λb o hb hc=>by
  have nb:b≠a:=λz=>by
   rw[z,ho]at hb
   cases hb
   exact absurd (Value.type.inj hc) ∅
  rw[e6]
  exact ZH _ (ZH _ (((Heap.SameBut.update s.heap a (Obj.mapSeq λ_=>(#[]:Array Value))).2 b nb).trans hb))
 show wpAny (model prog w) A _ Q E { s with heap:=((s.heap.update a (Obj.mapSeq λ_=>(#[]:Array Value))).push (seqObj "tuple" vs.toArray 0)).push (seqObj "list" #[] 0) }
 have hfin:∀ out:Array Value,out.toList.Perm vs->(out.toList.Pairwise λx y=>lex2 (ts y) (ts x)=false)->Q (.done (.ret .none)) { s with heap:=h6.update a (Obj.mapSeq λ_=>out) }:=λout p1 p2=>by
  rw[e6]
  exact h out p1 p2
 rw[<- e6]
 dsimp only
 by_cases h2:vs.toArray.size<2
 ·rw[ZL h2,ZL h2]
  refine ZC (ZP ?_)
  rw[StateT.run_pure]
  refine ZC (ZP ?_)
  dsimp only
  have eo:((arrOf (SortSt.mk' general' (vs.toArray.zip vs.toArray) #[] 7 none)).map (·.2))=vs.toArray:=by
   show(vs.toArray.zip vs.toArray).map (·.2)=vs.toArray
   apply Array.toList_inj.mp
   simp[map_snd_zip]
  rw[eo]
  refine ZC (seqEpoch_at ho6 rfl (ZC (listUpdate_at ho6 rfl ?_ (WA _) (by rw[hvz];lia))))
  simp only[bne_self_eq_false,Bool.false_eq_true,if_false]
  refine ZP (hfin vs.toArray (List.Perm.refl _) ?_)
  match vs,h2 with
  | [],_=>exact .nil
  | [x],_=>exact pairwise_singleton _ _
  | x::y::l,h2=>exact absurd h2 (by simp)
 ·rw[ZI h2,ZI h2]
  obtain⟨fs,k1,k2,k3⟩:=q710 vs hT6
  refine ZC (kat_kind (T:=.type "int") (s:={ s with heap:=h6 }) k1 {} (λv hv=>?_) (by rfl) ?_)
  ·obtain⟨i,t,rfl⟩:=k3 v hv
   exact Looks.of_pure rfl
  have zl:(vs.toArray.zip vs.toArray).toList=vs.zip vs:=by simp
  have pz:∀ x∈(vs.toArray.zip vs.toArray).toList,TupI2 h6 x.1 (ts x.1):=λx hx=>by
   rw[zl]at hx
   exact hT6 _ (mem_zip_self hx).2
  have run:=q464 (prog:=prog) (w:=w) (A:=A) (E:=E) (good2 (s:={ s with heap:=h6 }) ts) (tot2 ts) (Q:=λ_ st' s'=>s' = { s with heap:=h6 }/\failedOf st'=none/\(arrOf st').Perm (vs.toArray.zip vs.toArray)/\Asc (λx y=>lex2 (ts x.1) (ts y.1)) (arrOf st') 0 (arrOf st').size)
   (st:=SortSt.mk' (tuples' true) (vs.toArray.zip vs.toArray) #[] 7 none) rfl rfl rfl pz (by show 1<=(vs.toArray.zip vs.toArray).size;simp;lia) (λst' f1 f2 f3=>⟨rfl,f1,f2,f3⟩)
  refine ZC (YS run ?_ λ_ _ e=>e)
  rintro ⟨⟨⟩,st'⟩ s' ⟨rfl,f1,f2,f3⟩
  dsimp only
  have p0:=Array.perm_iff_toList_perm.mp f2
  rw[zl]at p0
  have osz:((arrOf st').map (·.2)).size=vs.length:=by
   rw[Array.size_map,<- ZY,p0.length_eq]
   simp
  refine ZC (seqEpoch_at ho6 rfl (ZC (listUpdate_at ho6 rfl ?_ (WA _) (ZO (Nat.le_of_eq osz) {}))))
  rw[f1]
  simp only[bne_self_eq_false,Bool.false_eq_true,if_false]
  refine ZP (hfin _ ?_ ?_)
  ·rw[Array.toList_map]
   refine(p0.map _).trans (List.Perm.of_eq ?_)
   exact map_snd_zip (ZG _)
  ·rw[Array.toList_map,pairwise_map]
   have sr:Srt (λx y=>lex2 (ts x.1) (ts y.1)) (arrOf st').toList:=q575 λp q g1 g2=>by
    have:=f3 p q g1 g2
    rw[Nat.zero_add,Nat.zero_add]at this
    exact this
   refine List.Pairwise.imp_of_mem ?_ sr
   intro x y hx hy hxy
   have ex:=(mem_zip_self (p0.mem_iff.mp hx)).1
   have ey:=(mem_zip_self (p0.mem_iff.mp hy)).1
   rw[<- ex,<- ey]
   exact hxy
def TupI2.inj{h:Heap}{v:Value}{t u:I2}(x:TupI2 h v t)(y:TupI2 h v u):t=u:=by
 obtain⟨a,o,n,t1,t2,rfl,ho,_,hd⟩:=x
 obtain⟨b,o',n',u1,u2,e,ho',_,hd'⟩:=y
 cases e
 rw[ho]at ho'
 cases ho'
 rw[hd]at hd'
 have z:=congrArg Array.toList (Data.seq.inj hd').1
 simp only[List.cons.injEq,Value.int.injEq]at z
 exact Prod.ext z.1.1 z.2.1.1
open Classical in
noncomputable def tsOf2(h:Heap)(v:Value):I2:=if q:∃ u,TupI2 h v u then q.choose else(0,0)
def tsOf2_eq{h:Heap}{v:Value}{u:I2}(x:TupI2 h v u):tsOf2 h v=u:=by
 unfold tsOf2
 have q:∃ u,TupI2 h v u:=⟨u,x⟩
 rw[dif_pos q]
 exact q.choose_spec.inj x
end
end TS
namespace TS
set_option autoImplicit false
open PySem
abbrev Up(l:List Nat):Prop:=l.Pairwise (·<·)
def q577{l:List Nat}(h:Up l){i j:Nat}{x y:Nat}(hx:l[i]? = some x)(hy:l[j]? = some y)(q:i<j):x<y:=by
 obtain⟨a,rfl⟩:=eA hx
 obtain⟨b,rfl⟩:=eA hy
 exact List.pairwise_iff_getElem.mp h i j a b q
theorem q711{xs:Array Nat}{j:Nat}(hu:Up xs.toList):∀(f lo hi:Nat),hi<=xs.size->hi-lo<=f->lo<=hi->(∀ i x,xs[i]? = some x->i<lo->x<j)->(∀ i x,xs[i]? = some x->hi<=i->j<=x) ->
  SetTable.below.go xs j f lo hi<=xs.size/\(∀ i x,xs[i]? = some x->i<SetTable.below.go xs j f lo hi->x<j)/\(∀ i x,xs[i]? = some x->SetTable.below.go xs j f lo hi<=i->j<=x)
 | 0,lo,hi,hz,hf,hlh,h1,h2=>by
  have e:lo=hi:={}
  subst e
  exact⟨hz,h1,h2⟩
 | f+1,lo,hi,hz,hf,hlh,h1,h2=>by
  unfold SetTable.below.go
  by_cases q:lo<hi
  ·rw[ZL q]
   dsimp only
   have hm:(lo+hi)/2<xs.size:={}
   have g:xs[(lo+hi)/2]? = some (xs.getD ((lo+hi)/2) j):=by
    rw[WM hm];simp[Array.getD,hm]
   have gl:xs.toList[(lo+hi)/2]? = some (xs.getD ((lo+hi)/2) j):=by rw[WF];exact g
   by_cases q2:xs.getD ((lo+hi)/2) j<j
   ·rw[ZL q2]
    refine q711 hu f _ hi hz {} {} (λi x hx hi'=>?_) h2
    have hx':xs.toList[i]? = some x:=by rw[WF];exact hx
    rcases Nat.lt_or_ge i ((lo+hi)/2)with z | z
    ·exact Nat.lt_trans (q577 hu hx' gl z) q2
    ·have:i=(lo+hi)/2:={}
     subst this
     rw[g]at hx;cases hx;exact q2
   ·rw[ZI q2]
    refine q711 hu f lo _ {} {} {} h1 λi x hx hi'=>?_
    have hx':xs.toList[i]? = some x:=by rw[WF];exact hx
    rcases Nat.lt_or_ge ((lo+hi)/2) i with z | z
    ·exact ZO (Nat.not_lt.mp q2) (Nat.le_of_lt (q577 hu gl hx' z))
    ·have:i=(lo+hi)/2:={}
     subst this
     rw[g]at hx;cases hx;exact Nat.not_lt.mp q2
  ·rw[ZI q]
   have e:lo=hi:=(W41 hlh q)
   subst e
   exact⟨hz,h1,h2⟩
def bel{xs:Array Nat}{j:Nat}(hu:Up xs.toList):SetTable.below xs j<=xs.size/\(∀ i x,xs[i]? = some x->i<SetTable.below xs j->x<j)/\(∀ i x,xs[i]? = some x->SetTable.below xs j<=i->j<=x):=by
 refine q711 hu _ _ _ (ZG _) {} (WA _) (λi x _ h=>absurd h (Nat.not_lt_zero _)) λi x hx h=>?_
 have:=(Array.getElem?_eq_some_iff.mp hx).1
 lia
def bel_next{xs:Array Nat}(hu:Up xs.toList){i x:Nat}(hx:xs[i]? = some x):SetTable.below xs (x+1)=i+1:=by
 obtain⟨b1,b2,b3⟩:=bel (j:=x+1) hu
 have hi:=(Array.getElem?_eq_some_iff.mp hx).1
 rcases Nat.lt_or_ge (SetTable.below xs (x+1)) (i+1)with z | z
 ·exact absurd (b3 i x hx (W144 z)) {}
 ·rcases Nat.lt_or_ge (i+1) (SetTable.below xs (x+1))with z2 | z2
  ·have h1:i+1<xs.size:={}
   have g:xs[i+1]? = some xs[i+1]:=WM h1
   have l1:=b2 (i+1) _ g z2
   have l2:=q577 hu (i:=i) (j:=i+1) (by rw[WF];exact hx) (by rw[WF];exact g) (Nat.lt_succ_self _)
   exact W192 l2 h1 l1
  ·lia
def bel_zero{xs:Array Nat}(hu:Up xs.toList):SetTable.below xs 0=0:=by
 obtain⟨b1,b2,b3⟩:=bel (j:=0) hu
 rcases Nat.eq_zero_or_pos (SetTable.below xs 0)with z | z
 ·exact z
 ·have h0:0<xs.size:={}
  exact absurd (b2 0 _ (WM h0) z) (Nat.not_lt_zero _)
def up_put{xs:Array Nat}{j:Nat}(hu:Up xs.toList)(hn:xs[SetTable.below xs j]?≠some j):Up (SetTable.insertAt xs (SetTable.below xs j) j).toList:=by
 obtain⟨b1,b2,b3⟩:=bel (j:=j) hu
 rw[SetTable.toList_insertAt]
 have lo:∀ y∈xs.toList.take (SetTable.below xs j),y<j:=λy hy=>by
  obtain⟨i,hi⟩:=List.mem_iff_getElem?.mp hy
  rw[List.getElem?_take]at hi
  split at hi
  ·rename_i q
   rw[WF]at hi
   exact b2 i y hi q
  ·cases hi
 have hi:∀ y∈xs.toList.drop (SetTable.below xs j),j<y:=λy hy=>by
  obtain⟨i,hi⟩:=List.mem_iff_getElem?.mp hy
  rw[List.getElem?_drop]at hi
  have hi':xs[SetTable.below xs j+i]? = some y:=by rw[<- WF];exact hi
  have l1:=b3 _ y hi' (Nat.le_add_right _ _)
  rcases Nat.lt_or_ge j y with z | z
  ·exact z
  ·have e:y=j:={}
   subst e
   cases i with
   | zero=>exact absurd hi' hn
   | succ i=>
    have h0:SetTable.below xs y<xs.size:=by
     have:=(Array.getElem?_eq_some_iff.mp hi').1
     lia
    have g:xs[SetTable.below xs y]? = some xs[SetTable.below xs y]:=WM h0
    have l2:=b3 _ _ g (ZG _)
    have l3:=q577 hu (i:=SetTable.below xs y) (j:=SetTable.below xs y+(i+1)) (by rw[WF];exact g) (by rw[WF];exact hi') {}
    lia
 refine List.pairwise_append.mpr ⟨hu.sublist (List.take_sublist _ _),List.pairwise_cons.mpr ⟨hi,hu.sublist (List.drop_sublist _ _)⟩,λa ha b hb=>?_⟩
 rcases eB hb with z | z
 ·rw[z];exact lo a ha
 ·exact Nat.lt_trans (lo a ha) (hi b z)
structure GT(b:Bool)(t:SetTable):Prop where
 led:t.led=b
 up:t.plain=true->Up t.place.toList
def GT.fresh(b:Bool):GT b (.fresh 0 0 b):=⟨rfl,λ_=>.nil⟩
def GT.standIn{b:Bool}{t:SetTable}(h:GT b t)(n:Nat):GT b (t.standIn n):=⟨h.led,λz=>by cases z⟩
def GT.off{b:Bool}{t:SetTable}(h:GT b t):GT b { t with plain:=false }:=⟨h.led,λz=>by cases z⟩
def GT.orStandIn{b:Bool}{t:SetTable}(h:GT b t)(n:Nat):GT b (t.orStandIn n):=by
 unfold SetTable.orStandIn
 split
 ·exact h
 ·exact h.standIn n
theorem q245{t:SetTable}{ha:Nat->Int}{h:Int}:∀(f:Nat)(p:SetTable.Probe)(j:Nat)(d:Option Nat),(∀ x,p.dummy=some x->t.place[SetTable.below t.place x]?≠some x)->SetTable.probe.go t ha h f p=some (.empty j d) ->
  t.place[SetTable.below t.place (d.getD j)]?≠some (d.getD j)
 | 0,_,_,_,_,e=>by simp[SetTable.probe.go]at e
 | f+1,p,j,d,hp,e=>by
  unfold SetTable.probe.go at e
  have adv:∀ q:SetTable.Probe,(t.advance q).dummy=q.dummy:=λq=>by
   unfold SetTable.advance
   split <;> rfl
  cases hs:t.slot p.j with
  | empty=>
   rw[hs]at e
   cases e
   have hl:t.place[SetTable.below t.place p.j]?≠some p.j:=λz=>by
    unfold SetTable.slot at hs
    simp[z]at hs
   cases hd:p.dummy with
   | none=>exact hl
   | some x=>exact hp x hd
  | dummy=>
   rw[hs]at e
   refine q245 f _ j d (λx hx=>?_) e
   rw[adv]at hx
   cases hx
   intro z
   unfold SetTable.slot at hs
   simp[z]at hs
  | live i=>
   rw[hs]at e
   dsimp only at e
   split at e
   ·cases e
   ·refine q245 f _ j d (λx hx=>?_) e
    rw[adv]at hx
    exact hp x hx
def GT.layNew{b:Bool}{t:SetTable}(g:GT b t)(es:Array (Int×Value))(h:Int)(x:Value):GT b (layNew t es h x).2.1:=by
 unfold PySem.layNew
 split
 ·rename_i slot wd e
  dsimp only
  refine GT.orStandIn (t:=(t.put slot).1) ⟨g.led,λz=>?_⟩ _
  show Up (SetTable.insertAt t.place (SetTable.below t.place slot) slot).toList
  refine up_put (g.up z) ?_
  unfold SetTable.freeSlot at e
  split at e
  ·rename_i j d ep
   cases e
   exact q245 _ _ j d (λx hx=>by cases hx) ep
  ·cases e
 ·exact g.standIn _
theorem q712:∀(f:Nat->Option Nat)(l:List Nat),Up l->Up ((l.filterMap λj=>(f j).map (j,·)).map (·.1))
 | _,[],_=>.nil
 | f,j::l,h=>by
  obtain⟨h1,h2⟩:=List.pairwise_cons.mp h
  have ih:=q712 f l h2
  rw[List.filterMap_cons]
  cases hf:f j with
  | none=>exact ih
  | some k=>
   dsimp only [Option.map]
   rw[List.map_cons]
   refine List.pairwise_cons.mpr ⟨λy hy=>?_,ih⟩
   obtain⟨⟨y1,y2⟩,hq,rfl⟩:=eE hy
   obtain⟨z,hz,hz'⟩:=List.mem_filterMap.mp hq
   cases hfz:f z with
   | none=>rw[hfz]at hz';cases hz'
   | some k'=>rw[hfz]at hz';cases hz';exact h1 _ hz
theorem GT.relayAll{b:Bool}{t:SetTable}(g:GT b t)(es:Array (Int×Value))(n:Nat):GT b (relayAll t es n).2.1:=by
 unfold PySem.relayAll
 split
 ·rename_i t' order e
  dsimp only
  split
  ·unfold SetTable.relaid SetTable.laid at e
   cases hc:SetTable.layClean (SetTable.sizeAbove n-1) (es.map (·.1)) with
   | none=>rw[hc]at e;cases e
   | some ow=>
    rw[hc]at e
    cases e
    refine⟨g.led,λ_=>?_⟩
    show Up (List.toArray _).toList
    rw[List.toList_toArray]
    exact q712 (λj=>ow.getD j none) _ List.pairwise_lt_range
  ·exact g.standIn _
 ·exact g.standIn _
end TS
namespace TS
set_option autoImplicit false
open PySem
noncomputable def stD(ks:List Int)(k:Int):List Int:=if ks.any (·==k)then ks else ks++[k]
noncomputable def byT(w:World):Bool:=w.params.followText "set-order"
noncomputable def kOf:Value->Int
 | .int k _=>k
 | _=>0
def AllI(vs:List Value):Prop:=∀ v∈vs,∃ k t,v=Value.int k t
structure SetS(prog:Program)(w:World)(o:Obj)(es:Array (Int×Value))(ep:Nat)(t:SetTable)(ks:List Int):Prop where
 ex:o.ExactSet
 dat:o.data = .set es ep t
 el:ElemsOf (intKind prog w) es.toList
 few:es.size<scanBound
 fit:t.fits es.size=true
 gt:GT (!(byT w)) t
 pm:(es.toList.map λe=>kOf e.2).Perm ks
 nd:ks.Nodup
def SetI(prog:Program)(w:World)(h:Heap)(a:Addr)(ks:List Int):Prop:=∃ o es ep t,h.get? a=some o/\SetS prog w o es ep t ks
def iki(prog:Program)(w:World)(k:Int)(t:Tok):(intKind prog w).is k (.int k t)=true:=by simp[intKind,Value.isInt]
section
variable {prog:Program}{w:World}{A:Around}{E:VS}{s:Shared}
def el_int{es:List (Int×Value)}(h:ElemsOf (intKind prog w) es){e:Int×Value}(he:e∈es):∃ t,e.2 = .int (kOf e.2) t:=by
 obtain⟨⟨k,hk,_⟩,_⟩:=h e he
 obtain⟨t,ht⟩:=Value.isInt_shape hk
 exact⟨t,by rw[ht];rfl⟩
def is_kOf{es:List (Int×Value)}(h:ElemsOf (intKind prog w) es){e:Int×Value}(he:e∈es)(k:Int):(intKind prog w).is k e.2=decide (k=kOf e.2):=by
 obtain⟨t,ht⟩:=el_int h he
 exact KeyKind.is_eq_decide (knd:=intKind prog w) (k:=kOf e.2) (by rw[ht];exact iki _ _ _ _) k
def q377{h:Heap}{a:Addr}{o:Obj}{es es':Array (Int×Value)}{ep:Nat}{t t':SetTable}(ho:h.get? a=some o)(hd:o.data = .set es ep t) :
  (h.update a (Obj.putSet es' t')).get? a=some { o with data:=.set es' (ep+1) t' }:=by
 have z:=Heap.get?_update_self (Obj.putSet es' t') ho (by rw[putSet_of es' t' hd];rfl)
 rwa [putSet_of es' t' hd]at z
def q578{g:Bool->Sem Unit}(hg:∀(b:Bool)(s₁:Shared)(Q':Unit->Shared->Prop),Q' () s₁->wpAny (model prog w) A (g b) Q' E s₁){b:Bool}{a:Addr}{o:Obj}{es es1:Array (Int×Value)}{ep:Nat}{t t2:SetTable}
  (ho:s.heap.get? a=some o) (hd:o.data = .set es ep t) (f1:es1.size<scanBound) (f2:t2.fits es1.size=true) (f3:GT b t2) {wd:Bool} {R:Option Bool->Shared->Prop}
  (h:∀ h' es' ep' t',Heap.SameBut a s.heap h'->h'.get? a=some { o with data:=.set es' ep' t' }->es'.toList.Perm es1.toList->t'.fits es'.size=true->GT b t'->R (some true) { s with heap:=h' }) :
  wpAny (model prog w) A (storeSet a es1 t2 >>= λ_=>if(!wd&&t2.tooFull)=true then(g (relayAll t2 es1 (SetTable.grown es1.size)).2.2 >>= λ_=>
   storeSet a (relayAll t2 es1 (SetTable.grown es1.size)).1 (relayAll t2 es1 (SetTable.grown es1.size)).2.1 >>= λ_=>pure (some true))else pure (some true)) R E s:=by
 refine ZC (wpAny_storeSet_of ho hd ?_ (fits_of_scanBound f1))
 have ho1:=q377 (es':=es1) (t':=t2) ho hd
 have sb:=Heap.SameBut.update s.heap a (Obj.putSet es1 t2)
 split
 ·have hp:=relayAll_perm t2 es1 (SetTable.grown es1.size)
  have hf:=relayAll_fits t2 es1 (SetTable.grown es1.size)
  have hG:=f3.relayAll es1 (SetTable.grown es1.size)
  generalize relayAll t2 es1 (SetTable.grown es1.size)=r at hp hf hG ⊢
  obtain⟨es2,t3,gv⟩:=r
  dsimp only at hp hf hG ⊢
  have hsz:es2.size=es1.size:=by rw[<- ZY,hp.length_eq,ZY]
  refine ZC (hg _ _ _ (ZC (wpAny_storeSet_of ho1 rfl ?_ (fits_of_scanBound (by rw[hsz];exact f1)))))
  exact ZP (h _ es2 _ t3 (sb.trans (Heap.SameBut.update _ a _)) (q377 (o:={ o with data:=.set es1 (ep+1) t2 }) ho1 rfl) hp hf hG)
 ·exact ZP (h _ es1 _ t2 sb ho1 (List.Perm.refl _) f2 f3)
theorem set_add{a:Addr}{ks:List Int}{k:Int}{tk:Tok}{Q:Shared->Prop}(hS:SetI prog w s.heap a ks)(hr:ks.length+1<scanBound)
  (h:∀ h',Heap.SameBut a s.heap h'->SetI prog w h' a (stD ks k)->Q { s with heap:=h' }):wpAny (model prog w) A (setAddHashed a (.int k tk) ((intKind prog w).hash k)) (λ_ s'=>Q s') E s:=by
 obtain⟨o,es,ep,t,ho,hs⟩:=hS
 have hkey:(intKind prog w).is k (.int k tk)=true:=iki _ _ _ _
 have hlen:es.size=ks.length:=by rw[<- hs.pm.length_eq,List.length_map,ZY]
 unfold setAddHashed;unfold setAddHashedIn
 refine wpAny_holding (ZC (wpAny_setState_of ho hs.dat hs.fit ?_));dsimp only
 rw[byScan_of (knd:=intKind prog w) rfl hs.few hs.el,ZL rfl]
 unfold setAddByScan
 refine ZC (ZC (wpAny_rule (ZC (wpAny_setScan_of hkey ho hs.dat hs.fit hs.el ?_))))
 have any_iff:ks.any (·==k)=true↔∃ e∈es.toList,(intKind prog w).is k e.2=true:=by
  rw[List.any_eq_true]
  constructor
  ·rintro ⟨x,hx,e⟩
   obtain⟨e',he',rfl⟩:=eE (hs.pm.mem_iff.mpr hx)
   exact⟨e',he',by rw[is_kOf hs.el he',ZA (beq_iff_eq.mp e).symm]⟩
  ·rintro ⟨e,he,hk⟩
   rw[is_kOf hs.el he,ZW]at hk
   exact⟨k,hs.pm.mem_iff.mp (List.mem_map.mpr ⟨e,he,hk.symm⟩),beq_self_eq_true _⟩
 cases hf:List.findIdx? (λe=>(intKind prog w).is k e.2) es.toList with
 | some j=>
  obtain⟨hj,hp,_⟩:=List.findIdx?_eq_some_iff_getElem.mp hf
  have hin:=any_iff.mpr ⟨es.toList[j],List.getElem_mem hj,hp⟩
  refine ZP (ZP ?_)
  have z:=h s.heap (Heap.SameBut.refl a s.heap) (by unfold stD;rw[ZL hin];exact⟨o,es,ep,t,ho,hs⟩)
  cases s
  exact z
 | none=>
  have hout:¬ ks.any (·==k)=true:=λz=>by
   obtain⟨e,he,hk⟩:=any_iff.mp z
   have:=List.findIdx?_eq_none_iff.mp hf e he
   rw[hk]at this
   cases this
  dsimp only
  have gw:∀(b:Bool){s₁:Shared}{Q':Unit->Shared->Prop},Q' () s₁->wpAny (model prog w) A (match b with | true=>rule "set.scan.the-table-gave-way" | false=>pure ()) Q' E s₁:=λb s₁ Q' hq=>by cases b <;> first | exact ZP hq | exact wpAny_rule hq
  have p1:=layNew_perm t es ((intKind prog w).hash k) (.int k tk)
  have p2:=layNew_fits t es ((intKind prog w).hash k) (.int k tk)
  have p3:=hs.gt.layNew es ((intKind prog w).hash k) (.int k tk)
  generalize layNew t es ((intKind prog w).hash k) (.int k tk)=L at p1 p2 p3 ⊢
  obtain⟨es1,t1,wd,gv⟩:=L
  dsimp only at p1 p2 p3 ⊢
  rw[Array.toList_push]at p1
  have el1:ElemsOf (intKind prog w) es1.toList:=(hs.el.push hkey rfl).perm p1
  have n1:es1.size=es.size+1:=by rw[<- ZY,p1.length_eq,List.length_append,ZY];rfl
  have fin:∀ h' es' ep' t',Heap.SameBut a s.heap h'->h'.get? a=some { o with data:=.set es' ep' t' }->es'.toList.Perm es1.toList->t'.fits es'.size=true->GT (!(byT w)) t'->Q { s with heap:=h' }:=λh' es' ep' t' e1 e2 e3 e4 e5=>by
   have n2:es'.size=es1.size:=by rw[<- ZY,e3.length_eq,ZY]
   refine h h' e1 ⟨_,es',ep',t',e2,hs.ex,rfl,el1.perm e3,{},e4,e5,?_,?_⟩
   ·unfold stD
    rw[ZI hout]
    refine(e3.map _).trans ((p1.map _).trans ?_)
    rw[List.map_append]
    exact hs.pm.append_right _
   ·unfold stD
    rw[ZI hout]
    refine List.nodup_append.mpr ⟨hs.nd,by simp,λx hx y hy e=>hout ?_⟩
    rw[List.mem_singleton]at hy
    exact List.any_eq_true.mpr ⟨x,hx,by rw[e,hy];exact beq_self_eq_true _⟩
  refine ZC (gw _ ?_)
  split
  ·refine ZC ?_
   rw[hashByValue_scannable 8 (x:=Value.int k tk) rfl]
   refine ZP (q578 ?_ ho hs.dat {} ?_ ?_ λh' es' ep' t' e1 e2 e3 e4 e5=>ZP (fin h' es' ep' t' e1 e2 e3 e4 e5))
   ·intro b s₁ Q' hq;cases b <;> first | exact ZP hq | exact wpAny_rule hq
   ·split
    ·exact p2
    ·exact SetTable.fits_plain_off p2
   ·split
    ·exact p3
    ·exact p3.off
  ·refine ZC (ZP ?_)
   rw[ZL rfl]
   refine q578 ?_ ho hs.dat {} p2 p3 λh' es' ep' t' e1 e2 e3 e4 e5=>ZP (fin h' es' ep' t' e1 e2 e3 e4 e5)
   intro b s₁ Q' hq;cases b <;> first | exact ZP hq | exact wpAny_rule hq
end
end TS
namespace TS
set_option autoImplicit false
open PySem
def q312:Slot "set" "__iter__" "set.__iter__" :=
 .of (owner := "set") (n := "__iter__") (by rw[typeLookup_type,builtinLookup_eq_fast];kernel_rfl) (by decide +kernel) (by decide +kernel) (by decide +kernel)
  (by first | exact .inl (by decide +kernel) | exact .inr (by decide +kernel)) (by rw[isSubtype_type];kernel_rfl)
def q466:entryFor table "set.__iter__" = some Builtin.«frozenset.__iter__»:=entryFor_alias (id' := "frozenset.__iter__") (by kernel_rfl) rfl (by decide +kernel) (by kernel_rfl)
def owner_s:Manifest.owners.lookup (String.ofList ['t','e','s'].reverse)=some Manifest.sig_set:=by kernel_rfl
def q524(a:Value):argsOk "set.__iter__" ⟨[a],[]⟩:=by
 unfold argsOk;rw[signature?_of (id := "set.__iter__") (n:=['_','_','r','e','t','i','_','_']) (o:=['t','e','s']) (by kernel_rfl) owner_s];kernel_rfl
def q85:Slot "set_iterator" "__next__" "set_iterator.__next__" :=
 .of (owner := "set_iterator") (n := "__next__") (by rw[typeLookup_type,builtinLookup_eq_fast];kernel_rfl) (by decide +kernel) (by decide +kernel) (by decide +kernel)
  (by first | exact .inl (by decide +kernel) | exact .inr (by decide +kernel)) (by rw[isSubtype_type];kernel_rfl)
def q416:entryFor table "set_iterator.__next__" = some Builtin.«set_iterator.__next__»:=entryFor_of_tree (by kernel_rfl)
def q579:Manifest.owners.lookup (String.ofList ['r','o','t','a','r','e','t','i','_','t','e','s'].reverse)=some Manifest.sig_set_iterator:=by kernel_rfl
def q467(a:Value):argsOk "set_iterator.__next__" ⟨[a],[]⟩:=by
 unfold argsOk;rw[signature?_of (id := "set_iterator.__next__") (n:=['_','_','t','x','e','n','_','_']) (o:=['r','o','t','a','r','e','t','i','_','t','e','s']) (by kernel_rfl) q579];kernel_rfl
def q264:Slot "set_iterator" "__iter__" "set_iterator.__iter__" :=
 .of (owner := "set_iterator") (n := "__iter__") (by rw[typeLookup_type,builtinLookup_eq_fast];kernel_rfl) (by decide +kernel) (by decide +kernel) (by decide +kernel)
  (by first | exact .inl (by decide +kernel) | exact .inr (by decide +kernel)) (by rw[isSubtype_type];kernel_rfl)
theorem q417{α:Type}:∀(l:List α)(i:Nat)(h:i<l.length),(l[i]::l.eraseIdx i).Perm l
 | x::l,0,_=>List.Perm.refl _
 | x::l,i+1,h=>by
  show(l[i]'(by simpa using h)::x::l.eraseIdx i).Perm (x::l)
  exact(List.Perm.swap _ _ _).trans (List.Perm.cons _ (q417 l i (by simpa using h)))
theorem q713{α:Type}(nx:Nat->Nat):∀(f k:Nat)(l:List α)(out:Array α),l.length=f->(pickOrder.go nx f k l out).toList.Perm (out.toList++l)
 | 0,_,l,out,h=>by
  have:l=[]:=List.length_eq_zero_iff.mp h
  subst this
  simp[pickOrder.go]
 | f+1,k,l,out,h=>by
  unfold pickOrder.go
  have hlt:nx k%l.length<l.length:=Nat.mod_lt _ {}
  rw[List.getElem?_eq_getElem hlt]
  dsimp only
  refine(q713 nx f (k+1) _ _ (by rw[List.length_eraseIdx,ZL hlt,h];rfl)).trans ?_
  rw[Array.toList_push,List.append_assoc]
  exact List.Perm.append_left _ (q417 _ _ hlt)
def q714{α:Type}(nx:Nat->Nat)(xs:Array α):(pickOrder nx xs).toList.Perm xs.toList:=by
 have z:=q713 nx xs.size 0 xs.toList #[] (by simp)
 simpa [pickOrder] using z
section
variable {prog:Program}{w:World}{A:Around}{E:VS}{s:Shared}
theorem q468{α:Type}:∀(n:Nat)(xs:List α){s:Shared}{Q:List α->Shared->Prop},xs.length=n->(∀ l d,l.Perm xs->Q l { s with drawn:=d })->wpAny (model prog w) A (drawOrder n xs) Q E s
 | 0,xs,s,Q,h,hq=>by
  have:xs=[]:=List.length_eq_zero_iff.mp h
  subst this
  exact ZP (hq [] s.drawn (List.Perm.refl _))
 | n+1,[],s,Q,h,hq=>by cases h
 | n+1,x::xs,s,Q,h,hq=>by
  unfold drawOrder
  refine ZC (m:=choose Source.order (x::xs).length) (λΓ p hΓ=>?_)
  show Sem.wp _ Γ (.choose _ _ _) _ _ p s
  rw[Sem.wp_choose]
  exists by simp
  rw[Sem.wp_pure]
  generalize hd:({ s with drawn:=_ }:Shared)=s1
  have hlt:(model prog w).w.draws Source.order (s.drawn.get Source.order)%(x::xs).length<(x::xs).length:=Nat.mod_lt _ (by simp)
  generalize (model prog w).w.draws Source.order (s.drawn.get Source.order)%(x::xs).length=i at hlt
  rw[List.getElem?_eq_getElem hlt]
  dsimp only
  refine ZC (q468 n _ (by rw[List.length_eraseIdx,ZL hlt,h];rfl) λl d p=>?_)
  subst hd
  exact ZP (hq _ d ((List.Perm.cons _ p).trans (q417 _ _ hlt)))
def q313{α:Type}(hh:A.handled=none){Q:α->Shared->Prop}{E':VS}(h:∀(h':Heap)(e:Addr),(∀ b o,s.heap.get? b=some o->h'.get? b=some o)->(∃ o,h'.get? e=some o/\o.cls = .type "StopIteration")->E' (.ref e) { s with heap:=h' }) :
  wpAny (model prog w) A ((newExc (.type "StopIteration") [] >>= λe=>raiseNew e):Sem α) Q E' s:=by
 refine ZC ?_
 simp only[newExc,newTuple]
 refine ZC (YY ?_ (by size_fits))
 refine ZC (m:=firstArgMember _ _) (wpAny_of_eq (a:=Value.none) (by first | rfl | (simp only[firstArgMember];rfl)) ?_)
 refine YY ?_ (by size_fits)
 simp only[raiseNew]
 refine ZC (wpAny_handled ?_)
 rw[hh]
 exact ZC (ZP (wpAny_throw (h _ _ (λb o e=>ZH _ (ZH _ e)) ⟨_,ZV _ rfl,rfl⟩)))
noncomputable abbrev itObj(first:Value)(i:Nat)(S:Addr)(n ep:Nat):Obj:={ cls:=.type "set_iterator", dict:=none,data:=.fields #[first,rawInt i,.ref S,rawInt n,rawInt ep],slots:=#[] }
def q525{Q:Bool->Shared->Prop}(h:Q (byT w) s):wpAny (model prog w) A setsByText Q E s:=by
 unfold setsByText
 exact ZC (wpAny_askSetting (ZP h))
variable{S I:Addr}{o:Obj}{es:Array (Int×Value)}{ep:Nat}{t:SetTable}{ks:List Int}
noncomputable def ordN(w:World)(S:Addr)(ep:Nat)(es:Array (Int×Value)):Array (Int×Value):=if byT w then pickOrder (w.params.setOrder S ep) es else es
def q208:(ordN w S ep es).toList.Perm es.toList:=by
 unfold ordN
 split
 ·exact q714 _ _
 ·exact List.Perm.refl _
noncomputable def slotN(w:World)(t:SetTable):Nat->Nat
 | 0=>0
 | i+1=>if byT w then 0 else t.place.getD i 0+1
noncomputable def q287(w:World)(es:Array (Int×Value))(t:SetTable):Prop:=byT w=true\/t.plain=true\/es.size<=1
def q580{i:Nat}{Q:Option (Value×Nat)->Shared->Prop}(ho:s.heap.get? S=some o)(hs:SetS prog w o es ep t ks)(nd:q287 w es t)(hi:i<=es.size)(h:Q (((ordN w S ep es)[i]?).map λe=>(e.2,slotN w t (i+1))) s) :
  wpAny (model prog w) A (setNext S (slotN w t i) i ep) Q E s:=by
 unfold setNext
 refine ZC (wpAny_setState_of ho hs.dat hs.fit ?_)
 dsimp only
 refine ZC (q525 ?_)
 by_cases hb:byT w=true
 ·rw[ZL hb,ZI (by simp)]
  refine ZC ?_
  unfold setWalk
  refine ZC (wpAny_setState_of ho hs.dat hs.fit (ZC (q525 ?_)))
  rw[ZL hb]
  refine ZC (wpAny_askSetting (ZP (ZP ?_)))
  have e1:ordN w S ep es=pickOrder (w.params.setOrder S ep) es:=ZL hb
  have e2:slotN w t (i+1)=0:=ZL hb
  have e3:slotN w t i=0:=by cases i with | zero=>rfl | succ i=>exact ZL hb
  rw[e1,e2]at h
  rw[e3]
  exact h
 ·rw[ZI hb]
  have e1:ordN w S ep es=es:=ZI hb
  have e2:slotN w t (i+1)=t.place.getD i 0+1:=ZI hb
  have led:t.led=true:=by rw[hs.gt.led];simpa using hb
  have psz:t.place.size=es.size:=by
   have z:=hs.fit
   simp only[SetTable.fits,WO,beq_iff_eq]at z
   exact z.1
  rw[e1,e2]at h
  split
  ·rename_i hd
   have hd':(!t.plain&&decide (es.size > 1))=true:=hd
   rcases nd with z | z | z
   ·exact absurd z hb
   ·rw[z]at hd';cases hd'
   ·rw[ZN {},YJ]at hd';cases hd'
  ·refine ZC ?_
   show wpAny _ _ (if(!t.led&&!es.isEmpty)=true then unsupported "set:maker-not-led" else pure ()) _ _ _
   rw[led,ZI (by simp)]
   refine ZP (ZP ?_)
   have hu:Up t.place.toList:=by
    rcases nd with z | z | z
    ·exact absurd z hb
    ·exact hs.gt.up z
    ·match hl:t.place.toList,(show t.place.toList.length<=1 by rw[ZY,psz];exact z) with
     | [],_=>exact .nil
     | [x],_=>exact List.pairwise_singleton _ _
   have bz:∀ j,j<=es.size->SetTable.below t.place (slotN w t j)=j:=λj hj=>by
    cases j with
    | zero=>exact bel_zero hu
    | succ j=>
     have q:j<t.place.size:={}
     rw[show slotN w t (j+1)=t.place[j]+1 by rw[show slotN w t (j+1)=t.place.getD j 0+1 from ZI hb];simp[Array.getD,q]]
     exact bel_next hu (WM q)
   by_cases q:i<es.size
   ·rw[bz i {},WM q,WM (show i<t.place.size by exact W55 q psz)]
    rw[WM q]at h
    have e3:t.place.getD i 0=t.place[i]'{}:=by simp[Array.getD,show i<t.place.size by lia]
    rw[e3]at h
    exact h
   ·rw[Array.getElem?_eq_none {}]at h
    rw[bz i hi,Array.getElem?_eq_none {}]
    exact h
end
end TS
namespace TS
set_option autoImplicit false
open PySem
section
variable {prog:Program}{w:World}{A:Around}{E:VS}{s:Shared}{S I T:Addr}{o:Obj}{es:Array (Int×Value)}{ep:Nat}{t:SetTable}{ks:List Int}
def q715{first:Value}{i n:Nat}{Q:VS}(hI:s.heap.get? I=some (itObj first i S n ep))(h:Q (.ref I) s):wpAny (model prog w) A (pyIter (.ref I)) Q E s:=by
 have hT:s.TypeIs (.ref I) "set_iterator" := ⟨_,hI,rfl⟩
 refine wpAny_pyIter_slot hT q264 (wpAny_call_entry (b:=Builtin.«dict_keyiterator.__iter__») q264 hT (entryFor_alias (id' := "dict_keyiterator.__iter__") (by kernel_rfl) rfl (by decide +kernel) (by kernel_rfl)) ?_ ?_)
 ·exact ZP ⟨_,rfl, "set_iterator", _,hT,q85.lookup,h⟩
 ·unfold argsOk;rw[signature?_of (id := "set_iterator.__iter__") (n:=['_','_','r','e','t','i','_','_']) (o:=['r','o','t','a','r','e','t','i','_','t','e','s']) (by kernel_rfl) q579];kernel_rfl
def q418{first:Value}{i:Nat}{Q:Option Value->Shared->Prop}(ho:s.heap.get? S=some o)(hs:SetS prog w o es ep t ks)(hI:s.heap.get? I=some (itObj first i S es.size ep))
  (hN:∀ Q':PySem.Fin->Shared->Prop,∀ E':VS,(∀ v s',Q (some v) s'->Q' (.done (.ret v)) s')->(∀ e h',(∀ b u,b≠I->s.heap.get? b=some u->h'.get? b=some u)->(∃ u,h'.get? e=some u/\u.cls = .type "StopIteration")->Q none { s with heap:=h' }->E' (.ref e) { s with heap:=h' }) ->
   wpAny (model prog w) A.in1 (if let .int slot _:=first then(do
    match <- setNext S slot.toNat i ep with
    | some (x,next)=>
     setField (.ref I) 0 (rawInt next)
     setField (.ref I) 1 (rawInt (i+1))
     ret x
    | none=>setField (.ref I) 2 .none;raiseNew (<- newExc (.type "StopIteration") [])) else(do
    let some places <- seqItems? first | unsupported "internal:set_iterator"
    match places[i]? with
    | some (.int place _)=>
     let x <- setNextDrawn S place.toNat ep
     setField (.ref I) 1 (rawInt (i+1))
     ret x
    | some _=>unsupported "internal:set_iterator"
    | none=>setField (.ref I) 0 (rawInt 0);setField (.ref I) 2 .none;raiseNew (<- newExc (.type "StopIteration") []))) Q' E' s):wpAny (model prog w) A (pyNext (.ref I)) Q E s:=by
 have hT:s.TypeIs (.ref I) "set_iterator" := ⟨_,hI,rfl⟩
 unfold pyNext
 refine ZC (wpAny_attempt (wpAny_callSpecial?_slot (name:=Str.ofString "__next__") hT q85
  (wpAny_call_entry q85 hT q416 ?_ (q467 _))))
 show wpAny _ _ (fieldsOf (.ref I) >>= _) _ _ s
 refine ZC (wpAny_fieldsOf hI rfl ?_)
 show wpAny _ _ (setEntries S >>= _) _ _ s
 refine ZC (wpAny_setEntries_of ho hs.dat hs.fit ?_)
 rw[ZI (by simp)]
 refine YS (hN _ _ (λv s' hq=>⟨_,rfl,ZP hq⟩) λe h' hk he hq=>?_) (λ_ _ q=>q) λ_ _ q=>q
 obtain⟨u,hu,hc⟩:=he
 exact ZC (wpAny_isInstance (T := "StopIteration") (b:=true) ⟨u,hu,hc⟩ isSubtype_stop (ZP hq))
def q62{a:Addr}{h h':Heap}(x:Heap.SameBut a h h'):∀ b u,b≠a->h.get? b=some u->h'.get? b=some u:=λb u hb e=>(x.2 b hb).trans e
def walk_n(hh:A.handled=none)(hne:S≠I)(hs:SetS prog w o es ep t ks)(nd:q287 w es t) :
  Walks prog w A I [I,S] [I] es.size (λi v=>((ordN w S ep es).toList.map (·.2))[i]? = some v) (λi h=>h.get? I=some (itObj (rawInt (slotN w t i)) i S es.size ep)/\h.get? S=some o) where
 sub:=λb hb=>by simp at hb;simp[hb]
 frame:=λi h h' st hk=>⟨hk I (by simp) _ st.1,hk S (by simp) _ st.2⟩
 item:=λi s Q E hi st hQ=>by
  have hlt:i<(ordN w S ep es).size:=by
   rw[<- ZY,q208.length_eq,ZY]
   exact hi
  refine q418 st.2 hs st.1 λQ' E' f1 f2=>?_
  refine ZC (q580 (i:=i) (E:=E') st.2 hs nd (Nat.le_of_lt hi) ?_)
  rw[WM hlt]
  dsimp only [Option.map]
  refine ZC (wpAny_setField_rec st.1 (by simp) λh1 g1 k1=>?_)
  refine ZC (wpAny_setField_rec (s:={ s with heap:=h1 }) g1 (by simp) λh2 g2 k2=>?_)
  refine ZP (f1 _ _ (hQ _ h2 s.toks ?_ ⟨?_,?_⟩ ?_))
  ·rw[List.getElem?_map,WF,WM hlt]
   rfl
  ·exact g2
  ·exact q62 k2 S _ hne (q62 k1 S _ hne st.2)
  ·exact λb u hb e=>q62 k2 b u (λz=>hb (by simp[z])) (q62 k1 b u (λz=>hb (by simp[z])) e)
 done:=λs Q E st hQ=>by
  refine q418 st.2 hs st.1 λQ' E' f1 f2=>?_
  refine ZC (q580 (i:=es.size) (E:=E') st.2 hs nd (ZG _) ?_)
  rw[Array.getElem?_eq_none (by rw[<- ZY,q208.length_eq,ZY];exact ZG _)]
  dsimp only [Option.map]
  refine ZC (wpAny_setField_rec st.1 (by simp) λh1 g1 k1=>?_)
  refine q313 (A:=A.in1) (show A.in1.handled=none from hh) λh' e g he=>?_
  have kk:∀ b u,b≠I->s.heap.get? b=some u->h'.get? b=some u:=λb u hb z=>g b u (q62 k1 b u hb z)
  exact f2 e h' kk he (hQ h' s.toks λb u hb z=>kk b u (λq=>hb (by simp[q])) z)
 self:=λi s Q E st hQ=>q715 st.1 hQ
def walk_d(hh:A.handled=none)(hne:S≠I)(hnt:T≠I){ps:List Nat}{u:Obj}(hs:SetS prog w o es ep t ks)(hp:ps.Perm (List.range es.size))(hu:u.data = .seq (ps.map λ(i:Nat)=>rawInt i).toArray 0) :
  Walks prog w A I [I,S,T] [I] es.size (λi v=>(ps.filterMap λp=>(es[p]?).map (·.2))[i]? = some v) (λi h=>h.get? I=some (itObj (.ref T) i S es.size ep)/\h.get? S=some o/\h.get? T=some u) where
 sub:=λb hb=>by simp at hb;simp[hb]
 frame:=λi h h' st hk=>⟨hk I (by simp) _ st.1,hk S (by simp) _ st.2.1,hk T (by simp) _ st.2.2⟩
 item:=λi s Q E hi st hQ=>by
  have hlt:i<ps.length:=by rw[hp.length_eq,List.length_range];exact hi
  have hin:ps[i]<es.size:=List.mem_range.mp (hp.mem_iff.mp (List.getElem_mem hlt))
  refine q418 st.2.1 hs st.1 λQ' E' f1 f2=>?_
  refine ZC (wpAny_seqItems st.2.2 hu ?_)
  dsimp only
  have e1:(ps.map λ(i:Nat)=>rawInt i).toArray[i]? = some (rawInt ps[i]):=by simp[hlt]
  rw[e1]
  refine ZC ?_
  unfold setNextDrawn
  refine ZC (wpAny_setState_of st.2.1 hs.dat hs.fit ?_)
  dsimp only
  rw[ZI (by simp)]
  show wpAny _ _ (match es[(ps[i]:Int).toNat]? with | some (_,x)=>pure x | _=>unsupported "internal:set_iterator") _ _ _
  rw[Int.toNat_natCast,WM hin]
  refine ZP (ZC (wpAny_setField_rec st.1 (by simp) λh1 g1 k1=>?_))
  refine ZP (f1 _ _ (hQ _ h1 s.toks ?_ ⟨g1,q62 k1 S _ hne st.2.1,q62 k1 T _ hnt st.2.2⟩ λb v hb e=>q62 k1 b v (λz=>hb (by simp[z])) e))
  have e2:(ps.filterMap λp=>(es[p]?).map (·.2))=ps.pmap (λp h=>(es[p]'h).2) (λp q=>List.mem_range.mp (hp.mem_iff.mp q)):=by
   clear hu st hlt hin f1 f2 e1 g1 k1 hQ
   have go:∀(l:List Nat)(hl:∀ p∈l,p<es.size),(l.filterMap λp=>(es[p]?).map (·.2))=l.pmap (λp h=>(es[p]'h).2) hl:=λl=>by
    induction l with
    | nil=>intro _;rfl
    | cons p l ih=>
     intro hl
     rw[List.filterMap_cons_some (b:=(es[p]'(hl p (.head _))).2) (by rw[WM (hl p (.head _))];rfl),List.pmap_cons,ih λq hq=>hl q (.tail _ hq)]
   exact go ps _
  rw[e2,List.getElem?_pmap]
  simp[hlt]
 done:=λs Q E st hQ=>by
  refine q418 st.2.1 hs st.1 λQ' E' f1 f2=>?_
  refine ZC (wpAny_seqItems st.2.2 hu ?_)
  dsimp only
  have e1:(ps.map λ(i:Nat)=>rawInt i).toArray[es.size]? = none:=by
   rw[Array.getElem?_eq_none]
   simp[hp.length_eq]
  rw[e1]
  refine ZC (wpAny_setField_rec st.1 (by simp) λh1 g1 k1=>?_)
  refine ZC (wpAny_setField_rec (s:={ s with heap:=h1 }) g1 (by simp) λh2 g2 k2=>?_)
  refine q313 (A:=A.in1) (show A.in1.handled=none from hh) λh' e g he=>?_
  have kk:∀ b u,b≠I->s.heap.get? b=some u->h'.get? b=some u:=λb u hb z=>g b u (q62 k2 b u hb (q62 k1 b u hb z))
  exact f2 e h' kk he (hQ h' s.toks λb u hb z=>kk b u (λq=>hb (by simp[q])) z)
 self:=λi s Q E st hQ=>q715 st.1 hQ
def q469{ps:List Nat}(hp:ps.Perm (List.range es.size)):(ps.filterMap λp=>(es[p]?).map (·.2)).Perm (es.toList.map (·.2)):=by
 refine(hp.filterMap _).trans (List.Perm.of_eq ?_)
 have z:=filterMap_getElem?_range es
 rw[<- z,<- List.filterMap_eq_map,List.filterMap_filterMap]
 congr 1
 funext p
 cases es[p]? <;> rfl
def iter_set{Q:VS}(hh:A.handled=none)(ho:s.heap.get? S=some o)(hs:SetS prog w o es ep t ks)
  (h:∀(I:Addr)(fp:List Addr)(vs:List Value)(St:Nat->Heap->Prop)(h':Heap)(d:Drawn),(∀ b u,s.heap.get? b=some u->h'.get? b=some u)->(∀ b∈fp,b=S\/s.heap.objs.size<=b)->s.heap.objs.size<=I ->
   Walks prog w A I fp [I] vs.length (λi v=>vs[i]? = some v) St->St 0 h'->vs.Perm (es.toList.map (·.2))->Q (.ref I) { s with heap:=h',drawn:=d }):wpAny (model prog w) A (pyIter (.ref S)) Q E s:=by
 have hT:s.TypeIs (.ref S) "set" := ⟨o,ho,hs.ex.1⟩
 have hlt:S<s.heap.objs.size:=ZZ ho
 refine wpAny_pyIter_slot hT q312 (wpAny_call_entry q312 hT q466 ?_ (q524 _))
 unfold Builtin.«frozenset.__iter__»
 refine ZC (m:=Builtin.Frozenset.slot0 "__iter__" _) (wpAny_of_eq (a:=S) rfl ?_)
 refine ZC (ZC (wpAny_setEntries_of ho hs.dat hs.fit (ZP ?_)))
 refine ZC ?_
 unfold setDrawn
 refine ZC (wpAny_setState_of ho hs.dat hs.fit (ZC (q525 (ZP ?_))))
 by_cases nd:q287 w es t
 ·rw[ZI ?_]
  ·refine ZC (ZP ?_)
   refine ZC (wpAny_setEpoch_of ho hs.dat hs.fit ?_)
   refine ZC (YY (ZP ⟨_,rfl, "set_iterator", _,⟨_,ZV _ rfl,rfl⟩,q85.lookup,?_⟩))
   have e:((ordN w S ep es).toList.map (·.2)).length=es.size:=by rw[List.length_map,q208.length_eq,ZY]
   have W:=walk_n (A:=A) (I:=s.heap.objs.size) hh (WI hlt) hs nd
   rw[<- e]at W
   exact h _ _ _ _ _ s.drawn (λb u z=>ZH _ z) (λb hb=>by
    rcases eB hb with z | z
    ·exact .inr (Nat.le_of_eq z.symm)
    ·exact .inl (eD z)) (ZG _) W ⟨by rw[e];exact ZV _ rfl,ZH _ ho⟩ (q208.map _)
  ·show ¬((!(byT w)&&(!t.plain&&decide (es.size > 1)))=true)
   rcases nd with z | z | z
   ·simp[z]
   ·simp[z]
   ·rw[ZN (show ¬ es.size > 1 by lia)];simp
 ·rw[ZL ?_]
  ·refine ZC (q468 _ _ (by simp) λps d hp=>?_)
   refine ZC (wpAny_newTuple ?_ (hsz:=?_))
   rotate_left
   ·rw[List.length_map,hp.length_eq,List.length_range];exact fits_of_scanBound hs.few
   refine ZC (wpAny_setEpoch_of (o:=o) (ZH _ ho) hs.dat hs.fit ?_)
   refine ZC (YY (ZP ⟨_,rfl, "set_iterator", _,⟨_,ZV _ rfl,rfl⟩,q85.lookup,?_⟩))
   have e:(ps.filterMap λp=>(es[p]?).map (·.2)).length=es.size:=by rw[(q469 hp).length_eq,List.length_map,ZY]
   have W:=walk_d (A:=A) (I:=s.heap.objs.size+1) (T:=s.heap.objs.size) (u:={ cls:=.type "tuple", data:=.seq (ps.map λ(i:Nat)=>rawInt i).toArray }) hh (WI (Nat.lt_succ_of_lt hlt)) (WI (Nat.lt_succ_self _)) hs hp rfl
   rw[<- e]at W
   have hz:(s.heap.push { cls:=.type "tuple", data:=.seq (ps.map λ(i:Nat)=>rawInt i).toArray }).objs.size=s.heap.objs.size+1:=Heap.size_push ..
   refine(congrArg (λa=>Q (.ref a) _) hz).mpr (h _ _ _ _ _ d (λb u z=>ZH _ (ZH _ z)) (λb hb=>by
    rcases eB hb with z | z
    ·exact .inr (by rw[z];exact Nat.le_succ _)
    ·rcases eB z with z | z
     ·exact .inl z
     ·exact .inr (Nat.le_of_eq (eD z).symm)) (Nat.le_succ _) W ⟨?_,ZH _ (ZH _ ho),ZH _ (ZV _ rfl)⟩ (q469 hp))
   rw[e,<- hz]
   exact ZV _ rfl
  ·show(!(byT w)&&(!t.plain&&decide (es.size > 1)))=true
   unfold q287 at nd
   simp only[not_or,Bool.not_eq_true,Nat.not_le]at nd
   simp[nd]
end
end TS
namespace TS
set_option autoImplicit false
open PySem PyProof.Rows
section
variable {prog:Program}{w:World}{A:Around}{E:VS}{s:Shared}
def set_new(a:Value){Q:VS}(h:Q (.ref s.heap.objs.size) { s with heap:=s.heap.push { cls:=.type "set", dict:=none,data:=.set #[] 0 (.fresh 0 0 (!(byT w))) } }) :
  codeAny (model prog w) A (.call (.builtin "set.__new__") ⟨[.type "set", a],[]⟩) (wants Q E) s:=by
 refine codeAny_of_tree ?_;show wpAny _ A.in1 (do checkBuiltinCall "set.__new__" ⟨[.type "set", a],[]⟩;again (.builtin "set.__new__" ⟨[.type "set", a],[]⟩)) _ _ s
 refine ZC (wpAny_of_eq (PySem.F.newCall_set_1 a) (ZP ⟨plainId_quiet PySem.F.plain_set_new _,codeAny_builtin PySem.F.entry_set_new ?_⟩))
 rw[Around.under_plainId PySem.F.plain_set_new _]
 unfold Builtin.«set.__new__»;unfold Builtin.Frozenset.newClass
 have hsub:=sub_set_self
 obtain⟨hp,g,d,tk,os⟩:=s
 dsimp only
 wp_walk
 refine wpAny_askSetting (ZP ?_);dsimp only
 simp only[newObj]
 exact ZC (wpAny_alloc (ZP (ZP h)))
theorem q581{R:Result->Shared->Prop}{I:Addr}{fp wr:List Addr}{G:Array GenState->Array GenState->Prop}{n:Nat}{P:Nat->Value->Prop}{St:Nat->Shared->Prop}(W:WalksS prog w A.in1 I fp wr G n P St){S:Addr}(hSf:S ∉ fp){ns:List Int}(hl:ns.length=n)
  (hv:∀ i v,P i v -> ∃ t,v = .int (ns.getD i 0) t) (hb:n+1<scanBound):∀(k i:Nat)(s:Shared),n-i=k->i<=n->St i s->SetI prog w s.heap S ((ns.take i).foldl stD []) ->
   (∀ s',Moved (S::wr) G s s'->SetI prog w s'.heap S (ns.foldl stD [])->R (.ok (.ret .none)) s')->codeAny (model prog w) A (.builtin "set.update.loop" ⟨[.ref S,.ref I],[]⟩) R s
 | 0,i,s,hk,hi,hst,hS,hR=>by
  have e:i=n:={}
  refine codeAny_builtin F.entry_set_update_loop ?_
  rw[Around.under_plainId F.plain_set_update_loop _]
  show wpAny _ A.in1 (pyNext (.ref I) >>= _) _ _ s
  refine ZC (W.done s _ _ (e▸hst) λs' hm=>?_)
  refine ZP (hR s' (hm.mono λb q=>List.mem_cons_of_mem _ q) ?_)
  rw[e,<- hl,List.take_length]at hS
  obtain⟨o,es,ep,t,ho,hs⟩:=hS
  exact⟨o,es,ep,t,hm.heap S _ (λz=>hSf (W.sub _ z)) ho,hs⟩
 | k+1,i,s,hk,hi,hst,hS,hR=>by
  have hlt:i<n:={}
  refine codeAny_builtin F.entry_set_update_loop ?_
  rw[Around.under_plainId F.plain_set_update_loop _]
  show wpAny _ A.in1 (pyNext (.ref I) >>= _) _ _ s
  refine ZC (W.item i s _ _ hlt hst λv s' hP hst' hm=>?_)
  obtain⟨t,rfl⟩:=hv i v hP
  have hS':SetI prog w s'.heap S ((ns.take i).foldl stD []):=by
   obtain⟨o,es,ep,tb,ho,hs⟩:=hS
   exact⟨o,es,ep,tb,hm.heap S _ (λz=>hSf (W.sub _ z)) ho,hs⟩
  refine ZC (wpAny_holding ?_)
  unfold setAdd
  refine wpAny_holding (ZC ((intKind prog w).pyHash (k:=ns.getD i 0) (intKind_is _ _ _ _) ?_))
  have hlen:∀(l:List Int)(a:List Int),(l.foldl stD a).length<=a.length+l.length:=λl=>by
   induction l with
   | nil=>intro a;exact ZG _
   | cons x l ih=>
    intro a
    have z:(stD a x).length<=a.length+1:=by unfold stD;split <;> simp
    have:=ih (stD a x)
    simp only[List.foldl_cons,List.length_cons]
    exact W131 this z
  have hroom:((ns.take i).foldl stD []).length+1<scanBound:=by
   have z:=hlen (ns.take i) []
   rw[List.length_take]at z
   simp only[List.length_nil]at z
   lia
  refine set_add (s:={ s' with toks:=s'.toks+1 }) hS' hroom λh' hsb hS2=>?_
  have hS3:SetI prog w h' S ((ns.take (i+1)).foldl stD []):=by
   have hi':i<ns.length:=(W55 hlt hl)
   rw[List.take_succ,List.foldl_append,List.getElem?_eq_getElem hi']
   rw[show ns.getD i 0=ns[i] by simp[List.getD,List.getElem?_eq_getElem hi']]at hS2
   exact hS2
  refine ZP ⟨plainId_quiet F.plain_set_update_loop _,q581 W hSf hl hv hb k (i+1) _ {} hlt (W.frame _ s' _ _ hst' (Nat.le_succ _) λb q o e=>?_) hS3 λs'' m2 S2=>?_⟩
  ·rw[hsb.2 b (λz:b=S=>hSf (z▸q))];exact e
  ·refine hR s'' (Moved.trans W.gtrans ((hm.mono λb q=>List.mem_cons_of_mem _ q).then_heap (Nat.le_succ _) λb o q e=>?_) m2) S2
   rw[hsb.2 b (λz:b=S=>q (by rw[z];exact List.mem_cons_self))];exact e
theorem q785{l:Addr}{items:Array Value}{ns:List Int}{Q:VS}(hh:A.handled=none)(hl:s.heap.IsList l items)(hi:IntsAre items.toList ns)(hb:items.size+1<scanBound)
  (h:∀(h':Heap)(tk:Nat),SetI prog w h' s.heap.objs.size (ns.foldl stD [])->(∀ b o,s.heap.get? b=some o->h'.get? b=some o)->Q (.ref s.heap.objs.size) { s with heap:=h',toks:=tk }):wpAny (model prog w) A (call (.type "set") [.ref l]) Q E s:=by
 obtain⟨c,tl,hmro⟩:=PySem.F.called_set.mro
 have c1:=PySem.F.called_set.made
 have c2:=PySem.F.called_set.sub
 have c3:=PySem.F.called_set.notType
 have c4:=PySem.F.called_set.canCreate
 have c5:=PySem.F.typeCall_set_1 (.ref l)
 refine wpAny_call (codeAny_of_tree ?_);show wpAny _ _ (callAny (.type "set") _) _ _ _
 refine ZP ⟨Code.quiet_builtin _ (by decide +kernel),codeAny_builtin PySem.F.entry_type_call ?_⟩
 rw[Around.under_plain (weight_type_call_type "set" [.ref l] []) rfl]
 repeat (any_goals (first | assumption | wp_step))
 generalize e0:s.heap.push { cls:=.type "set", dict:=none,data:=.set #[] 0 (.fresh 0 0 (!(byT w))) }=h0
 refine codeAny_mono (set_new (.ref l) (E:=E) (Q:=λv s₁=>v = .ref s.heap.objs.size/\s₁ = { s with heap:=h0 }) ⟨rfl,by rw[e0]⟩) λr s₁ hr=>?_
 cases r with
 | error e=>exact hr
 | ok fl=>
  cases fl with
  | ret v=>
   obtain⟨rfl,rfl⟩:=hr
   have g0:h0.get? s.heap.objs.size=some { cls:=.type "set", dict:=none,data:=.set #[] 0 (.fresh 0 0 (!(byT w))) }:=by rw[<- e0];exact ZV _ rfl
   have k0:∀ b o,s.heap.get? b=some o->h0.get? b=some o:=λb o z=>by rw[<- e0];exact ZH _ z
   have n0:h0.objs.size=s.heap.objs.size+1:=by rw[<- e0];exact Heap.size_push ..
   have hT:Shared.TypeIs { s with heap:=h0 } (.ref s.heap.objs.size) "set" := ⟨_,g0,rfl⟩
   have i1:=PySem.F.called_set.init.lookup
   have i2:=PySem.F.called_set.init.bind (.ref s.heap.objs.size)
   repeat (any_goals (first | assumption | wp_step))
   refine codeAny_mono (codeAny_call_builtin (R:=wants (λr s₂=>r = .none /\ ∃ h' tk,s₂ = { s with heap:=h',toks:=tk }/\SetI prog w h' s.heap.objs.size (ns.foldl stD [])/\(∀ b o,s.heap.get? b=some o->h'.get? b=some o)) E) PySem.F.called_set.init.plain PySem.F.entry_set_init (check_set_init_1 hT ?_)) λr₂ s₂ hr₂=>?_
   ·obtain⟨ol,hol,hcl,nl,hdl⟩:=hl
    obtain⟨ocls,odict,odata,oslots⟩:=ol
    simp only at hcl hdl
    subst hcl;subst hdl
    have hlS:l<s.heap.objs.size:=ZZ hol
    have hol':=k0 _ _ hol
    have q1:=PySem.F.sub_list_set
    have q2:=PySem.F.sub_list_frozenset
    have q3:(Value.type "list" == Value.type "dict")=false:=∅
    have hl1:h0.IsList l items:=⟨_,hol',rfl,nl,rfl⟩
    unfold Builtin.«set.__init__»;unfold noKeywords;unfold Builtin.Frozenset.updateFrom
    generalize hPI:pyIter=PI
    wp_walk
    subst hPI
    refine wpAny_pyIter_list hl1 (ZC (wpAny_runValue ?_))
    have hh3:A.in1.in1.in1.handled=none:=by simp[hh]
    have hneI:l≠h0.objs.size:=by rw[n0];exact WI (Nat.lt_succ_of_lt hlS)
    have hSf:s.heap.objs.size ∉ [h0.objs.size,l]:=by
     rw[n0];intro z
     rcases eB z with z | z
     ·exact absurd z (WI (Nat.lt_succ_self _))
     ·exact absurd (eD z) (Nat.ne_of_gt hlS)
    refine q581 ((Walks.list hh3 _ l hneI items).toS) hSf (ns:=ns) (by rw[<- IntsAre.length hi,ZY]) (λi v hv=>IntsAre.int_at hi i v (by rw[WF];exact hv)) hb (items.size-0) 0 _ {} (WA _)
     ⟨⟨_,ZV _ rfl,rfl,rfl⟩,(hl1.push _)⟩ ⟨_,#[],0,_,ZH _ g0,⟨rfl,rfl,rfl⟩,rfl,λe he=>by simp at he,by unfold scanBound;simp,rfl,GT.fresh _,List.Perm.refl _,List.nodup_nil⟩ ?_
    intro s' hm hS'
    obtain⟨h',g',d',tk',os'⟩:=s'
    have eg:g'=s.gens:=hm.gens
    have ed:d'=s.drawn:=hm.drawn
    have eo:os'=s.os:=hm.os
    subst eg;subst ed;subst eo
    refine ZP (ZP ⟨rfl,h',tk',rfl,hS',λb o z=>?_⟩)
    have hb:=ZZ z
    refine hm.heap b o (λq=>?_) (ZH _ (k0 b o z))
    rcases eB q with q | q
    ·exact absurd q (WI hb)
    ·rw[List.mem_singleton,n0]at q
     exact absurd q (WI (Nat.lt_succ_of_lt hb))
   ·cases r₂ with
    | error e=>exact hr₂
    | ok fl₂=>
     cases fl₂ with
     | ret r=>
      obtain⟨rfl,h',tk,rfl,hS',hk'⟩:=hr₂
      repeat (any_goals (first | assumption | wp_step))
      exact h _ _ hS' hk'
     | _=>exact hr₂.elim
  | _=>exact hr.elim
theorem q526{S:Addr}{ks:List Int}{Q:List Value->Shared->Prop}(hh:A.handled=none)(hS:SetI prog w s.heap S ks)
  (h:∀(h':Heap)(tk:Nat)(d:Drawn)(vs:List Value),(∀ b o,s.heap.get? b=some o->h'.get? b=some o)->s.heap.objs.size<=h'.objs.size->(vs.map kOf).Perm ks->AllI vs->Q vs { s with heap:=h',toks:=tk,drawn:=d }):wpAny (model prog w) A (collect (.ref S)) Q E s:=by
 obtain⟨o,es,ep,t,ho,hs⟩:=hS
 have hSlt:S<s.heap.objs.size:=ZZ ho
 unfold collect
 refine ZC (wpAny_runValue (codeAny_builtin PySem.F.entry_proto_collect ?_))
 rw[Around.under_plainId PySem.F.plain_proto_collect _]
 show wpAny _ A.in1 (newList [] >>= λl=>again (.builtin "list.__iadd__" ⟨[l,.ref S],[]⟩)) _ _ s
 refine ZC (YY (ZP ⟨plainId_quiet PySem.F.plain_list_iadd _,codeAny_builtin PySem.F.entry_list_iadd ?_⟩))
 rw[Around.under_plainId PySem.F.plain_list_iadd _]
 generalize e0:s.heap.push { cls:=.type "list", data:=.seq ([]:List Value).toArray }=h0
 have g0:h0.get? s.heap.objs.size=some { cls:=.type "list", data:=.seq ([]:List Value).toArray }:=by rw[<- e0];exact ZV _ rfl
 have k0:∀ b o,s.heap.get? b=some o->h0.get? b=some o:=λb o z=>by rw[<- e0];exact ZH _ z
 have n0:h0.objs.size=s.heap.objs.size+1:=by rw[<- e0];exact Heap.size_push ..
 have ho0:=k0 _ _ ho
 have h1:Builtin.List.listSameRef (.ref s.heap.objs.size) (.ref S)=false:=by simp[Builtin.List.listSameRef,Nat.ne_of_gt hSlt]
 have hT:Shared.TypeIs { s with heap:=h0 } (.ref S) "set" := ⟨o,ho0,hs.ex.1⟩
 show wpAny _ A.in1 (Builtin.List.listExtendWith (.ref s.heap.objs.size) (.ref S) (.ref s.heap.objs.size)) _ _ _
 unfold Builtin.List.listExtendWith
 refine ZC (wpAny_typeOf hT ?_)
 rw[ZI (by rw[h1];decide)]
 refine ZC (iter_set (A:=A.in1) (show A.in1.handled=none from hh) ho0 hs λI fp vs St h1 d k1 f1 f2 W st pm=>?_)
 have hT1:Shared.TypeIs { s with heap:=h1,drawn:=d } (.ref S) "set" := ⟨o,k1 _ _ ho0,hs.ex.1⟩
 refine ZC (wpAny_holding ?_)
 unfold Builtin.List.listLengthHint
 refine ZC (wpAny_specialOf hT1 PySem.F.slot_set_len.lookup ?_)
 generalize hid:("set.__len__" : String)=id0
 wp_delta
 rw[show splitId id0=some ("set", "__len__")from by subst hid;decide +kernel]
 subst hid
 refine ZC (wpAny_isInstance (T := "set") (b:=true) hT1 (by rw[isSubtype_type];kernel_rfl) ?_)
 refine wpAny_ite_split (λz=>absurd z ∅) (λ_=>?_)
 refine wpAny_ite_split (λ_=>?_) (λz=>absurd (by decide +kernel) z)
 refine ZC (wpAny_typeOf hT1 (ZP ?_))
 have hSf:s.heap.objs.size ∉ fp:=λz=>by
  rcases f1 _ z with q | q
  ·exact absurd q (Nat.ne_of_gt hSlt)
  ·rw[n0]at q
   exact absurd q (Nat.not_succ_le_self _)
 have hn:vs.length<=sizeLine:=by rw[pm.length_eq,List.length_map,ZY];exact fits_of_scanBound hs.few
 have hend:∀(h2:Heap)(c2:Nat),(∀ b o,b≠s.heap.objs.size->h1.get? b=some o->h2.get? b=some o)->h2.get? s.heap.objs.size=some { cls:=.type "list", data:=.seq #[] c2 }->codeAny (model prog w) A (.builtin "list.extend.loop" ⟨[.ref s.heap.objs.size,.ref I,.ref s.heap.objs.size],[]⟩) (λr s'=>match r with
   | .ok (.ret (.ref a))=>a=s.heap.objs.size /\ ∃ acc c,s'.heap.get? s.heap.objs.size=some { cls:=.type "list", dict:=none,data:=.seq acc c,slots:=#[] }/\Q acc.toList s'
   | _=>False) { s with heap:=h2,drawn:=d }:=by
  intro h2 c2 k2 g2
  refine codeAny_extend_loopS W.toS hn _ hSf _ vs.length 0 _ #[] _ rfl (WA _) (W.frame 0 _ _ st λb q o z=>k2 b o (λy=>hSf (y▸q)) z) g2 (ItemsOf.nil _) λs' acc c hm hS' hacc=>?_
  exists rfl,acc,c,hS'
  have ea:acc.toList=vs:=by
   apply List.ext_getElem?
   intro j
   rcases Nat.lt_or_ge j acc.size with z | z
   ·have:=hacc.2 j _ (WM z)
    rw[this,WF,WM z]
   ·rw[List.getElem?_eq_none (by simpa using z),List.getElem?_eq_none (by rw[<- hacc.1];exact z)]
  obtain⟨h',g',d',tk',os'⟩:=s'
  have eg:g'=s.gens:=hm.gens
  have ed:d'=d:=hm.drawn
  have eo:os'=s.os:=hm.os
  subst eg;subst ed;subst eo
  rw[ea]
  refine h h' tk' d' vs (λb u z=>hm.heap b u (λq=>?_) (k2 b u (WI (ZZ z)) (k1 b u (k0 b u z)))) (Nat.le_of_lt (ZZ hS')) ((pm.map kOf).trans ?_) λv hv=>?_
  ·have:=ZZ z
   rcases eB q with q | q
   ·exact absurd q (WI this)
   ·rw[List.mem_singleton]at q
    rw[n0]at f2
    exact absurd q (WI (WG this (Nat.le_of_succ_le f2)))
  ·rw[List.map_map]
   exact hs.pm
  ·obtain⟨e,he,rfl⟩:=eE (pm.mem_iff.mp hv)
   obtain⟨u,hu⟩:=el_int hs.el he
   exact⟨_,u,hu⟩
 have g1:=k1 _ _ g0
 rw[ZL ∅]
 refine ZC (wpAny_rule (ZC ?_))
 show wpAny _ _ (updateSeq s.heap.objs.size (·.push .none) >>= λ_=>updateSeq s.heap.objs.size (·.pop)) _ _ _
 refine ZC (wpAny_updateSeq g1 rfl ?_)
 have g2:=Heap.get?_update_self (Obj.mapSeq (·.push Value.none)) g1 rfl
 refine wpAny_updateSeq (hz:=by seq_fits) g2 rfl ?_
 have g3:=Heap.get?_update_self (Obj.mapSeq (·.pop)) g2 rfl
 refine ZP ⟨plainId_quiet PySem.F.plain_extend_loop _,codeAny_mono (hend _ _ (λb o hb z=>(Heap.get?_update_other _ _ (Ne.symm hb)).trans ((Heap.get?_update_other _ _ (Ne.symm hb)).trans z)) g3) λr s' hr=>?_⟩
 match r,hr with
 | .ok (.ret (.ref a)),hr=>
  obtain⟨rfl,acc,c,e1,e2⟩:=hr
  exact ZC (wpAny_load e1 (ZP e2))
end
end TS
namespace TS
set_option autoImplicit false
open PySem PySem.W PyProof.Rows List
section
variable {prog:Program}{w:World}{A:Around}{E:VS}{s:Shared}
def q314{κ:SortKind}{P:Value->Prop}{lt:Value->Value->Bool}{a:Addr}{vs:List Value}{n:Nat}{Q:PySem.Fin->Shared->Prop}(ho:s.heap.get? a=some (seqObj "list" vs.toArray n)) (hz:vs.length<=sizeLine)
  (hk:∀ h6:Heap,(∀ b o,b≠a->s.heap.get? b=some o->h6.get? b=some o)->2<=vs.length -> ∀ Q':SortKind->Shared->Prop,Q' κ { s with heap:=h6 }->wpAny (model prog w) A (keyKind' vs.toArray) Q' E { s with heap:=h6 })
  (hg:∀ h6:Heap,(∀ b o,b≠a->s.heap.get? b=some o->h6.get? b=some o)->Good prog w A E κ (λx=>P x.1) (λx y=>lt x.1 y.1) { s with heap:=h6 })
  (ht:Tot (λx=>P x.1) (λx y=>lt x.1 y.1)) (hP:∀ v∈vs,P v)
  (h:∀ out:Array Value,out.toList.Perm vs->(out.toList.Pairwise λx y=>lt y x=false)->Q (.done (.ret .none)) { s with heap:=sortedHeap s.heap a vs out }):wpAny (model prog w) A (Builtin.«list.sort» ⟨[.ref a],[]⟩) Q E s:=by
 have hvz:vs.toArray.size=vs.length:=WB ..
 obtain⟨e1,ho1⟩:∃ e1,(s.heap.update a (Obj.mapSeq λ_=>(#[]:Array Value))).get? a=some (seqObj "list" #[] e1):=⟨_,get?_update_seq ho λ_=>#[]⟩
 rw[list_sort_plain]
 refine ZC (listItems_at ho rfl (ZC (listUpdate_at ho rfl ?_ (by rw[hvz];exact hz) (WA _))))
 refine ZC (seqEpoch_at ho1 rfl (ZC (wpAny_newTuple (ZC (wpAny_newList (wpAny_holding ?_) (WA _))) (by show vs.length<=_;exact hz))))
 obtain⟨h6,e6⟩:∃ h6,h6=((s.heap.update a (Obj.mapSeq λ_=>(#[]:Array Value))).push (seqObj "tuple" vs.toArray 0)).push (seqObj "list" #[] 0):=⟨_,rfl⟩
 have ho6:h6.get? a=some (seqObj "list" #[] e1):=by
  rw[e6]
  exact ZH _ (ZH _ ho1)
 have k6:∀ b o,b≠a->s.heap.get? b=some o->h6.get? b=some o:=λb o hb z=>by
  rw[e6]
  exact ZH _ (ZH _ (((Heap.SameBut.update s.heap a (Obj.mapSeq λ_=>(#[]:Array Value))).2 b hb).trans z))
 show wpAny (model prog w) A _ Q E { s with heap:=((s.heap.update a (Obj.mapSeq λ_=>(#[]:Array Value))).push (seqObj "tuple" vs.toArray 0)).push (seqObj "list" #[] 0) }
 have hfin:∀ out:Array Value,out.toList.Perm vs->(out.toList.Pairwise λx y=>lt y x=false)->Q (.done (.ret .none)) { s with heap:=h6.update a (Obj.mapSeq λ_=>out) }:=λout p1 p2=>by
  rw[e6]
  exact h out p1 p2
 rw[<- e6]
 dsimp only
 by_cases h2:vs.toArray.size<2
 ·rw[ZL h2,ZL h2]
  refine ZC (ZP ?_)
  rw[StateT.run_pure]
  refine ZC (ZP ?_)
  dsimp only
  have eo:((arrOf (SortSt.mk' general' (vs.toArray.zip vs.toArray) #[] 7 none)).map (·.2))=vs.toArray:=by
   show(vs.toArray.zip vs.toArray).map (·.2)=vs.toArray
   apply Array.toList_inj.mp
   simp[map_snd_zip]
  rw[eo]
  refine ZC (seqEpoch_at ho6 rfl (ZC (listUpdate_at ho6 rfl ?_ (WA _) (by rw[hvz];exact Nat.le_succ_of_le hz))))
  simp only[bne_self_eq_false,Bool.false_eq_true,if_false]
  refine ZP (hfin vs.toArray (List.Perm.refl _) ?_)
  match vs,h2 with
  | [],_=>exact .nil
  | [x],_=>exact pairwise_singleton _ _
  | x::y::l,h2=>exact absurd h2 (by simp)
 ·rw[ZI h2,ZI h2]
  refine ZC (hk h6 k6 (by rw[<- hvz];exact Nat.not_lt.mp h2) _ ?_)
  have zl:(vs.toArray.zip vs.toArray).toList=vs.zip vs:=by simp
  have pz:∀ x∈(vs.toArray.zip vs.toArray).toList,P x.1:=λx hx=>by
   rw[zl]at hx
   exact hP _ (mem_zip_self hx).2
  have run:=q464 (prog:=prog) (w:=w) (A:=A) (E:=E) (hg h6 k6) ht (Q:=λ_ st' s'=>s' = { s with heap:=h6 }/\failedOf st'=none/\(arrOf st').Perm (vs.toArray.zip vs.toArray)/\Asc (λx y=>lt x.1 y.1) (arrOf st') 0 (arrOf st').size)
   (st:=SortSt.mk' κ (vs.toArray.zip vs.toArray) #[] 7 none) rfl rfl rfl pz (by show 1<=(vs.toArray.zip vs.toArray).size;simp;lia) (λst' f1 f2 f3=>⟨rfl,f1,f2,f3⟩)
  refine ZC (YS run ?_ λ_ _ e=>e)
  rintro ⟨⟨⟩,st'⟩ s' ⟨rfl,f1,f2,f3⟩
  dsimp only
  have p0:=Array.perm_iff_toList_perm.mp f2
  rw[zl]at p0
  have osz:((arrOf st').map (·.2)).size=vs.length:=by
   rw[Array.size_map,<- ZY,p0.length_eq]
   simp
  refine ZC (seqEpoch_at ho6 rfl (ZC (listUpdate_at ho6 rfl ?_ (WA _) (ZO (Nat.le_of_eq osz) (Nat.le_succ_of_le hz)))))
  rw[f1]
  simp only[bne_self_eq_false,Bool.false_eq_true,if_false]
  refine ZP (hfin _ ?_ ?_)
  ·rw[Array.toList_map]
   refine(p0.map _).trans (List.Perm.of_eq ?_)
   exact map_snd_zip (ZG _)
  ·rw[Array.toList_map,pairwise_map]
   have sr:Srt (λx y=>lt x.1 y.1) (arrOf st').toList:=q575 λp q g1 g2=>by
    have:=f3 p q g1 g2
    rw[Nat.zero_add,Nat.zero_add]at this
    exact this
   refine List.Pairwise.imp_of_mem ?_ sr
   intro x y hx hy hxy
   have ex:=(mem_zip_self (p0.mem_iff.mp hx)).1
   have ey:=(mem_zip_self (p0.mem_iff.mp hy)).1
   rw[<- ex,<- ey]
   exact hxy
noncomputable def ltI(x y:Value):Bool:=decide (kOf x<kOf y)
def good_i:Good prog w A E oneType' (λx=>∃ k t,x.1=Value.int k t) (λx y=>ltI x.1 y.1) s:=by
 intro x y st Q hx hy hk hq
 rw[lt'_eq]
 refine ZR (kasC_get (ZR (kasC_lift (wpAny_attempt ?_))))
 rw[hk]
 obtain⟨x1,x2⟩:=x
 obtain⟨y1,y2⟩:=y
 obtain⟨k,t,rfl⟩:=hx
 obtain⟨k',t',rfl⟩:=hy
 exact kat_lt_int (E:=_) (ZU hq)
def tot_i:Tot (λx:Keyed=>∃ k t,x.1=Value.int k t) (λx y=>ltI x.1 y.1):=
 ⟨λx y z _ _ _ h1 h2=>by unfold ltI at *;rw[decide_eq_false_iff_not]at *;lia,λx y _ _ h=>by unfold ltI at *;rw[ZW]at h;rw[decide_eq_false_iff_not];lia⟩
theorem q419:∀(vs:List Value),AllI vs->IntsAre vs (vs.map kOf)
 | [],_=>.nil
 | v::vs,h=>by
  obtain⟨k,t,rfl⟩:=h v (.head _)
  exact .cons k t (q419 vs λu hu=>h u (.tail _ hu))
def q786{S:Addr}{ks:List Int}{Q:VS}(hh:A.handled=none)(hS:SetI prog w s.heap S ks)
  (h:∀(hF:Heap)(tk:Nat)(d:Drawn)(l:Addr)(e:Nat)(out:List Value),(∀ b o,s.heap.get? b=some o->hF.get? b=some o)->s.heap.objs.size<=l->out.length<=sizeLine->hF.get? l=some (seqObj "list" out.toArray e)->AllI out->(out.map kOf).Perm ks->(out.map kOf).Pairwise (·<·) ->
   Q (.ref l) { s with heap:=hF,toks:=tk,drawn:=d }):wpAny (model prog w) A (call (.builtin "sorted") [.ref S]) Q E s:=by
 have nd:ks.Nodup:=by obtain⟨_,_,_,_,_,hs⟩:=hS;exact hs.nd
 have kz:ks.length<=sizeLine:=by
  obtain⟨_,es,_,_,_,hs⟩:=hS
  rw[<- hs.pm.length_eq,ZJ,ZY]
  exact fits_of_scanBound hs.few
 refine Calls.call_function_entry kind_sorted plain_sorted entry_sorted (args_sorted1 _) ?_
 unfold Builtin.«sorted»
 refine ZC (m:=checkCount "sorted" 1 1 _) (ZP (ZC (q526 (A:=A.in1) (show A.in1.handled=none from hh) hS λh' tk d vs k1 sz pm ai=>?_)))
 have hz:vs.length<=sizeLine:=by rw[<- ZJ (f:=kOf),pm.length_eq];exact kz
 refine ZC (wpAny_newList ?_ hz)
 have hoL:(h'.push (seqObj "list" vs.toArray 0)).get? h'.objs.size=some (seqObj "list" vs.toArray 0):=ZV _ rfl
 show wpAny _ _ _ _ _ { s with heap:=h'.push (seqObj "list" vs.toArray 0),toks:=tk,drawn:=d }
 refine ZC (wpAny_holding (wpAny_call_entry slot_list_sort ⟨_,hoL,rfl⟩ entry_list_sort (q314 (κ:=oneType') (P:=λv=>∃ k t,v=Value.int k t) (lt:=ltI) hoL hz (λh6 _ h2 Q' hq=>?_) (λh6 _=>good_i) tot_i ai λout a1 a2=>⟨_,rfl,ZP ⟨_,rfl,?_⟩⟩) (args_list_sort _)))
 ·rw[ksk_kind (kz:=vs.map kOf) (by simpa using q419 vs ai) (by simpa using h2)]
  exact ZP hq
 obtain⟨e,he⟩:=sortedHeap_at (h:=h'.push (seqObj "list" vs.toArray 0)) (a:=h'.objs.size) (vs:=vs) (out:=out) hoL
 have po:(out.toList.map kOf).Perm ks:=(a1.map _).trans pm
 refine h _ tk d h'.objs.size e out.toList (λb o hb=>?_) sz (by rw[a1.length_eq];exact hz) (by rw[Array.toArray_toList];exact he) (λv hv=>ai v (a1.mem_iff.mp hv)) po ?_
 ·have hlt:=ZZ (k1 b o hb)
  rw[sortedHeap_old (WI hlt) (by rw[size_push'];exact Nat.lt_succ_of_lt hlt)]
  exact ZH _ (k1 b o hb)
 ·have le:(out.toList.map kOf).Pairwise (· <= ·):=by
   rw[pairwise_map]
   refine a2.imp fun {x y} q=>?_
   unfold ltI at q
   rw[decide_eq_false_iff_not]at q
   exact W22 q
  have ne:(out.toList.map kOf).Nodup:=po.nodup_iff.mpr nd
  exact(List.pairwise_and_iff.mpr ⟨le,ne⟩).imp fun {x y} q=>{}
end
end TS
namespace L2
open PySem PySem.Spec PyProof.Rows List
variable {X:Cx}
def bt_set:bootBuiltins "set" = some (.type "set"):=by decide +kernel
def Inv.draw(I:Inv X pins σ H s)(d:Drawn):Inv X pins σ H { s with drawn:=d }:=
 ⟨I.ok,I.os,I.bare,I.base,I.loc,I.cell,I.free,I.freeC,I.pin,I.hok,I.len⟩
inductive q640(K:Fg)(P:Program)(w:World)(xs:List V)(H:Hp)(Q:VK):Prop
 |mk(p:Addr)(ns:List Int)(_:xs=[.ref p])(_:SqL K H p (ns.map V.int))(_:ns.length<=1000)(_:∀ r,H r=none->Q (.ref r) (upd H r (.ext λh=>TS.SetI P w h r (ns.foldl TS.stD []))))
def q716(hc:X.calm=true){K:Fg}{P:Program}{w:World}(hK:X.K=K)(hP:X.prog=P)(hw:X.w=w):CallR X (.type "set") (q640 K P w):=by
 subst hK;subst hP;subst hw
 intro pins s σ H xs us Q I r h
 obtain⟨p,ns,rfl,hq,hn,q⟩:=h
 obtain⟨u,rfl,rx⟩:=vals1 r
 cases rx
 obtain⟨its,r',pl,hz⟩:=I.list hq
 have hi:=q100 r'
 have hl:its.length=ns.length:=IntsAre.length hi
 refine TS.q785 (I.ok.hd hc) pl.isList (by simpa using hi) (by rw[WB,hl];unfold scanBound;lia) λh' tk hS hk=>?_
 refine⟨.ref s.heap.objs.size,_,I.laid (t':=tk) (o:=.ext λh=>TS.SetI X.prog X.w h s.heap.objs.size (ns.foldl TS.stD [])) hk (ZG _) ?_,rfl,q _ (I.hok.fresh (ZG _))⟩
 obtain⟨o,es,ep,t,ho,hs⟩:=id hS
 exact⟨hS,⟨o,ho⟩,λh1 h2 ⟨o',es',ep',t',ho',hs'⟩ kp=>⟨o',es',ep',t',kp _ ho',hs'⟩⟩
theorem q420:∀(vs:List Value),TS.AllI vs->Vals ((vs.map TS.kOf).map V.int) vs
 | [],_=>.nil
 | v::vs,h=>by
  obtain⟨k,t,rfl⟩:=h v (.head _)
  exact .cons ⟨t,rfl⟩ (q420 vs λu hu=>h u (.tail _ hu))
inductive q421(P:Program)(w:World)(xs:List V)(H:Hp)(Q:VK):Prop
 |mk(r:Addr)(ks:List Int)(_:xs=[.ref r])(_:H r=some (.ext λh=>TS.SetI P w h r ks))(_:∀(l:Addr)(ms:List Int),H l=none->ms.Perm ks->ms.Pairwise (·<·)->Q (.ref l) (upd H l (.lst (ms.map V.int))))
def q470(hc:X.calm=true)(hP:X.prog=P)(hw:X.w=w):CallR X (.builtin "sorted") (q421 P w):=by
 subst hP;subst hw
 intro pins s σ H xs us Q I r h
 obtain⟨rv,ks,rfl,hr,q⟩:=h
 obtain⟨u,rfl,rx⟩:=vals1 r
 cases rx
 have hS:TS.SetI X.prog X.w s.heap rv ks:=(I.hok rv _ hr).1
 refine TS.q786 (I.ok.hd hc) hS λhF tk d l e out kp hl hz hL ha hp ho=>?_
 refine⟨.ref l,_,(I.draw d).laid (t':=tk) (a:=l) (o:=.lst ((out.map TS.kOf).map V.int)) kp hl ?_,rfl,q l (out.map TS.kOf) (I.hok.fresh hl) hp ho⟩
 refine⟨?_,out,e,q420 out ha,hL⟩
 rw[ZJ,ZJ]
 exact hz
section
variable {st:Stmt}{t:TS}
inductive tJoin(t:TS)(D:Ends)(σ:St)(H:Hp):Prop
 |mk(R:St->Hp->Prop)(_:t { D with nx:=R } σ H)(_:∀ σ' H',R σ' H'->D.nx σ' H')
def q422(h:PS X st t):PS X st (tJoin t):=by
 intro pins s σ H D I ⟨R,h1,h2⟩
 refine thn (h pins s σ H { D with nx:=R } I h1) λf s1 q=>?_
 cases f with
 | next=>
  obtain⟨σ',H',I',q⟩:=q
  exact⟨σ',H',I',h2 _ _ q⟩
 | ret v=>exact q
 | brk=>exact q
 | cont=>exact q
end
inductive q641(K:Fg)(x:V)(xs:List V)(H:Hp)(Q:VK):Prop
 |mk(a ys v)(_:x = .ref a)(_:xs=[v])(_:SqL K H a ys)(_:flatV v=true)(_:ys.all flatV=true)(_:Q (.int (ys.countP λy=>eqV y v:Nat)) H)
def q717:MtR X "list.count" (q641 X.K):=by
 intro pins s σ H x xs v us Q I rx rv h
 obtain⟨a,ys,y,rfl,rfl,ha,f1,f2,q⟩:=h
 cases rx
 obtain⟨u,rfl,ru⟩:=rv.one
 obtain⟨its,r,p,hz⟩:=I.list ha
 obtain⟨⟨cls,dd,data,sl⟩,ho,hc,n,hd⟩:=id p.isList
 simp only at hc hd
 subst hc hd
 refine call_meets F.slot_list_count ⟨_,ho,rfl⟩ F.entry_list_count (F.args_list_count_2 _ _) (SeqAt.list_countAt a its.toArray n dd sl u (eqU y)) ⟨ho,λz hz=>q411 ru f1 r f2 z (by simpa using hz),?_⟩
 refine⟨.int (ys.countP λy'=>eqV y' y:Nat),H,I.tok _,?_,q⟩
 rw[<- q238 r f2]
 exact⟨_,rfl⟩
section
variable {K:Fg}
def q718(ns:List Int):(ns.map V.int).all flatV=true:=by
 rw[all_eq_true]
 intro x hx
 obtain⟨n,_,rfl⟩:=eE hx
 rfl
theorem q378(n:Int):∀ ns:List Int,(ns.map V.int).countP (λy=>eqV y (.int n))=ns.count n
 | []=>rfl
 | m::ns=>by
  rw[map_cons,YI,count_cons,q378 n ns]
  rfl
inductive q642(K:Fg)(x:V)(xs:List V)(H:Hp)(Q:VK):Prop
 |mk(a:Addr)(ns:List Int)(n:Int)(_:x = .ref a)(_:xs=[.int n])(_:SqL K H a (ns.map V.int))(_:Q (.int ((ns.count n:Nat):Int)) H)
def q719(h:X.K=K):MtR X "list.count" (q642 K):=by
 subst h
 intro pins s σ H x xs v us Q I rx rv h
 obtain⟨a,ns,n,rfl,rfl,ha,q⟩:=h
 refine q717 pins s σ H _ _ v us Q I rx rv ⟨a,_,_,rfl,rfl,ha,rfl,q718 ns,?_⟩
 rw[q378]
 exact q
def szB{n:Nat}(h:n<=100000):n<=sizeLine:=ZO h ∅
end
end L2
namespace TS
set_option autoImplicit false
open PySem PySem.W PyProof.Rows List
section
variable {prog:Program}{w:World}{A:Around}{E:VS}{s:Shared}
def q787{l:Addr}{vs:List Value}{ts:Value->I2}{Q:VS}(hl:s.heap.IsList l vs.toArray)(hT:∀ v∈vs,TupI2 s.heap v (ts v))(hz:vs.length<=sizeLine)
  (h:∀ out:Array Value,out.toList.Perm vs->(out.toList.Pairwise λx y=>lex2 (ts y) (ts x)=false)->Q (.ref (s.heap.objs.size+1)) { s with heap:=sortedAll s.heap vs out }):wpAny (model prog w) A (call (.builtin "sorted") [.ref l]) Q E s:=by
 refine Calls.call_function_entry kind_sorted plain_sorted entry_sorted (args_sorted1 _) ?_
 unfold Builtin.«sorted»
 refine ZC (m:=checkCount "sorted" 1 1 _) (ZP (ZC (collect_list hl (ZC (wpAny_newList ?_ (by show vs.length<=_;exact hz))) hz)))
 have hsz:((s.heap.push (seqObj "list" #[] 0)).update s.heap.objs.size (Obj.mapSeq (· ++ vs.toArray))).objs.size=s.heap.objs.size+1:=by rw[Heap.size_update,size_push']
 have hoL:(((s.heap.push (seqObj "list" #[] 0)).update s.heap.objs.size (Obj.mapSeq (· ++ vs.toArray))).push (seqObj "list" vs.toArray 0)).get? (s.heap.objs.size+1)=some (seqObj "list" vs.toArray 0):=by rw[<- hsz];exact ZV _ rfl
 have hT2:∀ v∈vs,TupI2 (((s.heap.push (seqObj "list" #[] 0)).update s.heap.objs.size (Obj.mapSeq (· ++ vs.toArray))).push (seqObj "list" vs.toArray 0)) v (ts v):=λv hv=>(hT v hv).keep λb o hb hc=>by
  have nb:b≠s.heap.objs.size:=WI (ZZ hb)
  exact ZH _ (((Heap.SameBut.update (s.heap.push (seqObj "list" #[] 0)) s.heap.objs.size (Obj.mapSeq (· ++ vs.toArray))).2 b nb).trans (ZH _ hb))
 show wpAny _ _ _ _ _ { s with heap:=((s.heap.push (seqObj "list" #[] 0)).update s.heap.objs.size (Obj.mapSeq (· ++ vs.toArray))).push (seqObj "list" vs.toArray 0) }
 rw[hsz]
 exact ZC (wpAny_holding (wpAny_call_entry slot_list_sort ⟨_,hoL,rfl⟩ entry_list_sort (q465 hoL hT2 hz λout a1 a2=>⟨_,rfl,ZP ⟨_,rfl,h out a1 a2⟩⟩) (args_list_sort _)))
end
end TS
namespace L2
open PySem PySem.Spec PyProof.Rows List
variable {X:Cx}
def q171(K:Fg)(H:Hp)(y:V)(u:TS.I2):Prop:=∃ a,y = .ref a/\SqT K H a [.int u.1,.int u.2]
theorem q582{s:Shared}(I:Inv X pins σ H s):∀{ys:List V}{us:List TS.I2}{its:List Value},Paired (q171 X.K H) ys us->Vals ys its ->
  (∀ v∈its,TS.TupI2 s.heap v (TS.tsOf2 s.heap v)/\q171 X.K H (absR v) (TS.tsOf2 s.heap v)/\RelV (absR v) v)/\ys=its.map absR/\us=its.map (TS.tsOf2 s.heap)
 | _,_,_,.nil,.nil=>⟨λv hv=>absurd hv (by simp),rfl,rfl⟩
 | _,_,_,.cons (a:=y) (b:=u) ht hp,.cons r rr=>by
  obtain⟨h1,h2,h3⟩:=q582 I hp rr
  obtain⟨a,rfl,hq⟩:=ht
  cases r
  obtain⟨its2,r1,p1,_⟩:=I.tuple hq
  obtain⟨o,ho,hc,n,hd⟩:=id p1
  cases r1 with
  | cons q1 r1=>
   cases r1 with
   | cons q2 r1=>
    cases r1
    obtain⟨t1,rfl⟩:=q1
    obtain⟨t2,rfl⟩:=q2
    have tp:TS.TupI2 s.heap (.ref a) u:=⟨a,o,n,t1,t2,rfl,ho,hc,hd⟩
    have e:=TS.tsOf2_eq tp
    refine⟨λv hv=>?_,by rw[map_cons,<- h2];rfl,by rw[map_cons,<- h3,e]⟩
    rcases eB hv with z | z
    ·rw[z,e]
     exact⟨tp,⟨a,rfl,hq⟩,rfl⟩
    ·exact h1 v z
inductive q423(K:Fg)(xs:List V)(H:Hp)(Q:VK):Prop
 |mk(p:Addr)(ys:List V)(us:List TS.I2)(_:xs=[.ref p])(_:SqL K H p ys)(_:Paired (q171 K H) ys us)(_:∀(l:Addr)(zs:List V)(vs:List TS.I2),H l=none->(zs.zip vs).Perm (ys.zip us)->Paired (q171 K H) zs vs->(vs.Pairwise λx y=>TS.lex2 y x=false)->Q (.ref l) (upd H l (.lst zs)))
def q471{K:Fg}(hK:X.K=K):CallR X (.builtin "sorted") (q423 K):=by
 subst hK
 intro pins s σ H xs us Q I r h
 obtain⟨p,ys,ts,rfl,hq,hp,q⟩:=h
 obtain⟨u,rfl,rx⟩:=vals1 r
 cases rx
 obtain⟨its,r',pl,hz⟩:=I.list hq
 have hl:=r'.length
 obtain⟨h1,h2,h3⟩:=q582 I hp r'
 refine TS.q787 (ts:=TS.tsOf2 s.heap) pl.isList (λv hv=>(h1 v hv).1) {} λout a1 a2=>?_
 obtain⟨e,he⟩:=PyProof.Rows.sortedAll_at s.heap its out
 have hml:out.toList.length=its.length:=a1.length_eq
 have hm:∀ v∈out.toList,v∈its:=λv hv=>a1.mem_iff.mp hv
 refine⟨.ref (s.heap.objs.size+1),_,I.laid (t':=s.toks) (a:=s.heap.objs.size+1) (o:=.lst (out.toList.map absR)) (λb ob z=>PyProof.Rows.sortedAll_old z) (Nat.le_succ _) ?_,rfl,q _ (out.toList.map absR) (out.toList.map (TS.tsOf2 s.heap)) (I.hok.fresh (Nat.le_succ _)) ?_ ?_ ?_⟩
 ·exists by rw[ZJ];lia,out.toList,e,?_
  ·have z:=q243 (R:=RelV) (f:=absR) (g:=id) out.toList λv hv=>(h1 v (hm v hv)).2.2
   rw[map_id]at z
   exact z
  ·rw[he]
 ·rw[h2,h3,zip_map',zip_map']
  exact a1.map _
 ·exact q243 out.toList λv hv=>(h1 v (hm v hv)).2.1
 ·rw[pairwise_map]
  exact a2
def q720:∀{ps qs:List (Int×Int)},ps.length=qs.length->(List.range ps.length).all (λj=>decide (ps.getD j (0,0)=qs.getD j (0,0)))=decide (ps=qs):=by
 intro ps qs hl
 by_cases c:ps=qs
 ·subst c
  rw[ZA rfl,all_eq_true]
  intro j _
  exact ZA rfl
 ·rw[ZN c,all_eq_false]
  have:∃ j,j<ps.length/\ps.getD j (0,0)≠qs.getD j (0,0):=by
   refine Classical.byContradiction λz=>c ?_
   refine ext_getElem hl λj h1 h2=>?_
   have y:=Classical.not_not.mp λy=>z ⟨j,h1,y⟩
   rw[YA,YA,ZM h1,ZM h2]at y
   exact y
  obtain⟨j,hj,hne⟩:=this
  exact⟨j,List.mem_range.mpr hj,by rw[ZN hne];exact fnt⟩
def q721(I:Inv X pins σ H s)(ha:SqL X.K H a xs)(hb:SqL X.K H b ys)(hp:q309 H xs ps)(hq:q309 H ys qs)(A:Around)(hu:A.units+8<cLine) :
  SeqAt.RcAt A s (.ref a) (.ref b) (decide (ps=qs))/\SeqAt.RcNeAt A s (.ref a) (.ref b) (!decide (ps=qs)):=by
 obtain⟨its,r1,p1,_⟩:=I.list ha
 obtain⟨its2,r2,p2,_⟩:=I.list hb
 have l1:=r1.length
 have l2:=r2.length
 have lp:=hp.1
 have lq:=hq.1
 by_cases hl:ps.length=qs.length
 ·have hz:its.toArray.size=its2.toArray.size:=by rw[WB,WB];lia
  have hn:its.toArray.size=ps.length:=by rw[WB];lia
  have el:∀(j:Nat)(h1:j<its.toArray.size)(h2:j<its2.toArray.size),SeqAt.EqAt A.in1 s its.toArray[j] its2.toArray[j] ((λj=>decide (ps.getD j (0,0)=qs.getD j (0,0))) j):=by
   intro j h1 h2
   have h1':j<xs.length:=by rw[WB]at h1;lia
   have h2':j<ys.length:=by rw[WB]at h2;lia
   obtain⟨v1,e1,r1'⟩:=r1.get (i:=j) (x:=xs[j]) (ZM h1')
   obtain⟨v2,e2,r2'⟩:=r2.get (i:=j) (x:=ys[j]) (ZM h2')
   have g1:its.toArray[j]=v1:=by
    have:=eA e1
    simpa using this.2
   have g2:its2.toArray[j]=v2:=by
    have:=eA e2
    simpa using this.2
   rw[g1,g2]
   have gp:ps[j]? = some (ps.getD j (0,0)):=by rw[YA,ZM (show j<ps.length by lia)];rfl
   have gq:qs[j]? = some (qs.getD j (0,0)):=by rw[YA,ZM (show j<qs.length by lia)];rfl
   obtain⟨c1,ec1,hc1⟩:=hp.2 j _ _ (ZM h1') gp
   obtain⟨c2,ec2,hc2⟩:=hq.2 j _ _ (ZM h2') gq
   rw[ec1]at r1'
   rw[ec2]at r2'
   cases r1'
   cases r2'
   show SeqAt.EqAt A.in1 s (.ref c1) (.ref c2) (decide (ps.getD j (0,0)=qs.getD j (0,0)))
   generalize ps.getD j (0,0)=p at *
   generalize qs.getD j (0,0)=q at *
   exact q703 I (SqT.of hc2) (SqT.of hc1) (λz=>by
    rw[z,hc1]at hc2
    cases q
    cases p
    cases hc2
    rfl) (by show A.units+1+4<cLine;lia)
  have t0:(List.range its.toArray.size).all (λj=>decide (ps.getD j (0,0)=qs.getD j (0,0)))=decide (ps=qs):=by rw[hn];exact q720 hl
  constructor
  ·rw[<- t0]
   exact SeqAt.RcAt.lists p1.isList p2.isList hz {} el
  ·rw[<- t0]
   exact SeqAt.RcNeAt.lists p1.isList p2.isList hz {} el
 ·have hne:¬ ps=qs:=λz=>hl (by rw[z])
  have hz:(its.toArray.size != its2.toArray.size)=true:=by
   rw[WB,WB]
   exact bne_iff_ne.mpr {}
  rw[ZN hne]
  exact⟨SeqAt.RcAt.lists_lengths p1.isList p2.isList hz {},SeqAt.RcNeAt.lists_lengths p1.isList p2.isList hz {}⟩
inductive Rop_eqPs(K:Fg)(x:V)(y:V)(H:Hp)(Q:VK):Prop
 |mk(a b:Addr)(xs ys:List V)(ps qs:List (Int×Int))(_:x = .ref a)(_:y = .ref b)(_:SqL K H a xs)(_:SqL K H b ys)(_:q309 H xs ps)(_:q309 H ys qs)(_:Q (.bl (decide (ps=qs))) H)
def op_eqPs(hu:X.A.units+64<cLine):OpR X (compareOp .Eq) (Rop_eqPs X.K):=by
 intro pins s σ H x y v u Q I rx ry h
 obtain⟨a,b,xs,ys,ps,qs,rfl,rfl,ha,hb,hp,hq,q⟩:=h
 cases rx
 cases ry
 exact(q721 I ha hb hp hq X.A {}).1 _ _ _ _ ⟨.bl _,H,I,rfl,q⟩
def Room.m{j k:Nat}(r:Room k A)(h:j<=k:=by decide):Room j A:=r.mono h
def fsc{N P:List Str}{sc:Scope}(h1:sc.kind = .function:=by rfl)(h2:sc.isCoroutine=false:=by rfl)(h3:sc.isGenerator=false:=by rfl)(h4:N.Nodup:=by decide +kernel)(h5:N.take P.length=P:=by rfl)(h6:∀ x∈P,sc.names.lookup x=some .local\/sc.names.lookup x=some .cell:=by decide +kernel)(h7:∀ y∈sc.names,y.2 ≠ .free:=by decide +kernel):FnScope N P sc:=⟨h1,h2,h3,h4,h5,h6,h7⟩
def Fun.k{P:Program}{w:World}{K:Fg}{mg:Mg}{base:Heap}{x qual:Str}{st:Stmt}{f:Addr}{fd:FuncData}{N ps:List Str}{k:Nat}{sp:Sp}(F:Fun K x qual st f fd)(S:FnScope N ps (q16 st))
  (hbody:∀(cdv:Value)(A:Around)(outer:List Env)(s:Shared)(H:Hp)(vs:List V)(Q:VK)(E:XK),Room k (A.deeper (envOfC qual (q16 st) s.heap.objs.size f cdv))->sp vs H Q E ->
   ∃ t,PSs (cxOf CX0 P w K mg base N qual (q16 st) f cdv A outer s H E).nox (q91 st) t/\t { nx:=λ_ H'=>Q .non H',rt:=Q } (start N vs) H)
  (len:∀ vs H Q E,sp vs H Q E->vs.length=ps.length:=by intro _ _ _ _ h;cases h;subst_vars;rfl):FnOk P w K mg base CX0 (k+1) f fd ps sp:=F.ok S len hbody
section
variable {pos:Pos}
def pst(i:Nat){pos':Pos}(hN:X.N.Nodup)(he:PE X e te)(hi:X.N[i]? = some x:=by rfl)(hx:Loc X.env.scope x:=by walk_at "c") (hs:swapsWith e (some (.Name x pos')) pos.line X.env=pure false:=by rfl) (hf:X.fn x=true\/X.env.scope.names.lookup x=some .local:=by walk_at "a") :
  PS X (.Assign [.Name x pos'] e pos) (tAsg te (gName i)):=ps_set hN hi hx he hs hf
def pix(hr:IxR X r)(ha:PE X a ta)(hb:PE X b tb)(hs:q683 b:=by exact λ_ _=>rfl):PE X (.Subscript a b pos) (tOp r ta tb):=pe_ix hr ha hb hs
def pgn(i:Nat)(hN:X.N.Nodup)(hi:X.N[i]? = some x:=by rfl)(hx:Loc X.env.scope x:=by walk_at "c") (hf:X.fn x=true\/X.env.scope.names.lookup x=some .local:=by walk_at "a"):PG X (.Name x pos) (gName i):=q105 hN hi hx hf
def pln{p:Pos}(hm:X.mg "len" = none) (ha:PA X (e::es) t) (hg:Gl X "len" := by rfl) (he:starEach (e::es) X.env=(false,eval e X.env)::starEach es X.env:=by rfl) (hpl:(backTo pos (starEach es X.env)).any (·.1)=false:=by rfl) :
  PE X (.Call (.Name "len" p) (e::es) [] pos) (tCB (q124 X.K) t):=q36 q262 hg hm bt_len ha ∅ ∅ he hpl
end
def cok{x:Str}{N:List Str}(h1:∀ p∈relN scope sc0,(p.2 = .cell\/p.2 = .free)->p.1∈cn:=by decide +kernel)(h2:∀ p∈scope.names,p.2 ≠ .cell:=by decide +kernel)(h3:∀ p∈scope.names,p.2 = .local->scope.names.lookup p.1=some .local:=by decide +kernel)(h4:scope.names.lookup x=some .local:=by decide +kernel)(h5:(relN scope sc0).lookup x=some .local:=by decide +kernel)(h6:(x::N).Nodup:=by decide +kernel)(h7:∀ y∈N,(relN scope sc0).lookup y=some .cell/\sc0.names.lookup y=some .cell/\y∈cn:=by decide +kernel):CompOk scope sc0 x N cn:=⟨h1,h2,h3,h4,h5,h6,h7⟩
def mt0{p:List Value->Prop}{n:Nat}(h:∀ a t,t.length=n->p (a::t)):∀ us,us.length=n+1->p us:=λus e=>by
 obtain⟨a,t,rfl⟩:=List.exists_cons_of_length_eq_add_one e
 exact h a t (Nat.succ.inj e)
def mt1{p:List Value->Prop}(h:∀ a,p [a]):∀ us,us.length=1->p us:=mt0 λa _ e=>List.eq_nil_of_length_eq_zero e▸h a
def mt2{p:List Value->Prop}(h:∀ a b,p [a,b]):∀ us,us.length=2->p us:=mt0 λa=>mt1 (h a)
def mt3{p:List Value->Prop}(h:∀ a b c,p [a,b,c]):∀ us,us.length=3->p us:=mt0 λa=>mt2 (h a)
def mt4{p:List Value->Prop}(h:∀ a b c d,p [a,b,c,d]):∀ us,us.length=4->p us:=mt0 λa=>mt3 (h a)
def mt5{p:List Value->Prop}(h:∀ a b c d e,p [a,b,c,d,e]):∀ us,us.length=5->p us:=mt0 λa=>mt4 (h a)
def nwH(h:H q=none)(o:HO):∃ G,upd H q o=G/\Same H G/\G q=some o:=⟨_,rfl,q17 h o,q14⟩
def Tps(H0 H:Hp):Prop:=∀ b o,H0 b=some o->H b=some o /\ ∃ xs,o = .tup xs
def Tps.no(t:Tps H0 H)(h:H b=none):H0 b=none:=by
 cases e:H0 b with
 | none=>rfl
 | some o=>rw[(t b o e).1]at h;cases h
def Tps.nil(H:Hp):Tps (λ_=>none) H:=λ_ _ z=>nomatch z
noncomputable def Lam(K:Fg)(k:Nat)(H:Hp)(f:Addr)(C:List Int->Prop)(φ:List Int->Bool):Prop:=
 ∃(os:List (Addr×Obj)) (H0:Hp),Tps H0 H/\(∀ p∈os,H p.1=some (.frz p.2 (.own p.1)))/\(∃ oc od fd sl,(f,(⟨oc,od,.func fd,sl⟩:Obj))∈os) /\
  ∀(P:Program)(w:World)(mg:Mg)(base:Heap)(A:Around)(outer:List Env)(s:Shared)(us:List Value)(ns:List Int),
   Room k A->Env0 P w K mg base A outer s H0->(∀ p∈os,s.heap.get? p.1=some p.2)->Vals (ns.map V.int) us->C ns ->
    codeAny (model P w) A (.call (.ref f) ⟨us,[]⟩) (CR CX0 outer P w H0 s (λv _=>v = .bl (φ ns)) E0) s
def Lam.same{K:Fg}{k:Nat}{H H':Hp}{f:Addr}{C:List Int->Prop}{φ:List Int->Bool}(L:Lam K k H f C φ)(s:Same H H'):Lam K k H' f C φ:=
 let ⟨os,H0,t,a,b⟩:=L;⟨os,H0,λb o e=>⟨s _ _ (t b o e).1,(t b o e).2⟩,λp hp=>s _ _ (a p hp),b⟩
def un_none(t:Tps H0 H)(u:Un fs [] H0 H' h h'):Un fs [] H H h h':=
 ⟨λb o e n hb hx=>u.keep b o e (t.no n) hb hx,λb o e n hb hx=>u.slot b o e (t.no n) hb hx,λ_ _ _ n _=>n,λb o e hx=>u.there b o e hx,λ_ _ q=>q,λ_ _ _ q=>q,λ_ ps q=>⟨#[],by rw[q];simp⟩⟩
def hok_none(t:Tps H0 H)(ok:HOk P w H h)(ok':HOk P w H' h')(u:Un fs [] H0 H' h h')(frf:∀ b∈fs,H b=none):HOk P w H h':=λa o e=>by
 cases e0:H0 a with
 | some o'=>
  obtain⟨e1,xs,rfl⟩:=t a o' e0
  rw[e]at e1
  cases e1
  exact ok' a _ (u.tups a xs e0)
 | none=>
  refine(ok a o e).stay (λb v hb q=>u.keep b v q ?_ (λz=>?_) (by simp)) (λ_ q=>q) λ_ _ q=>q
  ·rcases hb with rfl | hb
   ·exact e0
   ·cases z:H0 b with
    | none=>rfl
    | some o'=>
     obtain⟨e1,xs,rfl⟩:=t b o' z
     rw[hb]at e1;cases e1
  ·have n:=frf b z
   rcases hb with rfl | hb
   ·rw[n]at e;cases e
   ·rw[n]at hb;cases hb
def Env0.sub{P:Program}{w:World}{K:Fg}{mg:Mg}{base:Heap}{A:Around}{outer:List Env}{s:Shared}{H H0:Hp}(e:Env0 P w K mg base A outer s H)(t:Tps H0 H):Env0 P w K mg base A outer s H0:=
 ⟨e.frames,e.mod,λb o z=>⟨(e.bs b o z).1,t.no (e.bs b o z).2⟩,e.bsz,e.funs,λb hb=>t.no (e.frf b hb),λa o z=>by
  obtain⟨e1,xs,rfl⟩:=t a o z
  exact e.hok a _ e1,e.bare⟩
inductive tCallV(K:Fg)(k i:Nat)(t:TA)(σ:St)(H:Hp)(Q:VK):Prop
 |mk(f C φ)(_:σ[i]? = some (some (.ref f)))(_:Lam K k H f C φ)(_:t σ H λvs H1=>∃ ns:List Int,vs=ns.map V.int/\Lam K k H1 f C φ/\C ns/\Q (.bl (φ ns)) H1)
def pe_callV(i:Nat){k:Nat}{p pos:Pos}(hr:Room k X.A)(ha:PA X (e::es) t)(hN:X.N[i]? = some x:=by rfl)
  (hv:Vis X.env.scope x:=by walk_at "b") (hd:(x==("__debug__" : Str))=false:=by decide) (hcd:(x==("__classdict__" : Str))=false:=by decide)
  (he:starEach (e::es) X.env=(false,eval e X.env)::starEach es X.env:=by rfl) (hpl:(backTo pos (starEach es X.env)).any (·.1)=false:=by rfl) :
  PE X (.Call (.Name x p) (e::es) [] pos) (tCallV X.K k i t):=by
 intro pins s σ H Q I h
 obtain⟨f,C,φ,hσ,⟨os0,_,_,hos0,⟨oc,od,fd,sl,hm0⟩,_⟩,h⟩:=h
 refine wpAny_Call_Name_kw (thn (q667 hN hv hd hcd pins s σ H (λv H'=>v = .ref f/\H'=H) I ⟨_,hσ,rfl,rfl⟩) λu s1 ⟨v,H',I',r,e1,e2⟩=>?_)
 subst e1 e2
 cases r
 refine PySem.W.callWith_F ⟨_,_,_,_,(I'.hok _ _ (hos0 _ hm0)).1⟩ (thn (ha pos pins s1 σ H' _ I' h) λus s2 ⟨vs,H1,I1,r,q⟩=>?_) he hpl
 obtain⟨ns,rfl,⟨os,H0,tp,hos,⟨oc,od,fd,sl,hm⟩,run⟩,hC,q⟩:=q
 exists⟨_,_,_,_,(I1.hok _ _ (hos _ hm)).1⟩
 have e0:=I1.env0
 refine wpAny_call (codeAny_mono (run X.prog X.w X.mg X.base X.A X.stack s2 us ns hr (e0.sub tp) (λp hp=>(I1.hok _ _ (hos p hp)).1) r hC) λrr s' hq=>?_)
 cases rr with
 | error e=>exact False.elim hq
 | ok fl=>
  cases fl with
  | ret u=>
   obtain⟨v,H',os',bare,un,hok,rv,qv⟩:=hq
   subst qv
   exact I1.after ⟨_,H1,os',bare,un_none tp un,hok_none tp I1.hok hok un e0.frf,rv,q⟩
  | next=>exact False.elim hq
  | brk=>exact False.elim hq
  | cont=>exact False.elim hq
noncomputable def lamCx(P:Program)(w:World)(K:Fg)(mg:Mg)(base:Heap)(N:List Str)(qual:Str)(scope:Scope)(f:Addr)(cd:Value)(cl:List (Str×Addr))(A:Around)(outer:List Env)(s:Shared)(H0:Hp):Cx where
 prog:=P
 w:=w
 K:=K
 mg:=mg
 base:=base
 A:=A.deeper (PySem.W.envX qual scope s.heap.objs.size f cd cl)
 N:=N
 s₀:=s
 H₀:=H0
 env:=PySem.W.envX qual scope s.heap.objs.size f cd cl
 outer:=outer
 stack:=PySem.W.envX qual scope s.heap.objs.size f cd cl::outer
 ex:=[]
 calm:=true
 fn:=λ_=>false
 pn:=[]
 xe:=λe s'=>wpAny (model P w) (A.deeper (PySem.W.envX qual scope s.heap.objs.size f cd cl)) (leaving (PySem.W.envX qual scope s.heap.objs.size f cd cl) e) (λ_ _=>False) (λ_ _=>False) s'
def q114(H:Hp):List (Str×Addr)->List V->Prop
 | [],[]=>True
 | (_,c)::cl,v::vs=>(∃ o u,H c=some (.frz o (.own c))/\o.data = .cell (some u)/\RelV v u)/\q114 H cl vs
 | _,_=>False
def q93(h:Heap):List (Str×Addr)->List V->Prop
 | [],[]=>True
 | (_,c)::cl,v::vs=>(∃ u,h.IsCell c (some u)/\RelV v u)/\q93 h cl vs
 | _,_=>False
theorem q93.get{h:Heap}:∀{cl:List (Str×Addr)} {vs:List V},q93 h cl vs -> ∀{i:Nat}{v:V},vs[i]? = some v -> ∃ y c u,cl[i]? = some (y,c)/\h.IsCell c (some u)/\RelV v u
 | [],[],_,i,v,e=>by simp at e
 | (y,c)::cl,v::vs,⟨⟨u,h1,h2⟩,_⟩,0,w,e=>by simp at e;subst e;exact⟨y,c,u,rfl,h1,h2⟩
 | (y,c)::cl,v::vs,⟨_,t⟩,i+1,w,e=>q93.get t (i:=i) (by simpa using e)
theorem q93.len{h:Heap}:∀{cl:List (Str×Addr)} {vs:List V},q93 h cl vs->cl.length=vs.length
 | [],[],_=>rfl
 | _::_,_::_,⟨_,t⟩=>congrArg (· + 1) (q93.len t)
theorem q93.of{h:Heap}:∀{cl:List (Str×Addr)} {vs:List V},q93 h cl vs -> ∀{y:Str}{c:Addr},(y,c)∈cl -> ∃ v,h.IsCell c v
 | (y,c)::cl,v::vs,⟨⟨u,h1,h2⟩,_⟩,_,_,.head _=>⟨_,h1⟩
 | _::_,_::_,⟨_,t⟩,_,_,.tail _ m=>q93.of t m
theorem q93.keeps{h h':Heap}(k:∀ b o,h.get? b=some o->h'.get? b=some o):∀{cl:List (Str×Addr)} {vs:List V},q93 h cl vs->q93 h' cl vs
 | [],[],_=>trivial
 | _::_,_::_,⟨⟨u,h1,h2⟩,t⟩=>⟨⟨u,h1.keeps k,h2⟩,q93.keeps k t⟩
structure LamScope(ps ys:List Str)(sc:Scope):Prop where
 kind:sc.kind = .function
 co:sc.isCoroutine=false
 gen:sc.isGenerator=false
 nocell:∀ x∈sc.names,x.2 ≠ .cell
 nd:(ps++ys).Nodup
 par:∀ x∈ps,sc.names.lookup x=some .local
 fre:∀ x∈ys,sc.names.lookup x=some .free
 has:∀ p∈sc.names,p.2 = .free->p.1∈ys
def lsc{ps ys:List Str}{sc:Scope}(h1:sc.kind = .function:=by rfl)(h2:sc.isCoroutine=false:=by rfl)(h3:sc.isGenerator=false:=by rfl)(h4:∀ x∈sc.names,x.2 ≠ .cell:=by decide +kernel)(h5:(ps++ys).Nodup:=by decide +kernel)(h6:∀ x∈ps,sc.names.lookup x=some .local:=by decide +kernel)(h7:∀ x∈ys,sc.names.lookup x=some .free:=by decide +kernel)(h8:∀ p∈sc.names,p.2 = .free->p.1∈ys:=by decide +kernel):LamScope ps ys sc:=⟨h1,h2,h3,h4,h5,h6,h7,h8⟩
def q643{ps:List Str}{us:List Value}{i:Nat}{y:Str}{u:Value}(nd:ps.Nodup)(h1:ps[i]? = some y)(h2:us[i]? = some u):(ps.zip us).reverse.lookup y=some u:=by
 have hz:(ps.zip us)[i]? = some (y,u):=by rw[getElem?_zip_eq_some];exact⟨h1,h2⟩
 have hm:(y,u)∈(ps.zip us).reverse:=List.mem_reverse.mpr (WY hz)
 have key:∀(l:List (Str×Value)),(y,u)∈l->(∀ v,(y,v)∈l->v=u)->l.lookup y=some u:=by
  intro l
  induction l with
  | nil=>intro m;cases m
  | cons a l ih=>
   intro m un
   obtain⟨b,v⟩:=a
   by_cases e:y=b
   ·subst e
    rw[lookup_cons_self,un v (WC ..)]
   ·rw[lookup_cons,show(y==b)=false from beq_eq_false_iff_ne.mpr e]
    refine ih ?_ λv hv=>un v (ZX _ hv)
    rcases eB m with h | h
    ·cases h;exact absurd rfl e
    ·exact h
 refine key _ hm λv hv=>?_
 obtain⟨j,hj⟩:=mem_iff_getElem?.mp (List.mem_reverse.mp hv)
 rw[getElem?_zip_eq_some]at hj
 have e:i=j:=(getElem?_inj (eA h1).1 nd).mp (h1.trans hj.1.symm)
 subst e
 rw[h2]at hj
 exact(Option.some.inj hj.2).symm
def q722{P:Program}{w:World}{K:Fg}{mg:Mg}{base:Heap}{ps ys:List Str}{qual:Str}{scope:Scope}{f:Addr}{cd:Value}{cl:List (Str×Addr)}{A:Around}{outer:List Env}{s:Shared}{h₁:Heap}{tk:Tok}{us:List Value}{vs cv:List V}{H0:Hp}
  (S:LamScope ps ys scope) (hcl:cl.map (·.1)=ys) (hinj:(cl.map (·.2)).Nodup) (hd:A.handled=none) (e0:Env0 P w K mg base A outer s H0) (hcn:∀ y c,(y,c)∈cl->H0 c=none) (hl:vs.length=ps.length) (r:Vals vs us) (hc:q93 h₁ cl cv)
  (hns:h₁.Ns s.heap.objs.size (λx=>(ps.zip us).reverse.lookup x)) (hk:∀ b o,s.heap.get? b=some o->h₁.get? b=some o) :
  Inv (lamCx P w K mg base (ps++ys) qual scope f cd cl A outer s H0) [] ((vs++cv).map some) H0 { s with heap:=h₁,toks:=tk }:=by
 have noA:∀ b:Addr,b ∉ (lamCx P w K mg base (ps++ys) qual scope f cd cl A outer s H0).ex:=λb z=>absurd (show b∈([]:List Addr)from z) (by simp)
 have ndY:ys.Nodup:=(List.nodup_append.mp S.nd).2.1
 have ndP:ps.Nodup:=(List.nodup_append.mp S.nd).1
 have lkY:∀{i:Nat}{y:Str}{c:Addr},cl[i]? = some (y,c)->cl.lookup y=some c:=fun {i y c} h=>by
  have key:∀(l:List (Str×Addr)),(l.map (·.1)).Nodup->(y,c)∈l->l.lookup y=some c:=by
   intro l
   induction l with
   | nil=>intro _ m;cases m
   | cons a l ih=>
    intro nd m
    obtain⟨b,d⟩:=a
    rcases eB m with h | h
    ·cases h;exact lookup_cons_self
    ·have hne:y≠b:=λe=>(List.nodup_cons.mp nd).1 (e▸mem_map_of_mem (f:=(·.1)) h)
     rw[lookup_cons,show(y==b)=false from beq_eq_false_iff_ne.mpr hne]
     exact ih (List.nodup_cons.mp nd).2 h
  exact key cl (by rw[hcl];exact ndY) (WY h)
 refine⟨⟨e0.mod,S.kind,rfl,rfl,ZG _,λy z c h1 h2=>?_,λy hy=>?_,λy c z _=>Bool.noConfusion z,λ_=>hd,Around.frames_deeper e0.frames,.inr ⟨rfl,rfl⟩,λb z=>absurd z (noA b),e0.bs,e0.bsz,λb _ _=>noA b,λb z=>absurd z (noA b),e0.funs,e0.frf⟩,
  rfl,e0.bare,Un.kept hk,⟨_,hns,λi y v h1 h2 h3=>?_⟩,λy c h=>hc.of (YM h),e0.hok.fresh (ZG _),λy c h=>hcn y c (YM h),λp hp=>absurd (show p∈([]:List (Addr×Obj))from hp) (by simp),λa o z=>(e0.hok a o z).stay (λb u _ q=>hk b u q) (λ_ q=>q) (λ_ _ q=>q),?_⟩
 ·obtain⟨i,hi⟩:=mem_iff_getElem?.mp (YM h1)
  obtain⟨j,hj⟩:=mem_iff_getElem?.mp (YM h2)
  replace hi:cl[i]? = some (y,c):=hi
  replace hj:cl[j]? = some (z,c):=hj
  have e1:(cl.map (·.2))[i]? = some c:=by rw[WH,hi];rfl
  have e2:(cl.map (·.2))[j]? = some c:=by rw[WH,hj];rfl
  have e:i=j:=(getElem?_inj (eA e1).1 hinj).mp (e1.trans e2.symm)
  subst e
  rw[hi]at hj
  cases hj
  rfl
 ·have hy':scope.names.lookup y=some .cell\/scope.names.lookup y=some .free:=hy
  rcases hy' with hy | hy
  ·exact absurd rfl (S.nocell _ (YM hy))
  ·have hm:=S.has _ (YM hy) rfl
   rw[<- hcl]at hm
   obtain⟨⟨y',c⟩,hm2,rfl⟩:=eE hm
   obtain⟨i,hi⟩:=mem_iff_getElem?.mp hm2
   exact⟨c,lkY hi⟩
 ·have h1':(ps++ys)[i]? = some y:=h1
  rw[WH]at h2
  obtain⟨v',hv',e⟩:=Option.map_eq_some_iff.mp h2
  cases e
  by_cases hi:i<ps.length
  ·rw[YX hi]at h1'
   rw[YX (W55 hi hl)]at hv'
   obtain⟨u,hu,rv⟩:=r.get hv'
   exact⟨u,rv,.inl ⟨S.par y (WY h1'),q643 ndP h1' hu⟩⟩
  ·rw[YL {}]at h1' hv'
   rw[hl]at hv'
   obtain⟨y',c,u,hy,hcell,rv⟩:=hc.get hv'
   have e:ys[i-ps.length]? = some y':=by rw[<- hcl,WH,hy];rfl
   rw[h1']at e
   cases e
   exact⟨u,rv,.inr ⟨.inr (S.fre y (WY h1')),c,lkY hy,hcell⟩⟩
 ·show _=(ps++ys).length
  have:=hc.len
  have:=congrArg List.length hcl
  rw[ZJ]at this
  rw[ZJ,ZQ,ZQ]
  lia
theorem q114.os:∀{cl:List (Str×Addr)} {vs:List V},q114 H cl vs -> ∃ os:List (Addr×Obj),(∀ p∈os,H p.1=some (.frz p.2 (.own p.1))) /\ ∀ h:Heap,(∀ p∈os,h.get? p.1=some p.2)->q93 h cl vs
 | [],[],_=>⟨[],(λ_ z=>nomatch z),λ_ _=>trivial⟩
 | (_,c)::_,_::_,⟨⟨o,u,h1,h2,h3⟩,t⟩=>by
  obtain⟨os,a,b⟩:=q114.os t
  refine⟨(c,o)::os,λp hp=>?_,λh hh=>⟨⟨u,⟨o,hh _ (WC ..),h2⟩,h3⟩,b h λp hp=>hh p (ZX _ hp)⟩⟩
  rcases eB hp with rfl | hp
  ·exact h1
  ·exact a p hp
theorem Tps.cells(t:Tps H0 H):∀{cl:List (Str×Addr)} {vs:List V},q114 H cl vs -> ∀ y c,(y,c)∈cl->H0 c=none
 | (_,c)::cl,v::vs,⟨⟨o,u,h1,_⟩,r⟩,y,c',hm=>by
  rcases eB hm with h | h
  ·cases h
   cases e:H0 c with
   | none=>rfl
   | some o'=>
    obtain⟨e1,xs,rfl⟩:=t c o' e
    rw[h1]at e1;cases e1
  ·exact Tps.cells t r y c' h
def q723{K:Fg}{k:Nat}{H:Hp}{f c:Addr}{oc:Obj}{name qual:Str}{params:Arguments}{body:Expr}{scope:Scope}{cl:List (Str×Addr)}{pm ctv:Value}{ps ys:List Str}{cv:List V}{C:List Int->Prop}{φ:List Int->Bool}{vs:Array Value}{tq:Tok}
  (H0:Hp) (tp:Tps H0 H) (S:LamScope ps ys scope) (hcl:cl.map (·.1)=ys) (hinj:(cl.map (·.2)).Nodup) (hf:H f=some (.frz (PySem.W.kla_obj name qual params body scope cl pm c ctv) (.own f)))
  (hc:H c=some (.frz oc (.own c))) (hd:oc.data = .fields vs) (hv:vs[1]? = some (.str qual tq)) (hcells:q114 H cl cv)
  (hb:∀ us:List Value,us.length=ps.length->bindArgs (PySem.W.kla_fn name qual params body scope cl pm (.ref c) ctv) ⟨us,[]⟩=pure (ps.zip us)) (hlen:∀ ns,C ns->ns.length=ps.length)
  (hbody:∀(P:Program)(w:World)(mg:Mg)(base:Heap)(A:Around)(outer:List Env)(s:Shared),∃ t,PE (lamCx P w K mg base (ps++ys) qual scope f (.ref c) cl A outer s H0) body t /\ ∀ ns,C ns->t ((ns.map V.int++cv).map some) H0 (λv _=>v = .bl (φ ns))) :
  Lam K (k+1) H f C φ:=by
 obtain⟨os,a,b⟩:=hcells.os
 have hcn:=tp.cells hcells
 refine⟨(f,PySem.W.kla_obj name qual params body scope cl pm c ctv)::(c,oc)::os,H0,tp,λp hp=>?_,⟨_,_,_,_,WC ..⟩,λP w mg base A outer s us ns hr e0 hos r hC=>?_⟩
 ·rcases eB hp with rfl | hp
  ·exact hf
  ·rcases eB hp with rfl | hp
   ·exact hc
   ·exact a p hp
 have gf:=hos _ (WC ..)
 have gc:=hos _ (ZX _ (WC ..))
 have hl:(ns.map V.int).length=ps.length:=by rw[ZJ];exact hlen ns hC
 have lim:s.heap.NoLimit:=e0.mod.nolimit.keeps λb o e=>(e0.bs b o e).1
 refine PySem.W.kla_callFunE hr.depth gf rfl S.co S.gen rfl ⟨c,oc,vs,tq,rfl,gc,hd,hv⟩ ?_
 show wpAny _ _ (bindArgs (PySem.W.kla_fn name qual params body scope cl pm (.ref c) ctv) ⟨us,[]⟩) _ _ s
 rw[hb us (by rw[<- r.length];exact hl)]
 refine ZP (wpAny_newFunctionEnv S.nocell (λy hy=>S.par y.1 (of_mem_zip hy).1) (λh₁ hns hsb=>?_) S.kind)
 have hk:∀ b o,s.heap.get? b=some o->h₁.get? b=some o:=λb o e=>hsb.extBut b o (WI (ZZ e)) (ZH _ e)
 exists lim.keeps hk
 obtain⟨t,ht,hq⟩:=hbody P w mg base A outer s
 show codeAny _ _ (.expr body (PySem.W.envX qual scope s.heap.objs.size f (.ref c) cl)) _ _
 refine PySem.W.kla_codeExpr (YS (ht [] _ _ _ _ (q722 S hcl hinj hr.hd e0 hcn hl r ((b s.heap λp hp=>hos p (ZX _ (ZX _ hp))).keeps hk) hns hk) (hq ns hC)) (λu s' h=>?_) λe s' h=>h)
 obtain⟨v,H',I',r',q'⟩:=h
 exact⟨v,H',I'.os,I'.bare,I'.base,I'.hok,r',q'⟩
theorem nest_of{K:Fg}{k:Nat}{H:Hp}{f c:Addr}{oc:Obj}{name qual:Str}{params:Arguments}{body:List Stmt}{scope:Scope}{cl:List (Str×Addr)}{doc pm ctv:Value}{ps ys:List Str}{cv:List V}{C:List Int->Prop}{φ:List Int->Bool}{vs:Array Value}{tq:Tok}
  (H0:Hp) (tp:Tps H0 H) (S:LamScope ps ys scope) (hcl:cl.map (·.1)=ys) (hinj:(cl.map (·.2)).Nodup) (hf:H f=some (.frz (PySem.W.fnMade name qual params body scope cl doc pm c ctv) (.own f)))
  (hc:H c=some (.frz oc (.own c))) (hd:oc.data = .fields vs) (hv:vs[1]? = some (.str qual tq)) (hcells:q114 H cl cv)
  (hb:∀ us:List Value,us.length=ps.length->bindArgs (PySem.W.fnX name qual params body scope cl .none .none doc pm none (.ref c) ctv) ⟨us,[]⟩=pure (ps.zip us)) (hlen:∀ ns,C ns->ns.length=ps.length)
  (hbody:∀(P:Program)(w:World)(mg:Mg)(base:Heap)(A:Around)(outer:List Env)(s:Shared),∃ t,PSs (lamCx P w K mg base (ps++ys) qual scope f (.ref c) cl A outer s H0) body t /\ ∀ ns,C ns->t { nx:=λ_ _=>False,rt:=λv _=>v = .bl (φ ns) } ((ns.map V.int++cv).map some) H0) :
  Lam K (k+1) H f C φ:=by
 obtain⟨os,a,b⟩:=hcells.os
 have hcn:=tp.cells hcells
 refine⟨(f,PySem.W.fnMade name qual params body scope cl doc pm c ctv)::(c,oc)::os,H0,tp,λp hp=>?_,⟨_,_,_,_,WC ..⟩,λP w mg base A outer s us ns hr e0 hos r hC=>?_⟩
 ·rcases eB hp with rfl | hp
  ·exact hf
  ·rcases eB hp with rfl | hp
   ·exact hc
   ·exact a p hp
 have gf:=hos _ (WC ..)
 have gc:=hos _ (ZX _ (WC ..))
 have hl:(ns.map V.int).length=ps.length:=by rw[ZJ];exact hlen ns hC
 have lim:s.heap.NoLimit:=e0.mod.nolimit.keeps λb o e=>(e0.bs b o e).1
 refine codeAny_call_function hr.depth gf rfl S.co S.gen rfl ⟨c,oc,vs,tq,rfl,gc,hd,hv⟩ ?_
 show wpAny _ _ (bindArgs (PySem.W.fnX name qual params body scope cl .none .none doc pm none (.ref c) ctv) ⟨us,[]⟩) _ _ s
 rw[hb us (by rw[<- r.length];exact hl)]
 refine ZP (wpAny_newFunctionEnv S.nocell (λy hy=>S.par y.1 (of_mem_zip hy).1) (λh₁ hns hsb=>?_) S.kind)
 have hk:∀ b o,s.heap.get? b=some o->h₁.get? b=some o:=λb o e=>hsb.extBut b o (WI (ZZ e)) (ZH _ e)
 exists lim.keeps hk
 obtain⟨t,ht,hq⟩:=hbody P w mg base A outer s
 show codeAny _ _ (.func body (PySem.W.envX qual scope s.heap.objs.size f (.ref c) cl)) _ _
 refine codeAny_func (YS (ht [] _ _ _ _ (q722 S hcl hinj hr.hd e0 hcn hl r ((b s.heap λp hp=>hos p (ZX _ (ZX _ hp))).keeps hk) hns hk) (hq ns hC)) (λfl s' h=>?_) λe s' h=>h)
 cases fl with
 | ret u=>
  obtain⟨v,σ',H',I',r',q'⟩:=h
  exact⟨v,H',I'.os,I'.bare,I'.base,I'.hok,r',q'⟩
 | next=>obtain⟨_,_,_,q⟩:=h;exact False.elim q
 | brk=>obtain⟨_,_,_,q⟩:=h;exact False.elim q
 | cont=>obtain⟨_,_,_,q⟩:=h;exact False.elim q
def Tab(H:Hp)(T:Addr)(pos:Pos)(qual:Str):Prop:=
 ∃ ps,H T=some (.tbl ps)/\TriplesOk ps.toList/\(codeAmong pos ps.toList=none \/ ∃ c oc vs tq,codeAmong pos ps.toList=some (.ref c)/\H c=some (.frz oc (.own c))/\oc.data = .fields vs/\vs[1]? = some (.str qual tq))
def Tab.same(x:Tab H T pos qual)(s:Same H H'):Tab H' T pos qual:=by
 obtain⟨ps,h1,h2,h3⟩:=x
 exists ps,s _ _ h1,h2
 rcases h3 with h | ⟨c,oc,vs,tq,a,b,d⟩
 ·exact .inl h
 ·exact .inr ⟨c,oc,vs,tq,a,s _ _ b,d⟩
theorem q143{a b:Int}:∀{l:List Value},TriplesOk l->TriplesOk (l++[.int a t,.int b u,v])
 | [],_=>trivial
 | .int _ _ :: .int _ _::_::rest,h=>q143 (l:=rest) h
def Inv.tabbed{s:Shared}{h':Heap}{tk:Tok}{c f:Addr}{more:Array Value}{oc fo:Obj}(I:Inv X pins σ H s)(hT:H T=some (.tbl ps))
  (hx:∀ b o,b≠T->s.heap.get? b=some o->h'.get? b=some o) (gT:h'.get? T=some { cls:=.none,data:=.fields (ps++more) }) (gc:h'.get? c=some oc) (gf:h'.get? f=some fo) (hc:s.heap.objs.size<=c) (hcf:c<f) :
  Inv X pins σ (upd (upd (upd H T (.tbl (ps++more))) c (.frz oc (.own c))) f (.frz fo (.own f))) { s with heap:=h',toks:=tk }:=by
 have nc:H c=none:=I.hok.fresh hc
 have nf:H f=none:=I.hok.fresh (ZO hc (Nat.le_of_lt hcf))
 have old:∀{b:Addr}{o:HO},H b=some o->b≠T->upd (upd (upd H T (.tbl (ps++more))) c (.frz oc (.own c))) f (.frz fo (.own f)) b=some o:=fun {b o} e n=>by
  rw[q27 (q26 e nf),q27 (q26 e nc),q27 n];exact e
 have atT:upd (upd (upd H T (.tbl (ps++more))) c (.frz oc (.own c))) f (.frz fo (.own f)) T=some (.tbl (ps++more)):=by
  rw[q27 (q26 hT nf),q27 (q26 hT nc),q14]
 have nT:∀{b:Addr}{o:HO},H b=some o->(∀ qs,o ≠ .tbl qs)->b≠T:=λe n z=>by subst z;rw[hT]at e;cases e;exact n _ rfl
 have kept:∀ b o,s.heap.get? b=some o->H b=none->h'.get? b=some o:=λb o e n=>hx b o (λz=>by subst z;rw[hT]at n;cases n) e
 refine I.call' (ch:=[]) rfl ⟨λb o e n _ _=>kept b o e n,λb o e n _ _=>⟨o.slots,kept b o e n⟩,λb o e n _=>?_,λb o e _=>?_,λb xs e=>old e (nT e (by intro _ z;cases z)),λb o u e=>old e (nT e (by intro _ z;cases z)),λb qs e=>?_⟩ (λa o e=>?_) I.bare λb z=>absurd z (by simp)
 ·have hb:=ZZ e
  rw[q27 (WI (Nat.lt_trans (WG hb hc) hcf)),q27 (WI (WG hb hc)),q27 λz=>by subst z;rw[hT]at n;cases n]
  exact n
 ·by_cases hb:b=T
  ·subst hb;exact⟨_,gT⟩
  ·exact⟨o,hx b o hb e⟩
 ·by_cases hb:b=T
  ·subst hb
   rw[hT]at e
   cases e
   exact⟨more,atT⟩
  ·exact⟨#[],by rw[old e hb];simp⟩
 ·by_cases h1:a=f
  ·subst h1
   rw[q14]at e
   cases e
   exact⟨gf,_,gf⟩
  ·rw[q27 h1]at e
   by_cases h2:a=c
   ·subst h2
    rw[q14]at e
    cases e
    exact⟨gc,_,gc⟩
   ·rw[q27 h2]at e
    by_cases h3:a=T
    ·subst h3
     rw[q14]at e
     cases e
     exact gT
    ·rw[q27 h3]at e
     refine(I.hok a o e).stay (λb u hb q=>hx b u ?_ q) (λb q=>old q (nT q (by intro _ z;cases z))) λb xs q=>old q (nT q (by intro _ z;cases z))
     rcases hb with rfl | hb
     ·exact h3
     ·exact nT hb (by intro _ z;cases z)
def BMain(mg:Mg)(base:Heap):Prop:=∃ bm ob,mg "__builtins__" = some (.ref bm)/\bm≠builtinsNs/\base.get? bm=some ob/\ob.cls = .type "module" /\ ob.dict=some builtinsNs/\ob.data = .plain
def tLam(T:Addr)(pos:Pos)(qual:Str)(params:Arguments)(body:Expr)(scope:Scope)(cl:List (Str×Addr)):TE:=λ_ H Q=>Tab H T pos qual /\ ∀ f c oc vs tq pm ctv H1,H f=none->H1 f=some (.frz (PySem.W.kla_obj "<lambda>" qual params body scope cl pm c ctv) (.own f)) ->
 H1 c=some (.frz oc (.own c))->oc.data = .fields vs->vs[1]? = some (.str qual tq)->Tab H1 T pos qual->(∀ b o,b≠T->H b=some o->H1 b=some o)->Q (.ref f) H1
def q724{X:Cx}(hcode:X.env.code = .ref c)(hC:PySem.W.codeHdIn X.K c T=true)(hb:BMain X.mg X.base)(hcl:closureFor scope X.env=pure cl)(hq:X.env.qual ++ "<lambda>" = qual) (hdef:defaultsOf params X.env=([],[])) :
  PE X (.Lambda params body scope pos) (tLam T pos qual params body scope cl):=by
 intro pins s σ H Q I h
 obtain⟨⟨ps,hT,ht,hcase⟩,h⟩:=h
 subst hq
 have gP:s.heap.get? T=some (PySem.W.tabObj ps):=I.hok T _ hT
 have hg:s.heap.Ns mainGlobals X.mg:=I.mod.glob.keeps I.bk
 obtain⟨bm,ob,b1,b2,b3,b4,b5,b6⟩:=hb
 have hbT:bm≠T:=λz=>by
  have:=(I.bs bm ob b3).2
  rw[z,hT]at this;cases this
 have hgT:mainGlobals≠T:=λz=>by
  obtain⟨o,es,ep,e,hd,_⟩:=hg
  rw[z,gP]at e;cases e;cases hd
 have hbG:bm≠mainGlobals:=λz=>by
  obtain⟨o,es,ep,e,hd,_⟩:=hg
  have e3:=I.bk bm ob b3
  rw[z,e]at e3;cases e3;rw[hd]at b6;cases b6
 have CH:=PySem.W.codeHd_of_K I.kIn hC
 have BA:s.heap.BuiltinsAt X.mg T:=⟨bm,ob,b1,b2,hbG,hbT,I.bk _ _ b3,b4,b5,b6⟩
 refine PySem.W.kla_eval hdef ?_
 rcases hcase with hn | ⟨c1,oc,vs,tq,hf,hc1,hd,hv⟩
 ·refine PySem.W.kla_makeFunction hcl I.ok.glob hg hcode CH gP ht hn hgT BA λc' ctv h' tk hx hge hlt hrec htb=>?_
  obtain⟨c2,oc,vs,tq,e2,hoc,hd,hv⟩:=hrec
  cases e2
  have I':=I.tabbed (tk:=tk) (h':=h'.push (PySem.W.kla_obj "<lambda>" (X.env.qual ++ "<lambda>") params body scope cl ((X.mg "__name__").getD .none) c' ctv)) hT (λb o hb e=>ZH _ (hx b o hb e)) (ZH _ htb) (ZH _ hoc) (ZV _ rfl) hge hlt
  have nc:H c'=none:=I.hok.fresh hge
  have nf:H h'.objs.size=none:=I.hok.fresh (ZO hge (Nat.le_of_lt hlt))
  have hcf:c'≠h'.objs.size:=WI hlt
  refine⟨.ref _,_,I',rfl,h _ c' oc vs tq _ ctv _ nf q14 (by rw[q27 hcf,q14]) hd hv ⟨_,by rw[q27 (q26 hT nf),q27 (q26 hT nc),q14],?_,.inr ⟨c',oc,vs,tq,?_,by rw[q27 hcf,q14],hd,hv⟩⟩ λb o hb e=>by rw[q27 (q26 e nf),q27 (q26 e nc),q27 hb];exact e⟩
  ·rw[WL]
   exact q143 ht
  ·rw[WL]
   exact codeAmong_snoc _ ht hn
 ·refine PySem.W.kla_makeFunctionHit hcl I.ok.glob hg hcode CH gP ht hf BA λctv h' tk hk hsz=>?_
  have nf:H h'.objs.size=none:=I.hok.fresh hsz
  have I':=I.laid (t':=tk) (h':=h'.push (PySem.W.kla_obj "<lambda>" (X.env.qual ++ "<lambda>") params body scope cl ((X.mg "__name__").getD .none) c1 ctv)) (o:=.frz (PySem.W.kla_obj "<lambda>" (X.env.qual ++ "<lambda>") params body scope cl ((X.mg "__name__").getD .none) c1 ctv) (.own h'.objs.size)) (λb u e=>ZH _ (hk b u e)) hsz ⟨ZV _ rfl,_,ZV _ rfl⟩
  have s1:=q17 nf (.frz (PySem.W.kla_obj "<lambda>" (X.env.qual ++ "<lambda>") params body scope cl ((X.mg "__name__").getD .none) c1 ctv) (.own h'.objs.size))
  exact⟨.ref _,_,I',rfl,h _ c1 oc vs tq _ ctv _ nf q14 (s1 _ _ hc1) hd hv (Tab.same ⟨ps,hT,ht,.inr ⟨c1,oc,vs,tq,hf,hc1,hd,hv⟩⟩ s1) λb o _ e=>s1 _ _ e⟩
def tNest(T:Addr)(pos:Pos)(name qual:Str)(params:Arguments)(body:List Stmt)(scope:Scope)(cl:List (Str×Addr))(i:Nat):TS:=λD σ H=>Tab H T pos qual /\ ∀ f c oc vs tq doc pm ctv H1,H f=none->H1 f=some (.frz (PySem.W.fnMade name qual params body scope cl doc pm c ctv) (.own f)) ->
 H1 c=some (.frz oc (.own c))->oc.data = .fields vs->vs[1]? = some (.str qual tq)->Tab H1 T pos qual->(∀ b o,b≠T->H b=some o->H1 b=some o)->D.nx (σ.set i (some (.ref f))) H1
def ps_nest{X:Cx}{params:Arguments}{i:Nat}(hcode:X.env.code = .ref c)(hC:PySem.W.codeHdIn X.K c T=true)(hb:BMain X.mg X.base)(hcl:closureFor scope X.env=pure cl)(hq:qualnameIn X.env name name=qual)
  (hd0:params.defaults=[]) (hk0:params.kw_defaults=[]) (han:annTrees params none X.env=[]) (hN:X.N.Nodup) (hi:X.N[i]? = some name) (hx:Loc X.env.scope name) (hf:X.fn name=true\/X.env.scope.names.lookup name=some .local) :
  PS X (.FunctionDef name params body [] none [] scope none name pos) (tNest T pos name qual params body scope cl i):=by
 intro pins s σ H D I h
 obtain⟨⟨ps,hT,ht,hcase⟩,h⟩:=h
 subst hq
 have gP:s.heap.get? T=some (PySem.W.tabObj ps):=I.hok T _ hT
 have hg:s.heap.Ns mainGlobals X.mg:=I.mod.glob.keeps I.bk
 obtain⟨bm,ob,b1,b2,b3,b4,b5,b6⟩:=hb
 have hbT:bm≠T:=λz=>by
  have:=(I.bs bm ob b3).2
  rw[z,hT]at this;cases this
 have hgT:mainGlobals≠T:=λz=>by
  obtain⟨o,es,ep,e,hd,_⟩:=hg
  rw[z,gP]at e;cases e;cases hd
 have hbG:bm≠mainGlobals:=λz=>by
  obtain⟨o,es,ep,e,hd,_⟩:=hg
  have e3:=I.bk bm ob b3
  rw[z,e]at e3;cases e3;rw[hd]at b6;cases b6
 have CH:=PySem.W.codeHd_of_K I.kIn hC
 have BA:s.heap.BuiltinsAt X.mg T:=⟨bm,ob,b1,b2,hbG,hbT,I.bk _ _ b3,b4,b5,b6⟩
 refine PySem.W.nestDef_K hd0 hk0 han ?_
 rcases hcase with hn | ⟨c1,oc,vs,tq,hf1,hc1,hd,hv⟩
 ·refine PySem.W.makeFunction_K hcl I.ok.glob hg hcode CH gP ht hn hgT BA λc' ctv doc h' tk hx' hge hlt hrec htb=>?_
  obtain⟨c2,oc,vs,tq,e2,hoc,hd,hv⟩:=hrec
  cases e2
  have I':=I.tabbed (tk:=tk) (h':=h'.push (PySem.W.fnMade name (qualnameIn X.env name name) params body scope cl doc ((X.mg "__name__").getD .none) c' ctv)) hT (λb o hb e=>ZH _ (hx' b o hb e)) (ZH _ htb) (ZH _ hoc) (ZV _ rfl) hge hlt
  have nc:H c'=none:=I.hok.fresh hge
  have nf:H h'.objs.size=none:=I.hok.fresh (ZO hge (Nat.le_of_lt hlt))
  have hcf:c'≠h'.objs.size:=WI hlt
  refine q285 I' hN hi hx (v:=.ref h'.objs.size) rfl (λs' I2=>⟨_,_,I2,h _ c' oc vs tq doc _ ctv _ nf q14 (by rw[q27 hcf,q14]) hd hv ⟨_,by rw[q27 (q26 hT nf),q27 (q26 hT nc),q14],?_,.inr ⟨c',oc,vs,tq,?_,by rw[q27 hcf,q14],hd,hv⟩⟩ λb o hb e=>by rw[q27 (q26 e nf),q27 (q26 e nc),q27 hb];exact e⟩) hf
  ·rw[WL]
   exact q143 ht
  ·rw[WL]
   exact codeAmong_snoc _ ht hn
 ·refine PySem.W.makeFunction_hit hcl I.ok.glob hg hcode CH gP ht hf1 BA λctv doc h' tk hk hsz=>?_
  have nf:H h'.objs.size=none:=I.hok.fresh hsz
  have I':=I.laid (t':=tk) (h':=h'.push (PySem.W.fnMade name (qualnameIn X.env name name) params body scope cl doc ((X.mg "__name__").getD .none) c1 ctv)) (o:=.frz (PySem.W.fnMade name (qualnameIn X.env name name) params body scope cl doc ((X.mg "__name__").getD .none) c1 ctv) (.own h'.objs.size)) (λb u e=>ZH _ (hk b u e)) hsz ⟨ZV _ rfl,_,ZV _ rfl⟩
  have s1:=q17 nf (.frz (PySem.W.fnMade name (qualnameIn X.env name name) params body scope cl doc ((X.mg "__name__").getD .none) c1 ctv) (.own h'.objs.size))
  exact q285 I' hN hi hx (v:=.ref h'.objs.size) rfl (λs' I2=>⟨_,_,I2,h _ c1 oc vs tq doc _ ctv _ nf q14 (s1 _ _ hc1) hd hv (Tab.same ⟨ps,hT,ht,.inr ⟨c1,oc,vs,tq,hf1,hc1,hd,hv⟩⟩ s1) λb o _ e=>s1 _ _ e⟩) hf
def CapOk(X:Cx):List (Str×Addr)->List Nat->Prop
 | [],[]=>True
 | (y,c)::cl,i::is=>(X.N[i]? = some y/\X.env.scope.names.lookup y=some .cell/\X.fn y=true/\X.env.cells.lookup y=some c)/\CapOk X cl is
 | _,_=>False
theorem CapOk.mem{X:Cx}:∀{cl:List (Str×Addr)} {is:List Nat},CapOk X cl is -> ∀{c:Addr},c∈cl.map (·.2) -> ∃ y,X.fn y=true/\X.env.cells.lookup y=some c
 | (y,c)::_,_::_,⟨⟨_,_,h1,h2⟩,_⟩,_,.head _=>⟨y,h1,h2⟩
 | _::_,_::_,⟨_,t⟩,_,.tail _ m=>CapOk.mem t m
def Back(H1 H' H3:Hp):Prop:=∀ b o,H' b=some o->(H1 b≠none \/ ∀ ob u,o ≠ .frz ob u)->H3 b=some o
noncomputable def froz(h:Heap)(cs:List Addr)(H:Hp):Hp:=λb=>if b∈cs then(h.get? b).map λo=>.frz o (.own b)else H b
def tCallC(sp:Sp)(cl:List (Str×Addr))(is:List Nat)(E:XK)(t:TA):TE:=λσ H Q=>t σ H λvs H1=>∃ cv:List V,(is.map λi=>σ[i]?)=cv.map (λv=>some (some v)) /\ ∀ H2,Same H1 H2->q114 H2 cl cv->sp vs H2 (λv H'=>∀ H3,Back H1 H' H3->Q v H3) E
def q583{X:Cx}{k:Nat}{p pos:Pos}(c:Cal X.prog X.w X.K X.mg X.base k x ps sp)(hr:Room k X.A)(hg:Gl X x)(hcap:CapOk X cl is)(ha:PA X (e::es) t)(hdb:(x==("__debug__" : Str))=false:=by decide)
  (he:starEach (e::es) X.env=(false,eval e X.env)::starEach es X.env:=by rfl) (hpl:(backTo pos (starEach es X.env)).any (·.1)=false:=by rfl) :
  PE X (.Call (.Name x p) (e::es) [] pos) (tCallC sp cl is E0 t):=by
 obtain⟨f,fd,F,B,kp,m⟩:=c.ex
 intro pins s σ H Q I h
 refine wpAny_Call_Name_kw (q668 I hg m ?_ hdb)
 refine PySem.W.callWith_K (h₀:=X.base) I.ok.mod.kin kp (thn (ha pos pins s σ H _ I h) λus s1 ⟨vs,H1,I1,r,q⟩=>⟨I1.kIn,?_⟩) he hpl
 obtain⟨cv,hcv,q⟩:=q
 have isC:∀ b∈cl.map (·.2),∃ y,X.fn y=true/\X.env.cells.lookup y=some b:=λb hb=>hcap.mem hb
 have ncs:∀{b:Addr}{o:HO},H1 b=some o->b ∉ cl.map (·.2):=fun {b o} e hb=>by
  obtain⟨y,_,hy⟩:=isC b hb
  rw[I1.freeC y b hy]at e;cases e
 have oldF:∀{b:Addr}{o:Obj},X.s₀.heap.get? b=some o->b ∉ cl.map (·.2):=fun {b o} e hb=>by
  obtain⟨y,h1,hy⟩:=isC b hb
  exact absurd (WG (ZZ e) (I1.ok.cab y b h1 hy)) (Nat.lt_irrefl _)
 have cellO:∀ b∈cl.map (·.2),∃ o,s1.heap.get? b=some o:=λb hb=>by
  obtain⟨y,_,hy⟩:=isC b hb
  obtain⟨v,o,ho,_⟩:=I1.cell y b hy
  exact⟨o,ho⟩
 have inC:∀{b:Addr},b∈cl.map (·.2) -> ∀{o:Obj},s1.heap.get? b=some o->froz s1.heap (cl.map (·.2)) H1 b=some (.frz o (.own b)):=fun {b} hb {o} e=>by
  unfold froz;rw[ZL hb,e];rfl
 have outC:∀{b:Addr},b ∉ cl.map (·.2)->froz s1.heap (cl.map (·.2)) H1 b=H1 b:=λhb=>by unfold froz;rw[ZI hb]
 have sm:Same H1 (froz s1.heap (cl.map (·.2)) H1):=λb o e=>by rw[outC (ncs e)];exact e
 have frC:∀ b∈frs X.stack,b ∉ cl.map (·.2):=λb hb=>by
  rcases eB (I1.stkSub b hb)with z | hb
  ·intro hc
   obtain⟨y,_,hy⟩:=isC b hc
   exact I1.cne y b hy z
  ·obtain⟨_,o,ho,_⟩:=I1.ok.funs.mem hb
   exact oldF ho
 have cells:q114 (froz s1.heap (cl.map (·.2)) H1) cl cv:=by
  obtain⟨m,hn,hl⟩:=I1.loc
  have key:∀(cl':List (Str×Addr)) (is':List Nat) (cv':List V),CapOk X cl' is'->(is'.map λi=>σ[i]?)=cv'.map (λv=>some (some v))->(∀ b∈cl'.map (·.2),b∈cl.map (·.2))->q114 (froz s1.heap (cl.map (·.2)) H1) cl' cv':=by
   intro cl'
   induction cl' with
   | nil=>
    intro is' cv' h1 h2 _
    cases is' with
    | nil=>cases cv' with
     | nil=>trivial
     | cons v cv'=>cases h2
    | cons i is'=>exact h1.elim
   | cons a cl' ih=>
    intro is' cv' h1 h2 h3
    obtain⟨y,c⟩:=a
    cases is' with
    | nil=>exact h1.elim
    | cons i is'=>
     cases cv' with
     | nil=>cases h2
     | cons v cv'=>
      obtain⟨⟨e1,e2,_,e4⟩,t⟩:=h1
      have h2':=List.cons.inj h2
      obtain⟨u,rv,l⟩:=hl i y v e1 h2'.1 (.inr (.inl e2))
      refine⟨?_,ih is' cv' t h2'.2 λb hb=>h3 b (ZX _ hb)⟩
      rcases l with ⟨hk,_⟩ | ⟨_,c',hc',o,ho,hd⟩
      ·have hk':X.env.scope.names.lookup y=some .local:=hk
       rw[e2]at hk';cases hk'
      ·rw[e4]at hc'
       cases hc'
       exact⟨o,u,inC (h3 c (WC ..)) ho,hd,rv⟩
  exact key cl is cv hcap hcv λ_ h=>h
 have e1:=I1.env0
 have e0:Env0 X.prog X.w X.K X.mg X.base X.A X.stack s1 (froz s1.heap (cl.map (·.2)) H1):=by
  refine⟨e1.frames,e1.mod,λb o z=>⟨(e1.bs b o z).1,?_⟩,e1.bsz,e1.funs,λb hb=>?_,λa o z=>?_,e1.bare⟩
  ·rw[outC (oldF (I1.ok.bs b o z).1)];exact(e1.bs b o z).2
  ·rw[outC (frC b hb)];exact e1.frf b hb
  ·by_cases ha:a∈cl.map (·.2)
   ·obtain⟨ob,ho⟩:=cellO a ha
    rw[inC ha ho]at z
    cases z
    exact⟨ho,_,ho⟩
   ·rw[outC ha]at z
    exact(I1.hok a o z).stay (λ_ _ _ q=>q) (λb q=>sm _ _ q) λb xs q=>sm _ _ q
 have hl:us.length=ps.length:=by rw[<- r.length];exact F.len _ _ _ _ (q _ sm cells)
 refine wpAny_call (codeAny_mono (F.run X.A X.stack s1 _ ⟨us,[]⟩ us vs _ E0 hr e0 (by have:=B s1 us I1.kIn (by rw[YN];exact hl);rw[YN]at this;exact this) r (q _ sm cells)) λrr s' hq=>?_)
 cases rr with
 | error e=>exact False.elim hq
 | ok fl=>
  cases fl with
  | next=>exact False.elim hq
  | brk=>exact False.elim hq
  | cont=>exact False.elim hq
  | ret u=>
   obtain⟨v,H',os',bare,un,hok,rv,qv⟩:=hq
   have fz:∀{b:Addr},b∈cl.map (·.2) -> ∃ o,s1.heap.get? b=some o/\H' b=some (.frz o (.own b))/\s'.heap.get? b=some o:=fun {b} hb=>by
    obtain⟨o,ho⟩:=cellO b hb
    have z:=un.frzs b o _ (inC hb ho)
    exact⟨o,ho,z,(hok b _ z).1⟩
   obtain⟨H3,hH3⟩:∃ H3:Hp,H3=λb=>if b∈cl.map (·.2)then none else H' b:=⟨_,rfl⟩
   have h3in:∀{b:Addr},b∈cl.map (·.2)->H3 b=none:=λhb=>by rw[hH3];exact ZL hb
   have h3out:∀{b:Addr},b ∉ cl.map (·.2)->H3 b=H' b:=λhb=>by rw[hH3];exact ZI hb
   have bk:Back H1 H' H3:=λb o e z=>by
    have hb:b ∉ cl.map (·.2):=λhb=>by
     rcases z with z | z
     ·obtain⟨y,_,hy⟩:=isC b hb
      exact z (I1.freeC y b hy)
     ·obtain⟨ob,_,h2,_⟩:=fz hb
      rw[e]at h2;cases h2
      exact z _ _ rfl
    rw[h3out hb];exact e
   have nz:∀{b:Addr}{o:HO},H' b=some o->(∀ ob u,o ≠ .frz ob u)->H3 b=some o:=λe n=>bk _ _ e (.inr n)
   refine⟨v,H3,I1.call' (ch:=[]) os' ⟨λb o e n hb hx=>?_,λb o e n hb hx=>?_,λb o e n hx=>?_,λb o e hx=>un.there b o e hx,λb xs e=>?_,λb o u e=>?_,λb qs e=>?_⟩ (λa o e=>?_) bare (λb z=>absurd z (by simp)),rv,qv H3 bk⟩
   ·by_cases hc:b∈cl.map (·.2)
    ·obtain⟨o',h1,_,h2⟩:=fz hc
     rw[e]at h1;cases h1
     exact h2
    ·exact un.keep b o e (by rw[outC hc];exact n) hb hx
   ·exact un.slot b o e (by rw[outC (frC b hb)];exact n) hb hx
   ·by_cases hc:b∈cl.map (·.2)
    ·exact h3in hc
    ·rw[h3out hc];exact un.free b o e (by rw[outC hc];exact n) hx
   ·rw[h3out (ncs e)];exact un.tups b xs (sm _ _ e)
   ·rw[h3out (ncs e)];exact un.frzs b o u (sm _ _ e)
   ·obtain⟨more,z⟩:=un.tbls b qs (sm _ _ e)
    exact⟨more,by rw[h3out (ncs e)];exact z⟩
   ·by_cases hc:a∈cl.map (·.2)
    ·rw[h3in hc]at e;cases e
    ·rw[h3out hc]at e
     exact(hok a o e).stay (λ_ _ _ q=>q) (λb q=>nz q (by intro _ _ z;cases z)) λb xs q=>nz q (by intro _ _ z;cases z)
structure DefL(K:Fg)(mg:Mg)(x:Str)(st:Stmt)(ps:List Str)(c T:Addr):Prop where
 ex:∃(f:Addr) (oc:Value) (od an:Option Addr) (kV doc pm ct:Value) (osl:Array (Option Value)),K.lookup f=some ⟨oc,od,.func (PySem.W.fnOf x x (q125 st) (q91 st) (q16 st) .none kV doc pm an (.ref c) ct),osl⟩/\PySem.W.codeIn K (.ref c) x=true/\PySem.W.keepIn K (.ref f)=true /\
  (∀ us:List Value,us.length=ps.length->bindArgs (PySem.W.fnOf x x (q125 st) (q91 st) (q16 st) .none kV doc pm an (.ref c) ct) ⟨us,[]⟩=pure (ps.zip us))/\mg x=some (.ref f)
 hd:PySem.W.codeHdIn K c T=true
def q790{K:Fg}{h:Heap}{mg:Mg}{x:Str}{st:Stmt}{ps:List Str}{f c T:Addr}{oc:Value}{od an:Option Addr}{osl:Array (Option Value)}{kV doc pm ct:Value}
  (KX:K.In h) (G:h.Ns mainGlobals mg) (a:PySem.W.nsIn K mainGlobals x=some (some (.ref f)))
  (l:K.lookup f=some ⟨oc,od,.func (PySem.W.fnOf x x (q125 st) (q91 st) (q16 st) .none kV doc pm an (.ref c) ct),osl⟩)
  (cc:PySem.W.codeIn K (.ref c) x=true) (k:PySem.W.keepIn K (.ref f)=true) (hd:PySem.W.codeHdIn K c T=true)
  (b:∀(kV doc pm:Value)(an:Option Addr)(cdv ct:Value)(us:List Value),us.length=ps.length->bindArgs (PySem.W.fnOf x x (q125 st) (q91 st) (q16 st) .none kV doc pm an cdv ct) ⟨us,[]⟩=pure (ps.zip us)) :
  DefL K mg x st ps c T:=⟨⟨f,oc,od,an,kV,doc,pm,ct,osl,l,cc,k,b kV doc pm an (.ref c) ct,PySem.W.mg_of KX G a⟩,hd⟩
def DefL.cal{P:Program}{w:World}{K:Fg}{mg:Mg}{base:Heap}{k:Nat}{x:Str}{st:Stmt}{N ps:List Str}{c T:Addr}{sp:Sp}(d:DefL K mg x st ps c T)(S:FnScope N ps (q16 st))(len:∀ vs H Q E,sp vs H Q E->vs.length=ps.length)
  (hbody:∀(f:Addr)(A:Around)(outer:List Env)(s:Shared)(H:Hp)(vs:List V)(Q:VK)(E:XK),Room k (A.deeper (envOfC x (q16 st) s.heap.objs.size f (.ref c)))->sp vs H Q E ->
   ∃ t,PSs (cxOf CX0 P w K mg base N x (q16 st) f (.ref c) A outer s H E).nox (q91 st) t/\t { nx:=λ_ H'=>Q .non H',rt:=Q } (start N vs) H):Cal P w K mg base (k+1) x ps sp:=by
 obtain⟨f,oc,od,an,kV,doc,pm,ct,osl,lk,hcd,kp,hb,hm⟩:=d.ex
 refine⟨f,_,fn_of lk hcd S len λA outer s H vs Q E hr hsp=>?_,.all hb,kp,hm⟩
 obtain⟨t,h,q⟩:=hbody f A outer s H vs Q E hr hsp
 exact⟨t,h.nox,q⟩
def q472(K:Fg)(ts:List Addr):Sp:=λvs H Q _=>∃(a:Addr)(ns:List Int),vs=[.ref a]/\SqL K H a (ns.map V.int)/\ns.length<=63/\(∀ T∈ts,H T=some (.tbl #[]))/\(∀ b ys,H b≠some (.lst ys)) /\ ∀ H',Q (.bl true) H'
theorem q725{P:Program}{w:World}{K:Fg}{k:Nat}{fa:Addr}{fd:FuncData}{s₁:Shared}{vs:List Value}{ns:List Int}{ts:List (Addr×Addr)}
  (KX:K.In s₁.heap) (hns:s₁.heap.Ns mainGlobals mg) (hb:s₁.heap.Ns builtinsNs mb) (hbb:∀ x:Str,x ≠ "__name__" -> mb x=bootBuiltins x) (hlim:s₁.heap.NoLimit) (hbm:BMain mg s₁.heap) (hg:s₁.gens = #[])
  (ha:s₁.heap.get? a=some { cls:=.type "list", data:=.seq vs.toArray }) (hi:IntsAre vs ns) (hl:ns.length<=63) (hr:Room k callerA)
  (hts:∀ q∈ts,PySem.W.codeHdIn K q.1 q.2=true/\K.lookup q.2=none) (hT:∀ T∈ts.map (·.2),s₁.heap.get? T=some (PySem.W.tabObj #[]))
  (F:∀ base:Heap,K.In base->base.Ns mainGlobals mg->BMain mg base->FnOk P w K mg base CX0 k fa fd [x] (q472 K (ts.map (·.2)))) (hbind:∀(s:Shared)(u:Value),BindsTo s fd ⟨[u],[]⟩ [(x,u)]) :
  codeAny (model P w) callerA (.call (.ref fa) ⟨[.ref a],[]⟩) (λr s'=>r = .ok (.ret (.bool true))/\OldK s₁.heap s'.heap/\s'.os=s₁.os/\AllBare s'.gens) s₁:=by
 have rv:=q304 hi
 have lenV:=hi.length
 have hl':ns.length<=sizeLine:=ZO hl ∅
 have naT:a ∉ ts.map (·.2):=λz=>by
  have:=hT a z
  rw[ha]at this;cases this
 have core:∀ H:Hp,SqL K H a (ns.map V.int)->HOk P w H s₁.heap->(∀ T∈ts.map (·.2),H T=some (.tbl #[]))->(∀ b u,H b=some u->b∈ts.map (·.2)\/(b=a/\K.lookup a=none /\ ∃ o v,u = .frz o v)) ->
   codeAny (model P w) callerA (.call (.ref fa) ⟨[.ref a],[]⟩) (λr s'=>r = .ok (.ret (.bool true))/\OldK s₁.heap s'.heap/\s'.os=s₁.os/\AllBare s'.gens) s₁:=by
  intro H hS hok hHT hA
  have base_of:∀{b:Addr}{o:Obj},s₁.heap.get? b=some o->H b=none->(hidT s₁.heap H).get? b=some o:=λe n=>hidT_get e n
  have free:∀{b:Addr}{o:Obj},s₁.heap.get? b=some o->(∀ ys n,o.data ≠ .seq ys n)->(∀ ys,o.data ≠ .fields ys)->H b=none:=fun {b o} e d1 d2=>by
   cases q:H b with
   | none=>rfl
   | some u=>
    rcases hA b u q with z | ⟨z,_⟩
    ·have:=hT b z
     rw[e]at this;cases this
     exact absurd rfl (d2 _)
    ·subst z
     rw[ha]at e;cases e
     exact absurd rfl (d1 _ _)
  have nsK:∀{b:Addr}{m:Mg},s₁.heap.Ns b m->(hidT s₁.heap H).Ns b m:=fun {b m} ⟨o,es,ep,e,d,r⟩=>⟨o,es,ep,base_of e (free e (by rw[d];intro _ _ z;cases z) (by rw[d];intro _ z;cases z)),d,r⟩
  have hKb:K.In (hidT s₁.heap H):=λb o e=>base_of (KX b o e) (by
   cases q:H b with
   | none=>rfl
   | some u=>
    rcases hA b u q with z | ⟨z,h2,_⟩
    ·obtain⟨⟨c,T⟩,hq,rfl⟩:=eE z
     rw[(hts _ hq).2]at e;cases e
    ·subst z
     rw[h2]at e;cases e)
  have hM:Mod K mg (hidT s₁.heap H):=⟨hKb,nsK hns,⟨mb,nsK hb,hbb⟩,let ⟨mc,h1,h2⟩:=hlim;⟨mc,nsK h1,h2⟩⟩
  have hBM:BMain mg (hidT s₁.heap H):=by
   obtain⟨bm,ob,b1,b2,b3,b4,b5,b6⟩:=hbm
   exact⟨bm,ob,b1,b2,base_of b3 (free b3 (by rw[b6];intro _ _ z;cases z) (by rw[b6];intro _ z;cases z)),b4,b5,b6⟩
  have e0:Env0 P w K mg (hidT s₁.heap H) callerA [] s₁ H:=⟨rfl,hM,λb o e=>of_hidT e,Nat.le_of_eq (q666 _ _),trivial,λb hb=>absurd (show b∈([]:List Addr)from hb) (by simp),hok,.of_eq hg⟩
  refine codeAny_mono ((F _ hKb (nsK hns) hBM).run callerA [] s₁ H ⟨[.ref a],[]⟩ [.ref a] [.ref a] (λv _=>v = .bl true) (λ_ _ _=>False) hr e0 (hbind s₁ (.ref a)) (.cons rfl .nil) ⟨a,ns,rfl,hS,hl,hHT,λb ys e=>(hA b _ e).elim (λz=>by rw[hHT b z]at e;cases e) (λ⟨_,_,_,_,z⟩=>nomatch z),λ_=>rfl⟩) λr s' h=>?_
  cases r with
  | error e=>exact False.elim h
  | ok fl=>
   cases fl with
   | next=>exact False.elim h
   | brk=>exact False.elim h
   | cont=>exact False.elim h
   | ret u=>
    obtain⟨v,H',os,bare,un,hok',r',q⟩:=h
    have q':v = .bl true:=q
    subst q'
    obtain rfl:u=Value.bool true:=r'
    have tab:∀ b∈ts.map (·.2),∃ ps,s'.heap.get? b=some (PySem.W.tabObj ps):=λb hb=>by
     obtain⟨more,z⟩:=un.tbls b _ (hHT b hb)
     exact⟨_,hok' b _ z⟩
    have keep:∀ b o,b ∉ ts.map (·.2)->s₁.heap.get? b=some o->s'.heap.get? b=some o:=λb o hb e=>by
     cases q:H b with
     | none=>exact un.keep b o e q (by intro z;exact absurd (show b∈([]:List Addr)from z) (by simp)) (by simp)
     | some u=>
      rcases hA b u q with z | ⟨_,_,ob,v,rfl⟩
      ·exact absurd z hb
      ·obtain⟨e1,_⟩:=hok b _ q
       obtain⟨e2,_⟩:=hok' b _ (un.frzs b ob _ q)
       rw[e]at e1;cases e1
       exact e2
    refine⟨rfl,⟨λb o e=>?_,λb o e=>?_⟩,os,bare⟩
    ·by_cases hb:b∈ts.map (·.2)
     ·obtain⟨ps,hP⟩:=tab b hb
      have e2:=hT b hb
      rw[e]at e2
      cases e2
      obtain⟨⟨c,T⟩,hq,rfl⟩:=eE hb
      exact .inr (.inl ⟨((PySem.W.codeHd_of_K KX (hts _ hq).1).tab (hT _ hb)).isCodeTable,rfl,#[],ps,rfl,by rw[Array.empty_append];exact hP⟩)
     ·exact .inl (keep b o hb e)
    ·by_cases hb:b∈ts.map (·.2)
     ·obtain⟨ps,hP⟩:=tab b hb
      exact⟨_,hP⟩
     ·exact⟨o,keep b o hb e⟩
 have tabOk:∀{H:Hp}{T:Addr},T∈ts.map (·.2)->ObjOk P w H s₁.heap T (.tbl #[]):=λh=>hT _ h
 cases hk:K.lookup a with
 | some o=>
  have e:=KX a o hk
  rw[ha]at e
  cases e
  refine core (λb=>if b∈ts.map (·.2)then some (.tbl #[])else none) (.inr ⟨_,vs.toArray,_,hk,rfl,rfl,rfl,by rw[WB,lenV];exact hl',by simpa using rv⟩) (λb u z=>?_) (λT h=>ZL h) λb u z=>?_
  ·by_cases hb:b∈ts.map (·.2)
   ·have z':=(ZL hb).symm.trans z
    cases z'
    exact tabOk hb
   ·have z':=(ZI hb).symm.trans z
    cases z'
  ·by_cases hb:b∈ts.map (·.2)
   ·exact .inl hb
   ·have z':=(ZI hb).symm.trans z
    cases z'
 | none=>
  refine core (λb=>if b=a then some (.frz { cls:=.type "list", data:=.seq vs.toArray } (.lst (ns.map V.int)))else if b∈ts.map (·.2)then some (.tbl #[])else none) (.inl (.inr ⟨{ cls:=.type "list", data:=.seq vs.toArray },ZL rfl⟩)) (λb u z=>?_) (λT h=>?_) λb u z=>?_
  ·by_cases hb:b=a
   ·have z':=(ZL hb).symm.trans z
    cases z'
    subst hb
    exact⟨ha,by rw[ZJ];exact hl',vs,_,rv,ha⟩
   ·have z':=(ZI hb).symm.trans z
    by_cases ht:b∈ts.map (·.2)
    ·have z2:=(ZL ht).symm.trans z'
     cases z2
     exact tabOk ht
    ·have z2:=(ZI ht).symm.trans z'
     cases z2
  ·have hne:¬ T=a:=λz=>naT (z▸h)
   show(if T=a then _ else if T∈ts.map (·.2)then some (HO.tbl #[])else none)=_
   rw[ZI hne]
   exact ZL h
  ·by_cases hb:b=a
   ·have z':=(ZL hb).symm.trans z
    cases z'
    exact .inr ⟨hb,hk,_,_,rfl⟩
   ·have z':=(ZI hb).symm.trans z
    by_cases ht:b∈ts.map (·.2)
    ·exact .inl ht
    ·have z2:=(ZI ht).symm.trans z'
     cases z2
def walkT{l:PySem.W.OpenLaw}{k:Nat}{q:Program}{loose:List Str}{XP:(Mg)->Heap->Prop}{YP:World->Heap->Prop}{d:DefRec}{K:Params->Fg}(ts:List (Addr×Addr))(hr:Room k callerA)(hn:l.most=some 63)(hdf:d.params.defaults=[])
  (hY:∀(w:World)(h:Heap),YP w h->(K w.params).In h) (hYT:∀(w:World)(h:Heap),YP w h -> ∀ T∈ts.map (·.2),h.get? T=some (PySem.W.tabObj #[]))
  (F:∀(w:World)(mg:Mg)(fa:Addr)(h:Heap),(K w.params).In h->h.Ns mainGlobals mg->mg d.name=some (.ref fa)->(∀ q∈ts,PySem.W.codeHdIn (K w.params) q.1 q.2=true/\(K w.params).lookup q.2=none) /\
   ∃ fd:FuncData,(∀(s:Shared)(u:Value),BindsTo s fd ⟨[u],[]⟩ [("_law_script", u)]) /\ ∀ base:Heap,(K w.params).In base->base.Ns mainGlobals mg->BMain mg base->FnOk l.prog w (K w.params) mg base CX0 k fa fd ["_law_script"] (q472 (K w.params) (ts.map (·.2)))) :
  PySem.W.WalkO q loose XP YP l.row.toRowW d [] (λf vs=>PySem.call f vs):=by
 refine Att.q784 hn hdf λw s₀ s₁ mg mb fa o pm cd doc a vs ns G Y ho hd hcd hmg hobj hints hlen hg=>?_
 have KX:=hY w _ Y
 obtain⟨hts,fd,hb,hF⟩:=F w mg fa _ KX G.T.g hmg
 obtain⟨bm,ob,b1,b2,b3,b4,b5,b6⟩:=G.T.bmain
 exact q725 KX G.T.g G.T.b G.T.builtins G.T.nolimit ⟨bm,ob,b1,b2,b3,b4,b5,b6⟩ hg hobj hints hlen hr hts (hYT w _ Y) hF hb
def law_mkT{P:Program}{w:World}{K:Fg}{mg:Mg}{k:Nat}{st:Stmt}{fa:Addr}{ts:List Addr}(d:Def K mg "law" st ["_law_script"])
  (F:∀(base:Heap)(f:Addr)(fd:FuncData),BMain mg base->Fun K "law" "law" st f fd->FnOk P w K mg base CX0 k f fd ["_law_script"] (q472 K ts)) (hmg:mg "law" = some (.ref fa)) :
  ∃ fd:FuncData,(∀(s:Shared)(u:Value),BindsTo s fd ⟨[u],[]⟩ [("_law_script", u)]) /\ ∀ base:Heap,K.In base->base.Ns mainGlobals mg->BMain mg base->FnOk P w K mg base CX0 k fa fd ["_law_script"] (q472 K ts):=by
 obtain⟨f,fd,h1,h2,h3⟩:=d.ex
 have e:=hmg.symm.trans h3
 cases e
 exact⟨fd,λs u=>.of_eq (h2 [u] rfl),λbase _ _ bm=>F base _ _ bm h1⟩
noncomputable def tVr(i:Nat):TE:=λσ H Q=>match σ[i]? with
 | some (some v)=>Q v H
 | _=>False
noncomputable def mI(g:Int->Int->V):R2:=λx y H Q=>match x,y with
 | .int i,.int j=>Q (g i j) H
 | _,_=>False
noncomputable def mTest(t:TE):TT:=λσ H Q=>t σ H λx H'=>match x with
 | .bl k=>Q k H'
 | _=>False
def tVr_of{i:Nat}(h:tVr i σ H Q):tVar i σ H Q:=by
 unfold tVr at h
 split at h
 ·rename_i v e
  exact⟨v,e,h⟩
 ·exact h.elim
def pr(i:Nat){pos:Pos}(hN:X.N[i]? = some x:=by rfl)(hv:Vis X.env.scope x:=by walk_at "b") (hd:(x==("__debug__" : Str))=false:=by decide)
  (hcd:(x==("__classdict__" : Str))=false:=by decide):PE X (.Name x pos) (tVr i):=λpins s σ H Q I h=>q667 hN hv hd hcd pins s σ H Q I (tVr_of h)
def mI_of(h:mI g x y H Q):rI0 g x y H Q:=by
 unfold mI at h
 split at h
 ·exact⟨_,_,rfl,rfl,h⟩
 ·exact h.elim
def OpR.m(o:OpR X op (rI0 g)):OpR X op (mI g):=λpins s σ H x y v u Q I rx ry h=>o pins s σ H x y v u Q I rx ry (mI_of h)
def q86:OpR X (binaryOp .Add) (mI λi j=>.int (i+j)):=q30.m
def q315:OpR X (binaryOp .Sub) (mI λi j=>.int (i-j)):=q74.m
def om_lt:OpR X (compareOp .Lt) (mI λi j=>.bl (decide (i<j))):=op_lt.m
def om_le:OpR X (compareOp .LtE) (mI λi j=>.bl (decide (i<=j))):=op_le.m
def om_gt:OpR X (compareOp .Gt) (mI λi j=>.bl (decide (j<i))):=op_gt.m
def mTest_eq(t:TE):mTest t=tTest t:=by
 funext σ H Q
 show t σ H _=t σ H _
 congr 1
 funext x H'
 apply propext
 constructor
 ·intro h
  split at h
  ·exact⟨_,rfl,h⟩
  ·exact h.elim
 ·rintro ⟨k,rfl,h⟩
  exact h
section
variable{a b:Expr}{ta tb:TE}{pos:Pos}
def q59(ho:OpR X (compareOp op) r)(ha:PE X a ta)(hb:PE X b tb)(hm:behindInMarks op b=false):PT X (.Compare a [op] [b] pos) (mTest (tOp r ta tb)):=by
 rw[mTest_eq]
 exact q20 ho ha hb hm
end
noncomputable def mIxT(K:Fg):R2:=λx y H Q=>match x,y with
 | .ref p,.int i=>∃ xs v,SqT K H p xs/\atI xs i=some v/\Q v H
 | _,_=>False
noncomputable def mIxL(K:Fg):R2:=λx y H Q=>match x,y with
 | .ref p,.int i=>∃ xs v,SqL K H p xs/\atI xs i=some v/\Q v H
 | _,_=>False
def mIxT_of{K:Fg}{x y:V}{H:Hp}{Q:VK}(h:mIxT K x y H Q):rIxT K x y H Q:=by
 unfold mIxT at h
 split at h
 ·obtain⟨xs,v,h1,h2,h3⟩:=h
  exact⟨_,xs,_,v,rfl,rfl,h1,h2,h3⟩
 ·exact h.elim
def mIxL_of{K:Fg}{x y:V}{H:Hp}{Q:VK}(h:mIxL K x y H Q):rIxL K x y H Q:=by
 unfold mIxL at h
 split at h
 ·obtain⟨xs,v,h1,h2,h3⟩:=h
  exact⟨_,xs,_,v,rfl,rfl,h1,h2,h3⟩
 ·exact h.elim
section
variable {K:Fg}
def q379:IxR X (mIxT X.K):=λva sl pins s σ H x y v u Q I rx ry h hs=>q24 va sl pins s σ H x y v u Q I rx ry (mIxT_of h) hs
def q39:IxR X (mIxL X.K):=λva sl pins s σ H x y v u Q I rx ry h hs=>q54 va sl pins s σ H x y v u Q I rx ry (mIxL_of h) hs
def q144(hK:X.K=K):IxR X (mIxT K):=hK▸q379
def q209(hK:X.K=K):IxR X (mIxL K):=hK▸q39
end
end L2
namespace TS
set_option autoImplicit false
open PySem PySem.W PyProof.Rows List
section
variable {prog:Program}{w:World}{A:Around}{E:VS}{s:Shared}
def sorted_i{l:Addr}{vs:List Value}{Q:VS}(hl:s.heap.IsList l vs.toArray)(ai:AllI vs)(hz:vs.length<=sizeLine)
  (h:∀ out:Array Value,out.toList.Perm vs->(out.toList.Pairwise λx y=>ltI y x=false)->Q (.ref (s.heap.objs.size+1)) { s with heap:=sortedAll s.heap vs out }):wpAny (model prog w) A (call (.builtin "sorted") [.ref l]) Q E s:=by
 refine Calls.call_function_entry kind_sorted plain_sorted entry_sorted (args_sorted1 _) ?_
 unfold Builtin.«sorted»
 refine ZC (m:=checkCount "sorted" 1 1 _) (ZP (ZC (collect_list hl (ZC (wpAny_newList ?_ (by show vs.length<=_;exact hz))) hz)))
 have hsz:((s.heap.push (seqObj "list" #[] 0)).update s.heap.objs.size (Obj.mapSeq (· ++ vs.toArray))).objs.size=s.heap.objs.size+1:=by rw[Heap.size_update,size_push']
 have hoL:(((s.heap.push (seqObj "list" #[] 0)).update s.heap.objs.size (Obj.mapSeq (· ++ vs.toArray))).push (seqObj "list" vs.toArray 0)).get? (s.heap.objs.size+1)=some (seqObj "list" vs.toArray 0):=by rw[<- hsz];exact ZV _ rfl
 show wpAny _ _ _ _ _ { s with heap:=((s.heap.push (seqObj "list" #[] 0)).update s.heap.objs.size (Obj.mapSeq (· ++ vs.toArray))).push (seqObj "list" vs.toArray 0) }
 rw[hsz]
 refine ZC (wpAny_holding (wpAny_call_entry slot_list_sort ⟨_,hoL,rfl⟩ entry_list_sort (q314 (κ:=oneType') (P:=λv=>∃ k t,v=Value.int k t) (lt:=ltI) hoL hz (λh6 _ h2 Q' hq=>?_) (λh6 _=>good_i) tot_i ai λout a1 a2=>⟨_,rfl,ZP ⟨_,rfl,h out a1 a2⟩⟩) (args_list_sort _)))
 rw[ksk_kind (kz:=vs.map kOf) (by simpa using q419 vs ai) (by simpa using h2)]
 exact ZP hq
end
end TS
namespace L2
open PySem PySem.Spec PyProof.Rows List
variable {X:Cx}
inductive q424(K:Fg)(xs:List V)(H:Hp)(Q:VK):Prop
 |mk(p:Addr)(ns:List Int)(_:xs=[.ref p])(_:SqL K H p (ns.map V.int))(_:∀(l:Addr)(ms:List Int),H l=none->ms.Perm ns->ms.Pairwise (· <= ·)->Q (.ref l) (upd H l (.lst (ms.map V.int))))
theorem q584:∀{ns:List Int}{its:List Value},Vals (ns.map V.int) its->TS.AllI its/\its.map TS.kOf=ns
 | [],_,.nil=>⟨λv hv=>absurd hv (by simp),rfl⟩
 | n::ns,_,.cons r rr=>by
  obtain⟨t,rfl⟩:=r
  obtain⟨h1,h2⟩:=q584 rr
  refine⟨λv hv=>?_,by rw[map_cons,h2];rfl⟩
  rcases eB hv with z | z
  ·exact⟨n,t,z⟩
  ·exact h1 v z
def q473{K:Fg}(hK:X.K=K):CallR X (.builtin "sorted") (q424 K):=by
 subst hK
 intro pins s σ H xs us Q I r h
 obtain⟨p,ns,rfl,hq,q⟩:=h
 obtain⟨u,rfl,rx⟩:=vals1 r
 cases rx
 obtain⟨its,r',pl,hz⟩:=I.list hq
 have hl:=r'.length
 obtain⟨ai,ek⟩:=q584 r'
 refine TS.sorted_i pl.isList ai {} λout a1 a2=>?_
 obtain⟨e,he⟩:=PyProof.Rows.sortedAll_at s.heap its out
 have hml:out.toList.length=its.length:=a1.length_eq
 refine⟨.ref (s.heap.objs.size+1),_,I.laid (t':=s.toks) (a:=s.heap.objs.size+1) (o:=.lst ((out.toList.map TS.kOf).map V.int)) (λb ob z=>PyProof.Rows.sortedAll_old z) (Nat.le_succ _) ?_,rfl,q _ (out.toList.map TS.kOf) (I.hok.fresh (Nat.le_succ _)) (by rw[<- ek];exact a1.map _) ?_⟩
 ·exists by rw[ZJ,ZJ];lia,out.toList,e,q420 out.toList (λv hv=>ai v (a1.mem_iff.mp hv))
  rw[he]
 ·rw[pairwise_map]
  exact a2.imp fun {x y} z=>by unfold TS.ltI at z;rw[decide_eq_false_iff_not]at z;exact W22 z
inductive Rop_neA(K:Fg)(x:V)(y:V)(H:Hp)(Q:VK):Prop
 |mk(n:Nat)(_:Alk K H n x y)(_:n<=60)(_:Q (.bl false) H)
def op_neA(hu:X.A.units+64<cLine):OpR X (compareOp .NotEq) (Rop_neA X.K):=by
 intro pins s σ H x y v u Q I rx ry h
 obtain⟨n,hk,hn,q⟩:=h
 cases hk with
 | flat hf=>
  refine op_ne pins s σ H _ _ v u Q I rx ry ⟨?_,?_⟩
  ·cases x <;> first | rfl | cases hf
  ·rw[ZA rfl];exact q
 | tup ha hb hl h=>exact q414 hu pins s σ H _ _ v u Q I rx ry ⟨_,_,_,rfl,rfl,.tup ha hb hl h,hn,q⟩
 | lst ha hb hl h=>exact q414 hu pins s σ H _ _ v u Q I rx ry ⟨_,_,_,rfl,rfl,.lst ha hb hl h,hn,q⟩
inductive q726(K:Fg)(x:V)(y:V)(H:Hp)(Q:VK):Prop
 | flat (_:scal x y=true) (_:Q (.bl (!decide (x=y))) H)
 | seq (a:Addr) (xs:List V) (t:Str) (_:x = .ref a) (_:y = .str t) (_:SqT K H a xs\/SqL K H a xs) (_:Q (.bl true) H)
def op_neW(hu:X.A.units+64<cLine):OpR X (compareOp .NotEq) (q726 X.K):=by
 intro pins s σ H x y v u Q I rx ry h
 rcases h with ⟨h1,q⟩ | ⟨a,xs,t,rfl,rfl,h,q⟩
 ·exact op_ne pins s σ H _ _ v u Q I rx ry ⟨h1,q⟩
 ·cases rx
  obtain⟨tk,rfl⟩:=ry
  rcases h with h | h
  ·obtain⟨its,r1,p1,_⟩:=I.tuple h
   exact SeqAt.RcNeAt.tuple_str t tk p1 {} _ _ _ _ ⟨.bl true,H,I,rfl,q⟩
  ·obtain⟨its,r1,p1,_⟩:=I.list h
   exact SeqAt.RcNeAt.list_str t tk p1.isList {} _ _ _ _ ⟨.bl true,H,I,rfl,q⟩
def pfn(c:Cal X.prog X.w X.K X.mg X.base k x ps sp)(hr:Room j X.A)(ha:PA X (e::es) t)(hk:k<=j:=by decide)(hg:Gl X x:=by rfl)(hdb:(x==("__debug__":Str))=false:=by decide)(he:starEach (e::es) X.env=(false,eval e X.env)::starEach es X.env:=by rfl)(hpl:(backTo pos (starEach es X.env)).any (·.1)=false:=by rfl):PE X (.Call (.Name x p) (e::es) [] pos) (tCall sp [] E0 t):=pe_fn c (hr.m hk) hg ha hdb he hpl
def pa1(h0:PE X e t0)(s0:starEach [e] X.env=(false,eval e X.env)::starEach [] X.env:=by rfl):PA X [e] (tCons t0 tNil):=q10 h0 q11 s0
def pa2(h0:PE X e t0)(h1:PE X f t1)(s0:starEach [e,f] X.env=(false,eval e X.env)::starEach [f] X.env:=by rfl)(s1:starEach [f] X.env=(false,eval f X.env)::starEach [] X.env:=by rfl):PA X [e,f] (tCons t0 (tCons t1 tNil)):=q10 h0 (q10 h1 q11 s1) s0
def pa3(h0:PE X e t0)(h1:PE X f t1)(h2:PE X g t2)(s0:starEach [e,f,g] X.env=(false,eval e X.env)::starEach [f,g] X.env:=by rfl)(s1:starEach [f,g] X.env=(false,eval f X.env)::starEach [g] X.env:=by rfl)(s2:starEach [g] X.env=(false,eval g X.env)::starEach [] X.env:=by rfl):PA X [e,f,g] (tCons t0 (tCons t1 (tCons t2 tNil))):=q10 h0 (q10 h1 (q10 h2 q11 s2) s1) s0
def pa4(h0:PE X e t0)(h1:PE X f t1)(h2:PE X g t2)(h3:PE X h t3)(s0:starEach [e,f,g,h] X.env=(false,eval e X.env)::starEach [f,g,h] X.env:=by rfl)(s1:starEach [f,g,h] X.env=(false,eval f X.env)::starEach [g,h] X.env:=by rfl)(s2:starEach [g,h] X.env=(false,eval g X.env)::starEach [h] X.env:=by rfl)(s3:starEach [h] X.env=(false,eval h X.env)::starEach [] X.env:=by rfl):PA X [e,f,g,h] (tCons t0 (tCons t1 (tCons t2 (tCons t3 tNil)))):=q10 h0 (q10 h1 (q10 h2 (q10 h3 q11 s3) s2) s1) s0
end L2
namespace My
set_option hygiene false in
local macro_rules|`(tactic|specialize $t)=>`(tactic|refine ($t).cal λf fd F=>F.k sc λ_ _ _ s H _ Q _ hr h=>?_)
local macro_rules|`(tactic|ac_rfl)=>`(tactic|with_unfolding_all rfl)
local macro_rules(kind:=Lean.Parser.Term.tuple)|`(())=>`(by rfl)
open PySem L2 List
noncomputable abbrev pn0:List Str:=["bounds", "gathering", "number"]
noncomputable abbrev pn1:List Str:=["bounds", "gathering", "k"]
noncomputable abbrev pn2:List Str:=["_law_bounds_here", "_law_gathering", "_law_places", "_law_row_here", "_law_k"]
noncomputable abbrev pn3:List Str:=["_law_bounds_here", "_law_gathering", "_law_asked_here", "_law_answers_here"]
noncomputable abbrev pn4:List Str:=["_law_bounds_here", "_law_gatherings", "_law_row_here", "_law_asked_here"]
noncomputable abbrev pn5:List Str:=["_law_bounds_here", "_law_gathering", "_law_asked_here"]
noncomputable abbrev pn6:List Str:=["_law_pen", "_law_tree", "_law_start", "_law_end"]
noncomputable abbrev pn7:List Str:=["bounds", "gathering", "paper", "number", "many"]
noncomputable abbrev pn8:List Str:=["bounds", "gathering", "paper", "number", "told"]
noncomputable abbrev pn9:List Str:=["_law_pen", "_law_bounds_here", "_law_greatest"]
noncomputable abbrev pn10:List Str:=["_law_pen", "_law_bounds_here", "_law_row_here"]
noncomputable abbrev pn11:List Str:=["bounds", "gathering", "paper", "part", "told"]
noncomputable abbrev pn12:List Str:=["bounds", "gathering", "part"]
noncomputable abbrev pn13:List Str:=["bounds", "gathering"]
noncomputable abbrev pn14:List Str:=["bounds", "gathering", "paper", "k", "worth"]
noncomputable abbrev pn15:List Str:=["least", "many", "parts", "part", "floor"]
noncomputable abbrev pn16:List Str:=["bounds", "number"]
noncomputable abbrev pn17:List Str:=["gathering", "way"]
noncomputable abbrev pn18:List Str:=["least", "many", "parts", "must_split"]
noncomputable abbrev pn19:List Str:=["bounds", "gathering", "low", "high"]
noncomputable abbrev pn20:List Str:=["bounds", "gathering", "must_split"]
noncomputable def top(i:Nat):Stmt:=PySem.Challenge.pw_manyleast_k64_whole_pieces_answer_as_the.main.body.getD i (.Pass ⟨0,0,0,0⟩)
noncomputable abbrev q380:Stmt:=top 5
noncomputable abbrev q210:Stmt:=top 6
noncomputable abbrev q585:Stmt:=top 7
noncomputable abbrev q727:Stmt:=top 8
noncomputable abbrev q474:Stmt:=top 9
noncomputable abbrev q586:Stmt:=top 10
noncomputable abbrev q728:Stmt:=top 12
noncomputable abbrev q381:Stmt:=top 13
noncomputable abbrev q475:Stmt:=top 15
noncomputable abbrev q316:Stmt:=top 16
noncomputable abbrev q476:Stmt:=top 17
noncomputable abbrev q477:Stmt:=top 18
noncomputable abbrev q478:Stmt:=top 19
noncomputable abbrev q317:Stmt:=top 21
noncomputable abbrev q425:Stmt:=top 22
noncomputable abbrev s_led:Stmt:=top 23
noncomputable abbrev q211:Stmt:=top 24
noncomputable abbrev q587:Stmt:=top 25
noncomputable abbrev q479:Stmt:=top 27
noncomputable abbrev q588:Stmt:=top 28
noncomputable abbrev q318:Stmt:=top 30
noncomputable abbrev q265:Stmt:=top 31
noncomputable abbrev q319:Stmt:=top 32
noncomputable abbrev q212:Stmt:=top 33
noncomputable abbrev q729:Stmt:=top 34
noncomputable abbrev q480:Stmt:=top 35
noncomputable abbrev q320:Stmt:=top 37
noncomputable abbrev s_most:Stmt:=top 38
noncomputable abbrev q730:Stmt:=top 39
noncomputable abbrev q145:Stmt:=top 40
noncomputable abbrev q731:Stmt:=top 42
noncomputable abbrev q481:Stmt:=top 43
noncomputable abbrev q321:Stmt:=top 44
noncomputable abbrev q382:Stmt:=top 45
noncomputable abbrev q172:Stmt:=top 46
noncomputable abbrev q213:Stmt:=top 47
noncomputable abbrev q214:Stmt:=top 48
noncomputable abbrev q215:Stmt:=top 49
noncomputable abbrev q128:Stmt:=top 50
noncomputable abbrev q216:Stmt:=top 51
noncomputable abbrev q161:Stmt:=top 52
noncomputable abbrev q482:Stmt:=top 54
noncomputable abbrev q322:Stmt:=top 55
noncomputable abbrev q217:Stmt:=top 56
noncomputable abbrev q173:Stmt:=top 57
noncomputable abbrev q383:Stmt:=top 58
noncomputable abbrev q218:Stmt:=top 60
noncomputable abbrev q219:Stmt:=top 61
noncomputable abbrev q220:Stmt:=top 62
noncomputable abbrev q384:Stmt:=top 63
noncomputable abbrev q266:Stmt:=top 64
noncomputable abbrev q267:Stmt:=top 65
noncomputable abbrev q323:Stmt:=top 67
noncomputable abbrev q324:Stmt:=top 68
noncomputable abbrev q221:Stmt:=top 69
noncomputable abbrev q246:Stmt:=top 70
noncomputable abbrev q146:Stmt:=top 71
noncomputable abbrev q174:Stmt:=top 72
noncomputable abbrev q38:Stmt:=top 73
noncomputable abbrev q268:Stmt:=top 74
noncomputable abbrev q65:Stmt:=top 75
noncomputable abbrev q269:Stmt:=top 76
noncomputable abbrev q247:Stmt:=top 77
noncomputable abbrev s_law:Stmt:=top 78
def q527:FnScope ["thing"] ["thing"] (q16 q380):=fsc
def q350:FnScope ["levels", "many", "level"] ["levels"] (q16 q210):=fsc
def q732:FnScope ["bounds"] ["bounds"] (q16 q585):=fsc
def sc_where:FnScope pn16 pn16 (q16 q727):=fsc
def q644:FnScope ["bounds", "way", "least", "many", "turn"] ["bounds", "way"] (q16 q474):=fsc
def q733:FnScope (pn16.append ["least", "many", "way", "level"]) pn16 (q16 q586):=fsc
def sc_ahead:FnScope ["marks", "mark", "place"] ["marks", "mark", "place"] (q16 q728):=fsc
def q528:FnScope ["marks", "mark", "number", "left", "place", "other"] ["marks", "mark", "number"] (q16 q381):=fsc
def q645:FnScope ["bounds", "row", "number"] ["bounds", "row"] (q16 q475):=fsc
def sc_grown:FnScope ["least", "many", "row", "half", "middle", "marks", "lower", "upper"] ["least", "many", "row"] (q16 q316):=fsc
def q646:FnScope ["thing", "word"] ["thing", "word"] (q16 q476):=fsc
def q647:FnScope ["tree", "mark"] ["tree", "mark"] (q16 q477):=fsc
def q648:FnScope ["tree"] ["tree"] (q16 q478):=fsc
def q649:FnScope ["gathering"] ["gathering"] (q16 q317):=fsc
def q734:FnScope ["gathering"] ["gathering"] (q16 q425):=fsc
def sc_led:FnScope pn17 pn17 (q16 s_led):=fsc
def q351:FnScope ["stretch", "way", "part", "start", "end", "turn", "half"] ["stretch", "way"] (q16 q211):=fsc
def q735:FnScope ["tree", "way", "place", "inner"] ["tree", "way", "place"] (q16 q587):=fsc
def q650:FnScope ["stretch", "tree", "start", "end", "lower", "upper"] ["stretch"] (q16 q479):=fsc
def q736:FnScope ["one", "other"] ["one", "other"] (q16 q588):=fsc
def q483:FnScope (pn1.append ["way", "alike"]) pn1 (q16 q318):=fsc
def q426:FnScope ["levels", "gathering", "k", "way", "parts", "left", "level", "lower", "turn"] ["levels", "gathering", "k"] (q16 q265):=fsc
def q484:FnScope ["gathering", "way", "number", "parts", "left", "j"] ["gathering", "way", "number"] (q16 q319):=fsc
def q352:FnScope (pn17.append ["many", "parts", "turn"]) pn17 (q16 q212):=fsc
def sc_below:FnScope (pn0.append ["side"]) pn0 (q16 q729):=fsc
def q651:FnScope pn19 pn19 (q16 q480):=fsc
def q485:FnScope pn13 pn13 (q16 q320):=fsc
def sc_most:FnScope (pn13.append ["best", "counted"]) pn13 (q16 s_most):=fsc
def sc_often:FnScope pn12 pn12 (q16 q730):=fsc
def q283:FnScope (pn15.append ["things", "half", "lower", "upper"]) pn15 (q16 q145):=fsc
def sc_keeps:FnScope ["levels", "gathering", "paper"] ["levels", "gathering", "paper"] (q16 q731):=fsc
def q652:FnScope ["levels", "parts", "thing", "turn"] ["levels", "parts", "thing"] (q16 q481):=fsc
def q486:FnScope ["thing"] ["thing"] (q16 q321):=fsc
def q529:FnScope ["thing"] ["thing"] (q16 q382):=fsc
def q325:FnScope ["bounds", "paper"] ["bounds", "paper"] (q16 q172):=fsc
def q353:FnScope ["least", "many", "paper", "half"] ["least", "many", "paper"] (q16 q213):=fsc
def q354:FnScope ["closed", "worth", "least", "greatest", "many"] ["closed", "worth"] (q16 q214):=fsc
def q355:FnScope (pn7.append ["together", "least", "greatest", "things"]) pn7 (q16 q215):=fsc
def q356:FnScope (pn14.append ["closed", "alike", "lesser"]) pn14 (q16 q128):=fsc
def q357:FnScope (pn11.append ["found", "least", "greatest", "things"]) pn11 (q16 q216):=fsc
def q530:FnScope (pn8.append ["closed", "above", "worth"]) pn8 (q16 q161):=fsc
def q653:FnScope (pn0.append ["k"]) pn0 (q16 q482):=fsc
def q487:FnScope (pn0.append ["k"]) pn0 (q16 q322):=fsc
def q358:FnScope (pn1.append ["way"]) pn1 (q16 q217):=fsc
def q326:FnScope pn1 pn1 (q16 q173):=fsc
def q531:FnScope ["least", "many", "parts", "k", "half", "lower", "upper", "first"] ["least", "many", "parts", "k"] (q16 q383):=fsc
def q359:FnScope pn0 pn0 (q16 q218):=fsc
def q360:FnScope (pn1.append ["worth"]) pn1 (q16 q219):=fsc
def q361:FnScope (pn12.append ["whole"]) pn12 (q16 q220):=fsc
def q532:FnScope (pn0.append ["found", "must_split"]) pn0 (q16 q384):=fsc
def q427:FnScope pn20 pn20 (q16 q266):=fsc
def q428:FnScope (pn18.append ["things", "half", "lower", "upper"]) pn18 (q16 q267):=fsc
def q488:FnScope ["_law_script", "_law_k", "_law_number"] ["_law_script", "_law_k"] (q16 q323):=fsc
def q489:FnScope ["_law_pen", "_law_size", "_law_found", "_law_cell_here", "_law_number"] ["_law_pen", "_law_size"] (q16 q324):=fsc
def q362:FnScope ["_law_pen", "_law_levels", "_law_way"] ["_law_pen"] (q16 q221):=fsc
def q533:FnScope (pn9.append ["_law_size", "_law_many", "_law_way", "_law_few", "_law_row_here", "_law_k"]) pn9 (q16 q246):=fsc
def q429:FnScope (pn10.append ["_law_numbers"]) pn10 (q16 q146):=fsc
def q327:FnScope (pn5.append ["_law_numbers", "_law_k", "_law_part", "_law_found", "_law_number"]) pn5 (q16 q174):=fsc
def q430:FnScope ["_law_row_here", "_law_asked_here", "_law_numbers", "_law_k", "_law_part", "_law_counts", "_law_greatest", "_law_found", "_law_number"] ["_law_row_here", "_law_asked_here"] (q16 q38):=fsc
def q431:FnScope (pn3.append ["_law_numbers", "_law_k", "_law_part", "_law_at", "_law_here"]) pn3 (q16 q268):=fsc
def q167:FnScope (pn2.append ["_law_at", "_law_worth", "_law_j", "_law_place"]) pn2 (q16 q65):=fsc
def q432:FnScope (pn4.append ["_law_plain_here", "_law_first", "_law_k", "_law_gathering", "_law_places"]) pn4 (q16 q269):=fsc
def q534:FnScope (pn6.append ["_law_places", "_law_k"]) pn6 (q16 q247):=fsc
def sc_law:FnScope ["_law_script", "_law_pen", "_law_bounds_here", "_law_rows", "_law_few", "_law_tree", "_law_row_here", "_law_pieces", "_law_begins_at", "_law_one", "_law_start", "_law_end", "_law_small", "_law_parts", "_law_some", "_law_asked_here"] ["_law_script"] (q16 s_law):=fsc
structure Bz(K:Fg)(mg:Mg)(base:Heap):Prop where
 all_:mg "all" = none
 bool_:mg "bool" = none
 enumerate_:mg "enumerate" = none
 int_:mg "int" = none
 isinstance_:mg "isinstance" = none
 len_:mg "len" = none
 max_:mg "max" = none
 min_:mg "min" = none
 range_:mg "range" = none
 set_:mg "set" = none
 sorted_:mg "sorted" = none
 str_:mg "str" = none
 sum_:mg "sum" = none
 tuple_:mg "tuple" = none
 d_is_whole:Def K mg "is_whole" q380 ["thing"]
 d_many_worths:Def K mg "many_worths" q210 ["levels"]
 d_top_of:Def K mg "top_of" q585 ["bounds"]
 d_where:Def K mg "where" q727 pn16
 d_span_of:Def K mg "span_of" q474 ["bounds", "way"]
 d_way_of:Def K mg "way_of" q586 pn16
 d_ahead:Def K mg "ahead" q728 ["marks", "mark", "place"]
 d_place_of:Def K mg "place_of" q381 ["marks", "mark", "number"]
 d_tree_of:Def K mg "tree_of" q475 ["bounds", "row"]
 d_grown:Def K mg "grown" q316 ["least", "many", "row"]
 d_is_word:Def K mg "is_word" q476 ["thing", "word"]
 d_half_of:Def K mg "half_of" q477 ["tree", "mark"]
 d_size_of:Def K mg "size_of" q478 ["tree"]
 d_many_in:Def K mg "many_in" q317 ["gathering"]
 d_filled:Def K mg "filled" q425 ["gathering"]
 d_led:Def K mg "led" s_led pn17
 d_led_stretch:Def K mg "led_stretch" q211 ["stretch", "way"]
 d_lifted:Def K mg "lifted" q587 ["tree", "way", "place"]
 d_cut_out:Def K mg "cut_out" q479 ["stretch"]
 d_joined:Def K mg "joined" q588 ["one", "other"]
 d_nth_least:Def K mg "nth_least" q318 pn1
 d_way_of_nth:Def K mg "way_of_nth" q265 ["levels", "gathering", "k"]
 d_nth_alike:Def K mg "nth_alike" q319 ["gathering", "way", "number"]
 d_many_lesser:Def K mg "many_lesser" q212 pn17
 d_below:Def K mg "below" q729 pn0
 d_between:Def K mg "between" q480 pn19
 d_worths_in:Def K mg "worths_in" q320 pn13
 d_most:Def K mg "most" s_most pn13
 d_often:Def K mg "often" q730 pn12
 d_counted_above:Def K mg "counted_above" q145 pn15
 d_keeps:Def K mg "keeps" q731 ["levels", "gathering", "paper"]
 d_is_kept:Def K mg "is_kept" q481 ["levels", "parts", "thing"]
 d_is_closed:Def K mg "is_closed" q321 ["thing"]
 d_is_split:Def K mg "is_split" q382 ["thing"]
 d_closed_parts:Def K mg "closed_parts" q172 ["bounds", "paper"]
 d_closed_from:Def K mg "closed_from" q213 ["least", "many", "paper"]
 d_many_closed:Def K mg "many_closed" q214 ["closed", "worth"]
 d_shows_below:Def K mg "shows_below" q215 pn7
 d_shows_least:Def K mg "shows_least" q128 pn14
 d_shows_often:Def K mg "shows_often" q216 pn11
 d_shows_up:Def K mg "shows_up" q161 pn8
 d_next_up:Def K mg "next_up" q482 pn0
 d_next_down:Def K mg "next_down" q322 pn0
 d_counted_nth:Def K mg "counted_nth" q217 pn1
 d_sum_of_least:Def K mg "sum_of_least" q173 pn1
 d_sum_from:Def K mg "sum_from" q383 ["least", "many", "parts", "k"]
 d_paper_below:DefL K mg "paper_below" q218 ["bounds", "gathering", "number"] 374 370
 d_paper_least:DefL K mg "paper_least" q219 ["bounds", "gathering", "k"] 381 377
 d_paper_often:DefL K mg "paper_often" q220 ["bounds", "gathering", "part"] 388 384
 d_paper_up:DefL K mg "paper_up" q384 ["bounds", "gathering", "number"] 395 391
 d_told_paper:Def K mg "told_paper" q266 pn20
 d_paper_from:Def K mg "paper_from" q267 pn18
 d__law_cell:Def K mg "_law_cell" q323 ["_law_script", "_law_k"]
 d__law_take:Def K mg "_law_take" q324 ["_law_pen", "_law_size"]
 d__law_bounds:Def K mg "_law_bounds" q221 ["_law_pen"]
 d__law_row:Def K mg "_law_row" q246 pn9
 d__law_asked:Def K mg "_law_asked" q146 pn10
 d__law_answers:Def K mg "_law_answers" q174 pn5
 d__law_plain:Def K mg "_law_plain" q38 ["_law_row_here", "_law_asked_here"]
 d__law_shows:Def K mg "_law_shows" q268 pn3
 d__law_things_right:Def K mg "_law_things_right" q65 pn2
 d__law_alike:Def K mg "_law_alike" q269 pn4
 d__law_cut:Def K mg "_law_cut" q247 pn6
 bmn:BMain mg base
def Scr(K:Fg)(H:Hp)(a:Addr)(xs:List V):Prop:=
 (∃ o,H a=some (.frz o (.lst xs))) \/
  ∃(o:Obj)(its:Array Value)(n:Nat),K.lookup a=some o/\o.cls = .type "list" /\ o.dict=none/\o.data = .seq its n/\its.size<=sizeLine/\Vals xs its.toList
def Scr.sq(h:Scr K H a xs):SqL K H a xs:=by
 rcases h with h | h
 ·exact .inl (.inr h)
 ·exact .inr h
def Scr.same(h:Scr K H a xs)(s:Same H H'):Scr K H' a xs:=by
 rcases h with ⟨o,h⟩ | h
 ·exact .inl ⟨o,s _ _ h⟩
 ·exact .inr h
def Scr.set(h:Scr K H a xs)(e:H p=some (.lst ys)):Scr K (upd H p o) a xs:=by
 rcases h with ⟨ob,h⟩ | h
 ·exact .inl ⟨ob,by rw[q27 (ne_of h e (by intro z;cases z))];exact h⟩
 ·exact .inr h
def Pen(K:Fg)(H:Hp)(pen:Addr)(n:Int):Prop:=∃(a:Addr)(ns:List Int)(c r:Int),H pen=some (.lst [.ref a,.int c,.int r])/\Scr K H a (ns.map V.int)/\ns.length<=63/\0<=c/\c<=n/\0<=r
def Pen.same{n:Int}(p:Pen K H pen n)(s:Same H H'):Pen K H' pen n:=by
 obtain⟨a,ns,c,r,h1,h2,h3⟩:=p
 exact⟨a,ns,c,r,s _ _ h1,h2.same s,h3⟩
def Pen.new{n:Int}(p:Pen K H pen n)(h:H q=none)(o:HO):Pen K (upd H q o) pen n:=p.same (q17 h o)
def Pen.le{n m:Int}(p:Pen K H pen n)(h:n<=m):Pen K H pen m:=by
 obtain⟨a,ns,c,r,h1,h2,h3,h4,h5,h6⟩:=p
 exact⟨a,ns,c,r,h1,h2,h3,h4,(W204 h5 h),h6⟩
def Pen.at{n:Int}(p:Pen K H pen n):∃ xs,H pen=some (.lst xs):=by
 obtain⟨a,ns,c,r,h1,_⟩:=p
 exact⟨_,h1⟩
def Pen.ne{n:Int}(p:Pen K H pen n)(h:H b=some (.tup xs)):b≠pen:=by
 obtain⟨ys,e⟩:=p.at
 exact ne_of h e (by intro z;cases z)
def Pen.fresh{n:Int}(p:Pen K H pen n)(h:H b=none):b≠pen:=by
 obtain⟨ys,e⟩:=p.at
 exact λz=>by rw[z,e]at h;cases h
def Pen.other{n:Int}(p:Pen K H pen n)(hq:q≠pen)(e:H q=some (.lst ys))(o:HO):Pen K (upd H q o) pen n:=by
 obtain⟨a,ns,c,r,h1,h2,h3⟩:=p
 exact⟨a,ns,c,r,by rw[q27 (Ne.symm hq)];exact h1,h2.set e,h3⟩
def Pen.put{ns:List Int}{c r n:Int}(h1:H pen=some (.lst xs))(h2:Scr K H a (ns.map V.int))(h4:ns.length<=63)(h5:0<=c)(h6:c<=n)(h7:0<=r) :
  Pen K (upd H pen (.lst [.ref a,.int c,.int r])) pen n:=⟨a,ns,c,r,q14,h2.set h1,h4,h5,h6,h7⟩
inductive q270(K:Fg)(vs:List V)(H:Hp)(Q:VK)(E:XK):Prop
 |mk(a:Addr)(ns:List Int)(k:Int)(_:vs=[.ref a,.int k])(_:SqL K H a (ns.map V.int))(_:ns.length<=63)(_:0<=k)(_:k<1000000000)(_:∀ n:Int,Q (.int n) H)
inductive q271(K:Fg)(vs:List V)(H:Hp)(Q:VK)(E:XK):Prop
 |mk(pen:Addr)(size n:Int)(_:vs=[.ref pen,.int size])(_:Pen K H pen n)(_:n<100000000)(_:0<size)(_:size<10^60)(_:∀(v:Int)(H':Hp),Keep pen H H'->Pen K H' pen (n+1)->0<=v->v<size->Q (.int v) H')
variable {P:Program}{w:World}{K:Fg}{mg:Mg}{base:Heap}
abbrev Bz.C(_:Bz K mg base)(P:Program)(w:World):=Cal P w K mg base
variable (z:Bz K mg base)
def q490:z.C P w 1 "_law_cell" ["_law_script", "_law_k"] (q270 K):=by
 have sc:=q488
 specialize z.d__law_cell
 obtain⟨a,ns,k,rfl,hS,h63,h0,hk,q⟩:=h
 refine⟨_,(q12 (ps_if (q20 op_lt (pv 1) (pln z.len_ (pa1 (pv 0))) (q19 _))
 (q15 (q18 (pix q54 (pv 0) (pv 1))))
 q21)
 (q12 (pst 2 sc.nd (pe_op q30 (pe_op q84 q13 (pv 1)) q13))
 (q12 (ps_if (q20 op_gt (pln z.len_ (pa1 (pv 0))) q13 (q19 _))
 (q15 (pst 2 sc.nd (pe_op q30 (pv 2) (pe_op q84 (pe_op q134 (pix q54 (pv 0) (pe_op q134 (pe_op q30 (pe_op q84 q13 (pv 1)) q13) (pln z.len_ (pa1 (pv 0))))) q13) q13))))
 q21)
 (q15 (q18 (pe_op q134 (pe_op q84 (pv 2) (pv 2)) q13)))))),?_⟩
 have hl:(ns.map V.int).length=ns.length:=ZJ _
 exists _,rfl,_,rfl,a,_,rfl,.inl hS,_,_,rfl,rfl,_,rfl
 refine ite2 (λc=>?_) (λc=>?_)
 ·have c':k<(((ns.map V.int).length:Nat):Int):=ZE c
  rw[hl]at c'
  obtain⟨v,_,hv⟩:=q126 h0 c'
  exact⟨_,rfl,_,rfl,a,_,_,_,rfl,rfl,hS,hv,q v⟩
 ·exists _,rfl,_,_,rfl,rfl,.inl ⟨∅,∅⟩,_,_,rfl,rfl
  exists _,rfl,a,_,rfl,.inl hS,_,_,rfl,rfl,_,rfl
  refine ite2 (λc2=>?_) (λc2=>?_)
  ·have c2':(0:Int)<(((ns.map V.int).length:Nat):Int):=ZE c2
   have m0:0<=(7*k+3)%(((ns.map V.int).length:Nat):Int):=Int.emod_nonneg _ {}
   have m1:(7*k+3)%(((ns.map V.int).length:Nat):Int)<(((ns.map V.int).length:Nat):Int):=YT _ c2'
   obtain⟨v,_,hv⟩:=q126 (l:=ns) m0 (by rw[hl]at m1 ⊢;exact m1)
   have b0:0<=v%2147483629:=Int.emod_nonneg _ ∅
   have b1:v%2147483629<2147483629:=YT _ ∅
   exists _,rfl,_,rfl,_,rfl,_,_,rfl,rfl,.inl ⟨∅,∅⟩,_,_,rfl,rfl,_,rfl,a,_,rfl,.inl hS,_,_,rfl,rfl,c2',a,_,_,_,rfl,rfl,hS,hv,_,_,rfl,rfl,(by show(0:Int)<2147483629;decide),_,_,rfl,rfl,.inr ⟨∅,∅⟩,_,_,rfl,rfl
   exact⟨_,rfl,_,rfl,_,_,rfl,rfl,.inl ⟨{},{}⟩,_,_,rfl,rfl,(by show(0:Int)<2147483587;decide),q _⟩
  ·exact⟨_,rfl,_,rfl,_,_,rfl,rfl,.inl ⟨{},{}⟩,_,_,rfl,rfl,(by show(0:Int)<2147483587;decide),q _⟩
def q23:z.C P w 2 "_law_take" ["_law_pen", "_law_size"] (q271 K):=by
 have sc:=q489
 specialize z.d__law_take
 obtain⟨pen,size,n,rfl,⟨a,ns,c,r,hp,hS,h63,c0,cn,r0⟩,hn,s0,s1,q⟩:=h
 refine⟨_,(q12 (ps_if (q20 op_gt (pix q54 (pv 0) q13) q13 (q19 _))
 (q12 (pst 2 sc.nd (pe_op q134 (pix q54 (pv 0) q13) (pv 1)))
 (q12 (q260 (pe_op q69 (pix q54 (pv 0) q13) (pv 1)) (q556 (pv 0) q13 set_list))
 (q15 (q18 (pv 2)))))
 q21)
 (q12 (pst 3 sc.nd (pfn (q490 z) hr (pa2 (pix q54 (pv 0) q13) (pix q54 (pv 0) q13))))
 (q12 (q260 (pe_op q30 (pix q54 (pv 0) q13) q13) (q556 (pv 0) q13 set_list))
 (q12 (ps_if (q20 op_ge (pv 3) (pe_op q451 q13 q13) (q19 _))
 (q12 (q260 (pe_op q69 (pv 3) (pv 1)) (q556 (pv 0) q13 set_list))
 (q15 (q18 (pe_op q134 (pv 3) (pv 1)))))
 q21)
 (q12 (pst 4 sc.nd (pe_op q134 (pe_op q84 (pe_op q30 (pe_op q30 (pe_op q134 (pv 3) q13) (pe_op q84 q13 (pix q54 (pv 0) q13))) q13) q13) q13))
 (q12 (pst 4 sc.nd (pe_op q134 (pe_op q84 (pe_op q30 (pv 4) (pix q54 (pv 0) q13)) (pe_op q30 (pe_op q134 (pv 4) q13) q13)) q13))
 (q12 (ps_if (q20 op_gt (pv 1) (pe_op q451 q13 q13) (q19 _))
 (q15 (q18 (pe_op q134 (pe_op q451 (pe_op q69 (pv 4) q13) q13) (pv 1))))
 q21)
 (q15 (q18 (pe_op q134 (pe_op q69 (pv 4) q13) (pv 1))))))))))),?_⟩
 exists _,rfl,pen,_,_,_,rfl,rfl,SqL.of hp,rfl,_,_,rfl,rfl,_,rfl
 refine ite2 (λc1=>?_) (λc1=>?_)
 ·have c1':(0:Int)<r:=ZE c1
  exists _,rfl,pen,_,_,_,rfl,rfl,SqL.of hp,rfl,_,rfl,_,_,rfl,rfl,s0
  exists _,rfl,pen,_,_,_,rfl,rfl,SqL.of hp,rfl,_,rfl,_,_,rfl,rfl,⟨s0,s1⟩,_,rfl,pen,_,_,2,rfl,rfl,hp,rfl,_,rfl
  exact q _ _ (Keep.set pen H _) (Pen.put hp hS h63 c0 {} (Int.ediv_nonneg r0 (Int.le_of_lt s0))) (Int.emod_nonneg _ (W138 s0 s1)) (YT _ s0)
 ·refine⟨_,rfl,pen,_,_,_,rfl,rfl,SqL.of hp,rfl,_,rfl,pen,_,_,_,rfl,rfl,SqL.of hp,rfl,a,ns,c,rfl,hS.sq,h63,c0,{},λcell=>?_⟩
  exists _,rfl,pen,_,_,_,rfl,rfl,SqL.of hp,rfl,_,_,rfl,rfl,_,rfl,pen,_,_,1,rfl,rfl,hp,rfl
  have hS1:Scr K (upd H pen (.lst [.ref a,.int (c+1),.int r])) a (ns.map V.int):=hS.set hp
  have k1:Keep pen H (upd H pen (.lst [.ref a,.int (c+1),.int r])):=Keep.set pen H _
  exists _,rfl,_,_,rfl,rfl,⟨∅,∅,∅⟩,_,_,rfl,rfl,_,rfl
  refine ite2 (λc2=>?_) (λc2=>?_)
  ·have c2':(10:Int)^18<=cell:=ZE c2
   exists _,rfl,_,rfl,_,_,rfl,rfl,⟨s0,s1⟩,_,rfl,pen,_,_,2,rfl,rfl,q14,rfl,_,rfl,_,rfl,_,_,rfl,rfl,s0
   exact q _ _ (k1.trans (Keep.set pen _ _)) (Pen.put q14 hS1 h63 {} (W178 cn) (Int.ediv_nonneg {} (Int.le_of_lt s0))) (Int.emod_nonneg _ (W138 s0 s1)) (YT _ s0)
  ·have P1:Pen K (upd H pen (.lst [.ref a,.int (c+1),.int r])) pen (n+1):=Pen.put hp hS h63 {} (W178 cn) r0
   exists _,rfl,_,_,rfl,rfl,(by show(0:Int)<2147483629;decide),_,rfl,pen,_,_,_,rfl,rfl,SqL.of q14,rfl,_,_,rfl,rfl,.inl ⟨∅,∅⟩,_,_,rfl,rfl,_,_,rfl,rfl,_,_,rfl,rfl,.inr ⟨∅,∅⟩,_,_,rfl,rfl,(by show(0:Int)<2147483647;decide)
   generalize hx:((cell%2147483629+7919*(c+1)+1)*48271%2147483647)=x1
   have g0:0<=x1%65521:=Int.emod_nonneg _ ∅
   have g1:x1%65521<65521:=YT _ ∅
   exists _,rfl,_,rfl,pen,_,_,_,rfl,rfl,SqL.of q14,rfl,_,_,rfl,rfl,_,rfl,_,_,rfl,rfl,(by show(0:Int)<65521;decide),_,_,rfl,rfl,_,_,rfl,rfl,.inr ⟨{},{}⟩,_,_,rfl,rfl,(by show(0:Int)<2147483629;decide)
   generalize hy:((x1+(c+1))*(x1%65521+3)%2147483629)=x2
   have b0:0<=x2:=by rw[<- hy];exact Int.emod_nonneg _ ∅
   have b1:x2<2147483629:=by rw[<- hy];exact YT _ ∅
   exists _,rfl,_,_,rfl,rfl,⟨∅,∅,∅⟩,_,_,rfl,rfl,_,rfl
   refine ite2 (λ_=>?_) (λ_=>?_)
   ·exists _,rfl,_,_,rfl,rfl,⟨∅,∅⟩,_,_,rfl,rfl,⟨∅,∅,{}⟩,_,rfl,_,_,rfl,rfl,s0
    exact q _ _ k1 P1 (Int.emod_nonneg _ (W138 s0 s1)) (YT _ s0)
   ·exists _,rfl,_,_,rfl,rfl,⟨∅,∅⟩,_,rfl,_,_,rfl,rfl,s0
    exact q _ _ k1 P1 (Int.emod_nonneg _ {}) (YT _ s0)
inductive q175(u0:Fg)(vs:List V)(H:Hp)(Q:VK)(E:XK):Prop
 |mk(L:Nat)(_:vs=[.int (L:Int)])(_:L<=40)(_:Q (.int (2^L)) H)
inductive q491(K:Fg)(vs:List V)(H:Hp)(Q:VK)(E:XK):Prop
 |mk(b:Addr)(low:Int)(L:Nat)(_:vs=[.ref b])(_:SqT K H b [.int low,.int (L:Int)])(_:L<=40)(_:Q (.int (low+2^L-1)) H)
def q33:z.C P w 1 "many_worths" ["levels"] (q175 K):=by
 have sc:=q350
 specialize z.d_many_worths
 obtain⟨L,rfl,hL,q⟩:=h
 refine⟨_,(q12 (pst 1 sc.nd q13)
 (q12 (q61 PassesOwn.never rfl (q41 rfl z.range_ (pa1 (pv 0))) (pgn 2 sc.nd)
 (q15 (pst 1 sc.nd (pe_op q84 (pv 1) q13))))
 (q15 (q18 (pv 1))))),?_⟩
 refine⟨_,rfl,(L:Int),rfl,(W116 hL),(W161 hL),q106 (n:=L) (λi σ H2=>∃ v:Option V,σ=[some (.int (L:Int)),some (.int (2^i)),v]/\H2=H) ⟨none,rfl,rfl⟩ ?_ ?_⟩
 ·rintro i σ H2 hi ⟨v,rfl,rfl⟩
  exists _,rfl,_,_,rfl,rfl,.inr ⟨∅,∅⟩
  exact⟨_,by rw[YO];rfl,rfl⟩
 ·rintro σ H2 ⟨v,rfl,rfl⟩
  exact⟨_,rfl,q⟩
def q737:z.C P w 2 "top_of" ["bounds"] (q491 K):=by
 have sc:=q732
 specialize z.d_top_of
 obtain⟨b,low,L,rfl,hb,hL,q⟩:=h
 exists _,(q15 (q18 (pe_op q74 (pe_op q30 (pix q24 (pv 0) q13) (pfn (q33 z) hr (pa1 (pix q24 (pv 0) q13)))) q13)))
 exact⟨_,rfl,b,_,_,_,rfl,rfl,hb,rfl,_,rfl,b,_,_,_,rfl,rfl,hb,rfl,L,rfl,hL,_,_,rfl,rfl,_,_,rfl,rfl,q⟩
inductive q176(K:Fg)(vs:List V)(H:Hp)(Q:VK)(E:XK):Prop
 |mk(pen:Addr)(n:Int)(_:vs=[.ref pen])(_:Pen K H pen n)(_:n<10000000)(_:∀(b:Addr)(low:Int)(L:Nat)(H':Hp),Keep pen H H'->Pen K H' pen (n+4)->H' b=some (.tup [.int low,.int (L:Int)]) -> -(10^40)<low->low<10^40->L<=40->Q (.ref b) H')
def q363:z.C P w 3 "_law_bounds" ["_law_pen"] (q176 K):=by
 have sc:=q362
 specialize z.d__law_bounds
 obtain⟨pen,n,rfl,P0,hn,q⟩:=h
 refine⟨_,(q12 (pst 1 sc.nd (pix q54 (q32 (q10 (pfn (q23 z) hr (pa2 (pv 0) q13)) (q10 q13 (q10 q13 (q10 q13 (pa4 q13 q13 q13 q13)))))) (pfn (q23 z) hr (pa2 (pv 0) q13))))
 (q12 (pst 2 sc.nd (pfn (q23 z) hr (pa2 (pv 0) q13)))
 (q12 (ps_if (q20 op_eq (pv 2) q13 (q19 _))
 (q15 (q18 (q29 (pa2 (pe_op q30 (pe_op q74 (pfn (q23 z) hr (pa2 (pv 0) (pe_op q74 (pe_op q84 q13 (pe_op q451 q13 q13)) q13))) (pe_op q451 q13 q13)) q13) (pv 1)))))
 q21)
 (q12 (ps_if (q20 op_eq (pv 2) q13 (q19 _))
 (q15 (q18 (q29 (pa2 q13 (pv 1)))))
 q21)
 (q15 (q18 (q29 (pa2 (pe_op q74 (pfn (q23 z) hr (pa2 (pv 0) q13)) q13) (pv 1))))))))),?_⟩
 refine⟨_,rfl,pen,41,n,rfl,P0,(W152 hn),∅,∅,λv1 H1 k1 P1 a1 b1=>⟨szb rfl,λp hp=>?_⟩⟩
 refine⟨_,rfl,pen,8,n+1,rfl,P1.new hp _,{},∅,∅,λv2 H2 k2 P2 a2 b2=>?_⟩
 obtain⟨L',hm,hv⟩:=q126 (l:=[v1,0,1,2,3,4,5,8]) a2 b2
 have hL:0<=L'/\L'<=40:=by
  simp only[mem_cons,not_mem_nil,or_false]at hm
  lia
 obtain⟨L,rfl⟩:=Int.eq_ofNat_of_zero_le hL.1
 have hL2:L<=40:={}
 exists p,_,_,_,rfl,rfl,SqL.of (k2 _ _ (P1.fresh hp) q14),hv
 refine⟨_,rfl,pen,4,n+1+1,rfl,P2,{},∅,∅,λv3 H3 k3 P3 a3 b3=>?_⟩
 have k03:Keep pen H H3:=k1.trans ((Keep.new hp _).trans (k2.trans k3))
 exists _,rfl,rfl,_,rfl
 refine ite2 (λ_=>?_) (λ_=>?_)
 ·refine⟨_,rfl,_,_,rfl,rfl,⟨∅,∅,∅⟩,_,_,rfl,rfl,.inl ⟨∅,∅⟩,_,_,rfl,rfl,pen,_,n+1+1+1,rfl,P3,{},∅,∅,λv4 H4 k4 P4 a4 b4=>?_⟩
  refine⟨_,_,rfl,rfl,⟨∅,∅,∅⟩,_,_,rfl,rfl,_,_,rfl,rfl,_,rfl,szb rfl,λb hb=>?_⟩
  refine q b _ L _ (k03.trans (k4.trans (Keep.new hb _))) ((P4.new hb _).le {}) q14 ?_ ?_ hL2
  ·show -(10^40)<v4-(10:Int)^40+1
   lia
  ·show v4-(10:Int)^40+1<10^40
   have b4':v4<2*(10:Int)^40-1:=b4
   lia
 ·exists _,rfl,rfl,_,rfl
  refine ite2 (λ_=>?_) (λ_=>?_)
  ·refine⟨_,rfl,szb rfl,λb hb=>?_⟩
   exact q b _ L _ (k03.trans (Keep.new hb _)) ((P3.new hb _).le {}) q14 ∅ ∅ hL2
  ·refine⟨_,rfl,pen,99,n+1+1+1,rfl,P3,{},∅,∅,λv4 H4 k4 P4 a4 b4=>?_⟩
   refine⟨_,_,rfl,rfl,_,rfl,szb rfl,λb hb=>?_⟩
   exact q b _ L _ (k03.trans (k4.trans (Keep.new hb _))) ((P4.new hb _).le {}) q14 {} {} hL2
noncomputable def q328(low:Int)(L:Nat)(n:Int):Str:=if n<low then "below" else if low+2^L-1<n then "above" else "within"
def q738{low n:Int}{L:Nat}(h:low<=n/\n<low+2^L):q328 low L n = "within" := by
 unfold q328
 rw[ZI {},ZI {}]
inductive q589(K:Fg)(vs:List V)(H:Hp)(Q:VK)(E:XK):Prop
 |mk(b:Addr)(low n:Int)(L:Nat)(_:vs=[.ref b,.int n])(_:SqT K H b [.int low,.int (L:Int)])(_:L<=40)(_:Q (.str (q328 low L n)) H)
def q433:z.C P w 3 "where" pn16 (q589 K):=by
 have sc:=sc_where
 specialize z.d_where
 obtain⟨b,low,n,L,rfl,hb,hL,q⟩:=h
 refine⟨_,(q12 (ps_if (q20 op_lt (pv 1) (pix q24 (pv 0) q13) (q19 _))
 (q15 (q18 q51))
 q21)
 (q12 (ps_if (q20 op_gt (pv 1) (pfn (q737 z) hr (pa1 (pv 0))) (q19 _))
 (q15 (q18 q51))
 q21)
 (q15 (q18 q51)))),?_⟩
 unfold q328 at q
 exists _,rfl,_,rfl,b,_,_,_,rfl,rfl,hb,rfl,_,_,rfl,rfl,_,rfl
 refine ite2 (λc=>?_) (λc=>?_)
 ·rw[ZL (ZE c)]at q
  exact q
 ·rw[ZI (λz=>c (ZA z))]at q
  exists _,rfl,_,rfl,b,low,L,rfl,hb,hL,_,_,rfl,rfl,_,rfl
  refine ite2 (λc=>?_) (λc=>?_)
  ·rw[ZL (ZE c)]at q
   exact q
  ·rw[ZI (λz=>c (ZA z))]at q
   exact q
def Wths(low:Int)(L:Nat)(ns:List Int):Prop:=∀ x∈ns,low<=x/\x<low+2^L
def Wths.snoc{low:Int}{L:Nat}{y:Int}(h:Wths low L ns)(h0:low<=y)(h1:y<low+2^L):Wths low L (ns++[y]):=λx hx=>by
 rcases eC hx with h' | h'
 ·exact h x h'
 ·cases eD h'
  exact⟨h0,h1⟩
inductive q329(K:Fg)(vs:List V)(H:Hp)(Q:VK)(E:XK):Prop
 |mk(pen b:Addr)(n g low:Int)(L:Nat)(_:vs=[.ref pen,.ref b,.int g])(_:Pen K H pen n)(_:n<10000000)(_:H b=some (.tup [.int low,.int (L:Int)]))(_:L<=40)(_:0<=g)(_:g<=60)(_:∀(r:Addr)(ns:List Int)(H':Hp),Keep pen H H'->Pen K H' pen (n+80)->H' r=some (.lst (ns.map V.int))->H r=none->(ns.length:Int)<=max 12 g->Wths low L ns->Q (.ref r) H')
def q535:z.C P w 3 "_law_row" pn9 (q329 K):=by
 have sc:=q533
 specialize z.d__law_row
 obtain⟨pen,b,n,g,low,L,rfl,P0,hn,hb,hL,g0,g1,q⟩:=h
 refine⟨_,(q12 (pst 3 sc.nd (pe_op q671 q13 (pix q24 (pv 1) q13)))
 (q12 (pst 4 sc.nd (pfn (q23 z) hr (pa2 (pv 0) q13)))
 (q12 (q422 (ps_if (q20 op_eq (pfn (q23 z) hr (pa2 (pv 0) q13)) q13 (q19 _))
 (q15 (pst 4 sc.nd (pfn (q23 z) hr (pa2 (pv 0) (pe_op q30 (pv 2) q13)))))
 q21))
 (q12 (pst 5 sc.nd (pfn (q23 z) hr (pa2 (pv 0) q13)))
 (q12 (q158 (i:=6) (cl:=[("_law_size", s.heap.objs.size+1+1),("_law_pen", s.heap.objs.size+1+0)]) (cn:=["_law_size", "_law_pen"]) (N:=["_law_pen", "_law_size"]) (fr:=[0,3]) (sc0:=q16 q246) sc.nd rfl (Or.inl rfl) rfl (q41 rfl z.range_ (pa1 (pe_op q30 q13 (pfn (q23 z) hr (pa2 (pv 0) q13))))) (λC s₂ H₂ fp=>(pfn (q23 z) hr (pa2 (pv 1) (pv 2)))) (by ac_rfl) ⟨by ac_rfl,by ac_rfl,trivial⟩ rfl rfl rfl cok rfl (by ac_rfl) (.inl rfl))
 (q12 (pst 7 sc.nd (q32 q11))
 (q12 (q61 PassesOwn.never rfl (q41 rfl z.range_ (pa1 (pv 4))) (pgn 8 sc.nd)
 (q15 (ps_if (q20 op_eq (pv 5) q13 (q19 _))
 (q15 (q75 (pe_bm WQ WS WT q42 (pv 7) (pa1 (pe_op q30 (pix q24 (pv 1) q13) (pfn (q23 z) hr (pa2 (pv 0) (pv 3))))))))
 (q15 (ps_if (q20 op_eq (pv 5) q13 (q19 _))
 (q15 (q75 (pe_bm WQ WS WT q42 (pv 7) (pa1 (pe_op q30 (pix q24 (pv 1) q13) (pe_op q134 (pe_op q30 (pix q54 (pv 6) q13) (pfn (q23 z) hr (pa2 (pv 0) q13))) (pv 3)))))))
 (q15 (q75 (pe_bm WQ WS WT q42 (pv 7) (pa1 (pe_op q30 (pix q24 (pv 1) q13) (pix q54 (pv 6) (pfn (q23 z) hr (pa2 (pv 0) (pln z.len_ (pa1 (pv 6))))))))))))))))
 (q12 (ps_if (q20 op_eq (pv 5) q13 (q19 _))
 (q15 (pst 7 sc.nd (q36 q263 () z.sorted_ q139 (pa1 (pv 7)))))
 q21)
 (q15 (q18 (pv 7))))))))))),?_⟩
 have hp:=p2pos L
 have hq:=p2le hL
 exists _,rfl,b,_,_,_,rfl,rfl,SqT.of hb,rfl,_,_,rfl,rfl,⟨(W95 hL),(W135 hL),∅⟩
 dsimp only
 rw[q700]
 refine⟨_,rfl,pen,13,n,rfl,P0,(W152 hn),∅,∅,λmv H1 k1 P1 m0 m1=>?_⟩
 exists λσ G=>∃ mv:Int,σ=[some (.ref pen),some (.ref b),some (.int g),some (.int (2^L)),some (.int mv),none,none,none,none]/\Keep pen H G/\Pen K G pen (n+3)/\0<=mv/\mv<=max 12 g,?_
 ·refine⟨_,rfl,pen,8,n+1,rfl,P1,{},∅,∅,λv2 H2 k2 P2 a2 b2=>⟨rfl,_,rfl,?_⟩⟩
  refine ite2 (λ_=>?_) (λ_=>?_)
  ·exact⟨_,rfl,_,rfl,_,_,rfl,rfl,pen,_,n+1+1,rfl,P2,{},{},{},λmv H3 k3 P3 m0 m1=>⟨mv,rfl,k1.trans (k2.trans k3),P3.le {},m0,{}⟩⟩
  ·exact⟨_,rfl,k1.trans k2,P2.le {},m0,{}⟩
 rintro σ H3 ⟨mv,rfl,kk,PP,m0,mm⟩
 refine⟨_,rfl,pen,4,_,rfl,PP,(W206 hn),∅,∅,λwv H4 k4 P4 w0 w1=>?_⟩
 refine⟨_,rfl,pen,4,_,rfl,P4,(W195 hn),∅,∅,λc H5 k5 P5 c0 c1=>⟨_,_,rfl,rfl,1+c,rfl,{},{},λD hD=>?_⟩⟩
 have hpl:∃ xs,H5 pen=some (.lst xs):=P5.at
 have k05:Keep pen H H5:=kk.trans (k4.trans k5)
 have hD0:H D=none:=by obtain⟨xs,e⟩:=hpl;exact k05.free hD e
 have hbp:b≠pen:=P0.ne hb
 refine q78 (n:=(1+c).toNat) (sz {}) (λj ys H6=>∃ fs:List Int,ys=fs.map V.int/\fs.length=j/\(∀ x∈fs,0<=x/\x<(2:Int)^L)/\H6 D=some (.lst ys)/\Keep pen H H6/\Pen K H6 pen (n+5+j))
  ⟨[],rfl,rfl,λx hx=>absurd hx (by simp),q14,k05.own hD0,(P5.new hD _).le {}⟩ (λj ys H6 ⟨fs,e1,e2,_,e3,_⟩=>⟨e3,by rw[e1,ZJ];exact e2⟩) ?_ ?_
 ·rintro j ys H6 hj ⟨fs,e1,e2,e4,e3,k6,P6⟩
  refine⟨_,rfl,_,rfl,pen,_,_,rfl,P6,{},hp,(W140 hp hq),λu3 H7 k7 P7 z0 z1=>?_⟩
  have e3':H7 D=some (.lst ys):=k7 _ _ (P5.fresh hD) e3
  refine⟨e3',fs++[u3],by rw[WK,e1] <;> rfl,by rw[ZQ,e2] <;> rfl,λx hx=>?_,q14,(k6.trans k7).own hD0,(P7.other (P5.fresh hD) e3' _).le {}⟩
  rcases eC hx with h' | h'
  ·exact e4 x h'
  ·cases eD h'
   exact⟨z0,z1⟩
 ·rintro ys H6 ⟨fs,e1,e2,e4,e3,k6,P6⟩
  rw[e1]at e3
  refine⟨szb rfl,λr hr=>?_⟩
  have hr0:H r=none:=by
   obtain⟨xs,e⟩:=P6.at
   exact k6.free hr e
  have hrD:D≠r:=q26 e3 hr
  have P7:Pen K (upd H6 r (.lst [])) pen (n+10):=(P6.new hr _).le {}
  have hfs:0<fs.length:={}
  refine⟨_,rfl,mv,rfl,{},{},q106 (n:=mv.toNat) (λi σ H8=>∃(ns:List Int)(v8:Option V),σ=[some (.ref pen),some (.ref b),some (.int g),some (.int (2^L)),some (.int mv),some (.int wv),some (.ref D),some (.ref r),v8]/\H8 r=some (.lst (ns.map V.int))/\ns.length=i/\Wths low L ns /\
   H8 D=some (.lst (fs.map V.int))/\Keep pen H H8/\Pen K H8 pen (n+10+i)) ⟨[],none,rfl,q14,rfl,λx hx=>absurd hx (by simp),(by rw[q27 hrD];exact e3),k6.own hr0,P7.le {}⟩ ?_ ?_⟩
  ·rintro i σ H8 hi ⟨ns,v8,rfl,hr8,hl8,hw8,hD8,k8,P8⟩
   have hb8:H8 b=some (.tup [.int low,.int (L:Int)]):=k8 _ _ hbp hb
   have hpr:r≠pen:=λz=>by
    obtain⟨xs,e⟩:=P6.at
    rw[z,e]at hr
    cases hr
   have fin:∀(y:Int)(H9:Hp),low<=y->y<low+2^L->Keep pen H8 H9->Pen K H9 pen (n+10+i+1)->H9 r=some (.lst (ns.map V.int))/\(ns.map V.int).length<sizeLine /\
     ∃(ns':List Int)(v8':Option V),[some (V.ref pen),some (.ref b),some (.int g),some (.int (2^L)),some (.int mv),some (.int wv),some (.ref D),some (.ref r),some (.int (0+(i:Int)))]=[some (V.ref pen),some (.ref b),some (.int g),some (.int (2^L)),some (.int mv),some (.int wv),some (.ref D),some (.ref r),v8']/\(upd H9 r (.lst (ns.map V.int++[.int y]))) r=some (.lst (ns'.map V.int))/\ns'.length=i+1/\Wths low L ns' /\
      (upd H9 r (.lst (ns.map V.int++[.int y]))) D=some (.lst (fs.map V.int))/\Keep pen H (upd H9 r (.lst (ns.map V.int++[.int y])))/\Pen K (upd H9 r (.lst (ns.map V.int++[.int y]))) pen (n+10+((i+1:Nat):Int)):=by
    intro y H9 y0 y1 k9 P9
    have hr9:=k9 _ _ hpr hr8
    have hD9:=k9 _ _ (P5.fresh hD) hD8
    refine⟨hr9,by rw[ZJ,hl8];exact q52 (W143 c0 g0 hl8 hi c1 mm g1),ns++[y],_,rfl,?_,by rw[ZQ,hl8] <;> rfl,hw8.snoc y0 y1,by rw[q27 hrD];exact hD9,(k8.trans k9).own hr0,(P9.other hpr hr9 _).le {}⟩
    rw[q14,WK]
    rfl
   exists _,rfl,rfl,_,rfl
   refine ite2 (λ_=>?_) (λ_=>?_)
   ·refine⟨_,rfl,.inl ⟨rfl,_,SqL.of hr8⟩,_,rfl,b,_,_,_,rfl,rfl,SqT.of hb8,rfl,_,rfl,_,rfl,pen,_,_,rfl,P8,{},hp,(W140 hp hq),λu H9 k9 P9 z0 z1=>⟨_,_,rfl,rfl,?_⟩⟩
    obtain⟨f1,f2,f3⟩:=fin (low+u) H9 (W182 hp z0 z1 hq) (W98 z1) k9 P9
    exact⟨r,_,_,rfl,rfl,f1,f2,f3⟩
   ·exists _,rfl,rfl,_,rfl
    refine ite2 (λ_=>?_) (λ_=>?_)
    ·obtain⟨f0,hm,hv⟩:=q126 (l:=fs) (i:=0) {} {}
     refine⟨_,rfl,.inl ⟨rfl,_,SqL.of hr8⟩,_,rfl,b,_,_,_,rfl,rfl,SqT.of hb8,rfl,_,rfl,D,_,_,_,rfl,rfl,SqL.of hD8,hv,_,rfl,pen,5,_,rfl,P8,{},∅,∅,λu H9 k9 P9 z0 z1=>⟨_,_,rfl,rfl,_,rfl,_,_,rfl,rfl,hp,_,_,rfl,rfl,?_⟩⟩
     have b0:0<=(f0+u)%(2:Int)^L:=Int.emod_nonneg _ {}
     have b1:(f0+u)%(2:Int)^L<2^L:=YT _ hp
     obtain⟨f1,f2,f3⟩:=fin (low+(f0+u)%(2:Int)^L) H9 {} {} k9 P9
     exact⟨r,_,_,rfl,rfl,f1,f2,f3⟩
    ·refine⟨_,rfl,.inl ⟨rfl,_,SqL.of hr8⟩,_,rfl,b,_,_,_,rfl,rfl,SqT.of hb8,rfl,_,rfl,_,rfl,_,rfl,D,_,rfl,.inl (SqL.of hD8),pen,_,_,rfl,P8,{},by rw[ZJ];lia,by rw[ZJ];lia,λu H9 k9 P9 z0 z1=>?_⟩
     rw[ZJ]at z1
     obtain⟨fv,hm,hv⟩:=q126 (l:=fs) (i:=u) z0 z1
     obtain⟨y0,y1⟩:=e4 fv hm
     obtain⟨f1,f2,f3⟩:=fin (low+fv) H9 (W182 hp y0 y1 hq) (W98 y1) k9 P9
     exact⟨D,_,_,_,rfl,rfl,SqL.of (k9 _ _ (P5.fresh hD) hD8),hv,_,_,rfl,rfl,r,_,_,rfl,rfl,f1,f2,f3⟩
  ·rintro σ H8 ⟨ns,v8,rfl,hr8,hl8,hw8,hD8,k8,P8⟩
   have hln:(ns.length:Int)<=max 12 g:={}
   exists _,rfl,rfl,_,rfl
   refine ite2 (λ_=>?_) (λ_=>?_)
   ·refine⟨_,rfl,r,ns,rfl,SqL.of hr8,(W207 c0 g0 hl8 c1 mm g1),λl ms hl pm _=>⟨_,rfl,?_⟩⟩
    have hl0:H l=none:=by
     obtain⟨xs,e⟩:=P8.at
     exact k8.free hl e
    exact q l ms _ (k8.own hl0) ((P8.new hl _).le {}) q14 hl0 (by rw[pm.length_eq];exact hln) (λx hx=>hw8 x (pm.mem_iff.mp hx))
   ·exact⟨_,rfl,q r ns _ k8 (P8.le {}) hr8 hr0 hln hw8⟩
noncomputable def grow(low:Int):Nat->List Int->Tr
 | 0,ns=>if ns=[]then .non else .many ns.length
 | e+1,ns=>if ns=[]then .non else .part (ns.map λn=>if n<low+2^e then 0 else 1) (grow low e (ns.filter λn=>decide (n<low+2^e))) (grow (low+2^e) e (ns.filter λn=>decide (low+2^e<=n)))
def q111(low:Int)(e:Nat):grow low e [] = .non:=by cases e <;> rfl
def q63{low:Int}{ns:List Int}(h:ns≠[]):grow low 0 ns = .many ns.length:=by unfold grow;rw[ZI h]
def q222{low:Int}{e:Nat}{ns:List Int}(h:ns≠[]):grow low (e+1) ns = .part (ns.map λn=>if n<low+2^e then 0 else 1) (grow low e (ns.filter λn=>decide (n<low+2^e))) (grow (low+2^e) e (ns.filter λn=>decide (low+2^e<=n))):=by
 rw[grow,ZI h]
theorem q330:∀(e:Nat)(low:Int)(ns:List Int),(grow low e ns).deep<=e
 | 0,low,ns=>by
  by_cases h:ns=[]
  ·rw[h,q111];exact ZG _
  ·rw[q63 h];exact ZG _
 | e+1,low,ns=>by
  by_cases h:ns=[]
  ·rw[h,q111];exact WA _
  ·rw[q222 h]
   have h1:=q330 e low (ns.filter λn=>decide (n<low+2^e))
   have h2:=q330 e (low+2^e) (ns.filter λn=>decide (low+2^e<=n))
   show max _ _+1<=e+1
   lia
def Tr.fit(b:Nat):Tr->Prop
 | .non=>True
 | .many _=>True
 | .part ms l r=>ms.length<=b/\Tr.fit b l/\Tr.fit b r
abbrev kb_grown:Nat:=0
abbrev q590:Nat:=40
inductive q331(K:Fg)(e:Nat)(vs:List V)(H:Hp)(Q:VK)(E:XK):Prop
 |mk(least:Int)(a:Addr)(ns:List Int)(_:vs=[.int least,.int (2^e),.ref a])(_:SqL K H a (ns.map V.int))(_:ns.length<=1000)(_:∀(H':Hp)(v:V),Same H H'->q35 H' v (grow least e ns)->Q v H')
def sp_grown(K:Fg):Sp:=λvs H Q E=>∃ e,e<=q590/\q331 K e vs H Q E
def ok_grown:z.C P w 41 "grown" ["least", "many", "row"] (sp_grown K):=by
 have sc:=sc_grown
 refine z.d_grown.recur (k:=kb_grown) (sp:=q331 K) q590 λe hen c_grown f fd F=>F.k sc λ_ _ _ s H _ Q _ hr h=>?_
 obtain⟨least,a,ns,rfl,ha,hl,q⟩:=h
 refine⟨_,(q12 (ps_if (q20 op_eq (pln z.len_ (pa1 (pv 2))) q13 (q19 _))
 (q15 (q18 q60))
 q21)
 (q12 (ps_if (q20 op_eq (pv 1) q13 (q19 _))
 (q15 (q18 (q29 (pa2 q51 (pln z.len_ (pa1 (pv 2)))))))
 q21)
 (q12 (pst 3 sc.nd (pe_op q69 (pv 1) q13))
 (q12 (pst 4 sc.nd (pe_op q30 (pv 0) (pv 3)))
 (q12 (pst 5 sc.nd (q202 q193 () z.tuple_ q204 (pa1 (q192 (cl:=[("middle", s.heap.objs.size+1+0)]) (cn:=["middle"]) (N:=["middle"]) (fr:=[4]) (sc0:=q16 q316) rfl (q34 (pv 2)) (λC s₂ H₂ fp=>(q555 (q20 op_lt (pv 0) (pv 1) (q19 _)) q13 q13)) (by ac_rfl) ⟨by ac_rfl,trivial⟩ rfl rfl rfl cok rfl))))
 (q12 (pst 6 sc.nd (pe_fn c_grown (hr.mono (ZG _)) () (pa3 (pv 0) (pv 3) (q71 (cl:=[("middle", s.heap.objs.size+1+0)]) (cn:=["middle"]) (N:=["middle"]) (fr:=[4]) (sc0:=q16 q316) rfl (q34 (pv 2)) (λC s₂ H₂ fp=>(pv 0)) (λC s₂ H₂ fp=>(q20 op_lt (pv 0) (pv 1) (q19 _))) (by ac_rfl) ⟨by ac_rfl,trivial⟩ rfl rfl rfl cok rfl))))
 (q12 (pst 7 sc.nd (pe_fn c_grown (hr.mono (ZG _)) () (pa3 (pv 4) (pv 3) (q71 (cl:=[("middle", s.heap.objs.size+1+0)]) (cn:=["middle"]) (N:=["middle"]) (fr:=[4]) (sc0:=q16 q316) rfl (q34 (pv 2)) (λC s₂ H₂ fp=>(pv 0)) (λC s₂ H₂ fp=>(q20 op_ge (pv 0) (pv 1) (q19 _))) (by ac_rfl) ⟨by ac_rfl,trivial⟩ rfl rfl rfl cok rfl))))
 (q15 (q18 (q29 (pa4 q51 (pv 5) (pv 6) (pv 7)))))))))))),?_⟩
 have hz:ns.length<=sizeLine:=sz hl
 exists _,rfl,a,_,rfl,.inl ha,rfl,_,rfl
 refine ite2 (λc=>?_) (λc=>?_)
 ·have c':(((ns.map V.int).length:Nat):Int)=0:=V.int.inj (ZE c)
  rw[ZJ]at c'
  have e0:ns=[]:=eq_nil_of_length_eq_zero (W92 c')
  subst e0
  exact q H .non (Same.refl H) (by rw[q111];rfl)
 ·have hne:ns≠[]:=λz=>c (by rw[z];exact ZA rfl)
  exists _,rfl,rfl,_,rfl
  refine ite2 (λc2=>?_) (λc2=>?_)
  ·have e0:e=0:=p2one (V.int.inj (ZE c2))
   subst e0
   refine⟨_,rfl,a,_,rfl,.inl ha,szb rfl,λp hp=>q _ _ (q17 hp _) ?_⟩
   rw[q63 hne]
   exists p,rfl
   rw[q14,ZJ]
  ·cases e with
   | zero=>exact absurd (ZA rfl) c2
   | succ e=>
    exists _,rfl,_,_,rfl,rfl,⟨∅,∅⟩
    dsimp only
    rw[p2half]
    exists _,rfl,_,rfl,_,_,rfl,rfl
    refine⟨_,rfl,a,rfl,⟨_,ha⟩,λD hD=>?_⟩
    refine q699 (g:=λn=>.int (if n<least+2^e then 0 else 1)) ha hD hz (λn _ H1 Q1 _ q1=>?_) ?_
    ·exists _,rfl,_,rfl,_,_,rfl,rfl,_,rfl
     refine ite2 (λc3=>?_) (λc3=>?_)
     ·rw[ZL (ZE c3)]at q1
      exact q1
     ·rw[ZI (λz=>c3 (ZA z))]at q1
      exact q1
    have s1:=q17 hD (.lst (ns.map λn=>V.int (if n<least+2^e then 0 else 1)))
    refine⟨D,_,rfl,SqL.of q14,λm H2 s2 hm=>?_⟩
    have s02:Same H H2:=s1.trans s2
    have hm':TupF H2 m ((ns.map λn=>if n<least+2^e then(0:Int)else 1).map V.int):=by rw[map_map];exact hm
    refine⟨_,rfl,_,rfl,_,rfl,a,rfl,⟨_,s02.seq ha⟩,λD2 hD2=>?_⟩
    refine q127 (p:=λn=>decide (n<least+2^e)) (g:=V.int) (s02.seq ha) hD2 hz (λn _ H1 Q1 _ q1=>⟨_,rfl,_,rfl,_,_,rfl,rfl,_,rfl,q1⟩) (λn _ _ H1 Q1 _ q1=>⟨_,rfl,q1⟩) ?_
    refine⟨least,D2,_,rfl,SqL.of q14,ZO (WP _ _) hl,λH3 lo s3 hlo=>?_⟩
    have s03:Same H H3:=s02.trans ((q17 hD2 _).trans s3)
    refine⟨_,rfl,_,rfl,_,rfl,a,rfl,⟨_,s03.seq ha⟩,λD3 hD3=>?_⟩
    refine q127 (p:=λn=>decide (least+2^e<=n)) (g:=V.int) (s03.seq ha) hD3 hz (λn _ H1 Q1 _ q1=>⟨_,rfl,_,rfl,_,_,rfl,rfl,_,rfl,q1⟩) (λn _ _ H1 Q1 _ q1=>⟨_,rfl,q1⟩) ?_
    refine⟨least+2^e,D3,_,rfl,SqL.of q14,ZO (WP _ _) hl,λH4 hi s4 hhi=>?_⟩
    have s34:Same H3 H4:=(q17 hD3 _).trans s4
    refine⟨_,rfl,_,rfl,_,rfl,szb rfl,λp hp=>q _ _ (s03.trans (s34.trans (q17 hp _))) ?_⟩
    rw[q222 hne]
    have sp:=q17 hp (.tup [.str "part", .ref m,lo,hi])
    have s24:Same H2 H4:=(q17 hD2 _).trans (s3.trans s34)
    exact⟨p,m,lo,hi,rfl,q14,(hm'.same s24).same sp,(hlo.same s34).same sp,hhi.same sp⟩
inductive q385(K:Fg)(vs:List V)(H:Hp)(Q:VK)(E:XK):Prop
 |mk(b a:Addr)(low:Int)(L:Nat)(ns:List Int)(_:vs=[.ref b,.ref a])(_:SqT K H b [.int low,.int (L:Int)])(_:L<=40)(_:SqL K H a (ns.map V.int))(_:ns.length<=1000)(_:Wths low L ns)(_:∀(H':Hp)(v:V),Same H H'->q35 H' v (grow low L ns)->Q v H')
def q248:z.C P w 42 "tree_of" ["bounds", "row"] (q385 K):=by
 have sc:=q645
 specialize z.d_tree_of
 obtain⟨b,a,low,L,ns,rfl,hb,hL,ha,hl,hw,q⟩:=h
 refine⟨_,(q12 (q61 PassesOwn.never rfl (q34 (pv 1)) (pgn 2 sc.nd)
 (q15 (ps_if (q20 op_ne (pfn (q433 z) hr (pa2 (pv 0) (pv 2))) q51 (q19 _))
 (q15 q157)
 q21)))
 (q15 (q18 (pfn (ok_grown z) hr (pa3 (pix q24 (pv 0) q13) (pfn (q33 z) hr (pa1 (pix q24 (pv 0) q13))) (pv 1)))))),?_⟩
 refine⟨_,rfl,a,rfl,⟨_,ha⟩,q95 (K:=K) (a:=a) (xs:=ns.map V.int) (λi σ H2=>∃ v:Option V,σ=[some (.ref b),some (.ref a),v]/\H2=H) ⟨none,rfl,rfl⟩ (λi σ H2 _ ⟨_,_,e⟩=>by rw[e];exact ha) ?_ ?_⟩
 ·rintro i x σ H2 hi ⟨v,rfl,rfl⟩
  obtain⟨n,hn,rfl⟩:=eE (WY hi)
  refine⟨_,rfl,_,rfl,b,low,n,L,rfl,hb,hL,rfl,_,rfl,iteNS (by rw[q738 (hw n hn)]) ?_⟩
  exact⟨_,rfl,rfl⟩
 ·rintro σ H2 ⟨v,rfl,rfl⟩
  exists _,rfl,b,_,_,_,rfl,rfl,hb,rfl,_,rfl,b,_,_,_,rfl,rfl,hb,rfl,L,rfl,hL
  exact⟨_,rfl,L,hL,low,a,ns,rfl,ha,hl,q⟩
noncomputable def trSize:Tr->Int
 | .non=>0
 | .many n=>n
 | .part ms _ _=>ms.length
noncomputable def trHalf:Tr->Int->Tr
 | .part _ l r,mk=>if mk=0 then l else r
 | _,_=>.non
inductive q386(u0:Fg)(vs:List V)(H:Hp)(Q:VK)(E:XK):Prop
 |mk(v:V)(t:Tr)(_:vs=[v])(_:q35 H v t)(_:Q (.int (trSize t)) H)
def q654:z.C P w 1 "size_of" ["tree"] (q386 K):=by
 have sc:=q648
 specialize z.d_size_of
 obtain⟨v,t,rfl,ht,q⟩:=h
 refine⟨_,(q12 (ps_if (q20 q261 (pv 0) q60 (q19 _))
 (q15 (q18 q13))
 q21)
 (q12 (ps_if (q20 op_eq (pix q24 (pv 0) q13) q51 (q19 _))
 (q15 (q18 (pix q24 (pv 0) q13)))
 q21)
 (q15 (q18 (pln z.len_ (pa1 (pix q24 (pv 0) q13))))))),?_⟩
 exists _,rfl,rfl,_,rfl
 cases t with
 | non=>
  cases ht
  exact ite2 (λc=>q) (λc=>absurd (ZA rfl) c)
 | many n=>
  obtain⟨a,rfl,ha⟩:=ht
  refine ite2 (λc=>absurd (ZE c) (by intro z;cases z)) (λc=>?_)
  exists _,rfl,a,_,_,_,rfl,rfl,SqT.of ha,rfl,rfl,_,rfl
  refine ite2 (λc=>?_) (λc=>absurd (ZA rfl) c)
  exact⟨_,rfl,a,_,_,_,rfl,rfl,SqT.of ha,rfl,q⟩
 | part ms l r=>
  obtain⟨a,m,x,y,rfl,ha,hm,hl,hr'⟩:=ht
  refine ite2 (λc=>absurd (ZE c) (by intro z;cases z)) (λc=>?_)
  exists _,rfl,a,_,_,_,rfl,rfl,SqT.of ha,rfl,rfl,_,rfl
  refine ite2 (λc=>absurd (ZE c) ∅) (λc=>?_)
  exists _,rfl,a,_,_,_,rfl,rfl,SqT.of ha,rfl,m,_,rfl,.inr hm.sq
  rw[ZJ]
  exact q
inductive q387(u0:Fg)(vs:List V)(H:Hp)(Q:VK)(E:XK):Prop
 |mk(v:V)(t:Tr)(mk:Int)(_:vs=[v,.int mk])(_:q35 H v t)(_:(mk=0\/mk=1))(_:∀ u,q35 H u (trHalf t mk)->Q u H)
def q388:z.C P w 1 "half_of" ["tree", "mark"] (q387 K):=by
 have sc:=q647
 specialize z.d_half_of
 obtain⟨v,t,mk,rfl,ht,hmk,q⟩:=h
 refine⟨_,(q12 (ps_if (PW.pt (pw_or (q20 q261 (pv 0) q60 (q19 _)) (q138 (q20 op_eq (pix q24 (pv 0) q13) q51 (q19 _)))))
 (q15 (q18 q60))
 q21)
 (q15 (q18 (pix q24 (pv 0) (pe_op q30 q13 (pv 1)))))),?_⟩
 exists _,rfl,rfl,_,rfl
 cases t with
 | non=>
  cases ht
  exact ite2 (λc=>q .non rfl) (λc=>absurd (ZA rfl) c)
 | many n=>
  obtain⟨a,rfl,ha⟩:=ht
  refine ite2 (λc=>absurd (ZE c) (by intro z;cases z)) (λc=>?_)
  exists _,rfl,a,_,_,_,rfl,rfl,SqT.of ha,rfl,rfl,_,rfl
  exact ite2 (λc=>q .non rfl) (λc=>absurd (ZA rfl) c)
 | part ms l r=>
  obtain⟨a,m,x,y,rfl,ha,hm,hl,hr'⟩:=ht
  refine ite2 (λc=>absurd (ZE c) (by intro z;cases z)) (λc=>?_)
  exists _,rfl,a,_,_,_,rfl,rfl,SqT.of ha,rfl,rfl,_,rfl
  refine ite2 (λc=>absurd (ZE c) ∅) (λc=>?_)
  exists _,rfl,_,rfl,_,_,rfl,rfl
  rcases hmk with rfl | rfl
  ·exact⟨a,_,_,_,rfl,rfl,SqT.of ha,rfl,q x hl⟩
  ·exact⟨a,_,_,_,rfl,rfl,SqT.of ha,rfl,q y hr'⟩
noncomputable def idxs(p:Int->Bool):List Int->List Nat
 | []=>[]
 | o::os=>if p o=true then 0::(idxs p os).map (· + 1) else(idxs p os).map (· + 1)
theorem q492:∀(os:List Int)(k:Nat),(∀ o∈os,p o=(q o&&r (f o)))->(idxs p os)[k]? = ((idxs r ((os.filter q).map f))[k]?).bind λj=>(idxs q os)[j]?
 | [],k,_=>by simp[idxs]
 | o::os,k,h=>by
  have h0:=h o (WC ..)
  have ih:=λk=>q492 (p:=p) (q:=q) (r:=r) (f:=f) os k λx hx=>h x (ZX _ hx)
  cases hq:q o with
  | false=>
   have hp:p o=false:=by rw[h0,hq];rfl
   simp only[idxs,hp,hq,YZ,Bool.false_eq_true,if_false,WH,ih]
   cases(idxs r ((os.filter q).map f))[k]? <;> simp
  | true=>
   cases hr:r (f o) with
   | false=>
    have hp:p o=false:=by rw[h0,hq,hr];rfl
    simp only[idxs,hp,hq,hr,YZ,Bool.false_eq_true,if_false,if_true,map_cons,WH,ih]
    cases(idxs r ((os.filter q).map f))[k]? <;> simp
   | true=>
    have hp:p o=true:=by rw[h0,hq,hr];rfl
    cases k with
    | zero=>simp[idxs,hp,hq,hr,YZ]
    | succ k=>
     simp only[idxs,hp,hq,hr,YZ,if_true,map_cons,getElem?_cons_succ,WH,ih]
     cases(idxs r ((os.filter q).map f))[k]? <;> simp
theorem q493:∀(os:List Int),idxs (λ_=>true) os=List.range os.length
 | []=>rfl
 | o::os=>by
  rw[idxs,ZL rfl,q493 os,WX,range_succ_eq_map]
noncomputable def inW:Nat->Int->List Int->Bool
 | _,_,[]=>true
 | 0,_,_::_=>false
 | e+1,o,w::ws=>(o/2^e==w)&&inW e (o%2^e) ws
noncomputable def mk0(e:Nat)(o:Int):Int:=if o<2^e then 0 else 1
noncomputable def halfO(e:Nat)(w:Int)(os:List Int):List Int:=(os.filter λo=>mk0 e o==w).map λo=>o%2^e
def q739{e:Nat}{o:Int}(h0:0<=o)(h1:o<2^(e+1)):o/2^e=mk0 e o:=by
 have hp:(0:Int)<2^e:=Int.pow_pos ∅
 have hs:(2:Int)^(e+1)=2^e+2^e:=by rw[YO];exact W34
 unfold mk0
 split
 ·exact Int.ediv_eq_zero_of_lt h0 (by assumption)
 ·have e1:o=(o-2^e)+1*2^e:={}
  rw[e1,Int.add_mul_ediv_right _ _ (W186 hp),Int.ediv_eq_zero_of_lt {} {}]
  rfl
noncomputable def spots(L:Nat)(os ws:List Int):List Nat:=idxs (λo=>inW L o ws) os
def q655{e:Nat}{os ws:List Int}{w:Int}(h:∀ o∈os,0<=o/\o<(2:Int)^(e+1))(k:Nat) :
  (spots (e+1) os (w::ws))[k]? = ((spots e (halfO e w os) ws)[k]?).bind λj=>(idxs (λo=>mk0 e o==w) os)[j]?:=by
 unfold spots halfO
 refine q492 os k λo ho=>?_
 obtain⟨h0,h1⟩:=h o ho
 show((o/2^e==w)&&inW e (o%2^e) ws)=_
 rw[q739 h0 h1]
noncomputable def plc(mk:Int):List Int->Int->Nat->Option Nat
 | [],_,_=>none
 | m::r,l,i=>if m=mk then(if l=0 then some i else plc mk r (l-1) (i+1))else plc mk r l (i+1)
theorem q434{w:Int}{f:Int->Int}:∀(os:List Int)(j i:Nat),plc w (os.map f) (j:Int) i=((idxs (λo=>f o==w) os)[j]?).map (· + i)
 | [],j,i=>by simp[plc,idxs]
 | o::os,j,i=>by
  rw[map_cons,plc,idxs]
  by_cases c:f o=w
  ·rw[ZL c,ZL (beq_iff_eq.mpr c)]
   cases j with
   | zero=>simp
   | succ j=>
    rw[ZI W180,show(((j+1:Nat):Int)-1)=(j:Int) by exact W56,q434 os j (i+1),getElem?_cons_succ,WH,Option.map_map]
    congr 1
    funext x
    show x+(i+1)=(x+1)+i
    exact W63
  ·rw[ZI c,ZI (by rw[beq_iff_eq];exact c),q434 os j (i+1),WH,Option.map_map]
   congr 1
   funext x
   show x+(i+1)=(x+1)+i
   lia
def InO(L:Nat)(os:List Int):Prop:=∀ o∈os,0<=o/\o<(2:Int)^L
noncomputable def growO:Nat->List Int->Tr
 | 0,os=>if os=[]then .non else .many os.length
 | e+1,os=>if os=[]then .non else .part (os.map (mk0 e)) (growO e (os.filter λo=>decide (o<2^e))) (growO e ((os.filter λo=>decide ((2:Int)^e<=o)).map λo=>o-2^e))
def q121(e:Nat):growO e [] = .non:=by cases e <;> rfl
def q389{os:List Int}(h:os≠[]):growO 0 os = .many os.length:=by unfold growO;rw[ZI h]
def q101{e:Nat}{os:List Int}(h:os≠[]):growO (e+1) os = .part (os.map (mk0 e)) (growO e (os.filter λo=>decide (o<2^e))) (growO e ((os.filter λo=>decide ((2:Int)^e<=o)).map λo=>o-2^e)):=by
 rw[growO,ZI h]
def q740{e:Nat}{os:List Int}(h:InO (e+1) os):halfO e 0 os=os.filter λo=>decide (o<2^e):=by
 unfold halfO
 have e1:(os.filter λo=>mk0 e o==0)=os.filter λo=>decide (o<2^e):=filter_congr λo _=>by
  unfold mk0
  by_cases c:o<2^e
  ·rw[ZL c,ZA c];rfl
  ·rw[ZI c,ZN c];rfl
 rw[e1]
 have e2:∀ o∈(os.filter λo=>decide (o<(2:Int)^e)),o%2^e=o:=λo ho=>by
  obtain⟨h1,h2⟩:=List.mem_filter.mp ho
  exact Int.emod_eq_of_lt (h o h1).1 (ZE h2)
 rw[YK e2,map_id']
def q741{e:Nat}{os:List Int}(h:InO (e+1) os):halfO e 1 os=(os.filter λo=>decide ((2:Int)^e<=o)).map λo=>o-2^e:=by
 unfold halfO
 have e1:(os.filter λo=>mk0 e o==1)=os.filter λo=>decide ((2:Int)^e<=o):=filter_congr λo _=>by
  unfold mk0
  by_cases c:o<2^e
  ·rw[ZL c,ZN (W47 c)];rfl
  ·rw[ZI c,ZA (W22 c)];rfl
 rw[e1]
 refine YK λo ho=>?_
 obtain⟨h1,h2⟩:=List.mem_filter.mp ho
 have h3:(2:Int)^e<=o:=ZE h2
 have h4:=(h o h1).2
 have hs:(2:Int)^(e+1)=2^e+2^e:=by rw[YO];lia
 have e3:o=(o-2^e)+2^e:={}
 have e4:o%2^e=(o-2^e)%2^e:=by rw[e3,Int.add_emod_right];congr 1;lia
 rw[e4]
 exact Int.emod_eq_of_lt {} {}
def q48{e:Nat}{os:List Int}{w:Int}:InO e (halfO e w os):=λo ho=>by
 obtain⟨x,_,rfl⟩:=eE ho
 have hp:(0:Int)<2^e:=Int.pow_pos ∅
 exact⟨Int.emod_nonneg _ (W186 hp),YT _ hp⟩
def q122{e:Nat}{os:List Int}{w:Int}:(halfO e w os).length<=os.length:=by
 unfold halfO
 rw[ZJ]
 exact WP _ _
def q390{e:Nat}{os:List Int}{w:Int}(h:InO (e+1) os)(hw:w=0\/w=1):trHalf (growO (e+1) os) w=growO e (halfO e w os):=by
 by_cases hn:os=[]
 ·subst hn
  rw[q121]
  show Tr.non=growO e ([]:List Int)
  rw[q121]
 ·rw[q101 hn]
  rcases hw with rfl | rfl
  ·rw[q740 h];rfl
  ·rw[q741 h];rfl
def q656(e:Nat)(os:List Int):trSize (growO e os)=os.length:=by
 by_cases h:os=[]
 ·rw[h,q121];rfl
 ·cases e with
  | zero=>rw[q389 h];rfl
  | succ e=>
   rw[q101 h]
   show((List.map _ os).length:Int)=_
   rw[ZJ]
def q742{L:Nat}:spots L [] ws=[]:=rfl
def q536{L:Nat}{os:List Int}:spots L os []=List.range os.length:=by
 unfold spots
 have e:(λo=>inW L o [])=λ_=>true:=by
  funext o
  cases L <;> rfl
 rw[e,q493]
def q657{e:Nat}{os ws:List Int}{w:Int}(h:InO (e+1) os)(k:Nat) :
  (spots (e+1) os (w::ws))[k]? = ((spots e (halfO e w os) ws)[k]?).bind λj=>plc w (os.map (mk0 e)) (j:Int) 0:=by
 rw[q655 h]
 congr 1
 funext j
 rw[q434]
 simp
noncomputable def B01(l:List Int):Prop:=∀ m∈l,m=0\/m=1
def q494{l:List Int}{i:Nat}{m:Int}(h:l[i]? = some m):l.drop i=m::l.drop (i+1):=by
 obtain⟨h1,h2⟩:=eA h
 rw[drop_eq_getElem_cons h1,h2]
def plc_cons{mk m l:Int}{i:Nat}:plc mk (m::r) l i=if m=mk then(if l=0 then some i else plc mk r (l-1) (i+1))else plc mk r l (i+1):=rfl
def cut_take(ms:List Int)(k:Nat):cutV (ms.map V.int) none (some (k:Int))=(ms.take k).map V.int:=by
 unfold cutV
 rw[HT.q789,HT.q788,drop_zero,Nat.sub_zero,map_take]
 by_cases h:k<=(ms.map V.int).length
 ·rw[WN h]
 ·rw[Nat.min_eq_right (W80 h),YQ,WU {}]
inductive q332(K:Fg)(vs:List V)(H:Hp)(Q:VK)(E:XK):Prop
 |mk(t:Addr)(ms:List Int)(mk num:Int)(p:Nat)(_:vs=[.ref t,.int mk,.int num])(_:SqT K H t (ms.map V.int))(_:plc mk ms num 0=some p)(_:∀ H',Same H H'->Q (.int (p:Nat)) H')
def q537:z.C P w 1 "place_of" ["marks", "mark", "number"] (q332 K):=by
 have sc:=q528
 specialize z.d_place_of
 obtain⟨t,ms,mk,num,p0,rfl,ht,hp0,q⟩:=h
 refine⟨_,(q12 (pst 3 sc.nd (pv 2))
 (q12 (q61 PassesOwn.never rfl (pi_enum rfl z.enumerate_ (pa1 (pv 0))) (q170 rfl (q28 (pgn 4 sc.nd) (q28 (pgn 5 sc.nd) q90)))
 (q15 (ps_if (q20 op_eq (pv 5) (pv 1) (q19 _))
 (q12 (ps_if (q20 op_eq (pv 3) q13 (q19 _))
 (q15 (q18 (pv 4)))
 q21)
 (q15 (pst 3 sc.nd (pe_op q74 (pv 3) q13))))
 q21)))
 (q15 q157))),?_⟩
 refine⟨_,rfl,_,rfl,t,rfl,⟨_,ht⟩,for_enum (xs:=ms.map V.int) (λi σ H2=>∃(L:Int)(v u:Option V),σ=[some (.ref t),some (.int mk),some (.int num),some (.int L),v,u]/\Same H H2/\plc mk (ms.drop i) L i=some p0)
  ⟨num,none,none,rfl,Same.refl H,hp0⟩ (λi σ H2 _ ⟨_,_,_,_,s2,_⟩=>s2.seqT ht) ?_ ?_⟩
 ·rintro i x σ H2 p hx ⟨L,v,u,rfl,s2,hp⟩ hpn
  obtain⟨m,gm,rfl⟩:∃ m,ms[i]? = some m/\V.int m=x:=by
   rw[WH]at hx
   cases e:ms[i]? with
   | none=>rw[e]at hx;cases hx
   | some m=>rw[e]at hx;exact⟨m,rfl,Option.some.inj hx⟩
  have s3:Same H (upd H2 p (.tup [.int (i:Nat),.int m])):=s2.trans (q17 hpn _)
  rw[q494 gm,plc_cons]at hp
  exists p,_,rfl,SqT.of q14,rfl,_,_,rfl,_,_,rfl,rfl
  exists _,rfl,_,rfl,rfl,_,rfl
  refine ite2 (λc=>?_) (λc=>?_)
  ·have c':m=mk:=V.int.inj (ZE c)
   rw[ZL c']at hp
   exists _,rfl,rfl,_,rfl
   refine ite2 (λc2=>?_) (λc2=>?_)
   ·have c2':L=0:=V.int.inj (ZE c2)
    rw[ZL c2']at hp
    cases hp
    exact⟨_,rfl,q _ s3⟩
   ·have c2':¬ L=0:=λz=>c2 (by rw[z];exact ZA rfl)
    rw[ZI c2']at hp
    exact⟨_,rfl,_,_,rfl,rfl,_,_,_,rfl,s3,hp⟩
  ·have c':¬ m=mk:=λz=>c (by rw[z];exact ZA rfl)
   rw[ZI c']at hp
   exact⟨_,_,_,rfl,s3,hp⟩
 ·rintro σ H2 ⟨L,v,u,rfl,s2,hp⟩
  rw[ZJ,drop_length]at hp
  cases hp
def all_flat(ms:List Int):(ms.map V.int).all flatV=true:=by
 rw[all_eq_true]
 intro x hx
 obtain⟨i,_,rfl⟩:=eE hx
 rfl
def q743(ms:List Int)(m:Int):(ms.map V.int).countP (λy=>eqV y (.int m))=ms.count m:=by
 rw[countP_map,YE]
 rfl
inductive q591(u0:Fg)(vs:List V)(H:Hp)(Q:VK)(E:XK):Prop
 |mk(t:Addr)(ms:List Int)(mk:Int)(pl:Nat)(_:vs=[.ref t,.int mk,.int (pl:Int)])(_:TupF H t (ms.map V.int))(_:∀ H',Same H H'->Q (.int ((ms.take pl).count mk:Nat)) H')
def q592:z.C P w 1 "ahead" ["marks", "mark", "place"] (q591 K):=by
 have sc:=sc_ahead
 specialize z.d_ahead
 obtain⟨t,ms,mk,pl,rfl,ht,q⟩:=h
 exists _,(q15 (q18 (pe_bmF PySem.F.plainAttrs_tuple PySem.F.slot_tuple_count PySem.F.type_tuple_count q689 (q108 q520 (pv 0) q516 (q77 (q36 (q674 rfl) () z.max_ bt_max (pa2 (pv 2) q13)))) (pa1 (pv 1)))))
 have e1:(if(0:Int) > (pl:Int) then(0:Int) else(pl:Int))=(pl:Int):=ZI W209
 refine⟨_,rfl,_,rfl,_,_,rfl,_,rfl,t,_,rfl,ht,λp H1 s1 h1=>?_⟩
 rw[e1,cut_take]at h1
 obtain⟨o,ho,hc,hd⟩:=id h1
 exists⟨p,o,_,rfl,ho,hc,hd⟩,_,rfl,p,_,_,rfl,rfl,h1.sq,rfl,all_flat _
 rw[q743]
 exact q H1 s1
abbrev G3:=List Int×Nat×Nat
noncomputable def GoodS(L:Nat)(g:G3):Prop:=InO L g.1/\g.2.1<=g.2.2/\g.2.2<=g.1.length/\g.1.length<=300
noncomputable def led1(e:Nat)(w:Int)(g:G3):G3:=(halfO e w g.1,((g.1.map (mk0 e)).take g.2.1).count w,((g.1.map (mk0 e)).take g.2.2).count w)
noncomputable def ledS:Nat->List Int->G3->G3
 | _,[],g=>g
 | 0,_::_,g=>g
 | e+1,w::ws,g=>ledS e ws (led1 e w g)
def q45(L:Nat)(g:G3):ledS L [] g=g:=by cases L <;> rfl
def q57(e:Nat)(w:Int)(ws:List Int)(g:G3):ledS (e+1) (w::ws) g=ledS e ws (led1 e w g):=rfl
def q288(e:Nat)(w:Int)(os:List Int):(os.map (mk0 e)).count w=(halfO e w os).length:=by
 unfold halfO
 rw[ZJ,YE,countP_map,YW]
 rfl
def q87{e:Nat}{w:Int}(h:GoodS (e+1) g):GoodS e (led1 e w g):=by
 obtain⟨h1,h2,h3,h4⟩:=h
 refine⟨q48,?_,?_,ZO q122 h4⟩
 ·exact(take_sublist_take_left h2).count_le w
 ·show((g.1.map (mk0 e)).take g.2.2).count w<=(halfO e w g.1).length
  rw[<- q288]
  exact(take_sublist _ _).count_le w
def q495{e:Nat}{w:Int}{g:G3}(h:halfO e w g.1=[]):led1 e w g=([],0,0):=by
 have z:∀ k,((g.1.map (mk0 e)).take k).count w=0:=λk=>by
  have h1:=(take_sublist k (g.1.map (mk0 e))).count_le w
  rw[q288,h,length_nil]at h1
  lia
 unfold led1
 rw[h,z,z]
theorem q593:∀(e:Nat)(ws:List Int),ledS e ws ([],0,0)=([],0,0)
 | e,[]=>q45 e _
 | 0,_::_=>rfl
 | e+1,w::ws=>by
  rw[q57,q495 (e:=e) (w:=w) (g:=([],0,0)) rfl]
  exact q593 e ws
noncomputable def manyG(gs:List G3):Int:=(gs.map λg=>(g.2.2:Int)-g.2.1).sum
def cnt01{e:Nat}(os:List Int)(k:Nat):((os.map (mk0 e)).take k).count 0+((os.map (mk0 e)).take k).count 1=min k os.length:=by
 have z:∀ l:List Int,(l.map (mk0 e)).count 0+(l.map (mk0 e)).count 1=l.length:=λl=>by
  induction l with
  | nil=>rfl
  | cons x l ih=>
   rw[map_cons,count_cons,count_cons,WX]
   unfold mk0 at ih ⊢
   by_cases c:x<2^e
   ·simp only[c,if_true]at ih ⊢
    simp
    lia
   ·simp only[c,if_false]at ih ⊢
    simp
    lia
 rw[<- map_take,z,WZ]
theorem q391{p q:Int->Bool}:∀{os:List Int},(∀ o∈os,p o=q o)->idxs p os=idxs q os
 | [],_=>rfl
 | o::os,h=>by
  rw[idxs,idxs,h o (WC ..),q391 λx hx=>h x (ZX _ hx)]
noncomputable def StrAt(H:Hp)(L:Nat)(v:V)(g:G3):Prop:=∃ t u,v = .ref t/\H t=some (.tup [u,.int (g.2.1:Int),.int (g.2.2:Int)])/\q35 H u (growO L g.1)
noncomputable def GatAt(H:Hp)(L:Nat)(xs:List V)(gs:List G3):Prop:=xs.length=gs.length /\ ∀(j:Nat)(x:V)(g:G3),xs[j]? = some x->gs[j]? = some g->StrAt H L x g
def StrAt.tk{L:Nat}(h:StrAt H L v g)(k:TKeep H H'):StrAt H' L v g:=by
 obtain⟨t,u,e,h1,h2⟩:=h
 exact⟨t,u,e,(k _ _).1 h1,h2.tk k⟩
def GatAt.tk{L:Nat}(h:GatAt H L xs gs)(k:TKeep H H'):GatAt H' L xs gs:=⟨h.1,λj x g h1 h2=>(h.2 j x g h1 h2).tk k⟩
def GatAt.same{L:Nat}(h:GatAt H L xs gs)(s:Same H H'):GatAt H' L xs gs:=h.tk (.same s)
def GatAt.nil(H:Hp)(L:Nat):GatAt H L [] []:=⟨rfl,λj x g h1 _=>by simp at h1⟩
def q435{α:Type}{l:List α}{x y:α}{j:Nat}(h:(l++[x])[j]? = some y):(j<l.length/\l[j]? = some y)\/(j=l.length/\y=x):=by
 by_cases hj:j<l.length
 ·rw[YX hj]at h
  exact .inl ⟨hj,h⟩
 ·have hlt:j<(l++[x]).length:=(eA h).1
  rw[ZQ,length_singleton]at hlt
  have e:j=l.length:={}
  subst e
  rw[YL (ZG _),Nat.sub_self]at h
  exact .inr ⟨rfl,(Option.some.inj h).symm⟩
def GatAt.snoc{L:Nat}(h:GatAt H L xs gs)(hx:StrAt H L x g):GatAt H L (xs++[x]) (gs++[g]):=by
 refine⟨by rw[ZQ,ZQ,h.1] <;> rfl,λj y k h1 h2=>?_⟩
 have hl:=h.1
 rcases q435 h1 with ⟨a1,a2⟩ | ⟨a1,a2⟩
 ·rcases q435 h2 with ⟨b1,b2⟩ | ⟨b1,b2⟩
  ·exact h.2 j y k a2 b2
  ·exact(W194 a1 b1 hl).elim
 ·rcases q435 h2 with ⟨b1,b2⟩ | ⟨b1,b2⟩
  ·exact(W185 b1 a1 hl).elim
  ·rw[a2,b2];exact hx
def Same.own(k:Same H H')(hr:H r=none):Same H (upd H' r o):=λc u z=>by
 rw[q27 (q26 z hr)]
 exact k c u z
def q744{H:Hp}{e:Nat}{os:List Int}(h:q35 H .non (growO e os)):os=[]:=by
 apply Classical.byContradiction
 intro hn
 cases e with
 | zero=>
  rw[q389 hn]at h
  obtain⟨a,z,_⟩:=h
  cases z
 | succ e=>
  rw[q101 hn]at h
  obtain⟨a,m,x,y,z,_⟩:=h
  cases z
noncomputable def q177(K:Fg):Sp:=λvs H Q _=>∃(v:V)(wy:Addr)(L:Nat)(ws:List Int)(g:G3),vs=[v,.ref wy]/\StrAt H L v g/\GoodS L g/\SqT K H wy (ws.map V.int)/\ws.length<=L/\B01 ws /\
 ∀(H':Hp)(v':V),Same H H'->StrAt H' (L-ws.length) v' (ledS L ws g)->Q v' H'
inductive sp_led(K:Fg)(vs:List V)(H:Hp)(Q:VK)(E:XK):Prop
 |mk(ga wy:Addr)(xs:List V)(L:Nat)(ws:List Int)(gs:List G3)(_:vs=[.ref ga,.ref wy])(_:SqL K H ga xs)(_:GatAt H L xs gs)(_:(∀ g∈gs,GoodS L g))(_:gs.length<=1000)(_:SqT K H wy (ws.map V.int))(_:ws.length<=L)(_:B01 ws)(_:∀(H':Hp)(D:Addr)(ys:List V),Same H H'->H' D=some (.lst ys)->H D=none->GatAt H' (L-ws.length) ys (gs.map (ledS L ws))->Q (.ref D) H')
inductive q392(K:Fg)(vs:List V)(H:Hp)(Q:VK)(E:XK):Prop
 |mk(ga:Addr)(xs:List V)(L:Nat)(gs:List G3)(_:vs=[.ref ga])(_:SqL K H ga xs)(_:GatAt H L xs gs)(_:gs.length<=1000)(_:∀ H',Same H H'->Q (.int (manyG gs)) H')
def q31:z.C P w 1 "many_in" ["gathering"] (q392 K):=by
 have sc:=q649
 specialize z.d_many_in
 obtain⟨ga,xs,L,gs,rfl,hga,hg,hl,q⟩:=h
 exists _,(q15 (q18 (q36 (q308 rfl) () z.sum_ q687 (pa1 (q192 (cl:=[]) (cn:=[]) (N:=[]) (fr:=[]) (sc0:=q16 q317) rfl (q34 (pv 0)) (λC s₂ H₂ fp=>(pe_op q74 (pix (q194 (K:=K) rfl) (pv 0) q13) (pix (q194 (K:=K) rfl) (pv 0) q13))) (by ac_rfl) trivial rfl rfl rfl cok rfl)))))
 have hxl:=hg.1
 refine⟨_,rfl,ga,rfl,⟨_,hga⟩,λD hD=>?_⟩
 refine q240 (xs:=xs) (sz {}) (λi ys H2=>ys=(gs.take i).map (λg=>V.int ((g.2.2:Int)-g.2.1))/\i<=gs.length/\H2=upd H D (.lst ys)) ⟨by simp,WA _,rfl⟩ (λi ys H2 ⟨_,_,e⟩=>by rw[e];exact(q17 hD _).seq hga)
  (λi ys H2 ⟨e1,e2,e3⟩=>⟨by rw[e3];exact q14,by rw[e1,ZJ,WZ];lia⟩) ?_ ?_
 ·rintro i x ys H2 hx ⟨e1,e2,rfl⟩
  have hi:i<gs.length:=by rw[<- hxl];exact(eA hx).1
  have gi:gs[i]? = some gs[i]:=ZM hi
  generalize gs[i]=g at gi
  obtain⟨t,u,rfl,ht,_⟩:=hg.2 i x g hx gi
  have ht':SqT K (upd H D (.lst ys)) t [u,.int (g.2.1:Int),.int (g.2.2:Int)]:=SqT.of (q17 hD _ _ _ ht)
  refine⟨_,rfl,t,_,_,_,rfl,rfl,ht',rfl,_,rfl,t,_,_,_,rfl,rfl,ht',rfl,_,_,rfl,rfl,q14,?_,{},by rw[q103]⟩
  rw[YG,gi,WK,<- e1]
  rfl
 ·rintro ys H2 ⟨e1,e2,rfl⟩
  rw[hxl,YQ]at e1
  refine⟨D,gs.map (λ(g:G3)=>(g.2.2:Int)-(g.2.1:Int)),rfl,SqL.of ?_,q _ (q17 hD _)⟩
  rw[q14,e1,map_map]
  rfl
def q115:z.C P w 2 "led_stretch" ["stretch", "way"] (q177 K):=by
 have sc:=q351
 refine z.d_led_stretch.cal λf fd F=>F.ok sc (by intro vs H Q E h;(repeat (first | obtain⟨rfl,_⟩:=h | obtain⟨_,h⟩:=h));rfl) λ_ _ _ s H _ Q _ hr h=>?_
 obtain⟨v,wy,L,ws,g,rfl,⟨t,u,rfl,ht,hu⟩,hgood,hw,hwl,h01,q⟩:=h
 refine⟨_,(q12 (pst 2 sc.nd (pix q24 (pv 0) q13))
 (q12 (pst 3 sc.nd (pix q24 (pv 0) q13))
 (q12 (pst 4 sc.nd (pix q24 (pv 0) q13))
 (q12 (q61 PassesOwn.never rfl (q557 (pv 1)) (pgn 5 sc.nd)
 (q12 (pst 6 sc.nd (pfn (q388 z) hr (pa2 (pv 2) (pv 5))))
 (q12 (ps_if (q20 q261 (pv 6) q60 (q19 _))
 (q15 (q18 (q29 (pa3 q60 q13 q13))))
 q21)
 (q12 (pst 3 sc.nd (pfn (q592 z) hr (pa3 (pix q24 (pv 2) q13) (pv 5) (pv 3))))
 (q12 (pst 4 sc.nd (pfn (q592 z) hr (pa3 (pix q24 (pv 2) q13) (pv 5) (pv 4))))
 (q15 (pst 2 sc.nd (pv 6))))))))
 (q15 (q18 (q29 (pa3 (pv 2) (pv 3) (pv 4))))))))),?_⟩
 have htt:SqT K H t [u,.int (g.2.1:Int),.int (g.2.2:Int)]:=SqT.of ht
 exists _,rfl,t,_,_,_,rfl,rfl,htt,rfl,_,rfl,t,_,_,_,rfl,rfl,htt,rfl,_,rfl,t,_,_,_,rfl,rfl,htt,rfl
 refine⟨_,rfl,wy,rfl,⟨_,hw⟩,q408 (K:=K) (a:=wy) (xs:=ws.map V.int) (λi σ H2=>∃(u':V)(g':G3)(v5 v6:Option V),σ=[some (.ref t),some (.ref wy),some u',some (.int (g'.2.1:Int)),some (.int (g'.2.2:Int)),v5,v6]/\Same H H2/\q35 H2 u' (growO (L-i) g'.1)/\GoodS (L-i) g'/\i<=ws.length/\ledS L ws g=ledS (L-i) (ws.drop i) g')
  ⟨u,g,none,none,rfl,Same.refl H,hu,hgood,WA _,rfl⟩ (λi σ H2 _ ⟨_,_,_,_,_,s2,_⟩=>s2.seqT hw) ?_ ?_⟩
 ·rintro i x σ H2 hi ⟨u',g',v5,v6,rfl,s2,hu',hg',hil,hled⟩
  obtain⟨wv,hwv,rfl⟩:∃ t,ws[i]? = some t/\x = .int t:=by
   rw[WH]at hi
   cases e:ws[i]? with
   | none=>rw[e]at hi;cases hi
   | some m=>rw[e]at hi;exact⟨m,rfl,(Option.some.inj hi).symm⟩
  have hil2:i<ws.length:=(eA hwv).1
  have hw01:=h01 wv (WY hwv)
  obtain⟨e,he⟩:∃ e,L-i=e+1:=⟨L-i-1,{}⟩
  have he2:L-(i+1)=e:={}
  have hdr:ws.drop i=wv::ws.drop (i+1):=by
   obtain⟨h1,h2⟩:=eA hwv
   rw[drop_eq_getElem_cons h1,h2]
  rw[he]at hu' hg' hled
  rw[hdr,q57]at hled
  refine⟨_,rfl,_,rfl,u',_,wv,rfl,hu',hw01,λu2 hu2=>?_⟩
  rw[q390 hg'.1 hw01]at hu2
  exists _,rfl,rfl,_,rfl
  refine ite2 (λc=>?_) (λc=>?_)
  ·have c':u2 = .non:=ZE c
   subst c'
   have h0:=q744 hu2
   rw[q495 h0,q593]at hled
   refine⟨szb rfl,λp hp=>q _ _ (s2.trans (q17 hp _)) ?_⟩
   rw[hled]
   exact⟨p,.non,rfl,q14,by rw[q121];rfl⟩
  ·have hne:g'.1≠[]:=λz=>c (by
    rw[z]at hu2
    have e0:halfO e wv []=[]:=rfl
    rw[e0,q121]at hu2
    exact ZA hu2)
   have hu3:=hu'
   rw[q101 hne]at hu3
   obtain⟨a,m,x1,y1,rfl,ha,hm,_,_⟩:=hu3
   refine⟨_,rfl,a,_,_,_,rfl,rfl,SqT.of ha,rfl,_,rfl,_,rfl,m,g'.1.map (mk0 e),wv,g'.2.1,rfl,hm,λH3 s3=>?_⟩
   refine⟨_,rfl,a,_,_,_,rfl,rfl,SqT.of (s3 _ _ ha),rfl,_,rfl,_,rfl,m,g'.1.map (mk0 e),wv,g'.2.2,rfl,hm.same s3,λH4 s4=>?_⟩
   exists _,rfl,u2,led1 e wv g',_,_,rfl,s2.trans (s3.trans s4),?_,?_,(W21 hil2)
   ·rw[he2];exact(hu2.same s3).same s4
   ·rw[he2];exact q87 hg'
   ·rw[he2];exact hled
 ·rintro σ H2 ⟨u',g',v5,v6,rfl,s2,hu',hg',hil,hled⟩
  rw[ZJ]at hu' hled
  rw[drop_length,q45]at hled
  refine⟨_,rfl,_,rfl,_,rfl,szb rfl,λp hp=>q _ _ (s2.trans (q17 hp _)) ?_⟩
  rw[hled]
  exact⟨p,u',rfl,q14,hu'.same (q17 hp _)⟩
def q123:z.C P w 3 "led" pn17 (sp_led K):=by
 have sc:=sc_led
 specialize z.d_led
 obtain⟨ga,wy,xs,L,ws,gs,rfl,hga,hg,hgood,hl,hw,hwl,h01,q⟩:=h
 exists _,(q15 (q18 (q192 (cl:=[("way", s.heap.objs.size+1+0)]) (cn:=["way"]) (N:=["way"]) (fr:=[1]) (sc0:=q16 s_led) rfl (q34 (pv 0)) (λC s₂ H₂ fp=>(pfn (q115 z) hr (pa2 (pv 0) (pv 1)))) (by ac_rfl) ⟨by ac_rfl,trivial⟩ rfl rfl rfl cok rfl)))
 have hxl:=hg.1
 refine⟨_,rfl,ga,rfl,⟨_,hga⟩,λD hD=>?_⟩
 refine q240 (xs:=xs) (sz {}) (λi ys H2=>H2 D=some (.lst ys)/\ys.length=i/\Same H H2/\GatAt H2 (L-ws.length) ys ((gs.take i).map (ledS L ws))) ⟨q14,rfl,q17 hD _,by simp only[take_zero,map_nil];exact GatAt.nil _ _⟩ (λi ys H2 ⟨_,_,e,_⟩=>e.seq hga)
  (λi ys H2 ⟨e1,e2,_,_⟩=>⟨e1,e2⟩) ?_ ?_
 ·rintro i x ys H2 hx ⟨e1,e2,s2,hg2⟩
  have hi:i<gs.length:=by rw[<- hxl];exact(eA hx).1
  have gi:gs[i]? = some gs[i]:=ZM hi
  generalize gs[i]=g at gi
  refine⟨_,rfl,_,rfl,x,wy,L,ws,g,rfl,(hg.2 i x g hx gi).tk (.same s2),hgood g (WY gi),s2.seqT hw,hwl,h01,λH3 v' s3 hv'=>?_⟩
  have e3:=s3 _ _ e1
  have tk:TKeep H3 (upd H3 D (.lst (ys++[v']))):=TKeep.set e3
  exists e3,q14,by rw[ZQ,e2] <;> rfl,Same.own (s2.trans s3) hD
  rw[YG,gi,WK]
  exact((hg2.same s3).tk tk).snoc (hv'.tk tk)
 ·rintro ys H2 ⟨e1,e2,s2,hg2⟩
  rw[hxl,YQ]at hg2
  exact q H2 D ys s2 e1 hD hg2
theorem q249{q:Int->Bool}:∀(os:List Int)(s:Nat),(os.filter q).take ((os.take s).countP q)=(os.take s).filter q
 | [],s=>by simp
 | x::os,0=>by simp
 | x::os,s+1=>by
  rw[take_succ_cons,YI,YZ,YZ]
  by_cases c:q x=true
  ·rw[ZL c,ZL c,ZL c,take_succ_cons,q249 os s]
  ·rw[ZI c,ZI c,ZI c,Nat.add_zero]
   exact q249 os s
def q250{e:Nat}{w:Int}(os:List Int)(s:Nat):(halfO e w os).take (((os.map (mk0 e)).take s).count w)=halfO e w (os.take s):=by
 unfold halfO
 rw[<- map_take,<- map_take,YE,countP_map]
 congr 1
 exact q249 os s
def q80{e:Nat}{w:Int}(os:List Int):(halfO e w os).countP p=os.countP λo=>(mk0 e o==w)&&p (o%2^e):=by
 unfold halfO
 rw[countP_map,countP_filter]
 congr 1
 funext o
 show(p (o%2^e)&&(mk0 e o==w))=_
 rw[Bool.and_comm]
def q289{e:Nat}{o w:Int}(h:0<=o/\o<(2:Int)^(e+1)):inW (e+1) o (w::ws)=((mk0 e o==w)&&inW e (o%2^e) ws):=by
 show((o/2^e==w)&&inW e (o%2^e) ws)=_
 rw[q739 h.1 h.2]
noncomputable def selO(L:Nat)(os ws:List Int):List Int:=(os.filter λo=>inW L o ws).map λo=>o%2^(L-ws.length)
def mod_pow{a b:Nat}{o:Int}(h:a<=b):(o%2^b)%2^a=o%2^a:=by
 refine Int.emod_emod_of_dvd o ?_
 exact⟨2^(b-a),by rw[<- Int.pow_add];congr 1;lia⟩
theorem q594:∀(L:Nat)(ws os:List Int)(s t:Nat),ws.length<=L->InO L os ->
  ledS L ws (os,s,t)=(selO L os ws,(os.take s).countP (λo=>inW L o ws),(os.take t).countP (λo=>inW L o ws))\/(os.length<s\/os.length<t)
 | L,[],os,s,t,_,hin=>by
  by_cases hs:os.length<s
  ·exact .inr (.inl hs)
  ·by_cases ht:os.length<t
   ·exact .inr (.inr ht)
   ·refine .inl ?_
    rw[q45]
    have e:(λo=>inW L o [])=λ_=>true:=by
     funext o
     cases L <;> rfl
    unfold selO
    rw[e]
    have c1:∀ l:List Int,l.countP (λ_=>true)=l.length:=λl=>by simp
    have c2:(os.filter λ_=>true)=os:=by simp
    rw[c1,c1,c2,WZ,WZ,WN (W17 hs),WN (W17 ht)]
    have c3:os.map (λo=>o%2^(L-([]:List Int).length))=os:=by
     have:∀ o∈os,o%2^(L-([]:List Int).length)=id o:=λo ho=>Int.emod_eq_of_lt (hin o ho).1 (hin o ho).2
     rw[YK this,map_id]
    rw[c3]
 | 0,_::_,_,_,_,h,_=>absurd h (Nat.not_succ_le_zero _)
 | e+1,w::ws,os,s,t,h,hin=>by
  by_cases hs:os.length<s
  ·exact .inr (.inl hs)
  ·by_cases ht:os.length<t
   ·exact .inr (.inr ht)
   ·refine .inl ?_
    have hl:ws.length<=e:=by rw[WX]at h;exact W133 h
    rw[q57]
    have hc:∀ k,((os.map (mk0 e)).take k).count w<=(halfO e w os).length:=λk=>by
     rw[<- q288]
     exact(take_sublist _ _).count_le w
    have ih:=q594 e ws (halfO e w os) (((os.map (mk0 e)).take s).count w) (((os.map (mk0 e)).take t).count w) hl q48
    rcases ih with ih | ih | ih
    ·show ledS e ws (halfO e w os,_,_)=_
     rw[ih,q250,q250,q80,q80]
     have hcong:∀ l:List Int,(∀ o∈l,o∈os)->l.countP (λo=>(mk0 e o==w)&&inW e (o%2^e) ws)=l.countP λo=>inW (e+1) o (w::ws):=λl hl=>by
      refine countP_congr λo ho=>?_
      rw[q289 (hin o (hl o ho))]
     rw[hcong _ λo ho=>mem_of_mem_take ho,hcong _ λo ho=>mem_of_mem_take ho]
     have hsel:selO e (halfO e w os) ws=selO (e+1) os (w::ws):=by
      unfold selO halfO
      rw[filter_map,filter_filter,map_map,WX,Nat.add_sub_add_right]
      have f1:(os.filter λa=>((λo=>inW e o ws)∘λo=>o%2^e) a&&(mk0 e a==w))=os.filter λo=>inW (e+1) o (w::ws):=filter_congr λo ho=>by
       rw[q289 (hin o ho),Bool.and_comm]
       rfl
      rw[f1]
      refine YK λo _=>?_
      exact mod_pow {}
     rw[hsel]
    ·have:=hc s;exact(W78 this ih).elim
    ·have:=hc t;exact(W78 this ih).elim
theorem q496:∀(os:List Int),(idxs p os).map (λi=>(os[i]?).getD 0)=os.filter p
 | []=>rfl
 | o::os=>by
  rw[idxs,YZ]
  have e:((idxs p os).map (· + 1)).map (λi=>((o::os)[i]?).getD 0)=os.filter p:=by
   rw[map_map,<- q496 os]
   refine YK λi _=>?_
   simp
  by_cases c:p o=true
  ·rw[ZL c,ZL c,map_cons,e]
   rfl
  ·rw[ZI c,ZI c,e]
def q223(os:List Int){a b:Nat}(h:a<=b):(os.take a).countP q<=(os.take b).countP q:=by
 have e:os.take a=(os.take b).take a:=by rw[take_take,WN h]
 rw[e]
 exact(take_sublist a (os.take b)).countP_le
def cnt_step{os:List Int}{i:Nat}{o:Int}(h:os[i]? = some o)(hq:q o=true):(os.take (i+1)).countP q=(os.take i).countP q+1:=by
 rw[YG,h,countP_append]
 simp[hq]
theorem q436:∀(os:List Int)(j i:Nat),(idxs q os)[j]? = some i -> ∃ o,os[i]? = some o/\q o=true/\(os.take i).countP q=j
 | [],j,i,h=>by simp[idxs]at h
 | o::os,j,i,h=>by
  rw[idxs]at h
  by_cases c:q o=true
  ·rw[ZL c]at h
   cases j with
   | zero=>
    have:i=0:=by simpa using h.symm
    subst this
    exact⟨o,rfl,c,rfl⟩
   | succ j=>
    have h':((idxs q os).map (· + 1))[j]? = some i:=by simpa using h
    rw[WH]at h'
    cases e:(idxs q os)[j]? with
    | none=>rw[e]at h';cases h'
    | some i'=>
     rw[e]at h'
     have:i=i'+1:=(Option.some.inj h').symm
     subst this
     obtain⟨o',h1,h2,h3⟩:=q436 os j i' e
     exact⟨o',by simpa using h1,h2,by rw[take_succ_cons,YI,h3,ZL c]⟩
  ·rw[ZI c]at h
   have h':((idxs q os).map (· + 1))[j]? = some i:=by simpa using h
   rw[WH]at h'
   cases e:(idxs q os)[j]? with
   | none=>rw[e]at h';cases h'
   | some i'=>
    rw[e]at h'
    have:i=i'+1:=(Option.some.inj h').symm
    subst this
    obtain⟨o',h1,h2,h3⟩:=q436 os j i' e
    exact⟨o',by simpa using h1,h2,by rw[take_succ_cons,YI,h3,ZI c] <;> rfl⟩
def q147{e:Nat}{o w:Int}(h0:0<=o)(h1:o<2^(e+1))(hw:mk0 e o=w):o%2^e+w*2^e=o:=by
 have d:=q739 h0 h1
 rw[hw]at d
 have:=Int.emod_add_mul_ediv o (2^e)
 rw[d,Int.mul_comm]at this
 exact this
def mk0b(e:Nat)(o:Int):mk0 e o=0\/mk0 e o=1:=by
 unfold mk0
 by_cases h:o<2^e
 ·exact .inl (ZL h)
 ·exact .inr (ZI h)
noncomputable def sel(g:G3):List Int:=(g.1.take g.2.2).drop g.2.1
noncomputable def Wh(gs:List G3):List Int:=gs.flatMap sel
def q745{L:Nat}{g:G3}(h:GoodS L g):((sel g).length:Int)=(g.2.2:Int)-g.2.1:=by
 obtain⟨_,h1,h2,_⟩:=h
 unfold sel
 rw[length_drop,WZ,WN h2]
 lia
theorem q72{L:Nat}:∀{gs:List G3},(∀ g∈gs,GoodS L g)->manyG gs=((Wh gs).length:Nat)
 | [],_=>rfl
 | g::gs,h=>by
  have ih:=q72 (gs:=gs) λx hx=>h x (ZX _ hx)
  have hg:=q745 (h g WC)
  unfold manyG at ih ⊢
  unfold Wh at ih ⊢
  rw[map_cons,sum_cons,ih,YV,ZQ]
  lia
def q497{e:Nat}{w:Int}(a b:List Int):halfO e w (a++b)=halfO e w a++halfO e w b:=by
 unfold halfO
 rw[filter_append,WK]
def q148{e:Nat}{w:Int}(os:List Int):(os.map (mk0 e)).count w=(halfO e w os).length:=q288 e w os
def sel_led1{e:Nat}{w:Int}(h:GoodS (e+1) g):sel (led1 e w g)=halfO e w (sel g):=by
 obtain⟨_,h1,h2,_⟩:=h
 show((halfO e w g.1).take (((g.1.map (mk0 e)).take g.2.2).count w)).drop (((g.1.map (mk0 e)).take g.2.1).count w)=_
 rw[q250]
 have e1:g.1.take g.2.2=g.1.take g.2.1++sel g:=by
  unfold sel
  have:=(YR g.2.1 (g.1.take g.2.2)).symm
  rw[take_take,WN h1]at this
  exact this
 rw[e1,q497]
 have e2:((g.1.map (mk0 e)).take g.2.1).count w=(halfO e w (g.1.take g.2.1)).length:=by
  rw[<- map_take]
  exact q148 _
 rw[e2,drop_left]
theorem W_led{e:Nat}{w:Int}:∀{gs:List G3},(∀ g∈gs,GoodS (e+1) g)->Wh (gs.map (led1 e w))=halfO e w (Wh gs)
 | [],_=>rfl
 | g::gs,h=>by
  have ih:=W_led (w:=w) (gs:=gs) λx hx=>h x (ZX _ hx)
  unfold Wh at ih ⊢
  rw[map_cons,YV,YV,q497,ih,sel_led1 (h g WC)]
noncomputable def fillG(gs:List G3):List G3:=gs.filter λg=>decide (g.2.1<g.2.2)
theorem q64:∀{gs:List G3},Wh (fillG gs)=Wh gs
 | []=>rfl
 | g::gs=>by
  have ih:=q64 (gs:=gs)
  unfold fillG Wh at ih ⊢
  rw[YZ]
  by_cases c:g.2.1<g.2.2
  ·rw[ZL (ZA c),YV,YV,ih]
  ·rw[ZI (by simpa using c),ih,YV]
   have:sel g=[]:=by
    unfold sel
    rw[drop_eq_nil_iff,WZ]
    lia
   rw[this,nil_append]
def q46{L:Nat}(h:∀ g∈gs,GoodS L g):∀ g∈fillG gs,GoodS L g:=λg hg=>h g (List.mem_filter.mp hg).1
def W_in{L:Nat}(h:∀ g∈gs,GoodS L g):InO L (Wh gs):=λo ho=>by
 obtain⟨g,hg,ho⟩:=List.mem_flatMap.mp ho
 exact(h g hg).1 o (mem_of_mem_take (mem_of_mem_drop ho))
def W_app(a b:List G3):Wh (a++b)=Wh a++Wh b:=flatMap_append
abbrev P2:=Int×Int
noncomputable def caF(part floor:Int):Nat->Int->List Int->List P2
 | 0,least,ws=>if(ws.length:Int)*part<=floor then[] else[(least,(ws.length:Int))]
 | e+1,least,ws=>if(ws.length:Int)*part<=floor then[]else caF part floor e least (halfO e 0 ws)++caF part floor e (least+2^e) (halfO e 1 ws)
theorem ca_le{part floor:Int}:∀(e:Nat)(least:Int)(ws:List Int),∀ p∈caF part floor e least ws,p.2<=(ws.length:Int)
 | 0,least,ws,p,hp=>by
  unfold caF at hp
  by_cases c:(ws.length:Int)*part<=floor
  ·rw[ZL c]at hp;cases hp
  ·rw[ZI c]at hp;rw[eD hp];exact Int.le_refl _
 | e+1,least,ws,p,hp=>by
  unfold caF at hp
  by_cases c:(ws.length:Int)*part<=floor
  ·rw[ZL c]at hp;cases hp
  ·rw[ZI c]at hp
   have l0:=q122 (e:=e) (os:=ws) (w:=0)
   have l1:=q122 (e:=e) (os:=ws) (w:=1)
   rcases eC hp with hp | hp
   ·have:=ca_le e _ _ p hp;lia
   ·have:=ca_le e _ _ p hp;lia
def q333{part floor:Int}(hp:1<=part)(hf:0<=floor):∀(e:Nat)(least:Int)(ws:List Int),caF part floor e least ws=(caF 1 0 e least ws).filter λp=>decide (floor<p.2*part):=by
 have mono:∀{a b:Int},a<=b->a*part<=b*part:=λh=>Int.mul_le_mul_of_nonneg_right h (W105 hp)
 have q199:∀(e:Nat)(least:Int)(ws:List Int),(ws.length:Int)*part<=floor->(caF 1 0 e least ws).filter (λp=>decide (floor<p.2*part))=[]:=λe least ws c=>by
  rw[filter_eq_nil_iff]
  intro p h
  have:=mono (ca_le e least ws p h)
  simp
  exact W204 this c
 have pos:∀{n:Nat},¬(n:Int)*part<=floor -> ¬(n:Int)*1<=0:=fun {n} c z=>c (by
  have:n=0:=(W57 z)
  rw[this]
  simp
  exact hf)
 intro e
 induction e with
 | zero=>
  intro least ws
  by_cases c:(ws.length:Int)*part<=floor
  ·rw[q199 0 least ws c]
   unfold caF
   rw[ZL c]
  ·unfold caF
   rw[ZI c,ZI (pos c),YZ,ZL (ZA (by show floor<(ws.length:Int)*part;exact W59 c)),filter_nil]
 | succ e ih=>
  intro least ws
  by_cases c:(ws.length:Int)*part<=floor
  ·rw[q199 (e+1) least ws c]
   unfold caF
   rw[ZL c]
  ·unfold caF
   rw[ZI c,ZI (pos c),filter_append,ih,ih]
def q102{e:Nat}{w x:Int}{ws:List Int}(h:InO (e+1) ws)(hw:w=0\/w=1)(h0:0<=x)(h1:x<2^e):(halfO e w ws).count x=ws.count (x+w*2^e):=by
 rw[YE,YE,q80]
 refine countP_congr λo ho=>?_
 have hin:=h o ho
 have hp:=p2pos e
 rw[WO,beq_iff_eq,beq_iff_eq,beq_iff_eq]
 constructor
 ·rintro ⟨a,b⟩
  rw[<- b]
  exact(q147 hin.1 hin.2 a).symm
 ·intro a
  have e2:(2:Int)^(e+1)=2*2^e:=by rw[YO];exact W19
  have hm:mk0 e o=w:=by
   unfold mk0
   rcases hw with rfl | rfl
   ·rw[ZL {}]
   ·rw[ZI {}]
  exists hm
  have:=q147 hin.1 hin.2 hm
  lia
theorem q272:∀(e:Nat)(least:Int)(ws:List Int),InO e ws -> ∀(w m:Int),(w,m)∈caF 1 0 e least ws↔(m=(ws.count (w-least):Nat)/\0<m)
 | 0,least,ws,hin,w,m=>by
  have hz:∀ x∈ws,x=0:=λx hx=>by
   have:=hin x hx
   simp at this
   lia
  unfold caF
  by_cases c:(ws.length:Int)*1<=0
  ·rw[ZL c]
   have:ws=[]:=eq_nil_of_length_eq_zero (W57 c)
   subst this
   simp
   exact W153
  ·rw[ZI c,mem_singleton]
   have call:ws.count 0=ws.length:=List.count_eq_length.mpr λb hb=>(hz b hb).symm
   constructor
   ·intro z
    cases z
    rw[Int.sub_self,call]
    exact⟨rfl,{}⟩
   ·rintro ⟨h1,h2⟩
    have:(w-least)∈ws:=List.count_pos_iff.mp (W42 h2 h1)
    have z:=hz _ this
    rw[z,call]at h1
    have:w=least:={}
    rw[this,h1]
 | e+1,least,ws,hin,w,m=>by
  have hp:=p2pos e
  have e2:(2:Int)^(e+1)=2*2^e:=by rw[YO];exact W19
  unfold caF
  by_cases c:(ws.length:Int)*1<=0
  ·rw[ZL c]
   have:ws=[]:=eq_nil_of_length_eq_zero (W57 c)
   subst this
   simp
   exact W153
  ·rw[ZI c,mem_append,q272 e _ _ q48,q272 e _ _ q48]
   have rng:∀{x:Int}{us:List Int},InO e us->0<us.count x->0<=x/\x<2^e:=λh h0=>h _ (List.count_pos_iff.mp h0)
   constructor
   ·rintro (⟨h1,h2⟩ | ⟨h1,h2⟩)
    ·have r:=rng q48 (show 0<(halfO e 0 ws).count (w-least) by exact W42 h2 h1)
     rw[q102 hin (.inl rfl) r.1 r.2]at h1
     have:w-least+0*2^e=w-least:={}
     rw[this]at h1
     exact⟨h1,h2⟩
    ·have r:=rng q48 (show 0<(halfO e 1 ws).count (w-(least+2^e)) by exact W42 h2 h1)
     rw[q102 hin (.inr rfl) r.1 r.2]at h1
     have:w-(least+2^e)+1*2^e=w-least:={}
     rw[this]at h1
     exact⟨h1,h2⟩
   ·rintro ⟨h1,h2⟩
    have r:=hin _ (List.count_pos_iff.mp (show 0<ws.count (w-least) by exact W42 h2 h1))
    by_cases d:w-least<2^e
    ·refine .inl ⟨?_,h2⟩
     rw[q102 hin (.inl rfl) r.1 d]
     have:w-least+0*2^e=w-least:={}
     rw[this]
     exact h1
    ·refine .inr ⟨?_,h2⟩
     rw[q102 hin (.inr rfl) {} {}]
     have:w-(least+2^e)+1*2^e=w-least:={}
     rw[this]
     exact h1
def q273{e:Nat}{least:Int}{ws:List Int}(hin:InO e ws){p:P2}(h:p∈caF 1 0 e least ws):least<=p.1/\p.1<least+2^e/\0<p.2/\p.2=(ws.count (p.1-least):Nat):=by
 obtain⟨h1,h2⟩:=(q272 e least ws hin p.1 p.2).mp h
 have r:=hin _ (List.count_pos_iff.mp (show 0<ws.count (p.1-least) by exact W42 h2 h1))
 exact⟨{},{},h2,h1⟩
theorem q251:∀(e:Nat)(least:Int)(ws:List Int),InO e ws->(caF 1 0 e least ws).Pairwise λp q=>p.1<q.1
 | 0,least,ws,_=>by
  unfold caF
  by_cases c:(ws.length:Int)*1<=0
  ·rw[ZL c];exact .nil
  ·rw[ZI c];simp
 | e+1,least,ws,hin=>by
  unfold caF
  by_cases c:(ws.length:Int)*1<=0
  ·rw[ZL c];exact .nil
  ·rw[ZI c,pairwise_append]
   refine⟨q251 e _ _ q48,q251 e _ _ q48,λp hp q hq=>?_⟩
   have:=q273 q48 hp
   have:=q273 q48 hq
   lia
def q290{e:Nat}(ws:List Int):(halfO e 0 ws).length+(halfO e 1 ws).length=ws.length:=by
 have:=cnt01 (e:=e) ws ws.length
 rw[Nat.min_self,WU (by simp),q148,q148]at this
 exact this
noncomputable def sumM(ps:List P2):Int:=(ps.map λp=>p.2).sum
theorem q746:∀(e:Nat)(least:Int)(ws:List Int),sumM (caF 1 0 e least ws)=(ws.length:Int)
 | 0,least,ws=>by
  unfold caF
  by_cases c:(ws.length:Int)*1<=0
  ·rw[ZL c];show(0:Int)=_;lia
  ·rw[ZI c];show(ws.length:Int)+0=_;lia
 | e+1,least,ws=>by
  unfold caF
  by_cases c:(ws.length:Int)*1<=0
  ·rw[ZL c];show(0:Int)=_;lia
  ·rw[ZI c]
   have h1:=q746 e least (halfO e 0 ws)
   have h2:=q746 e (least+2^e) (halfO e 1 ws)
   have h3:=q290 (e:=e) ws
   unfold sumM at h1 h2 ⊢
   rw[WK,sum_append,h1,h2]
   exact W93 h3
noncomputable def bstep(b:Option P2)(p:P2):Option P2:=match b with
 | none=>some p
 | some q=>if p.2 > q.2 then some p else some q
noncomputable def bst(ps:List P2):Option P2:=ps.foldl bstep none
theorem q538:∀(ps:List P2)(q:P2),∃ r,ps.foldl bstep (some q)=some r/\(r=q\/r∈ps)/\q.2<=r.2/\(∀ p∈ps,p.2<=r.2)/\(((q::ps).filter λp=>decide (p.2=r.2)).head? = some r)
 | [],q=>⟨q,rfl,.inl rfl,Int.le_refl _,(λp hp=>nomatch hp),by simp⟩
 | x::ps,q=>by
  rw[foldl_cons]
  by_cases c:x.2 > q.2
  ·have e:bstep (some q) x=some x:=by show(if _ then _ else _)=_;rw[ZL c]
   rw[e]
   obtain⟨r,h1,h2,h3,h4,h5⟩:=q538 ps x
   exists r,h1,.inr ?_,{},λp hp=>?_
   ·rcases h2 with rfl | h2
    ·exact WC
    ·exact ZX _ h2
   ·rcases eB hp with rfl | hp
    ·exact h3
    ·exact h4 p hp
   ·rw[YZ,ZI (by simp;lia)]
    exact h5
  ·have e:bstep (some q) x=some q:=by show(if _ then _ else _)=_;rw[ZI c]
   rw[e]
   obtain⟨r,h1,h2,h3,h4,h5⟩:=q538 ps q
   exists r,h1,?_,h3,λp hp=>?_
   ·rcases h2 with rfl | h2
    ·exact .inl rfl
    ·exact .inr (ZX _ h2)
   ·rcases eB hp with rfl | hp
    ·lia
    ·exact h4 p hp
   ·rw[YZ]at h5 ⊢
    by_cases d:q.2=r.2
    ·rw[ZL (ZA d)]at h5 ⊢
     exact h5
    ·rw[ZI (by simpa using d)]at h5 ⊢
     rw[YZ,ZI (by simp;lia)]
     exact h5
def bst_some{ps:List P2}(h:ps≠[]):∃ r,bst ps=some r/\r∈ps/\(∀ p∈ps,p.2<=r.2)/\((ps.filter λp=>decide (p.2=r.2)).head? = some r):=by
 cases ps with
 | nil=>exact absurd rfl h
 | cons q ps=>
  obtain⟨r,h1,h2,h3,h4,h5⟩:=q538 ps q
  refine⟨r,h1,?_,λp hp=>?_,h5⟩
  ·rcases h2 with rfl | h2
   ·exact WC
   ·exact ZX _ h2
  ·rcases eB hp with rfl | hp
   ·exact h3
   ·exact h4 p hp
theorem few{part W:Int}(hp:1<=part)(hW:0<=W):∀(ps:List P2),(∀ p∈ps,W<p.2*part)->((ps.length:Int)*(W+1)<=sumM ps*part)
 | [],_=>by simp[sumM]
 | p::ps,h=>by
  have ih:=few hp hW ps λq hq=>h q (ZX _ hq)
  have h0:=h p WC
  unfold sumM at ih ⊢
  rw[map_cons,sum_cons,WX,Int.add_mul]
  have:((ps.length+1:Nat):Int)*(W+1)=(ps.length:Int)*(W+1)+(W+1):=by
   rw[Int.natCast_add,Int.add_mul];simp
  rw[this]
  lia
noncomputable def stS(p:Int×Int)(t:Int):Int×Int:=(if t=1 then p.1+p.2/2 else p.1,p.2/2)
noncomputable def spanS(low:Int)(L:Nat)(ws:List Int):Int×Int:=ws.foldl stS (low,2^L)
def q437(e:Nat):(2:Int)^(e+1)/2=2^e:=by rw[YO];lia
def q747{α:Type}{l:List α}{i:Nat}{x:α}(h:l[i]? = some x):l.take (i+1)=l.take i++[x]:=by rw[YG,h];rfl
def q291{ws:List Int}{i:Nat}(h:(ws.map V.int)[i]? = some x):∃ t,ws[i]? = some t/\x = .int t:=by
 rw[WH]at h
 cases e:ws[i]? with
 | none=>rw[e]at h;cases h
 | some t=>rw[e]at h;exact⟨t,rfl,(Option.some.inj h).symm⟩
def q498{α β:Type}{f:β->α->β}{b:β}{l:List α}{i:Nat}{x:α}(h:l[i]? = some x):(l.take (i+1)).foldl f b=f ((l.take i).foldl f b) x:=by
 rw[q747 h,foldl_append];rfl
inductive q393(K:Fg)(vs:List V)(H:Hp)(Q:VK)(E:XK):Prop
 |mk(b wy:Addr)(low:Int)(L:Nat)(ws:List Int)(_:vs=[.ref b,.ref wy])(_:SqT K H b [.int low,.int (L:Int)])(_:L<=40)(_:SqT K H wy (ws.map V.int))(_:∀ p,H p=none->Q (.ref p) (upd H p (.tup [.int (spanS low L ws).1,.int ((spanS low L ws).1+(spanS low L ws).2-1)])))
def q394:z.C P w 2 "span_of" ["bounds", "way"] (q393 K):=by
 have sc:=q644
 specialize z.d_span_of
 obtain⟨b,wy,low,L,ws,rfl,hb,hL,hw,q⟩:=h
 refine⟨_,(q12 (pst 2 sc.nd (pix q24 (pv 0) q13))
 (q12 (pst 3 sc.nd (pfn (q33 z) hr (pa1 (pix q24 (pv 0) q13))))
 (q12 (q61 PassesOwn.never rfl (q557 (pv 1)) (pgn 4 sc.nd)
 (q12 (pst 3 sc.nd (pe_op q69 (pv 3) q13))
 (q15 (ps_if (q20 op_eq (pv 4) q13 (q19 _))
 (q15 (pst 2 sc.nd (pe_op q30 (pv 2) (pv 3))))
 q21))))
 (q15 (q18 (q29 (pa2 (pv 2) (pe_op q74 (pe_op q30 (pv 2) (pv 3)) q13)))))))),?_⟩
 exists _,rfl,b,_,_,_,rfl,rfl,hb,rfl,_,rfl,b,_,_,_,rfl,rfl,hb,rfl,L,rfl,hL
 refine⟨_,rfl,wy,rfl,⟨_,hw⟩,q408 (K:=K) (a:=wy) (xs:=ws.map V.int) (λi σ H2=>∃ v:Option V,σ=[some (.ref b),some (.ref wy),some (.int ((ws.take i).foldl stS (low,2^L)).1),some (.int ((ws.take i).foldl stS (low,2^L)).2),v]/\H2=H)
  ⟨none,rfl,rfl⟩ (λi σ H2 _ ⟨_,_,e⟩=>by rw[e];exact hw) ?_ ?_⟩
 ·rintro i x σ H2 hi ⟨v,rfl,rfl⟩
  obtain⟨t,ht,rfl⟩:=q291 hi
  exists _,rfl,_,_,rfl,rfl,⟨∅,∅⟩
  exists _,rfl,rfl,_,rfl
  refine ite2 (λc=>?_) (λc=>?_)
  ·have c':t=1:=V.int.inj (ZE c)
   refine⟨_,rfl,_,rfl,_,_,rfl,rfl,some (.int t),?_,rfl⟩
   rw[q498 ht]
   unfold stS
   rw[ZL c']
   rfl
  ·have c':¬ t=1:=λz=>c (by rw[z];exact ZA rfl)
   refine⟨some (.int t),?_,rfl⟩
   rw[q498 ht]
   unfold stS
   rw[ZI c']
   rfl
 ·rintro σ H2 ⟨v,rfl,rfl⟩
  refine⟨_,rfl,_,rfl,_,rfl,_,_,rfl,rfl,_,_,rfl,rfl,szb rfl,λp hp=>?_⟩
  have e:ws.take (ws.map V.int).length=ws:=by rw[ZJ];exact YQ
  have q':=q p hp
  unfold spanS at q'
  rw[<- e]at q'
  exact q'
def q499(s:Same H H1)(hD:H D=none)(o:HO):Same H (upd H1 D o):=λb u q=>by rw[q27 (q26 q hD)];exact s b u q
noncomputable def btw(least lo hi:Int):Int->Bool:=λo=>decide (lo<=least+o/\least+o<=hi)
def AllAt{α:Type}(R:Hp->V->α->Prop)(H:Hp)(xs:List V)(ps:List α):Prop:=xs.length=ps.length /\ ∀(j:Nat)(x:V)(p:α),xs[j]? = some x->ps[j]? = some p->R H x p
section
variable {α:Type}{R:Hp->V->α->Prop}{H H':Hp}{xs ys:List V}{ps qs:List α}
def AllAt.imp(h:AllAt R H xs ps)(f:∀ x p,R H x p->R H' x p):AllAt R H' xs ps:=⟨h.1,λj x p h1 h2=>f x p (h.2 j x p h1 h2)⟩
def AllAt.nil:AllAt R H [] []:=⟨rfl,λj x p h1 _=>by simp at h1⟩
def AllAt.get(h:AllAt R H xs ps){j:Nat}(hx:xs[j]? = some x):∃ p,ps[j]? = some p/\R H x p:=by
 have hj:j<ps.length:=by rw[<- h.1];exact(eA hx).1
 exact⟨ps[j],ZM hj,h.2 j x ps[j] hx (ZM hj)⟩
def AllAt.app(h:AllAt R H xs ps)(k:AllAt R H ys qs):AllAt R H (xs++ys) (ps++qs):=by
 refine⟨by rw[ZQ,ZQ,h.1,k.1],λj y p h1 h2=>?_⟩
 by_cases c:j<xs.length
 ·rw[YX c]at h1
  rw[YX (by rw[<- h.1];exact c)]at h2
  exact h.2 j y p h1 h2
 ·rw[YL (W17 c)]at h1
  rw[YL (by rw[<- h.1];lia),<- h.1]at h2
  exact k.2 _ y p h1 h2
end
def PsR(H:Hp)(v:V)(p:P2):Prop:=∃ a,v = .ref a/\H a=some (.tup [.int p.1,.int p.2])
def PsR.tk(k:TKeep H H')(h:PsR H v p):PsR H' v p:=by
 obtain⟨a,e,h1⟩:=h
 exact⟨a,e,(k _ _).1 h1⟩
def ps_tk(h:AllAt PsR H xs ps)(k:TKeep H H'):AllAt PsR H' xs ps:=h.imp λ_ _ z=>z.tk k
def q748(h:AllAt PsR H xs ps)(s:Same H H'):AllAt PsR H' xs ps:=ps_tk h (.same s)
def ca_len{part floor:Int}(hp:1<=part)(hf:0<=floor){e:Nat}{least:Int}{ws:List Int}(hin:InO e ws):(caF part floor e least ws).length<=ws.length:=by
 rw[q333 hp hf]
 refine ZO (WP _ _) ?_
 have h:=few (part:=1) (W:=0) ∅ ∅ (caF 1 0 e least ws) (λp hp=>by have:=(q273 hin hp).2.2.1;lia)
 rw[q746]at h
 lia
inductive q500(K:Fg)(vs:List V)(H:Hp)(Q:VK)(E:XK):Prop
 |mk(ga:Addr)(xs:List V)(L:Nat)(gs:List G3)(_:vs=[.ref ga])(_:SqL K H ga xs)(_:GatAt H L xs gs)(_:gs.length<=1000)(_:∀(H':Hp)(D:Addr)(ys:List V),Same H H'->H' D=some (.lst ys)->H D=none->GatAt H' L ys (fillG gs)->Q (.ref D) H')
def q53:z.C P w 1 "filled" ["gathering"] (q500 K):=by
 have sc:=q734
 specialize z.d_filled
 obtain⟨ga,xs,L,gs,rfl,hga,hg,hl,q⟩:=h
 exists _,(q15 (q18 (q71 (cl:=[]) (cn:=[]) (N:=[]) (fr:=[]) (sc0:=q16 q425) rfl (q34 (pv 0)) (λC s₂ H₂ fp=>(pv 0)) (λC s₂ H₂ fp=>(q20 op_lt (pix (q194 (K:=K) rfl) (pv 0) q13) (pix (q194 (K:=K) rfl) (pv 0) q13) (q19 _))) (by ac_rfl) trivial rfl rfl rfl cok rfl)))
 have hxl:=hg.1
 refine⟨_,rfl,ga,rfl,⟨_,hga⟩,λD hD=>?_⟩
 refine q140 (K:=K) (xs:=xs) (sz {}) (λi ys H2=>H2=upd H D (.lst ys)/\ys.length<=i/\GatAt H L ys (fillG (gs.take i))) ⟨rfl,ZG _,GatAt.nil _ _⟩ (λi ys H2 ⟨e,_⟩=>by rw[e];exact(q17 hD _).seq hga)
  (λi ys H2 ⟨e,e2,_⟩=>⟨by rw[e];exact q14,e2⟩) ?_ ?_
 ·rintro i x ys H2 hx ⟨rfl,e2,e3⟩
  have hi:i<gs.length:=by rw[<- hxl];exact(eA hx).1
  have gi:gs[i]? = some gs[i]:=ZM hi
  generalize gs[i]=g at gi
  have hsx:=hg.2 i x g hx gi
  obtain⟨t,u,rfl,ht,hu⟩:=hsx
  have ht':SqT K (upd H D (.lst ys)) t [u,.int (g.2.1:Int),.int (g.2.2:Int)]:=SqT.of (q17 hD _ _ _ ht)
  exists _,rfl,t,_,_,_,rfl,rfl,ht',rfl,_,rfl,t,_,_,_,rfl,rfl,ht',rfl,_,_,rfl,rfl,_,rfl
  have et:fillG (gs.take (i+1))=fillG (gs.take i)++fillG [g]:=by
   unfold fillG
   rw[YG,gi,filter_append]
   rfl
  refine ite2 (λc=>?_) (λc=>?_)
  ·have c':=ZE c
   have ef:fillG [g]=[g]:=by
    unfold fillG
    rw[YZ,ZL (ZA (W172 c'))]
    rfl
   exists _,rfl,q14,by rw[q103],by rw[ZQ];simp;lia
   rw[et,ef]
   exact e3.snoc ⟨t,u,rfl,ht,hu⟩
  ·have c':¬(g.2.1:Int)<g.2.2:=λz=>c (ZA z)
   have ef:fillG [g]=[]:=by
    unfold fillG
    rw[YZ,ZI (by simp;exact W208 c')]
    rfl
   exists _,{},rfl,{},rfl,(W151 e2)
   rw[et,ef,YN]
   exact e3
 ·rintro ys H2 ⟨rfl,e2,e3⟩
  rw[hxl,YQ]at e3
  exact q _ D ys (q17 hD _) q14 hD (e3.same (q17 hD _))
noncomputable def wayW:Nat->Int->List Int
 | 0,_=>[]
 | e+1,o=>if o<2^e then 0::wayW e o else 1::wayW e (o-2^e)
def q149{e:Nat}{o:Int}(h:o<2^e):wayW (e+1) o=0::wayW e o:=by
 show(if o<2^e then _ else _)=_
 rw[ZL h]
def q150{e:Nat}{o:Int}(h:¬ o<2^e):wayW (e+1) o=1::wayW e (o-2^e):=by
 show(if o<2^e then _ else _)=_
 rw[ZI h]
def pow2(e:Nat):(2:Int)^(e+1)=2^e+2^e:=by rw[YO];lia
theorem q162:∀(e:Nat)(o:Int),(wayW e o).length=e
 | 0,_=>rfl
 | e+1,o=>by
  by_cases h:o<2^e
  ·rw[q149 h,WX,q162 e]
  ·rw[q150 h,WX,q162 e]
theorem q252:∀(e:Nat)(o:Int),∀ m∈wayW e o,m=0\/m=1
 | 0,_,m,hm=>by cases hm
 | e+1,o,m,hm=>by
  by_cases h:o<2^e
  ·rw[q149 h]at hm
   rcases eB hm with z | z
   ·exact .inl z
   ·exact q252 e _ m z
  ·rw[q150 h]at hm
   rcases eB hm with z | z
   ·exact .inr z
   ·exact q252 e _ m z
def where_in{low n:Int}{L:Nat}:q328 low L n = "within" ↔ (low<=n/\n<=low+2^L-1):=by
 unfold q328
 by_cases h:n<low
 ·rw[ZL h]
  exact⟨λz=>absurd z ∅,λz=>{}⟩
 ·rw[ZI h]
  by_cases h2:low+2^L-1<n
  ·rw[ZL h2]
   exact⟨λz=>absurd z ∅,λz=>(W201 h2 z).elim⟩
  ·rw[ZI h2]
   exact⟨λ_=>{},λ_=>rfl⟩
noncomputable def mlF:Nat->List Int->List Int->Int
 | _,[],_=>0
 | 0,_::_,_=>0
 | e+1,w::ws,us=>(if w=1 then((halfO e 0 us).length:Int)else 0)+mlF e ws (halfO e w us)
theorem q749:∀(e:Nat)(o:Int)(us:List Int),0<=o->o<2^e->InO e us->mlF e (wayW e o) us=(us.countP λx=>decide (x<o):Nat)
 | 0,o,us,h0,h1,hin=>by
  have:us.countP (λx=>decide (x<o))=0:=List.countP_eq_zero.mpr λx hx=>by
   have:=hin x hx
   simp at *
   lia
  rw[this]
  rfl
 | e+1,o,us,h0,h1,hin=>by
  have p:=pow2 e
  have hp:=p2pos e
  by_cases c:o<2^e
  ·rw[q149 c,mlF,ZI ∅,q749 e o _ h0 c q48,q80,Int.zero_add]
   congr 1
   refine countP_congr λx hx=>?_
   have hx':=hin x hx
   rw[WO,beq_iff_eq,ZW,ZW]
   constructor
   ·rintro ⟨a,b⟩
    have:=q147 hx'.1 hx'.2 a
    lia
   ·intro a
    have hm:mk0 e x=0:=by unfold mk0;rw[ZL {}]
    have:=q147 hx'.1 hx'.2 hm
    exact⟨hm,{}⟩
  ·rw[q150 c,mlF,ZL rfl,q749 e (o-2^e) _ {} {} q48,q80]
   have l0:(halfO e 0 us).length=us.countP λx=>mk0 e x==0:=by
    unfold halfO
    rw[ZJ,YW]
   rw[l0]
   have key:∀ us:List Int,(∀ x∈us,0<=x/\x<(2:Int)^(e+1))->(us.countP λx=>mk0 e x==0)+(us.countP λx=>(mk0 e x==1)&&decide (x%2^e<o-2^e))=us.countP λx=>decide (x<o):=by
    intro us
    induction us with
    | nil=>intro _;rfl
    | cons x us ih=>
     intro h
     have ih':=ih λy hy=>h y (ZX _ hy)
     have hx':=h x WC
     rw[YI,YI,YI,<- ih']
     rcases mk0b e x with m | m
     ·have hxl:x<2^e:=by
       unfold mk0 at m
       by_cases z:x<2^e
       ·exact z
       ·rw[ZI z]at m;lia
      rw[m]
      simp[show x<o by lia]
      exact W14
     ·have:=q147 hx'.1 hx'.2 m
      have hxg:¬ x<2^e:=by
       unfold mk0 at m
       intro z
       rw[ZL z]at m;lia
      rw[m]
      by_cases z:x<o
      ·have z2:x%2^e<o-2^e:=(W167 z this)
       simp[z,z2]
       lia
      ·have z2:¬ x%2^e<o-2^e:=(W187 this z)
       simp[z,z2]
   have:=key us hin
   exact W93 this
inductive q501(K:Fg)(vs:List V)(H:Hp)(Q:VK)(E:XK):Prop
 |mk(b:Addr)(low num:Int)(L:Nat)(_:vs=[.ref b,.int num])(_:SqT K H b [.int low,.int (L:Int)])(_:L<=40)(_:(low<=num/\num<=low+2^L-1))(_:∀ t H',Same H H'->TupF H' t ((wayW L (num-low)).map V.int)->Q (.ref t) H')
inductive q178(K:Fg)(vs:List V)(H:Hp)(Q:VK)(E:XK):Prop
 |mk(ga wy:Addr)(xs:List V)(L:Nat)(o:Int)(gs:List G3)(_:vs=[.ref ga,.ref wy])(_:SqL K H ga xs)(_:GatAt H L xs gs)(_:(∀ g∈gs,GoodS L g))(_:gs.length<=100)(_:SqT K H wy ((wayW L o).map V.int))(_:0<=o)(_:o<2^L)(_:∀ H',Same H H'->Q (.int ((Wh gs).countP λx=>decide (x<o):Nat)) H')
inductive q595(K:Fg)(vs:List V)(H:Hp)(Q:VK)(E:XK):Prop
 |mk(b ga:Addr)(xs:List V)(low num:Int)(L:Nat)(gs:List G3)(_:vs=[.ref b,.ref ga,.int num])(_:SqT K H b [.int low,.int (L:Int)])(_:L<=40)(_:SqL K H ga xs)(_:GatAt H L xs gs)(_:(∀ g∈gs,GoodS L g))(_:gs.length<=100)(_:∀ H',Same H H'->Q (.int ((Wh gs).countP λx=>decide (x<num-low):Nat)) H')
inductive q395(K:Fg)(vs:List V)(H:Hp)(Q:VK)(E:XK):Prop
 |mk(b ga:Addr)(xs:List V)(low lo hi:Int)(L:Nat)(gs:List G3)(_:vs=[.ref b,.ref ga,.int lo,.int hi])(_:SqT K H b [.int low,.int (L:Int)])(_:L<=40)(_:SqL K H ga xs)(_:GatAt H L xs gs)(_:(∀ g∈gs,GoodS L g))(_:gs.length<=100)(_:∀ H',Same H H'->Q (.int ((Wh gs).countP (btw low lo hi):Nat)) H')
theorem q334{low lo hi:Int}(h:lo<=hi):∀ us:List Int,(us.countP λx=>decide (x<hi+1-low))=(us.countP λx=>decide (x<lo-low))+us.countP (btw low lo hi)
 | []=>rfl
 | x::us=>by
  rw[YI,YI,YI,q334 h us]
  unfold btw
  by_cases c1:x<lo-low
  ·have c2:x<hi+1-low:={}
   have c3:¬(lo<=low+x/\low+x<=hi):={}
   simp[c1,c2,c3]
   exact W9
  ·by_cases c2:x<hi+1-low
   ·have c3:lo<=low+x/\low+x<=hi:={}
    simp[c1,c2,c3]
    exact W12
   ·have c3:¬(lo<=low+x/\low+x<=hi):={}
    simp[c1,c2,c3]
def q750:z.C P w 4 "way_of" pn16 (q501 K):=by
 have sc:=q733
 specialize z.d_way_of
 obtain⟨b,low,num,L,rfl,hb,hL,c',q⟩:=h
 refine⟨_,(q12 (ps_if (q20 op_ne (pfn (q433 z) hr (pa2 (pv 0) (pv 1))) q51 (q19 _))
 (q15 q157)
 q21)
 (q12 (pst 2 sc.nd (pix q24 (pv 0) q13))
 (q12 (pst 3 sc.nd (pfn (q33 z) hr (pa1 (pix q24 (pv 0) q13))))
 (q12 (pst 4 sc.nd (q32 q11))
 (q12 (q61 PassesOwn.never rfl (q41 rfl z.range_ (pa1 (pix q24 (pv 0) q13))) (pgn 5 sc.nd)
 (q12 (pst 3 sc.nd (pe_op q69 (pv 3) q13))
 (q15 (ps_if (q20 op_lt (pv 1) (pe_op q30 (pv 2) (pv 3)) (q19 _))
 (q15 (q75 (pe_bm WQ WS WT q42 (pv 4) (pa1 q13))))
 (q12 (q75 (pe_bm WQ WS WT q42 (pv 4) (pa1 q13)))
 (q15 (pst 2 sc.nd (pe_op q30 (pv 2) (pv 3)))))))))
 (q15 (q18 (q202 q193 () z.tuple_ q204 (pa1 (pv 4)))))))))),?_⟩
 exists _,rfl,_,rfl,b,low,num,L,rfl,hb,hL,rfl,_,rfl
 refine ite2 (λc=>?_) (λc=>?_)
 ·rw[where_in.mpr c',ZA rfl]at c
  cases c
 ·skip
  refine⟨_,rfl,b,_,_,_,rfl,rfl,hb,rfl,_,rfl,b,_,_,_,rfl,rfl,hb,rfl,L,rfl,hL,szb rfl,λwy hwy=>?_⟩
  have hb2:∀ o,SqT K (upd H wy o) b [.int low,.int (L:Int)]:=λo=>(q17 hwy o).seqT hb
  refine⟨_,rfl,b,_,_,_,rfl,rfl,hb2 _,rfl,(L:Int),rfl,(W116 hL),(W161 hL),q106 (n:=L) (λi σ H2=>∃(le:Int)(ws:List Int)(v:Option V),σ=[some (.ref b),some (.int num),some (.int le),some (.int (2^(L-i))),some (.ref wy),v] /\
   H2=upd H wy (.lst (ws.map V.int))/\ws.length=i/\0<=num-le/\num-le<2^(L-i)/\wayW L (num-low)=ws++wayW (L-i) (num-le)) ⟨low,[],none,rfl,rfl,rfl,{},by show num-low<2^L;lia,rfl⟩ ?_ ?_⟩
  ·rintro i σ H2 hi ⟨le,ws,v,rfl,rfl,hl,h0,h1,hw⟩
   obtain⟨e,he⟩:∃ e,L-i=e+1:=⟨L-i-1,(W4 hl hi)⟩
   have he2:L-(i+1)=e:=(W28 hl hi he)
   have p:=pow2 e
   have ph:=q437 e
   rw[he]at h1 hw ⊢
   exists _,rfl,_,_,rfl,rfl,⟨∅,∅⟩
   exists _,rfl,_,rfl,_,rfl,_,_,rfl,rfl,_,_,rfl,rfl,_,rfl
   rw[ph,he2]
   refine ite2 (λc=>?_) (λc=>?_)
   ·have c2:num<le+2^e:=ZE c
    rw[q149 (show num-le<2^e by lia)]at hw
    exists _,rfl,.inl ⟨rfl,_,SqL.of q14⟩,wy,_,_,rfl,rfl,q14,?_
    ·rw[ZJ];exact Nat.lt_of_le_of_lt (show ws.length<=1000 by exact W179 hl hi hL) (q52 (ZG _))
    ·exact⟨le,ws++[0],some (.int (0+(i:Int))),rfl,by rw[q103,WK] <;> rfl,by rw[ZQ,hl] <;> rfl,h0,{},by rw[hw,YF] <;> rfl⟩
   ·have c2:¬ num<le+2^e:=λz=>c (ZA z)
    rw[q150 (show ¬ num-le<2^e by lia)]at hw
    exists _,rfl,.inl ⟨rfl,_,SqL.of q14⟩,wy,_,_,rfl,rfl,q14,?_
    ·rw[ZJ];exact Nat.lt_of_le_of_lt (show ws.length<=1000 by lia) (q52 (ZG _))
    ·exists _,rfl,_,rfl,_,_,rfl,rfl,le+2^e,ws++[1],some (.int (0+(i:Int))),rfl,by rw[q103,WK] <;> rfl,by rw[ZQ,hl] <;> rfl,{},{}
     have e2:num-(le+2^e)=num-le-2^e:={}
     rw[hw,e2,YF]
     rfl
  ·rintro σ H2 ⟨le,ws,v,rfl,rfl,hl,h0,h1,hw⟩
   rw[Nat.sub_self]at hw
   have hw2:wayW L (num-low)=ws:=by rw[hw];exact YN ws
   refine⟨_,rfl,wy,_,rfl,SqL.of q14,λt H' s' ht=>?_⟩
   exact q t _ ((q17 hwy _).trans s') (by rw[hw2];exact ht)
def q179:z.C P w 4 "many_lesser" pn17 (q178 K):=by
 have sc:=q352
 specialize z.d_many_lesser
 obtain⟨ga,wy,xs,L,o,gs,rfl,hga,hg,hgd,hl,hwy,h0,h1,q⟩:=h
 refine⟨_,(q12 (pst 2 sc.nd q13)
 (q12 (pst 3 sc.nd (pv 0))
 (q12 (q61 PassesOwn.never rfl (q557 (pv 1)) (pgn 4 sc.nd)
 (q12 (ps_if (q20 op_eq (pv 4) q13 (q19 _))
 (q15 (pst 2 sc.nd (pe_op q30 (pv 2) (pfn (q31 z) hr (pa1 (pfn (q123 z) hr (pa2 (pv 3) (q29 (pa1 q13)))))))))
 q21)
 (q15 (pst 3 sc.nd (pfn (q123 z) hr (pa2 (pv 3) (q29 (pa1 (pv 4)))))))))
 (q15 (q18 (pv 2)))))),?_⟩
 rw[<- q749 L o (Wh gs) h0 h1 (W_in hgd)]at q
 have hwl:=q162 L o
 have hw01:=q252 L o
 generalize wayW L o=ws at *
 exists _,rfl
 refine⟨_,rfl,wy,rfl,⟨_,hwy⟩,q408 (K:=K) (a:=wy) (xs:=ws.map V.int) (λi σ H2=>∃(m:Int)(pa:Addr)(zs:List V)(gs':List G3)(v4:Option V),σ=[some (.ref ga),some (.ref wy),some (.int m),some (.ref pa),v4]/\Same H H2/\SqL K H2 pa zs/\GatAt H2 (L-i) zs gs'/\(∀ g∈gs',GoodS (L-i) g)/\gs'.length<=100/\i<=ws.length/\mlF L ws (Wh gs)=m+mlF (L-i) (ws.drop i) (Wh gs'))
  ⟨0,ga,xs,gs,none,rfl,Same.refl H,hga,hg,hgd,hl,WA _,by rw[drop_zero,Int.zero_add];rfl⟩ (λi σ H2 _ ⟨_,_,_,_,_,_,s2,_⟩=>s2.seqT hwy) ?_ ?_⟩
 ·rintro i x σ H2 hi ⟨m,pa,zs,gs',v4,rfl,s2,hpa,hg',hgd',hl',hil,hm⟩
  obtain⟨wv,hwv,rfl⟩:∃ t,ws[i]? = some t/\x = .int t:=by
   rw[WH]at hi
   cases e:ws[i]? with
   | none=>rw[e]at hi;cases hi
   | some m=>rw[e]at hi;exact⟨m,rfl,(Option.some.inj hi).symm⟩
  have hil2:i<ws.length:=(eA hwv).1
  have hv01:=hw01 wv (WY hwv)
  obtain⟨e,he⟩:∃ e,L-i=e+1:=⟨L-i-1,{}⟩
  have he2:L-(i+1)=e:={}
  rw[he]at hg' hgd' hm
  rw[q494 hwv,mlF]at hm
  have el:∀ w:Int,gs'.map (ledS (e+1) [w])=gs'.map (led1 e w):=λw=>YK λg _=>by rw[q57,q45]
  have good1:∀ w,∀ g∈gs'.map (led1 e w),GoodS e g:=λw g hg=>by
   obtain⟨g',hg',rfl⟩:=eE hg
   exact q87 (hgd' g' hg')
  have step:∀(H3:Hp),Same H2 H3 -> ∀(m':Int),mlF L ws (Wh gs)=m'+mlF e (ws.drop (i+1)) (halfO e wv (Wh gs'))->True:=λ_ _ _ _=>trivial
  exists _,rfl,rfl,_,rfl
  rcases hv01 with rfl | rfl
  ·refine ite2 (λc=>absurd (V.int.inj (ZE c)) ∅) (λ_=>?_)
   rw[ZI ∅,Int.zero_add]at hm
   refine⟨_,rfl,_,rfl,szb rfl,λw1 hw1=>?_⟩
   have s3:=q17 hw1 (.tup [V.int 0])
   have hw1':upd H2 w1 (.tup [V.int 0]) w1=some (.tup [V.int 0]):=q14
   generalize upd H2 w1 (.tup [V.int 0])=H3 at *
   refine⟨pa,w1,zs,e+1,[0],gs',rfl,s3.seq hpa,hg'.same s3,hgd',(W26 hl'),SqT.of hw1',by simp,(λx hx=>by rw[eD hx];exact .inl rfl),λH4 D4 z4 s4 hD4 hD4n hg4=>?_⟩
   rw[el]at hg4
   exact⟨m,D4,z4,_,_,rfl,s2.trans (s3.trans s4),SqL.of hD4,by rw[he2];exact hg4,by rw[he2];exact good1 0,by rw[ZJ];exact hl',{},by rw[he2,W_led hgd'];exact hm⟩
  ·refine ite2 (λ_=>?_) (λc=>absurd (ZA rfl) c)
   rw[ZL rfl]at hm
   refine⟨_,rfl,_,rfl,szb rfl,λw0 hw0=>?_⟩
   have s3:=q17 hw0 (.tup [V.int 0])
   have hw0':upd H2 w0 (.tup [V.int 0]) w0=some (.tup [V.int 0]):=q14
   generalize upd H2 w0 (.tup [V.int 0])=H3 at *
   refine⟨pa,w0,zs,e+1,[0],gs',rfl,s3.seq hpa,hg'.same s3,hgd',{},SqT.of hw0',by simp,(λx hx=>by rw[eD hx];exact .inl rfl),λH4 D4 z4 s4 hD4 hD4n hg4=>?_⟩
   rw[el]at hg4
   refine⟨D4,z4,e,_,rfl,SqL.of hD4,hg4,by rw[ZJ];lia,λH5 s5=>⟨_,_,rfl,rfl,?_⟩⟩
   have s25:=(s3.trans s4).trans s5
   refine⟨_,rfl,_,rfl,szb rfl,λw1 hw1=>?_⟩
   have s6:=q17 hw1 (.tup [V.int 1])
   have hw1':upd H5 w1 (.tup [V.int 1]) w1=some (.tup [V.int 1]):=q14
   generalize upd H5 w1 (.tup [V.int 1])=H6 at *
   have s26:=s25.trans s6
   refine⟨pa,w1,zs,e+1,[1],gs',rfl,s26.seq hpa,hg'.same s26,hgd',{},SqT.of hw1',by simp,(λx hx=>by rw[eD hx];exact .inr rfl),λH7 D7 z7 s7 hD7 hD7n hg7=>?_⟩
   rw[el]at hg7
   exists _,D7,z7,_,_,rfl,s2.trans (s26.trans s7),SqL.of hD7,by rw[he2];exact hg7,by rw[he2];exact good1 1,by rw[ZJ];exact hl',{}
   rw[he2,W_led hgd',q72 (good1 0),W_led hgd',hm]
   lia
 ·rintro σ H2 ⟨m,pa,zs,gs',v4,rfl,s2,hpa,hg',hgd',hl',hil,hm⟩
  rw[ZJ,drop_length]at hm
  have e0:mlF (L-ws.length) [] (Wh gs')=0:=by cases L-ws.length <;> rfl
  rw[e0,Int.add_zero]at hm
  rw[hm]at q
  exact⟨_,rfl,q H2 s2⟩
def q224:z.C P w 5 "below" pn0 (q595 K):=by
 have sc:=sc_below
 specialize z.d_below
 obtain⟨b,ga,xs,low,num,L,gs,rfl,hb,hL,hga,hg,hgd,hl,q⟩:=h
 refine⟨_,(q12 (pst 3 sc.nd (pfn (q433 z) hr (pa2 (pv 0) (pv 2))))
 (q12 (ps_if (q20 op_eq (pv 3) q51 (q19 _))
 (q15 (q18 q13))
 q21)
 (q12 (ps_if (q20 op_eq (pv 3) q51 (q19 _))
 (q15 (q18 (pfn (q31 z) hr (pa1 (pv 1)))))
 q21)
 (q15 (q18 (pfn (q179 z) hr (pa2 (pv 1) (pfn (q750 z) hr (pa2 (pv 0) (pv 2)))))))))),?_⟩
 have hin:=W_in hgd
 have hp:=p2pos L
 exists _,rfl,_,rfl,b,low,num,L,rfl,hb,hL
 unfold q328
 by_cases c1:num<low
 ·rw[ZL c1]
  refine⟨_,rfl,rfl,_,rfl,ite2 (λ_=>?_) (λc=>absurd (ZA rfl) c)⟩
  have e0:(Wh gs).countP (λx=>decide (x<num-low))=0:=List.countP_eq_zero.mpr λx hx=>by
   have:=hin x hx
   simp
   lia
  rw[e0]at q
  exact q H (Same.refl H)
 rw[ZI c1]
 by_cases c2:low+2^L-1<num
 ·rw[ZL c2]
  refine⟨_,rfl,rfl,_,rfl,ite2 (λc=>absurd (ZE c) ∅) (λ_=>?_)⟩
  refine⟨_,rfl,rfl,_,rfl,ite2 (λ_=>?_) (λc=>absurd (ZA rfl) c)⟩
  have e0:(Wh gs).countP (λx=>decide (x<num-low))=(Wh gs).length:=List.countP_eq_length.mpr λx hx=>by
   have:=hin x hx
   exact ZA {}
  rw[e0]at q
  refine⟨_,rfl,ga,xs,L,gs,rfl,hga,hg,(W26 hl),λH1 s1=>?_⟩
  rw[q72 hgd]
  exact q H1 s1
 rw[ZI c2]
 refine⟨_,rfl,rfl,_,rfl,ite2 (λc=>absurd (ZE c) ∅) (λ_=>?_)⟩
 refine⟨_,rfl,rfl,_,rfl,ite2 (λc=>absurd (ZE c) ∅) (λ_=>?_)⟩
 refine⟨_,rfl,_,rfl,_,rfl,b,low,num,L,rfl,hb,hL,⟨(W22 c1),(W154 c2)⟩,λt H1 s1 ht=>?_⟩
 exact⟨ga,t,xs,L,num-low,gs,rfl,s1.seq hga,hg.same s1,hgd,hl,ht.sq,{},{},λH2 s2=>q H2 (s1.trans s2)⟩
def q658:z.C P w 6 "between" pn19 (q395 K):=by
 have sc:=q651
 specialize z.d_between
 obtain⟨b,ga,xs,low,lo,hi,L,gs,rfl,hb,hL,hga,hg,hgd,hl,q⟩:=h
 refine⟨_,(q12 (ps_if (q20 op_gt (pv 2) (pv 3) (q19 _))
 (q15 (q18 q13))
 q21)
 (q15 (q18 (pe_op q74 (pfn (q224 z) hr (pa3 (pv 0) (pv 1) (pe_op q30 (pv 3) q13))) (pfn (q224 z) hr (pa3 (pv 0) (pv 1) (pv 2))))))),?_⟩
 exists _,rfl,_,rfl,_,_,rfl,rfl,_,rfl
 refine ite2 (λc=>?_) (λc=>?_)
 ·have c':=ZE c
  have e0:(Wh gs).countP (btw low lo hi)=0:=List.countP_eq_zero.mpr λx hx=>by
   unfold btw
   simp
   lia
  rw[e0]at q
  exact q H (Same.refl H)
 ·have c':¬ hi<lo:=λz=>c (ZA z)
  refine⟨_,rfl,_,rfl,_,rfl,_,_,rfl,rfl,b,ga,xs,low,hi+1,L,gs,rfl,hb,hL,hga,hg,hgd,hl,λH1 s1=>?_⟩
  refine⟨_,rfl,_,rfl,_,rfl,b,ga,xs,low,lo,L,gs,rfl,s1.seqT hb,hL,s1.seq hga,hg.same s1,hgd,hl,λH2 s2=>⟨_,_,rfl,rfl,?_⟩⟩
  have q':=q H2 (s1.trans s2)
  have e0:=q334 (low:=low) (show lo<=hi by lia) (Wh gs)
  have e1:(((Wh gs).countP (λx=>decide (x<hi+1-low)):Nat):Int)-(((Wh gs).countP (λx=>decide (x<lo-low)):Nat):Int)=(((Wh gs).countP (btw low lo hi):Nat):Int):={}
  rw[<- e1]at q'
  exact q'
theorem q292:∀(e:Nat)(l o:Int),0<=o->o<2^e->(wayW e o).foldl stS (l,2^e)=(l+o,1)
 | 0,l,o,h0,h1=>by
  have e1:o=0:=by
   have z:(2:Int)^0=1:=rfl
   lia
  rw[e1,Int.add_zero]
  rfl
 | e+1,l,o,h0,h1=>by
  have p:=pow2 e
  have q:=q437 e
  by_cases h:o<2^e
  ·rw[q149 h,foldl_cons]
   have z:stS (l,2^(e+1)) 0=(l,2^e):=by unfold stS;rw[ZI ∅];simp only[q]
   rw[z]
   exact q292 e l o h0 h
  ·rw[q150 h,foldl_cons]
   have z:stS (l,2^(e+1)) 1=(l+2^e,2^e):=by unfold stS;rw[ZL rfl];simp only[q]
   rw[z,q292 e (l+2^e) (o-2^e) {} {}]
   congr 1
   lia
noncomputable def kth:Nat->List Int->Nat->Int
 | 0,_,_=>0
 | e+1,us,k=>if k<(halfO e 0 us).length then kth e (halfO e 0 us) k else 2^e+kth e (halfO e 1 us) (k-(halfO e 0 us).length)
def q596{e:Nat}{k:Nat}(h:k<(halfO e 0 us).length):kth (e+1) us k=kth e (halfO e 0 us) k:=by rw[kth,ZL h]
def q597{e:Nat}{k:Nat}(h:¬ k<(halfO e 0 us).length):kth (e+1) us k=2^e+kth e (halfO e 1 us) (k-(halfO e 0 us).length):=by rw[kth,ZI h]
theorem q116:∀(e:Nat)(us:List Int)(k:Nat),0<=kth e us k/\kth e us k<2^e
 | 0,us,k=>⟨Int.le_refl _,(by decide:(0:Int)<2^0)⟩
 | e+1,us,k=>by
  have hp:=pow2 e
  have h2:=p2pos e
  by_cases c:k<(halfO e 0 us).length
  ·rw[q596 c]
   have:=q116 e (halfO e 0 us) k
   lia
  ·rw[q597 c]
   have:=q116 e (halfO e 1 us) (k-(halfO e 0 us).length)
   lia
def wayW_lo{e:Nat}{k:Nat}(h:k<(halfO e 0 us).length):wayW (e+1) (kth (e+1) us k)=0::wayW e (kth e (halfO e 0 us) k):=by
 rw[q596 h]
 exact q149 (q116 e _ k).2
def wayW_hi{e:Nat}{k:Nat}(h:¬ k<(halfO e 0 us).length):wayW (e+1) (kth (e+1) us k)=1::wayW e (kth e (halfO e 1 us) (k-(halfO e 0 us).length)):=by
 rw[q597 h,q150 (by have:=(q116 e (halfO e 1 us) (k-(halfO e 0 us).length)).1;lia)]
 have:2^e+kth e (halfO e 1 us) (k-(halfO e 0 us).length)-2^e=kth e (halfO e 1 us) (k-(halfO e 0 us).length):=W6
 rw[this]
theorem q163{e:Nat}{us:List Int}(hin:InO (e+1) us)(o:Int):(o<=2^e->us.countP (λx=>decide (x<o))=(halfO e 0 us).countP (λx=>decide (x<o))) /\
  (2^e<=o->us.countP (λx=>decide (x<o))=(halfO e 0 us).length+(halfO e 1 us).countP (λx=>decide (x<o-2^e))):=by
 have l0:(halfO e 0 us).length=us.countP λx=>mk0 e x==0:=by
  unfold halfO
  rw[ZJ,YW]
 rw[l0,q80,q80]
 clear l0
 induction us with
 | nil=>exact⟨λ_=>rfl,λ_=>rfl⟩
 | cons x us ih=>
  obtain⟨i1,i2⟩:=ih λy hy=>hin y (ZX _ hy)
  have hx:=hin x WC
  rw[YI,YI,YI,YI]
  rcases mk0b e x with m | m
  ·have hm:=q147 hx.1 hx.2 m
   have hxl:x<2^e:=by
    unfold mk0 at m
    by_cases z:x<2^e
    ·exact z
    ·rw[ZI z]at m;lia
   have e1:x%2^e=x:=(W97 hm)
   rw[m,e1]
   refine⟨λh=>?_,λh=>?_⟩
   ·rw[i1 h];simp
   ·rw[i2 h]
    have:x<o:={}
    simp[this]
    exact W9
  ·have hm:=q147 hx.1 hx.2 m
   have hxg:¬ x<2^e:=by
    unfold mk0 at m
    intro z
    rw[ZL z]at m;lia
   rw[m]
   refine⟨λh=>?_,λh=>?_⟩
   ·rw[i1 h]
    have:¬ x<o:={}
    simp[this]
   ·rw[i2 h]
    by_cases z:x<o
    ·have z2:x%2^e<o-2^e:=(W167 z hm)
     simp[z,z2]
     exact W12
    ·have z2:¬ x%2^e<o-2^e:=(W187 hm z)
     simp[z,z2]
noncomputable abbrev ltC(us:List Int)(o:Int):Nat:=us.countP λx=>decide (x<o)
theorem q151:∀(e:Nat)(us:List Int)(k:Nat),InO e us->k<us.length->ltC us (kth e us k)<=k/\k<ltC us (kth e us k+1)
 | 0,us,k,hin,hk=>by
  have h0:us.countP (λx=>decide (x<(0:Int)))=0:=List.countP_eq_zero.mpr λx hx=>by have:=hin x hx;simp;lia
  have h1:us.countP (λx=>decide (x<(0:Int)+1))=us.length:=List.countP_eq_length.mpr λx hx=>by have:=hin x hx;simp at this;exact ZA {}
  show us.countP (λx=>decide (x<(0:Int)))<=k/\k<us.countP (λx=>decide (x<(0:Int)+1))
  lia
 | e+1,us,k,hin,hk=>by
  have hs:=q290 (e:=e) us
  by_cases c:k<(halfO e 0 us).length
  ·rw[q596 c]
   have r:=q116 e (halfO e 0 us) k
   obtain⟨i1,i2⟩:=q151 e (halfO e 0 us) k q48 c
   have e1:=(q163 hin (kth e (halfO e 0 us) k)).1 {}
   have e2:=(q163 hin (kth e (halfO e 0 us) k+1)).1 {}
   unfold ltC at *
   rw[e1,e2]
   exact⟨i1,i2⟩
  ·rw[q597 c]
   have r:=q116 e (halfO e 1 us) (k-(halfO e 0 us).length)
   obtain⟨i1,i2⟩:=q151 e (halfO e 1 us) (k-(halfO e 0 us).length) q48 (W87 hs hk c)
   have e1:=(q163 hin (2^e+kth e (halfO e 1 us) (k-(halfO e 0 us).length))).2 {}
   have e2:=(q163 hin (2^e+kth e (halfO e 1 us) (k-(halfO e 0 us).length)+1)).2 {}
   unfold ltC at *
   rw[e1,e2]
   have a1:2^e+kth e (halfO e 1 us) (k-(halfO e 0 us).length)-2^e=kth e (halfO e 1 us) (k-(halfO e 0 us).length):=W6
   have a2:2^e+kth e (halfO e 1 us) (k-(halfO e 0 us).length)+1-2^e=kth e (halfO e 1 us) (k-(halfO e 0 us).length)+1:={}
   rw[a1,a2]
   lia
def q129{a b:Int}(h:a<=b):ltC us a<=ltC us b:=countP_mono_left λx _ hx=>ZA (by have:=ZE hx;exact W177 this h)
def q130(us:List Int)(o:Int):ltC us (o+1)=ltC us o+us.count o:=by
 unfold ltC
 rw[YE]
 induction us with
 | nil=>rfl
 | cons x us ih=>
  rw[YI,YI,YI,ih]
  by_cases c1:x<o
  ·have c2:x<o+1:=(W139 c1)
   have c3:¬ x=o:={}
   simp only[ZA c1,ZA c2,if_true,show(x==o)=false from beq_eq_false_iff_ne.mpr c3]
   simp
   exact W9
  ·by_cases c3:x=o
   ·have c2:x<o+1:=(W160 c3)
    simp only[ZN c1,ZA c2,show(x==o)=true from beq_iff_eq.mpr c3]
    simp
    exact W12
   ·have c2:¬ x<o+1:={}
    simp[c1,c2,c3]
noncomputable def sumF:Nat->Int->List Int->Nat->Int
 | 0,least,_,k=>least*(k:Int)
 | e+1,least,us,k=>sumF e least (halfO e 0 us) (min k (halfO e 0 us).length)+sumF e (least+2^e) (halfO e 1 us) (k-min k (halfO e 0 us).length)
theorem q335:∀(e:Nat)(least:Int)(us:List Int)(k:Nat),sumF e least us (k+1)-sumF e least us k=least+kth e us k
 | 0,least,us,k=>by
  show least*((k+1:Nat):Int)-least*(k:Int)=least+0
  rw[Int.natCast_add,Int.mul_add]
  simp
  exact W6
 | e+1,least,us,k=>by
  show(sumF e least (halfO e 0 us) (min (k+1) _)+sumF e (least+2^e) (halfO e 1 us) (k+1-min (k+1) _))-(sumF e least (halfO e 0 us) (min k _)+sumF e (least+2^e) (halfO e 1 us) (k-min k _))=_
  by_cases c:k<(halfO e 0 us).length
  ·rw[q596 c,WN (W21 c),WN (W18 c),Nat.sub_self,Nat.sub_self]
   have:=q335 e least (halfO e 0 us) k
   lia
  ·rw[q597 c,Nat.min_eq_right {},Nat.min_eq_right (W17 c)]
   have e1:k+1-(halfO e 0 us).length=(k-(halfO e 0 us).length)+1:={}
   rw[e1]
   have:=q335 e (least+2^e) (halfO e 1 us) (k-(halfO e 0 us).length)
   lia
theorem q225:∀(e:Nat)(least:Int)(us:List Int),sumF e least us 0=0
 | 0,least,us=>by show least*0=0;exact W109
 | e+1,least,us=>by
  show sumF e least (halfO e 0 us) (min 0 _)+sumF e (least+2^e) (halfO e 1 us) (0-min 0 _)=0
  rw[Nat.zero_min,Nat.sub_zero,q225 e,q225 e]
  rfl
theorem q293:∀(L:Nat)(o:Int)(gs:List G3),0<=o->o<2^L->(∀ g∈gs,GoodS L g)->manyG (gs.map (ledS L (wayW L o)))=((Wh gs).count o:Nat)
 | 0,o,gs,h0,h1,hg=>by
  have e0:gs.map (ledS 0 (wayW 0 o))=gs:=by
   have:∀ g∈gs,ledS 0 (wayW 0 o) g=id g:=λg _=>q45 0 g
   rw[YK this,map_id]
  rw[e0,q72 hg]
  have ho:o=0:=by have:(2:Int)^0=1:=rfl;lia
  have hin:=W_in hg
  rw[ho,List.count_eq_length.mpr λb hb=>by have:=hin b hb;simp at this;lia]
 | e+1,o,gs,h0,h1,hg=>by
  have hp:=pow2 e
  have good1:∀ w,∀ g∈gs.map (led1 e w),GoodS e g:=λw g hg'=>by
   obtain⟨g',hg2,rfl⟩:=eE hg'
   exact q87 (hg g' hg2)
  have em:∀(w:Int)(ws:List Int),gs.map (ledS (e+1) (w::ws))=(gs.map (led1 e w)).map (ledS e ws):=λw ws=>by
   rw[map_map]
   exact YK λg _=>q57 e w ws g
  by_cases c:o<2^e
  ·rw[q149 c,em,q293 e o _ h0 c (good1 0),W_led hg,q102 (W_in hg) (.inl rfl) h0 c]
   have:o+0*2^e=o:={}
   rw[this]
  ·rw[q150 c,em,q293 e (o-2^e) _ {} {} (good1 1),W_led hg,q102 (W_in hg) (.inr rfl) {} {}]
   have:o-2^e+1*2^e=o:={}
   rw[this]
noncomputable def stp(L:Nat)(low:Int)(us:List Int):List P2:=caF 1 0 L low us
def q659{ss:List P2}(hs:ss.Pairwise λp q=>p.1<q.1){p:P2}(hp:p∈ss)(hf:f p=true)(hl:∀ q∈ss,f q=true->p.1<=q.1):ss.find? f=some p:=by
 induction ss with
 | nil=>cases hp
 | cons x ss ih=>
  rw[find?_cons]
  cases hx:f x with
  | true=>
   rcases eB hp with rfl | hp'
   ·rfl
   ·have h1:=(List.pairwise_cons.mp hs).1 p hp'
    have h2:=hl x WC hx
    exact(W205 h2 h1).elim
  | false=>
   rcases eB hp with rfl | hp'
   ·rw[hf]at hx;cases hx
   ·exact ih (List.pairwise_cons.mp hs).2 hp' λq hq=>hl q (ZX _ hq)
def q598(us:List Int)(o:Int):ltC us o<=us.length:=countP_le_length
def up_find{L:Nat}{low num:Int}{us:List Int}(hin:InO L us) :
  (ltC us (num+1-low)=us.length->(stp L low us).find? (λq=>decide (num<q.1))=none) /\
  (ltC us (num+1-low)≠us.length->(stp L low us).find? (λq=>decide (num<q.1))=some ((low+kth L us (ltC us (num+1-low)),((us.count (kth L us (ltC us (num+1-low))):Nat):Int)):P2)):=by
 have hle:=q598 us (num+1-low)
 constructor
 ·intro h
  rw[find?_eq_none]
  intro q hq hf
  have r:=q273 hin hq
  have hm:q.1-low∈us:=List.count_pos_iff.mp (W184 r)
  have:=List.countP_eq_length.mp h _ hm
  have:=ZE this
  have:=ZE hf
  lia
 ·intro h
  have hk:ltC us (num+1-low)<us.length:={}
  obtain⟨c1,c2⟩:=q151 L us _ hin hk
  have r:=q116 L us (ltC us (num+1-low))
  generalize hko:kth L us (ltC us (num+1-low))=o at *
  have hge:num+1-low<=o:=by
   apply Classical.byContradiction
   intro c
   have:=q129 (us:=us) (show o+1<=num+1-low by lia)
   lia
  rw[q130]at c2
  have hcnt:0<us.count o:=by
   have:=q129 (us:=us) hge
   lia
  refine q659 (f:=λq=>decide (num<q.1)) (q251 L low us hin) ((q272 L low us hin _ _).mpr ⟨by rw[show low+o-low=o by exact W6],(W183 hcnt)⟩) (ZA (by show num<low+o;lia)) (λq hq hf=>?_)
  show low+o<=q.1
  have rq:=q273 hin hq
  have hf':=ZE hf
  apply Classical.byContradiction
  intro c
  have h1:=q129 (us:=us) (show num+1-low<=q.1-low by lia)
  have h2:=q129 (us:=us) (show q.1-low+1<=o by lia)
  rw[q130]at h2
  have:0<us.count (q.1-low):=(W184 rq)
  lia
def q751{L:Nat}{low num:Int}{us:List Int}(hin:InO L us) :
  (ltC us (num-low)=0->(stp L low us).reverse.find? (λq=>decide (q.1<num))=none) /\
  (ltC us (num-low)≠0->(stp L low us).reverse.find? (λq=>decide (q.1<num))=some ((low+kth L us (ltC us (num-low)-1),((us.count (kth L us (ltC us (num-low)-1)):Nat):Int)):P2)):=by
 have hle:=q598 us (num-low)
 constructor
 ·intro h
  rw[find?_eq_none]
  intro q hq hf
  have r:=q273 hin (List.mem_reverse.mp hq)
  have hm:q.1-low∈us:=List.count_pos_iff.mp {}
  have:=List.countP_eq_zero.mp h _ hm
  have h2:=ZE hf
  exact this (ZA {})
 ·intro h
  have hk:ltC us (num-low)-1<us.length:={}
  obtain⟨c1,c2⟩:=q151 L us _ hin hk
  have r:=q116 L us (ltC us (num-low)-1)
  generalize hko:kth L us (ltC us (num-low)-1)=o at *
  have hlt:o<num-low:=by
   apply Classical.byContradiction
   intro c
   have:=q129 (us:=us) (show num-low<=o by lia)
   lia
  rw[q130]at c2
  have hcnt:0<us.count o:={}
  have hmem:((low+o,((us.count o:Nat):Int)):P2)∈stp L low us:=(q272 L low us hin _ _).mpr ⟨by rw[show low+o-low=o by lia],{}⟩
  have key:∀{ss:List P2},ss.Pairwise (λp q=>p.1 > q.1) -> ∀{p:P2}{f:P2->Bool},p∈ss->f p=true->(∀ q∈ss,f q=true->q.1<=p.1)->ss.find? f=some p:=by
   intro ss
   induction ss with
   | nil=>intro _ p f hp;cases hp
   | cons x ss ih=>
    intro hs p f hp hf hl
    rw[find?_cons]
    cases hx:f x with
    | true=>
     rcases eB hp with rfl | hp'
     ·rfl
     ·have h1:=(List.pairwise_cons.mp hs).1 p hp'
      have h2:=hl x WC hx
      exact(W156 h1 h2).elim
    | false=>
     rcases eB hp with rfl | hp'
     ·rw[hf]at hx;cases hx
     ·exact ih (List.pairwise_cons.mp hs).2 hp' hf λq hq=>hl q (ZX _ hq)
  refine key (f:=λq=>decide (q.1<num)) (List.pairwise_reverse.mpr (q251 L low us hin)) (List.mem_reverse.mpr hmem) (ZA (by show low+o<num;lia)) (λq hq hf=>?_)
  show q.1<=low+o
  have rq:=q273 hin (List.mem_reverse.mp hq)
  have hf':=ZE hf
  apply Classical.byContradiction
  intro c
  have h1:=q129 (us:=us) (show o+1<=q.1-low by lia)
  have h2:=q129 (us:=us) (show q.1-low+1<=num-low by lia)
  rw[q130]at h2
  rw[q130]at h1
  have:0<us.count (q.1-low):={}
  lia
abbrev q226:Nat:=1
abbrev q502:Nat:=40
inductive q253(u0:Fg)(e:Nat)(vs:List V)(H:Hp)(Q:VK)(E:XK):Prop
 |mk(v:V)(wy:Addr)(k i:Nat)(L:Nat)(os ws:List Int)(_:vs=[v,.ref wy,.int (k:Int)])(_:q35 H v (growO L os))(_:TupF H wy (ws.map V.int))(_:ws.length=e)(_:e<=L)(_:B01 ws)(_:InO L os)(_:(spots L os ws)[k]? = some i)(_:∀ H',Same H H'->Q (.int (i:Int)) H')
def q752(K:Fg):Sp:=λvs H Q E=>∃ e,e<=q502/\q253 K e vs H Q E
def cut_tail(w:Int)(ws:List Int):cutV ((w::ws).map V.int) (some 1) none=ws.map V.int:=by
 unfold cutV
 have e1:HT.sIx ((w::ws).map V.int).length 0 (some 1)=1:=by
  rw[ZJ,WX]
  simp[HT.sIx]
  try lia
 rw[e1,HT.q788,map_cons,drop_succ_cons,drop_zero,WX,Nat.add_sub_cancel]
 exact YQ
inductive q227(K:Fg)(vs:List V)(H:Hp)(Q:VK)(E:XK):Prop
 |mk(ga:Addr)(xs:List V)(L k:Nat)(gs:List G3)(_:vs=[.int (L:Int),.ref ga,.int (k:Int)])(_:L<=40)(_:H ga=some (.lst xs))(_:GatAt H L xs gs)(_:(∀ g∈gs,GoodS L g))(_:gs.length<=100)(_:(Wh gs).length<=900)(_:k<(Wh gs).length)(_:∀ t H',Same H H'->TupF H' t ((wayW L (kth L (Wh gs) k)).map V.int)->Q (.ref t) H')
inductive q180(K:Fg)(vs:List V)(H:Hp)(Q:VK)(E:XK):Prop
 |mk(b ga:Addr)(xs:List V)(low:Int)(L k:Nat)(gs:List G3)(_:vs=[.ref b,.ref ga,.int (k:Int)])(_:SqT K H b [.int low,.int (L:Int)])(_:L<=40)(_:H ga=some (.lst xs))(_:GatAt H L xs gs)(_:(∀ g∈gs,GoodS L g))(_:gs.length<=100)(_:(Wh gs).length<=900)(_:k<(Wh gs).length)(_:∀ v H',Same H H'->PsR H' v (low+kth L (Wh gs) k,(((Wh gs).count (kth L (Wh gs) k):Nat):Int))->Q v H')
def NxV(H:Hp)(v:V):Option P2->Prop
 | none=>v = .non
 | some p=>PsR H v p
inductive q396(K:Fg)(vs:List V)(H:Hp)(Q:VK)(E:XK):Prop
 |mk(b ga:Addr)(xs:List V)(low num:Int)(L:Nat)(gs:List G3)(_:vs=[.ref b,.ref ga,.int num])(_:SqT K H b [.int low,.int (L:Int)])(_:L<=40)(_:H ga=some (.lst xs))(_:GatAt H L xs gs)(_:(∀ g∈gs,GoodS L g))(_:gs.length<=100)(_:(Wh gs).length<=900)(_:∀ v H',Same H H'->NxV H' v ((stp L low (Wh gs)).find? λq=>decide (num<q.1))->Q v H')
inductive q274(K:Fg)(vs:List V)(H:Hp)(Q:VK)(E:XK):Prop
 |mk(b ga:Addr)(xs:List V)(low num:Int)(L:Nat)(gs:List G3)(_:vs=[.ref b,.ref ga,.int num])(_:SqT K H b [.int low,.int (L:Int)])(_:L<=40)(_:H ga=some (.lst xs))(_:GatAt H L xs gs)(_:(∀ g∈gs,GoodS L g))(_:gs.length<=100)(_:(Wh gs).length<=900)(_:∀ v H',Same H H'->NxV H' v ((stp L low (Wh gs)).reverse.find? λq=>decide (q.1<num))->Q v H')
abbrev q81:Nat:=3
abbrev q336:Nat:=40
inductive q152(K:Fg)(e:Nat)(vs:List V)(H:Hp)(Q:VK)(E:XK):Prop
 |mk(least:Int)(pa:Addr)(xs:List V)(k:Nat)(gs:List G3)(_:vs=[.int least,.int (2^e),.ref pa,.int (k:Int)])(_:SqL K H pa xs)(_:GatAt H e xs gs)(_:(∀ g∈gs,GoodS e g))(_:gs.length<=100)(_:k<=900)(_:∀ H',Same H H'->Q (.int (sumF e least (Wh gs) k)) H')
def q539(K:Fg):Sp:=λvs H Q E=>∃ e,e<=q336/\q152 K e vs H Q E
inductive q153(K:Fg)(vs:List V)(H:Hp)(Q:VK)(E:XK):Prop
 |mk(b ga:Addr)(xs:List V)(low:Int)(L k:Nat)(gs:List G3)(_:vs=[.ref b,.ref ga,.int (k:Int)])(_:SqT K H b [.int low,.int (L:Int)])(_:L<=40)(_:SqL K H ga xs)(_:GatAt H L xs gs)(_:(∀ g∈gs,GoodS L g))(_:gs.length<=100)(_:(Wh gs).length<=900)(_:k<=(Wh gs).length)(_:∀ H',Same H H'->Q (.int (sumF L low (Wh gs) k)) H')
def q753:z.C P w 42 "lifted" ["tree", "way", "place"] (q752 K):=by
 have sc:=q735
 refine z.d_lifted.recur (k:=q226) (sp:=q253 K) q502 λe hen c_lifted f fd F=>F.k sc λ_ _ _ s H _ Q _ hr h=>?_
 obtain⟨v,wy,k,i,L,os,ws,rfl,ht,hw,hwl,heL,h01,hin,hi,q⟩:=h
 refine⟨_,(q12 (ps_if (q20 op_eq (pln z.len_ (pa1 (pv 1))) q13 (q19 _))
 (q12 (ps_if (PW.pt (pw_or (q20 op_lt (pv 2) q13 (q19 _)) (q138 (q20 op_ge (pv 2) (pe_fn (q654 z) (hr.mono (ZO (by decide:1<=q226) (WE _ _))) () (pa1 (pv 0))) (q19 _)))))
 (q15 q157)
 q21)
 (q15 (q18 (pv 2))))
 q21)
 (q12 (pst 3 sc.nd (pe_fn c_lifted (hr.mono (ZG _)) () (pa3 (pe_fn (q388 z) (hr.mono (ZO (by decide:1<=q226) (WE _ _))) () (pa2 (pv 0) (pix q24 (pv 1) q13))) (q108 q520 (pv 1) (q77 q13) q516) (pv 2))))
 (q15 (q18 (pe_fn (q537 z) (hr.mono (ZO (by decide:1<=q226) (WE _ _))) () (pa3 (pix q24 (pv 0) q13) (pix q24 (pv 1) q13) (pv 3))))))),?_⟩
 exists _,rfl,wy,_,rfl,.inr hw.sq,rfl,_,rfl
 cases ws with
 | nil=>
  refine ite2 (λ_=>?_) (λc=>absurd (ZA rfl) c)
  rw[q536]at hi
  have hk:k<os.length:=by
   have:=(eA hi).1
   rwa [length_range]at this
  rw[getElem?_range hk]at hi
  cases hi
  exists _,rfl,_,_,rfl,rfl,_,rfl
  refine ite2 (λc=>absurd (ZE c) W81) (λ_=>?_)
  exists _,rfl,_,rfl,v,_,rfl,ht,_,_,rfl,rfl,_,rfl
  rw[q656]
  refine ite2 (λc=>absurd (ZE c) {}) (λ_=>?_)
  exact⟨_,rfl,q H (Same.refl H)⟩
 | cons w0 ws=>
  refine ite2 (λc=>?_) (λ_=>?_)
  ·exfalso
   have:=V.int.inj (ZE c)
   rw[ZJ,WX]at this
   lia
  obtain⟨e',rfl⟩:∃ e',e=e'+1:=⟨ws.length,by rw[<- hwl];rfl⟩
  obtain⟨L',rfl⟩:∃ L',L=L'+1:=⟨L-1,{}⟩
  have hw0:w0=0\/w0=1:=h01 w0 (WC ..)
  have h01':B01 ws:=λm hm=>h01 m (ZX _ hm)
  have hwl':ws.length=e':=by rw[WX]at hwl;lia
  have h0at:atI ((w0::ws).map V.int) 0=some (.int w0):=by
   show atI _ ((0:Nat):Int)=_
   exact q44 rfl
  have hdn:=q657 (w:=w0) (ws:=ws) hin k
  rw[hi]at hdn
  cases hi2:(spots L' (halfO L' w0 os) ws)[k]? with
  | none=>rw[hi2,Option.bind_none]at hdn;cases hdn
  | some i2=>
   rw[hi2,Option.bind_some]at hdn
   refine⟨_,rfl,_,rfl,wy,_,_,_,rfl,rfl,hw.sq,h0at,v,_,w0,rfl,ht,hw0,λu hu=>?_⟩
   rw[q390 hin hw0]at hu
   refine⟨_,rfl,1,rfl,wy,_,rfl,hw,λw2 H1 s1 hw2=>⟨_,rfl,?_⟩⟩
   rw[cut_tail]at hw2
   refine⟨u,w2,k,i2,L',halfO L' w0 os,ws,rfl,hu.same s1,hw2,hwl',{},h01',q48,hi2,λH2 s2=>?_⟩
   have s02:=s1.trans s2
   have hne:os≠[]:=λz=>by
    rw[z]at hi2
    have e0:halfO L' w0 []=[]:=rfl
    rw[e0,q742]at hi2
    simp at hi2
   have ht2:=ht.same s02
   rw[q101 hne]at ht2
   obtain⟨a,m,x,y,rfl,ha,hm,_,_⟩:=ht2
   exact⟨_,rfl,a,_,_,_,rfl,rfl,SqT.of ha,rfl,_,rfl,wy,_,_,_,rfl,rfl,(hw.same s02).sq,h0at,_,rfl,m,os.map (mk0 L'),w0,(i2:Int),i,rfl,hm.sq,hdn.symm,λH3 s3=>q H3 (s02.trans s3)⟩
def q228:z.C P w 4 "way_of_nth" ["levels", "gathering", "k"] (q227 K):=by
 have sc:=q426
 specialize z.d_way_of_nth
 obtain⟨ga,xs,L,k,gs,rfl,hL,hga,hg,hgd,hl,hw9,hk,q⟩:=h
 refine⟨_,(q12 (pst 3 sc.nd (q32 q11))
 (q12 (pst 4 sc.nd (pv 1))
 (q12 (pst 5 sc.nd (pv 2))
 (q12 (q61 PassesOwn.never rfl (q41 rfl z.range_ (pa1 (pv 0))) (pgn 6 sc.nd)
 (q12 (pst 7 sc.nd (pfn (q31 z) hr (pa1 (pfn (q123 z) hr (pa2 (pv 4) (q29 (pa1 q13)))))))
 (q12 (pst 8 sc.nd (q555 (q20 op_lt (pv 5) (pv 7) (q19 _)) q13 q13))
 (q12 (pst 5 sc.nd (pe_op q74 (pv 5) (pe_op q84 (pv 8) (pv 7))))
 (q12 (pst 4 sc.nd (pfn (q123 z) hr (pa2 (pv 4) (q29 (pa1 (pv 8))))))
 (q15 (q75 (pe_bm WQ WS WT q42 (pv 3) (pa1 (pv 8))))))))))
 (q15 (q18 (q202 q193 () z.tuple_ q204 (pa1 (pv 3))))))))),?_⟩
 refine⟨szb rfl,λwl hwl=>?_⟩
 have s1:=q17 hwl (.lst [])
 have hwl1:=@q14 H wl (.lst [])
 generalize upd H wl (.lst [])=H1 at *
 have hgw:ga≠wl:=λz=>by rw[z,hwl]at hga;cases hga
 refine⟨_,rfl,_,rfl,_,rfl,(L:Int),rfl,(W116 hL),(W161 hL),q106 (n:=L) (λi σ H2=>∃(pa:Addr)(zs:List V)(gs':List G3)(k':Nat)(ws:List Int)(v6 v7 v8:Option V),σ=[some (.int (L:Int)),some (.ref ga),some (.int (k:Int)),some (.ref wl),some (.ref pa),some (.int (k':Int)),v6,v7,v8]/\Same H H2/\H2 wl=some (.lst (ws.map V.int))/\ws.length=i/\H2 pa=some (.lst zs)/\GatAt H2 (L-i) zs gs'/\(∀ g∈gs',GoodS (L-i) g)/\gs'.length<=100/\(Wh gs').length<=900/\k'<(Wh gs').length/\pa≠wl /\
   wayW L (kth L (Wh gs) k)=ws++wayW (L-i) (kth (L-i) (Wh gs') k')) ⟨ga,xs,gs,k,[],none,none,none,rfl,s1,hwl1,rfl,s1 _ _ hga,hg.same s1,hgd,hl,hw9,hk,hgw,rfl⟩ ?_ ?_⟩
 ·rintro i σ H2 hi ⟨pa,zs,gs',k',ws,v6,v7,v8,rfl,s2,hwl2,hwsl,hpa,hg',hgd',hl',hw9',hk',hpw,hway⟩
  obtain⟨e,he⟩:∃ e,L-i=e+1:=⟨L-i-1,(W4 hwsl hi)⟩
  have he2:L-(i+1)=e:=(W28 hwsl hi he)
  rw[he]at hg' hgd' hway
  have el:∀ w:Int,gs'.map (ledS (e+1) [w])=gs'.map (led1 e w):=λw=>YK λg _=>by rw[q57,q45]
  have good1:∀ w,∀ g∈gs'.map (led1 e w),GoodS e g:=λw g hg=>by
   obtain⟨g',hg',rfl⟩:=eE hg
   exact q87 (hgd' g' hg')
  have hsum:=q290 (e:=e) (Wh gs')
  have lenH:∀ w:Int,(halfO e w (Wh gs')).length<=900:=λw=>ZO q122 hw9'
  refine⟨_,rfl,szb rfl,λw0 hw0=>?_⟩
  have s3:=q17 hw0 (.tup [V.int 0])
  have hw0':upd H2 w0 (.tup [V.int 0]) w0=some (.tup [V.int 0]):=q14
  generalize upd H2 w0 (.tup [V.int 0])=H3 at *
  refine⟨pa,w0,zs,e+1,[0],gs',rfl,SqL.of (s3 _ _ hpa),hg'.same s3,hgd',(W26 hl'),SqT.of hw0',by simp,(λx hx=>by rw[eD hx];exact .inl rfl),λH4 D4 z4 s4 hD4 hD4n hg4=>?_⟩
  rw[el]at hg4
  refine⟨D4,z4,e,_,rfl,SqL.of hD4,hg4,by rw[ZJ];lia,λH5 s5=>?_⟩
  rw[q72 (good1 0),W_led hgd']
  have s25:=(s3.trans s4).trans s5
  exists _,rfl,_,rfl,_,_,rfl,rfl,_,rfl
  refine ite2 (λc=>?_) (λc=>?_)
  ·have c':k'<(halfO e 0 (Wh gs')).length:=by have:=ZE c;exact W172 this
   rw[wayW_lo c']at hway
   exists _,rfl,_,rfl,_,rfl,_,_,rfl,rfl,.inl ⟨∅,∅⟩,_,_,rfl,rfl
   refine⟨_,rfl,_,rfl,szb rfl,λw1 hw1=>?_⟩
   have s6:=q17 hw1 (.tup [V.int 0])
   have hw1':upd H5 w1 (.tup [V.int 0]) w1=some (.tup [V.int 0]):=q14
   generalize upd H5 w1 (.tup [V.int 0])=H6 at *
   have s26:=s25.trans s6
   refine⟨pa,w1,zs,e+1,[0],gs',rfl,SqL.of (s26 _ _ hpa),hg'.same s26,hgd',{},SqT.of hw1',by simp,(λx hx=>by rw[eD hx];exact .inl rfl),λH7 D7 z7 s7 hD7 hD7n hg7=>?_⟩
   rw[el]at hg7
   have s27:=s26.trans s7
   have hwl7:=s27 _ _ hwl2
   have hD7w:D7≠wl:=λz=>by rw[z,s26 _ _ hwl2]at hD7n;cases hD7n
   exists _,rfl,.inl ⟨rfl,_,SqL.of hwl7⟩,_,rfl,wl,_,_,rfl,rfl,hwl7,by rw[ZJ];exact q52 (W179 hwsl hi hL)
   have tk:TKeep H7 (upd H7 wl (.lst (ws.map V.int++[V.int 0]))):=.set hwl7
   exists D7,z7,gs'.map (led1 e 0),k',ws++[0],some (V.int (0+(i:Int))),some (V.int ((halfO e 0 (Wh gs')).length:Nat)),some (V.int 0),?_,q499 (s2.trans s27) hwl _,by rw[q14,WK];rfl,by rw[ZQ,hwsl];rfl,by rw[q27 hD7w];exact hD7,by rw[he2];exact hg7.tk tk,by rw[he2];exact good1 0,by rw[ZJ];exact hl',by rw[W_led hgd'];exact lenH 0,by rw[W_led hgd'];exact c',hD7w
   ·have:(k':Int)-0*((halfO e 0 (Wh gs')).length:Nat)=(k':Int):={}
    exact congrArg (λq:Int=>[some (V.int (L:Int)),some (V.ref ga),some (V.int (k:Int)),some (V.ref wl),some (V.ref D7),some (V.int q),some (V.int (0+(i:Int))),some (V.int ((halfO e 0 (Wh gs')).length:Nat)),some (V.int 0)]) this
   ·rw[hway,he2,W_led hgd',YF];rfl
  ·have c':¬ k'<(halfO e 0 (Wh gs')).length:=λz=>c (ZA (W91 z))
   rw[wayW_hi c']at hway
   exists _,rfl,_,rfl,_,rfl,_,_,rfl,rfl,.inl ⟨∅,∅⟩,_,_,rfl,rfl
   refine⟨_,rfl,_,rfl,szb rfl,λw1 hw1=>?_⟩
   have s6:=q17 hw1 (.tup [V.int 1])
   have hw1':upd H5 w1 (.tup [V.int 1]) w1=some (.tup [V.int 1]):=q14
   generalize upd H5 w1 (.tup [V.int 1])=H6 at *
   have s26:=s25.trans s6
   refine⟨pa,w1,zs,e+1,[1],gs',rfl,SqL.of (s26 _ _ hpa),hg'.same s26,hgd',{},SqT.of hw1',by simp,(λx hx=>by rw[eD hx];exact .inr rfl),λH7 D7 z7 s7 hD7 hD7n hg7=>?_⟩
   rw[el]at hg7
   have s27:=s26.trans s7
   have hwl7:=s27 _ _ hwl2
   have hD7w:D7≠wl:=λz=>by rw[z,s26 _ _ hwl2]at hD7n;cases hD7n
   exists _,rfl,.inl ⟨rfl,_,SqL.of hwl7⟩,_,rfl,wl,_,_,rfl,rfl,hwl7,by rw[ZJ];exact q52 {}
   have tk:TKeep H7 (upd H7 wl (.lst (ws.map V.int++[V.int 1]))):=.set hwl7
   exists D7,z7,gs'.map (led1 e 1),k'-(halfO e 0 (Wh gs')).length,ws++[1],some (V.int (0+(i:Int))),some (V.int ((halfO e 0 (Wh gs')).length:Nat)),some (V.int 1),?_,q499 (s2.trans s27) hwl _,by rw[q14,WK];rfl,by rw[ZQ,hwsl];rfl,by rw[q27 hD7w];exact hD7,by rw[he2];exact hg7.tk tk,by rw[he2];exact good1 1,by rw[ZJ];exact hl',by rw[W_led hgd'];exact lenH 1,by rw[W_led hgd'];exact W87 hsum hk' c',hD7w
   ·have:(k':Int)-1*((halfO e 0 (Wh gs')).length:Nat)=((k'-(halfO e 0 (Wh gs')).length:Nat):Int):={}
    exact congrArg (λq:Int=>[some (V.int (L:Int)),some (V.ref ga),some (V.int (k:Int)),some (V.ref wl),some (V.ref D7),some (V.int q),some (V.int (0+(i:Int))),some (V.int ((halfO e 0 (Wh gs')).length:Nat)),some (V.int 1)]) this
   ·rw[hway,he2,W_led hgd',YF];rfl
 ·rintro σ H2 ⟨pa,zs,gs',k',ws,v6,v7,v8,rfl,s2,hwl2,hwsl,hpa,hg',hgd',hl',hw9',hk',hpw,hway⟩
  rw[Nat.sub_self]at hway
  have hw2:wayW L (kth L (Wh gs) k)=ws:=by rw[hway];exact YN ws
  rw[hw2]at q
  exact⟨_,rfl,wl,_,rfl,SqL.of hwl2,λt H' s' ht=>q t H' (s2.trans s') ht⟩
def q181:z.C P w 5 "counted_nth" pn1 (q180 K):=by
 have sc:=q358
 specialize z.d_counted_nth
 obtain⟨b,ga,xs,low,L,k,gs,rfl,hb,hL,hga,hg,hgd,hl,hw9,hk,q⟩:=h
 refine⟨_,(q12 (pst 3 sc.nd (pfn (q228 z) hr (pa3 (pix q24 (pv 0) q13) (pv 1) (pv 2))))
 (q15 (q18 (q29 (pa2 (pix q24 (pfn (q394 z) hr (pa2 (pv 0) (pv 3))) q13) (pfn (q31 z) hr (pa1 (pfn (q123 z) hr (pa2 (pv 1) (pv 3)))))))))),?_⟩
 have r:=q116 L (Wh gs) k
 refine⟨_,rfl,b,_,_,_,rfl,rfl,hb,rfl,_,rfl,_,rfl,ga,xs,L,k,gs,rfl,hL,hga,hg,hgd,hl,hw9,hk,λt H1 s1 ht=>?_⟩
 generalize kth L (Wh gs) k=o at *
 refine⟨_,rfl,_,rfl,b,t,low,L,wayW L o,rfl,s1.seqT hb,hL,ht.sq,λp hp=>?_⟩
 have hsp:spanS low L (wayW L o)=(low+o,1):=q292 L low o r.1 r.2
 rw[hsp]
 have s2:=q17 hp (.tup [V.int (low+o),.int (low+o+1-1)])
 have hp2:=@q14 H1 p (.tup [V.int (low+o),.int (low+o+1-1)])
 dsimp only
 generalize upd H1 p (.tup [V.int (low+o),.int (low+o+1-1)])=H2 at *
 have s02:=s1.trans s2
 exists p,_,_,_,rfl,rfl,SqT.of hp2,rfl
 refine⟨_,rfl,_,rfl,ga,t,xs,L,wayW L o,gs,rfl,SqL.of (s02 _ _ hga),hg.same s02,hgd,(W26 hl),(ht.same s2).sq,by rw[q162];exact ZG _,q252 L o,λH3 D3 z3 s3 hD3 _ hg3=>?_⟩
 refine⟨D3,z3,_,_,rfl,SqL.of hD3,hg3,by rw[ZJ];lia,λH4 s4=>?_⟩
 rw[q293 L o gs r.1 r.2 hgd]
 exact⟨szb rfl,λv hv=>q _ _ (((s02.trans s3).trans s4).trans (q17 hv _)) ⟨v,rfl,q14⟩⟩
def q397:z.C P w 6 "next_up" pn0 (q396 K):=by
 have sc:=q653
 specialize z.d_next_up
 obtain⟨b,ga,xs,low,num,L,gs,rfl,hb,hL,hga,hg,hgd,hl,hw9,q⟩:=h
 refine⟨_,(q12 (pst 3 sc.nd (pfn (q224 z) hr (pa3 (pv 0) (pv 1) (pe_op q30 (pv 2) q13))))
 (q12 (ps_if (q20 op_eq (pv 3) (pfn (q31 z) hr (pa1 (pv 1))) (q19 _))
 (q15 (q18 q60))
 q21)
 (q15 (q18 (pfn (q181 z) hr (pa3 (pv 0) (pv 1) (pv 3))))))),?_⟩
 obtain⟨u1,u2⟩:=up_find (L:=L) (low:=low) (num:=num) (W_in hgd)
 have hle:=q598 (Wh gs) (num+1-low)
 refine⟨_,rfl,_,rfl,_,rfl,_,_,rfl,rfl,b,ga,xs,low,num+1,L,gs,rfl,hb,hL,SqL.of hga,hg,hgd,hl,λH1 s1=>?_⟩
 change ∀ v H',Same H H'->NxV H' v _->Q v H' at q
 refine⟨_,rfl,_,rfl,ga,xs,L,gs,rfl,SqL.of (s1 _ _ hga),hg.same s1,{},λH2 s2=>?_⟩
 rw[q72 hgd]
 exists rfl,_,rfl
 by_cases c:ltC (Wh gs) (num+1-low)=(Wh gs).length
 ·rw[u1 c]at q
  refine ite2 (λ_=>q .non H2 (s1.trans s2) rfl) (λc2=>absurd (ZA (by show V.int ((ltC (Wh gs) (num+1-low):Nat):Int)=_;rw[c])) c2)
 ·rw[u2 c]at q
  refine ite2 (λc2=>absurd (by have:=V.int.inj (ZE c2);unfold ltC;lia) c) (λ_=>?_)
  have s02:=s1.trans s2
  exact⟨_,rfl,_,rfl,_,rfl,b,ga,xs,low,L,ltC (Wh gs) (num+1-low),gs,rfl,s02.seqT hb,hL,s02 _ _ hga,hg.same s02,hgd,hl,hw9,(W15 hle c),λv H3 s3 hv=>q v H3 (s02.trans s3) hv⟩
def q503:z.C P w 6 "next_down" pn0 (q274 K):=by
 have sc:=q487
 specialize z.d_next_down
 obtain⟨b,ga,xs,low,num,L,gs,rfl,hb,hL,hga,hg,hgd,hl,hw9,q⟩:=h
 refine⟨_,(q12 (pst 3 sc.nd (pe_op q74 (pfn (q224 z) hr (pa3 (pv 0) (pv 1) (pv 2))) q13))
 (q12 (ps_if (q20 op_lt (pv 3) q13 (q19 _))
 (q15 (q18 q60))
 q21)
 (q15 (q18 (pfn (q181 z) hr (pa3 (pv 0) (pv 1) (pv 3))))))),?_⟩
 obtain⟨u1,u2⟩:=q751 (L:=L) (low:=low) (num:=num) (W_in hgd)
 have hle:=q598 (Wh gs) (num-low)
 refine⟨_,rfl,_,rfl,_,rfl,b,ga,xs,low,num,L,gs,rfl,hb,hL,SqL.of hga,hg,hgd,hl,λH1 s1=>⟨_,_,rfl,rfl,?_⟩⟩
 change ∀ v H',Same H H'->NxV H' v _->Q v H' at q
 exists _,rfl,_,_,rfl,rfl,_,rfl
 by_cases c:ltC (Wh gs) (num-low)=0
 ·rw[u1 c]at q
  exact ite2 (λ_=>q .non H1 s1 rfl) (λc2=>absurd (ZA (by show((ltC (Wh gs) (num-low):Nat):Int)-1<0;lia)) c2)
 ·rw[u2 c]at q
  refine ite2 (λc2=>absurd (show((ltC (Wh gs) (num-low):Nat):Int)-1<0 from ZE c2) {}) (λ_=>?_)
  refine⟨_,rfl,_,rfl,_,rfl,b,ga,xs,low,L,ltC (Wh gs) (num-low)-1,gs,?_,s1.seqT hb,hL,s1 _ _ hga,hg.same s1,hgd,hl,hw9,{},λv H3 s3 hv=>q v H3 (s1.trans s3) hv⟩
  exact congrArg (λq:Int=>[V.ref b,V.ref ga,V.int q]) (show((ltC (Wh gs) (num-low):Nat):Int)-1=((ltC (Wh gs) (num-low)-1:Nat):Int) by lia)
theorem q540:∀(L:Nat)(o x:Int),0<=o->o<2^L->0<=x->x<2^L->inW L x (wayW L o)=decide (x=o)
 | 0,o,x,h0,h1,h2,h3=>by
  have:(2:Int)^0=1:=rfl
  rw[ZA {}]
  rfl
 | e+1,o,x,h0,h1,h2,h3=>by
  have p:=pow2 e
  have hp:=p2pos e
  by_cases c:o<2^e
  ·rw[q149 c,q289 ⟨h2,h3⟩]
   rcases mk0b e x with m | m
   ·have mm:=q147 h2 h3 m
    have r0:=Int.emod_nonneg x (show(2:Int)^e≠0 by exact W186 hp)
    have r1:=YT x hp
    rw[m,q540 e o (x%2^e) h0 c r0 r1]
    have:x%2^e=x:=(W97 mm)
    rw[this]
    rfl
   ·have mm:=q147 h2 h3 m
    have r0:=Int.emod_nonneg x (show(2:Int)^e≠0 by lia)
    rw[m,ZN {}]
    rfl
  ·rw[q150 c,q289 ⟨h2,h3⟩]
   have r0:=Int.emod_nonneg x (show(2:Int)^e≠0 by lia)
   have r1:=YT x hp
   rcases mk0b e x with m | m
   ·have mm:=q147 h2 h3 m
    rw[m,ZN {}]
    rfl
   ·have mm:=q147 h2 h3 m
    rw[m,q540 e (o-2^e) (x%2^e) {} {} r0 r1]
    by_cases z:x=o
    ·rw[ZA z,ZA {}]
     rfl
    ·rw[ZN z,ZN {}]
     rfl
def C_sel2{os:List Int}{s t:Nat}(h:s<=t):(os.take s).countP q+(sel (os,s,t)).countP q=(os.take t).countP q:=by
 have e:os.take t=os.take s++sel (os,s,t):=by
  unfold sel
  have:=(YR s (os.take t)).symm
  rw[take_take,WN h]at this
  exact this
 rw[e,countP_append]
def q754(g:G3):Wh [g]=sel g:=by unfold Wh;rw[YV,flatMap_nil,YN]
def cnt_q(us:List Int)(o:Int):us.count o=us.countP λx=>decide (x=o):=by
 rw[YE]
 refine countP_congr λx _=>?_
 rw[beq_iff_eq,ZW]
def lift_at{L:Nat}{g:G3}{o:Int}{left:Nat}(hg:GoodS L g)(h0:0<=o)(h1:o<2^L)(hl:left<(sel g).count o) :
  ∃ i,(spots L g.1 (wayW L o))[(ledS L (wayW L o) g).2.1+left]? = some i/\g.2.1<=i/\i<g.2.2/\g.1[i]? = some o/\(sel (g.1,g.2.1,i)).count o=left:=by
 obtain⟨os,s,t⟩:=g
 obtain⟨hin,hst,htl,_⟩:=hg
 change s<=t at hst
 change t<=os.length at htl
 have hq:∀ x∈os,inW L x (wayW L o)=decide (x=o):=λx hx=>q540 L o x h0 h1 (hin x hx).1 (hin x hx).2
 have hs:spots L os (wayW L o)=idxs (λx=>decide (x=o)) os:=q391 hq
 have hcc:∀ k,(os.take k).countP (λx=>inW L x (wayW L o))=(os.take k).countP λx=>decide (x=o):=λk=>countP_congr λx hx=>by rw[hq x (mem_of_mem_take hx)]
 have hled:(ledS L (wayW L o) (os,s,t)).2.1=(os.take s).countP λx=>decide (x=o):=by
  rcases q594 L (wayW L o) os s t (by rw[q162];exact ZG _) hin with e | e | e
  ·rw[e];exact hcc s
  ·lia
  ·exact W158 htl e
 rw[cnt_q]at hl
 have c1:=C_sel2 (q:=λx=>decide (x=o)) (os:=os) hst
 have c2:=q223 (q:=λx=>decide (x=o)) os htl
 rw[WU (ZG os.length)]at c2
 have hlen:(idxs (λx=>decide (x=o)) os).length=os.countP λx=>decide (x=o):=by
  have:=congrArg List.length (q496 (p:=λx=>decide (x=o)) os)
  rw[ZJ]at this
  rw[this,YW]
 have hk:(os.take s).countP (λx=>decide (x=o))+left<(idxs (λx=>decide (x=o)) os).length:={}
 obtain⟨i,hi⟩:∃ i,(idxs (λx=>decide (x=o)) os)[(os.take s).countP (λx=>decide (x=o))+left]? = some i:=⟨_,ZM hk⟩
 obtain⟨o',k1,k2,k3⟩:=q436 os _ i hi
 have eo:o'=o:=ZE k2
 subst eo
 have hsi:s<=i:=by
  apply Classical.byContradiction
  intro c
  have m:=q223 (q:=λx=>decide (x=o')) os (show i+1<=s by lia)
  rw[cnt_step k1 k2]at m
  lia
 have hit:i<t:=by
  apply Classical.byContradiction
  intro c
  have m:=q223 (q:=λx=>decide (x=o')) os (show t<=i by exact W17 c)
  lia
 exists i,?_,hsi,hit,k1
 ·show(spots L os (wayW L o'))[(ledS L (wayW L o') (os,s,t)).2.1+left]? = some i
  rw[hs,hled]
  exact hi
 ·show(sel (os,s,i)).count o'=left
  rw[cnt_q]
  have c3:=C_sel2 (q:=λx=>decide (x=o')) (os:=os) hsi
  lia
noncomputable def Thing(gs:List G3)(o:Int)(num j pl:Nat):Prop:=∃ g,gs[j]? = some g/\g.2.1<=pl/\pl<g.2.2/\g.1[pl]? = some o/\num=(Wh (gs.take j++[(g.1,g.2.1,pl)])).count o
def Wh_take{gs:List G3}{j:Nat}(h:gs[j]? = some g):Wh (gs.take (j+1))=Wh (gs.take j)++sel g:=by
 rw[YG,h]
 show Wh (gs.take j++[g])=_
 rw[W_app,q754]
def cutTake{xs:List V}{j:Nat}:cutV xs none (some (j:Int))=xs.take j:=by
 unfold cutV
 rw[HT.q789,HT.q788,drop_zero,Nat.sub_zero]
 by_cases h:j<=xs.length
 ·rw[WN h]
 ·rw[Nat.min_eq_right (W80 h),YQ,WU {}]
def q755{L:Nat}(h:StrAt H L v g):GatAt H L [v] [g]:=(GatAt.nil H L).snoc h
inductive q275(u0:Fg)(vs:List V)(H:Hp)(Q:VK)(E:XK):Prop
 |mk(ga wy:Addr)(xs:List V)(L num:Nat)(o:Int)(gs:List G3)(_:vs=[.ref ga,.ref wy,.int (num:Int)])(_:L<=40)(_:H ga=some (.lst xs))(_:GatAt H L xs gs)(_:(∀ g∈gs,GoodS L g))(_:gs.length<=100)(_:TupF H wy ((wayW L o).map V.int))(_:0<=o)(_:o<2^L)(_:num<(Wh gs).count o)(_:∀(p:Addr)(j pl:Nat)(H':Hp),Same H H'->H' p=some (.tup [.int (j:Int),.int (pl:Int)])->Thing gs o num j pl->Q (.ref p) H')
inductive q276(K:Fg)(vs:List V)(H:Hp)(Q:VK)(E:XK):Prop
 |mk(b ga:Addr)(xs:List V)(low:Int)(L k:Nat)(gs:List G3)(_:vs=[.ref b,.ref ga,.int (k:Int)])(_:SqT K H b [.int low,.int (L:Int)])(_:L<=40)(_:H ga=some (.lst xs))(_:GatAt H L xs gs)(_:(∀ g∈gs,GoodS L g))(_:gs.length<=100)(_:(Wh gs).length<=900)(_:k<(Wh gs).length)(_:∀(p:Addr)(j pl:Nat)(H':Hp),Same H H'->SqT K H' p [.int (low+kth L (Wh gs) k),.int (j:Int),.int (pl:Int)]->Thing gs (kth L (Wh gs) k) (k-ltC (Wh gs) (kth L (Wh gs) k)) j pl->Q (.ref p) H')
noncomputable def muJ(n:Nat):St->Nat:=λσ=>match σ[5]? with
 | some (some (V.int m))=>n-m.toNat
 | _=>0
def q541:z.C P w 44 "sum_from" ["least", "many", "parts", "k"] (q539 K):=by
 have sc:=q531
 refine z.d_sum_from.recur (k:=q81) (sp:=q152 K) q336 λe hen c_sum_from f fd F=>F.k sc λ_ _ _ s H _ Q _ hr h=>?_
 obtain⟨least,pa,xs,k,gs,rfl,hpa,hg,hgd,hl,hk,q⟩:=h
 refine⟨_,(q12 (ps_if (q20 op_eq (pv 3) q13 (q19 _))
 (q15 (q18 q13))
 q21)
 (q12 (ps_if (q20 op_eq (pv 1) q13 (q19 _))
 (q15 (q18 (pe_op q84 (pv 0) (pv 3))))
 q21)
 (q12 (pst 4 sc.nd (pe_op q69 (pv 1) q13))
 (q12 (pst 5 sc.nd (pe_fn (q53 z) (hr.mono (ZO (by decide:1<=q81) (WE _ _))) () (pa1 (pe_fn (q123 z) (hr.mono (ZO (by decide:3<=q81) (WE _ _))) () (pa2 (pv 2) (q29 (pa1 q13)))))))
 (q12 (pst 6 sc.nd (pe_fn (q53 z) (hr.mono (ZO (by decide:1<=q81) (WE _ _))) () (pa1 (pe_fn (q123 z) (hr.mono (ZO (by decide:3<=q81) (WE _ _))) () (pa2 (pv 2) (q29 (pa1 q13)))))))
 (q12 (pst 7 sc.nd (q36 (q675 rfl) () z.min_ bt_min (pa2 (pv 3) (pe_fn (q31 z) (hr.mono (ZO (by decide:1<=q81) (WE _ _))) () (pa1 (pv 5))))))
 (q15 (q18 (pe_op q30 (pe_fn c_sum_from (hr.mono (ZG _)) () (pa4 (pv 0) (pv 4) (pv 5) (pv 7))) (pe_fn c_sum_from (hr.mono (ZG _)) () (pa4 (pe_op q30 (pv 0) (pv 4)) (pv 4) (pv 6) (pe_op q74 (pv 3) (pv 7))))))))))))),?_⟩
 exists _,rfl,rfl,_,rfl
 refine ite2 (λc=>?_) (λc=>?_)
 ·have k0:k=0:=by have:=V.int.inj (ZE c);exact W92 this
  subst k0
  rw[q225]at q
  exact q H (Same.refl H)
 exists _,rfl,rfl,_,rfl
 cases e with
 | zero=>
  refine ite2 (λ_=>?_) (λc=>absurd (ZA rfl) c)
  exact⟨_,rfl,_,rfl,_,_,rfl,rfl,.inr ⟨{},{}⟩,q H (Same.refl H)⟩
 | succ e=>
  have hp2:=p2pos e
  have e2:=pow2 e
  refine ite2 (λc=>absurd (V.int.inj (ZE c)) {}) (λ_=>?_)
  exists _,rfl,_,_,rfl,rfl,⟨∅,∅⟩
  dsimp only
  rw[q437]
  have good1:∀ w,∀ g∈gs.map (led1 e w),GoodS e g:=λw g hg=>by
   obtain⟨g',hg',rfl⟩:=eE hg
   exact q87 (hgd g' hg')
  have el:∀ w:Int,gs.map (ledS (e+1) [w])=gs.map (led1 e w):=λw=>YK λg _=>by rw[q57,q45]
  have lf:∀ w,(fillG (gs.map (led1 e w))).length<=100:=λw=>ZO (WP _ _) (by rw[ZJ];exact hl)
  refine⟨_,rfl,szb rfl,λw0 hw0=>?_⟩
  have s2:=q17 hw0 (.tup [V.int 0])
  have hw0':upd H w0 (.tup [V.int 0]) w0=some (.tup [V.int 0]):=q14
  generalize upd H w0 (.tup [V.int 0])=H2 at *
  refine⟨pa,w0,xs,e+1,[0],gs,rfl,s2.seq hpa,hg.same s2,hgd,(W26 hl),SqT.of hw0',by simp,(λx hx=>by rw[eD hx];exact .inl rfl),λH3 D3 z3 s3 hD3 hD3n hg3=>?_⟩
  rw[el]at hg3
  refine⟨D3,z3,e,_,rfl,SqL.of hD3,hg3,by rw[ZJ];lia,λH4 D4 z4 s4 hD4 hD4n hg4=>?_⟩
  have s04:=(s2.trans s3).trans s4
  refine⟨_,rfl,szb rfl,λw1 hw1=>?_⟩
  have s5:=q17 hw1 (.tup [V.int 1])
  have hw1':upd H4 w1 (.tup [V.int 1]) w1=some (.tup [V.int 1]):=q14
  generalize upd H4 w1 (.tup [V.int 1])=H5 at *
  have s05:=s04.trans s5
  refine⟨pa,w1,xs,e+1,[1],gs,rfl,s05.seq hpa,hg.same s05,hgd,{},SqT.of hw1',by simp,(λx hx=>by rw[eD hx];exact .inr rfl),λH6 D6 z6 s6 hD6 hD6n hg6=>?_⟩
  rw[el]at hg6
  refine⟨D6,z6,e,_,rfl,SqL.of hD6,hg6,by rw[ZJ];lia,λH7 D7 z7 s7 hD7 hD7n hg7=>?_⟩
  have s47:=(s5.trans s6).trans s7
  have hD47:=s47 _ _ hD4
  have hg47:=hg4.same s47
  refine⟨_,rfl,_,rfl,D4,z4,e,_,rfl,SqL.of hD47,hg47,ZO (lf 0) ∅,λH8 s8=>?_⟩
  rw[q72 (q46 (good1 0)),q64,W_led hgd]
  have em:(if(((halfO e 0 (Wh gs)).length:Nat):Int)<(k:Int) then(((halfO e 0 (Wh gs)).length:Nat):Int) else(k:Int))=((min k (halfO e 0 (Wh gs)).length:Nat):Int):=by
   by_cases c:(((halfO e 0 (Wh gs)).length:Nat):Int)<(k:Int)
   ·rw[ZL c,Nat.min_eq_right {}]
   ·rw[ZI c,WN (W208 c)]
  exists _,_,rfl
  rw[em]
  have hmk:min k (halfO e 0 (Wh gs)).length<=k:=Nat.min_le_left _ _
  generalize hmm:min k (halfO e 0 (Wh gs)).length=m at *
  refine⟨_,rfl,_,rfl,_,rfl,_,rfl,least,D4,z4,m,fillG (gs.map (led1 e 0)),rfl,SqL.of (s8 _ _ hD47),hg47.same s8,q46 (good1 0),lf 0,{},λH9 s9=>?_⟩
  rw[q64,W_led hgd]
  have s89:=s8.trans s9
  exists _,rfl,_,rfl,_,_,rfl,rfl,_,rfl,_,rfl,_,rfl,_,rfl,_,_,rfl,rfl
  refine⟨least+2^e,D7,z7,k-m,fillG (gs.map (led1 e 1)),?_,SqL.of (s89 _ _ hD7),hg7.same s89,q46 (good1 1),lf 1,{},λH10 s10=>⟨_,_,rfl,rfl,?_⟩⟩
  ·exact congrArg (λq:Int=>[V.int (least+2^e),V.int (2^e),V.ref D7,V.int q]) (show(k:Int)-(m:Int)=((k-m:Nat):Int) by lia)
  rw[q64,W_led hgd]
  have q':=q H10 (((s04.trans s47).trans s89).trans s10)
  have ef:sumF (e+1) least (Wh gs) k=sumF e least (halfO e 0 (Wh gs)) m+sumF e (least+2^e) (halfO e 1 (Wh gs)) (k-m):=by
   show sumF e least (halfO e 0 (Wh gs)) (min k _)+sumF e (least+2^e) (halfO e 1 (Wh gs)) (k-min k _)=_
   rw[hmm]
  rw[ef]at q'
  exact q'
def q337:z.C P w 45 "sum_of_least" pn1 (q153 K):=by
 have sc:=q326
 specialize z.d_sum_of_least
 obtain⟨b,ga,xs,low,L,k,gs,rfl,hb,hL,hga,hg,hgd,hl,hw9,hk,q⟩:=h
 refine⟨_,(q12 (ps_if (PW.pt (pw_or (q20 op_lt (pv 2) q13 (q19 _)) (q138 (q20 op_gt (pv 2) (pfn (q31 z) hr (pa1 (pv 1))) (q19 _)))))
 (q15 q157)
 q21)
 (q15 (q18 (pfn (q541 z) hr (pa4 (pix q24 (pv 0) q13) (pfn (q33 z) hr (pa1 (pix q24 (pv 0) q13))) (pfn (q53 z) hr (pa1 (pv 1))) (pv 2)))))),?_⟩
 exists _,rfl,_,_,rfl,rfl,_,rfl
 refine ite2 (λc=>absurd (ZE c) W81) (λ_=>?_)
 refine⟨_,rfl,_,rfl,ga,xs,L,gs,rfl,hga,hg,(W26 hl),λH1 s1=>?_⟩
 rw[q72 hgd]
 exists _,_,rfl,rfl,_,rfl
 refine ite2 (λc=>absurd (ZE c) {}) (λ_=>?_)
 refine⟨_,rfl,b,_,_,_,rfl,rfl,s1.seqT hb,rfl,_,rfl,b,_,_,_,rfl,rfl,s1.seqT hb,rfl,L,rfl,hL,_,rfl,ga,xs,L,gs,rfl,s1.seq hga,hg.same s1,{},λH2 D2 z2 s2 hD2 _ hg2=>?_⟩
 refine⟨_,rfl,L,hL,low,D2,z2,k,fillG gs,rfl,SqL.of hD2,hg2,q46 hgd,ZO (WP _ _) hl,{},λH3 s3=>?_⟩
 rw[q64]
 exact q H3 ((s1.trans s2).trans s3)
def q504:z.C P w 43 "nth_alike" ["gathering", "way", "number"] (q275 K):=by
 have sc:=q484
 specialize z.d_nth_alike
 obtain⟨ga,wy,xs,L,num,o,gs,rfl,hL,hga,hg,hgd,hl,hwy,h0,h1,hnum,q⟩:=h
 refine⟨_,(q12 (pst 3 sc.nd (pfn (q123 z) hr (pa2 (pv 0) (pv 1))))
 (q12 (pst 4 sc.nd (pv 2))
 (q12 (pst 5 sc.nd q13)
 (q12 (ps_while PassesOwn.never (q20 op_ge (pv 4) (pfn (q31 z) hr (pa1 (q32 (pa1 (pix q54 (pv 3) (pv 5)))))) (q19 _))
 (q12 (pst 4 sc.nd (pe_op q74 (pv 4) (pfn (q31 z) hr (pa1 (q32 (pa1 (pix q54 (pv 3) (pv 5))))))))
 (q15 (pst 5 sc.nd (pe_op q30 (pv 5) q13)))))
 (q15 (q18 (q29 (pa2 (pv 5) (pfn (q753 z) hr (pa3 (pix q24 (pix q54 (pv 0) (pv 5)) q13) (pv 1) (pe_op q30 (pix q24 (pix q54 (pv 3) (pv 5)) q13) (pv 4)))))))))))),?_⟩
 have hwl:=q162 L o
 refine⟨_,rfl,_,rfl,ga,wy,xs,L,wayW L o,gs,rfl,SqL.of hga,hg,hgd,(W26 hl),hwy.sq,{},q252 L o,λH1 D zs s1 hD _ hg1=>?_⟩
 rw[hwl,Nat.sub_self]at hg1
 have one:∀ g∈gs,manyG [ledS L (wayW L o) g]=((sel g).count o:Nat):=λg hgm=>by
  have:=q293 L o [g] h0 h1 (λx hx=>by rw[eD hx];exact hgd g hgm)
  rw[q754]at this
  exact this
 have hjlt:∀(j left:Nat),left+(Wh (gs.take j)).count o=num->j<gs.length:=λj left e=>by
  apply Classical.byContradiction
  intro c
  rw[WU (W17 c)]at e
  lia
 exists _,rfl
 have at1:∀ j:Nat,j<gs.length -> ∃ g z t t' u u',gs[j]? = some g/\zs[j]? = some z/\z=V.ref t'/\H1 t'=some (.tup [u',.int ((ledS L (wayW L o) g).2.1:Int),.int ((ledS L (wayW L o) g).2.2:Int)])/\StrAt H1 0 z (ledS L (wayW L o) g)/\xs[j]? = some (V.ref t)/\H t=some (.tup [u,.int (g.2.1:Int),.int (g.2.2:Int)])/\q35 H u (growO L g.1):=by
  intro j hj
  have gj:gs[j]? = some gs[j]:=ZM hj
  have hjz:j<zs.length:=by rw[hg1.1,ZJ];exact hj
  have hjx:j<xs.length:=by rw[hg.1];exact hj
  have gz:=ZM hjz
  have gx:=ZM hjx
  have hstr:=hg1.2 j _ _ gz (by rw[WH,gj];rfl)
  obtain⟨t',u',e1,e2,e3⟩:=id hstr
  obtain⟨t,u,f1,f2,f3⟩:=hg.2 j _ _ gx gj
  rw[f1]at gx
  exact⟨_,_,t,t',u,u',gj,gz,e1,e2,hstr,gx,f2,f3⟩
 refine while_by (λσ H2=>∃(left j:Nat),σ=[some (.ref ga),some (.ref wy),some (.int (num:Int)),some (.ref D),some (.int (left:Int)),some (.int (j:Int))]/\Same H1 H2/\left+(Wh (gs.take j)).count o=num) (λσ _=>muJ gs.length σ)
  ⟨num,0,rfl,Same.refl _,rfl⟩ ?_ ?_
 ·rintro σ H2 ⟨left,j,rfl,s2,hinv⟩
  have hj:=hjlt j left hinv
  obtain⟨g,z,t,t',u,u',gj,gz,e1,e2,hstr,gx,f2,f3⟩:=at1 j hj
  have hgm:=WY gj
  have hwt:=Wh_take gj
  refine⟨_,rfl,_,rfl,_,rfl,D,_,_,_,rfl,rfl,SqL.of (s2 _ _ hD),q44 gz,szb rfl,λl1 hl1=>?_⟩
  have s3:=q17 hl1 (.lst [z])
  have hl1':upd H2 l1 (.lst [z]) l1=some (.lst [z]):=q14
  generalize upd H2 l1 (.lst [z])=H3 at *
  have s13:=s2.trans s3
  refine⟨l1,[z],0,[ledS L (wayW L o) g],rfl,SqL.of hl1',q755 (hstr.tk (.same s13)),by simp,λH4 s4=>?_⟩
  rw[one g hgm]
  exists _,_,rfl,rfl,_,rfl
  have s14:=s13.trans s4
  refine ite2 (λc=>?_) (λc=>?_)
  ·have c':(sel g).count o<=left:=by have:=ZE c;exact W188 this
   refine⟨_,rfl,_,rfl,_,rfl,D,_,_,_,rfl,rfl,SqL.of (s14 _ _ hD),q44 gz,szb rfl,λl2 hl2=>?_⟩
   have s5:=q17 hl2 (.lst [z])
   have hl2':upd H4 l2 (.lst [z]) l2=some (.lst [z]):=q14
   generalize upd H4 l2 (.lst [z])=H5 at *
   have s15:=s14.trans s5
   refine⟨l2,[z],0,[ledS L (wayW L o) g],rfl,SqL.of hl2',q755 (hstr.tk (.same s15)),by simp,λH6 s6=>?_⟩
   rw[one g hgm]
   exists _,_,rfl,rfl,_,rfl,_,_,rfl,rfl,⟨left-(sel g).count o,j+1,?_,s15.trans s6,?_⟩
   ·have a1:(left:Int)-((sel g).count o:Nat)=((left-(sel g).count o:Nat):Int):=(W89 c')
    have a2:(j:Int)+1=((j+1:Nat):Int):=W114
    show[some (V.ref ga),some (V.ref wy),some (V.int (num:Int)),some (V.ref D),some (V.int ((left:Int)-((sel g).count o:Nat))),some (V.int ((j:Int)+1))]=_
    rw[a1,a2]
   ·rw[hwt,count_append];lia
   ·show gs.length-((j:Int)+1).toNat<gs.length-((j:Int)).toNat
    lia
  ·have c':left<(sel g).count o:=by
    apply Classical.byContradiction
    intro z2
    exact c (ZA {})
   obtain⟨i,k1,k2,k3,k4,k5⟩:=lift_at (hgd g hgm) h0 h1 c'
   have s04:=s1.trans s14
   exists _,rfl,_,rfl,_,rfl,ga,_,_,_,rfl,rfl,SqL.of (s04 _ _ hga),q44 gx,t,_,_,_,rfl,rfl,SqT.of (s04 _ _ f2),rfl,_,rfl,_,rfl,_,rfl,D,_,_,_,rfl,rfl,SqL.of (s14 _ _ hD),q44 gz
   rw[e1]
   exists t',_,_,_,rfl,rfl,SqT.of (s14 _ _ e2),rfl,_,rfl,_,_,rfl,rfl
   refine⟨L,hL,u,wy,(ledS L (wayW L o) g).2.1+left,i,L,g.1,wayW L o,?_,f3.same s04,hwy.same s04,hwl,ZG _,q252 L o,(hgd g hgm).1,k1,λH5 s5=>⟨szb rfl,λp hp=>?_⟩⟩
   ·exact congrArg (λq:Int=>[u,V.ref wy,V.int q]) (show((ledS L (wayW L o) g).2.1:Int)+(left:Int)=(((ledS L (wayW L o) g).2.1+left:Nat):Int) by exact W104)
   refine q p j i _ ((s04.trans s5).trans (q17 hp _)) q14 ⟨g,gj,k2,k3,k4,?_⟩
   rw[W_app,q754,count_append,k5]
   lia
 ·rintro σ H2 Q1 Q2 hq ⟨_,e0,_,e1,_,e2,a,us,i,v,f1,f2,f3,f4,g0,g⟩
  refine⟨_,e0,_,e1,_,e2,a,us,i,v,f1,f2,f3,f4,g0,λp hp=>?_⟩
  obtain⟨ga',xs',L',gs',h1,h2,h3,h4,h5⟩:=g p hp
  refine⟨ga',xs',L',gs',h1,h2,h3,h4,λH' s'=>?_⟩
  obtain⟨i',j',w1,w2,k,w3,w4⟩:=h5 H' s'
  exact⟨i',j',w1,w2,k,w3,hq _ _ w4⟩
def q277:z.C P w 44 "nth_least" pn1 (q276 K):=by
 have sc:=q483
 specialize z.d_nth_least
 obtain⟨b,ga,xs,low,L,k,gs,rfl,hb,hL,hga,hg,hgd,hl,hw9,hk,q⟩:=h
 refine⟨_,(q12 (ps_if (PW.pt (pw_or (q20 op_lt (pv 2) q13 (q19 _)) (q138 (q20 op_ge (pv 2) (pfn (q31 z) hr (pa1 (pv 1))) (q19 _)))))
 (q15 q157)
 q21)
 (q12 (pst 3 sc.nd (pfn (q228 z) hr (pa3 (pix q24 (pv 0) q13) (pv 1) (pv 2))))
 (q12 (pst 4 sc.nd (pe_op q74 (pv 2) (pfn (q179 z) hr (pa2 (pv 1) (pv 3)))))
 (q15 (q18 (pe_op op_catU (q29 (pa1 (pix q24 (pfn (q394 z) hr (pa2 (pv 0) (pv 3))) q13))) (pfn (q504 z) hr (pa3 (pv 1) (pv 3) (pv 4))))))))),?_⟩
 have r:=q116 L (Wh gs) k
 obtain⟨c1,c2⟩:=q151 L (Wh gs) k (W_in hgd) hk
 rw[q130]at c2
 exists _,rfl,_,_,rfl,rfl,_,rfl
 refine ite2 (λc=>absurd (ZE c) {}) (λ_=>?_)
 refine⟨_,rfl,_,rfl,ga,xs,L,gs,rfl,SqL.of hga,hg,{},λH1 s1=>?_⟩
 rw[q72 hgd]
 exists _,_,rfl,rfl,_,rfl
 refine ite2 (λc=>absurd (ZE c) {}) (λ_=>?_)
 refine⟨_,rfl,b,_,_,_,rfl,rfl,s1.seqT hb,rfl,_,rfl,_,rfl,ga,xs,L,k,gs,rfl,hL,s1 _ _ hga,hg.same s1,hgd,hl,hw9,hk,λt H2 s2 ht=>?_⟩
 have s02:=s1.trans s2
 generalize kth L (Wh gs) k=o at *
 refine⟨_,rfl,_,rfl,_,rfl,ga,t,xs,L,o,gs,rfl,SqL.of (s02 _ _ hga),hg.same s02,hgd,hl,ht.sq,r.1,r.2,λH3 s3=>⟨_,_,rfl,rfl,?_⟩⟩
 have s03:=s02.trans s3
 refine⟨_,rfl,_,rfl,b,t,low,L,wayW L o,rfl,s03.seqT hb,hL,(ht.same s3).sq,λp hp=>?_⟩
 have hsp:spanS low L (wayW L o)=(low+o,1):=q292 L low o r.1 r.2
 rw[hsp]
 have s4:=q17 hp (.tup [V.int (low+o),.int (low+o+1-1)])
 have hp4:=@q14 H3 p (.tup [V.int (low+o),.int (low+o+1-1)])
 dsimp only
 generalize upd H3 p (.tup [V.int (low+o),.int (low+o+1-1)])=H4 at *
 refine⟨p,_,_,_,rfl,rfl,SqT.of hp4,rfl,szb rfl,λp1 hp1=>?_⟩
 have s5:=q17 hp1 (.tup [V.int (low+o)])
 have hp5:=@q14 H4 p1 (.tup [V.int (low+o)])
 generalize upd H4 p1 (.tup [V.int (low+o)])=H5 at *
 have s05:=(s03.trans s4).trans s5
 refine⟨_,rfl,_,rfl,_,rfl,ga,t,xs,L,k-ltC (Wh gs) o,o,gs,?_,hL,s05 _ _ hga,hg.same s05,hgd,hl,(((ht.same s3).same s4).same s5),r.1,r.2,(W32 c2 c1),λp2 j pl H6 s6 hp2 hth=>?_⟩
 ·exact congrArg (λq:Int=>[V.ref ga,V.ref t,V.int q]) (show(k:Int)-((ltC (Wh gs) o:Nat):Int)=((k-ltC (Wh gs) o:Nat):Int) by exact W89 c1)
 refine⟨p1,p2,_,_,rfl,rfl,SqT.of (s6 _ _ hp5),SqT.of hp2,szb rfl,λp3 H7 s7 h3 _=>?_⟩
 exact q p3 j pl H7 ((s05.trans s6).trans s7) h3 hth
abbrev q40:Nat:=3
abbrev q136:Nat:=40
inductive q82(K:Fg)(e:Nat)(vs:List V)(H:Hp)(Q:VK)(E:XK):Prop
 |mk(least part floor:Int)(pa:Addr)(xs:List V)(gs:List G3)(_:vs=[.int least,.int (2^e),.ref pa,.int part,.int floor])(_:SqL K H pa xs)(_:GatAt H e xs gs)(_:(∀ g∈gs,GoodS e g))(_:gs.length<=100)(_:(Wh gs).length<=900)(_:1<=part)(_:0<=floor)(_:∀(H':Hp)(D:Addr)(ys:List V),Same H H'->H' D=some (.lst ys)->H D=none->AllAt PsR H' ys (caF part floor e least (Wh gs))->Q (.ref D) H')
def q284(K:Fg):Sp:=λvs H Q E=>∃ e,e<=q136/\q82 K e vs H Q E
inductive q278(K:Fg)(vs:List V)(H:Hp)(Q:VK)(E:XK):Prop
 |mk(b ga:Addr)(xs:List V)(low:Int)(L:Nat)(gs:List G3)(_:vs=[.ref b,.ref ga])(_:SqT K H b [.int low,.int (L:Int)])(_:L<=40)(_:SqL K H ga xs)(_:GatAt H L xs gs)(_:(∀ g∈gs,GoodS L g))(_:gs.length<=100)(_:(Wh gs).length<=900)(_:∀(H':Hp)(D:Addr)(ys:List V),Same H H'->H' D=some (.lst ys)->H D=none->AllAt PsR H' ys (caF 1 0 L low (Wh gs))->Q (.ref D) H')
inductive q599(K:Fg)(vs:List V)(H:Hp)(Q:VK)(E:XK):Prop
 |mk(b ga:Addr)(xs:List V)(low part:Int)(L:Nat)(gs:List G3)(_:vs=[.ref b,.ref ga,.int part])(_:SqT K H b [.int low,.int (L:Int)])(_:L<=40)(_:SqL K H ga xs)(_:GatAt H L xs gs)(_:(∀ g∈gs,GoodS L g))(_:gs.length<=100)(_:(Wh gs).length<=900)(_:1<=part)(_:∀(H':Hp)(D:Addr)(ys:List V),Same H H'->H' D=some (.lst ys)->H D=none->AllAt PsR H' ys (caF part ((Wh gs).length:Nat) L low (Wh gs))->Q (.ref D) H')
def BstV(H:Hp)(v:V):Option P2->Prop
 | none=>v = .non
 | some p=>PsR H v p
inductive q756(K:Fg)(vs:List V)(H:Hp)(Q:VK)(E:XK):Prop
 |mk(b ga:Addr)(xs:List V)(low:Int)(L:Nat)(gs:List G3)(_:vs=[.ref b,.ref ga])(_:SqT K H b [.int low,.int (L:Int)])(_:L<=40)(_:SqL K H ga xs)(_:GatAt H L xs gs)(_:(∀ g∈gs,GoodS L g))(_:gs.length<=100)(_:(Wh gs).length<=900)(_:∀(H':Hp)(v:V),Same H H'->BstV H' v (bst (caF 1 0 L low (Wh gs)))->Q v H')
def q137:z.C P w 44 "counted_above" pn15 (q284 K):=by
 have sc:=q283
 refine z.d_counted_above.recur (k:=q40) (sp:=q82 K) q136 λe hen c_counted_above f fd F=>F.k sc λ_ _ _ s H _ Q _ hr h=>?_
 obtain⟨least,part,floor,pa,xs,gs,rfl,hpa,hg,hgd,hl,hw,hp1,hf0,q⟩:=h
 refine⟨_,(q12 (pst 5 sc.nd (pe_fn (q31 z) (hr.mono (ZO (by decide:1<=q40) (WE _ _))) () (pa1 (pv 2))))
 (q12 (ps_if (q20 op_le (pe_op q84 (pv 5) (pv 3)) (pv 4) (q19 _))
 (q15 (q18 (q32 q11)))
 q21)
 (q12 (ps_if (q20 op_eq (pv 1) q13 (q19 _))
 (q15 (q18 (q32 (pa1 (q29 (pa2 (pv 0) (pv 5)))))))
 q21)
 (q12 (pst 6 sc.nd (pe_op q69 (pv 1) q13))
 (q12 (pst 7 sc.nd (pe_fn c_counted_above (hr.mono (ZG _)) () (q10 (pv 0) (pa4 (pv 6) (pe_fn (q53 z) (hr.mono (ZO (by decide:1<=q40) (WE _ _))) () (pa1 (pe_fn (q123 z) (hr.mono (ZO (by decide:3<=q40) (WE _ _))) () (pa2 (pv 2) (q29 (pa1 q13)))))) (pv 3) (pv 4)))))
 (q12 (pst 8 sc.nd (pe_fn c_counted_above (hr.mono (ZG _)) () (q10 (pe_op q30 (pv 0) (pv 6)) (pa4 (pv 6) (pe_fn (q53 z) (hr.mono (ZO (by decide:1<=q40) (WE _ _))) () (pa1 (pe_fn (q123 z) (hr.mono (ZO (by decide:3<=q40) (WE _ _))) () (pa2 (pv 2) (q29 (pa1 q13)))))) (pv 3) (pv 4)))))
 (q15 (q18 (pe_op q109 (pv 7) (pv 8)))))))))),?_⟩
 have hin:=W_in hgd
 have hcl:=ca_len (part:=part) (floor:=floor) (least:=least) hp1 hf0 hin
 refine⟨_,rfl,pa,xs,e,gs,rfl,hpa,hg,(W26 hl),λH1 s1=>?_⟩
 rw[q72 hgd]
 exists _,rfl,_,rfl,_,_,rfl,rfl,.inl ⟨{},{}⟩,_,rfl,_,_,rfl,rfl,_,rfl
 refine ite2 (λc=>?_) (λc=>?_)
 ·have c':=ZE c
  have e0:caF part floor e least (Wh gs)=[]:=by
   cases e <;> (unfold caF;rw[ZL c'])
  rw[e0]at q
  exact⟨szb rfl,λD hD=>q _ D [] (s1.trans (q17 hD _)) q14 (s1.free hD) AllAt.nil⟩
 have c':¬((Wh gs).length:Int)*part<=floor:=λz=>c (ZA z)
 exists _,rfl,rfl,_,rfl
 cases e with
 | zero=>
  refine ite2 (λ_=>?_) (λc=>absurd (ZA rfl) c)
  have e0:caF part floor 0 least (Wh gs)=[(least,(((Wh gs).length:Nat):Int))]:=by unfold caF;rw[ZI c']
  rw[e0]at q
  refine⟨_,rfl,_,rfl,szb rfl,λt ht=>⟨szb rfl,λD hD=>?_⟩⟩
  have s2:=q17 ht (.tup [.int least,.int ((Wh gs).length:Nat)])
  have s3:=q17 hD (.lst [.ref t])
  refine q _ D [.ref t] ((s1.trans s2).trans s3) q14 ((s1.trans s2).free hD) ⟨rfl,λj x p h1 h2=>?_⟩
  match j,h1,h2 with
  | 0,h1,h2=>cases h1;cases h2;exact⟨t,rfl,s3 _ _ q14⟩
  | j+1,h1,h2=>simp at h1
 | succ e=>
  have hp2:=p2pos e
  have e2:(2:Int)^(e+1)=2*2^e:=by rw[YO];exact W19
  refine ite2 (λc=>absurd (V.int.inj (ZE c)) {}) (λ_=>?_)
  have hh:(2:Int)^(e+1)/2=2^e:=by rw[YO];exact Int.mul_ediv_cancel _ ∅
  exists _,rfl,_,_,rfl,rfl,⟨∅,∅⟩
  dsimp only
  rw[hh]
  have e0:caF part floor (e+1) least (Wh gs)=caF part floor e least (halfO e 0 (Wh gs))++caF part floor e (least+2^e) (halfO e 1 (Wh gs)):=by rw[caF,ZI c']
  rw[e0]at q hcl
  have good1:∀ w,∀ g∈gs.map (led1 e w),GoodS e g:=λw g hg=>by
   obtain⟨g',hg',rfl⟩:=eE hg
   exact q87 (hgd g' hg')
  have el:∀ w:Int,gs.map (ledS (e+1) [w])=gs.map (led1 e w):=λw=>YK λg _=>by rw[q57,q45]
  have e1l:e+1 - [(0:Int)].length=e:=rfl
  have lenH:∀ w:Int,(halfO e w (Wh gs)).length<=900:=λw=>ZO q122 hw
  refine⟨_,rfl,_,rfl,_,rfl,szb rfl,λw0 hw0=>?_⟩
  have s2:=q17 hw0 (.tup [V.int 0])
  have hw0':upd H1 w0 (.tup [V.int 0]) w0=some (.tup [V.int 0]):=q14
  generalize upd H1 w0 (.tup [V.int 0])=H2 at *
  have s02:=s1.trans s2
  refine⟨pa,w0,xs,e+1,[0],gs,rfl,s02.seq hpa,hg.same s02,hgd,(W26 hl),SqT.of hw0',by simp,(λx hx=>by rw[eD hx];exact .inl rfl),λH3 D3 z3 s3 hD3 hD3n hg3=>?_⟩
  rw[el]at hg3
  have hg3':GatAt H3 e z3 (gs.map (led1 e 0)):=hg3
  refine⟨D3,z3,e,_,rfl,SqL.of hD3,hg3',by rw[ZJ];lia,λH4 D4 z4 s4 hD4 hD4n hg4=>?_⟩
  refine⟨_,rfl,_,rfl,least,part,floor,D4,z4,fillG (gs.map (led1 e 0)),rfl,SqL.of hD4,hg4,q46 (good1 0),?_,by rw[q64,W_led hgd];exact lenH 0,hp1,hf0,λH5 D5 z5 s5 hD5 hD5n hp5=>?_⟩
  ·exact ZO (WP _ _) (by rw[ZJ];exact hl)
  rw[q64,W_led hgd]at hp5
  have s05:=((s02.trans s3).trans s4).trans s5
  refine⟨_,rfl,_,rfl,_,_,rfl,rfl,_,rfl,_,rfl,szb rfl,λw1 hw1=>?_⟩
  have s6:=q17 hw1 (.tup [V.int 1])
  have hw1':upd H5 w1 (.tup [V.int 1]) w1=some (.tup [V.int 1]):=q14
  generalize upd H5 w1 (.tup [V.int 1])=H6 at *
  have s06:=s05.trans s6
  refine⟨pa,w1,xs,e+1,[1],gs,rfl,s06.seq hpa,hg.same s06,hgd,{},SqT.of hw1',by simp,(λx hx=>by rw[eD hx];exact .inr rfl),λH7 D7 z7 s7 hD7 hD7n hg7=>?_⟩
  rw[el]at hg7
  have hg7':GatAt H7 e z7 (gs.map (led1 e 1)):=hg7
  refine⟨D7,z7,e,_,rfl,SqL.of hD7,hg7',by rw[ZJ];lia,λH8 D8 z8 s8 hD8 hD8n hg8=>?_⟩
  refine⟨_,rfl,_,rfl,least+2^e,part,floor,D8,z8,fillG (gs.map (led1 e 1)),rfl,SqL.of hD8,hg8,q46 (good1 1),?_,by rw[q64,W_led hgd];exact lenH 1,hp1,hf0,λH9 D9 z9 s9 hD9 hD9n hp9=>?_⟩
  ·exact ZO (WP _ _) (by rw[ZJ];exact hl)
  rw[q64,W_led hgd]at hp9
  have s59:=((s6.trans s7).trans s8).trans s9
  have hD59:=s59 _ _ hD5
  have hp59:=q748 hp5 s59
  refine⟨_,rfl,_,rfl,D5,D9,z5,z9,rfl,rfl,hD59,hD9,sz (by rw[hp5.1,hp9.1,<- ZQ];lia),λD hD=>?_⟩
  exact q _ D _ ((s05.trans s59).trans (q17 hD _)) q14 ((s05.trans s59).free hD) (q748 (hp59.app hp9) (q17 hD _))
def q279:z.C P w 45 "worths_in" pn13 (q278 K):=by
 have sc:=q485
 specialize z.d_worths_in
 obtain⟨b,ga,xs,low,L,gs,rfl,hb,hL,hga,hg,hgd,hl,hw,q⟩:=h
 exists _,(q15 (q18 (pfn (q137 z) hr (q10 (pix q24 (pv 0) q13) (pa4 (pfn (q33 z) hr (pa1 (pix q24 (pv 0) q13))) (pfn (q53 z) hr (pa1 (pv 1))) q13 q13)))))
 refine⟨_,rfl,b,_,_,_,rfl,rfl,hb,rfl,_,rfl,b,_,_,_,rfl,rfl,hb,rfl,L,rfl,hL,_,rfl,ga,xs,L,gs,rfl,hga,hg,(W26 hl),λH1 D1 z1 s1 hD1 hD1n hg1=>?_⟩
 refine⟨L,hL,low,1,0,D1,z1,fillG gs,rfl,SqL.of hD1,hg1,q46 hgd,ZO (WP _ _) hl,by rw[q64];exact hw,∅,∅,λH2 D2 z2 s2 hD2 hD2n hp2=>?_⟩
 rw[q64]at hp2
 exact q H2 D2 z2 (s1.trans s2) hD2 (s1.free hD2n) hp2
def ok_often:z.C P w 45 "often" pn12 (q599 K):=by
 have sc:=sc_often
 specialize z.d_often
 obtain⟨b,ga,xs,low,part,L,gs,rfl,hb,hL,hga,hg,hgd,hl,hw,hp,q⟩:=h
 exists _,(q15 (q18 (pfn (q137 z) hr (q10 (pix q24 (pv 0) q13) (pa4 (pfn (q33 z) hr (pa1 (pix q24 (pv 0) q13))) (pfn (q53 z) hr (pa1 (pv 1))) (pv 2) (pfn (q31 z) hr (pa1 (pv 1))))))))
 refine⟨_,rfl,b,_,_,_,rfl,rfl,hb,rfl,_,rfl,b,_,_,_,rfl,rfl,hb,rfl,L,rfl,hL,_,rfl,ga,xs,L,gs,rfl,hga,hg,(W26 hl),λH1 D1 z1 s1 hD1 hD1n hg1=>?_⟩
 refine⟨_,rfl,_,rfl,ga,xs,L,gs,rfl,s1.seq hga,hg.same s1,{},λH1' s1'=>?_⟩
 rw[q72 hgd]
 refine⟨L,hL,low,part,_,D1,z1,fillG gs,rfl,SqL.of (s1' _ _ hD1),hg1.same s1',q46 hgd,ZO (WP _ _) hl,by rw[q64];exact hw,hp,(W123 hw),λH2 D2 z2 s2 hD2 hD2n hp2=>?_⟩
 rw[q64]at hp2
 exact q H2 D2 z2 ((s1.trans s1').trans s2) hD2 ((s1.trans s1').free hD2n) hp2
def ok_most:z.C P w 46 "most" pn13 (q756 K):=by
 have sc:=sc_most
 specialize z.d_most
 obtain⟨b,ga,xs,low,L,gs,rfl,hb,hL,hga,hg,hgd,hl,hw,q⟩:=h
 refine⟨_,(q12 (pst 2 sc.nd q60)
 (q12 (q61 PassesOwn.never rfl (q34 (pfn (q279 z) hr (pa2 (pv 0) (pv 1)))) (pgn 3 sc.nd)
 (q15 (ps_if (PW.pt (pw_or (q20 q261 (pv 2) q60 (q19 _)) (q138 (q20 op_gt (pix q24 (pv 3) q13) (pix q24 (pv 2) q13) (q19 _)))))
 (q15 (pst 2 sc.nd (pv 3)))
 q21)))
 (q15 (q18 (pv 2))))),?_⟩
 refine⟨_,rfl,_,rfl,b,ga,xs,low,L,gs,rfl,hb,hL,hga,hg,hgd,hl,hw,λH1 D1 z1 s1 hD1 hD1n hp1=>?_⟩
 generalize caF 1 0 L low (Wh gs)=ps at *
 refine⟨D1,rfl,⟨_,SqL.of hD1⟩,q95 (K:=K) (a:=D1) (xs:=z1) (λj σ H2=>∃(bv:V)(v3:Option V),σ=[some (.ref b),some (.ref ga),some bv,v3]/\H2=H1/\BstV H1 bv ((ps.take j).foldl bstep none)) ⟨.non,none,rfl,rfl,rfl⟩ (λj σ H2 _ ⟨_,_,_,e,_⟩=>by rw[e];exact SqL.of hD1) ?_ ?_⟩
 ·rintro j x σ H2 hx ⟨bv,v3,rfl,rfl,hbv⟩
  obtain⟨p,gp,hpx⟩:=hp1.get hx
  have et:(ps.take (j+1)).foldl bstep none=bstep ((ps.take j).foldl bstep none) p:=by
   rw[YG,gp,foldl_append]
   rfl
  generalize (ps.take j).foldl bstep none=bo at *
  exists _,rfl,rfl,_,rfl
  cases bo with
  | none=>
   cases(show bv = .non from hbv)
   refine ite2 (λ_=>?_) (λc=>absurd rfl c)
   exists _,rfl,x,_,rfl,rfl
   rw[et]
   exact hpx
  | some q0=>
   obtain⟨ab,rfl,hab⟩:=hbv
   obtain⟨ap,rfl,hap⟩:=hpx
   refine ite2 (λc=>absurd (ZE c) (by intro z;cases z)) (λ_=>?_)
   exists _,rfl,ap,_,_,_,rfl,rfl,SqT.of hap,rfl,_,rfl,ab,_,_,_,rfl,rfl,SqT.of hab,rfl,_,_,rfl,rfl,_,rfl
   refine ite2 (λc=>?_) (λc=>?_)
   ·exists _,rfl,_,_,rfl,rfl
    rw[et]
    show BstV H2 _ (if p.2 > q0.2 then some p else some q0)
    rw[ZL (ZE c)]
    exact⟨ap,rfl,hap⟩
   ·exists _,_,rfl,rfl
    rw[et]
    show BstV H2 _ (if p.2 > q0.2 then some p else some q0)
    rw[ZI (λz=>c (ZA z))]
    exact⟨ab,rfl,hab⟩
 ·rintro σ H2 ⟨bv,v3,rfl,rfl,hbv⟩
  rw[hp1.1,YQ]at hbv
  exact⟨_,rfl,q _ bv s1 hbv⟩
noncomputable def mkOf(mid n:Int):Int:=if n<mid then 0 else 1
def loI(mid:Int):Int->Bool:=λn=>decide (n<mid)
noncomputable def hiI(mid:Int):Int->Bool:=λn=>decide (mid<=n)
def cnt_lo{mid:Int}(l:List Int):(l.map (mkOf mid)).count 0=l.countP (loI mid):=by
 induction l with
 | nil=>rfl
 | cons n l ih=>
  rw[map_cons,count_cons,YI,ih]
  unfold mkOf loI
  by_cases c:n<mid
  ·simp[c]
  ·simp[c]
def cnt_hi{mid:Int}(l:List Int):(l.map (mkOf mid)).count 1=l.countP (hiI mid):=by
 induction l with
 | nil=>rfl
 | cons n l ih=>
  rw[map_cons,count_cons,YI,ih]
  unfold mkOf hiI
  by_cases c:n<mid
  ·have c2:¬ mid<=n:=(W47 c)
   simp[c,c2]
  ·have c2:mid<=n:=(W22 c)
   simp[c,c2]
def Wths.lower{low:Int}{e:Nat}{ns:List Int}(h:Wths low (e+1) ns):Wths low e (ns.filter (loI (low+2^e))):=λx hx=>by
 obtain⟨h1,h2⟩:=List.mem_filter.mp hx
 exact⟨(h x h1).1,ZE h2⟩
def Wths.upper{low:Int}{e:Nat}{ns:List Int}(h:Wths low (e+1) ns):Wths (low+2^e) e (ns.filter (hiI (low+2^e))):=λx hx=>by
 obtain⟨h1,h2⟩:=List.mem_filter.mp hx
 have:=(h x h1).2
 rw[p2succ]at this
 exact⟨ZE h2,{}⟩
def q88{low:Int}{e:Nat}{ns:List Int}(h:ns≠[]):grow low (e+1) ns = .part (ns.map (mkOf (low+2^e))) (grow low e (ns.filter (loI (low+2^e)))) (grow (low+2^e) e (ns.filter (hiI (low+2^e)))):=q222 h
def q398(p:Int->Bool)(ns:List Int)(pl:Nat):ns.filter p=(ns.take pl).filter p++(ns.drop pl).filter p:=by
 rw[<- filter_append,YR]
def q757(p:Int->Bool)(ns:List Int)(pl:Nat):(ns.filter p).take ((ns.take pl).countP p)=(ns.take pl).filter p:=by
 rw[q398 p ns pl,YW]
 exact take_left
def q758(p:Int->Bool)(ns:List Int)(pl:Nat):(ns.filter p).drop ((ns.take pl).countP p)=(ns.drop pl).filter p:=by
 rw[q398 p ns pl,YW]
 exact drop_left
noncomputable def hlf(mid mk:Int):Int->Bool:=if mk=0 then loI mid else hiI mid
noncomputable def lowOf(low:Int)(e:Nat)(mk:Int):Int:=if mk=0 then low else low+2^e
def cnt_half{mid mk:Int}{ns:List Int}{pl:Nat}(h:mk=0\/mk=1):((ns.map (mkOf mid)).take pl).count mk=(ns.take pl).countP (hlf mid mk):=by
 rw[<- map_take]
 rcases h with rfl | rfl
 ·exact cnt_lo _
 ·exact cnt_hi _
def Wths.half{low mk:Int}{e:Nat}{ns:List Int}(h:Wths low (e+1) ns)(hk:mk=0\/mk=1):Wths (lowOf low e mk) e (ns.filter (hlf (low+2^e) mk)):=by
 rcases hk with rfl | rfl
 ·exact h.lower
 ·exact h.upper
theorem q164(d:Int):∀(e:Nat)(low:Int)(ns:List Int),grow (low+d) e (ns.map λn=>n+d)=grow low e ns
 | 0,low,ns=>by
  by_cases h:ns=[]
  ·rw[h];rfl
  ·rw[q63 h,q63 (by simpa using h),ZJ]
 | e+1,low,ns=>by
  by_cases h:ns=[]
  ·rw[h];rfl
  ·have h2:(ns.map λn=>n+d)≠[]:=by simpa using h
   rw[q88 h,q88 h2]
   have e1:(ns.map λn=>n+d).map (mkOf (low+d+2^e))=ns.map (mkOf (low+2^e)):=by
    rw[map_map]
    refine YK λn _=>?_
    show(if n+d<low+d+2^e then(0:Int)else 1)=if n<low+2^e then 0 else 1
    by_cases c:n<low+2^e
    ·rw[ZL c,ZL {}]
    ·rw[ZI c,ZI {}]
   have e2:(ns.map λn=>n+d).filter (loI (low+d+2^e))=(ns.filter (loI (low+2^e))).map λn=>n+d:=by
    rw[filter_map]
    congr 1
    refine filter_congr λn _=>?_
    show decide (n+d<low+d+2^e)=decide (n<low+2^e)
    by_cases c:n<low+2^e
    ·rw[ZA c,ZA {}]
    ·rw[ZN c,ZN {}]
   have e3:(ns.map λn=>n+d).filter (hiI (low+d+2^e))=(ns.filter (hiI (low+2^e))).map λn=>n+d:=by
    rw[filter_map]
    congr 1
    refine filter_congr λn _=>?_
    show decide (low+d+2^e<=n+d)=decide (low+2^e<=n)
    by_cases c:low+2^e<=n
    ·rw[ZA c,ZA {}]
    ·rw[ZN c,ZN {}]
   rw[e1,e2,e3,q164 d e,show low+d+2^e=(low+2^e)+d by lia,q164 d e]
theorem q254:∀(e:Nat)(os:List Int),growO e os=grow 0 e os
 | 0,os=>rfl
 | e+1,os=>by
  by_cases h:os=[]
  ·rw[h,q121,q111]
  ·rw[q101 h,q222 h,q254 e,q254 e]
   have z:(0:Int)+2^e=2^e:=Int.zero_add _
   rw[z]
   have e2:=q164 (2^e) e 0 ((os.filter λo=>decide ((2:Int)^e<=o)).map λo=>o-2^e)
   rw[map_map,z]at e2
   have e3:((os.filter λo=>decide ((2:Int)^e<=o)).map ((λn=>n+2^e)∘λo=>o-2^e))=os.filter λo=>decide ((2:Int)^e<=o):=by
    rw[show((λn:Int=>n+2^e)∘λo=>o-2^e)=id from funext λo=>by show o-2^e+2^e=o;exact W101,map_id]
   rw[e3]at e2
   rw[<- e2]
   rfl
def q131(low:Int)(e:Nat)(ns:List Int):grow low e ns=growO e (ns.map λn=>n-low):=by
 rw[q254,<- q164 low e 0,map_map,Int.zero_add]
 congr 1
 rw[show((λn:Int=>n+low)∘λn=>n-low)=id from funext λo=>by show o-low+low=o;exact W101,map_id]
def off_mk(low:Int)(e:Nat)(ns:List Int):(ns.map λn=>n-low).map (mk0 e)=ns.map (mkOf (low+2^e)):=by
 rw[map_map]
 refine YK λn _=>?_
 show(if n-low<2^e then(0:Int)else 1)=if n<low+2^e then 0 else 1
 by_cases c:n<low+2^e
 ·rw[ZL c,ZL {}]
 ·rw[ZI c,ZI {}]
def q280{low:Int}{e:Nat}{ns:List Int}(h:Wths low e ns):InO e (ns.map λn=>n-low):=λo ho=>by
 obtain⟨n,hn,rfl⟩:=eE ho
 have:=h n hn
 lia
def half_off{low mk:Int}{e:Nat}{ns:List Int}(hw:Wths low (e+1) ns)(hmk:mk=0\/mk=1):halfO e mk (ns.map λn=>n-low)=(ns.filter (hlf (low+2^e) mk)).map λn=>n-lowOf low e mk:=by
 have p:(2:Int)^(e+1)=2*2^e:=by rw[YO];lia
 unfold halfO
 rw[filter_map,map_map]
 have e1:ns.filter ((λo=>mk0 e o==mk)∘λn=>n-low)=ns.filter (hlf (low+2^e) mk):=filter_congr λn hn=>by
  show((if n-low<2^e then(0:Int)else 1)==mk)=hlf (low+2^e) mk n
  rcases hmk with rfl | rfl
  ·show _=decide (n<low+2^e)
   by_cases c:n<low+2^e
   ·rw[ZL {},ZA c];rfl
   ·rw[ZI {},ZN c];rfl
  ·show _=decide (low+2^e<=n)
   by_cases c:low+2^e<=n
   ·rw[ZI {},ZA c];rfl
   ·rw[ZL {},ZN c];rfl
 rw[e1]
 refine YK λn hn=>?_
 obtain⟨hn,hf⟩:=List.mem_filter.mp hn
 have hwn:=hw n hn
 show(n-low)%2^e=n-lowOf low e mk
 have hp:=p2pos e
 rcases hmk with rfl | rfl
 ·have c:n<low+2^e:=ZE hf
  show _=n-low
  exact Int.emod_eq_of_lt {} {}
 ·have c:low+2^e<=n:=ZE hf
  show _=n-(low+2^e)
  rw[<- Int.sub_emod_right,Int.emod_eq_of_lt {} {}]
  lia
def q759{st en:Nat}{low mk:Int}{e:Nat}{ns:List Int}(hs:H sa=some (.tup [v,.int (st:Int),.int (en:Int)]))(hwy:SqT K H wy [.int mk])(hmk:mk=0\/mk=1)
  (ht:q35 H v (grow low (e+1) ns)) (hw:Wths low (e+1) ns) (h1:st<=en) (h2:en<=ns.length) (hl:ns.length<=300)
  (q:∀(p:Addr)(u:V)(H':Hp),Same H H'->H' p=some (.tup [u,.int ((ns.take st).countP (hlf (low+2^e) mk):Nat),.int ((ns.take en).countP (hlf (low+2^e) mk):Nat)])->q35 H' u (grow (lowOf low e mk) e (ns.filter (hlf (low+2^e) mk)))->Q (.ref p) H') (E) :
  q177 K [.ref sa,.ref wy] H Q E:=by
 refine⟨.ref sa,wy,e+1,[mk],(ns.map λn=>n-low,st,en),rfl,⟨sa,v,rfl,hs,by rw[<- q131];exact ht⟩,⟨q280 hw,h1,by rw[ZJ];exact h2,by rw[ZJ];exact hl⟩,hwy,by simp,λm hm=>by rw[eD hm];exact hmk,λH' v' s' hv'=>?_⟩
 obtain⟨p,u,rfl,hp,hu⟩:=hv'
 rw[q57,q45]at hp hu
 have c:∀ k:Nat,(((ns.map λn=>n-low).map (mk0 e)).take k).count mk=(ns.take k).countP (hlf (low+2^e) mk):=λk=>by rw[off_mk,cnt_half hmk]
 refine q p u H' s' ?_ ?_
 ·rw[<- c,<- c]
  exact hp
 ·rw[q131,<- half_off hw hmk]
  exact hu
noncomputable def segI(ns:List Int)(st en:Nat):List Int:=(ns.take en).drop st
def q542{ns:List Int}{st en:Nat}(h:en<=ns.length):(segI ns st en).length=en-st:=by
 unfold segI
 rw[length_drop,WZ]
 exact W2 h
def q543(f:Int->Int)(ns:List Int)(st en:Nat):(segI ns st en).map f=((ns.map f).take en).drop st:=by
 unfold segI
 rw[map_drop,map_take]
def take_le{ns:List Int}{st en:Nat}(h:st<=en):(ns.take en).take st=ns.take st:=by
 rw[take_take,WN h]
def q399(p:Int->Bool){ns:List Int}{st en:Nat}(h:st<=en):(segI ns st en).filter p=segI (ns.filter p) ((ns.take st).countP p) ((ns.take en).countP p):=by
 have e:=q758 p (ns.take en) st
 rw[take_le h]at e
 unfold segI
 rw[q757,e]
def cnt_le(p:Int->Bool)(ns:List Int)(en:Nat):(ns.take en).countP p<=(ns.filter p).length:=by
 rw[<- YW]
 exact List.Sublist.countP_le (take_sublist _ _)
def q600{low:Int}{e:Nat}(h:q35 H .non (grow low e ns)):ns=[]:=by
 by_cases z:ns=[]
 ·exact z
 ·cases e with
  | zero=>rw[q63 z]at h;obtain⟨a,e1,_⟩:=h;cases e1
  | succ e=>rw[q88 z]at h;obtain⟨a,m,x,y,e1,_⟩:=h;cases e1
def q438(ms:List Int)(st en:Nat)(h:st<=en)(h2:en<=ms.length):cutV (ms.map V.int) (some (st:Int)) (some (en:Int))=((ms.take en).drop st).map V.int:=by
 unfold cutV
 rw[HT.q789,HT.q789,ZJ,WN h2,WN (ZO h h2),map_drop,map_take,drop_take]
abbrev q255:Nat:=2
abbrev q400:Nat:=40
inductive q197(K:Fg)(e:Nat)(vs:List V)(H:Hp)(Q:VK)(E:XK):Prop
 |mk(sa:Addr)(v:V)(st en:Nat)(low:Int)(ns:List Int)(_:vs=[.ref sa])(_:H sa=some (.tup [v,.int (st:Int),.int (en:Int)]))(_:q35 H v (grow low e ns))(_:Wths low e ns)(_:st<=en)(_:en<=ns.length)(_:ns.length<=300)(_:∀(u:V)(H':Hp),Same H H'->q35 H' u (grow low e (segI ns st en))->Q u H')
def q660(K:Fg):Sp:=λvs H Q E=>∃ e,e<=q400/\q197 K e vs H Q E
abbrev q760:Nat:=0
abbrev q505:Nat:=40
inductive q256(u0:Fg)(e:Nat)(vs:List V)(H:Hp)(Q:VK)(E:XK):Prop
 |mk(v w:V)(low:Int)(ns ms:List Int)(_:vs=[v,w])(_:q35 H v (grow low e ns))(_:q35 H w (grow low e ms))(_:ns.length<=450)(_:ms.length<=450)(_:∀(u:V)(H':Hp),Same H H'->q35 H' u (grow low e (ns++ms))->Q u H')
def q761(K:Fg):Sp:=λvs H Q E=>∃ e,e<=q505/\q256 K e vs H Q E
def q661:z.C P w 43 "cut_out" ["stretch"] (q660 K):=by
 have sc:=q650
 refine z.d_cut_out.recur (k:=q255) (sp:=q197 K) q400 λe hen c_cut_out f fd F=>F.k sc λ_ _ _ s H _ Q _ hr h=>?_
 obtain⟨sa,v,st,en,low,ns,rfl,hs,ht,hw,h1,h2,hl,q⟩:=h
 have hsq:SqT K H sa [v,.int (st:Int),.int (en:Int)]:=SqT.of hs
 refine⟨_,(q12 (pst 1 sc.nd (pix q24 (pv 0) q13))
 (q12 (pst 2 sc.nd (pix q24 (pv 0) q13))
 (q12 (pst 3 sc.nd (pix q24 (pv 0) q13))
 (q12 (ps_if (q20 op_eq (pv 2) (pv 3) (q19 _))
 (q15 (q18 q60))
 q21)
 (q12 (ps_if (q20 op_eq (pix q24 (pv 1) q13) q51 (q19 _))
 (q15 (q18 (q29 (pa2 q51 (pe_op q74 (pv 3) (pv 2))))))
 q21)
 (q12 (pst 4 sc.nd (pe_fn c_cut_out (hr.mono (ZG _)) () (pa1 (pe_fn (q115 z) (hr.mono (ZO (by decide:2<=q255) (WE _ _))) () (pa2 (pv 0) (q29 (pa1 q13)))))))
 (q12 (pst 5 sc.nd (pe_fn c_cut_out (hr.mono (ZG _)) () (pa1 (pe_fn (q115 z) (hr.mono (ZO (by decide:2<=q255) (WE _ _))) () (pa2 (pv 0) (q29 (pa1 q13)))))))
 (q15 (q18 (q29 (pa4 q51 (q108 q520 (pix q24 (pv 1) q13) (q77 (pv 2)) (q77 (pv 3))) (pv 4) (pv 5)))))))))))),?_⟩
 exists _,rfl,sa,_,_,_,rfl,rfl,hsq,rfl
 exists _,rfl,sa,_,_,_,rfl,rfl,hsq,rfl
 exists _,rfl,sa,_,_,_,rfl,rfl,hsq,rfl
 have hsl:=q542 (st:=st) h2
 exists _,rfl,_,rfl,rfl,_,rfl
 refine ite2 (λc=>?_) (λc=>?_)
 ·have c':(st:Int)=(en:Int):=V.int.inj (ZE c)
  have e0:segI ns st en=[]:=eq_nil_of_length_eq_zero {}
  refine q .non H (Same.refl H) ?_
  rw[e0,q111]
  rfl
 ·have c':st≠en:=λz=>c (ZA (by rw[z]))
  have hne:ns≠[]:=λz=>by rw[z,length_nil]at h2;lia
  have hsne:segI ns st en≠[]:=λz=>by rw[z,length_nil]at hsl;lia
  cases e with
  | zero=>
   have ht1:=ht
   rw[q63 hne]at ht1
   obtain⟨a,rfl,ha⟩:=ht1
   exists _,rfl,a,_,_,_,rfl,rfl,SqT.of ha,rfl,rfl,_,rfl
   refine ite2 (λc=>?_) (λc=>absurd (ZA rfl) c)
   refine⟨_,rfl,_,rfl,_,_,rfl,rfl,szb rfl,λp hp=>q _ _ (q17 hp _) ?_⟩
   rw[q63 hsne]
   exists p,rfl
   rw[q14,hsl,show((en-st:Nat):Int)=(en:Int)-(st:Int) by lia]
  | succ e=>
   have ht1:=ht
   rw[q88 hne]at ht1
   obtain⟨a,m,xl,xr,hv,ha,hm,_,_⟩:=ht1
   have hseg:grow low (e+1) (segI ns st en) = .part (((ns.map (mkOf (low+2^e))).take en).drop st) (grow (lowOf low e 0) e (segI (ns.filter (hlf (low+2^e) 0)) ((ns.take st).countP (hlf (low+2^e) 0)) ((ns.take en).countP (hlf (low+2^e) 0)))) (grow (lowOf low e 1) e (segI (ns.filter (hlf (low+2^e) 1)) ((ns.take st).countP (hlf (low+2^e) 1)) ((ns.take en).countP (hlf (low+2^e) 1)))):=by
    rw[q88 hsne,q543,<- q399 _ h1,<- q399 _ h1]
    rfl
   rw[hseg]at q
   exists _,rfl,a,_,_,_,(by rw[hv]),rfl,SqT.of ha,rfl,rfl,_,rfl
   refine ite2 (λc=>absurd (ZE c) ∅) (λc=>?_)
   refine⟨_,rfl,szb rfl,λw0 hw0=>?_⟩
   have s1:=q17 hw0 (.tup [.int 0])
   refine q759 (s1 _ _ hs) (SqT.of q14) (.inl rfl) (ht.same s1) hw h1 h2 hl (λp2 u2 H2 s2 hp2 hu2=>?_) E0
   refine⟨p2,u2,_,_,lowOf low e 0,_,rfl,hp2,hu2,Wths.half hw (.inl rfl),q223 _ h1,cnt_le _ _ _,ZO (WP _ _) hl,λu3 H3 s3 hu3=>?_⟩
   have s03:Same H H3:=s1.trans (s2.trans s3)
   refine⟨_,rfl,szb rfl,λw4 hw4=>?_⟩
   have s4:=q17 hw4 (.tup [.int 1])
   have s04:=s03.trans s4
   refine q759 (s04 _ _ hs) (SqT.of q14) (.inr rfl) (ht.same s04) hw h1 h2 hl (λp5 u5 H5 s5 hp5 hu5=>?_) E0
   refine⟨p5,u5,_,_,lowOf low e 1,_,rfl,hp5,hu5,Wths.half hw (.inr rfl),q223 _ h1,cnt_le _ _ _,ZO (WP _ _) hl,λu6 H6 s6 hu6=>?_⟩
   have s46:Same H3 H6:=s4.trans (s5.trans s6)
   have s06:=s03.trans s46
   refine⟨_,rfl,a,_,_,_,(by rw[hv]),rfl,SqT.of (s06 _ _ ha),rfl,_,rfl,_,rfl,_,rfl,_,rfl,m,_,rfl,hm.same s06,λp7 H7 s7 h7=>?_⟩
   rw[q438 _ _ _ h1 (by rw[ZJ];exact h2)]at h7
   refine⟨_,rfl,_,rfl,szb rfl,λp hp=>q _ _ (s06.trans (s7.trans (q17 hp _))) ?_⟩
   have s8:=q17 hp (.tup [.str "part", .ref p7,u3,u6])
   have s37:Same H3 H7:=s46.trans s7
   exact⟨p,p7,u3,u6,rfl,q14,h7.same s8,(hu3.same s37).same s8,(hu6.same s7).same s8⟩
def q762:z.C P w 41 "joined" ["one", "other"] (q761 K):=by
 have sc:=q736
 refine z.d_joined.recur (k:=q760) (sp:=q256 K) q505 λe hen c_joined f fd F=>F.k sc λ_ _ _ s H _ Q _ hr h=>?_
 obtain⟨v,w,low,ns,ms,rfl,hv,hw,hl,hl2,q⟩:=h
 refine⟨_,(q12 (ps_if (q20 q261 (pv 0) q60 (q19 _))
 (q15 (q18 (pv 1)))
 q21)
 (q12 (ps_if (q20 q261 (pv 1) q60 (q19 _))
 (q15 (q18 (pv 0)))
 q21)
 (q12 (ps_if (q20 op_eq (pix q24 (pv 0) q13) q51 (q19 _))
 (q15 (q18 (q29 (pa2 q51 (pe_op q30 (pix q24 (pv 0) q13) (pix q24 (pv 1) q13))))))
 q21)
 (q15 (q18 (q29 (pa4 q51 (pe_op op_catF (pix q24 (pv 0) q13) (pix q24 (pv 1) q13)) (pe_fn c_joined (hr.mono (ZG _)) () (pa2 (pix q24 (pv 0) q13) (pix q24 (pv 1) q13))) (pe_fn c_joined (hr.mono (ZG _)) () (pa2 (pix q24 (pv 0) q13) (pix q24 (pv 1) q13)))))))))),?_⟩
 by_cases hn:ns=[]
 ·subst hn
  rw[q111]at hv
  have hv':v = .non:=hv
  subst hv'
  exists _,rfl,rfl,_,rfl
  refine ite2 (λc=>?_) (λc=>absurd (ZA rfl) c)
  exact⟨_,rfl,q w H (Same.refl H) hw⟩
 ·have hvn:v ≠ .non:=λz=>by rw[z]at hv;exact hn (q600 hv)
  exists _,rfl,rfl,_,rfl
  refine ite2 (λc=>absurd (ZE c) hvn) (λ_=>?_)
  by_cases hm:ms=[]
  ·subst hm
   rw[q111]at hw
   have hw':w = .non:=hw
   subst hw'
   exists _,rfl,rfl,_,rfl
   refine ite2 (λc=>?_) (λc=>absurd (ZA rfl) c)
   exact⟨_,rfl,q v H (Same.refl H) (by rw[YN];exact hv)⟩
  ·have hwn:w ≠ .non:=λz=>by rw[z]at hw;exact hm (q600 hw)
   have hnm:ns++ms≠[]:=λz=>hn (List.append_eq_nil_iff.mp z).1
   exists _,rfl,rfl,_,rfl
   refine ite2 (λc=>absurd (ZE c) hwn) (λ_=>?_)
   cases e with
   | zero=>
    rw[q63 hn]at hv
    rw[q63 hm]at hw
    obtain⟨a,rfl,ha⟩:=hv
    obtain⟨b,rfl,hb⟩:=hw
    exists _,rfl,a,_,_,_,rfl,rfl,SqT.of ha,rfl,rfl,_,rfl
    refine ite2 (λc=>?_) (λc=>absurd (ZA rfl) c)
    refine⟨_,rfl,a,_,_,_,rfl,rfl,SqT.of ha,rfl,_,rfl,b,_,_,_,rfl,rfl,SqT.of hb,rfl,_,_,rfl,rfl,szb rfl,λp hp=>q _ _ (q17 hp _) ?_⟩
    rw[q63 hnm]
    exists p,rfl
    rw[q14,ZQ,Int.natCast_add]
   | succ e=>
    rw[q88 hn]at hv
    rw[q88 hm]at hw
    rw[q88 hnm,WK,filter_append,filter_append]at q
    obtain⟨a,m1,x1,y1,rfl,ha,hm1,hx1,hy1⟩:=hv
    obtain⟨b,m2,x2,y2,rfl,hb,hm2,hx2,hy2⟩:=hw
    exists _,rfl,a,_,_,_,rfl,rfl,SqT.of ha,rfl,rfl,_,rfl
    refine ite2 (λc=>absurd (ZE c) ∅) (λc=>?_)
    refine⟨_,rfl,a,_,_,_,rfl,rfl,SqT.of ha,rfl,_,rfl,b,_,_,_,rfl,rfl,SqT.of hb,rfl,m1,m2,_,_,rfl,rfl,hm1,hm2,sz (by simp only[ZJ];lia),λp3 H3 s3 h3=>?_⟩
    rw[<- WK]at h3
    have ha3:=s3 _ _ ha
    have hb3:=s3 _ _ hb
    refine⟨_,rfl,a,_,_,_,rfl,rfl,SqT.of ha3,rfl,_,rfl,b,_,_,_,rfl,rfl,SqT.of hb3,rfl,x1,x2,low,_,_,rfl,hx1.same s3,hx2.same s3,ZO (WP _ _) hl,ZO (WP _ _) hl2,λu4 H4 s4 hu4=>?_⟩
    have s34:=s3.trans s4
    refine⟨_,rfl,a,_,_,_,rfl,rfl,SqT.of (s34 _ _ ha),rfl,_,rfl,b,_,_,_,rfl,rfl,SqT.of (s34 _ _ hb),rfl,y1,y2,low+2^e,_,_,rfl,hy1.same s34,hy2.same s34,ZO (WP _ _) hl,ZO (WP _ _) hl2,λu5 H5 s5 hu5=>⟨szb rfl,λp hp=>q _ _ (s34.trans (s5.trans (q17 hp _))) ?_⟩⟩
    have s6:=q17 hp (.tup [.str "part", .ref p3,u4,u5])
    exact⟨p,p3,u4,u5,rfl,q14,((h3.same s4).same s5).same s6,(hu4.same s5).same s6,hu5.same s6⟩
noncomputable abbrev offs(low:Int)(ns:List Int):List Int:=ns.map λn=>n-low
def q763{low:Int}{e:Nat}(h:Wths low e ns):InO e (offs low ns):=λo ho=>by
 obtain⟨n,hn,rfl⟩:=eE ho
 have:=h n hn
 lia
def q764{low:Int}{e:Nat}{ns:List Int}(h:Wths low (e+1) ns):halfO e 0 (offs low ns)=offs low (ns.filter λn=>decide (n<low+2^e)):=by
 rw[q740 (q763 h)]
 unfold offs
 rw[filter_map]
 congr 1
 refine filter_congr λn _=>?_
 show decide (n-low<2^e)=decide (n<low+2^e)
 by_cases c:n<low+2^e
 ·rw[ZA c,ZA {}]
 ·rw[ZN c,ZN {}]
def q765{low:Int}{e:Nat}{ns:List Int}(h:Wths low (e+1) ns):halfO e 1 (offs low ns)=offs (low+2^e) (ns.filter λn=>decide (low+2^e<=n)):=by
 rw[q741 (q763 h)]
 unfold offs
 rw[filter_map,map_map]
 have e1:((λo=>decide ((2:Int)^e<=o))∘λn=>n-low)=λn=>decide (low+2^e<=n):=by
  funext n
  show decide ((2:Int)^e<=n-low)=decide (low+2^e<=n)
  by_cases c:low+2^e<=n
  ·rw[ZA c,ZA {}]
  ·rw[ZN c,ZN {}]
 rw[e1]
 refine YK λn _=>?_
 show n-low-2^e=n-(low+2^e)
 lia
def Wths.loH{low:Int}{e:Nat}{ns:List Int}(h:Wths low (e+1) ns):Wths low e (ns.filter λn=>decide (n<low+2^e)):=λn hn=>by
 have h1:=List.mem_filter.mp hn
 have h2:=h n h1.1
 have h3:=ZE h1.2
 lia
def Wths.hiH{low:Int}{e:Nat}{ns:List Int}(h:Wths low (e+1) ns):Wths (low+2^e) e (ns.filter λn=>decide (low+2^e<=n)):=λn hn=>by
 have h1:=List.mem_filter.mp hn
 have h2:=h n h1.1
 have h3:=ZE h1.2
 have h4:(2:Int)^(e+1)=2^e+2^e:=by rw[YO];exact W34
 lia
inductive Pp where
 | all (n:Int)
 | split (n:Int) (l r:Pp)
def PpAt(H:Hp):V->Pp->Prop
 | v,.all n=>∃ a,v = .ref a/\H a=some (.tup [.str "all", .int n])
 | v,.split n l r=>∃ a x y,v = .ref a/\H a=some (.tup [.str "split", .int n,x,y])/\PpAt H x l/\PpAt H y r
theorem PpAt.tk{H H':Hp}(k:TKeep H H'):∀{p:Pp}{v:V},PpAt H v p->PpAt H' v p
 | .all _,_,⟨a,e,h⟩=>⟨a,e,(k _ _).1 h⟩
 | .split _ _ _,_,⟨a,x,y,e,h,h1,h2⟩=>⟨a,x,y,e,(k _ _).1 h,h1.tk k,h2.tk k⟩
noncomputable def q67:Nat->List Int->Pp->Prop
 | _,us,.all n=>n=(us.length:Int)
 | 0,_,.split _ _ _=>False
 | e+1,us,.split n l r=>n=(us.length:Int)/\q67 e (halfO e 0 us) l/\q67 e (halfO e 1 us) r
noncomputable def Pp.leaves:Pp->Nat
 | .all _=>1
 | .split _ l r=>Pp.leaves l+Pp.leaves r
noncomputable def papF(φ:Int->Int->Int->Bool):Nat->Int->List Int->Pp
 | 0,_,us=>.all us.length
 | e+1,least,us=>if φ least (least+2^(e+1)-1) us.length=true then .split us.length (papF φ e least (halfO e 0 us)) (papF φ e (least+2^e) (halfO e 1 us))else .all us.length
noncomputable def dpP:Pp->Nat
 | .all _=>0
 | .split _ l r=>max (dpP l) (dpP r)+1
theorem q766:∀(e:Nat)(least:Int)(us:List Int),dpP (papF φ e least us)<=e
 | 0,_,_=>ZG _
 | e+1,least,us=>by
  unfold papF
  split
  ·show max _ _+1<=e+1
   have:=q766 (φ:=φ) e least (halfO e 0 us)
   have:=q766 (φ:=φ) e (least+2^e) (halfO e 1 us)
   lia
  ·exact WA _
theorem PpAt.tp{H H':Hp}(k:∀ b xs,H b=some (.tup xs)->H' b=some (.tup xs)):∀{p:Pp}{v:V},PpAt H v p->PpAt H' v p
 | .all _,_,⟨a,e,h⟩=>⟨a,e,k _ _ h⟩
 | .split _ _ _,_,⟨a,x,y,e,h,h1,h2⟩=>⟨a,x,y,e,k _ _ h,PpAt.tp k h1,PpAt.tp k h2⟩
def PpAt.same(h:PpAt H v p)(s:Same H H'):PpAt H' v p:=PpAt.tk (.same s) h
noncomputable def clP:Pp->Bool
 | .all _=>true
 | .split _ _ _=>false
def q439:PySem.W.kitOne K (.type "tuple") (.type "tuple")=some true:=by kernel_rfl
inductive q338(u0:Fg)(vs:List V)(H:Hp)(Q:VK)(E:XK):Prop
 |mk(n:Int)(_:vs=[.int n])(_:Q (.bl true) H)
inductive q401(u0:Fg)(vs:List V)(H:Hp)(Q:VK)(E:XK):Prop
 |mk(a b:Str)(_:vs=[.str a,.str b])(_:Q (.bl (decide (a=b))) H)
inductive q281(u0:Fg)(vs:List V)(H:Hp)(Q:VK)(E:XK):Prop
 |mk(v:V)(p:Pp)(_:vs=[v])(_:PpAt H v p)(_:Q (.bl (clP p)) H)
inductive q339(u0:Fg)(vs:List V)(H:Hp)(Q:VK)(E:XK):Prop
 |mk(v:V)(p:Pp)(_:vs=[v])(_:PpAt H v p)(_:Q (.bl (!clP p)) H)
abbrev q83:Nat:=3
abbrev q402:Nat:=40
inductive q198(u0:Fg)(e:Nat)(vs:List V)(H:Hp)(Q:VK)(E:XK):Prop
 |mk(pa:Addr)(v:V)(p:Pp)(xs:List V)(gs:List G3)(_:vs=[.int (e:Int),.ref pa,v])(_:H pa=some (.lst xs))(_:GatAt H e xs gs)(_:(∀ g∈gs,GoodS e g))(_:gs.length<=100)(_:PpAt H v p)(_:q67 e (Wh gs) p)(_:∀ H',Same H H'->Q (.bl true) H')
def q662(K:Fg):Sp:=λvs H Q E=>∃ e,e<=q402/\q198 K e vs H Q E
inductive q601(u0:Fg)(vs:List V)(H:Hp)(Q:VK)(E:XK):Prop
 |mk(ga:Addr)(v:V)(p:Pp)(L:Nat)(xs:List V)(gs:List G3)(_:vs=[.int (L:Int),.ref ga,v])(_:L<=40)(_:H ga=some (.lst xs))(_:GatAt H L xs gs)(_:(∀ g∈gs,GoodS L g))(_:gs.length<=100)(_:PpAt H v p)(_:q67 L (Wh gs) p)(_:∀ H',Same H H'->Q (.bl true) H')
abbrev q49:Nat:=3
abbrev q229:Nat:=40
noncomputable def f3(ψ:List Int->Bool):Int->Int->Int->Bool:=λa b c=>ψ [a,b,c]
inductive q117(K:Fg)(e:Nat)(vs:List V)(H:Hp)(Q:VK)(E:XK):Prop
 |mk(least:Int)(pa f:Addr)(xs:List V)(gs:List G3)(C:List Int->Prop)(ψ:List Int->Bool)(_:vs=[.int least,.int (2^e),.ref pa,.ref f])(_:SqL K H pa xs)(_:GatAt H e xs gs)(_:(∀ g∈gs,GoodS e g))(_:gs.length<=100)(_:(Wh gs).length<=900)(_:Lam K 2 H f C ψ)(_:(∀ a b c:Int,0<=c->c<=1000->C [a,b,c]))(_:∀(H':Hp)(v:V),Same H H'->PpAt H' v (papF (f3 ψ) e least (Wh gs))->Q v H')
def q440(K:Fg):Sp:=λvs H Q E=>∃ e,e<=q229/\q117 K e vs H Q E
inductive q230(K:Fg)(vs:List V)(H:Hp)(Q:VK)(E:XK):Prop
 |mk(b ga f:Addr)(xs:List V)(low:Int)(L:Nat)(gs:List G3)(C:List Int->Prop)(ψ:List Int->Bool)(_:vs=[.ref b,.ref ga,.ref f])(_:SqT K H b [.int low,.int (L:Int)])(_:L<=40)(_:SqL K H ga xs)(_:GatAt H L xs gs)(_:(∀ g∈gs,GoodS L g))(_:gs.length<=100)(_:(Wh gs).length<=900)(_:Lam K 2 H f C ψ)(_:(∀ a b c:Int,0<=c->c<=1000->C [a,b,c]))(_:∀(H':Hp)(v:V),Same H H'->PpAt H' v (papF (f3 ψ) L low (Wh gs))->Q v H')
def q340:z.C P w 1 "is_whole" ["thing"] (q338 K):=by
 have sc:=q527
 specialize z.d_is_whole
 obtain⟨n,rfl,q⟩:=h
 exists _,(q15 (q18 (q169 (q36 q203 () z.isinstance_ q70 (pa2 (pv 0) (q298 (v:=.ty "int") (u:=.type "int") () z.int_ bt_int rfl))) (q300 (pe_not (q36 q203 () z.isinstance_ q70 (pa2 (pv 0) (q298 (v:=.ty "bool") (u:=.type "bool") () z.bool_ bt_bool rfl))))))))
 exists _,rfl,_,_,_,_,rfl,.int _,q517,_,rfl
 refine ite2 (λ_=>?_) (λc=>absurd rfl c)
 exact⟨_,rfl,_,_,_,_,rfl,.int _,q459,_,rfl,q⟩
def q403:z.C P w 1 "is_word" ["thing", "word"] (q401 K):=by
 have sc:=q646
 specialize z.d_is_word
 obtain⟨a,b,rfl,q⟩:=h
 exists _,(q15 (q18 (q169 (q36 q203 () z.isinstance_ q70 (pa2 (pv 0) (q298 (v:=.ty "str") (u:=.type "str") () z.str_ bt_str rfl))) (q300 (q76 op_eq (pv 0) (pv 1) (q19 _))))))
 exists _,rfl,_,_,_,_,rfl,.str _,q518,_,rfl
 refine ite2 (λ_=>?_) (λc=>absurd rfl c)
 exists _,rfl,_,rfl,rfl
 have e:decide (V.str a=V.str b)=decide (a=b):=by
  by_cases h:a=b
  ·rw[h];simp
  ·rw[ZN h,ZN (λz=>h (V.str.inj z))]
 rw[e]
 exact q
def q282:z.C P w 2 "is_closed" ["thing"] (q281 K):=by
 have sc:=q486
 specialize z.d_is_closed
 obtain⟨v,p,rfl,hv,q⟩:=h
 exists _,(q15 (q18 (q169 (q36 q203 () z.isinstance_ q70 (pa2 (pv 0) (q298 (v:=.ty "tuple") (u:=.type "tuple") () z.tuple_ q204 rfl))) (q169 (q76 op_eq (pln z.len_ (pa1 (pv 0))) q13 (q19 _)) (q169 (pfn (q403 z) hr (pa2 (pix q24 (pv 0) q13) q51)) (q300 (pfn (q340 z) hr (pa1 (pix q24 (pv 0) q13)))))))))
 cases p with
 | all n=>
  obtain⟨a,rfl,h⟩:=hv
  exists _,rfl,_,_,_,_,rfl,.tup h,q439,_,rfl
  refine ite2 (λ_=>?_) (λc=>absurd rfl c)
  exists _,rfl,a,_,rfl,.inr (SqT.of h),rfl,_,rfl
  refine ite2 (λ_=>?_) (λc=>absurd (ZA rfl) c)
  exists _,rfl,a,_,_,_,rfl,rfl,SqT.of h,rfl,_,_,rfl,_,rfl
  refine ite2 (λ_=>?_) (λc=>absurd (ZA rfl) c)
  exact⟨_,rfl,a,_,_,_,rfl,rfl,SqT.of h,rfl,_,rfl,q⟩
 | split n l r=>
  obtain⟨a,x,y,rfl,h,_,_⟩:=hv
  exists _,rfl,_,_,_,_,rfl,.tup h,q439,_,rfl
  refine ite2 (λ_=>?_) (λc=>absurd rfl c)
  exists _,rfl,a,_,rfl,.inr (SqT.of h),rfl,_,rfl
  exact ite2 (λc=>absurd (V.int.inj (ZE c)) (show ¬(4:Int)=2 by decide)) (λ_=>q)
def q544:z.C P w 2 "is_split" ["thing"] (q339 K):=by
 have sc:=q529
 specialize z.d_is_split
 obtain⟨v,p,rfl,hv,q⟩:=h
 exists _,(q15 (q18 (q169 (q36 q203 () z.isinstance_ q70 (pa2 (pv 0) (q298 (v:=.ty "tuple") (u:=.type "tuple") () z.tuple_ q204 rfl))) (q169 (q76 op_eq (pln z.len_ (pa1 (pv 0))) q13 (q19 _)) (q169 (pfn (q403 z) hr (pa2 (pix q24 (pv 0) q13) q51)) (q300 (pfn (q340 z) hr (pa1 (pix q24 (pv 0) q13)))))))))
 cases p with
 | all n=>
  obtain⟨a,rfl,h⟩:=hv
  exists _,rfl,_,_,_,_,rfl,.tup h,q439,_,rfl
  refine ite2 (λ_=>?_) (λc=>absurd rfl c)
  exists _,rfl,a,_,rfl,.inr (SqT.of h),rfl,_,rfl
  exact ite2 (λc=>absurd (V.int.inj (ZE c)) (show ¬(2:Int)=4 by decide)) (λ_=>q)
 | split n l r=>
  obtain⟨a,x,y,rfl,h,_,_⟩:=hv
  exists _,rfl,_,_,_,_,rfl,.tup h,q439,_,rfl
  refine ite2 (λ_=>?_) (λc=>absurd rfl c)
  exists _,rfl,a,_,rfl,.inr (SqT.of h),rfl,_,rfl
  refine ite2 (λ_=>?_) (λc=>absurd (ZA rfl) c)
  exists _,rfl,a,_,_,_,rfl,rfl,SqT.of h,rfl,_,_,rfl,_,rfl
  refine ite2 (λ_=>?_) (λc=>absurd (ZA rfl) c)
  exact⟨_,rfl,a,_,_,_,rfl,rfl,SqT.of h,rfl,_,rfl,q⟩
def q663:z.C P w 44 "is_kept" ["levels", "parts", "thing"] (q662 K):=by
 have sc:=q652
 refine z.d_is_kept.recur (k:=q83) (sp:=q198 K) q402 λe hen c_is_kept f fd F=>F.k sc λ_ _ _ s H _ Q _ hr h=>?_
 obtain⟨pa,v,p,xs,gs,rfl,hpa,hg,hgd,hgl,hv,hk,q⟩:=h
 refine⟨_,(q12 (ps_if (q104 (pe_fn (q282 z) (hr.mono (ZO (by decide:2<=q83) (WE _ _))) () (pa1 (pv 2))))
 (q15 (q18 (q76 op_eq (pix q24 (pv 2) q13) (pe_fn (q31 z) (hr.mono (ZO (by decide:1<=q83) (WE _ _))) () (pa1 (pv 1))) (q19 _))))
 q21)
 (q12 (ps_if (PW.pt (pw_or (q20 op_eq (pv 0) q13 (q19 _)) (pw_or (q118 (q104 (pe_fn (q544 z) (hr.mono (ZO (by decide:2<=q83) (WE _ _))) () (pa1 (pv 2))))) (q138 (q20 op_ne (pix q24 (pv 2) q13) (pe_fn (q31 z) (hr.mono (ZO (by decide:1<=q83) (WE _ _))) () (pa1 (pv 1))) (q19 _))))))
 (q15 (q18 pe_bl))
 q21)
 (q12 (q61 PassesOwn.never rfl (q557 (q29 (pa2 q13 q13))) (pgn 3 sc.nd)
 (q15 (ps_if (q118 (q104 (pe_fn c_is_kept (hr.mono (ZG _)) () (pa3 (pe_op q74 (pv 0) q13) (pe_fn (q53 z) (hr.mono (ZO (by decide:1<=q83) (WE _ _))) () (pa1 (pe_fn (q123 z) (hr.mono (ZO (by decide:3<=q83) (WE _ _))) () (pa2 (pv 1) (q29 (pa1 (pv 3))))))) (pix q24 (pv 2) (pe_op q30 q13 (pv 3)))))))
 (q15 (q18 pe_bl))
 q21)))
 (q15 (q18 pe_bl))))),?_⟩
 have hm:manyG gs=((Wh gs).length:Nat):=q72 hgd
 exists _,rfl,v,p,rfl,hv,_,rfl
 cases p with
 | all n=>
  refine ite2 (λ_=>?_) (λc=>absurd rfl c)
  obtain⟨a,rfl,h⟩:=hv
  have hk':n=((Wh gs).length:Nat):=by cases e <;> exact hk
  subst hk'
  refine⟨_,rfl,a,_,_,_,rfl,rfl,SqT.of h,rfl,_,rfl,pa,xs,e,gs,rfl,SqL.of hpa,hg,{},λH' s'=>⟨rfl,?_⟩⟩
  rw[hm,ZA rfl]
  exact q H' s'
 | split n l r=>
  refine ite2 (λc=>absurd c fnt) (λ_=>?_)
  exists _,rfl,rfl,_,rfl
  cases e with
  | zero=>exact hk.elim
  | succ e=>
   obtain⟨hn,hl,hr2⟩:=hk
   refine ite2 (λc=>absurd (V.int.inj (ZE c)) W180) (λ_=>?_)
   exists _,rfl,v,_,rfl,hv,_,rfl
   refine ite2 (λc=>absurd c fnt) (λ_=>?_)
   obtain⟨a,x,y,rfl,h,h1,h2⟩:=hv
   subst hn
   refine⟨_,rfl,a,_,_,_,rfl,rfl,SqT.of h,rfl,_,rfl,pa,xs,e+1,gs,rfl,SqL.of hpa,hg,(W26 hgl),λH1 s1=>⟨rfl,_,rfl,?_⟩⟩
   rw[hm,ZA rfl]
   refine ite2 (λz=>absurd z ∅) (λ_=>?_)
   refine⟨szb rfl,λtp htp=>?_⟩
   have s2:=q17 htp (.tup [V.int 0,.int 1])
   have e2:=@q14 H1 tp (.tup [V.int 0,.int 1])
   have s02:=s1.trans s2
   generalize upd H1 tp (.tup [V.int 0,.int 1])=H2 at *
   refine⟨tp,rfl,⟨_,SqT.of e2⟩,q408 (K:=K) (a:=tp) (xs:=[V.int 0,.int 1]) (λi σ G=>∃(w3:Option V),σ=[some (.int ((e+1:Nat):Int)),some (.ref pa),some (.ref a),w3]/\Same H2 G)
    ⟨_,rfl,Same.refl _⟩ (λi σ G _ ⟨_,_,s⟩=>SqT.of (s _ _ e2)) ?_ ?_⟩
   ·rintro i y' σ G hi ⟨w3,rfl,sG⟩
    obtain⟨mk,vv,xx,rfl,hmk,hat,hxx,hkk⟩:∃(mk:Int)(vv:V)(xx:Pp),y' = .int mk/\(mk=0\/mk=1)/\atI [V.str "split", V.int ((Wh gs).length:Nat),x,y] (2+mk)=some vv/\PpAt H vv xx/\q67 e (halfO e mk (Wh gs)) xx:=by
     match i,hi with
     | 0,hi=>cases hi;exact⟨0,x,_,rfl,.inl rfl,rfl,h1,hl⟩
     | 1,hi=>cases hi;exact⟨1,y,_,rfl,.inr rfl,rfl,h2,hr2⟩
    have sHG:=s02.trans sG
    refine⟨_,rfl,_,_,rfl,rfl,_,rfl,_,rfl,szb rfl,λw0 hw0=>?_⟩
    have t1:=q17 hw0 (.tup [V.int mk])
    have ew0:upd G w0 (.tup [V.int mk]) w0=some (.tup ([mk].map V.int)):=q14
    generalize upd G w0 (.tup [V.int mk])=G1 at *
    have s1':=sHG.trans t1
    refine⟨pa,w0,xs,e+1,[mk],gs,rfl,SqL.of (s1' _ _ hpa),hg.same s1',hgd,{},SqT.of ew0,by simp,λm hm=>by rw[eD hm];exact hmk,λG2 D2 ys t2 hD2 _ hg2=>?_⟩
    have eled:gs.map (ledS (e+1) [mk])=gs.map (led1 e mk):=YK λg _=>by rw[q57,q45]
    rw[eled]at hg2
    refine⟨D2,ys,_,_,rfl,SqL.of hD2,hg2,by rw[ZJ];lia,λG3' D3 y3 t3 hD3 _ hg3=>?_⟩
    have hg3':GatAt G3' e y3 (fillG (gs.map (led1 e mk))):=hg3
    have s13:=s1'.trans (t2.trans t3)
    exists _,rfl,_,rfl,_,_,rfl,rfl,a,_,_,_,rfl,rfl,SqT.of (s13 _ _ h),hat
    have ee:(((e+1:Nat):Int)-1)=(e:Int):=W56
    refine⟨D3,vv,xx,y3,fillG (gs.map (led1 e mk)),congrArg (λt=>[V.int t,V.ref D3,vv]) ee,hD3,hg3',q46 (λg hg'=>?_),?_,hxx.same s13,?_,λG4 t4=>⟨_,rfl,iteF ⟨_,rfl,sG.trans (t1.trans (t2.trans (t3.trans t4)))⟩⟩⟩
    ·obtain⟨g0,hg0,rfl⟩:=eE hg'
     exact q87 (hgd g0 hg0)
    ·exact ZO (WP _ _) (by rw[ZJ];exact hgl)
    ·rw[q64,W_led hgd]
     exact hkk
   ·rintro σ G ⟨w3,rfl,sG⟩
    exact q G (s02.trans sG)
def q294:z.C P w 45 "keeps" ["levels", "gathering", "paper"] (q601 K):=by
 have sc:=sc_keeps
 specialize z.d_keeps
 obtain⟨ga,v,p,L,xs,gs,rfl,hL,hga,hg,hgd,hl,hv,hk,q⟩:=h
 exists _,(q15 (q18 (pfn (q663 z) hr (pa3 (pv 0) (pfn (q53 z) hr (pa1 (pv 1))) (pv 2)))))
 refine⟨_,rfl,_,rfl,ga,xs,L,gs,rfl,SqL.of hga,hg,{},λH1 D1 z1 s1 hD1 _ hg1=>?_⟩
 exact⟨_,rfl,L,hL,D1,v,p,z1,fillG gs,rfl,hD1,hg1,q46 hgd,ZO (WP _ _) hl,hv.same s1,by rw[q64];exact hk,λH2 s2=>q H2 (s1.trans s2)⟩
def q441:z.C P w 44 "paper_from" pn18 (q440 K):=by
 have sc:=q428
 refine z.d_paper_from.recur (k:=q49) (sp:=q117 K) q229 λe hen c_paper_from f fd F=>F.k sc λ_ _ _ s H _ Q _ hr h=>?_
 obtain⟨least,pa,fa,xs,gs,C,ψ,rfl,hpa,hg,hgd,hl,hw,hf,hC,q⟩:=h
 refine⟨_,(q12 (pst 4 sc.nd (pe_fn (q31 z) (hr.mono (ZO (by decide:1<=q49) (WE _ _))) () (pa1 (pv 2))))
 (q12 (ps_if (PW.pt (pw_or (q20 op_eq (pv 1) q13 (q19 _)) (q138 (q118 (q104 (pe_callV (k:=2) 3 (hr.mono (ZO (by decide:2<=q49) (WE _ _))) (pa3 (pv 0) (pe_op q74 (pe_op q30 (pv 0) (pv 1)) q13) (pv 4))))))))
 (q15 (q18 (q29 (pa2 q51 (pv 4)))))
 q21)
 (q12 (pst 5 sc.nd (pe_op q69 (pv 1) q13))
 (q12 (pst 6 sc.nd (pe_fn c_paper_from (hr.mono (ZG _)) () (pa4 (pv 0) (pv 5) (pe_fn (q53 z) (hr.mono (ZO (by decide:1<=q49) (WE _ _))) () (pa1 (pe_fn (q123 z) (hr.mono (ZO (by decide:3<=q49) (WE _ _))) () (pa2 (pv 2) (q29 (pa1 q13)))))) (pv 3))))
 (q12 (pst 7 sc.nd (pe_fn c_paper_from (hr.mono (ZG _)) () (pa4 (pe_op q30 (pv 0) (pv 5)) (pv 5) (pe_fn (q53 z) (hr.mono (ZO (by decide:1<=q49) (WE _ _))) () (pa1 (pe_fn (q123 z) (hr.mono (ZO (by decide:3<=q49) (WE _ _))) () (pa2 (pv 2) (q29 (pa1 q13)))))) (pv 3))))
 (q15 (q18 (q29 (pa4 q51 (pv 4) (pv 6) (pv 7)))))))))),?_⟩
 refine⟨_,rfl,pa,xs,e,gs,rfl,hpa,hg,{},λH1 s1=>?_⟩
 rw[q72 hgd]
 exists _,rfl,rfl,_,rfl
 cases e with
 | zero=>
  refine ite2 (λ_=>?_) (λc=>absurd (ZA rfl) c)
  refine ite2 (λ_=>?_) (λc=>absurd rfl c)
  exact⟨_,rfl,szb rfl,λt ht=>q _ _ (s1.trans (q17 ht _)) ⟨t,rfl,q14⟩⟩
 | succ e=>
  have hp2:=p2pos e
  have e2:(2:Int)^(e+1)=2*2^e:=by rw[YO];exact W19
  refine ite2 (λc=>absurd (V.int.inj (ZE c)) {}) (λ_=>?_)
  have hf1:=hf.same s1
  exists fa,C,ψ,rfl,hf1,_,rfl,_,rfl,_,rfl,_,_,rfl,rfl,_,_,rfl,rfl,_,rfl,[least,least+2^(e+1)-1,((Wh gs).length:Nat)],rfl,hf1,hC _ _ _ (W123 hw) {},_,rfl
  cases hφ:ψ [least,least+2^(e+1)-1,((Wh gs).length:Nat)] with
  | false=>
   refine ite2 (λ_=>?_) (λc=>absurd rfl c)
   have e0:papF (f3 ψ) (e+1) least (Wh gs) = .all ((Wh gs).length:Nat):=by
    unfold papF
    rw[ZI (by show ¬ ψ _=true;rw[hφ];exact fnt)]
   rw[e0]at q
   exact⟨_,rfl,szb rfl,λt ht=>q _ _ (s1.trans (q17 ht _)) ⟨t,rfl,q14⟩⟩
  | true=>
   refine ite2 (λc=>absurd c ∅) (λ_=>?_)
   have e0:papF (f3 ψ) (e+1) least (Wh gs) = .split ((Wh gs).length:Nat) (papF (f3 ψ) e least (halfO e 0 (Wh gs))) (papF (f3 ψ) e (least+2^e) (halfO e 1 (Wh gs))):=by
    rw[papF,ZL (show f3 ψ least (least+2^(e+1)-1) ((Wh gs).length:Nat)=true from hφ)]
   rw[e0]at q
   have hh:(2:Int)^(e+1)/2=2^e:=by rw[YO];exact Int.mul_ediv_cancel _ ∅
   exists _,rfl,_,_,rfl,rfl,⟨∅,∅⟩
   dsimp only
   rw[hh]
   have good1:∀ w,∀ g∈gs.map (led1 e w),GoodS e g:=λw g hg=>by
    obtain⟨g',hg',rfl⟩:=eE hg
    exact q87 (hgd g' hg')
   have el:∀ w:Int,gs.map (ledS (e+1) [w])=gs.map (led1 e w):=λw=>YK λg _=>by rw[q57,q45]
   have lenH:∀ w:Int,(halfO e w (Wh gs)).length<=900:=λw=>ZO q122 hw
   have fl:∀ w,(fillG (gs.map (led1 e w))).length<=100:=λw=>ZO (WP _ _) (by rw[ZJ];exact hl)
   refine⟨_,rfl,_,rfl,_,rfl,szb rfl,λw0 hw0=>?_⟩
   have s2:=q17 hw0 (.tup [V.int 0])
   have hw0':upd H1 w0 (.tup [V.int 0]) w0=some (.tup [V.int 0]):=q14
   generalize upd H1 w0 (.tup [V.int 0])=H2 at *
   have s02:=s1.trans s2
   refine⟨pa,w0,xs,e+1,[0],gs,rfl,s02.seq hpa,hg.same s02,hgd,{},SqT.of hw0',by simp,(λx hx=>by rw[eD hx];exact .inl rfl),λH3 D3 z3 s3 hD3 hD3n hg3=>?_⟩
   rw[el]at hg3
   have hg3':GatAt H3 e z3 (gs.map (led1 e 0)):=hg3
   refine⟨D3,z3,e,_,rfl,SqL.of hD3,hg3',by rw[ZJ];lia,λH4 D4 z4 s4 hD4 hD4n hg4=>?_⟩
   have s04:=(s02.trans s3).trans s4
   refine⟨_,rfl,least,D4,fa,z4,fillG (gs.map (led1 e 0)),C,ψ,rfl,SqL.of hD4,hg4,q46 (good1 0),fl 0,by rw[q64,W_led hgd];exact lenH 0,hf.same s04,hC,λH5 v5 s5 hp5=>?_⟩
   rw[q64,W_led hgd]at hp5
   have s05:=s04.trans s5
   refine⟨_,rfl,_,rfl,_,_,rfl,rfl,_,rfl,_,rfl,szb rfl,λw1 hw1=>?_⟩
   have s6:=q17 hw1 (.tup [V.int 1])
   have hw1':upd H5 w1 (.tup [V.int 1]) w1=some (.tup [V.int 1]):=q14
   generalize upd H5 w1 (.tup [V.int 1])=H6 at *
   have s06:=s05.trans s6
   refine⟨pa,w1,xs,e+1,[1],gs,rfl,s06.seq hpa,hg.same s06,hgd,{},SqT.of hw1',by simp,(λx hx=>by rw[eD hx];exact .inr rfl),λH7 D7 z7 s7 hD7 hD7n hg7=>?_⟩
   rw[el]at hg7
   have hg7':GatAt H7 e z7 (gs.map (led1 e 1)):=hg7
   refine⟨D7,z7,e,_,rfl,SqL.of hD7,hg7',by rw[ZJ];lia,λH8 D8 z8 s8 hD8 hD8n hg8=>?_⟩
   have s58:=(s6.trans s7).trans s8
   refine⟨_,rfl,least+2^e,D8,fa,z8,fillG (gs.map (led1 e 1)),C,ψ,rfl,SqL.of hD8,hg8,q46 (good1 1),fl 1,by rw[q64,W_led hgd];exact lenH 1,hf.same (s05.trans s58),hC,λH9 v9 s9 hp9=>?_⟩
   rw[q64,W_led hgd]at hp9
   have s59:=s58.trans s9
   refine⟨_,rfl,_,rfl,_,rfl,szb rfl,λt ht=>?_⟩
   have s10:=q17 ht (.tup [V.str "split", .int ((Wh gs).length:Nat),v5,v9])
   exact q _ _ ((s05.trans s59).trans s10) ⟨t,v5,v9,rfl,q14,hp5.same (s59.trans s10),hp9.same s10⟩
def q97:z.C P w 45 "told_paper" pn20 (q230 K):=by
 have sc:=q427
 specialize z.d_told_paper
 obtain⟨b,ga,fa,xs,low,L,gs,C,ψ,rfl,hb,hL,hga,hg,hgd,hl,hw,hf,hC,q⟩:=h
 exists _,(q15 (q18 (pfn (q441 z) hr (pa4 (pix q24 (pv 0) q13) (pfn (q33 z) hr (pa1 (pix q24 (pv 0) q13))) (pfn (q53 z) hr (pa1 (pv 1))) (pv 2)))))
 refine⟨_,rfl,b,_,_,_,rfl,rfl,hb,rfl,_,rfl,b,_,_,_,rfl,rfl,hb,rfl,L,rfl,hL,_,rfl,ga,xs,L,gs,rfl,hga,hg,{},λH1 D1 z1 s1 hD1 hD1n hg1=>?_⟩
 refine⟨_,rfl,L,hL,low,D1,fa,z1,fillG gs,C,ψ,rfl,SqL.of hD1,hg1,q46 hgd,ZO (WP _ _) hl,by rw[q64];exact hw,hf.same s1,hC,λH2 v2 s2 hp2=>?_⟩
 rw[q64]at hp2
 exact q H2 v2 (s1.trans s2) hp2
def q602(k:TKeep H H')(h:q142 K H y u):q142 K H' y u:=by
 obtain⟨a,e,h⟩:=h
 rcases h with (h | ⟨o,h⟩) | h
 ·exact⟨a,e,.inl (.inl ((k _ _).1 h))⟩
 ·exact⟨a,e,.inl (.inr ⟨o,(k _ _).2 o h⟩)⟩
 ·exact⟨a,e,.inr h⟩
def q767(k:TKeep H H')(h:Paired (q142 K H) ys us):Paired (q142 K H') ys us:=L2.Paired.mapP h λ_ _ z=>q602 k z
theorem q50{α β:Type}{R:α->β->Prop}:∀{a:List α}{b:List β}{c:List α}{d:List β},Paired R a b->Paired R c d->Paired R (a++c) (b++d)
 | _,_,_,_,.nil,h=>h
 | _,_,_,_,.cons r t,h=>.cons r (q50 t h)
def dec_int(n m:Int):decide (V.int n=V.int m)=decide (n=m):=by
 by_cases c:n=m
 ·rw[c,ZA rfl,ZA rfl]
 ·rw[ZN c,ZN (λz=>c (V.int.inj z))]
noncomputable def q25:Nat->Int->Pp->List TS.I3
 | e,low,.all n=>[(low,low+2^e-1,n)]
 | 0,_,.split _ _ _=>[]
 | e+1,low,.split _ l r=>q25 e low l++q25 e (low+2^e) r
def fitP:Nat->Pp->Prop
 | _,.all _=>True
 | 0,.split _ _ _=>False
 | e+1,.split _ l r=>fitP e l/\fitP e r
theorem q89:∀{e:Nat}{us:List Int}{p:Pp},q67 e us p->fitP e p
 | e,_,.all _,_=>by cases e <;> trivial
 | 0,_,.split _ _ _,h=>h.elim
 | e+1,_,.split _ l r,h=>⟨q89 h.2.1,q89 h.2.2⟩
theorem q66:∀(e:Nat)(low:Int)(p:Pp),(q25 e low p).length<=p.leaves
 | e,_,.all _=>by cases e <;> exact ZG _
 | 0,_,.split _ _ _=>WA _
 | e+1,low,.split _ l r=>by
  show(q25 e low l++q25 e (low+2^e) r).length<=l.leaves+r.leaves
  rw[ZQ]
  exact Nat.add_le_add (q66 e _ l) (q66 e _ r)
def q165(e:Nat)(low n:Int):q25 e low (.all n)=[(low,low+2^e-1,n)]:=by cases e <;> rfl
abbrev q182:Nat:=2
abbrev q183:Nat:=40
inductive q107(K:Fg)(e:Nat)(vs:List V)(H:Hp)(Q:VK)(E:XK):Prop
 |mk(v:V)(p:Pp)(low:Int)(_:vs=[.int low,.int (2^e),v])(_:PpAt H v p)(_:fitP e p)(_:p.leaves<=100000)(_:∀(D:Addr)(zs:List V)(H':Hp),Same H H'->H D=none->H' D=some (.lst zs)->Paired (q142 K H') zs (q25 e low p)->Q (.ref D) H')
def q364(K:Fg):Sp:=λvs H Q E=>∃ e,e<=q183/\q107 K e vs H Q E
inductive q154(K:Fg)(vs:List V)(H:Hp)(Q:VK)(E:XK):Prop
 |mk(b:Addr)(v:V)(p:Pp)(low:Int)(L:Nat)(_:vs=[.ref b,v])(_:SqT K H b [.int low,.int (L:Int)])(_:L<=40)(_:PpAt H v p)(_:fitP L p)(_:p.leaves<=100000)(_:∀(D:Addr)(zs:List V)(H':Hp),Same H H'->H D=none->H' D=some (.lst zs)->Paired (q142 K H') zs (q25 L low p)->Q (.ref D) H')
def q199(s:Same H H')(h:H' c=none):H c=none:=by
 cases z:H c with
 | none=>rfl
 | some o=>rw[s _ _ z]at h;cases h
def q365:z.C P w 43 "closed_from" ["least", "many", "paper"] (q364 K):=by
 have sc:=q353
 refine z.d_closed_from.recur (k:=q182) (sp:=q107 K) q183 λe hen c_closed_from f fd F=>F.k sc λ_ _ _ s H _ Q _ hr h=>?_
 obtain⟨v,p,low,rfl,hp,hf,hlv,q⟩:=h
 refine⟨_,(q12 (ps_if (q104 (pe_fn (q282 z) (hr.mono (ZO (by decide:2<=q182) (WE _ _))) () (pa1 (pv 2))))
 (q15 (q18 (q32 (pa1 (q29 (pa3 (pv 0) (pe_op q74 (pe_op q30 (pv 0) (pv 1)) q13) (pix q24 (pv 2) q13)))))))
 q21)
 (q12 (pst 3 sc.nd (pe_op q69 (pv 1) q13))
 (q15 (q18 (pe_op q109 (pe_fn c_closed_from (hr.mono (ZG _)) () (pa3 (pv 0) (pv 3) (pix q24 (pv 2) q13))) (pe_fn c_closed_from (hr.mono (ZG _)) () (pa3 (pe_op q30 (pv 0) (pv 3)) (pv 3) (pix q24 (pv 2) q13)))))))),?_⟩
 exists _,rfl,v,p,rfl,hp,_,rfl
 cases p with
 | all n=>
  refine ite2 (λ_=>?_) nr
  obtain⟨a,rfl,ha⟩:=id hp
  refine⟨_,rfl,_,rfl,_,rfl,_,_,rfl,rfl,_,_,rfl,rfl,_,rfl,a,_,_,_,rfl,rfl,SqT.of ha,rfl,szb rfl,λt ht=>⟨szb rfl,λD hD=>?_⟩⟩
  have s1:=q17 ht (.tup [V.int low,.int (low+2^e-1),.int n])
  have et:=@q14 H t (.tup [V.int low,.int (low+2^e-1),.int n])
  have s2:=q17 hD (.lst [V.ref t])
  refine q D [.ref t] _ (s1.trans s2) (q199 s1 hD) q14 ?_
  rw[q165]
  exact .cons ⟨t,rfl,SqT.of (s2 _ _ et)⟩ .nil
 | split n l r=>
  refine ite2 nf (λ_=>?_)
  obtain⟨a,x,y,rfl,ha,hx,hy⟩:=id hp
  cases e with
  | zero=>exact hf.elim
  | succ e=>
   have hlv':l.leaves+r.leaves<=100000:=hlv
   have e2:(2:Int)^(e+1)/2=2^e:=by rw[YO];exact W25
   exists _,rfl,_,_,rfl,rfl,⟨∅,∅⟩
   dsimp only
   rw[e2]
   refine⟨_,rfl,_,rfl,_,rfl,a,_,_,_,rfl,rfl,SqT.of ha,rfl,x,l,low,rfl,hx,hf.1,{},λD1 z1 H1 s1 hD1n hD1 hz1=>?_⟩
   refine⟨_,rfl,_,rfl,_,_,rfl,rfl,_,rfl,_,rfl,a,_,_,_,rfl,rfl,SqT.of (s1 _ _ ha),rfl,y,r,low+2^e,rfl,hy.tk (.same s1),hf.2,{},λD2 z2 H2 s2 hD2n hD2 hz2=>?_⟩
   have l1:=Paired.length hz1
   have l2:=Paired.length hz2
   have c1:=q66 e low l
   have c2:=q66 e (low+2^e) r
   refine⟨D1,D2,z1,z2,rfl,rfl,s2 _ _ hD1,hD2,szB {},λD hD=>?_⟩
   have s3:=q17 hD (.lst (z1++z2))
   have s13:=s1.trans (s2.trans s3)
   refine q D (z1++z2) _ s13 (q199 (s1.trans s2) hD) q14 ?_
   exact q50 (q767 (.same (s2.trans s3)) hz1) (q767 (.same s3) hz2)
def q73:z.C P w 44 "closed_parts" ["bounds", "paper"] (q154 K):=by
 have sc:=q325
 specialize z.d_closed_parts
 obtain⟨b,v,p,low,L,rfl,hb,hL,hp,hf,hlv,q⟩:=h
 exists _,(q15 (q18 (pfn (q365 z) hr (pa3 (pix q24 (pv 0) q13) (pfn (q33 z) hr (pa1 (pix q24 (pv 0) q13))) (pv 1)))))
 exact⟨_,rfl,b,_,_,_,rfl,rfl,hb,rfl,_,rfl,b,_,_,_,rfl,rfl,hb,rfl,L,rfl,hL,_,rfl,L,hL,v,p,low,rfl,hp,hf,hlv,q⟩
noncomputable def badC(num:Int)(c:TS.I3):Bool:=decide (0<c.2.2)&&(decide (c.1<num)&&decide (num<=c.2.1))
noncomputable def sumB(num:Int)(cs:List TS.I3):Int:=(cs.map λc=>if c.2.1<num then c.2.2 else 0).sum
noncomputable def dueF(cs:List TS.I3)(num many:Int):Bool:=!(cs.any (badC num))&&decide (sumB num cs=many)
def q506{num:Int}{cs:List TS.I3}{j:Nat}{c:TS.I3}(h:cs[j]? = some c):sumB num (cs.take (j+1))=sumB num (cs.take j)+if c.2.1<num then c.2.2 else 0:=by
 unfold sumB
 rw[YG,h,WK,sum_append]
 simp
def any_next{num:Int}{cs:List TS.I3}{j:Nat}(h:cs[j]? = some c):(cs.take (j+1)).any (badC num)=((cs.take j).any (badC num)||badC num c):=by
 rw[YG,h,any_append]
 simp
def due_bad{num many:Int}{j:Nat}(h:cs[j]? = some c)(hb:badC num c=true):dueF cs num many=false:=by
 unfold dueF
 rw[List.any_eq_true.mpr ⟨c,WY h,hb⟩]
 rfl
def q603{num many:Int}{cs:List TS.I3}(h:cs.any (badC num)=false):dueF cs num many=decide (sumB num cs=many):=by
 unfold dueF
 rw[h]
 rfl
theorem q68{α β:Type}{R:α->β->Prop}:∀{l:List α}{m:List β},Paired R l m -> ∀{i:Nat}{x:α},l[i]? = some x -> ∃ y,m[i]? = some y/\R x y
 | _,_,.nil,_,_,h=>by simp at h
 | _,_,.cons r _,0,_,h=>by cases h;exact⟨_,rfl,r⟩
 | _,_,.cons _ t,i+1,_,h=>q68 t (i:=i) (by simpa using h)
noncomputable def hitC(w:Int)(c:TS.I3):Bool:=decide (c.1=w)&&decide (c.2.1=w)
noncomputable def q43(w:Int):List TS.I3->Option Int
 | []=>none
 | c::cs=>if hitC w c=true then some c.2.2 else q43 w cs
def Chain:Int->List TS.I3->Int->Prop
 | lo,[],hi=>lo=hi
 | lo,c::cs,hi=>c.1=lo/\lo<=c.2.1/\Chain (c.2.1+1) cs hi
theorem Chain.app:∀{a b c:Int}{xs ys:List TS.I3},Chain a xs b->Chain b ys c->Chain a (xs++ys) c
 | _,_,_,[],_,h,k=>by cases h;exact k
 | _,_,_,_::_,_,h,k=>⟨h.1,h.2.1,Chain.app h.2.2 k⟩
theorem q112:∀{e:Nat}{low:Int}{p:Pp},fitP e p->Chain low (q25 e low p) (low+2^e)
 | e,low,.all n,_=>by
  rw[q165]
  have:=p2pos e
  exact⟨rfl,by show low<=low+2^e-1;lia,by show low+2^e-1+1=low+2^e;lia⟩
 | 0,_,.split _ _ _,h=>h.elim
 | e+1,low,.split n l r,h=>by
  have h1:=q112 (low:=low) h.1
  have h2:=q112 (low:=low+2^e) h.2
  have h4:(2:Int)^(e+1)=2^e+2^e:=by rw[YO];lia
  rw[h4,<- Int.add_assoc]
  exact h1.app h2
theorem q200{w:Int}:∀{lo hi:Int}{cs:List TS.I3},Chain lo cs hi->w<lo->sumB w cs=0/\sumB (w+1) cs=0/\cs.any (badC w)=false/\cs.any (badC (w+1))=false/\q43 w cs=none
 | _,_,[],_,_=>⟨rfl,rfl,rfl,rfl,rfl⟩
 | lo,_,c::cs,h,hw=>by
  have i:=q200 (w:=w) h.2.2 (by have:=h.2.1;lia)
  have h1:=h.1
  have h2:=h.2.1
  have e1:sumB w (c::cs)=(if c.2.1<w then c.2.2 else 0)+sumB w cs:=rfl
  have e2:sumB (w+1) (c::cs)=(if c.2.1<w+1 then c.2.2 else 0)+sumB (w+1) cs:=rfl
  have e3:(c::cs).any (badC w)=(badC w c||cs.any (badC w)):=rfl
  have e4:(c::cs).any (badC (w+1))=(badC (w+1) c||cs.any (badC (w+1))):=rfl
  have b1:badC w c=false:=by
   show(decide (0<c.2.2)&&(decide (c.1<w)&&decide (w<=c.2.1)))=false
   rw[ZN (show ¬ c.1<w by lia),YH,YJ]
  have b2:badC (w+1) c=false:=by
   show(decide (0<c.2.2)&&(decide (c.1<w+1)&&decide (w+1<=c.2.1)))=false
   rw[ZN (show ¬ c.1<w+1 by lia),YH,YJ]
  have b3:hitC w c=false:=by
   show(decide (c.1=w)&&decide (c.2.1=w))=false
   rw[ZN (show ¬ c.1=w by lia),YH]
  have e5:q43 w (c::cs)=if hitC w c=true then some c.2.2 else q43 w cs:=rfl
  rw[e1,e2,e3,e4,e5,b1,b2,b3,ZI (show ¬ c.2.1<w by lia),ZI (show ¬ c.2.1<w+1 by lia),i.1,i.2.1,i.2.2.1,i.2.2.2.1,i.2.2.2.2]
  exact⟨rfl,rfl,rfl,rfl,ZI fnt⟩
def chain_ge{w a:Int}:∀{lo hi:Int}{cs:List TS.I3},Chain lo cs hi->q43 w cs=some a->lo<=w:=fun {lo hi cs} h ha=>by
 by_cases c:w<lo
 ·rw[(q200 h c).2.2.2.2]at ha
  cases ha
 ·exact W22 c
def q768{w:Int}{c:TS.I3}(h:hitC w c=true):c.1=w/\c.2.1=w:=by
 have h':(decide (c.1=w)&&decide (c.2.1=w))=true:=h
 rw[WO]at h'
 exact⟨ZE h'.1,ZE h'.2⟩
theorem q341{w a:Int}:∀{lo hi:Int}{cs:List TS.I3},Chain lo cs hi->q43 w cs=some a->cs.any (badC w)=false/\cs.any (badC (w+1))=false/\sumB (w+1) cs=sumB w cs+a
 | _,_,[],_,h=>by cases h
 | lo,_,c::cs,h,ha=>by
  have e1:sumB w (c::cs)=(if c.2.1<w then c.2.2 else 0)+sumB w cs:=rfl
  have e2:sumB (w+1) (c::cs)=(if c.2.1<w+1 then c.2.2 else 0)+sumB (w+1) cs:=rfl
  have e3:(c::cs).any (badC w)=(badC w c||cs.any (badC w)):=rfl
  have e4:(c::cs).any (badC (w+1))=(badC (w+1) c||cs.any (badC (w+1))):=rfl
  have e5:q43 w (c::cs)=if hitC w c=true then some c.2.2 else q43 w cs:=rfl
  rw[e5]at ha
  by_cases hc:hitC w c=true
  ·rw[ZL hc]at ha
   cases ha
   obtain⟨g1,g2⟩:=q768 hc
   have i:=q200 (w:=w) h.2.2 {}
   have b1:badC w c=false:=by
    show(decide (0<c.2.2)&&(decide (c.1<w)&&decide (w<=c.2.1)))=false
    rw[ZN (show ¬ c.1<w by exact W79 g1),YH,YJ]
   have b2:badC (w+1) c=false:=by
    show(decide (0<c.2.2)&&(decide (c.1<w+1)&&decide (w+1<=c.2.1)))=false
    rw[ZN (show ¬ w+1<=c.2.1 by lia),YJ,YJ]
   rw[e1,e2,e3,e4,b1,b2,ZI (show ¬ c.2.1<w by exact W79 g2),ZL (show c.2.1<w+1 by exact W160 g2),i.1,i.2.1,i.2.2.1,i.2.2.2.1]
   exact⟨rfl,rfl,{}⟩
  ·rw[ZI hc]at ha
   have g:=chain_ge h.2.2 ha
   have i:=q341 h.2.2 ha
   have b1:badC w c=false:=by
    show(decide (0<c.2.2)&&(decide (c.1<w)&&decide (w<=c.2.1)))=false
    rw[ZN (show ¬ w<=c.2.1 by lia),YJ,YJ]
   have b2:badC (w+1) c=false:=by
    show(decide (0<c.2.2)&&(decide (c.1<w+1)&&decide (w+1<=c.2.1)))=false
    rw[ZN (show ¬ w+1<=c.2.1 by lia),YJ,YJ]
   rw[e1,e2,e3,e4,b1,b2,ZL (show c.2.1<w by lia),ZL (show c.2.1<w+1 by lia),i.1,i.2.1,i.2.2]
   exact⟨rfl,rfl,{}⟩
def q769{α:Type}{cs:List α}{j:Nat}{c:α}(h:cs[j]? = some c):cs.drop j=c::cs.drop (j+1):=by
 obtain⟨hl,e⟩:=eA h
 rw[drop_eq_getElem_cons hl,e]
theorem q507(w:Int):∀ cs:List TS.I3,((cs.filter λc=>decide (c.2.1<w)).map λc=>c.2.2).sum=sumB w cs
 | []=>rfl
 | c::cs=>by
  have e1:sumB w (c::cs)=(if c.2.1<w then c.2.2 else 0)+sumB w cs:=rfl
  rw[e1,<- q507 w cs]
  by_cases h:c.2.1<w
  ·rw[ZL h,filter_cons_of_pos (by exact ZA h)]
   rfl
  ·rw[ZI h,filter_cons_of_neg (by rw[ZN h];exact fnt),Int.zero_add]
noncomputable def optI:Option Int->V
 | none=>.non
 | some a=>.int a
inductive q184(K:Fg)(vs:List V)(H:Hp)(Q:VK)(E:XK):Prop
 |mk(cl:Addr)(zs:List V)(cs:List TS.I3)(w:Int)(_:vs=[.ref cl,.int w])(_:H cl=some (.lst zs))(_:Paired (q142 K H) zs cs)(_:cs.length<=100000)(_:∀ H',Same H H'->Q (optI (q43 w cs)) H')
def q185:z.C P w 1 "many_closed" ["closed", "worth"] (q184 K):=by
 have sc:=q354
 specialize z.d_many_closed
 obtain⟨cl,zs,cs,wo,rfl,hD,hz,hcl,q⟩:=h
 refine⟨_,(q12 (q61 PassesOwn.never rfl (q34 (pv 0)) (q170 rfl (q28 (pgn 2 sc.nd) (q28 (pgn 3 sc.nd) (q28 (pgn 4 sc.nd) q90))))
 (q15 (ps_if (PW.pt (q450 (q20 op_eq (pv 2) (pv 1) (q19 _)) (q299 (q20 op_eq (pv 3) (pv 1) (q19 _)))))
 (q15 (q18 (pv 4)))
 q21)))
 (q15 (q18 q60))),?_⟩
 refine⟨_,rfl,cl,rfl,⟨_,SqL.of hD⟩,q95 (K:=K) (a:=cl) (xs:=zs) (λj σ G=>∃ w2 w3 w4:Option V,σ=[some (.ref cl),some (.int wo),w2,w3,w4]/\Same H G/\q43 wo cs=q43 wo (cs.drop j)) ⟨_,_,_,rfl,Same.refl _,rfl⟩ (λj σ G _ ⟨_,_,_,_,s,_⟩=>SqL.of (s _ _ hD)) ?_ ?_⟩
 ·rintro j z σ G hj ⟨w2,w3,w4,rfl,sG,hal⟩
  obtain⟨c,gc,t,rfl,ht⟩:=q68 hz hj
  rw[q769 gc]at hal
  have hbe:q43 wo (c::cs.drop (j+1))=if(decide (c.1=wo)&&decide (c.2.1=wo))=true then some c.2.2 else q43 wo (cs.drop (j+1)):=rfl
  rw[hbe]at hal
  exists t,_,rfl,sG.seqT ht,rfl,_,_,rfl,_,_,rfl,_,_,rfl,rfl
  exists _,rfl,_,rfl,rfl,_,rfl
  rw[dec_int]
  by_cases c1:c.1=wo
  ·refine ite2 (λ_=>?_) (na c1)
   exists _,rfl,_,rfl,rfl,_,rfl
   rw[dec_int]
   by_cases c2:c.2.1=wo
   ·refine ite2 (λ_=>?_) (na c2)
    rw[ZA c1,ZA c2]at hal
    have z:=q _ sG
    rw[hal]at z
    exact⟨_,rfl,z⟩
   ·refine ite2 (ny c2) (λ_=>?_)
    rw[ZN c2,YJ]at hal
    exact⟨some (.int c.1),some (.int c.2.1),some (.int c.2.2),rfl,sG,hal⟩
  ·refine ite2 (ny c1) (λ_=>?_)
   rw[ZN c1,YH]at hal
   exact ite2 nf (λ_=>⟨some (.int c.1),some (.int c.2.1),some (.int c.2.2),rfl,sG,hal⟩)
 ·rintro σ G ⟨w2,w3,w4,rfl,sG,hal⟩
  rw[Paired.length hz,drop_length]at hal
  have z:=q _ sG
  rw[hal]at z
  exact z
inductive q186(K:Fg)(vs:List V)(H:Hp)(Q:VK)(E:XK):Prop
 |mk(b ga:Addr)(v:V)(p:Pp)(low num many:Int)(L:Nat)(xs:List V)(gs:List G3)(_:vs=[.ref b,.ref ga,v,.int num,.int many])(_:SqT K H b [.int low,.int (L:Int)])(_:L<=40)(_:H ga=some (.lst xs))(_:GatAt H L xs gs)(_:(∀ g∈gs,GoodS L g))(_:gs.length<=100)(_:PpAt H v p)(_:q67 L (Wh gs) p)(_:p.leaves<=100000)(_:∀ H',Same H H'->Q (.bl (dueF (q25 L low p) num many)) H')
def q366:z.C P w 46 "shows_below" pn7 (q186 K):=by
 have sc:=q355
 specialize z.d_shows_below
 obtain⟨b,ga,v,p,low,num,many,L,xs,gs,rfl,hb,hL,hga,hg,hgd,hgl,hp,hk,hlv,q⟩:=h
 refine⟨_,(q12 (ps_if (q118 (q104 (pfn (q294 z) hr (pa3 (pix q24 (pv 0) q13) (pv 1) (pv 2)))))
 (q15 (q18 pe_bl))
 q21)
 (q12 (pst 5 sc.nd q13)
 (q12 (q61 PassesOwn.never rfl (q34 (pfn (q73 z) hr (pa2 (pv 0) (pv 2)))) (q170 rfl (q28 (pgn 6 sc.nd) (q28 (pgn 7 sc.nd) (q28 (pgn 8 sc.nd) q90))))
 (q12 (q422 (ps_if (PW.pt (q450 (q20 op_gt (pv 8) q13 (q19 _)) (q299 (q559 op_lt op_le (pv 6) (pv 3) (pv 7)))))
 (q15 (q18 pe_bl))
 q21))
 (q15 (ps_if (q20 op_lt (pv 7) (pv 3) (q19 _))
 (q15 (pst 5 sc.nd (pe_op q30 (pv 5) (pv 8))))
 q21))))
 (q15 (q18 (q76 op_eq (pv 5) (pv 4) (q19 _))))))),?_⟩
 refine⟨_,rfl,b,_,_,_,rfl,rfl,hb,rfl,_,rfl,_,rfl,ga,v,p,L,xs,gs,rfl,hL,hga,hg,hgd,hgl,hp,hk,λH1 s1=>⟨_,rfl,?_⟩⟩
 have hf:=q89 hk
 refine iteF ?_
 refine⟨_,rfl,_,rfl,b,v,p,low,L,rfl,s1.seqT hb,hL,hp.tk (.same s1),hf,hlv,λD zs H2 s2 _ hD hz=>?_⟩
 have s12:=s1.trans s2
 generalize q25 L low p=cs at *
 refine⟨D,rfl,⟨_,SqL.of hD⟩,q95 (K:=K) (a:=D) (xs:=zs) (λj σ G=>∃ w6 w7 w8:Option V,σ=[some (.ref b),some (.ref ga),some v,some (.int num),some (.int many),some (.int (sumB num (cs.take j))),w6,w7,w8]/\Same H2 G/\(cs.take j).any (badC num)=false) ⟨_,_,_,rfl,Same.refl _,rfl⟩ (λj σ G _ ⟨_,_,_,_,s,_⟩=>SqL.of (s _ _ hD)) ?_ ?_⟩
 ·rintro j z σ G hj ⟨w6,w7,w8,rfl,sG,hnb⟩
  obtain⟨c,gc,t,rfl,ht⟩:=q68 hz hj
  exists t,_,rfl,sG.seqT ht,rfl,_,_,rfl,_,_,rfl,_,_,rfl,rfl
  have hbe:badC num c=(decide (0<c.2.2)&&(decide (c.1<num)&&decide (num<=c.2.1))):=rfl
  exists λσ G'=>σ=[some (.ref b),some (.ref ga),some v,some (.int num),some (.int many),some (.int (sumB num (cs.take j))),some (.int c.1),some (.int c.2.1),some (.int c.2.2)]/\G'=G/\badC num c=false,?_
  ·exists _,rfl,_,_,rfl,rfl,_,rfl
   by_cases c1:0<c.2.2
   ·refine ite2 (λ_=>?_) (na c1)
    exists _,rfl,_,rfl,_,_,rfl,rfl,_,rfl
    by_cases c2:c.1<num
    ·refine ite2 (λ_=>?_) (na c2)
     exists _,rfl,_,_,rfl,rfl,_,rfl
     by_cases c3:num<=c.2.1
     ·refine ite2 (λ_=>?_) (na c3)
      have z:=q _ (s12.trans sG)
      rw[due_bad gc (by rw[hbe,ZA c1,ZA c2,ZA c3];rfl)]at z
      exact z
     ·refine ite2 (ny c3) (λ_=>⟨rfl,rfl,by rw[hbe,ZN c3,YJ,YJ]⟩)
    ·refine ite2 (ny c2) (λ_=>?_)
     exact⟨_,rfl,ite2 nf (λ_=>⟨rfl,rfl,by rw[hbe,ZN c2,YH,YJ]⟩)⟩
   ·refine ite2 (ny c1) (λ_=>?_)
    exact ite2 nf (λ_=>⟨rfl,rfl,by rw[hbe,ZN c1,YH]⟩)
  ·rintro σ G' ⟨rfl,rfl,hbc⟩
   have hnb':(cs.take (j+1)).any (badC num)=false:=by rw[any_next gc,hnb,hbc];rfl
   refine⟨_,rfl,_,rfl,_,_,rfl,rfl,_,rfl,ite2 (λc4=>?_) (λc4=>?_)⟩
   ·have c4':=ZE c4
    refine⟨_,rfl,_,rfl,_,_,rfl,rfl,some (.int c.1),some (.int c.2.1),some (.int c.2.2),?_,sG,hnb'⟩
    rw[q506 gc,ZL c4']
    rfl
   ·have c4':¬ c.2.1<num:=λz=>c4 (ZA z)
    refine⟨some (.int c.1),some (.int c.2.1),some (.int c.2.2),?_,sG,hnb'⟩
    rw[q506 gc,ZI c4',Int.add_zero]
 ·rintro σ G ⟨w6,w7,w8,rfl,sG,hnb⟩
  rw[Paired.length hz,YQ]at hnb ⊢
  exists _,rfl,_,rfl,rfl
  rw[dec_int,<- q603 hnb]
  exact q _ (s12.trans sG)
noncomputable def q404(k w:Int)(cs:List TS.I3):Bool:=match q43 w cs with
 | none=>false
 | some a=>decide (sumB w cs<=k)&&decide (k<sumB w cs+a)
inductive q187(K:Fg)(vs:List V)(H:Hp)(Q:VK)(E:XK):Prop
 |mk(b ga:Addr)(v:V)(p:Pp)(low k w:Int)(L:Nat)(xs:List V)(gs:List G3)(_:vs=[.ref b,.ref ga,v,.int k,.int w])(_:SqT K H b [.int low,.int (L:Int)])(_:L<=40)(_:H ga=some (.lst xs))(_:GatAt H L xs gs)(_:(∀ g∈gs,GoodS L g))(_:gs.length<=100)(_:PpAt H v p)(_:q67 L (Wh gs) p)(_:p.leaves<=100000)(_:∀ H',Same H H'->Q (.bl (q404 k w (q25 L low p))) H')
def q367:z.C P w 46 "shows_least" pn14 (q187 K):=by
 have sc:=q356
 specialize z.d_shows_least
 obtain⟨b,ga,v,p,low,k,wo,L,xs,gs,rfl,hb,hL,hga,hg,hgd,hgl,hp,hk,hlv,q⟩:=h
 refine⟨_,(q12 (ps_if (q118 (q104 (pfn (q294 z) hr (pa3 (pix q24 (pv 0) q13) (pv 1) (pv 2)))))
 (q15 (q18 pe_bl))
 q21)
 (q12 (pst 5 sc.nd (pfn (q73 z) hr (pa2 (pv 0) (pv 2))))
 (q12 (pst 6 sc.nd (pfn (q185 z) hr (pa2 (pv 5) (pv 4))))
 (q12 (pst 7 sc.nd (q36 (q308 rfl) () z.sum_ q687 (pa1 (q415 (x := "least") (cl:=[("worth", s.heap.objs.size+1+0)]) (cn:=["worth"]) (TN:=["greatest", "things"]) (N:=["worth"]) (fr:=[4]) (sc0:=q16 q128) rfl (q34 (pv 5)) (λC s₂ H₂ fp=>(pv 2)) (λC s₂ H₂ fp=>q688 (q20 op_lt (pv 1) (pv 3) (q19 _))) (λC s₂ H₂ fp=>(q522 (K:=K) (n:=3) rfl rfl (q28 (q105 (i:=0) (show(["least", "greatest", "things", "worth"]:List Str).Nodup by decide +kernel) rfl (Or.inl rfl)) (q28 (q105 (i:=1) (show(["least", "greatest", "things", "worth"]:List Str).Nodup by decide +kernel) rfl (Or.inl rfl)) (q28 (q105 (i:=2) (show(["least", "greatest", "things", "worth"]:List Str).Nodup by decide +kernel) rfl (Or.inl rfl)) q90))))) (by ac_rfl) ⟨by ac_rfl,trivial⟩ rfl rfl rfl ⟨by decide +kernel,by decide +kernel,by decide +kernel,by decide +kernel⟩ rfl))))
 (q15 (q18 (q169 (q76 op_notN (pv 6) q60 (q19 _)) (q300 (q409 op_le op_lt (pv 7) (pv 3) (pe_op q30 (pv 7) (pv 6))))))))))),?_⟩
 refine⟨_,rfl,b,_,_,_,rfl,rfl,hb,rfl,_,rfl,_,rfl,ga,v,p,L,xs,gs,rfl,hL,hga,hg,hgd,hgl,hp,hk,λH1 s1=>⟨_,rfl,?_⟩⟩
 have hf:=q89 hk
 refine iteF ?_
 refine⟨_,rfl,_,rfl,b,v,p,low,L,rfl,s1.seqT hb,hL,hp.tk (.same s1),hf,hlv,λD zs H2 s2 _ hD hz=>?_⟩
 have s12:=s1.trans s2
 have hcl9:=ZO (q66 L low p) hlv
 generalize q25 L low p=cs at *
 have hzl:zs.length=cs.length:=Paired.length hz
 refine⟨_,rfl,_,rfl,D,zs,cs,wo,rfl,hD,hz,hcl9,λH3 s3=>?_⟩
 have hD3:=s3 _ _ hD
 refine⟨_,rfl,D,rfl,⟨_,SqL.of hD3⟩,λl4 hl4=>?_⟩
 refine q239 (xs:=zs) (szB {}) (λj ys H4=>H4=upd H3 l4 (.lst ys)/\ys.length<=j/\ys=(((cs.take j).filter λc=>decide (c.2.1<wo)).map λc=>c.2.2).map V.int) ⟨rfl,ZG _,rfl⟩ (λj ys H4 ⟨e,_⟩=>by rw[e];exact SqL.of (q17 hl4 _ _ _ hD3)) (λj ys H4 ⟨e,h2,_⟩=>⟨by rw[e];exact q14,h2⟩) ?_ ?_
 ·rintro j z ys H4 hzj ⟨rfl,e2,e3⟩
  obtain⟨c,gc,ta,rfl,hta⟩:=q68 hz hzj
  intro vs3 hvs3
  match vs3,hvs3 with
  | [x0,x1,x2],_=>
   exists ta,_,rfl,(s3.trans (q17 hl4 _)).seqT hta,rfl,_,_,rfl,_,_,rfl,_,_,rfl,rfl,⟨[_,_,_],rfl,rfl⟩
   refine⟨_,rfl,_,rfl,_,_,rfl,rfl,_,rfl,ite2 (λc4=>?_) (λc4=>?_)⟩
   ·exists _,rfl,q14,by rw[q103],by rw[ZQ];exact Nat.succ_le_succ e2
    rw[YG,gc,filter_append,WK,WK,<- e3]
    show _=ys++List.map V.int (List.map (λc=>c.2.2) (List.filter (λc=>decide (c.2.1<wo)) [c]))
    rw[filter_cons_of_pos (by exact c4)]
    rfl
   ·exists rfl,Nat.le_succ_of_le e2
    rw[YG,gc,filter_append,WK,WK,<- e3]
    show _=ys++List.map V.int (List.map (λc=>c.2.2) (List.filter (λc=>decide (c.2.1<wo)) [c]))
    rw[filter_cons_of_neg (by exact c4)]
    exact(YN _).symm
 ·rintro ys H4 ⟨rfl,e2,rfl⟩
  rw[hzl,YQ]
  have s4:=q17 hl4 (.lst (((cs.filter λc=>decide (c.2.1<wo)).map λc=>c.2.2).map V.int))
  have e4:=@q14 H3 l4 (.lst (((cs.filter λc=>decide (c.2.1<wo)).map λc=>c.2.2).map V.int))
  exists l4,_,rfl,SqL.of e4
  rw[q507]
  generalize upd H3 l4 (.lst (((cs.filter λc=>decide (c.2.1<wo)).map λc=>c.2.2).map V.int))=H4 at *
  have fin:=q H4 (s12.trans (s3.trans s4))
  unfold q404 at fin
  cases ha:q43 wo cs with
  | none=>
   rw[ha]at fin
   exists _,rfl,rfl,_,rfl
   exact iteF fin
  | some al=>
   rw[ha]at fin
   replace fin:Q (.bl (decide (sumB wo cs<=k)&&decide (k<sumB wo cs+al))) H4:=fin
   refine⟨_,rfl,rfl,_,rfl,iteT ?_⟩
   exists _,rfl,_,rfl,_,_,rfl,rfl,_,rfl
   by_cases c3:sumB wo cs<=k
   ·refine ite2 (λ_=>?_) (na c3)
    rw[ZA c3,Bool.true_and]at fin
    exact⟨_,rfl,_,rfl,_,_,rfl,rfl,_,_,rfl,rfl,fin⟩
   ·refine ite2 (ny c3) (λ_=>?_)
    rw[ZN c3,YH]at fin
    exact fin
noncomputable def Pp.m:Pp->Int
 | .all n=>n
 | .split n _ _=>n
def q545{e:Nat}{us:List Int}{p:Pp}(h:q67 e us p):p.m=(us.length:Int):=by
 cases p with
 | all n=>cases e <;> exact h
 | split n l r=>
  cases e with
  | zero=>exact h.elim
  | succ e=>exact h.1
def PpAt.t1{p:Pp}(h:PpAt H v p):∃ a vs,v = .ref a/\SqT K H a vs/\atI vs 1=some (.int p.m):=by
 cases p with
 | all n=>obtain⟨a,e,h⟩:=h;exact⟨a,_,e,SqT.of h,rfl⟩
 | split n l r=>obtain⟨a,x,y,e,h,_,_⟩:=h;exact⟨a,_,e,SqT.of h,rfl⟩
theorem q770{w:Int}:∀(ns a:List Int),w∈ns.foldl TS.stD a↔w∈a\/w∈ns
 | [],a=>by simp
 | n::ns,a=>by
  rw[foldl_cons,q770 ns]
  have e:w∈TS.stD a n↔w∈a\/w=n:=by
   unfold TS.stD
   split
   ·rename_i h
    obtain⟨x,hx,e⟩:=List.any_eq_true.mp h
    cases beq_iff_eq.mp e
    exact⟨.inl,λz=>z.elim id λz=>by rw[z];exact hx⟩
   ·rw[mem_append,mem_singleton]
  rw[e,mem_cons,or_assoc]
theorem q771:∀(l a:List Int),(l.foldl TS.stD a).length<=a.length+l.length
 | [],a=>ZG _
 | x::l,a=>by
  have z:(TS.stD a x).length<=a.length+1:=by unfold TS.stD;split <;> simp
  have:=q771 l (TS.stD a x)
  rw[foldl_cons,WX]
  exact W131 this z
noncomputable def withM(ws ms:List Int):List P2:=ms.map λw=>(w,((ws.count w:Nat):Int))
def PrR(H:Hp)(v:V)(p:P2):Prop:=∃ a,v = .ref a/\H a=some (.tup [.int p.1,.int p.2])
def PrR.tk(k:TKeep H H')(h:PrR H v p):PrR H' v p:=by
 obtain⟨a,e,h⟩:=h
 exact⟨a,e,(k _ _).1 h⟩
noncomputable def cntI(ns:List Int)(a b:Int):Nat:=ns.countP λn=>decide (a<=n)&&decide (n<=b)
def q405{a b:Int}{ns:List Int}(h:∀ n∈ns,a<=n->n<=b->q n=true):cntI (ns.filter q) a b=cntI ns a b:=by
 unfold cntI
 rw[countP_filter]
 refine countP_congr λn hn=>?_
 constructor
 ·intro z
  rw[WO]at z
  exact z.1
 ·intro z
  rw[WO]
  exists z
  rw[WO]at z
  exact h n hn (ZE z.1) (ZE z.2)
theorem q132:∀{e:Nat}{low:Int}{ns:List Int}{p:Pp},Wths low e ns->q67 e (offs low ns) p -> ∀ c∈q25 e low p,c.2.2=(cntI ns c.1 c.2.1:Int)/\low<=c.1/\c.2.1<low+2^e
 | e,low,ns,.all n,hw,hd,c,hc=>by
  have hn:n=(ns.length:Int):=by
   have:=q545 hd
   rw[ZJ]at this
   exact this
  rw[q165]at hc
  rw[eD hc]
  refine⟨?_,Int.le_refl _,by show low+2^e-1<low+2^e;lia⟩
  show n=(cntI ns low (low+2^e-1):Int)
  unfold cntI
  rw[List.countP_eq_length.mpr λx hx=>by
   have:=hw x hx
   rw[ZA (show low<=x by lia),ZA (show x<=low+2^e-1 by lia)]
   rfl]
  exact hn
 | 0,_,_,.split _ _ _,_,hd,_,_=>hd.elim
 | e+1,low,ns,.split n l r,hw,hd,c,hc=>by
  have h4:(2:Int)^(e+1)=2^e+2^e:=by rw[YO];lia
  have hp:=p2pos e
  have h1:=hd.2.1
  have h2:=hd.2.2
  rw[q764 hw]at h1
  rw[q765 hw]at h2
  have hc':c∈q25 e low l++q25 e (low+2^e) r:=hc
  rcases eC hc' with hc' | hc'
  ·obtain⟨i1,i2,i3⟩:=q132 hw.loH h1 c hc'
   refine⟨?_,i2,{}⟩
   rw[i1,q405 λn _ _ z=>ZA {}]
  ·obtain⟨i1,i2,i3⟩:=q132 hw.hiH h2 c hc'
   refine⟨?_,{},{}⟩
   rw[i1,q405 λn _ z _=>ZA {}]
theorem q201{n:Int}:∀{lo hi:Int}{cs:List TS.I3},Chain lo cs hi->lo<=n->n<hi -> ∃ c∈cs,c.1<=n/\n<=c.2.1
 | lo,hi,[],h,h1,h2=>by
  have:lo=hi:=h
  exact(W191 h2 this h1).elim
 | lo,hi,c::cs,h,h1,h2=>by
  have e1:=h.1
  by_cases k:n<=c.2.1
  ·exact⟨c,WC,{},k⟩
  ·obtain⟨c',hc',z⟩:=q201 h.2.2 {} h2
   exact⟨c',ZX _ hc',z⟩
def cnt_ge{ns:List Int}{a b x:Int}(h1:a<=x)(h2:x<=b):ns.count x<=cntI ns a b:=by
 rw[YE]
 refine countP_mono_left λn _ z=>?_
 have:n=x:=by simpa using z
 rw[this,ZA h1,ZA h2]
 rfl
def q442{ns:List Int}{x:Int}:cntI ns x x=ns.count x:=by
 unfold cntI
 rw[YE]
 refine countP_congr λn _=>?_
 rw[WO,decide_eq_true_iff,decide_eq_true_iff,beq_iff_eq]
 exact W46
theorem q508{w a:Int}:∀{cs:List TS.I3},q43 w cs=some a -> ∃ c∈cs,c.1=w/\c.2.1=w/\c.2.2=a
 | [],h=>by cases h
 | c::cs,h=>by
  have e5:q43 w (c::cs)=if hitC w c=true then some c.2.2 else q43 w cs:=rfl
  rw[e5]at h
  by_cases hc:hitC w c=true
  ·rw[ZL hc]at h
   cases h
   exact⟨c,WC,(q768 hc).1,(q768 hc).2,rfl⟩
  ·rw[ZI hc]at h
   obtain⟨c',hc',z⟩:=q508 h
   exact⟨c',ZX _ hc',z⟩
def OptR(H:Hp)(v:V):Option P2->Prop
 | none=>v = .non
 | some p=>PrR H v p
theorem OptR.tk{H H':Hp}(k:TKeep H H'){v:V}:∀{o:Option P2},OptR H v o->OptR H' v o
 | none,h=>h
 | some _,h=>PrR.tk k h
noncomputable def overC(w m:Int)(c:TS.I3):Bool:=decide (m<c.2.2)||(decide (c.2.2=m)&&decide (c.2.1<w))
noncomputable def mostF(w m:Int)(cs:List TS.I3):Bool:=decide (0<m)&&(decide (q43 w cs=some m)&&!(cs.any (overC w m)))
noncomputable def oftF(part tot:Int):List TS.I3->Option (List P2)
 | []=>some []
 | c::cs=>if tot<c.2.2*part then(if c.1<c.2.1 then none else(oftF part tot cs).map λl=>(c.1,c.2.2)::l)else oftF part tot cs
noncomputable def ansF(o:Option (List P2))(told:List P2):Bool:=match o with
 | none=>false
 | some ps=>decide (ps=told)
def q604(h:Paired (PrR H) xs ps):q309 H xs ps:=by
 refine⟨Paired.length h,λj x q hx hq=>?_⟩
 obtain⟨y,e,r⟩:=q68 h hx
 rw[hq]at e
 cases e
 exact r
theorem q772:∀{a b:List P2},a.Pairwise (λp q=>p.1<q.1)->b.Pairwise (λp q=>p.1<q.1)->(∀ p,p∈a↔p∈b)->a=b
 | [],[],_,_,_=>rfl
 | [],y::b,_,_,h=>absurd ((h y).mpr WC) (by simp)
 | x::a,[],_,_,h=>absurd ((h x).mp WC) (by simp)
 | x::a,y::b,ha,hb,h=>by
  have ha':=List.pairwise_cons.mp ha
  have hb':=List.pairwise_cons.mp hb
  have e:x=y:=by
   rcases eB ((h x).mp WC)with z | z
   ·exact z
   ·rcases eB ((h y).mpr WC)with z2 | z2
    ·exact z2.symm
    ·have h1:=hb'.1 x z
     have h2:=ha'.1 y z2
     exact(W193 h2 h1).elim
  subst e
  congr 1
  refine q772 ha'.2 hb'.2 λp=>?_
  constructor
  ·intro hp
   rcases eB ((h p).mp (ZX _ hp))with z | z
   ·have:=ha'.1 p hp
    rw[z]at this
    lia
   ·exact z
  ·intro hp
   rcases eB ((h p).mpr (ZX _ hp))with z | z
   ·have:=hb'.1 p hp
    rw[z]at this
    lia
   ·exact z
inductive q188(K:Fg)(vs:List V)(H:Hp)(Q:VK)(E:XK):Prop
 |mk(b ga tl:Addr)(v:V)(p:Pp)(low part:Int)(ts:List V)(told:List P2)(L:Nat)(xs:List V)(gs:List G3)(_:vs=[.ref b,.ref ga,v,.int part,.ref tl])(_:H tl=some (.lst ts))(_:Paired (PrR H) ts told)(_:SqT K H b [.int low,.int (L:Int)])(_:L<=40)(_:H ga=some (.lst xs))(_:GatAt H L xs gs)(_:(∀ g∈gs,GoodS L g))(_:gs.length<=100)(_:PpAt H v p)(_:q67 L (Wh gs) p)(_:p.leaves<=90000)(_:(∀ c∈q25 L low p,0<=c.2.2/\c.2.2<=1000))(_:∀ H',Same H H'->Q (.bl (ansF (oftF part p.m (q25 L low p)) told)) H')
def q368:z.C P w 46 "shows_often" pn11 (q188 K):=by
 have sc:=q357
 specialize z.d_shows_often
 obtain⟨b,ga,tl,v,p,low,part,ts,told,L,xs,gs,rfl,htl,hts,hb,hL,hga,hg,hgd,hgl,hp,hk,hlv,hcs,q⟩:=h
 refine⟨_,(q12 (ps_if (q118 (q104 (pfn (q294 z) hr (pa3 (pix q24 (pv 0) q13) (pv 1) (pv 2)))))
 (q15 (q18 pe_bl))
 q21)
 (q12 (pst 5 sc.nd (q32 q11))
 (q12 (q61 PassesOwn.never rfl (q34 (pfn (q73 z) hr (pa2 (pv 0) (pv 2)))) (q170 rfl (q28 (pgn 6 sc.nd) (q28 (pgn 7 sc.nd) (q28 (pgn 8 sc.nd) q90))))
 (q15 (ps_if (q20 op_gt (pe_op q84 (pv 8) (pv 3)) (pix q24 (pv 2) q13) (q19 _))
 (q12 (ps_if (q20 op_lt (pv 6) (pv 7) (q19 _))
 (q15 (q18 pe_bl))
 q21)
 (q15 (q75 (pe_bm WQ WS WT q42 (pv 5) (pa1 (q29 (pa2 (pv 6) (pv 8))))))))
 q21)))
 (q15 (q18 (q76 (op_eqPs hr.units) (pv 5) (pv 4) (q19 _))))))),?_⟩
 refine⟨_,rfl,b,_,_,_,rfl,rfl,hb,rfl,_,rfl,_,rfl,ga,v,p,L,xs,gs,rfl,hL,hga,hg,hgd,hgl,hp,hk,λH1 s1=>⟨_,rfl,?_⟩⟩
 have hf:=q89 hk
 refine iteF ?_
 refine⟨szb rfl,λD0 hD0=>?_⟩
 have s2:=q17 hD0 (.lst [])
 have e2:=@q14 H1 D0 (.lst [])
 generalize upd H1 D0 (.lst [])=H2 at *
 have s02:=s1.trans s2
 refine⟨_,rfl,_,rfl,b,v,p,low,L,rfl,s02.seqT hb,hL,hp.tk (.same s02),hf,{},λD zs H3 s3 hDn hD hz=>?_⟩
 have e3:=s3 _ _ e2
 have hDD:D≠D0:=λz=>by rw[z,e2]at hDn;cases hDn
 have back:∀ G,Keep D0 H3 G->Same H G:=λG k c o h=>k c o (λz=>by have h1:=s1 _ _ h;rw[z,hD0]at h1;cases h1) (s3 _ _ (s02 _ _ h))
 have hcn:=ZO (q66 L low p) hlv
 generalize q25 L low p=cs at *
 refine⟨D,rfl,⟨_,SqL.of hD⟩,q95 (K:=K) (a:=D) (xs:=zs) (λj σ G=>∃(acc:List P2)(fs:List V)(w5 w6 w7:Option V),σ=[some (.ref b),some (.ref ga),some v,some (.int part),some (.ref tl),some (.ref D0),w5,w6,w7]/\Keep D0 H3 G/\G D0=some (.lst fs)/\Paired (PrR G) fs acc/\fs.length<=j/\oftF part p.m cs=(oftF part p.m (cs.drop j)).map λl=>acc++l) ⟨[],[],_,_,_,rfl,Keep.refl _ _,e3,.nil,ZG _,by show oftF part p.m cs=(oftF part p.m cs).map λl=>l;cases oftF part p.m cs <;> rfl⟩ (λj σ G _ ⟨_,_,_,_,_,_,k,_⟩=>SqL.of (k _ _ hDD hD)) ?_ ?_⟩
 ·rintro j z σ G hj ⟨acc,fs,w5,w6,w7,rfl,kG,hG0,hfs,hfl,hof⟩
  have tkG:TKeep H3 G:=.keep kG e3
  obtain⟨c,gc,t,rfl,ht⟩:=q68 hz hj
  have hcb:=hcs c (WY gc)
  have hjl:j<cs.length:=(eA gc).1
  obtain⟨t',et',htG⟩:=q602 (K:=K) tkG ⟨t,rfl,ht⟩
  cases et'
  obtain⟨ap,vsp,ev,hpa,hat1⟩:=(hp.tk (.same (back G kG))).t1 (K:=K)
  subst ev
  rw[q769 gc]at hof
  have hbe:oftF part p.m (c::cs.drop (j+1))=if p.m<c.2.2*part then(if c.1<c.2.1 then none else(oftF part p.m (cs.drop (j+1))).map λl=>(c.1,c.2.2)::l)else oftF part p.m (cs.drop (j+1)):=rfl
  rw[hbe]at hof
  exists t,_,rfl,htG,rfl,_,_,rfl,_,_,rfl,_,_,rfl,rfl
  refine⟨_,rfl,_,rfl,_,_,rfl,rfl,.inl ⟨{},{}⟩,_,rfl,ap,vsp,_,_,rfl,rfl,hpa,hat1,_,_,rfl,rfl,_,rfl,ite2 (λk=>?_) (λk=>?_)⟩
  ·rw[ZL (ZE k)]at hof
   refine⟨_,rfl,_,rfl,_,_,rfl,rfl,_,rfl,ite2 (λk2=>?_) (λk2=>?_)⟩
   ·rw[ZL (ZE k2)]at hof
    have fin:=q G (back G kG)
    rw[hof]at fin
    exact fin
   ·rw[ZI λz=>k2 (ZA z)]at hof
    refine⟨_,rfl,.inl ⟨rfl,_,SqL.of hG0⟩,_,rfl,_,rfl,szb rfl,λa ha=>?_⟩
    have t2:=q17 ha (.tup [V.int c.1,.int c.2.2])
    have e2':upd G a (.tup [V.int c.1,.int c.2.2]) a=some (.tup [V.int c.1,.int c.2.2]):=q14
    generalize upd G a (.tup [V.int c.1,.int c.2.2])=G2 at *
    have hG2:=t2 _ _ hG0
    have tk3:TKeep G2 (upd G2 D0 (.lst (fs++[.ref a]))):=TKeep.set hG2
    exists D0,fs,.ref a,rfl,rfl,hG2,Nat.lt_of_le_of_lt hfl (WG hjl (szB {}))
    exists acc++[(c.1,c.2.2)],fs++[.ref a],_,_,_,rfl,λc' o' n h=>by rw[q27 n];exact t2 _ _ (kG _ _ n h),q14,q50 (L2.Paired.mapP hfs λ_ _ z=>(z.tk (.same t2)).tk tk3) (.cons ⟨a,rfl,(tk3 _ _).1 e2'⟩ .nil),by rw[ZQ];exact Nat.succ_le_succ hfl
    rw[hof]
    cases oftF part p.m (cs.drop (j+1)) with
    | none=>rfl
    | some l=>show some (acc++((c.1,c.2.2)::l))=some (acc++[(c.1,c.2.2)]++l);rw[YF];rfl
  ·rw[ZI λz=>k (ZA z)]at hof
   exact⟨acc,fs,_,_,_,rfl,kG,hG0,hfs,Nat.le_succ_of_le hfl,hof⟩
 ·rintro σ G ⟨acc,fs,w5,w6,w7,rfl,kG,hG0,hfs,hfl,hof⟩
  rw[Paired.length hz,drop_length]at hof
  have sb:=back G kG
  exists _,rfl,_,rfl,D0,tl,fs,ts,acc,told,rfl,rfl,SqL.of hG0,SqL.of (sb _ _ htl),q604 hfs,q604 (L2.Paired.mapP hts λ_ _ z=>z.tk (.same sb))
  have fin:=q G sb
  rw[hof]at fin
  replace fin:Q (.bl (decide (acc++[]=told))) G:=fin
  rw[YN]at fin
  exact fin
noncomputable def abvC(n:Int)(c:TS.I3):Bool:=decide (0<c.2.2)&&decide (n<c.2.1)
noncomputable def upF(n:Int)(cs:List TS.I3):Option P2->Bool
 | none=>!(cs.any (abvC n))
 | some q=>decide (n<q.1)&&(decide (0<q.2)&&(decide (q43 q.1 cs=some q.2)&&!(cs.any λc=>abvC n c&&decide (c.1<q.1))))
inductive q342(K:Fg)(vs:List V)(H:Hp)(Q:VK)(E:XK):Prop
 |mk(b ga:Addr)(v tv:V)(p:Pp)(low n:Int)(told:Option P2)(L:Nat)(xs:List V)(gs:List G3)(_:vs=[.ref b,.ref ga,v,.int n,tv])(_:OptR H tv told)(_:SqT K H b [.int low,.int (L:Int)])(_:L<=40)(_:H ga=some (.lst xs))(_:GatAt H L xs gs)(_:(∀ g∈gs,GoodS L g))(_:gs.length<=100)(_:PpAt H v p)(_:q67 L (Wh gs) p)(_:p.leaves<=100000)(_:∀ H',Same H H'->Q (.bl (upF n (q25 L low p) told)) H')
def q546:z.C P w 46 "shows_up" pn8 (q342 K):=by
 have sc:=q530
 specialize z.d_shows_up
 obtain⟨b,ga,v,tv,p,low,n,told,L,xs,gs,rfl,ht0,hb,hL,hga,hg,hgd,hgl,hp,hk,hlv,q⟩:=h
 refine⟨_,(q12 (ps_if (q118 (q104 (pfn (q294 z) hr (pa3 (pix q24 (pv 0) q13) (pv 1) (pv 2)))))
 (q15 (q18 pe_bl))
 q21)
 (q12 (pst 5 sc.nd (pfn (q73 z) hr (pa2 (pv 0) (pv 2))))
 (q12 (q462 (i:=6) (cl:=[("number", s.heap.objs.size+1+0)]) (cn:=["number"]) (N:=["number"]) (fr:=[3]) (sc0:=q16 q161) sc.nd rfl (Or.inl rfl) rfl (q34 (pv 5)) (λC s₂ H₂ fp=>(pv 0)) (λC s₂ H₂ fp=>(PW.pt (q450 (q20 op_gt (pix (q194 (K:=K) rfl) (pv 0) q13) q13 (q19 _)) (q299 (q20 op_gt (pix (q194 (K:=K) rfl) (pv 0) q13) (pv 1) (q19 _)))))) (by ac_rfl) ⟨by ac_rfl,trivial⟩ rfl rfl rfl cok rfl (by ac_rfl) (.inl rfl))
 (q12 (ps_if (q20 q261 (pv 4) q60 (q19 _))
 (q15 (q18 (q76 op_eq (pln z.len_ (pa1 (pv 6))) q13 (q19 _))))
 q21)
 (q12 (pst 7 sc.nd (pix q24 (pv 4) q13))
 (q12 (ps_if (PW.pt (pw_or (q20 op_le (pv 7) (pv 3) (q19 _)) (pw_or (q20 op_le (pix q24 (pv 4) q13) q13 (q19 _)) (q138 (q20 op_ne (pfn (q185 z) hr (pa2 (pv 5) (pv 7))) (pix q24 (pv 4) q13) (q19 _))))))
 (q15 (q18 pe_bl))
 q21)
 (q15 (q18 (q36 (call_all rfl) () z.all_ bt_all (pa1 (q415 (x := "least") (cl:=[("worth", s.heap.objs.size+1+1)]) (cn:=["worth"]) (TN:=["greatest", "things"]) (N:=["worth"]) (fr:=[7]) (sc0:=q16 q161) rfl (q34 (pv 6)) (λC s₂ H₂ fp=>(q76 op_ge (pv 0) (pv 3) (q19 _))) (λC s₂ H₂ fp=>q519) (λC s₂ H₂ fp=>(q522 (K:=K) (n:=3) rfl rfl (q28 (q105 (i:=0) (show(["least", "greatest", "things", "worth"]:List Str).Nodup by decide +kernel) rfl (Or.inl rfl)) (q28 (q105 (i:=1) (show(["least", "greatest", "things", "worth"]:List Str).Nodup by decide +kernel) rfl (Or.inl rfl)) (q28 (q105 (i:=2) (show(["least", "greatest", "things", "worth"]:List Str).Nodup by decide +kernel) rfl (Or.inl rfl)) q90))))) (by ac_rfl) ⟨by ac_rfl,trivial⟩ rfl rfl rfl ⟨by decide +kernel,by decide +kernel,by decide +kernel,by decide +kernel⟩ rfl))))))))))),?_⟩
 refine⟨_,rfl,b,_,_,_,rfl,rfl,hb,rfl,_,rfl,_,rfl,ga,v,p,L,xs,gs,rfl,hL,hga,hg,hgd,hgl,hp,hk,λH1 s1=>⟨_,rfl,?_⟩⟩
 have hf:=q89 hk
 refine iteF ?_
 refine⟨_,rfl,_,rfl,b,v,p,low,L,rfl,s1.seqT hb,hL,hp.tk (.same s1),hf,hlv,λD zs H2 s2 _ hD hz=>?_⟩
 have s12:=s1.trans s2
 have hcl9:=ZO (q66 L low p) hlv
 generalize q25 L low p=cs at *
 have hzl:zs.length=cs.length:=Paired.length hz
 refine⟨_,rfl,D,rfl,⟨_,SqL.of hD⟩,λD3 hD3=>?_⟩
 refine q140 (K:=K) (xs:=zs) (szB {}) (λi ys G=>G=upd H2 D3 (.lst ys)/\ys.length<=i/\Paired (q142 K H2) ys ((cs.take i).filter (abvC n))) ⟨rfl,ZG _,.nil⟩ (λi ys G ⟨e,_⟩=>by rw[e];exact SqL.of (q17 hD3 _ _ _ hD)) (λi ys G ⟨e,e2,_⟩=>⟨by rw[e];exact q14,e2⟩) ?_ ?_
 ·rintro i z ys G hzi ⟨rfl,e2,e3⟩
  obtain⟨c,gc,t,rfl,ht⟩:=q68 hz hzi
  have hlt:=(eA hzi).1
  have ht':=(q17 hD3 (.lst ys)).seqT ht
  have et:(cs.take (i+1)).filter (abvC n)=(cs.take i).filter (abvC n)++[c].filter (abvC n):=by rw[YG,gc,filter_append];rfl
  have hbe:abvC n c=(decide (0<c.2.2)&&decide (n<c.2.1)):=rfl
  have no:abvC n c=false->Paired (q142 K H2) ys ((cs.take (i+1)).filter (abvC n)):=λe=>by
   rw[et,filter_cons_of_neg (by rw[e];exact fnt),filter_nil,YN]
   exact e3
  exists _,rfl,t,_,_,_,rfl,rfl,ht',rfl,_,_,rfl,rfl,_,rfl
  by_cases c1:0<c.2.2
  ·refine ite2 (λ_=>?_) (na c1)
   exists _,rfl,t,_,_,_,rfl,rfl,ht',rfl,_,rfl,_,_,rfl,rfl,_,rfl
   by_cases c2:n<c.2.1
   ·refine ite2 (λ_=>?_) (na c2)
    exists _,rfl,q14,by rw[q103],by rw[ZQ];exact Nat.succ_le_succ e2
    rw[et,filter_cons_of_pos (by rw[hbe,ZA c1,ZA c2];rfl)]
    exact q50 e3 (.cons ⟨t,rfl,ht⟩ .nil)
   ·refine ite2 (ny c2) (λ_=>?_)
    exact⟨_,(W1 hlt),rfl,(W21 hlt),rfl,Nat.le_succ_of_le e2,no (by rw[hbe,ZN c2,YJ])⟩
  ·refine ite2 (ny c1) (λ_=>?_)
   refine ite2 nf (λ_=>?_)
   exact⟨_,(W1 hlt),rfl,(W21 hlt),rfl,Nat.le_succ_of_le e2,no (by rw[hbe,ZN c1,YH])⟩
 rintro ys G ⟨rfl,e2,e3⟩
 rw[hzl,YQ]at e3
 have s3:=q17 hD3 (.lst ys)
 have eD3:=@q14 H2 D3 (.lst ys)
 generalize upd H2 D3 (.lst ys)=H3 at *
 have s13:=s12.trans s3
 have hyl:ys.length=(cs.filter (abvC n)).length:=Paired.length e3
 cases told with
 | none=>
  cases(show tv = .non from ht0)
  refine⟨_,rfl,rfl,_,rfl,iteT ?_⟩
  exists _,rfl,D3,_,rfl,.inl (SqL.of eD3),rfl
  rw[dec_int]
  have fin:=q H3 s13
  have e:upF n cs none=decide ((ys.length:Int)=0):=by
   show(!(cs.any (abvC n)))=_
   rw[hyl]
   cases z:cs.any (abvC n) with
   | true=>
    obtain⟨c,hc,hab⟩:=List.any_eq_true.mp z
    have:0<(cs.filter (abvC n)).length:=List.length_pos_iff.mpr λy=>by
     have:=List.mem_filter.mpr ⟨hc,hab⟩
     rw[y]at this
     cases this
    rw[ZN {}]
    rfl
   | false=>
    have:cs.filter (abvC n)=[]:=List.filter_eq_nil_iff.mpr λc hc y=>by
     rw[List.any_eq_true.mpr ⟨c,hc,y⟩]at z
     cases z
    rw[this]
    rfl
  rw[e]at fin
  exact fin
 | some r=>
  obtain⟨a0,rfl,ha0⟩:PrR H tv r:=ht0
  have ha3:=s13 _ _ ha0
  refine⟨_,rfl,rfl,_,rfl,iteF ?_⟩
  exists _,rfl,a0,_,_,_,rfl,rfl,SqT.of ha3,rfl
  have eU:upF n cs (some r)=(decide (n<r.1)&&(decide (0<r.2)&&(decide (q43 r.1 cs=some r.2)&&!(cs.any λc=>abvC n c&&decide (c.1<r.1))))):=rfl
  have fin3:=q H3 s13
  exists _,rfl,_,rfl,_,_,rfl,rfl,_,rfl
  by_cases c1:r.1<=n
  ·refine ite2 (λ_=>?_) (na c1)
   refine ite2 (λ_=>?_) nr
   rw[eU,ZN (show ¬ n<r.1 by exact W117 c1),YH]at fin3
   exact fin3
  refine ite2 (ny c1) (λ_=>?_)
  exists _,rfl,a0,_,_,_,rfl,rfl,SqT.of ha3,rfl,_,_,rfl,rfl,_,rfl
  by_cases c2:r.2<=0
  ·refine ite2 (λ_=>?_) (na c2)
   refine ite2 (λ_=>?_) nr
   rw[eU,ZN (show ¬ 0<r.2 by lia),YH,YJ]at fin3
   exact fin3
  refine ite2 (ny c2) (λ_=>?_)
  rw[ZA (show n<r.1 by exact W59 c1),ZA (show 0<r.2 by lia),Bool.true_and,Bool.true_and]at eU
  have hz3:Paired (q142 K H3) zs cs:=L2.Paired.mapP hz λ_ _ z=>q602 (.same s3) z
  refine⟨_,rfl,_,rfl,D,zs,cs,r.1,rfl,s3 _ _ hD,hz3,hcl9,λH4 s4=>?_⟩
  have s14:=s13.trans s4
  have ha4:=s14 _ _ ha0
  exists _,rfl,a0,_,_,_,rfl,rfl,SqT.of ha4,rfl
  by_cases ha:q43 r.1 cs=some r.2
  ·rw[ha,ZA rfl,Bool.true_and]at eU
   rw[ha]
   exists rfl,_,rfl
   refine ite2 (λz=>absurd z (by rw[show optI (some r.2)=V.int r.2 from rfl,ZA (show V.int r.2=V.int r.2 from rfl)];exact fnt)) (λ_=>?_)
   have eD4:=s4 _ _ eD3
   have e34:Paired (q142 K H4) ys (cs.filter (abvC n)):=L2.Paired.mapP e3 λ_ _ z=>q602 (.same (s3.trans s4)) z
   refine⟨_,rfl,D3,rfl,⟨_,SqL.of eD4⟩,λD5 hD5=>?_⟩
   refine q239 (xs:=ys) (szB {}) (λj us G=>G=upd H4 D5 (.lst us)/\us.length<=j/\us=(((cs.filter (abvC n)).take j).map λc=>decide (r.1<=c.1)).map V.bl) ⟨rfl,ZG _,rfl⟩ (λj us G ⟨e,_⟩=>by rw[e];exact SqL.of (q17 hD5 _ _ _ eD4)) (λj us G ⟨e,h2,_⟩=>⟨by rw[e];exact q14,h2⟩) ?_ ?_
   ·rintro j z us G hzj ⟨rfl,e2',e3'⟩
    obtain⟨c,gc,ta,rfl,hta⟩:=q68 e34 hzj
    intro vs3 hvs3
    match vs3,hvs3 with
    | [x0,x1,x2],_=>
     refine⟨ta,_,rfl,(q17 hD5 _).seqT hta,rfl,_,_,rfl,_,_,rfl,_,_,rfl,rfl,⟨[_,_,_],rfl,rfl⟩,iteT ?_⟩
     exists _,rfl,_,rfl,_,_,rfl,rfl,q14,by rw[q103],by rw[ZQ];exact Nat.succ_le_succ e2'
     rw[YG,gc,WK,WK,<- e3']
     rfl
   ·rintro us G ⟨rfl,e2',rfl⟩
    rw[hyl,YQ]
    have s5:=q17 hD5 (.lst (((cs.filter (abvC n)).map λc=>decide (r.1<=c.1)).map V.bl))
    exists D5,_,rfl,SqL.of q14
    have fin:=q _ (s14.trans s5)
    have ee:(((cs.filter (abvC n)).map λc=>decide (r.1<=c.1)).all id) = !(cs.any λc=>abvC n c&&decide (c.1<r.1)):=by
     cases z:cs.any λc=>abvC n c&&decide (c.1<r.1) with
     | true=>
      obtain⟨c,hc,hab⟩:=List.any_eq_true.mp z
      rw[WO]at hab
      show _=false
      rw[all_eq_false]
      exact⟨_,List.mem_map.mpr ⟨c,List.mem_filter.mpr ⟨hc,hab.1⟩,rfl⟩,by
       have:=ZE hab.2
       show ¬ decide (r.1<=c.1)=true
       rw[ZN (W47 this)]
       exact fnt⟩
     | false=>
      show _=true
      rw[all_eq_true]
      intro y hy
      obtain⟨c,hc,rfl⟩:=eE hy
      obtain⟨hc1,hc2⟩:=List.mem_filter.mp hc
      by_cases y2:r.1<=c.1
      ·exact ZA y2
      ·rw[List.any_eq_true.mpr ⟨c,hc1,by rw[hc2,ZA (show c.1<r.1 by exact W59 y2)];rfl⟩]at z
       cases z
    rw[eU,<- ee]at fin
    exact fin
  ·rw[ZN ha,YH]at eU
   have fin:=q H4 s14
   rw[eU]at fin
   cases hal:q43 r.1 cs with
   | none=>
    exists rfl,_,rfl
    exact ite2 (λ_=>fin) nr
   | some al=>
    exists rfl,_,rfl
    have hne:¬ V.int al=V.int r.2:=λz=>ha (by rw[hal,V.int.inj z])
    exact ite2 (λ_=>fin) (λz=>absurd (by rw[show optI (some al)=V.int al from rfl,ZN hne];rfl) z)
noncomputable def tbQ:List (Addr×Pos×Str):=[(370,⟨297,41,297,114⟩, "paper_below.<locals>.<lambda>"),(377,⟨300,41,300,99⟩, "paper_least.<locals>.<lambda>"),(384,⟨303,41,303,94⟩, "paper_often.<locals>.<lambda>"),(391,⟨307,4,310,49⟩, "paper_up.<locals>.must_split")]
noncomputable def Tbs(H:Hp):Prop:=∀ q∈tbQ,Tab H q.1 q.2.1 q.2.2
def KpT(H H':Hp):Prop:=∀ a o,(∀ ps,o ≠ .tbl ps)->H a=some o->H' a=some o
def Tbs.same(t:Tbs H)(s:Same H H'):Tbs H':=λq hq=>(t q hq).same s
def KpT.of(s:Same H H'):KpT H H':=λa o _ e=>s a o e
def KpT.trans(a:KpT H H1)(b:KpT H1 H2):KpT H H2:=λc o n e=>b c o n (a c o n e)
def KpT.tk(k:KpT H H'):TKeep H H':=λ_ _=>⟨λh=>k _ _ (by intro _ z;cases z) h,λ_ h=>k _ _ (by intro _ z;cases z) h⟩
def KpT.l(k:KpT H H')(h:H a=some (.lst xs)):H' a=some (.lst xs):=k _ _ (by intro _ z;cases z) h
def KpT.t(k:KpT H H')(h:H a=some (.tup xs)):H' a=some (.tup xs):=k _ _ (by intro _ z;cases z) h
def tb_one:∀ q∈tbQ,∀ q'∈tbQ,q.1=q'.1->q=q':=by decide +kernel
def Tbs.step{q0:Addr×Pos×Str}(h0:q0∈tbQ)(t:Tbs H)(kp:∀ b o,b≠q0.1->H b=some o->H1 b=some o)(h1:Tab H1 q0.1 q0.2.1 q0.2.2)(s:Same H1 H3):KpT H H3/\Tbs H3:=by
 obtain⟨ps0,e0,_⟩:=t q0 h0
 have k1:∀ a o,(∀ ps,o ≠ .tbl ps)->H a=some o->H1 a=some o:=λa o n e=>kp a o (λz=>by
  subst z
  rw[e0]at e;cases e;exact n _ rfl) e
 refine⟨λa o n e=>s _ _ (k1 a o n e),λq hq=>?_⟩
 by_cases c:q.1=q0.1
 ·rw[tb_one q hq q0 h0 c]
  exact h1.same s
 ·obtain⟨ps,e,h2,h3⟩:=t q hq
  refine Tab.same ⟨ps,kp _ _ c e,h2,?_⟩ s
  rcases h3 with h | ⟨c',oc,vs,tq,a,b,d⟩
  ·exact .inl h
  ·exact .inr ⟨c',oc,vs,tq,a,k1 _ _ (by intro _ z;cases z) b,d⟩
noncomputable def psB(num:Int):List Int->Bool
 | [a,b,c]=>decide (0<c)&&(decide (a<num)&&decide (num<=b))
 | _=>false
noncomputable def psL(wo:Int):List Int->Bool
 | [a,b,_]=>decide (a<=wo)&&decide (wo<=b)
 | _=>false
noncomputable def psM(wo m:Int):List Int->Bool
 | [a,b,c]=>if b<wo then decide (m<=c)else if wo<a then decide (m<c)else true
 | _=>false
noncomputable def psO(part W:Int):List Int->Bool
 | [_,_,c]=>decide (W<c*part)
 | _=>false
noncomputable def psU(n:Int)(f:Option P2):List Int->Bool
 | [a,b,c]=>if c=0\/b<=n then false else match f with
  | none=>true
  | some q=>decide (a<=q.1)
 | _=>false
structure Gth(K:Fg)(H:Hp)(b ga:Addr)(xs:List V)(low:Int)(L:Nat)(gs:List G3):Prop where
 b:H b=some (.tup [.int low,.int (L:Int)])
 le:L<=40
 g:H ga=some (.lst xs)
 at_:GatAt H L xs gs
 gd:∀ g∈gs,GoodS L g
 ln:gs.length<=100
 few:(Wh gs).length<=900
 tb:Tbs H
def Gth.kp{K:Fg}{H H':Hp}{b ga:Addr}{xs:List V}{low:Int}{L:Nat}{gs:List G3}(g:Gth K H b ga xs low L gs)(k:KpT H H')(t:Tbs H'):Gth K H' b ga xs low L gs:=⟨k.t g.b,g.le,k.l g.g,g.at_.tk k.tk,g.gd,g.ln,g.few,t⟩
noncomputable def ToldP(low:Int)(L:Nat)(gs:List G3)(ψ:List Int->Bool)(H:Hp)(Q:VK):Prop:=∀(H':Hp)(v:V),KpT H H'->Tbs H'->PpAt H' v (papF (f3 ψ) L low (Wh gs))->Q v H'
inductive q189(K:Fg)(vs:List V)(H:Hp)(Q:VK)(E:XK):Prop
 |mk(b ga:Addr)(xs:List V)(low num:Int)(L:Nat)(gs:List G3)(_:vs=[.ref b,.ref ga,.int num])(_:Gth K H b ga xs low L gs)(_:ToldP low L gs (psB num) H Q)
inductive q190(K:Fg)(vs:List V)(H:Hp)(Q:VK)(E:XK):Prop
 |mk(b ga:Addr)(xs:List V)(low part:Int)(L:Nat)(gs:List G3)(_:vs=[.ref b,.ref ga,.int part])(_:Gth K H b ga xs low L gs)(_:0<=part)(_:part<=1000)(_:ToldP low L gs (psO part ((Wh gs).length:Nat)) H Q)
inductive q343(K:Fg)(vs:List V)(H:Hp)(Q:VK)(E:XK):Prop
 |mk(b ga:Addr)(xs:List V)(low num:Int)(L:Nat)(gs:List G3)(_:vs=[.ref b,.ref ga,.int num])(_:Gth K H b ga xs low L gs)(_:ToldP low L gs (psU num ((stp L low (Wh gs)).find? λq=>decide (num<q.1))) H Q)
inductive q191(K:Fg)(vs:List V)(H:Hp)(Q:VK)(E:XK):Prop
 |mk(b ga:Addr)(xs:List V)(low:Int)(kn L:Nat)(gs:List G3)(_:vs=[.ref b,.ref ga,.int (kn:Int)])(_:Gth K H b ga xs low L gs)(_:kn<(Wh gs).length)(_:ToldP low L gs (psL (low+kth L (Wh gs) kn)) H Q)
def q369:z.C P w 47 "paper_below" pn0 (q189 K):=by
 have sc:=q359
 refine z.d_paper_below.cal sc (λvs H Q E h=>?_) (λf A outer s H vs Q E hr h=>?_)
 ·obtain⟨b,ga,xs,low,num,L,gs,rfl,_⟩:=h
  rfl
 obtain⟨b,ga,xs,low,num,L,gs,rfl,g,q⟩:=h
 exists _,(q15 (q18 (q583 (cl:=[("number", s.heap.objs.size+1)]) (is:=[2]) (q97 z) hr.m () ⟨⟨rfl,rfl,rfl,rfl⟩,trivial⟩ (pa3 (pv 0) (pv 1) (q724 rfl z.d_paper_below.hd z.bmn rfl rfl rfl)))))
 refine⟨_,rfl,_,rfl,g.tb _ (.head _),λfa c oc vs tq pm ctv H1 hfn hf hc hd hv hT1 kp=>⟨[.int num],rfl,λH2 s2 hcells=>?_⟩⟩
 have k1:=(g.tb.step (.head _) kp hT1 (Same.refl _))
 have g2:=(g.kp k1.1 k1.2).kp (.of s2) (k1.2.same s2)
 refine⟨b,ga,fa,xs,low,L,gs,λns=>∃ a b c:Int,ns=[a,b,c],psB num,rfl,SqT.of g2.b,g2.le,SqL.of g2.g,g2.at_,g2.gd,g2.ln,g2.few,q723 _ (.nil _) (ps:=["least", "greatest", "things"]) (ys:=["number"]) lsc rfl (by simp) (s2 _ _ hf) (s2 _ _ hc) hd hv hcells (mt3 λ_ _ _=>rfl) (λns ⟨a,b,c,e⟩=>by rw[e];rfl) ?_,λa b c _ _=>⟨a,b,c,rfl⟩,λH' v s' hp H3 bk=>?_⟩
 ·intro P w mg base A outer s
  exists _,q169 (q76 op_gt (pv 2) q13 (q19 _)) (q300 (q409 op_lt op_le (pv 0) (pv 3) (pv 1)))
  rintro ns ⟨a,b,c,rfl⟩
  exists _,rfl,_,_,rfl,rfl,_,rfl
  refine ite2 (λh=>?_) (λh=>?_)
  ·exists _,rfl,_,rfl,_,_,rfl,rfl,_,rfl
   refine ite2 (λh'=>⟨_,rfl,_,_,rfl,rfl,?_⟩) (λh'=>?_)
   ·show V.bl _=V.bl (decide (0<c)&&(decide (a<num)&&decide (num<=b)))
    rw[show decide (0<c)=true from h,show decide (a<num)=true from h',Bool.true_and,Bool.true_and]
   ·show V.bl _=V.bl (decide (0<c)&&(decide (a<num)&&decide (num<=b)))
    rw[show decide (a<num)=false from Bool.eq_false_iff.mpr h',YH,YJ]
  ·show V.bl _=V.bl (decide (0<c)&&(decide (a<num)&&decide (num<=b)))
   rw[show decide (0<c)=false from Bool.eq_false_iff.mpr h,YH]
 ·have s13:Same H1 H3:=λb o e=>bk _ _ (s' _ _ (s2 _ _ e)) (.inl (by rw[e];simp))
  have k3:=g.tb.step (.head _) kp hT1 s13
  exact q H3 v k3.1 k3.2 (hp.tp λb xs e=>bk _ _ e (.inr (by intro _ _ z;cases z)))
def q370:z.C P w 47 "paper_often" pn12 (q190 K):=by
 have sc:=q361
 refine z.d_paper_often.cal sc (λvs H Q E h=>?_) (λf A outer s H vs Q E hr h=>?_)
 ·obtain⟨b,ga,xs,low,part,L,gs,rfl,_⟩:=h
  rfl
 obtain⟨b,ga,xs,low,part,L,gs,rfl,g,p0,p1,q⟩:=h
 refine⟨_,(q12 (pst 3 sc.nd (pfn (q31 z) hr (pa1 (pv 1))))
 (q15 (q18 (q583 (cl:=[("whole", s.heap.objs.size+2),("part", s.heap.objs.size+1)]) (is:=[3,2]) (q97 z) hr.m () ⟨⟨rfl,rfl,rfl,rfl⟩,⟨rfl,rfl,rfl,rfl⟩,trivial⟩ (pa3 (pv 0) (pv 1) (q724 rfl z.d_paper_often.hd z.bmn rfl rfl rfl)))))),?_⟩
 refine⟨_,rfl,ga,xs,L,gs,rfl,SqL.of g.g,g.at_,ZO g.ln ∅,λH0 s0=>?_⟩
 have hm:(384,⟨303,41,303,94⟩,("paper_often.<locals>.<lambda>" : Str))∈tbQ:=by decide +kernel
 have g0:=g.kp (.of s0) (g.tb.same s0)
 rw[q72 g.gd]
 refine⟨_,rfl,_,rfl,g0.tb _ hm,λfa c oc vs tq pm ctv H1 hfn hf hc hd hv hT1 kp=>⟨[.int ((Wh gs).length:Nat),.int part],rfl,λH2 s2 hcells=>?_⟩⟩
 have k1:=(g0.tb.step hm kp hT1 (Same.refl _))
 have g2:=(g0.kp k1.1 k1.2).kp (.of s2) (k1.2.same s2)
 refine⟨b,ga,fa,xs,low,L,gs,λns=>∃ a b c:Int,ns=[a,b,c]/\0<=c/\c<=1000,psO part ((Wh gs).length:Nat),rfl,SqT.of g2.b,g2.le,SqL.of g2.g,g2.at_,g2.gd,g2.ln,g2.few,q723 _ (.nil _) (ps:=["least", "greatest", "things"]) (ys:=["whole", "part"]) lsc rfl (by simp) (s2 _ _ hf) (s2 _ _ hc) hd hv hcells (mt3 λ_ _ _=>rfl) (λns ⟨a,b,c,e,_⟩=>by rw[e];rfl) ?_,λa b c h0 h1=>⟨a,b,c,rfl,h0,h1⟩,λH' v s' hp H3 bk=>?_⟩
 ·intro P w mg base A outer s
  exists _,q76 op_gt (pe_op q84 (pv 2) (pv 4)) (pv 3) (q19 _)
  rintro ns ⟨a,b,c,rfl,c0,c1⟩
  exact⟨_,rfl,_,rfl,_,_,rfl,rfl,.inl ⟨{},{}⟩,_,rfl,_,_,rfl,rfl,rfl⟩
 ·have s13:Same H1 H3:=λb o e=>bk _ _ (s' _ _ (s2 _ _ e)) (.inl (by rw[e];simp))
  have k3:=g0.tb.step hm kp hT1 s13
  exact q H3 v ((KpT.of s0).trans k3.1) k3.2 (hp.tp λb xs e=>bk _ _ e (.inr (by intro _ _ z;cases z)))
def q371:z.C P w 47 "paper_least" pn1 (q191 K):=by
 have sc:=q360
 refine z.d_paper_least.cal sc (λvs H Q E h=>?_) (λf A outer s H vs Q E hr h=>?_)
 ·obtain⟨b,ga,xs,low,kn,L,gs,rfl,_⟩:=h
  rfl
 obtain⟨b,ga,xs,low,kn,L,gs,rfl,g,hk,q⟩:=h
 refine⟨_,(q12 (pst 3 sc.nd (pix q24 (pfn (q277 z) hr (pa3 (pv 0) (pv 1) (pv 2))) q13))
 (q15 (q18 (q583 (cl:=[("worth", s.heap.objs.size+1)]) (is:=[3]) (q97 z) hr.m () ⟨⟨rfl,rfl,rfl,rfl⟩,trivial⟩ (pa3 (pv 0) (pv 1) (q724 rfl z.d_paper_least.hd z.bmn rfl rfl rfl)))))),?_⟩
 refine⟨_,rfl,_,rfl,_,rfl,b,ga,xs,low,L,kn,gs,rfl,SqT.of g.b,g.le,g.g,g.at_,g.gd,g.ln,g.few,hk,λpa j pl H0 s0 hpa _=>?_⟩
 have hm:(377,⟨300,41,300,99⟩,("paper_least.<locals>.<lambda>" : Str))∈tbQ:=by decide +kernel
 have g0:=g.kp (.of s0) (g.tb.same s0)
 refine⟨pa,_,_,_,rfl,rfl,hpa,rfl,_,rfl,_,rfl,g0.tb _ hm,λfa c oc vs tq pm ctv H1 hfn hf hc hd hv hT1 kp=>⟨[.int (low+kth L (Wh gs) kn)],rfl,λH2 s2 hcells=>?_⟩⟩
 have k1:=(g0.tb.step hm kp hT1 (Same.refl _))
 have g2:=(g0.kp k1.1 k1.2).kp (.of s2) (k1.2.same s2)
 refine⟨b,ga,fa,xs,low,L,gs,λns=>∃ a b c:Int,ns=[a,b,c],psL (low+kth L (Wh gs) kn),rfl,SqT.of g2.b,g2.le,SqL.of g2.g,g2.at_,g2.gd,g2.ln,g2.few,q723 _ (.nil _) (ps:=["least", "greatest", "things"]) (ys:=["worth"]) lsc rfl (by simp) (s2 _ _ hf) (s2 _ _ hc) hd hv hcells (mt3 λ_ _ _=>rfl) (λns ⟨a,b,c,e⟩=>by rw[e];rfl) ?_,λa b c h0 h1=>⟨a,b,c,rfl⟩,λH' v s' hp H3 bk=>?_⟩
 ·intro P w mg base A outer s
  exists _,q409 op_le op_le (pv 0) (pv 3) (pv 1)
  rintro ns ⟨a,b,c,rfl⟩
  generalize low+kth L (Wh gs) kn=wo at *
  exists _,rfl,_,rfl,_,_,rfl,rfl,_,rfl
  refine ite2 (λh=>⟨_,rfl,_,_,rfl,rfl,?_⟩) (λh=>?_)
  ·show V.bl _=V.bl (decide (a<=wo)&&decide (wo<=b))
   rw[show decide (a<=wo)=true from h,Bool.true_and]
  ·show V.bl _=V.bl (decide (a<=wo)&&decide (wo<=b))
   rw[show decide (a<=wo)=false from Bool.eq_false_iff.mpr h,YH]
 ·have s13:Same H1 H3:=λb o e=>bk _ _ (s' _ _ (s2 _ _ e)) (.inl (by rw[e];simp))
  have k3:=g0.tb.step hm kp hT1 s13
  exact q H3 v ((KpT.of s0).trans k3.1) k3.2 (hp.tp λb xs e=>bk _ _ e (.inr (by intro _ _ z;cases z)))
def q547:z.C P w 47 "paper_up" pn0 (q343 K):=by
 have sc:=q532
 refine z.d_paper_up.cal sc (λvs H Q E h=>?_) (λf A outer s H vs Q E hr h=>?_)
 ·obtain⟨b,ga,xs,low,num,L,gs,rfl,_⟩:=h
  rfl
 obtain⟨b,ga,xs,low,num,L,gs,rfl,g,q⟩:=h
 refine⟨_,(q12 (pst 3 sc.nd (pfn (q397 z) hr (pa3 (pv 0) (pv 1) (pv 2))))
 (q12 (ps_nest (i:=4) rfl z.d_paper_up.hd z.bmn rfl rfl rfl rfl rfl sc.nd rfl (Or.inl rfl) (.inr rfl))
 (q15 (q18 (q583 (cl:=[("number", s.heap.objs.size+1),("found", s.heap.objs.size+2)]) (is:=[2,3]) (q97 z) hr.m () ⟨⟨rfl,rfl,rfl,rfl⟩,⟨rfl,rfl,rfl,rfl⟩,trivial⟩ (pa3 (pv 0) (pv 1) (pv 4))))))),?_⟩
 refine⟨_,rfl,_,rfl,_,rfl,b,ga,xs,low,num,L,gs,rfl,SqT.of g.b,g.le,g.g,g.at_,g.gd,g.ln,g.few,λv0 H0 s0 hv0=>?_⟩
 have hm:(391,⟨307,4,310,49⟩,("paper_up.<locals>.must_split" : Str))∈tbQ:=by decide +kernel
 have g0:=g.kp (.of s0) (g.tb.same s0)
 generalize (stp L low (Wh gs)).find? (λq=>decide (num<q.1))=fo at *
 refine⟨g0.tb _ hm,λfa c oc vs tq doc pm ctv H1 hfn hf hc hd hv hT1 kp=>?_⟩
 have k1:=(g0.tb.step hm kp hT1 (Same.refl _))
 refine⟨_,rfl,_,rfl,_,rfl,[.int num,v0],rfl,λH2 s2 hcells=>?_⟩
 have g2:=(g0.kp k1.1 k1.2).kp (.of s2) (k1.2.same s2)
 obtain⟨H9,tp,hfo⟩:∃ H9:Hp,Tps H9 H2/\NxV H9 v0 fo:=by
  cases fo with
  | none=>exact⟨_,.nil _,hv0⟩
  | some p=>
   obtain⟨a0,rfl,ha0⟩:PsR H0 v0 p:=hv0
   refine⟨λx=>if x=a0 then some (.tup [.int p.1,.int p.2])else none,λx o e=>?_,a0,rfl,ZL rfl⟩
   by_cases c:x=a0
   ·have e':=(ZL c).symm.trans e
    cases e'
    rw[c]
    exact⟨s2 _ _ (k1.1.t ha0),_,rfl⟩
   ·cases(ZI c).symm.trans e
 refine⟨b,ga,fa,xs,low,L,gs,λns=>∃ a b c:Int,ns=[a,b,c],psU num fo,rfl,SqT.of g2.b,g2.le,SqL.of g2.g,g2.at_,g2.gd,g2.ln,g2.few,nest_of H9 tp (ps:=["least", "greatest", "things"]) (ys:=["number", "found"]) lsc rfl (by simp) (s2 _ _ hf) (s2 _ _ hc) hd hv hcells (mt3 λ_ _ _=>rfl) (λns ⟨a,b,c,e⟩=>by rw[e];rfl) ?_,λa b c h0 h1=>⟨a,b,c,rfl⟩,λH' v s' hp H3 bk=>?_⟩
 ·intro P w mg base A outer s
  exists _,q12 (ps_if (PW.pt (pw_or (q20 op_eq (pv 2) q13 (q19 _)) (q138 (q20 op_le (pv 1) (pv 3) (q19 _))))) (q15 (q18 pe_bl)) q21) (q15 (q18 (pe_or (q76 q261 (pv 4) q60 (q19 _)) (q300 (q76 op_le (pv 0) (pe_ix (q194 (K:=K) rfl) (pv 4) q13 (λ_ _=>rfl)) (q19 _))))))
  rintro ns ⟨a,b,c',rfl⟩
  refine⟨_,rfl,rfl,_,rfl,ite2 (λh=>?_) (λh=>?_)⟩
  ·refine ite2 (λ_=>?_) nr
   show V.bl _=V.bl (if c'=0\/b<=num then false else _)
   rw[ZL (.inl (V.int.inj (ZE h)))]
  ·have h0:¬ c'=0:=λz=>h (ZA (congrArg V.int z))
   refine⟨_,rfl,_,rfl,_,_,rfl,rfl,_,rfl,ite2 (λh'=>?_) (λh'=>?_)⟩
   ·show V.bl _=V.bl (if c'=0\/b<=num then false else _)
    rw[ZL (.inr (ZE h'))]
   ·have e:∀ x:Bool,(if c'=0\/b<=num then false else x)=x:=λx=>ZI λz=>z.elim h0 λz=>h' (ZA z)
    cases fo with
    | none=>
     cases(show v0 = .non from hfo)
     refine⟨_,rfl,rfl,_,rfl,iteT ?_⟩
     show V.bl _=V.bl (if c'=0\/b<=num then false else true)
     rw[e]
    | some p=>
     obtain⟨a0,rfl,ha0⟩:PsR H9 v0 p:=hfo
     refine⟨_,rfl,rfl,_,rfl,iteF ?_⟩
     exists _,rfl,_,rfl,a0,_,_,_,rfl,rfl,SqT.of ha0,rfl,_,_,rfl,rfl
     show V.bl _=V.bl (if c'=0\/b<=num then false else decide (a<=p.1))
     rw[e]
 ·have s13:Same H1 H3:=λb o e=>bk _ _ (s' _ _ (s2 _ _ e)) (.inl (by rw[e];simp))
  have k3:=g0.tb.step hm kp hT1 s13
  exact q H3 v ((KpT.of s0).trans k3.1) k3.2 (hp.tp λb xs e=>bk _ _ e (.inr (by intro _ _ z;cases z)))
def q406{e:Nat}{w:Int}{us:List Int}(h:us.Perm vs):(halfO e w us).Perm (halfO e w vs):=(h.filter _).map _
theorem q509(q:Int->Bool)(m:Int):∀ ns:List Int,(ns.filter q).length=((ns.filter λn=>decide (n<m)).filter q).length+((ns.filter λn=>decide (m<=n)).filter q).length
 | []=>rfl
 | n::ns=>by
  have ih:=q509 q m ns
  by_cases c:n<m
  ·have c2:¬ m<=n:=(W47 c)
   rw[YZ (p:=λn=>decide (n<m)),ZL (ZA c),YZ (p:=λn=>decide (m<=n)),ZI (by rw[ZN c2];exact fnt)]
   by_cases c3:q n=true
   ·rw[filter_cons_of_pos c3,filter_cons_of_pos c3,WX,WX]
    lia
   ·rw[filter_cons_of_neg c3,filter_cons_of_neg c3]
    exact ih
  ·have c2:m<=n:=(W22 c)
   rw[YZ (p:=λn=>decide (n<m)),ZI (by rw[ZN c];exact fnt),YZ (p:=λn=>decide (m<=n)),ZL (ZA c2)]
   by_cases c3:q n=true
   ·rw[filter_cons_of_pos c3,filter_cons_of_pos c3,WX,WX]
    lia
   ·rw[filter_cons_of_neg c3,filter_cons_of_neg c3]
    exact ih
theorem q133{num:Int}:∀{e:Nat}{low:Int}{ns:List Int}{p:Pp},Wths low e ns->q67 e (offs low ns) p->(q25 e low p).any (badC num)=false->sumB num (q25 e low p)=((ns.filter λn=>decide (n<num)).length:Int)
 | e,low,ns,.all n,hw,hd,hb=>by
  have hn:n=(ns.length:Int):=by
   have:=q545 hd
   rw[ZJ]at this
   exact this
  have hp:=p2pos e
  rw[q165]at hb ⊢
  have hb':badC num (low,low+2^e-1,n)=false:=by
   have:(badC num (low,low+2^e-1,n)||false)=false:=hb
   rwa [Bool.or_false]at this
  have es:sumB num [(low,low+2^e-1,n)]=(if low+2^e-1<num then n else 0)+0:=rfl
  rw[es,Int.add_zero]
  by_cases c1:low+2^e-1<num
  ·rw[ZL c1,List.filter_eq_self.mpr λx hx=>ZA (by have:=hw x hx;lia)]
   exact hn
  ·rw[ZI c1]
   by_cases c2:low<num
   ·have c3:¬ 0<n:=λz=>by
     have:badC num (low,low+2^e-1,n)=true:=by
      show(decide (0<n)&&(decide (low<num)&&decide (num<=low+2^e-1)))=true
      rw[ZA z,ZA c2,ZA (W154 c1)]
      rfl
     rw[hb']at this
     cases this
    have:ns=[]:=eq_nil_of_length_eq_zero {}
    rw[this]
    rfl
   ·rw[List.filter_eq_nil_iff.mpr λx hx z=>by have:=hw x hx;have:=ZE z;lia]
    rfl
 | 0,_,_,.split _ _ _,_,hd,_=>hd.elim
 | e+1,low,ns,.split n l r,hw,hd,hb=>by
  have hb':(q25 e low l++q25 e (low+2^e) r).any (badC num)=false:=hb
  rw[any_append,Bool.or_eq_false_iff]at hb'
  have h1:=hd.2.1
  have h2:=hd.2.2
  rw[q764 hw]at h1
  rw[q765 hw]at h2
  have i1:=q133 hw.loH h1 hb'.1
  have i2:=q133 hw.hiH h2 hb'.2
  show sumB num (q25 e low l++q25 e (low+2^e) r)=_
  have es:sumB num (q25 e low l++q25 e (low+2^e) r)=sumB num (q25 e low l)+sumB num (q25 e (low+2^e) r):=by
   unfold sumB
   rw[WK,sum_append]
  rw[es,i1,i2,q509 (λn=>decide (n<num)) (low+2^e) ns]
  exact W104
theorem q344{part tot:Int}:∀{lo hi:Int}{cs:List TS.I3}{ps:List P2},Chain lo cs hi->oftF part tot cs=some ps->ps.Pairwise (λp q=>p.1<q.1)/\(∀ p∈ps,lo<=p.1) /\ ∀ p,p∈ps↔∃ c∈cs,c.1=p.1/\c.2.1=p.1/\c.2.2=p.2/\tot<c.2.2*part
 | _,_,[],ps,_,h=>by
  cases h
  exact⟨.nil,λp hp=>absurd hp (by simp),λp=>⟨λz=>absurd z (by simp),λ⟨c,hc,_⟩=>absurd hc (by simp)⟩⟩
 | lo,_,c::cs,ps,hc,h=>by
  have e0:oftF part tot (c::cs)=if tot<c.2.2*part then(if c.1<c.2.1 then none else(oftF part tot cs).map λl=>(c.1,c.2.2)::l)else oftF part tot cs:=rfl
  rw[e0]at h
  have h1:=hc.1
  have h2:=hc.2.1
  by_cases k:tot<c.2.2*part
  ·rw[ZL k]at h
   by_cases k2:c.1<c.2.1
   ·rw[ZL k2]at h;cases h
   ·rw[ZI k2]at h
    cases ho:oftF part tot cs with
    | none=>rw[ho]at h;cases h
    | some qs=>
     rw[ho]at h
     cases h
     obtain⟨i1,i2,i3⟩:=q344 hc.2.2 ho
     refine⟨List.pairwise_cons.mpr ⟨λp hp=>?_,i1⟩,λp hp=>?_,λp=>?_⟩
     ·have:=i2 p hp
      show c.1<p.1
      lia
     ·rcases eB hp with z | z
      ·rw[z];show lo<=c.1;lia
      ·have:=i2 p z;lia
     ·constructor
      ·intro hp
       rcases eB hp with z | z
       ·rw[z]
        exact⟨c,WC,rfl,by show c.2.1=c.1;lia,rfl,k⟩
       ·obtain⟨c',hc',z'⟩:=(i3 p).mp z
        exact⟨c',ZX _ hc',z'⟩
      ·rintro ⟨c',hc',z1,z2,z3,z4⟩
       rcases eB hc' with z | z
       ·subst z
        exact List.mem_cons.mpr (.inl (Prod.ext z1.symm z3.symm))
       ·exact ZX _ ((i3 p).mpr ⟨c',z,z1,z2,z3,z4⟩)
  ·rw[ZI k]at h
   obtain⟨i1,i2,i3⟩:=q344 hc.2.2 h
   refine⟨i1,λp hp=>by have:=i2 p hp;lia,λp=>?_⟩
   rw[i3 p]
   constructor
   ·rintro ⟨c',hc',z⟩
    exact⟨c',ZX _ hc',z⟩
   ·rintro ⟨c',hc',z1,z2,z3,z4⟩
    rcases eB hc' with z | z
    ·subst z;exact absurd z4 k
    ·exact⟨c',z,z1,z2,z3,z4⟩
theorem q443{part tot:Int}:∀{cs:List TS.I3},oftF part tot cs≠none -> ∀ c∈cs,tot<c.2.2*part -> ¬ c.1<c.2.1
 | [],_,c,hc,_=>absurd hc (by simp)
 | d::cs,h,c,hc,hk=>by
  have e0:oftF part tot (d::cs)=if tot<d.2.2*part then(if d.1<d.2.1 then none else(oftF part tot cs).map λl=>(d.1,d.2.2)::l)else oftF part tot cs:=rfl
  rw[e0]at h
  by_cases k:tot<d.2.2*part
  ·rw[ZL k]at h
   by_cases k2:d.1<d.2.1
   ·rw[ZL k2]at h;exact absurd rfl h
   ·rw[ZI k2]at h
    rcases eB hc with z | z
    ·rw[z];exact k2
    ·exact q443 (λy=>h (by rw[y];rfl)) c z hk
  ·rw[ZI k]at h
   rcases eB hc with z | z
   ·rw[z]at hk;exact absurd hk k
   ·exact q443 h c z hk
def q548{e:Nat}{low part tot:Int}{ms:List Int}(hw:Wths low e ws)(hd:q67 e (offs low ws) p)(hm:∀ x,x∈ms↔x∈ws)(hs:ms.Pairwise (·<·))(hp1:1<=part)(ht0:0<=tot)(h:ansF (oftF part tot (q25 e low p)) told=true):told=(withM ws ms).filter λq=>decide (tot<q.2*part):=by
 have hch:=q112 (low:=low) (q89 hd)
 cases ho:oftF part tot (q25 e low p) with
 | none=>rw[ho]at h;cases h
 | some ps=>
  rw[ho]at h
  have hpt:ps=told:=ZE h
  subst hpt
  obtain⟨i1,_,i3⟩:=q344 hch ho
  have hno:=q443 (part:=part) (tot:=tot) (cs:=q25 e low p) (by rw[ho];exact λz=>by cases z)
  refine q772 i1 ?_ λq=>?_
  ·refine List.Pairwise.filter _ ?_
   unfold withM
   rw[pairwise_map]
   exact hs
  ·rw[i3 q,mem_filter]
   constructor
   ·rintro ⟨c,hc,c1,c2,c3,c4⟩
    have pc:=(q132 hw hd c hc).1
    rw[c1,c2,q442]at pc
    have hpos:0<c.2.2:=by
     refine Classical.byContradiction λz=>?_
     have:c.2.2*part<=0*part:=Int.mul_le_mul_of_nonneg_right {} (W105 hp1)
     lia
    exists List.mem_map.mpr ⟨q.1,(hm _).mpr (List.count_pos_iff.mp {}),Prod.ext rfl (by show((ws.count q.1:Nat):Int)=q.2;lia)⟩
    rw[<- c3]
    exact ZA c4
   ·rintro ⟨hq,hk⟩
    obtain⟨x,hx,rfl⟩:=eE hq
    have hk':=ZE hk
    have hxw:=(hm x).mp hx
    obtain⟨d,hdm,d1,d2⟩:=q201 hch (hw x hxw).1 (hw x hxw).2
    have pd:=(q132 hw hd d hdm).1
    have pg:=cnt_ge (ns:=ws) d1 d2
    have hle:((ws.count x:Nat):Int)*part<=d.2.2*part:=Int.mul_le_mul_of_nonneg_right {} (W105 hp1)
    have hkd:tot<d.2.2*part:=by
     have hk2:tot<((ws.count x:Nat):Int)*part:=hk'
     exact W177 hk2 hle
    have hn:=hno d hdm hkd
    have e1:d.1=x:={}
    have e2:d.2.1=x:={}
    rw[e1,e2,q442]at pd
    exact⟨d,hdm,e1,e2,pd,hkd⟩
def cnt_onP{ws us:List Int}{low n:Int}(h:ws.Perm (us.map λo=>low+o)):ws.count n=us.count (n-low):=by
 rw[h.count_eq,YE,countP_map,YE]
 refine countP_congr λo _=>?_
 show(low+o==n)=true↔(o==n-low)=true
 rw[beq_iff_eq,beq_iff_eq]
 lia
def withM_ca{L:Nat}{low:Int}{us ws ms:List Int}(hin:InO L us)(hws:ws.Perm (us.map λo=>low+o))(hm:∀ w,w∈ms↔w∈ws)(hs:ms.Pairwise (·<·)):withM ws ms=caF 1 0 L low us:=by
 refine q772 ?_ (q251 L low us hin) λ⟨x,m⟩=>?_
 ·unfold withM
  rw[pairwise_map]
  exact hs
 ·rw[q272 L low us hin x m,<- cnt_onP hws]
  unfold withM
  rw[mem_map]
  constructor
  ·rintro ⟨y,hy,e⟩
   have hc:=List.count_pos_iff.mpr ((hm y).mp hy)
   cases e
   exact⟨rfl,(W183 hc)⟩
  ·rintro ⟨rfl,h⟩
   exact⟨x,(hm x).mpr (List.count_pos_iff.mp {}),rfl⟩
theorem q773{x:Int}:∀{W:List Int}{k:Nat},W.Pairwise (· <= ·)->W.countP (λy=>decide (y<x))<=k->k<W.countP (λy=>decide (y<x+1))->W[k]? = some x
 | [],k,_,_,h2=>absurd h2 (by simp)
 | a::W,k,hs,h1,h2=>by
  obtain⟨ha,hs'⟩:=List.pairwise_cons.mp hs
  rw[YI]at h1 h2
  by_cases c1:a<x
  ·rw[ZL (ZA c1)]at h1
   rw[ZL (ZA (W139 c1))]at h2
   cases k with
   | zero=>exact(W197 h1).elim
   | succ k=>rw[getElem?_cons_succ];exact q773 hs' (W133 h1) {}
  ·rw[ZI (λz=>c1 (ZE z))]at h1
   have z0:W.countP (λy=>decide (y<x))=0:=List.countP_eq_zero.mpr λy hy z=>by
    have:=ha y hy
    have:=ZE z
    lia
   by_cases c2:a<x+1
   ·rw[ZL (ZA c2)]at h2
    cases k with
    | zero=>rw[getElem?_cons_zero];congr 1;lia
    | succ k=>rw[getElem?_cons_succ];exact q773 hs' {} {}
   ·rw[ZI (λz=>c2 (ZE z))]at h2
    have z1:W.countP (λy=>decide (y<x+1))=0:=List.countP_eq_zero.mpr λy hy z=>by
     have:=ha y hy
     have:=ZE z
     lia
    lia
inductive Qs where
 | below (n a:Int)
 | least (k:Nat) (wo:Int)
 | most (wo m:Int)
 | often (part:Int) (ps:List P2)
 | up (n:Int) (o:Option P2)
noncomputable def Qs.psi(len:Int):Qs->List Int->Bool
 | .below n _=>psB n
 | .least _ wo=>psL wo
 | .most wo m=>psM wo m
 | .often part _=>psO part len
 | .up n o=>psU n o
noncomputable def Qs.sh(len:Int):Qs->List TS.I3->Bool
 | .below n a,cs=>dueF cs n a
 | .least k wo,cs=>q404 k wo cs
 | .most wo m,cs=>mostF wo m cs
 | .often part ps,cs=>ansF (oftF part len cs) ps
 | .up n o,cs=>upF n cs o
noncomputable def Qs.ok(ws ms:List Int):Qs->Prop
 | .below n a=>a=((ws.filter λx=>decide (x<n)).length:Int)
 | .least k wo=>(ws.filter λx=>decide (x<wo)).length<=k/\k<(ws.filter λx=>decide (x<wo)).length+ws.count wo
 | .most wo m=>0<m/\m=(ws.count wo:Int)/\(∀ x,(ws.count x:Int)<=m) /\ ∀ x,x<wo->(ws.count x:Int)<m
 | .often part ps=>1<=part/\ps=(withM ws ms).filter λq=>decide ((ws.length:Int)<q.2*part)
 | .up n none=>∀ x∈ws,x<=n
 | .up n (some q)=>n<q.1/\0<q.2/\q.2=(ws.count q.1:Int) /\ ∀ x∈ws,n<x->q.1<=x
theorem q407{wo:Int}:∀{cs:List TS.I3}{c:TS.I3},c∈cs->c.1=wo->c.2.1=wo -> ∃ a,q43 wo cs=some a
 | d::cs,c,hc,h1,h2=>by
  have e5:q43 wo (d::cs)=if hitC wo d=true then some d.2.2 else q43 wo cs:=rfl
  rw[e5]
  by_cases hd:hitC wo d=true
  ·rw[ZL hd];exact⟨_,rfl⟩
  ·rw[ZI hd]
   rcases eB hc with z | z
   ·refine absurd ?_ hd
    rw[<- z]
    show(decide (c.1=wo)&&decide (c.2.1=wo))=true
    rw[ZA h1,ZA h2]
    rfl
   ·exact q407 z h1 h2
def q605(ws:List Int)(n:Int):(ws.filter λx=>decide (x<n)).length=ws.countP λx=>decide (x<n):=List.countP_eq_length_filter.symm
section
variable {L:Nat}{low:Int}{ws ms:List Int}{p:Pp}(hw:Wths low L ws)(hd:q67 L (offs low ws) p)
include hw hd
theorem q345{c:TS.I3}{wo:Int}(hc:c∈q25 L low p)(h1:c.1=wo)(h2:c.2.1=wo):q43 wo (q25 L low p)=some (ws.count wo:Int):=by
 obtain⟨a,ha⟩:=q407 hc h1 h2
 obtain⟨d,hdm,d1,d2,d3⟩:=q508 ha
 have:=(q132 hw hd d hdm).1
 rw[d1,d2,q442,d3]at this
 rw[ha,this]
theorem q549{q:Qs}(hm:∀ x,x∈ms↔x∈ws)(hs:ms.Pairwise (·<·))(hq:q.ok ws ms)(hn:∀ c∈q25 L low p,c.1=c.2.1\/q.psi ws.length [c.1,c.2.1,c.2.2]=false):q.sh ws.length (q25 L low p)=true:=by
 have hch:=q112 (low:=low) (q89 hd)
 have hpc:=q132 hw hd
 have one:∀ c∈q25 L low p,c.1=c.2.1->c.2.2=(ws.count c.1:Int):=λc hc e=>by
  have:=(hpc c hc).1
  rw[<- e,q442]at this
  exact this
 have cov:∀ x,0<ws.count x -> ∃ c∈q25 L low p,c.1<=x/\x<=c.2.1:=λx hx=>by
  have:=hw x (List.count_pos_iff.mp hx)
  exact q201 hch this.1 this.2
 cases q with
 | below n a=>
  have nb:(q25 L low p).any (badC n)=false:=List.any_eq_false.mpr λc hc z=>by
   have z':(decide (0<c.2.2)&&(decide (c.1<n)&&decide (n<=c.2.1)))=true:=z
   rcases hn c hc with e | e
   ·rw[WO,WO]at z'
    have:=ZE z'.2.1
    have:=ZE z'.2.2
    lia
   ·exact absurd (z'.symm.trans e) ∅
  show dueF _ n a=true
  rw[q603 nb,q133 hw hd nb]
  exact ZA hq.symm
 | least k wo=>
  obtain⟨h1,h2⟩:=hq
  obtain⟨c,hc,c1,c2⟩:=cov wo {}
  have e:c.1=c.2.1:=(hn c hc).resolve_right λz=>by
   have z':(decide (c.1<=wo)&&decide (wo<=c.2.1))=false:=z
   rw[ZA c1,ZA c2]at z'
   cases z'
  have ha:=q345 hw hd hc (wo:=wo) (W64 c2 e c1) (W70 c2 e c1)
  have nb:=(q341 hch ha).1
  show q404 k wo _=true
  unfold q404
  rw[ha,q133 hw hd nb]
  show(decide _&&decide _)=true
  rw[ZA {},ZA {}]
  rfl
 | most wo m=>
  obtain⟨h0,h1,h2,h3⟩:=hq
  obtain⟨c,hc,c1,c2⟩:=cov wo (W42 h0 h1)
  have e:c.1=c.2.1:=(hn c hc).resolve_right λz=>by
   have z':(if c.2.1<wo then decide (m<=c.2.2)else if wo<c.1 then decide (m<c.2.2)else true)=false:=z
   rw[ZI (W117 c2),ZI (W117 c1)]at z'
   cases z'
  have ha:=q345 hw hd hc (wo:=wo) (W64 c2 e c1) (W70 c2 e c1)
  have no:(q25 L low p).any (overC wo m)=false:=List.any_eq_false.mpr λd hdm z=>by
   have z':(decide (m<d.2.2)||(decide (d.2.2=m)&&decide (d.2.1<wo)))=true:=z
   rw[Bool.or_eq_true,WO,ZW,ZW,ZW]at z'
   rcases hn d hdm with e | e
   ·have:=one d hdm e
    have:=h2 d.1
    have:=h3 d.1
    lia
   ·have e':(if d.2.1<wo then decide (m<=d.2.2)else if wo<d.1 then decide (m<d.2.2)else true)=false:=e
    by_cases k1:d.2.1<wo
    ·rw[ZL k1,decide_eq_false_iff_not]at e'
     lia
    ·rw[ZI k1]at e'
     by_cases k2:wo<d.1
     ·rw[ZL k2,decide_eq_false_iff_not]at e'
      lia
     ·rw[ZI k2]at e'
      cases e'
  show mostF wo m _=true
  unfold mostF
  rw[ha,<- h1,no,ZA h0,ZA rfl]
  rfl
 | often part ps=>
  obtain⟨h1,h2⟩:=hq
  have ex:∀ cs:List TS.I3,(∀ c∈cs,(ws.length:Int)<c.2.2*part -> ¬ c.1<c.2.1) -> ∃ l,oftF part ws.length cs=some l:=by
   intro cs
   induction cs with
   | nil=>exact λ_=>⟨_,rfl⟩
   | cons d cs ih=>
    intro h
    obtain⟨l,hl⟩:=ih λc hc=>h c (ZX _ hc)
    have e0:oftF part ws.length (d::cs)=if(ws.length:Int)<d.2.2*part then(if d.1<d.2.1 then none else(oftF part ws.length cs).map λl=>(d.1,d.2.2)::l)else oftF part ws.length cs:=rfl
    rw[e0,hl]
    by_cases k:(ws.length:Int)<d.2.2*part
    ·rw[ZL k,ZI (h d WC k)];exact⟨_,rfl⟩
    ·rw[ZI k];exact⟨_,rfl⟩
  obtain⟨l,hl⟩:=ex (q25 L low p) λc hc k z=>by
   rcases hn c hc with e | e
   ·lia
   ·have e':decide ((ws.length:Int)<c.2.2*part)=false:=e
    rw[ZA k]at e'
    cases e'
  have hp:=q548 (part:=part) (tot:=ws.length) (told:=l) hw hd hm hs h1 {} (by rw[hl];exact ZA rfl)
  show ansF (oftF part ws.length _) ps=true
  rw[hl,h2,hp]
  exact ZA rfl
 | up n o=>
  cases o with
  | none=>
   have hq':∀ x∈ws,x<=n:=hq
   show(!((q25 L low p).any (abvC n)))=true
   rw[List.any_eq_false.mpr λc hc z=>?_]
   ·rfl
   have z':(decide (0<c.2.2)&&decide (n<c.2.1))=true:=z
   rw[WO,ZW,ZW]at z'
   rcases hn c hc with e | e
   ·have h1:=one c hc e
    have:=hq' c.1 (List.count_pos_iff.mp {})
    lia
   ·have e':(if c.2.2=0\/c.2.1<=n then false else true)=false:=e
    rw[ZI {}]at e'
    cases e'
  | some r=>
   obtain⟨h1,h2,h3,h4⟩:n<r.1/\0<r.2/\r.2=(ws.count r.1:Int) /\ ∀ x∈ws,n<x->r.1<=x:=hq
   obtain⟨c,hc,c1,c2⟩:=cov r.1 (W42 h2 h3)
   have cg:=cnt_ge (ns:=ws) c1 c2
   have cc:=(hpc c hc).1
   have e:c.1=c.2.1:=(hn c hc).resolve_right λz=>by
    have z':(if c.2.2=0\/c.2.1<=n then false else decide (c.1<=r.1))=false:=z
    rw[ZI {},ZA c1]at z'
    cases z'
   have ha:=q345 hw hd hc (wo:=r.1) (W64 c2 e c1) (W70 c2 e c1)
   have no:((q25 L low p).any λc=>abvC n c&&decide (c.1<r.1))=false:=List.any_eq_false.mpr λd hdm z=>by
    have z':((decide (0<d.2.2)&&decide (n<d.2.1))&&decide (d.1<r.1))=true:=z
    rw[WO,WO,ZW,ZW,ZW]at z'
    rcases hn d hdm with e | e
    ·have h5:=one d hdm e
     have:=h4 d.1 (List.count_pos_iff.mp {}) {}
     lia
    ·have e':(if d.2.2=0\/d.2.1<=n then false else decide (d.1<=r.1))=false:=e
     rw[ZI {},ZA {}]at e'
     cases e'
   show(decide (n<r.1)&&(decide (0<r.2)&&(decide (q43 r.1 _=some r.2)&&!(_))))=true
   rw[no,ha,<- h3,ZA h1,ZA h2,ZA rfl]
   rfl
end
theorem q295{φ:Int->Int->Int->Bool}:∀(e:Nat)(low:Int)(us:List Int),q67 e us (papF φ e low us)
 | 0,_,_=>rfl
 | e+1,low,us=>by
  unfold papF
  split
  ·exact⟨rfl,q295 e _ _,q295 e _ _⟩
  ·rfl
theorem q257:∀{e:Nat}{us vs:List Int}{p:Pp},us.Perm vs->q67 e us p->q67 e vs p
 | 0,us,vs,.all n,h,d=>by
  show n=_
  rw[<- h.length_eq]
  exact d
 | e+1,us,vs,.all n,h,d=>by
  show n=_
  rw[<- h.length_eq]
  exact d
 | 0,_,_,.split _ _ _,_,d=>d.elim
 | e+1,us,vs,.split n l r,h,d=>⟨by rw[<- h.length_eq];exact d.1,q257 (q406 h) d.2.1,q257 (q406 h) d.2.2⟩
theorem q346:∀(e:Nat)(low:Int)(us:List Int),∀ c∈q25 e low (papF φ e low us),c.1=c.2.1\/φ c.1 c.2.1 c.2.2=false
 | 0,low,us,c,hc=>by
  have e:c=(low,low+2^0-1,(us.length:Int)):=eD hc
  rw[e]
  exact .inl (by show low=low+2^0-1;exact W111)
 | e+1,low,us,c,hc=>by
  unfold papF at hc
  split at hc
  ·rcases eC (show c∈q25 e low _++q25 e (low+2^e) _ from hc)with h | h
   ·exact q346 e low _ c h
   ·exact q346 e _ _ c h
  ·rename_i k
   have e:c=(low,low+2^(e+1)-1,(us.length:Int)):=eD hc
   rw[e]
   exact .inr (Bool.eq_false_iff.mpr k)
noncomputable def gI(low:Int)(e:Nat)(g:Int):Nat:=if low<=g/\g<low+2^e then 1 else 0
def gI_half(low:Int)(e:Nat)(g:Int):gI low e g+gI (low+2^e) e g<=gI low (e+1) g:=by
 have h2:(2:Int)^(e+1)=2^e+2^e:=by rw[YO];lia
 have hp:=p2pos e
 unfold gI
 split <;> split <;> split <;> lia
theorem q258(g:Int)(h:∀ a b c:Int,φ a b c=true->c≠0\/(a<=g/\g<=b)):∀(e:Nat)(low:Int)(us:List Int),(papF φ e low us).leaves<=e*(us.length+gI low e g)+1
 | 0,low,us=>by
  show 1<=_
  lia
 | e+1,low,us=>by
  unfold papF
  split
  ·rename_i k
   have i0:=q258 g h e low (halfO e 0 us)
   have i1:=q258 g h e (low+2^e) (halfO e 1 us)
   have hs:=q290 (e:=e) us
   have hg:=gI_half low e g
   have h1:1<=us.length+gI low (e+1) g:=by
    rcases h _ _ _ k with z | z
    ·lia
    ·have:gI low (e+1) g=1:=ZL {}
     lia
   show(papF φ e low (halfO e 0 us)).leaves+(papF φ e (low+2^e) (halfO e 1 us)).leaves<=_
   have m1:e*((halfO e 0 us).length+gI low e g)+e*((halfO e 1 us).length+gI (low+2^e) e g)<=e*(us.length+gI low (e+1) g):=by
    rw[<- Nat.mul_add]
    exact Nat.mul_le_mul_left _ {}
   have m2:(e+1)*(us.length+gI low (e+1) g)=e*(us.length+gI low (e+1) g)+(us.length+gI low (e+1) g):=Nat.succ_mul ..
   lia
  ·show 1<=_
   lia
noncomputable def Qs.g:Qs->Int
 | .least _ wo=>wo
 | .most wo _=>wo
 | _=>0
def Qs.lv{q:Qs}(h:q.ok ws ms)(len:Int)(hl:0<=len):∀ a b c:Int,f3 (q.psi len) a b c=true->c≠0\/(a<=q.g/\q.g<=b):=λa b c k=>by
 cases q with
 | below n x=>
  have k':(decide (0<c)&&(decide (a<n)&&decide (n<=b)))=true:=k
  rw[WO,ZW]at k'
  exact .inl {}
 | least k' wo=>
  have k':(decide (a<=wo)&&decide (wo<=b))=true:=k
  rw[WO,ZW,ZW]at k'
  exact .inr k'
 | most wo m=>
  have k':(if b<wo then decide (m<=c)else if wo<a then decide (m<c)else true)=true:=k
  have h0:=h.1
  by_cases c1:b<wo
  ·rw[ZL c1,ZW]at k'
   exact .inl {}
  ·rw[ZI c1]at k'
   by_cases c2:wo<a
   ·rw[ZL c2,ZW]at k'
    exact .inl {}
   ·exact .inr ⟨by show a<=wo;exact W22 c2,by show wo<=b;exact W22 c1⟩
 | often part ps=>
  have k':len<c*part:=ZE k
  refine .inl λz=>?_
  rw[z,Int.zero_mul]at k'
  lia
 | up n o=>
  refine .inl λz=>?_
  have k':(if c=0\/b<=n then false else _)=true:=k
  rw[ZL (.inl z)]at k'
  cases k'
noncomputable def Qs.pap(low:Int)(L:Nat)(us:List Int)(q:Qs):Pp:=papF (f3 (q.psi us.length)) L low us
section
variable {L:Nat}{low:Int}{us ws ms:List Int}{q:Qs}(hw:Wths low L ws)(hp:(offs low ws).Perm us)(hL:L<=40)(h9:us.length<=900)(hm:∀ x,x∈ms↔x∈ws)(hs:ms.Pairwise (·<·))(hq:q.ok ws ms)
include hw hp hL h9 hm hs hq
theorem told_lv:(q.pap low L us).leaves<=90000:=by
 have h1:=q258 q.g (q.lv hq us.length (W123 h9)) L low us
 have h2:gI low L q.g<=1:=by unfold gI;split <;> lia
 have h3:L*(us.length+gI low L q.g)<=40*901:=Nat.mul_le_mul hL {}
 unfold Qs.pap
 lia
theorem told_yes:q.sh us.length (q25 L low (q.pap low L us))=true:=by
 have hl:us.length=ws.length:=by rw[<- hp.length_eq,ZJ]
 have hd:q67 L (offs low ws) (q.pap low L us):=q257 hp.symm (q295 L low us)
 have:=q549 hw hd hm hs hq (λc hc=>by rw[<- hl];exact q346 L low us c hc)
 rw[hl]
 exact this
end
theorem q606:∀{ss:List P2}{r:P2},(ss.Pairwise λp q=>p.1<q.1)->ss.find? f=some r -> ∀ q∈ss,f q=true->r.1<=q.1
 | x::ss,r,h,e,q,hq,hf=>by
  obtain⟨h1,h2⟩:=List.pairwise_cons.mp h
  rw[find?_cons]at e
  cases hx:f x with
  | true=>
   rw[hx]at e
   cases e
   rcases eB hq with z | z
   ·rw[z];exact Int.le_refl _
   ·exact Int.le_of_lt (h1 q z)
  | false=>
   rw[hx]at e
   rcases eB hq with z | z
   ·rw[z,hx]at hf;cases hf
   ·exact q606 h2 e q z hf
section
variable{ws ms:List Int}(hs:ms.Pairwise (·<·))(hm:∀ x,x∈ms↔x∈ws)
include hs hm
theorem q664:(withM ws ms).Pairwise λp q=>p.1<q.1:=by
 unfold withM
 rw[pairwise_map]
 exact hs
theorem q347{p:P2}:p∈withM ws ms↔p.1∈ws/\p.2=(ws.count p.1:Int):=by
 unfold withM
 rw[mem_map]
 constructor
 ·rintro ⟨x,hx,rfl⟩
  exact⟨(hm x).mp hx,rfl⟩
 ·rintro ⟨h1,h2⟩
  exact⟨p.1,(hm _).mpr h1,Prod.ext rfl h2.symm⟩
theorem ok_up{n:Int}(h':o=(withM ws ms).find? λq=>decide (n<q.1)):(Qs.up n o).ok ws ms:=by
 cases o with
 | none=>
  show ∀ x∈ws,x<=n
  intro x hx
  have:=List.find?_eq_none.mp h'.symm (x,(ws.count x:Int)) ((q347 hs hm).mpr ⟨hx,rfl⟩)
  rw[ZW]at this
  have:¬ n<x:=this
  lia
 | some r=>
  have e:=h'.symm
  obtain⟨m1,m2⟩:=(q347 hs hm).mp (mem_of_find?_eq_some e)
  have c0:0<ws.count r.1:=List.count_pos_iff.mpr m1
  have hn:n<r.1:=ZE (find?_some (p:=λq:P2=>decide (n<q.1)) e)
  exact⟨hn,{},m2,λx hx hnx=>q606 (q664 hs hm) e (x,(ws.count x:Int)) ((q347 hs hm).mpr ⟨hx,rfl⟩) (ZA hnx)⟩
end
def q166{K:Fg}{a D:Addr}{zc:List V}{ps:List P2}{H1:Hp}{Tt:V->Hp->(Bool->Hp->Prop)->Prop}{Te:V->Hp->(V->Hp->Prop)->Prop}{R:Hp->Prop}(f:P2->Bool)(ha:H1 a=some (.lst zc))(hz:Paired (PrR H1) zc ps)(hD:H1 D=none)(hn:zc.length<=1000)
  (hT:∀(t:Addr)(q:P2)(H:Hp)(Q:Bool->Hp->Prop),q∈ps->Same H1 H->H t=some (.tup [.int q.1,.int q.2])->Q (f q) H->Tt (.ref t) H Q) (hE:∀(t:Addr)(H:Hp)(Q:V->Hp->Prop),Q (.ref t) H->Te (.ref t) H Q)
  (hR:∀ ys,Paired (PrR H1) ys (ps.filter f)->ys.length<=1000->R (upd H1 D (.lst ys))) :
  ∃ W:Nat->Nat->List V->Hp->Prop,(∃ m,W 0 m [] (upd H1 D (.lst []))) /\
   ∀ i m ys H2,W i m ys H2->H2 D=some (.lst ys)/\(((Itl K a).stop i H2/\R H2)\/((Itl K a).go i H2/\ys.length<sizeLine /\ ∃ N:V->Hp->Prop,(∀ y H3,N y H3->H3 D=some (.lst ys) /\ ∃ m',m'<m/\W (i+1) m' (ys++[y]) (upd H3 D (.lst (ys++[y])))) /\
    ∀ x H',(Itl K a).yld i H2 x H'->Tt x H' λb H3=>if b=true then Te x H3 N else ∃ m',m'<m/\W (i+1) m' ys H3)):=by
 refine q140 (K:=K) (xs:=zc) (sz hn) (λi ys G'=>G'=upd H1 D (.lst ys)/\ys.length<=i/\Paired (PrR H1) ys ((ps.take i).filter f)) ⟨rfl,ZG _,.nil⟩ (λi ys G' ⟨e,_⟩=>by rw[e];exact SqL.of (q17 hD _ _ _ ha)) (λi ys G' ⟨e,e2,_⟩=>⟨by rw[e];exact q14,e2⟩) ?_ ?_
 ·rintro i z ys G' hzi ⟨rfl,e2,e3⟩
  obtain⟨q,gp,t,rfl,ht⟩:=q68 hz hzi
  have hlt:=(eA hzi).1
  have et:(ps.take (i+1)).filter f=(ps.take i).filter f++[q].filter f:=by rw[YG,gp,filter_append];rfl
  refine hT t q _ _ (WY gp) (q17 hD _) (q17 hD _ _ _ ht) ?_
  cases c:f q with
  | true=>
   refine iteT (hE t _ _ ⟨q14,by rw[q103],by rw[ZQ];exact Nat.succ_le_succ e2,?_⟩)
   rw[et,filter_cons_of_pos c]
   exact q50 e3 (.cons ⟨t,rfl,ht⟩ .nil)
  | false=>
   refine iteF ⟨_,{},rfl,(W21 hlt),rfl,Nat.le_succ_of_le e2,?_⟩
   rw[et,filter_cons_of_neg (by rw[c];exact fnt),filter_nil,YN]
   exact e3
 ·rintro ys G' ⟨rfl,e2,e3⟩
  rw[show zc.length=ps.length from Paired.length hz,YQ]at e3
  exact hR ys e3 {}
theorem q607:∀{ys:List V}{fl:List P2},Paired (PrR G) ys fl -> ∃ v,atI (ys++[V.non]) 0=some v/\OptR G v fl.head?
 | _,_,.nil=>⟨.non,rfl,rfl⟩
 | _,_,.cons (a:=x) (l₁:=l) r t=>⟨x,q44 (xs:=(x::l)++[V.non]) (j:=0) rfl,r⟩
def Tbs.pen{H H':Hp}{pen:Addr}{xs:List V}(t:Tbs H)(k:Keep pen H H')(e:H pen=some (.lst xs)):Tbs H':=λq hq=>by
 obtain⟨ps,h1,h2,h3⟩:=t q hq
 exists ps,k _ _ (ne_of h1 e (by intro z;cases z)) h1,h2
 rcases h3 with h | ⟨c',oc,vs,tq,a,b,d⟩
 ·exact .inl h
 ·exact .inr ⟨c',oc,vs,tq,a,k _ _ (ne_of b e (by intro z;cases z)) b,d⟩
def Pen.kp{n:Int}(p:Pen K H pen n)(k:KpT H H'):Pen K H' pen n:=by
 obtain⟨a,ns,c,r,h1,h2,h3⟩:=p
 refine⟨a,ns,c,r,k.l h1,?_,h3⟩
 rcases h2 with ⟨o,h⟩ | h
 ·exact .inl ⟨o,k _ _ (by intro _ z;cases z) h⟩
 ·exact .inr h
def Only.no(h:∀ b ys,H b≠some (.lst ys))(hS:SqL K H a xs):Scr K H a xs:=by
 rcases hS with (h' | h') | h'
 ·exact absurd h' (h _ _)
 ·exact .inl h'
 ·exact .inr h'
def q510(low:Int)(ws:List Int):(offs low ws).map (λo=>low+o)=ws:=by
 rw[map_map,show((λo:Int=>low+o)∘λn=>n-low)=id from funext λn=>by show low+(n-low)=n;exact W51,map_id]
def q98(low:Int)(p:Int->Bool)(ws:List Int):(offs low ws).countP (λo=>p (low+o))=ws.countP p:=by
 have h:((offs low ws).map λo=>low+o).countP p=_:=countP_map
 rw[q510]at h
 exact h.symm
noncomputable def msF(L:Nat)(low:Int)(us:List Int):List Int:=(stp L low us).map (·.1)
def q444{L:Nat}{low:Int}(hin:InO L us):(msF L low us).Pairwise (·<·):=by
 unfold msF
 rw[pairwise_map]
 exact q251 L low us hin
def q608{L:Nat}{low:Int}(hin:InO L (offs low ws))(x:Int):x∈msF L low (offs low ws)↔x∈ws:=by
 unfold msF
 have e:(offs low ws).count (x-low)=ws.count x:=by
  rw[YE,YE,<- q98 low (λy=>y==x)]
  refine countP_congr λo _=>?_
  rw[beq_iff_eq,beq_iff_eq]
  lia
 rw[mem_map]
 constructor
 ·rintro ⟨⟨w,m⟩,hp,rfl⟩
  obtain⟨h1,h2⟩:=(q272 L low _ hin w m).mp hp
  rw[e]at h1
  exact List.count_pos_iff.mp (W42 h2 h1)
 ·intro h
  refine⟨(x,((ws.count x:Nat):Int)),(q272 L low _ hin _ _).mpr ⟨by rw[e],?_⟩,rfl⟩
  have:=List.count_pos_iff.mpr h
  exact W183 this
def q609{L:Nat}{low:Int}{ms:List Int}(hin:InO L (offs low ws))(hm:∀ x,x∈ms↔x∈ws)(hs:ms.Pairwise (·<·)):withM ws ms=caF 1 0 L low (offs low ws):=
 withM_ca hin (by rw[q510]) hm hs
def bst_head{ps:List P2}{G:Int}(h1:G∈[(0:Int)]++ps.map (·.2))(h2:∀ x∈[(0:Int)]++ps.map (·.2),x<=G)(h0:∀ p∈ps,0<p.2):(ps.filter λp=>decide (p.2=G)).head? = bst ps:=by
 by_cases hn:ps=[]
 ·rw[hn];rfl
 obtain⟨r,hb,hr,hmax,hf⟩:=bst_some hn
 have e:G=r.2:=by
  have a:=h2 r.2 (YC _ (List.mem_map.mpr ⟨r,hr,rfl⟩))
  have b:=h0 r hr
  rcases eC h1 with z | z
  ·rw[eD z]at a;lia
  ·obtain⟨p,hp,z⟩:=eE z
   have:=hmax p hp
   lia
 rw[e,hb,hf]
def srt_kth{L:Nat}{low:Int}{ws W:List Int}(hin:InO L (offs low ws))(hp:W.Perm ws)(hs:W.Pairwise (· <= ·)){k:Nat}(hk:k<ws.length):W[k]? = some (low+kth L (offs low ws) k):=by
 obtain⟨c1,c2⟩:=q151 L (offs low ws) k hin (by rw[ZJ];exact hk)
 have e:∀ o:Int,W.countP (λy=>decide (y<low+o))=ltC (offs low ws) o:=λo=>by
  rw[hp.countP_eq,<- q98 low (λy=>decide (y<low+o))]
  refine countP_congr λx _=>?_
  rw[ZW,ZW]
  exact W10
 refine q773 hs (by rw[e];exact c1) ?_
 rw[show low+kth L (offs low ws) k+1=low+(kth L (offs low ws) k+1) by lia,e]
 exact c2
theorem q774{L:Nat}{low:Int}{ws W:List Int}(hin:InO L (offs low ws))(hp:W.Perm ws)(hs:W.Pairwise (· <= ·)):∀ k,k<=ws.length->sumF L low (offs low ws) k=(W.take k).sum
 | 0,_=>by rw[q225];rfl
 | k+1,h=>by
  have ih:=q774 hin hp hs k (W44 h)
  have st:=q335 L low (offs low ws) k
  rw[YG,srt_kth hin hp hs (W174 h),sum_append]
  show _=_+(low+kth L (offs low ws) k+0)
  lia
def q775{α:Type}(p:α->Bool)(l:List α):(l.filter p).getLast? = l.reverse.find? p:=by
 rw[<- head?_reverse,<- filter_reverse,head?_filter]
inductive Ans where
 | opt (o:Option P2)
 | prs (ps:List P2)
 | num (n:Int)
 | pap (p:Pp)
 | wd
noncomputable def AnsAt(H:Hp)(v:V):Ans->Prop
 | .opt o=>OptR H v o
 | .prs ps=>∃(D:Addr)(ys:List V),v = .ref D/\H D=some (.lst ys)/\Paired (PrR H) ys ps
 | .num n=>v = .int n
 | .pap p=>PpAt H v p
 | .wd=>v = .str "paper"
theorem AnsAt.up{H H':Hp}(k:TKeep H H')(l:∀ a xs,H a=some (.lst xs)->H' a=some (.lst xs)){v:V}:∀{a:Ans},AnsAt H v a->AnsAt H' v a
 | .opt _,h=>OptR.tk k h
 | .prs _,⟨D,ys,e,h1,h2⟩=>⟨D,ys,e,l _ _ h1,L2.Paired.mapP h2 λ_ _ z=>z.tk k⟩
 | .num _,h=>h
 | .pap _,h=>PpAt.tk k h
 | .wd,h=>h
noncomputable abbrev AnsL(H:Hp)(ys:List V)(as:List Ans):Prop:=Paired (AnsAt H) ys as
def AnsL.kp(k:KpT H H')(h:AnsL H ys as):AnsL H' ys as:=L2.Paired.mapP h λ_ _ z=>z.up k.tk λ_ _ e=>k.l e
def AnsL.same(s:Same H H')(h:AnsL H ys as):AnsL H' ys as:=h.kp (.of s)
theorem q511{α β:Type}{R:α->β->Prop}:∀{xs:List α}{ps:List β},xs.length=ps.length->(∀(j:Nat)(x:α)(p:β),xs[j]? = some x->ps[j]? = some p->R x p)->Paired R xs ps
 | [],[],_,_=>.nil
 | x::xs,p::ps,h,f=>.cons (f 0 x p rfl rfl) (q511 (Nat.succ.inj h) λj y q h1 h2=>f (j+1) y q h1 h2)
def AllAt.prs(h:AllAt PsR H ys ps):Paired (PrR H) ys ps:=q511 h.1 h.2
noncomputable def Ans.ok:Ans->Prop
 | .pap p=>dpP p<=40
 | _=>True
theorem q550{K:Fg}{H:Hp}:∀{p:Pp}{n:Nat}{v w:V},dpP p<=n->PpAt H v p->PpAt H w p->Alk K H (n+1) v w
 | .all m,n,v,w,_,⟨a,e,h⟩,⟨b,e',h'⟩=>by
  rw[e,e']
  refine .tup (SqT.of h) (SqT.of h') rfl λj x y h1 h2=>?_
  rw[h1]at h2
  cases h2
  exact .flat (by match j,h1 with | 0,h1=>cases h1;rfl | 1,h1=>cases h1;rfl)
 | .split m l r,0,v,w,hd,_,_=>absurd hd (by show ¬ max (dpP l) (dpP r)+1<=0;lia)
 | .split m l r,n+1,v,w,hd,⟨a,x1,y1,e,h,hx,hy⟩,⟨b,x2,y2,e',h',hx',hy'⟩=>by
  have hd':max (dpP l) (dpP r)+1<=n+1:=hd
  rw[e,e']
  refine .tup (SqT.of h) (SqT.of h') rfl λj x y h1 h2=>?_
  match j,h1,h2 with
  | 0,h1,h2=>cases h1;cases h2;exact .flat rfl
  | 1,h1,h2=>cases h1;cases h2;exact .flat rfl
  | 2,h1,h2=>cases h1;cases h2;exact q550 {} hx hx'
  | 3,h1,h2=>cases h1;cases h2;exact q550 {} hy hy'
def q776{K:Fg}{H:Hp}{n:Nat}{v w:V}{p:P2}(h:PrR H v p)(h':PrR H w p):Alk K H (n+1) v w:=by
 obtain⟨a,rfl,ha⟩:=h
 obtain⟨b,rfl,hb⟩:=h'
 refine .tup (SqT.of ha) (SqT.of hb) rfl λj x y h1 h2=>?_
 rw[h1]at h2
 cases h2
 exact .flat (by match j,h1 with | 0,h1=>cases h1;rfl | 1,h1=>cases h1;rfl)
theorem AnsAt.alk{K:Fg}{H:Hp}{v w:V}:∀{a:Ans},a.ok->AnsAt H v a->AnsAt H w a->Alk K H 41 v w
 | .opt none,_,h,h'=>by cases(show v = .non from h);cases(show w = .non from h');exact .flat rfl
 | .opt (some p),_,h,h'=>q776 (n:=40) (p:=p) h h'
 | .prs ps,_,⟨D,ys,e,h1,h2⟩,⟨D',ys',e',h1',h2'⟩=>by
  rw[e,e']
  have l1:ys.length=ps.length:=Paired.length h2
  have l2:ys'.length=ps.length:=Paired.length h2'
  refine .lst (n:=40) (SqL.of h1) (SqL.of h1') (by rw[l1,l2]) λj x y g1 g2=>?_
  obtain⟨p,e1,r1⟩:=q68 h2 g1
  obtain⟨p',e2,r2⟩:=q68 h2' g2
  rw[e1]at e2
  cases e2
  exact q776 (n:=39) r1 r2
 | .num n,_,h,h'=>by cases(show v = .int n from h);cases(show w = .int n from h');exact .flat rfl
 | .pap p,hp,h,h'=>q550 hp h h'
 | .wd,_,h,h'=>by cases(show v = .str "paper" from h);cases(show w = .str "paper" from h');exact .flat rfl
def AnsL.alk(ha:H a=some (.lst xs))(hb:H b=some (.lst ys))(hx:AnsL H xs as)(hy:AnsL H ys as)(ok:∀ x∈as,x.ok):Alk K H 42 (.ref a) (.ref b):=by
 refine .lst (n:=41) (SqL.of ha) (SqL.of hb) (by rw[Paired.length hx,Paired.length hy]) λj x y g1 g2=>?_
 obtain⟨p,e1,r1⟩:=q68 hx g1
 obtain⟨p',e2,r2⟩:=q68 hy g2
 rw[e1]at e2
 cases e2
 exact AnsAt.alk (ok p (WY e1)) r1 r2
noncomputable def hideA:Ans->Ans
 | .pap _=>.wd
 | a=>a
noncomputable def ansN(low:Int)(L:Nat)(us:List Int)(n0 n:Int):List Ans:=
 [.num (us.countP λx=>decide (x<n-low):Nat),.num (us.countP (btw low n0 n):Nat),.opt ((stp L low us).find? λq=>decide (n<q.1)),.opt ((stp L low us).reverse.find? λq=>decide (q.1<n)),.pap (papF (f3 (psB n)) L low us),.pap (papF (f3 (psU n ((stp L low us).find? λq=>decide (n<q.1)))) L low us)]
noncomputable def ansH(low:Int)(L:Nat)(us:List Int)(k:Nat)(part:Int):List Ans:=
 [.opt (bst (caF 1 0 L low us)),.prs (caF part (us.length:Nat) L low us),.prs (caF 1 0 L low us),.num (sumF L low us k),.pap (papF (f3 (psO part (us.length:Nat))) L low us)]
noncomputable def ansA(low:Int)(L:Nat)(us nums:List Int)(k:Nat)(part:Int):List Ans:=ansH low L us k part++nums.flatMap (ansN low L us (nums.headD 0))
def ansA_ok{low:Int}{L:Nat}{k:Nat}{part:Int}(hL:L<=40):∀ x∈ansA low L us nums k part,x.ok:=λx hx=>by
 have hd:∀ φ:Int->Int->Int->Bool,(Ans.pap (papF φ L low us)).ok:=λφ=>ZO (q766 L low us) hL
 rcases eC hx with h | h
 ·simp only[ansH,mem_cons,not_mem_nil,or_false]at h
  rcases h with rfl | rfl | rfl | rfl | rfl
  ·trivial
  ·trivial
  ·trivial
  ·trivial
  ·exact hd _
 ·obtain⟨n,_,h⟩:=List.mem_flatMap.mp h
  simp only[ansN,mem_cons,not_mem_nil,or_false]at h
  rcases h with rfl | rfl | rfl | rfl | rfl | rfl
  ·trivial
  ·trivial
  ·trivial
  ·trivial
  ·exact hd _
  ·exact hd _
theorem flat6{α:Type}{f:Int->List α}(hf:∀ n,(f n).length=6):∀{nums:List Int}{i:Nat}{n:Int},nums[i]? = some n->((nums.flatMap f).drop (6*i)).take 6=f n
 | x::nums,0,n,h=>by
  cases h
  rw[YV,Nat.mul_zero,drop_zero,take_append_of_le_length (by rw[hf];exact ZG _),WU (by rw[hf];exact ZG _)]
 | x::nums,i+1,n,h=>by
  rw[YV,Nat.mul_succ,Nat.add_comm,<- drop_drop,drop_left' (by rw[hf])]
  exact flat6 hf h
def AqAt(H:Hp)(aa:Addr)(nums:List Int)(k:Nat)(part:Int):Prop:=∃ na:Addr,H aa=some (.tup [.ref na,.int (k:Int),.int part])/\H na=some (.lst (nums.map V.int))
def AqAt.kp(kp:KpT H H'){k:Nat}{part:Int}(h:AqAt H aa nums k part):AqAt H' aa nums k part:=by
 obtain⟨na,h1,h2⟩:=h
 exact⟨na,kp.t h1,kp.l h2⟩
inductive q231(K:Fg)(vs:List V)(H:Hp)(Q:VK)(E:XK):Prop
 |mk(pen b ra:Addr)(n low:Int)(L:Nat)(ws:List Int)(_:vs=[.ref pen,.ref b,.ref ra])(_:Pen K H pen n)(_:n<10000000)(_:H b=some (.tup [.int low,.int (L:Int)]))(_:L<=40)(_:H ra=some (.lst (ws.map V.int)))(_:ra≠pen)(_:ws.length<=300)(_:∀(aa:Addr)(nums:List Int)(k:Nat)(part:Int)(H':Hp),Keep pen H H'->Pen K H' pen (n+5)->AqAt H' aa nums k part->2<=nums.length->nums.length<=3->k<=ws.length->1<=part->part<=6->Q (.ref aa) H')
def q232:z.C P w 3 "_law_asked" pn10 (q231 K):=by
 have sc:=q429
 specialize z.d__law_asked
 obtain⟨pen,b,ra,n,low,L,ws,rfl,P0,hn,hb,hL,hra,nrp,h300,q⟩:=h
 refine⟨_,(q12 (q158 (i:=3) (cl:=[("_law_pen", s.heap.objs.size+1+0),("_law_bounds_here", s.heap.objs.size+1+1)]) (cn:=["_law_pen", "_law_bounds_here"]) (N:=["_law_bounds_here", "_law_pen"]) (fr:=[1,0]) (sc0:=q16 q146) sc.nd rfl (Or.inl rfl) rfl (q41 rfl z.range_ (pa1 q13)) (λC s₂ H₂ fp=>(pe_op q315 (pe_op q86 (pix (q144 (K:=K) rfl) (pr 1) q13) (pfn (q23 z) hr (pa2 (pr 2) (pe_op q86 (pe_op q671 q13 (pix (q144 (K:=K) rfl) (pr 1) q13)) q13)))) q13)) (by ac_rfl) ⟨by ac_rfl,by ac_rfl,trivial⟩ rfl rfl rfl cok rfl (by ac_rfl) (.inl rfl))
 (q12 (q422 (ps_if (q59 (op_neL hr.units) (pr 2) (q32 q11) (q19 _))
 (q15 (pst 3 sc.nd (pe_op q109 (pr 3) (q32 (pa1 (pix q39 (pr 2) (pfn (q23 z) hr (pa2 (pr 0) (pln z.len_ (pa1 (pr 2)))))))))))
 q21))
 (q15 (q18 (q29 (pa3 (pr 3) (pfn (q23 z) hr (pa2 (pr 0) (pe_op q86 (pln z.len_ (pa1 (pr 2))) q13))) (pe_op q86 q13 (pfn (q23 z) hr (pa2 (pr 0) q13))))))))),?_⟩
 have hp:=p2pos L
 have hq:=p2le hL
 have hbp:b≠pen:=P0.ne hb
 have hml:(ws.map V.int).length=ws.length:=ZJ _
 refine⟨2,rfl,∅,∅,λD hD=>?_⟩
 have nDp:D≠pen:=P0.fresh hD
 refine q78 (n:=2) (sz ∅) (λj ys G=>∃ fs:List Int,ys=fs.map V.int/\fs.length=j/\G D=some (.lst ys)/\Keep pen H G/\Pen K G pen (n+j))
  ⟨[],rfl,rfl,q14,(Keep.refl _ _).own hD,(P0.new hD _).le {}⟩ (λj ys G ⟨fs,e1,e2,e3,_⟩=>⟨e3,by rw[e1,ZJ];exact e2⟩) ?_ ?_
 ·rintro j ys G hj ⟨fs,e1,e2,e3,kG,PG⟩
  have hbG:=kG _ _ hbp hb
  exists _,_,SqT.of hbG,rfl,_,_,SqT.of hbG,rfl,_,_,rfl,rfl,⟨(W95 hL),(W135 hL),∅⟩
  dsimp only
  rw[q700]
  refine⟨pen,_,_,rfl,PG,{},{},{},λv G1 k1 P1 _ _=>?_⟩
  have e3':=k1 _ _ nDp e3
  exact⟨e3',fs++[low+v-1],by rw[WK,e1] <;> rfl,by rw[ZQ,e2] <;> rfl,q14,(kG.trans k1).own hD,(P1.other nDp e3' _).le {}⟩
 rintro ys G ⟨fs,e1,e2,e3,kG,PG⟩
 rw[e1]at e3
 clear e1
 exists λσ G'=>∃(na:Addr)(nums:List Int),σ=[some (.ref pen),some (.ref b),some (.ref ra),some (.ref na)]/\G' na=some (.lst (nums.map V.int))/\na≠pen/\2<=nums.length/\nums.length<=3/\Keep pen H G'/\Pen K G' pen (n+3),?_
 ·refine⟨szb rfl,λz0 hz0=>?_⟩
  obtain⟨G1,e1,s1,g1⟩:=nwH hz0 (.lst [])
  rw[e1]
  have hra1:=s1 _ _ (kG _ _ nrp hra)
  refine⟨ra,z0,ws,[],rfl,rfl,SqL.of hra1,SqL.of g1,ite2 (λc=>?_) (λ_=>?_)⟩
  ·have hne:ws≠[]:=λz=>by rw[z]at c;exact absurd c ∅
   have hpos:0<ws.length:=List.length_pos_iff.mpr hne
   refine⟨ra,_,rfl,.inl (SqL.of hra1),pen,_,_,rfl,PG.same s1,{},by rw[hml];lia,by rw[hml];lia,λt G2 k2 P2 t0 t1=>?_⟩
   rw[hml]at t1
   obtain⟨x,hx,hat⟩:=q126 (l:=ws) t0 t1
   refine⟨_,_,SqL.of (k2 _ _ nrp hra1),hat,szb rfl,λz2 hz2=>?_⟩
   obtain⟨G3,e4,s3,g3⟩:=nwH hz2 (.lst [.int x])
   rw[e4]
   refine⟨D,z2,fs.map V.int,[.int x],rfl,rfl,s3 _ _ (k2 _ _ nDp (s1 _ _ e3)),g3,sz (by rw[ZJ,e2];exact(by decide:2+1<=1000)),λz5 hz5=>?_⟩
   have nz5:z5≠pen:=(P2.same s3).fresh hz5
   obtain⟨G6,e6,s6,g6⟩:=nwH hz5 (.lst (fs.map V.int++[.int x]))
   rw[e6]
   exact⟨z5,fs++[x],rfl,by rw[g6,WK];rfl,nz5,by rw[ZQ];lia,by rw[ZQ,e2];exact ZG _,kG.trans ((Keep.same s1).trans (k2.trans (Keep.same (s3.trans s6)))),((P2.same s3).same s6).le {}⟩
  ·exact⟨D,fs,rfl,s1 _ _ e3,nDp,{},{},kG.trans (Keep.same s1),(PG.same s1).le {}⟩
 rintro σ G1 ⟨na,nums,rfl,hna,nnp,l2,l3,k1,P1⟩
 exists ra,_,rfl,.inl (SqL.of (k1 _ _ nrp hra))
 rw[hml]
 refine⟨pen,_,_,rfl,P1,(W206 hn),(W198 hml h300),(W202 hml h300),λkv G2 k2 P2 v0 v1=>?_⟩
 obtain⟨k,rfl⟩:=Int.eq_ofNat_of_zero_le v0
 refine⟨pen,_,_,rfl,P2,(W195 hn),∅,∅,λpv G3 k3 P3 p0 p1=>⟨szb rfl,λaa haa=>?_⟩⟩
 obtain⟨G4,e4,s4,g4⟩:=nwH haa (.tup [.ref na,.int (k:Int),.int (1+pv)])
 rw[e4]
 exact q aa nums k (1+pv) G4 (k1.trans (k2.trans (k3.trans (Keep.same s4)))) ((P3.same s4).le {}) ⟨na,g4,s4 _ _ (k3 _ _ nnp (k2 _ _ nnp hna))⟩ l2 l3 {} {} {}
theorem nx_opt{H:Hp}{v:V}:∀{o:Option P2},NxV H v o->AnsAt H v (.opt o)
 | none,h=>h
 | some _,h=>h
theorem bs_opt{H:Hp}{v:V}:∀{o:Option P2},BstV H v o->AnsAt H v (.opt o)
 | none,h=>h
 | some _,h=>h
def Gth.s{K:Fg}{H H':Hp}{b ga:Addr}{xs:List V}{low:Int}{L:Nat}{gs:List G3}(g:Gth K H b ga xs low L gs)(s:Same H H'):Gth K H' b ga xs low L gs:=g.kp (.of s) (g.tb.same s)
def app6{α:Type}(X:List α)(a b c d e f:α):X++[a,b]++[c,d]++[e,f]=X++[a,b,c,d,e,f]:=by
 rw[YF,YF]
 rfl
inductive q155(K:Fg)(vs:List V)(H:Hp)(Q:VK)(E:XK):Prop
 |mk(b ga aa:Addr)(xs:List V)(low:Int)(L:Nat)(gs:List G3)(nums:List Int)(k:Nat)(part:Int)(_:vs=[.ref b,.ref ga,.ref aa])(_:Gth K H b ga xs low L gs)(_:AqAt H aa nums k part)(_:1<=nums.length)(_:nums.length<=3)(_:k<=(Wh gs).length)(_:1<=part)(_:part<=6)(_:∀(D:Addr)(ys:List V)(H':Hp),KpT H H'->Tbs H'->H' D=some (.lst ys)->AnsL H' ys (ansA low L (Wh gs) nums k part)->Q (.ref D) H')
def q156:z.C P w 48 "_law_answers" pn5 (q155 K):=by
 have sc:=q327
 specialize z.d__law_answers
 obtain⟨b,ga,aa,xs,low,L,gs,nums,k,part,rfl,g,⟨na,haa,hna⟩,l1,l3,hk,p1,p6,q⟩:=h
 refine⟨_,(q12 (q260 (pr 2) (q170 rfl (q28 (pgn 3 sc.nd) (q28 (pgn 4 sc.nd) (q28 (pgn 5 sc.nd) q90)))))
 (q12 (pst 6 sc.nd (q32 (pa3 (pfn (ok_most z) hr (pa2 (pr 0) (pr 1))) (pfn (ok_often z) hr (pa3 (pr 0) (pr 1) (pr 5))) (pfn (q279 z) hr (pa2 (pr 0) (pr 1))))))
 (q12 (pst 6 sc.nd (pe_op q109 (pr 6) (q32 (pa2 (pfn (q337 z) hr (pa3 (pr 0) (pr 1) (pr 4))) (pfn (q370 z) hr (pa3 (pr 0) (pr 1) (pr 5)))))))
 (q12 (q61 PassesOwn.never rfl (q34 (pr 3)) (pgn 7 sc.nd)
 (q12 (pst 6 sc.nd (pe_op q109 (pr 6) (q32 (pa2 (pfn (q224 z) hr (pa3 (pr 0) (pr 1) (pr 7))) (pfn (q658 z) hr (pa4 (pr 0) (pr 1) (pix q39 (pr 3) q13) (pr 7)))))))
 (q12 (pst 6 sc.nd (pe_op q109 (pr 6) (q32 (pa2 (pfn (q397 z) hr (pa3 (pr 0) (pr 1) (pr 7))) (pfn (q503 z) hr (pa3 (pr 0) (pr 1) (pr 7)))))))
 (q15 (pst 6 sc.nd (pe_op q109 (pr 6) (q32 (pa2 (pfn (q369 z) hr (pa3 (pr 0) (pr 1) (pr 7))) (pfn (q547 z) hr (pa3 (pr 0) (pr 1) (pr 7)))))))))))
 (q15 (q18 (pr 6))))))),?_⟩
 exists aa,_,rfl,SqT.of haa,rfl,_,_,rfl,_,_,rfl,_,_,rfl,rfl
 refine⟨b,ga,xs,low,L,gs,rfl,SqT.of g.b,g.le,SqL.of g.g,g.at_,g.gd,g.ln,g.few,λH1 v1 s1 hv1=>?_⟩
 have g1:=g.s s1
 refine⟨b,ga,xs,low,part,L,gs,rfl,SqT.of g1.b,g.le,SqL.of g1.g,g1.at_,g.gd,g.ln,g.few,p1,λH2 D2 y2 s2 e2 _ a2=>?_⟩
 have g2:=g1.s s2
 refine⟨b,ga,xs,low,L,gs,rfl,SqT.of g2.b,g.le,SqL.of g2.g,g2.at_,g.gd,g.ln,g.few,λH3 D3 y3 s3 e3 _ a3=>⟨szb rfl,λD4 hD4=>?_⟩⟩
 have A3:AnsL H3 [v1,.ref D2,.ref D3] [.opt (bst (caF 1 0 L low (Wh gs))),.prs (caF part ((Wh gs).length:Nat) L low (Wh gs)),.prs (caF 1 0 L low (Wh gs))]:=
  .cons ((bs_opt hv1).up (.same (s2.trans s3)) λ_ _ e=>s3 _ _ (s2 _ _ e)) (.cons ⟨D2,y2,rfl,s3 _ _ e2,L2.Paired.mapP a2.prs λ_ _ z=>z.tk (.same s3)⟩ (.cons ⟨D3,y3,rfl,e3,a3.prs⟩ .nil))
 obtain⟨H4,e4,s4,f4⟩:=nwH hD4 (.lst [v1,.ref D2,.ref D3])
 rw[e4]
 have g4:=(g2.s s3).s s4
 refine⟨b,ga,xs,low,L,k,gs,rfl,SqT.of g4.b,g.le,SqL.of g4.g,g4.at_,g.gd,g.ln,g.few,hk,λH5 s5=>?_⟩
 have g5:=g4.s s5
 refine⟨b,ga,xs,low,part,L,gs,rfl,g5,{},{},λH6 v6 k6 t6 hp6=>⟨szb rfl,λD7 hD7=>?_⟩⟩
 obtain⟨H7,e7,s7,f7⟩:=nwH hD7 (.lst [.int (sumF L low (Wh gs) k),v6])
 rw[e7]
 refine⟨D4,D7,_,_,rfl,rfl,s7 _ _ (k6.l (s5 _ _ f4)),f7,sz (by exact(by decide:3+2<=1000)),λD8 hD8=>?_⟩
 obtain⟨H8,e8,s8,f8⟩:=nwH hD8 (.lst ([v1,.ref D2,.ref D3]++[.int (sumF L low (Wh gs) k),v6]))
 rw[e8]
 have k8:KpT H H8:=(KpT.of ((s1.trans (s2.trans s3)).trans (s4.trans s5))).trans (k6.trans (.of (s7.trans s8)))
 have t8:Tbs H8:=t6.same (s7.trans s8)
 have A8:AnsL H8 ([v1,.ref D2,.ref D3]++[.int (sumF L low (Wh gs) k),v6]) (ansH low L (Wh gs) k part):=
  q50 (((A3.same (s4.trans s5)).kp k6).same (s7.trans s8)) (.cons rfl (.cons (PpAt.tk (.same (s7.trans s8)) hp6) .nil))
 have hl8:([v1,V.ref D2,.ref D3]++[.int (sumF L low (Wh gs) k),v6]).length=5:=rfl
 generalize ([v1,V.ref D2,.ref D3]++[.int (sumF L low (Wh gs) k),v6])=y8 at *
 clear A3 hD4 hD7 hD8 e4 e7 e8 s1 s2 s3 s4 s5 s7 s8 f4 f7 e2 e3 a2 a3 hv1 hp6 k6 t6 g1 g2 g4 g5
 have h0:atI (nums.map V.int) 0=some (.int (nums.headD 0)):=by
  cases nums with
  | nil=>exact absurd l1 ∅
  | cons x nums=>exact q44 (xs:=(x::nums).map V.int) (j:=0) rfl
 have hfl:∀(l:List Int),(l.flatMap (ansN low L (Wh gs) (nums.headD 0))).length=6*l.length:=λl=>by
  induction l with
  | nil=>rfl
  | cons x l ih=>rw[YV,ZQ,ih,WX];show 6+_=_;exact W8
 refine⟨na,rfl,⟨_,SqL.of (k8.l hna)⟩,q95 (K:=K) (a:=na) (xs:=nums.map V.int) (λi σ G=>∃(D:Addr)(ys:List V)(v7:Option V),σ=[some (.ref b),some (.ref ga),some (.ref aa),some (.ref na),some (.int (k:Int)),some (.int part),some (.ref D),v7]/\KpT H G/\Tbs G/\G D=some (.lst ys)/\AnsL G ys (ansH low L (Wh gs) k part++(nums.take i).flatMap (ansN low L (Wh gs) (nums.headD 0))))
  ⟨D8,y8,none,rfl,k8,t8,f8,by rw[take_zero,flatMap_nil,YN];exact A8⟩ (λi σ G _ ⟨_,_,_,_,kG,_⟩=>SqL.of (kG.l hna)) ?_ ?_⟩
 ·rintro i x σ G hi ⟨D,ys,v7,rfl,kG,tG,hD,hA⟩
  obtain⟨n,hn,rfl⟩:=q291 hi
  have hli:i<nums.length:=(eA hn).1
  have hyl:ys.length<=30:=by
   have:=Paired.length hA
   rw[ZQ,hfl,WZ]at this
   have h5:(ansH low L (Wh gs) k part).length=5:=rfl
   lia
  have gG:=g.kp kG tG
  refine⟨b,ga,xs,low,n,L,gs,rfl,SqT.of gG.b,g.le,SqL.of gG.g,gG.at_,g.gd,g.ln,λG1 s1=>?_⟩
  have g1:=gG.s s1
  refine⟨_,_,SqL.of (s1 _ _ (kG.l hna)),h0,b,ga,xs,low,_,n,L,gs,rfl,SqT.of g1.b,g.le,SqL.of g1.g,g1.at_,g.gd,g.ln,λG2 s2=>⟨szb rfl,λD3 hD3=>?_⟩⟩
  obtain⟨G3,e3,s3,fh3⟩:=nwH hD3 (.lst [.int ((Wh gs).countP λx=>decide (x<n-low):Nat),.int ((Wh gs).countP (btw low (nums.headD 0) n):Nat)])
  rw[e3]
  have s13:=s1.trans (s2.trans s3)
  refine⟨D,D3,ys,_,rfl,rfl,s13 _ _ hD,fh3,sz (by rw[show List.length [V.int _,V.int _]=2 from rfl];lia),λD4 hD4=>?_⟩
  obtain⟨G4,e4,s4,f4⟩:=nwH hD4 (.lst (ys++[.int ((Wh gs).countP λx=>decide (x<n-low):Nat),.int ((Wh gs).countP (btw low (nums.headD 0) n):Nat)]))
  rw[e4]
  have s14:=s13.trans s4
  have g4:=gG.s s14
  have A4:AnsL G4 (ys++[.int ((Wh gs).countP λx=>decide (x<n-low):Nat),.int ((Wh gs).countP (btw low (nums.headD 0) n):Nat)]) _:=q50 (hA.same s14) (.cons (show AnsAt G4 (.int _) (.num _)from rfl) (.cons (show AnsAt G4 (.int _) (.num _)from rfl) .nil))
  refine⟨b,ga,xs,low,n,L,gs,rfl,SqT.of g4.b,g.le,g4.g,g4.at_,g.gd,g.ln,g.few,λv5 G5 s5 hv5=>?_⟩
  have g5:=g4.s s5
  refine⟨b,ga,xs,low,n,L,gs,rfl,SqT.of g5.b,g.le,g5.g,g5.at_,g.gd,g.ln,g.few,λv6 G6 s6 hv6=>⟨szb rfl,λD7 hD7=>?_⟩⟩
  obtain⟨G7,e7,s7,f7⟩:=nwH hD7 (.lst [v5,v6])
  rw[e7]
  have s47:=s5.trans (s6.trans s7)
  refine⟨D4,D7,_,_,rfl,rfl,s47 _ _ f4,f7,sz (by rw[ZQ];show _+2+2<=_;lia),λD8 hD8=>?_⟩
  obtain⟨G8,e8,s8,f8⟩:=nwH hD8 (.lst ((ys++[.int ((Wh gs).countP λx=>decide (x<n-low):Nat),.int ((Wh gs).countP (btw low (nums.headD 0) n):Nat)])++[v5,v6]))
  rw[e8]
  have s48:=s47.trans s8
  have A8:=q50 (A4.same s48) (.cons ((nx_opt hv5).up (.same (s6.trans (s7.trans s8))) λ_ _ e=>(s6.trans (s7.trans s8)) _ _ e) (.cons ((nx_opt hv6).up (.same (s7.trans s8)) λ_ _ e=>(s7.trans s8) _ _ e) .nil))
  have g8:=g4.s s48
  refine⟨b,ga,xs,low,n,L,gs,rfl,g8,λG9 v9 k9 t9 hp9=>?_⟩
  refine⟨b,ga,xs,low,n,L,gs,rfl,g8.kp k9 t9,λGa va ka ta hpa=>⟨szb rfl,λDb hDb=>?_⟩⟩
  obtain⟨Gb,eb,sb,fb⟩:=nwH hDb (.lst [v9,va])
  rw[eb]
  have k8b:KpT G8 Gb:=k9.trans (ka.trans (.of sb))
  refine⟨D8,Db,_,_,rfl,rfl,k8b.l f8,fb,sz (by rw[ZQ,ZQ];show _+2+2+2<=_;lia),λDc hDc=>?_⟩
  obtain⟨Gc,ec,sc',fc⟩:=nwH hDc (.lst (((ys++[.int ((Wh gs).countP λx=>decide (x<n-low):Nat),.int ((Wh gs).countP (btw low (nums.headD 0) n):Nat)])++[v5,v6])++[v9,va]))
  rw[ec]
  exists Dc,_,_,rfl,kG.trans ((KpT.of (s14.trans s48)).trans (k8b.trans (.of sc'))),ta.same (sb.trans sc'),fc
  have A9:=q50 (AnsL.kp (k8b.trans (.of sc')) A8) (.cons (show AnsAt Gc v9 (.pap (papF (f3 (psB n)) L low (Wh gs)))from PpAt.tk (ka.trans (.of (sb.trans sc'))).tk hp9) (.cons (show AnsAt Gc va (.pap _)from PpAt.tk (.same (sb.trans sc')) hpa) .nil))
  rw[YG,hn,flatMap_append,<- YF]
  rw[app6 (ansH low L (Wh gs) k part++_)]at A9
  show AnsL Gc _ (_++([n].flatMap _))
  rw[YV,flatMap_nil,YN]
  exact A9
 ·rintro σ G ⟨D,ys,v7,rfl,kG,tG,hD,hA⟩
  rw[ZJ,YQ]at hA
  exact q D ys G kG tG hD hA
noncomputable def rmv(H:Hp)(W:Addr):Hp:=λa=>if a=W then none else H a
def q610:Same (rmv H W) H:=λa o e=>by
 unfold rmv at e
 split at e
 ·cases e
 ·exact e
def q611(s:∀ a o,a≠W->H a=some o->H' a=some o):Same (rmv H W) (rmv H' W):=λa o e=>by
 unfold rmv at e ⊢
 split at e
 ·cases e
 ·rename_i n
  rw[ZI n]
  exact s a o n e
def q551(n:H W=none)(s:Same H H'):Same H (rmv H' W):=λa o e=>by
 unfold rmv
 rw[ZI (λz=>by rw[z,n]at e;cases e)]
 exact s a o e
theorem opt_rmv{H:Hp}{W:Addr}{ys:List V}(hw:H W=some (.lst ys)){v:V}:∀{o:Option P2},OptR H v o->AnsAt (rmv H W) v (.opt o)
 | none,h=>h
 | some p,⟨a,e,h⟩=>⟨a,e,by unfold rmv;rw[ZI (ne_of h hw (by intro z;cases z))];exact h⟩
def last_opt{fl:List P2}(h:Paired (PrR G) ys fl):∃ v,atI ([V.non]++ys) (-1)=some v/\OptR G v fl.getLast?:=by
 have hl:=Paired.length h
 rcases eq_nil_or_concat fl with z | ⟨l,p,z⟩
 ·subst z
  have:ys=[]:=eq_nil_of_length_eq_zero hl
  subst this
  exact⟨.non,rfl,rfl⟩
 ·rw[concat_eq_append]at z
  subst z
  rcases eq_nil_or_concat ys with z | ⟨m,v,z⟩
  ·subst z
   rw[ZQ]at hl
   exact absurd hl (by simp)
  ·rw[concat_eq_append]at z
   subst z
   rw[ZQ,ZQ]at hl
   have hl':m.length=l.length:=Nat.succ.inj hl
   obtain⟨p',e,r⟩:=q68 h (i:=m.length) (x:=v) (by simp)
   rw[hl',YL (ZG _)]at e
   simp at e
   subst e
   exact⟨v,by rw[<- YF];exact q562 _ _,by rw[getLast?_append];exact r⟩
structure Pl(H G:Hp)(D W:Addr)(zc:List V)(ca:List P2)(ys:List V)(as:List Ans):Prop where
 s:Same H G
 w0:H W=none
 n:D≠W
 d:G D=some (.lst zc)
 c:Paired (PrR G) zc ca
 w:G W=some (.lst ys)
 a:AnsL (rmv G W) ys as
section
variable{H G G':Hp}{D W:Addr}{zc ys xs:List V}{ca:List P2}{as bs:List Ans}
def Pl.same(h:Pl H G D W zc ca ys as)(s:Same G G'):Pl H G' D W zc ca ys as:=⟨h.s.trans s,h.w0,h.n,s _ _ h.d,L2.Paired.mapP h.c λ_ _ z=>z.tk (.same s),s _ _ h.w,h.a.same (q611 λa o _ e=>s a o e)⟩
def Pl.app(h:Pl H G D W zc ca ys as){v:V}{a:Ans}(hv:AnsAt (rmv G W) v a):Pl H (upd G W (.lst (ys++[v]))) D W zc ca (ys++[v]) (as++[a]):=by
 have k:=Keep.set W G (.lst (ys++[v]))
 have r:Same (rmv G W) (rmv (upd G W (.lst (ys++[v]))) W):=q611 λa o n e=>k a o n e
 exact⟨Same.own h.s h.w0,h.w0,h.n,k _ _ h.n h.d,L2.Paired.mapP h.c λ_ _ z=>z.tk (.set h.w),q14,q50 (h.a.same r) (.cons (hv.up (.same r) λ_ _ e=>r _ _ e) .nil)⟩
def Pl.cat(h:Pl H G D W zc ca ys as)(hx:AnsL G xs bs)(n:G W'=none)(s:Same G G')(e:G' W'=some (.lst (ys++xs))):Pl H G' D W' zc ca (ys++xs) (as++bs):=
 ⟨h.s.trans s,q199 h.s n,(λz=>by rw[<- z,h.d]at n;cases n),s _ _ h.d,L2.Paired.mapP h.c λ_ _ z=>z.tk (.same s),e,q50 (h.a.same (q610.trans (q551 n s))) (hx.same (q551 n s))⟩
end
inductive q233(K:Fg)(vs:List V)(H:Hp)(Q:VK)(E:XK):Prop
 |mk(ra aa:Addr)(low:Int)(L:Nat)(ws nums:List Int)(k:Nat)(part:Int)(_:vs=[.ref ra,.ref aa])(_:H ra=some (.lst (ws.map V.int)))(_:ws.length<=300)(_:InO L (offs low ws))(_:AqAt H aa nums k part)(_:1<=nums.length)(_:nums.length<=3)(_:k<=ws.length)(_:1<=part)(_:part<=6)(_:∀(D:Addr)(ys:List V)(H':Hp),Same H H'->H' D=some (.lst ys)->AnsL H' ys ((ansA low L (offs low ws) nums k part).map hideA)->Q (.ref D) H')
def q445:z.C P w 1 "_law_plain" ["_law_row_here", "_law_asked_here"] (q233 K):=by
 have sc:=q430
 specialize z.d__law_plain
 obtain⟨ra,aa,low,L,ws,nums,k,part,rfl,hra,hl,hin,⟨na,haa,hna⟩,l1,l3,hk,p1,p6,q⟩:=h
 refine⟨_,(q12 (q260 (pr 1) (q170 rfl (q28 (pgn 2 sc.nd) (q28 (pgn 3 sc.nd) (q28 (pgn 4 sc.nd) q90)))))
 (q12 (q158 (i:=5) (cl:=[("_law_row_here", s.heap.objs.size+1+0)]) (cn:=["_law_row_here"]) (N:=["_law_row_here"]) (fr:=[0]) (sc0:=q16 q38) sc.nd rfl (Or.inl rfl) rfl (q34 (q36 (q470 rfl (P:=P) (w:=w) rfl rfl) () z.sorted_ q139 (pa1 (q202 (q716 rfl (K:=K) (P:=P) (w:=w) rfl rfl rfl) () z.set_ bt_set (pa1 (pr 0)))))) (λC s₂ H₂ fp=>(q29 (pa2 (pr 0) (pe_bmK (K:=K) rfl WQ PySem.F.slot_list_count PySem.F.type_list_count (q719 (K:=K) rfl) (pr 1) (pa1 (pr 0)))))) (by ac_rfl) ⟨by ac_rfl,trivial⟩ rfl rfl rfl cok rfl (by ac_rfl) (.inl rfl))
 (q12 (pst 6 sc.nd (q36 (q702 rfl) () z.max_ bt_max (pa1 (pe_op q109 (q32 (pa1 q13)) (q415 (x := "_law_worth") (cl:=[]) (cn:=[]) (TN:=["_law_many"]) (N:=[]) (fr:=[]) (sc0:=q16 q38) rfl (q34 (pr 5)) (λC s₂ H₂ fp=>(pr 1)) (λC s₂ H₂ fp=>q519) (λC s₂ H₂ fp=>(q522 (K:=K) (n:=2) rfl rfl (q28 (q105 (i:=0) (show(["_law_worth", "_law_many"]:List Str).Nodup by decide +kernel) rfl (Or.inl rfl)) (q28 (q105 (i:=1) (show(["_law_worth", "_law_many"]:List Str).Nodup by decide +kernel) rfl (Or.inl rfl)) q90)))) (by ac_rfl) trivial rfl rfl rfl ⟨by decide +kernel,by decide +kernel,by decide +kernel,by decide +kernel⟩ rfl)))))
 (q12 (pst 7 sc.nd (q32 (pa1 (pix q39 (pe_op q109 (q71 (cl:=[("_law_greatest", s.heap.objs.size+1+3)]) (cn:=["_law_greatest"]) (N:=["_law_greatest"]) (fr:=[6]) (sc0:=q16 q38) rfl (q34 (pr 5)) (λC s₂ H₂ fp=>(pr 0)) (λC s₂ H₂ fp=>(q59 op_eq (pix (q144 (K:=K) rfl) (pr 0) q13) (pr 1) (q19 _))) (by ac_rfl) ⟨by ac_rfl,trivial⟩ rfl rfl rfl cok rfl) (q32 (pa1 q60))) q13))))
 (q12 (pst 7 sc.nd (pe_op q109 (pr 7) (q32 (pa4 (q71 (cl:=[("_law_row_here", s.heap.objs.size+1+0),("_law_part", s.heap.objs.size+1+2)]) (cn:=["_law_row_here", "_law_part"]) (N:=["_law_part", "_law_row_here"]) (fr:=[4,0]) (sc0:=q16 q38) rfl (q34 (pr 5)) (λC s₂ H₂ fp=>(pr 0)) (λC s₂ H₂ fp=>(q59 om_gt (pe_op q84 (pix (q144 (K:=K) rfl) (pr 0) q13) (pr 1)) (q36 (q697 (K:=K) rfl) () z.len_ bt_len (pa1 (pr 2))) (q19 _))) (by ac_rfl) ⟨by ac_rfl,by ac_rfl,trivial⟩ rfl rfl rfl cok rfl) (pr 5) (q36 (q308 rfl) () z.sum_ q687 (pa1 (q108 q302 (q36 (q473 (K:=K) rfl) () z.sorted_ q139 (pa1 (pr 0))) q516 (q77 (pr 3))))) q51))))
 (q12 (q61 PassesOwn.never rfl (q34 (pr 2)) (pgn 8 sc.nd)
 (q12 (q75 (pe_bm WQ WS WT q42 (pr 7) (pa1 (pln z.len_ (pa1 (q71 (cl:=[("_law_number", s.heap.objs.size+1+4)]) (cn:=["_law_number"]) (N:=["_law_number"]) (fr:=[8]) (sc0:=q16 q38) rfl (q34 (pr 0)) (λC s₂ H₂ fp=>(pr 0)) (λC s₂ H₂ fp=>(q59 om_lt (pr 0) (pr 1) (q19 _))) (by ac_rfl) ⟨by ac_rfl,trivial⟩ rfl rfl rfl cok rfl))))))
 (q12 (q75 (pe_bm WQ WS WT q42 (pr 7) (pa1 (pln z.len_ (pa1 (q71 (cl:=[("_law_numbers", s.heap.objs.size+1+1),("_law_number", s.heap.objs.size+1+4)]) (cn:=["_law_numbers", "_law_number"]) (N:=["_law_number", "_law_numbers"]) (fr:=[8,2]) (sc0:=q16 q38) rfl (q34 (pr 0)) (λC s₂ H₂ fp=>(pr 0)) (λC s₂ H₂ fp=>(q559 om_le om_le (pix (q209 (K:=K) rfl) (pr 2) q13) (pr 0) (pr 1))) (by ac_rfl) ⟨by ac_rfl,by ac_rfl,trivial⟩ rfl rfl rfl cok rfl))))))
 (q12 (q75 (pe_bm WQ WS WT q42 (pr 7) (pa1 (pix q39 (pe_op q109 (q71 (cl:=[("_law_number", s.heap.objs.size+1+4)]) (cn:=["_law_number"]) (N:=["_law_number"]) (fr:=[8]) (sc0:=q16 q38) rfl (q34 (pr 5)) (λC s₂ H₂ fp=>(pr 0)) (λC s₂ H₂ fp=>(q59 om_gt (pix (q144 (K:=K) rfl) (pr 0) q13) (pr 1) (q19 _))) (by ac_rfl) ⟨by ac_rfl,trivial⟩ rfl rfl rfl cok rfl) (q32 (pa1 q60))) q13))))
 (q15 (pst 7 sc.nd (pe_op q109 (pr 7) (q32 (pa3 (pix q39 (pe_op q109 (q32 (pa1 q60)) (q71 (cl:=[("_law_number", s.heap.objs.size+1+4)]) (cn:=["_law_number"]) (N:=["_law_number"]) (fr:=[8]) (sc0:=q16 q38) rfl (q34 (pr 5)) (λC s₂ H₂ fp=>(pr 0)) (λC s₂ H₂ fp=>(q59 om_lt (pix (q144 (K:=K) rfl) (pr 0) q13) (pr 1) (q19 _))) (by ac_rfl) ⟨by ac_rfl,trivial⟩ rfl rfl rfl cok rfl)) (pe_un un_neg q13)) q51 q51)))))))))
 (q15 (q18 (pr 7))))))))),?_⟩
 exists aa,_,rfl,SqT.of haa,rfl,_,_,rfl,_,_,rfl,_,_,rfl,rfl
 refine⟨ra,ws,rfl,SqL.of hra,(W96 hl),λr hr0=>?_⟩
 refine⟨r,_,rfl,q14,λl ms hl0 hp hs=>?_⟩
 have s2:=q17 hr0 (.ext λh=>TS.SetI P w h r (ws.foldl TS.stD []))
 have s3:=q17 hl0 (.lst (ms.map V.int))
 have hmm:∀ x,x∈ms↔x∈ws:=λx=>by
  rw[hp.mem_iff,q770]
  simp
 have hml:ms.length<=300:=by
  have h1:=hp.length_eq
  have h2:=q771 ws []
  rw[length_nil]at h2
  lia
 have hfl:upd (upd H r (.ext λh=>TS.SetI P w h r (ws.foldl TS.stD []))) l (.lst (ms.map V.int)) l=some (.lst (ms.map V.int)):=q14
 have s03:=s2.trans s3
 generalize upd (upd H r (.ext λh=>TS.SetI P w h r (ws.foldl TS.stD []))) l (.lst (ms.map V.int))=H3 at *
 clear s2 s3 hr0 hl0 hp
 have hmv:(ms.map V.int).length=ms.length:=ZJ _
 refine⟨l,rfl,⟨_,SqL.of hfl⟩,λD hD=>?_⟩
 refine q240 (xs:=ms.map V.int) (sz {}) (λj ys G=>G D=some (.lst ys)/\Same H3 G/\ys.length=j/\Paired (PrR G) ys (withM ws (ms.take j))) ⟨q14,q17 hD _,rfl,.nil⟩ (λj ys G ⟨_,s,_⟩=>SqL.of (s _ _ hfl)) (λj ys G ⟨a1,_,a3,_⟩=>⟨a1,a3⟩) ?_ ?_
 ·rintro j x ys G hj ⟨a1,sG,a3,a4⟩
  obtain⟨y,hy,rfl⟩:=q291 hj
  have hwlG:=(s03.trans sG) _ _ hra
  refine⟨.inl ⟨rfl,_,SqL.of hwlG⟩,ra,ws,y,rfl,rfl,SqL.of hwlG,szb rfl,λp hp'=>?_⟩
  have t:=q17 hp' (.tup [V.int y,.int ((ws.count y:Nat):Int)])
  have a1':=t _ _ a1
  have tk:TKeep (upd G p (.tup [V.int y,.int ((ws.count y:Nat):Int)])) (upd (upd G p (.tup [V.int y,.int ((ws.count y:Nat):Int)])) D (.lst (ys++[.ref p]))):=TKeep.set a1'
  exists a1',q14,Same.own (sG.trans t) hD,by rw[ZQ,a3];rfl
  rw[YG,hy]
  unfold withM
  rw[WK]
  refine q50 (L2.Paired.mapP a4 λ_ _ z=>(z.tk (.same t)).tk tk) (.cons ⟨p,rfl,(tk _ _).1 q14⟩ .nil)
 rintro zc G ⟨hD1,sG,a3,a4⟩
 rw[hmv,YQ,q609 hin hmm hs]at a4
 have S:=s03.trans sG
 have hcl:(caF 1 0 L low (offs low ws)).length=zc.length:=(Paired.length a4).symm
 have hzl:zc.length<=300:={}
 clear sG hfl s03 hs hmm hmv a3
 have hcp:∀ p∈caF 1 0 L low (offs low ws),0<p.2/\p.2<=300:=λp hp=>by
  obtain⟨_,_,h3,h4⟩:=q273 hin hp
  have h5:=count_le_length (a:=p.1-low) (l:=offs low ws)
  rw[ZJ]at h5
  lia
 refine⟨szb rfl,λz0 hz0=>?_⟩
 obtain⟨G1,e1,s1,f1⟩:=nwH hz0 (.lst [.int 0])
 rw[e1]
 have S1:=S.trans s1
 have hD2:=s1 _ _ hD1
 have a5:Paired (PrR G1) zc (caF 1 0 L low (offs low ws)):=L2.Paired.mapP a4 λ_ _ z=>z.tk (.same s1)
 generalize hca:caF 1 0 L low (offs low ws)=ca at *
 refine⟨D,rfl,⟨_,SqL.of hD2⟩,λD9 hD9=>?_⟩
 refine q239 (xs:=zc) (sz (W69 hcl hzl)) (λi us H9=>us=(ca.take i).map (λ(p:Int×Int)=>V.int p.2)/\i<=ca.length/\H9=upd G1 D9 (.lst us)) ⟨by simp,WA _,rfl⟩ (λi us H9 ⟨_,_,e⟩=>by rw[e];exact SqL.of (q17 hD9 _ _ _ hD2))
  (λi us H9 ⟨e1,e2,e3⟩=>⟨by rw[e3];exact q14,by rw[e1,ZJ,WZ];lia⟩) ?_ ?_
 ·rintro i x us H9 hx ⟨e1,e2,rfl⟩ vs3 hvs3
  obtain⟨p,gp,px,rfl,hpx⟩:=q68 a5 hx
  have hi:i<ca.length:=(eA gp).1
  match vs3,hvs3 with
  | [x0,x1],_=>
   refine⟨px,_,rfl,SqT.of (q17 hD9 _ _ _ hpx),rfl,_,_,rfl,_,_,rfl,rfl,⟨[_,_],rfl,rfl⟩,iteT ?_⟩
   refine⟨q14,?_,(W21 hi),by rw[q103]⟩
   rw[YG,gp,WK,<- e1]
   rfl
 rintro us H9 ⟨e1,e2,rfl⟩
 rw[<- hcl,YQ]at e1
 have s9:=q17 hD9 (.lst us)
 have f9:=@q14 G1 D9 (.lst us)
 generalize upd G1 D9 (.lst us)=G9 at *
 refine⟨z0,D9,_,_,rfl,rfl,s9 _ _ f1,f9,sz (by rw[e1,ZJ];show 1+_<=_;lia),λDa hDa=>?_⟩
 obtain⟨Ga,ea,sa,fa⟩:=nwH hDa (.lst ([.int 0]++us))
 rw[ea]
 have fa':Ga Da=some (.lst (([(0:Int)]++ca.map (·.2)).map V.int)):=by rw[fa,e1,WK,map_map];rfl
 refine⟨Da,[(0:Int)]++ca.map (·.2),rfl,SqL.of fa',by rw[ZQ];show 0<1+_;lia,λM hM hMle=>?_⟩
 have hbst:(ca.filter λp=>decide (p.2=M)).head? = bst ca:=bst_head hM hMle λp hp=>(hcp p hp).1
 have Sa:=S1.trans (s9.trans sa)
 have hDa':=(s9.trans sa) _ _ hD2
 have aa5:Paired (PrR Ga) zc ca:=L2.Paired.mapP a5 λ_ _ z=>z.tk (.same (s9.trans sa))
 clear hM hMle fa fa' f9 f1 e1 a5 a4 hD1 hD2 s9 sa s1 S1 S hDa hD9 hz0
 refine⟨D,rfl,⟨_,SqL.of hDa'⟩,λDb hDb=>?_⟩
 refine q166 (λp=>decide (p.2=M)) hDa' aa5 hDb {} (λt p H' Q' _ _ ht q'=>⟨_,_,SqT.of ht,rfl,rfl,by rw[dec_int];exact q'⟩) (λt H' Q' q'=>q') λys hys hyl=>?_
 obtain⟨Gb,eb,sb,fb⟩:=nwH hDb (.lst ys)
 rw[eb]
 refine⟨szb rfl,λl3 hl3=>?_⟩
 obtain⟨Gc,ec,sc1,fc⟩:=nwH hl3 (.lst [.non])
 rw[ec]
 refine⟨Db,l3,ys,[V.non],rfl,rfl,sc1 _ _ fb,fc,szB (by simp;exact W190 hyl),λl4 hl4=>?_⟩
 obtain⟨Gd,ed,sd,fd'⟩:=nwH hl4 (.lst (ys++[V.non]))
 rw[ed]
 have hysd:Paired (PrR Gd) ys (ca.filter λp=>decide (p.2=M)):=L2.Paired.mapP hys λ_ _ z=>z.tk (.same (sb.trans (sc1.trans sd)))
 obtain⟨v,hv,hvo⟩:=q607 hysd
 rw[hbst]at hvo
 refine⟨_,_,SqL.of fd',hv,szb rfl,λl5 hl5=>?_⟩
 obtain⟨Ge,ee,se,fe⟩:=nwH hl5 (.lst [v])
 rw[ee]
 have sae:=sb.trans (sc1.trans (sd.trans se))
 have Se:=Sa.trans sae
 have A1:AnsL Ge [v] [.opt (bst ca)]:=.cons (OptR.tk (.same se) hvo) .nil
 have hDe:=sae _ _ hDa'
 have ae:Paired (PrR Ge) zc ca:=L2.Paired.mapP aa5 λ_ _ z=>z.tk (.same sae)
 clear hysd hys hyl fb fc fd' hv hvo sb sc1 sd se eb ec ed ee hDb hl3 hl4 hl5 aa5 hDa' Sa sae hbst
 have hrae:=Se _ _ hra
 refine⟨D,rfl,⟨_,SqL.of hDe⟩,λDf hDf=>?_⟩
 have hwl:(ws.map V.int).length=ws.length:=ZJ _
 refine q166 (λp=>decide ((ws.length:Int)<p.2*part)) hDe ae hDf {} (λt p H' Q' hp' s' ht q'=>⟨_,_,SqT.of ht,rfl,_,_,rfl,rfl,.inl ⟨by have:=hcp p hp';lia,by have:=hcp p hp';lia⟩,ra,_,rfl,.inl (SqL.of (s' _ _ hrae)),by rw[hwl];exact q'⟩) (λt H' Q' q'=>q') λyf hyf hyfl=>?_
 obtain⟨Gf,ef,sf,ff⟩:=nwH hDf (.lst yf)
 rw[ef]
 refine⟨ra,ws,rfl,SqL.of (sf _ _ hrae),λlg ks hlg hpg hsg=>?_⟩
 obtain⟨Gg,eg,sg,fg⟩:=nwH hlg (.lst (ks.map V.int))
 rw[eg]
 refine⟨_,rfl,lg,_,rfl,SqL.of fg,λlh hlh=>?_⟩
 rw[cutTake,<- map_take]
 obtain⟨Gh,eh,sh,fh⟩:=nwH hlh (.lst ((ks.take k).map V.int))
 rw[eh]
 exists lh,ks.take k,rfl,SqL.of fh
 rw[<- q774 hin hpg hsg k hk]
 refine⟨szb rfl,λli hli=>?_⟩
 obtain⟨Gi,ei,si,fi⟩:=nwH hli (.lst [.ref Df,.ref D,.int (sumF L low (offs low ws) k),.str "paper"])
 rw[ei]
 have sei:=sf.trans (sg.trans (sh.trans si))
 refine⟨l5,li,_,_,rfl,rfl,sei _ _ fe,fi,sz (by exact(by decide:1+4<=1000)),λlj hlj=>?_⟩
 have sfi:=sg.trans (sh.trans si)
 have hlen:((offs low ws).length:Int)=(ws.length:Int):=by rw[ZJ]
 have Ai:AnsL Gi ([v]++[.ref Df,.ref D,.int (sumF L low (offs low ws) k),.str "paper"]) ((ansH low L (offs low ws) k part).map hideA):=by
  show AnsL Gi _ ([.opt (bst (caF 1 0 L low (offs low ws)))]++[.prs (caF part ((offs low ws).length:Nat) L low (offs low ws)),.prs (caF 1 0 L low (offs low ws)),.num (sumF L low (offs low ws) k),.wd])
  rw[hca]
  refine q50 (A1.same sei) (.cons ⟨Df,yf,rfl,sfi _ _ ff,?_⟩ (.cons ⟨D,zc,rfl,sei _ _ hDe,L2.Paired.mapP ae λ_ _ z=>z.tk (.same sei)⟩ (.cons rfl (.cons rfl .nil))))
  rw[q333 p1 {},hca,hlen]
  exact L2.Paired.mapP hyf λ_ _ z=>z.tk (.same (sf.trans sfi))
 obtain⟨Gj,ej,sj,fj⟩:=nwH hlj (.lst ([v]++[.ref Df,.ref D,.int (sumF L low (offs low ws) k),.str "paper"]))
 rw[ej]
 have sej:=sei.trans sj
 have PJ:Pl H Gj D lj zc ca ([v]++[.ref Df,.ref D,.int (sumF L low (offs low ws) k),.str "paper"]) ((ansH low L (offs low ws) k part).map hideA):=
  ⟨Se.trans sej,q199 (Se.trans sei) hlj,(λz=>by rw[<- z,sei _ _ hDe]at hlj;cases hlj),sej _ _ hDe,L2.Paired.mapP ae λ_ _ z=>z.tk (.same sej),fj,Ai.same (q551 hlj sj)⟩
 have hlj5:([v]++[V.ref Df,.ref D,.int (sumF L low (offs low ws) k),.str "paper"]).length=5:=rfl
 generalize ([v]++[V.ref Df,.ref D,.int (sumF L low (offs low ws) k),.str "paper"])=yj at *
 clear Ai A1 fe hDe ae hDf hyf hyfl ef ff hlg hpg hsg eg fg hlh eh fh hli ei fi hlj ej sf sg sh si sj sei sej sfi Se hrae fj
 have h0:atI (nums.map V.int) 0=some (.int (nums.headD 0)):=by
  cases nums with
  | nil=>exact absurd l1 ∅
  | cons x nums=>exact q44 (xs:=(x::nums).map V.int) (j:=0) rfl
 have hfl:∀(l:List Int),(l.flatMap (ansN low L (offs low ws) (nums.headD 0))).length=6*l.length:=λl=>by
  induction l with
  | nil=>rfl
  | cons x l ih=>rw[YV,ZQ,ih,WX];show 6+_=_;exact W8
 refine⟨na,rfl,⟨_,SqL.of (PJ.s _ _ hna)⟩,q95 (K:=K) (a:=na) (xs:=nums.map V.int) (λi σ G=>∃(W:Addr)(ys:List V)(v8:Option V),σ=[some (.ref ra),some (.ref aa),some (.ref na),some (.int (k:Int)),some (.int part),some (.ref D),some (.int M),some (.ref W),v8]/\Pl H G D W zc ca ys ((ansH low L (offs low ws) k part++(nums.take i).flatMap (ansN low L (offs low ws) (nums.headD 0))).map hideA))
  ⟨lj,yj,none,rfl,by rw[take_zero,flatMap_nil,YN];exact PJ⟩ (λi σ G _ ⟨_,_,_,_,p⟩=>SqL.of (p.s _ _ hna)) ?_ ?_⟩
 ·rintro i x σ G hi ⟨W,ys,v8,rfl,p⟩
  obtain⟨n,hn,rfl⟩:=q291 hi
  have hli:i<nums.length:=(eA hn).1
  have hyl:ys.length<=30:=by
   have:=Paired.length p.a
   rw[ZJ,ZQ,hfl,WZ]at this
   have h5:(ansH low L (offs low ws) k part).length=5:=rfl
   lia
  refine⟨.inl ⟨rfl,_,SqL.of p.w⟩,ra,rfl,⟨_,SqL.of (p.s _ _ hra)⟩,λD1 hD1=>?_⟩
  refine q127 (p:=λx=>decide (x<n)) (g:=V.int) (SqL.of (p.s _ _ hra)) hD1 (sz {}) (λm _ H1 Q1 _ q1=>q1) (λm _ _ H1 Q1 _ q1=>q1) ?_
  obtain⟨G1,e1,s1,f1⟩:=nwH hD1 (.lst ((ws.filter λx=>decide (x<n)).map V.int))
  rw[e1]
  have p1':=p.same s1
  exists D1,_,rfl,.inl (SqL.of f1),W,_,_,rfl,rfl,p1'.w,q52 {}
  rw[ZJ,<- YW,<- q98 low (λx=>decide (x<n)) ws]
  have p2:=p1'.app (a:=.num ((offs low ws).countP λo=>decide (low+o<n):Nat)) rfl
  generalize upd G1 W _=G2 at *
  refine⟨.inl ⟨rfl,_,SqL.of p2.w⟩,ra,rfl,⟨_,SqL.of (p2.s _ _ hra)⟩,λD3 hD3=>?_⟩
  have hn2:=p2.s _ _ hna
  refine q127 (p:=λx=>decide (nums.headD 0<=x)&&decide (x<=n)) (g:=V.int) (SqL.of (p2.s _ _ hra)) hD3 (sz {}) (λm _ H1 Q1 hs1 q1=>?_) (λm _ _ H1 Q1 _ q1=>q1) ?_
  ·refine⟨_,_,SqL.of (hs1 _ _ hn2),h0,_,rfl,ite2 (λc=>?_) (λc=>?_)⟩
   ·exact⟨_,rfl,by rw[show decide (nums.headD 0<=m)=true from c,Bool.true_and]at q1;exact q1⟩
   ·exact⟨_,rfl,by rw[show decide (nums.headD 0<=m)=false from Bool.eq_false_iff.mpr c,YH]at q1;exact q1⟩
  obtain⟨G3,e3,s3,f3'⟩:=nwH hD3 (.lst ((ws.filter λx=>decide (nums.headD 0<=x)&&decide (x<=n)).map V.int))
  rw[e3]
  have p3:=p2.same s3
  exists D3,_,rfl,.inl (SqL.of f3'),W,_,_,rfl,rfl,p3.w,q52 (by rw[ZQ];show _+1<=_;lia)
  rw[ZJ,<- YW,<- q98 low (λx=>decide (nums.headD 0<=x)&&decide (x<=n)) ws]
  have p4:=p3.app (a:=.num ((offs low ws).countP λo=>decide (nums.headD 0<=low+o)&&decide (low+o<=n):Nat)) rfl
  generalize upd G3 W _=G4 at *
  refine⟨.inl ⟨rfl,_,SqL.of p4.w⟩,D,rfl,⟨_,SqL.of p4.d⟩,λD5 hD5=>?_⟩
  refine q166 (λp=>decide (n<p.1)) p4.d p4.c hD5 (W69 hcl hzl) (λt p H' Q' _ _ ht q'=>⟨_,_,SqT.of ht,rfl,q'⟩) (λt H' Q' q'=>q') λy5 hy5 hyl5=>?_
  obtain⟨G5,e5,s5,f5⟩:=nwH hD5 (.lst y5)
  rw[e5]
  refine⟨szb rfl,λl6 hl6=>?_⟩
  obtain⟨G6,e6,s6,f6⟩:=nwH hl6 (.lst [.non])
  rw[e6]
  refine⟨D5,l6,y5,[V.non],rfl,rfl,s6 _ _ f5,f6,szB (by simp;exact W190 hyl5),λl7 hl7=>?_⟩
  obtain⟨G7,e7,s7,f7⟩:=nwH hl7 (.lst (y5++[V.non]))
  rw[e7]
  have s47:=s5.trans (s6.trans s7)
  obtain⟨v7,hv7,ho7⟩:=q607 (L2.Paired.mapP hy5 λ_ _ z=>z.tk (.same s47))
  rw[head?_filter]at ho7
  have p7:=p4.same s47
  exists _,_,SqL.of f7,hv7,W,_,_,rfl,rfl,p7.w,q52 (by rw[ZQ,ZQ];show _+1+1<=_;lia)
  have p8:=p7.app (opt_rmv p7.w ho7)
  generalize upd G7 W _=G8 at *
  refine⟨szb rfl,λl9 hl9=>?_⟩
  obtain⟨G9,e9,s9,f9⟩:=nwH hl9 (.lst [.non])
  rw[e9]
  have p9:=p8.same s9
  refine⟨D,rfl,⟨_,SqL.of p9.d⟩,λDa hDa=>?_⟩
  refine q166 (λp=>decide (p.1<n)) p9.d p9.c hDa (W69 hcl hzl) (λt p H' Q' _ _ ht q'=>⟨_,_,SqT.of ht,rfl,q'⟩) (λt H' Q' q'=>q') λya hya hyla=>?_
  obtain⟨Ga,ea,sa,fa⟩:=nwH hDa (.lst ya)
  rw[ea]
  refine⟨l9,Da,[V.non],ya,rfl,rfl,sa _ _ f9,fa,szB (by simp;lia),λlb hlb=>?_⟩
  obtain⟨Gb,eb,sb,fb⟩:=nwH hlb (.lst ([V.non]++ya))
  rw[eb]
  have s9b:=sa.trans sb
  obtain⟨vb,hvb,hob⟩:=last_opt (L2.Paired.mapP hya λ_ _ z=>z.tk (.same s9b))
  rw[q775]at hob
  have pb:=p9.same s9b
  refine⟨_,rfl,_,_,SqL.of fb,hvb,szb rfl,λlc hlc=>?_⟩
  obtain⟨Gc,ec,sc1,fc⟩:=nwH hlc (.lst [vb,.str "paper", .str "paper"])
  rw[ec]
  have pc:=pb.same sc1
  refine⟨W,lc,_,_,rfl,rfl,pc.w,fc,sz (by rw[ZQ,ZQ,ZQ];show _+1+1+1+3<=_;lia),λld hld=>?_⟩
  obtain⟨Gd,ed,sd,fd'⟩:=nwH hld (.lst ((((ys++[_])++[_])++[_])++[vb,.str "paper", .str "paper"]))
  rw[ed]
  have Ac:AnsL Gc [vb,.str "paper", .str "paper"] [.opt (ca.reverse.find? λp=>decide (p.1<n)),.wd,.wd]:=.cons (OptR.tk (.same sc1) hob) (.cons rfl (.cons rfl .nil))
  have pd:=pc.cat Ac hld sd fd'
  have e1:((offs low ws).countP λo=>decide (low+o<n))=(offs low ws).countP λx=>decide (x<n-low):=countP_congr λo _=>by
   rw[ZW,ZW]
   lia
  have e2:((offs low ws).countP λo=>decide (nums.headD 0<=low+o)&&decide (low+o<=n))=(offs low ws).countP (btw low (nums.headD 0) n):=countP_congr λo _=>by
   unfold btw
   rw[WO,ZW,ZW,ZW]
  rw[e1,e2]at pd
  refine⟨ld,_,_,rfl,Eq.mp (congrArg (Pl H Gd D ld zc _ _) ?_) pd⟩
  rw[YG,hn,flatMap_append,<- YF,WK (l₁:=ansH low L (offs low ws) k part++_) (l₂:=(some n).toList.flatMap _),YF,YF,YF,<- hca]
  show _=_++([n].flatMap _).map hideA
  rw[YV,flatMap_nil,YN]
  rfl
 ·rintro σ G ⟨W,ys,v8,rfl,p⟩
  rw[ZJ,YQ]at p
  exact q W ys G p.s p.w (p.a.same q610)
def cut_mid{xs:List V}{a b:Nat}(h:b<=xs.length)(hab:a<=b):cutV xs (some (a:Int)) (some (b:Int))=(xs.drop a).take (b-a):=by
 unfold cutV
 rw[HT.q789,HT.q789,WN h,WN (ZO hab h)]
theorem q512{α β:Type}{R:α->β->Prop}:∀{l:List α}{m:List β}(n:Nat),Paired R l m->Paired R (l.drop n) (m.drop n)
 | _,_,0,h=>h
 | _,_,_+1,.nil=>.nil
 | _,_,n+1,.cons _ t=>q512 n t
theorem q348{α β:Type}{R:α->β->Prop}:∀{l:List α}{m:List β}(n:Nat),Paired R l m->Paired R (l.take n) (m.take n)
 | _,_,0,_=>.nil
 | _,_,_+1,.nil=>.nil
 | _,_,n+1,.cons h t=>.cons h (q348 n t)
def q296{L:Nat}{low:Int}{ws:List Int}{q:Qs}(hw:Wths low L ws)(hL:L<=40)(h3:ws.length<=300)(hq:q.ok ws (msF L low (offs low ws))) :
  q67 L (offs low ws) (q.pap low L (offs low ws))/\(q.pap low L (offs low ws)).leaves<=90000/\q.sh ((offs low ws).length:Nat) (q25 L low (q.pap low L (offs low ws)))=true/\(∀ c∈q25 L low (q.pap low L (offs low ws)),0<=c.2.2/\c.2.2<=1000):=by
 have hin:=q280 hw
 have hl:(offs low ws).length=ws.length:=ZJ _
 have hd:=q295 (φ:=f3 (q.psi (offs low ws).length)) L low (offs low ws)
 refine⟨hd,told_lv hw (.refl _) hL {} (q608 hin) (q444 hin) hq,told_yes hw (.refl _) hL {} (q608 hin) (q444 hin) hq,λc hc=>?_⟩
 have h1:=(q132 hw hd c hc).1
 have h2:cntI ws c.1 c.2.1<=ws.length:=countP_le_length
 lia
def ok_kth{L:Nat}{low:Int}{ws:List Int}{k:Nat}(hin:InO L (offs low ws))(hk:k<ws.length):(Qs.least k (low+kth L (offs low ws) k)).ok ws ms:=by
 obtain⟨c1,c2⟩:=q151 L (offs low ws) k hin (by rw[ZJ];exact hk)
 rw[q130]at c2
 have e1:(ws.countP λx=>decide (x<low+kth L (offs low ws) k))=ltC (offs low ws) (kth L (offs low ws) k):=by
  rw[<- q98 low]
  refine countP_congr λx _=>?_
  rw[ZW,ZW]
  exact W10
 have e2:ws.count (low+kth L (offs low ws) k)=(offs low ws).count (kth L (offs low ws) k):=by
  rw[YE,YE,<- q98 low]
  refine countP_congr λx _=>?_
  rw[beq_iff_eq,beq_iff_eq]
  exact W16
 show _<=k/\k<_+_
 rw[q605,e1,e2]
 exact⟨c1,c2⟩
noncomputable def prI:Int->List Int->List TS.I2
 | _,[]=>[]
 | j,w::ws=>(w,j)::prI (j+1) ws
theorem q612:∀(j:Int)(ws:List Int)(x:Int),prI j (ws++[x])=prI j ws++[(x,j+(ws.length:Int))]
 | j,[],x=>by show[(x,j)]=[(x,j+0)];rw[Int.add_zero]
 | j,w::ws,x=>by
  show(w,j)::prI (j+1) (ws++[x])=(w,j)::(prI (j+1) ws++[(x,j+((ws.length+1:Nat):Int))])
  rw[q612 (j+1) ws x,show j+1+(ws.length:Int)=j+((ws.length+1:Nat):Int) by lia]
theorem prI_ge:∀(j:Int)(ws:List Int),∀ p∈prI j ws,j<=p.2
 | j,w::ws,p,hp=>by
  rcases eB hp with rfl | hp
  ·exact Int.le_refl _
  ·have:=prI_ge (j+1) ws p hp
   lia
theorem q513:∀(j:Int)(ws:List Int),(prI j ws).Nodup
 | j,[]=>nodup_nil
 | j,w::ws=>List.nodup_cons.mpr ⟨λh=>by have:=prI_ge (j+1) ws _ h;simp only at this;lia,q513 (j+1) ws⟩
theorem q777:∀{j:Int}{ws:List Int}{i:Nat}{w:Int},ws[i]? = some w->(w,j+(i:Int))∈prI j ws
 | j,x::ws,0,w,h=>by
  cases h
  show(x,j+0)∈_
  rw[Int.add_zero]
  exact WC
 | j,x::ws,i+1,w,h=>by
  have:=q777 (j:=j+1) (ws:=ws) (i:=i) h
  rw[show j+((i+1:Nat):Int)=j+1+(i:Int) by exact W122]
  exact ZX _ this
theorem q778(W I:Int):∀(j:Int)(ws:List Int),(prI j ws).countP (λy=>TS.lex2 y (W,I))=ws.countP (λx=>decide (x<W))+(ws.take (I-j).toNat).count W
 | j,[]=>by rw[take_nil];rfl
 | j,w::ws=>by
  show((w,j)::prI (j+1) ws).countP _=_
  rw[YI,q778 W I (j+1) ws,YI]
  by_cases c:j<I
  ·rw[show(I-j).toNat=(I-(j+1)).toNat+1 by lia,take_succ_cons,count_cons]
   by_cases c1:w<W
   ·rw[ZL (TS.q709.mpr (by simp only;lia)),ZL (ZA c1),ZI (by rw[beq_iff_eq];lia)]
    lia
   ·by_cases c2:w=W
    ·rw[ZL (TS.q709.mpr (by simp only;lia)),ZI (by rw[ZW];exact c1),ZL (beq_iff_eq.mpr c2)]
     lia
    ·rw[ZI (by rw[TS.q709];simp only;lia),ZI (by rw[ZW];exact c1),ZI (by rw[beq_iff_eq];exact c2)]
     lia
  ·rw[show(I-j).toNat=0 by lia,show(I-(j+1)).toNat=0 by lia,take_zero,take_zero]
   by_cases c1:w<W
   ·rw[ZL (TS.q709.mpr (by simp only;lia)),ZL (ZA c1)]
    show _+0+1=_+1+0
    lia
   ·rw[ZI (by rw[TS.q709];simp only;lia),ZI (by rw[ZW];exact c1)]
    rfl
def lex2_idx{vs:List TS.I2}(hs:vs.Pairwise λx y=>TS.lex2 y x=false)(hn:vs.Nodup){k:Nat}(h:vs[k]? = some v):vs.countP (λx=>TS.lex2 x v)=k:=by
 obtain⟨hk,hx⟩:=eA h
 have e:vs=vs.take k++v::vs.drop (k+1):=by rw[<- hx,<- drop_eq_getElem_cons hk,YR]
 have hlk:(vs.take k).length=k:=by rw[WZ];exact W49 hk
 rw[e]at hs hn
 obtain⟨_,h2,h3⟩:=List.pairwise_append.mp hs
 have h4:=(List.pairwise_cons.mp h2).1
 obtain⟨_,_,n3⟩:=List.pairwise_append.mp hn
 rw[e,countP_append]
 have z:(v::vs.drop (k+1)).countP (λx=>TS.lex2 x v)=0:=List.countP_eq_zero.mpr λb hb=>by
  rw[Bool.not_eq_true]
  rcases eB hb with rfl | hb
  ·rw[TS.q244];lia
  ·exact h4 b hb
 have y:(vs.take k).countP (λx=>TS.lex2 x v)=(vs.take k).length:=List.countP_eq_length.mpr λb hb=>by
  have u1:=h3 b hb v WC
  have u2:b≠v:=n3 b hb v WC
  cases c:TS.lex2 b v with
  | true=>rfl
  | false=>
   exfalso
   rw[TS.q244]at u1 c
   apply u2
   obtain⟨b1,b2⟩:=b
   obtain⟨v1,v2⟩:=v
   simp only[Prod.mk.injEq]at u1 c ⊢
   lia
 rw[z,y]
 lia
def q779{L:Nat}{low:Int}{ws:List Int}{vs:List TS.I2}{k i:Nat}(hin:InO L (offs low ws))(hk:k<ws.length)(hp:vs.Perm (prI 0 ws))(ho:vs.Pairwise λx y=>TS.lex2 y x=false)
  (h1:(offs low ws)[i]? = some (kth L (offs low ws) k)) (h2:k-ltC (offs low ws) (kth L (offs low ws) k)=((offs low ws).take i).count (kth L (offs low ws) k)):vs[k]? = some (low+kth L (offs low ws) k,(i:Int)):=by
 have hlt:=(q151 L (offs low ws) k hin (by rw[ZJ];exact hk)).1
 generalize ho':kth L (offs low ws) k=o at *
 have hw:ws[i]? = some (low+o):=by
  rw[WH]at h1
  cases e:ws[i]? with
  | none=>rw[e]at h1;cases h1
  | some x=>rw[e]at h1;have z:x-low=o:=Option.some.inj h1;congr 1;exact W60 z
 have hm:(low+o,(i:Int))∈vs:=hp.mem_iff.mpr (by have:=q777 (j:=0) hw;rw[Int.zero_add]at this;exact this)
 obtain⟨m,hm⟩:=getElem?_of_mem hm
 have e:=lex2_idx ho (hp.nodup_iff.mpr (q513 0 ws)) hm
 rw[hp.countP_eq,q778,show((i:Int)-0).toNat=i by lia]at e
 have e1:(ws.countP λx=>decide (x<low+o))=ltC (offs low ws) o:=by
  rw[<- q98 low]
  refine countP_congr λx _=>?_
  rw[ZW,ZW]
  exact W10
 have e2:(ws.take i).count (low+o)=((offs low ws).take i).count o:=by
  rw[<- map_take,YE,YE,<- q98 low]
  refine countP_congr λx _=>?_
  rw[beq_iff_eq,beq_iff_eq]
  exact W16
 rw[e1,e2,<- h2]at e
 rw[show k=m by lia]
 exact hm
noncomputable def PlsOk(gs:List G3)(pls:List Int):Prop:=∀(j:Nat)(g:G3),gs[j]? = some g -> ∃ p,pls[j]? = some p/\p+(g.2.1:Int)=((Wh (gs.take j)).length:Int)
def thing_at{L:Nat}{o:Int}{num j pl:Nat}(hg:∀ g∈gs,GoodS L g)(hp:PlsOk gs pls)(h:Thing gs o num j pl):∃(p:Int)(i:Nat),pls[j]? = some p/\p+(pl:Int)=(i:Int)/\(Wh gs)[i]? = some o/\num=((Wh gs).take i).count o:=by
 obtain⟨g,gj,h1,h2,h3,h4⟩:=h
 obtain⟨p,e1,e2⟩:=hp j g gj
 have hlt:=(eA gj).1
 have good:=hg g (WY gj)
 have esp:gs=gs.take j++g::gs.drop (j+1):=by
  have:=(eA gj).2
  rw[<- this,<- drop_eq_getElem_cons hlt,YR]
 have eW:Wh gs=Wh (gs.take j)++(sel g++Wh (gs.drop (j+1))):=by
  conv=>lhs;rw[esp]
  rw[W_app]
  rfl
 have ls:(sel g).length=g.2.2-g.2.1:=by
  have:=q745 good
  lia
 have eS:(sel g).take (pl-g.2.1)=sel (g.1,g.2.1,pl):=by
  show((g.1.take g.2.2).drop g.2.1).take (pl-g.2.1)=(g.1.take pl).drop g.2.1
  rw[take_drop,Nat.add_sub_cancel' h1,take_take,WN (Nat.le_of_lt h2)]
 exists p,(Wh (gs.take j)).length+(pl-g.2.1),e1,{},?_
 ·rw[eW,YL {},Nat.add_sub_cancel_left,YX {}]
  show((g.1.take g.2.2).drop g.2.1)[pl-g.2.1]? = _
  rw[getElem?_drop,Nat.add_sub_cancel' h1,getElem?_take_of_lt h2]
  exact h3
 ·rw[h4,W_app,eW,take_append,WU (l:=Wh (gs.take j)) {},Nat.add_sub_cancel_left,take_append_of_le_length {},eS]
  rw[show Wh [(g.1,g.2.1,pl)]=sel (g.1,g.2.1,pl) by unfold Wh;rw[YV,flatMap_nil,YN]]
def pair6(h:Paired R zs [a0,a1,a2,a3,a4,a5]):∃ z0 z1 z2 z3 z4 z5,zs=[z0,z1,z2,z3,z4,z5]/\R z0 a0/\R z2 a2/\R z4 a4/\R z5 a5:=by
 cases h with | cons h0 t=>
 cases t with | cons h1 t=>
 cases t with | cons h2 t=>
 cases t with | cons h3 t=>
 cases t with | cons h4 t=>
 cases t with | cons h5 t=>
 cases t
 exact⟨_,_,_,_,_,_,rfl,h0,h2,h4,h5⟩
def sqT_tk(k:TKeep H H')(h:SqT K H a xs):SqT K H' a xs:=by
 rcases h with (h | ⟨o,h⟩) | h
 ·exact .inl (.inl ((k _ _).1 h))
 ·exact .inl (.inr ⟨o,(k _ _).2 o h⟩)
 ·exact .inr h
theorem q514{K:Fg}{H:Hp}:∀{ys:List V}{us:List TS.I2},Paired (q171 K H) ys us->ys.length=us.length
 | _,_,.nil=>rfl
 | _,_,.cons h t=>by rw[WX,WX,q514 t]
theorem pr_get:∀{ys:List V}{us:List TS.I2},Paired (q171 K H) ys us -> ∀{i:Nat}{y:V},ys[i]? = some y -> ∃ u,us[i]? = some u/\q171 K H y u
 | _,_,.nil,i,y,h=>by simp at h
 | _,_,.cons a t,0,y,h=>by cases h;exact⟨_,rfl,a⟩
 | _,_,.cons a t,i+1,y,h=>by
  obtain⟨v,h1,h2⟩:=pr_get t (i:=i) (y:=y) (by simpa using h)
  exact⟨v,by simpa using h1,h2⟩
def pr_perm{ys zs:List V}{vs:List TS.I2}(a:Paired (q171 K H) ys us)(b:Paired (q171 K H) zs vs)(h:(zs.zip vs).Perm (ys.zip us)):vs.Perm us:=by
 have z:=h.map Prod.snd
 rw[map_snd_zip (by rw[q514 b];exact ZG _),map_snd_zip (by rw[q514 a];exact ZG _)]at z
 exact z
def ifB{b:Bool}{A C:Prop}(hb:b=false)(h:C):if b=true then A else C:=by
 rw[hb]
 exact h
def nde{α:Type}[DecidableEq α]{x y:α}(h:x=y):(!decide (x=y))=false:=by
 rw[ZA h]
 rfl
inductive q234(K:Fg)(vs:List V)(H:Hp)(Q:VK)(E:XK):Prop
 |mk(b ga aa an:Addr)(xs ys:List V)(low:Int)(L:Nat)(gs:List G3)(ws nums:List Int)(k:Nat)(part:Int)(_:vs=[.ref b,.ref ga,.ref aa,.ref an])(_:Gth K H b ga xs low L gs)(_:Wths low L ws)(_:ws.length<=300)(_:Wh gs=offs low ws)(_:AqAt H aa nums k part)(_:nums.length<=3)(_:1<=part)(_:H an=some (.lst ys))(_:AnsL H ys (ansA low L (offs low ws) nums k part))(_:∀ H',Same H H'->Q (.bl true) H')
inductive q94(K:Fg)(vs:List V)(H:Hp)(Q:VK)(E:XK):Prop
 |mk(b ga pa ra:Addr)(xs:List V)(low:Int)(L:Nat)(gs:List G3)(ws pls:List Int)(k:Nat)(_:vs=[.ref b,.ref ga,.ref pa,.ref ra,.int (k:Int)])(_:Gth K H b ga xs low L gs)(_:Wths low L ws)(_:ws.length<=300)(_:Wh gs=offs low ws)(_:H pa=some (.lst (pls.map V.int)))(_:PlsOk gs pls)(_:H ra=some (.lst (ws.map V.int)))(_:∀ H',KpT H H'->Tbs H'->Q (.bl true) H')
def q446:z.C P w 47 "_law_shows" pn3 (q234 K):=by
 have sc:=q431
 specialize z.d__law_shows
 obtain⟨b,ga,aa,an,xs,ys,low,L,gs,ws,nums,k,part,rfl,g,hw,h300,eW,⟨na,haa,hna⟩,l3,p1,han,hA,q⟩:=h
 refine⟨_,(q12 (q260 (pr 2) (q170 rfl (q28 (pgn 4 sc.nd) (q28 (pgn 5 sc.nd) (q28 (pgn 6 sc.nd) q90)))))
 (q12 (ps_if (q118 (q104 (pfn (q368 z) hr (q10 (pr 0) (pa4 (pr 1) (pix q39 (pr 3) q13) (pr 6) (pix q39 (pr 3) q13))))))
 (q15 (q18 pe_bl))
 q21)
 (q12 (q61 PassesOwn.never rfl (q41 rfl z.range_ (pa1 (pln z.len_ (pa1 (pr 4))))) (pgn 7 sc.nd)
 (q12 (pst 8 sc.nd (q108 q302 (pr 3) (q77 (pe_op q86 q13 (pe_op q84 q13 (pr 7)))) (q77 (pe_op q86 q13 (pe_op q84 q13 (pr 7))))))
 (q12 (ps_if (q118 (q104 (pfn (q366 z) hr (q10 (pr 0) (pa4 (pr 1) (pix q39 (pr 8) q13) (pix q39 (pr 4) (pr 7)) (pix q39 (pr 8) q13))))))
 (q15 (q18 pe_bl))
 q21)
 (q15 (ps_if (q118 (q104 (pfn (q546 z) hr (q10 (pr 0) (pa4 (pr 1) (pix q39 (pr 8) q13) (pix q39 (pr 4) (pr 7)) (pix q39 (pr 8) q13))))))
 (q15 (q18 pe_bl))
 q21)))))
 (q15 (q18 pe_bl))))),?_⟩
 have hin:=q280 hw
 have hlen:((offs low ws).length:Int)=(ws.length:Int):=by rw[ZJ]
 have hwm:=q609 hin (q608 hin) (q444 hin)
 exists aa,_,rfl,SqT.of haa,rfl,_,_,rfl,_,_,rfl,_,_,rfl,rfl
 have hH:AnsL H (ys.take 5) (ansH low L (offs low ws) k part):=by
  have:=q348 5 hA
  rw[show(ansA low L (offs low ws) nums k part).take 5=ansH low L (offs low ws) k part from take_left' rfl]at this
  exact this
 have hat:∀{i:Nat}{a:Ans},(ansA low L (offs low ws) nums k part)[i]? = some a -> ∃ v,ys[i]? = some v/\AnsAt H v a:=fun {i a} hi=>by
  have hl:=Paired.length hA
  have hi':=(eA hi).1
  obtain⟨a',e,r⟩:=q68 hA (i:=i) (x:=ys[i]) (ZM {})
  rw[hi]at e
  cases e
  exact⟨_,ZM {},r⟩
 obtain⟨v4,g4,r4⟩:=hat (i:=4) (a:=.pap (papF (f3 (psO part ((offs low ws).length:Nat))) L low (offs low ws))) rfl
 obtain⟨v1,g1,r1⟩:=hat (i:=1) (a:=.prs (caF part ((offs low ws).length:Nat) L low (offs low ws))) rfl
 obtain⟨tl,ts,rfl,htl,hts⟩:=r1
 obtain⟨d1,d2,d3,d4⟩:=q296 (q:=.often part (caF part ((offs low ws).length:Nat) L low (offs low ws))) hw g.le h300 ⟨p1,by rw[q333 p1 {},hlen,hwm]⟩
 refine⟨_,_,SqL.of han,q44 (j:=4) g4,_,_,SqL.of han,q44 (j:=1) g1,b,ga,tl,v4,_,low,part,ts,_,L,xs,gs,rfl,htl,hts,SqT.of g.b,g.le,g.g,g.at_,g.gd,g.ln,r4,by rw[eW];exact d1,d2,d4,λH1 s1=>?_⟩
 have d3':ansF (oftF part ((offs low ws).length:Int) (q25 L low (papF (f3 (psO part ((offs low ws).length:Nat))) L low (offs low ws)))) (caF part ((offs low ws).length:Nat) L low (offs low ws))=true:=d3
 have hm:=q545 d1
 rw[show(papF (f3 (psO part ((offs low ws).length:Nat))) L low (offs low ws)).m=((offs low ws).length:Int)from hm,d3']
 refine⟨_,rfl,iteF ?_⟩
 clear d1 d2 d3 d4 d3' hm htl hts g4 g1 r4 hH
 have hfl:∀ n,(ansN low L (offs low ws) (nums.headD 0) n).length=6:=λ_=>rfl
 have hfl2:(nums.flatMap (ansN low L (offs low ws) (nums.headD 0))).length=6*nums.length:=by
  generalize nums.headD 0=n0 at *
  clear hA hna l3 hat hfl
  induction nums with
  | nil=>rfl
  | cons x l ih=>rw[YV,ZQ,ih,WX];show 6+_=_;exact W8
 have hyl:ys.length=5+6*nums.length:=by
  rw[Paired.length hA]
  show(ansH low L (offs low ws) k part++_).length=_
  rw[ZQ,hfl2]
  rfl
 refine⟨na,_,rfl,.inl (SqL.of (s1 _ _ hna)),nums.length,by rw[ZJ],{},{},q106 (n:=nums.length) (λi σ G=>∃ v7 v8:Option V,σ=[some (.ref b),some (.ref ga),some (.ref aa),some (.ref an),some (.ref na),some (.int (k:Int)),some (.int part),v7,v8]/\Same H G) ⟨_,_,rfl,s1⟩ ?_ ?_⟩
 ·rintro i σ G hi ⟨v7,v8,rfl,sG⟩
  refine⟨_,_,rfl,rfl,.inl ⟨{},{}⟩,_,rfl,_,_,rfl,rfl,.inl ⟨{},{}⟩,_,rfl,an,_,rfl,SqL.of (sG _ _ han),λhe hhe=>?_⟩
  have hnl:nums[i]? = some nums[i]:=ZM hi
  generalize nums[i]=n at hnl
  have hz:=q348 6 (q512 (5+6*i) hA)
  have ea:((ansA low L (offs low ws) nums k part).drop (5+6*i)).take 6=ansN low L (offs low ws) (nums.headD 0) n:=by
   unfold ansA
   rw[<- drop_drop,drop_left' (show(ansH low L (offs low ws) k part).length=5 from rfl),flat6 hfl hnl]
  rw[ea]at hz
  obtain⟨z0,z1,z2,z3,z4,z5,ez,r0,r2,r4,r5⟩:=pair6 hz
  have ec:cutV ys (some (5+6*(0+(i:Int)))) (some (11+6*(0+(i:Int))))=[z0,z1,z2,z3,z4,z5]:=by
   rw[show 5+6*(0+(i:Int))=((5+6*i:Nat):Int) by lia,show 11+6*(0+(i:Int))=((11+6*i:Nat):Int) by lia,cut_mid {} {},show 11+6*i-(5+6*i)=6 by lia]
   exact ez
  rw[ec]
  obtain⟨G1,e1,s1',f1⟩:=nwH hhe (.lst [z0,z1,z2,z3,z4,z5])
  rw[e1]
  have S1:=sG.trans s1'
  have gg1:=g.s S1
  cases(show z0 = .int _ from r0)
  have hnat:atI (nums.map V.int) (0+(i:Int))=some (.int n):=by rw[Int.zero_add];exact q44 (by rw[WH,hnl];rfl)
  obtain⟨d1,d2,d3,_⟩:=q296 (q:=.below n ((ws.filter λx=>decide (x<n)).length:Int)) hw g.le h300 rfl
  have em:((offs low ws).countP λx=>decide (x<n-low))=(ws.filter λx=>decide (x<n)).length:=by
   rw[q605,<- q98 low (λx=>decide (x<n)) ws]
   refine countP_congr λx _=>?_
   rw[ZW,ZW]
   lia
  refine⟨_,_,SqL.of f1,rfl,_,_,SqL.of (S1 _ _ hna),hnat,_,_,SqL.of f1,rfl,b,ga,z4,_,low,n,_,L,xs,gs,rfl,SqT.of gg1.b,g.le,gg1.g,gg1.at_,g.gd,g.ln,PpAt.tk (.same S1) r4,by rw[eW];exact d1,ZO d2 ∅,λG2 s2=>?_⟩
  rw[em]
  have d3':dueF (q25 L low (papF (f3 (psB n)) L low (offs low ws))) n ((ws.filter λx=>decide (x<n)).length:Int)=true:=d3
  rw[d3']
  refine⟨_,rfl,iteF ?_⟩
  have S2:=S1.trans s2
  have gg2:=g.s S2
  obtain⟨u1,u2,u3,_⟩:=q296 (q:=.up n ((stp L low (offs low ws)).find? λq=>decide (n<q.1))) hw g.le h300 (ok_up (q444 hin) (q608 hin) (by rw[hwm];rfl))
  refine⟨_,_,SqL.of (s2 _ _ f1),rfl,_,_,SqL.of (S2 _ _ hna),hnat,_,_,SqL.of (s2 _ _ f1),rfl,b,ga,z5,z2,_,low,n,_,L,xs,gs,rfl,OptR.tk (.same S2) r2,SqT.of gg2.b,g.le,gg2.g,gg2.at_,g.gd,g.ln,PpAt.tk (.same S2) r5,by rw[eW];exact u1,ZO u2 ∅,λG3 s3=>?_⟩
  have u3':upF n (q25 L low (papF (f3 (psU n ((stp L low (offs low ws)).find? λq=>decide (n<q.1)))) L low (offs low ws))) ((stp L low (offs low ws)).find? λq=>decide (n<q.1))=true:=u3
  rw[u3']
  exact⟨_,rfl,iteF ⟨_,_,rfl,S2.trans s3⟩⟩
 ·rintro σ G ⟨v7,v8,rfl,sG⟩
  exact q G sG
def q168:z.C P w 48 "_law_things_right" pn2 (q94 K):=by
 have sc:=q167
 specialize z.d__law_things_right
 obtain⟨b,ga,pa,ra,xs,low,L,gs,ws,pls,k,rfl,g,hw,h300,eW,hpa,hpl,hra,q⟩:=h
 refine⟨_,(q12 (ps_if (q59 op_ge (pr 4) (pln z.len_ (pa1 (pr 3))) (q19 _))
 (q15 (q18 pe_bl))
 q21)
 (q12 (pst 5 sc.nd (pix q379 (pix q39 (q36 (q471 (K:=K) rfl) () z.sorted_ q139 (pa1 (q192 (cl:=[("_law_row_here", s.heap.objs.size+1+0)]) (cn:=["_law_row_here"]) (N:=["_law_row_here"]) (fr:=[3]) (sc0:=q16 q65) rfl (q41 rfl z.range_ (pa1 (pln z.len_ (pa1 (pr 3))))) (λC s₂ H₂ fp=>(q29 (pa2 (pix (q209 (K:=K) rfl) (pr 1) (pr 0)) (pr 0)))) (by ac_rfl) ⟨by ac_rfl,trivial⟩ rfl rfl rfl cok rfl))) (pr 4)) q13))
 (q12 (q260 (pfn (q277 z) hr (pa3 (pr 0) (pr 1) (pr 4))) (q170 rfl (q28 (pgn 6 sc.nd) (q28 (pgn 7 sc.nd) (q28 (pgn 8 sc.nd) q90)))))
 (q12 (ps_if (PW.pt (pw_or (q59 op_ne (pr 6) (pix q39 (pr 3) (pr 5)) (q19 _)) (q138 (q59 op_ne (pe_op q86 (pix q39 (pr 2) (pr 7)) (pr 8)) (pr 5) (q19 _)))))
 (q15 (q18 pe_bl))
 q21)
 (q15 (q18 (pfn (q367 z) hr (q10 (pr 0) (pa4 (pr 1) (pfn (q371 z) hr (pa3 (pr 0) (pr 1) (pr 4))) (pr 4) (pr 6)))))))))),?_⟩
 have hin:=q280 hw
 have hml:(ws.map V.int).length=ws.length:=ZJ _
 have hwl:(Wh gs).length=ws.length:=by rw[eW,ZJ]
 refine⟨ra,_,rfl,.inl (SqL.of hra),_,_,rfl,rfl,ite2 (λ_=>q H (.of (Same.refl _)) g.tb) (λc=>?_)⟩
 have hk:k<ws.length:=by
  rw[hml]at c
  have c':¬(ws.length:Int)<=(k:Int):=λz=>c (ZA z)
  lia
 refine⟨ra,_,rfl,.inl (SqL.of hra),ws.length,by rw[hml],{},{},λD hD=>?_⟩
 refine q78 (n:=ws.length) (sz {}) (λj ys G=>ys.length=j/\G D=some (.lst ys)/\Same H G/\Paired (q171 K G) ys (prI 0 (ws.take j))) ⟨rfl,q14,q17 hD _,.nil⟩ (λj ys G ⟨e1,e2,_⟩=>⟨e2,e1⟩) ?_ ?_
 ·rintro j ys G hj ⟨e1,e2,sG,e4⟩
  have hat:atI (ws.map V.int) (0+(j:Int))=some (.int ws[j]):=by rw[Int.zero_add];exact q44 (by rw[WH,ZM hj];rfl)
  refine⟨_,_,SqL.of (sG _ _ hra),hat,szb rfl,λp hp=>?_⟩
  obtain⟨G1,e5,s5,f5⟩:=nwH hp (.tup [.int ws[j],.int (0+(j:Int))])
  rw[e5]
  have a1:=s5 _ _ e2
  exists a1,by rw[ZQ,e1];rfl,q14,Same.own (sG.trans s5) hD
  rw[YG,ZM hj]
  show Paired _ _ (prI 0 (ws.take j++[ws[j]]))
  have k5:=Keep.set D G1 (.lst (ys++[.ref p]))
  rw[q612,WZ,WN (Nat.le_of_lt hj)]
  refine q50 (L2.Paired.mapP e4 λv u ⟨a,ea,ha⟩=>⟨a,ea,sqT_tk (TKeep.set a1) (s5.seqT ha)⟩) (.cons ⟨p,rfl,SqT.of ((TKeep.set a1 _ _).1 f5)⟩ .nil)
 rintro ys G ⟨e1,e2,sG,e4⟩
 rw[YQ]at e4
 refine⟨D,ys,_,rfl,SqL.of e2,e4,λl zs vs hl hpz hvs hord=>?_⟩
 obtain⟨G1,e5,s5,f5⟩:=nwH hl (.lst zs)
 rw[e5]
 have hpm:=pr_perm e4 hvs hpz
 have S1:=sG.trans s5
 have g1:=g.s S1
 have hzk:k<zs.length:=by
  have h1:=q514 hvs
  have h2:=hpm.length_eq
  have h3:=q514 e4
  lia
 obtain⟨u,hu,a,ea,ha⟩:=pr_get hvs (i:=k) (y:=zs[k]) (ZM hzk)
 exists _,_,SqL.of f5,q44 (j:=k) (ZM hzk)
 rw[ea]
 exists _,_,s5.seqT ha,rfl
 refine⟨b,ga,xs,low,L,k,gs,rfl,SqT.of g1.b,g.le,g1.g,g1.at_,g.gd,g.ln,g.few,(W136 e1 hk hml hwl),λp j pl G2 s2 hp hth=>?_⟩
 have S2:=S1.trans s2
 obtain⟨pp,i,hpj,hpi,hWi,hnum⟩:=thing_at g.gd hpl hth
 rw[eW]at hWi hnum hp
 have hnth:=q779 hin hk hpm hord hWi hnum
 rw[hu]at hnth
 cases hnth
 exists p,_,rfl,hp,rfl,_,_,rfl,_,_,rfl,_,_,rfl,rfl
 have hwi:ws[i]? = some (low+kth L (offs low ws) k):=by
  rw[WH]at hWi
  cases e:ws[i]? with
  | none=>rw[e]at hWi;cases hWi
  | some x=>rw[e]at hWi;have z:x-low=_:=Option.some.inj hWi;congr 1;exact W60 z
 refine⟨_,_,SqL.of (S2 _ _ hra),q44 (j:=i) (by rw[WH,hwi];rfl),rfl,ifB (nde rfl) ?_⟩
 have hpat:atI (pls.map V.int) (j:Int)=some (.int pp):=q44 (by rw[WH,hpj];rfl)
 refine⟨_,_,SqL.of (S2 _ _ hpa),hpat,rfl,ifB (nde (congrArg V.int hpi)) ?_⟩
 have g2:=g.s S2
 obtain⟨d1,d2,d3,_⟩:=q296 (q:=.least k (low+kth L (offs low ws) k)) hw g.le h300 (ok_kth hin hk)
 refine⟨b,ga,xs,low,k,L,gs,rfl,g2,(W136 e1 hk hml hwl),λG3 v k3 t3 hp3=>?_⟩
 rw[eW]at hp3
 have g3:=g2.kp k3 t3
 refine⟨b,ga,v,_,low,_,_,L,xs,gs,rfl,SqT.of g3.b,g.le,g3.g,g3.at_,g.gd,g.ln,hp3,by rw[eW];exact d1,ZO d2 ∅,λG4 s4=>?_⟩
 have d3':q404 k (low+kth L (offs low ws) k) (q25 L low (papF (f3 (psL (low+kth L (offs low ws) k))) L low (offs low ws)))=true:=d3
 rw[d3']
 exact q G4 ((KpT.of S2).trans (k3.trans (.of s4))) (t3.same s4)
noncomputable def GgAt(K:Fg)(H:Hp)(b:Addr)(low:Int)(L:Nat)(ws:List Int)(v:V):Prop:=∃(t ga pa:Addr)(xs:List V)(gs:List G3)(pls:List Int),v = .ref t/\H t=some (.tup [.ref ga,.ref pa])/\Gth K H b ga xs low L gs/\Wh gs=offs low ws/\H pa=some (.lst (pls.map V.int))/\PlsOk gs pls
def GgAt.kp{low:Int}{L:Nat}(h:GgAt K H b low L ws v)(k:KpT H H')(t:Tbs H'):GgAt K H' b low L ws v:=by
 obtain⟨a,ga,pa,xs,gs,pls,e,h1,h2,h3,h4,h5⟩:=h
 exact⟨a,ga,pa,xs,gs,pls,e,k.t h1,h2.kp k t,h3,k.l h4,h5⟩
theorem hide_wd{H:Hp}{v:V}{K:Fg}{Q:VK}:∀{a:Ans},AnsAt H v a->a ≠ .wd->(∀ p,a ≠ .pap p)->Q (.bl true) H->q726 K v (.str "paper") H Q
 | .opt none,h,_,_,q=>by cases(show v = .non from h);exact .flat rfl q
 | .opt (some p),⟨a,e,h⟩,_,_,q=>.seq a _ _ e rfl (.inl (SqT.of h)) q
 | .prs ps,⟨D,ys,e,h,_⟩,_,_,q=>.seq D _ _ e rfl (.inr (SqL.of h)) q
 | .num n,h,_,_,q=>by cases(show v = .int n from h);exact .flat rfl q
 | .pap p,_,_,n,_=>absurd rfl (n p)
 | .wd,_,n,_,_=>absurd rfl n
theorem hide_ok:∀{a:Ans},(∀ p,a ≠ .pap p)->a.ok
 | .opt _,_=>trivial
 | .prs _,_=>trivial
 | .num _,_=>trivial
 | .pap p,h=>absurd rfl (h p)
 | .wd,_=>trivial
inductive q235(K:Fg)(vs:List V)(H:Hp)(Q:VK)(E:XK):Prop
 |mk(b gg ra aa:Addr)(zs:List V)(low:Int)(L:Nat)(ws nums:List Int)(k:Nat)(part:Int)(_:vs=[.ref b,.ref gg,.ref ra,.ref aa])(_:H gg=some (.lst zs))(_:0<zs.length)(_:(∀ z∈zs,GgAt K H b low L ws z))(_:H ra=some (.lst (ws.map V.int)))(_:ws.length<=300)(_:Wths low L ws)(_:AqAt H aa nums k part)(_:1<=nums.length)(_:nums.length<=3)(_:k<=ws.length)(_:1<=part)(_:part<=6)(_:∀ H',KpT H H'->Tbs H'->Q (.bl true) H')
def q236:z.C P w 49 "_law_alike" pn4 (q235 K):=by
 have sc:=q432
 specialize z.d__law_alike
 obtain⟨b,gg,ra,aa,zs,low,L,ws,nums,k,part,rfl,hgg,hz0,hzs,hra,h300,hw,haq,l1,l3,hk,p1,p6,q⟩:=h
 refine⟨_,(q12 (pst 4 sc.nd (pfn (q445 z) hr (pa2 (pr 2) (pr 3))))
 (q12 (pst 5 sc.nd (pfn (q156 z) hr (pa3 (pr 0) (pix q379 (pix q39 (pr 1) q13) q13) (pr 3))))
 (q12 (q61 PassesOwn.never rfl (q41 rfl z.range_ (pa1 (pln z.len_ (pa1 (pr 4))))) (pgn 6 sc.nd)
 (q15 (ps_if (PW.pt (q450 (q59 (op_neW hr.units) (pix q39 (pr 4) (pr 6)) q51 (q19 _)) (q299 (q59 (op_neA hr.units) (pix q39 (pr 5) (pr 6)) (pix q39 (pr 4) (pr 6)) (q19 _)))))
 (q15 (q18 pe_bl))
 q21)))
 (q12 (q61 PassesOwn.never rfl (q34 (pr 1)) (q170 rfl (q28 (pgn 7 sc.nd) (q28 (pgn 8 sc.nd) q90)))
 (q12 (ps_if (PW.pt (pw_or (q59 (q414 hr.units) (pfn (q156 z) hr (pa3 (pr 0) (pr 7) (pr 3))) (pr 5) (q19 _)) (q138 (q118 (q104 (pfn (q446 z) hr (pa4 (pr 0) (pr 7) (pr 3) (pr 5))))))))
 (q15 (q18 pe_bl))
 q21)
 (q15 (ps_if (q118 (q104 (pfn (q168 z) hr (q10 (pr 0) (pa4 (pr 7) (pr 8) (pr 2) (pix q379 (pr 3) q13))))))
 (q15 (q18 pe_bl))
 q21))))
 (q15 (q18 pe_bl)))))),?_⟩
 have hin:=q280 hw
 have hol:(offs low ws).length=ws.length:=ZJ _
 refine⟨ra,aa,low,L,ws,nums,k,part,rfl,hra,h300,hin,haq,l1,l3,hk,p1,p6,λDp yp H1 s1 fp hp=>?_⟩
 obtain⟨t0,ga,pa,xs,gs,pls,ez,ht0,g,eW,hpa,hpl⟩:=hzs zs[0] (getElem_mem hz0)
 have hz:atI zs 0=some (.ref t0):=q44 (j:=0) (by rw[ZM hz0,ez])
 refine⟨_,_,SqL.of (s1 _ _ hgg),hz,_,_,SqT.of (s1 _ _ ht0),rfl,b,ga,aa,xs,low,L,gs,nums,k,part,rfl,g.s s1,haq.kp (.of s1),l1,l3,by rw[eW];exact W181 hol hk,p1,p6,λDf yf H2 k2 t2 ff hf=>?_⟩
 rw[eW]at hf
 have K2:KpT H H2:=(KpT.of s1).trans k2
 have hL:=g.le
 clear g eW hpa hpl ht0 ez hz xs gs pls
 have fp2:=k2.l fp
 have hp2:=hp.kp k2
 have hll:yp.length=yf.length:=by rw[Paired.length hp,Paired.length hf,ZJ]
 have hfew:yp.length<=40:=by
  rw[hll,Paired.length hf]
  show(ansH low L (offs low ws) k part++_).length<=_
  have:(nums.flatMap (ansN low L (offs low ws) (nums.headD 0))).length=6*nums.length:=by
   generalize nums.headD 0=n0
   clear hp hp2 hf haq l1 l3
   induction nums with
   | nil=>rfl
   | cons x l ih=>rw[YV,ZQ,ih,WX];show 6+_=_;exact W8
  rw[ZQ,this]
  show 5+_<=_
  lia
 refine⟨Dp,_,rfl,.inl (SqL.of fp2),yp.length,rfl,{},{},q106 (n:=yp.length) (λi σ G=>∃ v6:Option V,σ=[some (.ref b),some (.ref gg),some (.ref ra),some (.ref aa),some (.ref Dp),some (.ref Df),v6,none,none]/\G=H2) ⟨_,rfl,rfl⟩ ?_ ?_⟩
 ·rintro i σ G hi ⟨v6,rfl,rfl⟩
  obtain⟨a,ha,ra'⟩:=q68 hf (i:=i) (x:=yf[i]'(W164 hi hll)) (ZM {})
  obtain⟨a',ha',rp'⟩:=q68 hp2 (i:=i) (x:=yp[i]) (ZM hi)
  rw[WH,ha]at ha'
  cases ha'
  have hap:atI yp (0+(i:Int))=some yp[i]:=by rw[Int.zero_add];exact q44 (ZM hi)
  have haf:atI yf (0+(i:Int))=some (yf[i]'{}):=by rw[Int.zero_add];exact q44 (ZM {})
  exists _,_,SqL.of fp2,hap
  cases a with
  | pap _ | wd=>
   rw[show yp[i]=V.str "paper" from rp']
   exact .flat rfl (ifB (nde rfl) (iteF ⟨_,rfl,rfl⟩))
  | opt o | prs o | num o=>
   exact hide_wd rp' (by intro z;cases z) (by intro p z;cases z) (iteT ⟨_,_,SqL.of ff,haf,_,_,SqL.of fp2,hap,41,AnsAt.alk (hide_ok (by intro p z;cases z)) ra' rp',∅,iteF ⟨_,rfl,rfl⟩⟩)
 rintro σ G ⟨v6,rfl,rfl⟩
 refine⟨gg,rfl,⟨_,SqL.of (K2.l hgg)⟩,q95 (K:=K) (a:=gg) (xs:=zs) (λi σ G'=>∃ v7 v8:Option V,σ=[some (.ref b),some (.ref gg),some (.ref ra),some (.ref aa),some (.ref Dp),some (.ref Df),v6,v7,v8]/\KpT G G'/\Tbs G') ⟨_,_,rfl,.of (Same.refl _),t2⟩ (λi σ G' _ ⟨_,_,_,kG,_⟩=>SqL.of (kG.l (K2.l hgg))) ?_ ?_⟩
 ·rintro i x σ G' hi ⟨v7,v8,rfl,kG,tG⟩
  obtain⟨t,ga,pa,xs,gs,pls,rfl,ht,g,eW,hpa,hpl⟩:=(hzs x (WY hi)).kp (K2.trans kG) tG
  exists t,_,rfl,SqT.of ht,rfl,_,_,rfl,_,_,rfl,rfl
  have haqG:=haq.kp (K2.trans kG)
  refine⟨b,ga,aa,xs,low,L,gs,nums,k,part,rfl,g,haqG,l1,l3,by rw[eW];exact W181 hol hk,p1,p6,λD3 y3 H3 k3 t3 f3 h3=>?_⟩
  rw[eW]at h3
  have k23:=kG.trans k3
  have g3:=g.kp k3 t3
  refine⟨42,D3,Df,rfl,rfl,AnsL.alk f3 (k23.l ff) h3 (hf.kp k23) (ansA_ok hL),∅,iteF ?_⟩
  refine⟨b,ga,aa,Df,xs,yf,low,L,gs,ws,nums,k,part,rfl,g3,hw,h300,eW,haqG.kp k3,l3,p1,k23.l ff,hf.kp k23,λH4 s4=>⟨_,rfl,iteF ?_⟩⟩
  obtain⟨na,haa,hna⟩:=haqG.kp (k3.trans (.of s4))
  refine⟨_,_,SqT.of haa,rfl,b,ga,pa,ra,xs,low,L,gs,ws,pls,k,rfl,g3.s s4,hw,h300,eW,s4 _ _ (k3.l hpa),hpl,s4 _ _ (k23.l (K2.l hra)),λH5 k5 t5=>⟨_,rfl,iteF ?_⟩⟩
  exact⟨_,_,rfl,k23.trans ((KpT.of s4).trans k5),t5⟩
 ·rintro σ G' ⟨v7,v8,rfl,kG,tG⟩
  exact q G' (K2.trans kG) tG
noncomputable def cutG(os:List Int)(ps:List Nat)(m:Nat):List G3:=(List.range m).map λj=>(os,ps.getD j 0,ps.getD (j+1) 0)
def q515(os:List Int)(ps:List Nat)(m:Nat):cutG os ps (m+1)=cutG os ps m++[(os,ps.getD m 0,ps.getD (m+1) 0)]:=by
 unfold cutG
 rw[range_succ,WK]
 rfl
def q259{ps:List Nat}(h:ps.Pairwise (· <= ·)){i j:Nat}(hij:i<=j)(hj:j<ps.length):ps.getD i 0<=ps.getD j 0:=by
 rw[YA,YA,ZM hj,ZM (W58 hj hij)]
 by_cases e:i=j
 ·subst e;exact ZG _
 ·exact List.pairwise_iff_getElem.mp h i j {} hj (W15 hij e)
theorem q780{os:List Int}{ps:List Nat}(h:ps.Pairwise (· <= ·))(hb:∀ p∈ps,p<=os.length):∀ m,m<ps.length->Wh (cutG os ps m)=(os.take (ps.getD m 0)).drop (ps.getD 0 0)
 | 0,_=>by
  rw[drop_of_length_le (by rw[WZ];exact W53)]
  rfl
 | m+1,hm=>by
  have ih:=q780 h hb m (W39 hm)
  have h0:=q259 h (WA m) (show m<ps.length by lia)
  have h1:=q259 h (Nat.le_succ m) hm
  rw[q515,W_app,ih]
  show _++Wh [_]=_
  rw[show Wh [(os,ps.getD m 0,ps.getD (m+1) 0)]=(os.take (ps.getD (m+1) 0)).drop (ps.getD m 0) by unfold Wh;rw[YV,flatMap_nil,YN];rfl]
  generalize ps.getD 0 0=a at *
  generalize ps.getD m 0=b at *
  generalize ps.getD (m+1) 0=c at *
  have e:os.take b=(os.take c).take b:=by rw[take_take,WN h1]
  rw[e]
  generalize os.take c=l
  have:l.drop a=(l.take b).drop a++l.drop b:=by
   conv=>lhs;rw[<- YR b l]
   by_cases hbl:b<=l.length
   ·rw[drop_append_of_le_length (by rw[WZ];exact W108 hbl h0)]
   ·rw[WU (W80 hbl),drop_of_length_le (by lia:l.length<=b),YN,YN]
  exact this.symm
def q781(os:List Int)(ps:List Nat){j m:Nat}(h:j<=m):(cutG os ps m).take j=cutG os ps j:=by
 unfold cutG
 rw[<- map_take,take_range,WN h]
def q613(os:List Int)(ps:List Nat){j m:Nat}(h:(cutG os ps m)[j]? = some g):j<m/\g=(os,ps.getD j 0,ps.getD (j+1) 0):=by
 unfold cutG at h
 rw[WH]at h
 by_cases c:j<m
 ·rw[getElem?_range c]at h
  exact⟨c,(Option.some.inj h).symm⟩
 ·rw[getElem?_eq_none (by rw[length_range];exact W17 c)]at h
  cases h
def q782{L:Nat}{os:List Int}{ps:List Nat}{m:Nat}(hin:InO L os)(h3:os.length<=300)(h:ps.Pairwise (· <= ·))(hb:∀ p∈ps,p<=os.length)(hm:m<ps.length):∀ g∈cutG os ps m,GoodS L g:=λg hg=>by
 obtain⟨j,hj⟩:=getElem?_of_mem hg
 obtain⟨h1,rfl⟩:=q613 os ps hj
 refine⟨hin,q259 h (Nat.le_succ j) {},?_,h3⟩
 show ps.getD (j+1) 0<=_
 rw[YA,ZM (show j+1<ps.length by lia)]
 exact hb _ (getElem_mem _)
def cutG_pls{os:List Int}{ps:List Nat}{m k:Nat}{st:Nat}(h:ps.Pairwise (· <= ·))(hb:∀ p∈ps,p<=os.length)(hm:m<ps.length)(h0:ps.getD 0 0=st)(hk:m<=k):PlsOk (cutG os ps m) (List.replicate k (0-(st:Int))):=λj g hj=>by
 obtain⟨h1,rfl⟩:=q613 os ps hj
 exists 0-(st:Int),getElem?_replicate_of_lt (W30 h1 hk)
 rw[q781 _ _ (W18 h1),q780 h hb j (W173 h1 hm),length_drop,WZ,h0]
 have h2:=q259 h (WA j) (show j<ps.length by lia)
 have h3:ps.getD j 0<=os.length:=by
  rw[YA,ZM (show j<ps.length by lia)]
  exact hb _ (getElem_mem _)
 rw[h0]at h2
 show 0-(st:Int)+(ps.getD j 0:Int)=_
 rw[WN h3]
 lia
inductive q349(K:Fg)(vs:List V)(H:Hp)(Q:VK)(E:XK):Prop
 |mk(pen:Addr)(v:V)(n:Int)(L st en:Nat)(os:List Int)(_:vs=[.ref pen,v,.int (st:Int),.int (en:Int)])(_:Pen K H pen n)(_:n<10000000)(_:q35 H v (growO L os))(_:st<=en)(_:en<=300)(_:∀(D:Addr)(xs:List V)(ps:List Nat)(H':Hp),Keep pen H H'->Pen K H' pen (n+7)->H' D=some (.lst xs)->H D=none->GatAt H' L xs (cutG os ps (ps.length-1))->ps.Pairwise (· <= ·)->ps.getD 0 0=st->ps.getD (ps.length-1) 0=en->(∀ p∈ps,p<=en)->2<=ps.length->ps.length<=8->Q (.ref D) H')
def q552:z.C P w 3 "_law_cut" pn6 (q349 K):=by
 have sc:=q534
 specialize z.d__law_cut
 obtain⟨pen,v,n,L,st,en,os,rfl,P0,hn,hv,h1,h2,q⟩:=h
 refine⟨_,(q12 (pst 4 sc.nd (q32 (pa2 (pr 2) (pr 3))))
 (q12 (q61 PassesOwn.never rfl (q41 rfl z.range_ (pa1 (pe_op q86 q13 (pfn (q23 z) hr (pa2 (pr 0) q13))))) (pgn 5 sc.nd)
 (q15 (q75 (pe_bm WQ WS WT q42 (pr 4) (pa1 (pe_op q86 (pr 2) (pfn (q23 z) hr (pa2 (pr 0) (pe_op q86 (pe_op q315 (pr 3) (pr 2)) q13)))))))))
 (q12 (pst 4 sc.nd (q36 q263 () z.sorted_ q139 (pa1 (pr 4))))
 (q15 (q18 (q192 (cl:=[("_law_tree", s.heap.objs.size+1+0),("_law_places", s.heap.objs.size+1+1)]) (cn:=["_law_tree", "_law_places"]) (N:=["_law_places", "_law_tree"]) (fr:=[4,1]) (sc0:=q16 q247) rfl (q41 rfl z.range_ (pa1 (pe_op q315 (pln z.len_ (pa1 (pr 4))) q13))) (λC s₂ H₂ fp=>(q29 (pa3 (pr 2) (pix (q209 (K:=K) rfl) (pr 1) (pr 0)) (pix (q209 (K:=K) rfl) (pr 1) (pe_op q86 (pr 0) q13))))) (by ac_rfl) ⟨by ac_rfl,by ac_rfl,trivial⟩ rfl rfl rfl cok rfl)))))),?_⟩
 obtain⟨pc,hpc⟩:=P0.at
 refine⟨szb rfl,λW hW=>?_⟩
 have nW:W≠pen:=P0.fresh hW
 obtain⟨H1,e1,s1,f1⟩:=nwH hW (.lst [.int (st:Int),.int (en:Int)])
 rw[e1]
 refine⟨pen,6,n,rfl,P0.same s1,(W152 hn),∅,∅,λc H2 k2 P2 c0 c1=>⟨1+c,rfl,{},{},?_⟩⟩
 have k02:Keep pen H H2:=(Keep.same s1).trans k2
 refine q106 (n:=(1+c).toNat) (λi σ G=>∃(v5:Option V)(qs:List Int),σ=[some (.ref pen),some v,some (.int (st:Int)),some (.int (en:Int)),some (.ref W),v5]/\Keep pen H G/\Pen K G pen (n+1+i)/\G W=some (.lst (qs.map V.int))/\qs.length=2+i/\(st:Int)∈qs/\(en:Int)∈qs /\ ∀ x∈qs,(st:Int)<=x/\x<=(en:Int)) ⟨none,[(st:Int),(en:Int)],rfl,k02,P2.le {},k2 _ _ nW f1,rfl,WC,by simp,λx hx=>?_⟩ ?_ ?_
 ·simp only[mem_cons,not_mem_nil,or_false]at hx
  rcases hx with rfl | rfl <;> lia
 ·rintro i σ G hi ⟨v5,qs,rfl,kG,PG,hWG,hl,m1,m2,hb⟩
  refine⟨.inl ⟨rfl,_,SqL.of hWG⟩,pen,_,_,rfl,PG,{},{},{},λt G1 k1 P1 t0 t1=>?_⟩
  have hW1:=k1 _ _ nW hWG
  refine⟨W,_,_,rfl,rfl,hW1,q52 (by rw[ZJ];lia),some (.int (0+(i:Int))),qs++[(st:Int)+t],rfl,(kG.trans k1).own hW,(P1.other nW hW1 _).le {},by rw[q14,WK];rfl,by rw[ZQ,hl];rfl,mem_append_left _ m1,mem_append_left _ m2,λx hx=>?_⟩
  rcases eC hx with hx | hx
  ·exact hb x hx
  ·rw[eD hx];lia
 rintro σ G ⟨v5,qs,rfl,kG,PG,hWG,hl,m1,m2,hb⟩
 refine⟨W,qs,rfl,SqL.of hWG,{},λl ms hl0 pm srt=>?_⟩
 obtain⟨G1,e2,s2,f2⟩:=nwH hl0 (.lst (ms.map V.int))
 rw[e2]
 have hml:ms.length=2+(1+c).toNat:=by rw[pm.length_eq,hl]
 have hmv:(ms.map V.int).length=ms.length:=ZJ _
 have hbm:∀ x∈ms,(st:Int)<=x/\x<=(en:Int):=λx hx=>hb x (pm.mem_iff.mp hx)
 obtain⟨ps,hps⟩:∃ ps:List Nat,ms=ps.map λp:Nat=>(p:Int):=⟨ms.map Int.toNat,by
  rw[map_map]
  conv=>lhs;rw[<- map_id ms]
  refine YK λx hx=>?_
  have:=hbm x hx
  show x=((x.toNat:Nat):Int)
  lia⟩
 subst hps
 rw[ZJ]at hml
 have hpp:ps.Pairwise (· <= ·):=by
  rw[pairwise_map]at srt
  exact srt.imp λh=>(W188 h)
 have hpb:∀ p∈ps,st<=p/\p<=en:=λp hp=>by
  have:=hbm (p:Int) (List.mem_map.mpr ⟨p,hp,rfl⟩)
  lia
 have mst:st∈ps:=by
  obtain⟨p,hp,e⟩:=eE (pm.mem_iff.mpr m1)
  rw[show st=p by exact W128 e];exact hp
 have men:en∈ps:=by
  obtain⟨p,hp,e⟩:=eE (pm.mem_iff.mpr m2)
  rw[show en=p by exact W128 e];exact hp
 have gd:∀{i:Nat}(hi:i<ps.length),ps.getD i 0=ps[i]:=fun {i} hi=>by rw[YA,ZM hi];rfl
 have h0:ps.getD 0 0=st:=by
  obtain⟨i,hi,e⟩:=getElem_of_mem mst
  have a1:=q259 hpp (WA i) hi
  rw[gd hi,e,gd {}]at a1
  have a2:=hpb _ (getElem_mem (l:=ps) (n:=0) {})
  rw[gd {}]
  lia
 have hz:ps.getD (ps.length-1) 0=en:=by
  obtain⟨i,hi,e⟩:=getElem_of_mem men
  have a1:=q259 hpp (show i<=ps.length-1 by lia) {}
  rw[gd hi,e,gd {}]at a1
  have a2:=hpb _ (getElem_mem (l:=ps) (n:=ps.length-1) {})
  rw[gd {}]
  lia
 refine⟨l,_,rfl,.inl (SqL.of f2),(ps.length:Int)-1,by rw[ZJ,ZJ],{},{},λD hD=>?_⟩
 have s0:TKeep H G1:=.keep (kG.trans (.same s2)) hpc
 have nD:H D=none:=(kG.trans (.same s2)).free hD ((PG.same s2).at.choose_spec)
 rw[show((ps.length:Int)-1).toNat=ps.length-1 by lia]
 refine q78 (n:=ps.length-1) (sz {}) (λj ys G'=>G' D=some (.lst ys)/\Same G1 G'/\ys.length=j/\GatAt G' L ys (cutG os ps j)) ⟨q14,q17 hD _,rfl,GatAt.nil _ _⟩ (λj ys G' ⟨a1,_,a3,_⟩=>⟨a1,a3⟩) ?_ ?_
 ·rintro j ys G' hj ⟨a1,sG,a3,a4⟩
  have at1:∀{i:Nat},i<ps.length->atI ((ps.map λp:Nat=>(p:Int)).map V.int) (i:Int)=some (.int (ps.getD i 0:Nat)):=fun {i} hi=>q44 (by rw[WH,WH,ZM hi,gd hi];rfl)
  have f2':=sG _ _ f2
  refine⟨_,_,SqL.of f2',(by rw[Int.zero_add];exact at1 {}),_,_,SqL.of f2',(by rw[Int.zero_add,show(j:Int)+1=((j+1:Nat):Int) by exact W114];exact at1 {}),szb rfl,λp hp=>?_⟩
  obtain⟨G2,e3,s3,f3⟩:=nwH hp (.tup [v,.int (ps.getD j 0:Nat),.int (ps.getD (j+1) 0:Nat)])
  rw[e3]
  have a1':=s3 _ _ a1
  exists a1',q14,Same.own (sG.trans s3) hD,by rw[ZQ,a3];rfl
  rw[q515]
  have tk:TKeep G2 (upd G2 D (.lst (ys++[.ref p]))):=.set a1'
  exact((a4.same s3).tk tk).snoc ⟨p,v,rfl,(tk _ _).1 f3,((hv.tk s0).same (sG.trans s3)).tk tk⟩
 rintro ys G' ⟨a1,sG,a3,a4⟩
 have sall:=(kG.trans (.same s2)).trans (.same sG)
 exact q D ys ps G' sall ((PG.same (s2.trans sG)).le (W102 c0 hml c1)) a1 nD a4 hpp h0 hz (λp hp=>(hpb p hp).2) {} (W171 c0 hml c1)
structure Bs(K:Fg)(pen b:Addr)(low:Int)(L:Nat)(m:Int)(G:Hp):Prop where
 p:Pen K G pen m
 b:G b=some (.tup [.int low,.int (L:Int)])
 t:Tbs G
section
variable {K:Fg}{pen b:Addr}{low:Int}{L:Nat}{m m':Int}{G G':Hp}
def Bs.same(h:Bs K pen b low L m G)(s:Same G G'):Bs K pen b low L m G':=⟨h.p.same s,s _ _ h.b,h.t.same s⟩
def Bs.pn(h:Bs K pen b low L m G)(k:Keep pen G G')(P':Pen K G' pen m'):Bs K pen b low L m' G':=by
 obtain⟨y,e⟩:=h.p.at
 exact⟨P',k _ _ (ne_of h.b e (by intro z;cases z)) h.b,h.t.pen k e⟩
def Bs.set(h:Bs K pen b low L m G)(n:W≠pen)(e:G W=some (.lst ys)):Bs K pen b low L m (upd G W (.lst zs)):=by
 have k:=Keep.set W G (.lst zs)
 exact⟨h.p.other n e _,k _ _ (ne_of h.b e (by intro z;cases z)) h.b,h.t.pen k e⟩
def Bs.le(h:Bs K pen b low L m G)(l:m<=m'):Bs K pen b low L m' G:={ h with p:=h.p.le l }
def Bs.kp(h:Bs K pen b low L m G)(k:KpT G G')(t:Tbs G'):Bs K pen b low L m G':=⟨h.p.kp k,k.t h.b,t⟩
end
def RwX(av:List Addr)(low:Int)(L:Nat)(G:Hp)(y:V)(ns:List Int):Prop:=∃ r,y = .ref r/\r ∉ av/\G r=some (.lst (ns.map V.int))/\Wths low L ns
def RwX.up{low:Int}{L:Nat}(h:RwX av low L G y ns)(k:∀ a xs,a ∉ av->G a=some (.lst xs)->G' a=some (.lst xs)/\a ∉ av'):RwX av' low L G' y ns:=by
 obtain⟨r,e,h1,h2,h3⟩:=h
 exact⟨r,e,(k r _ h1 h2).2,(k r _ h1 h2).1,h3⟩
noncomputable def pcs(low:Int)(nss:LL):List G3:=nss.map λns=>(offs low ns,0,ns.length)
noncomputable def bgs:Int->LL->List Int
 | _,[]=>[]
 | j,ns::r=>j::bgs (j+(ns.length:Int)) r
theorem q614:∀(j:Int)(l:LL)(x:List Int),bgs j (l++[x])=bgs j l++[j+(l.flatten.length:Int)]
 | j,[],x=>by show[j]=[j+0];rw[Int.add_zero]
 | j,ns::l,x=>by
  show j::bgs (j+(ns.length:Int)) (l++[x])=j::(bgs (j+(ns.length:Int)) l++[j+(((ns++l.flatten).length:Nat):Int)])
  rw[q614 _ l x,ZQ,show j+(ns.length:Int)+(l.flatten.length:Int)=j+((ns.length+l.flatten.length:Nat):Int) by exact W112]
theorem pcs_W(low:Int):∀ nss:LL,Wh (pcs low nss)=offs low nss.flatten
 | []=>rfl
 | ns::nss=>by
  have ih:=pcs_W low nss
  unfold pcs Wh at ih ⊢
  rw[map_cons,YV,ih,flatten_cons]
  show(List.drop 0 ((offs low ns).take ns.length))++_=_
  rw[drop_zero,WU (by rw[ZJ];exact ZG _)]
  exact(WK ..).symm
theorem q783:∀{j:Int}{nss:LL}{i:Nat},i<nss.length->(bgs j nss)[i]? = some (j+((nss.take i).flatten.length:Int))
 | j,ns::nss,0,_=>by show some j=some (j+0);rw[Int.add_zero]
 | j,ns::nss,i+1,h=>by
  show(bgs (j+(ns.length:Int)) nss)[i]? = some (j+(((ns++(nss.take i).flatten).length:Nat):Int))
  rw[q783 (Nat.lt_of_succ_lt_succ h),ZQ,show j+(ns.length:Int)+((nss.take i).flatten.length:Int)=j+((ns.length+(nss.take i).flatten.length:Nat):Int) by exact W112]
def pcs_pls(low:Int)(nss:LL):PlsOk (pcs low nss) (bgs 0 nss):=λj g hj=>by
 have hl:=(eA hj).1
 rw[show(pcs low nss).length=nss.length from ZJ _]at hl
 exists _,q783 hl
 have e:g.2.1=0:=by
  unfold pcs at hj
  rw[WH,ZM hl]at hj
  rw[<- Option.some.inj hj]
 rw[e,show(pcs low nss).take j=pcs low (nss.take j) by unfold pcs;rw[map_take],pcs_W,ZJ]
 lia
def pcs_good{low:Int}{L:Nat}{nss:LL}(hw:∀ ns∈nss,Wths low L ns)(hl:nss.flatten.length<=300):∀ g∈pcs low nss,GoodS L g:=λg hg=>by
 obtain⟨ns,hn,rfl⟩:=eE hg
 have:=(sublist_flatten_of_mem hn).length_le
 exact⟨q280 (hw ns hn),WA _,by show ns.length<=(offs low ns).length;rw[ZJ];exact ZG _,by show(offs low ns).length<=300;rw[ZJ];lia⟩
theorem q447:∀{nss:LL},nss.length<=4->(∀ ns∈nss,ns.length<=20)->nss.flatten.length<=20*nss.length
 | [],_,_=>ZG _
 | ns::nss,h,hl=>by
  rw[WX]at h
  have ih:=q447 (nss:=nss) {} λx hx=>hl x (ZX _ hx)
  have:=hl ns WC
  rw[flatten_cons,ZQ,WX]
  lia
def big_len{nss:LL}{bg:List Int}(h2:2<=nss.length)(h4:nss.length<=4)(hl:∀ ns∈nss,ns.length<=20)(hb:bg.length<=240):(nss.set 1 bg).flatten.length<=300:=by
 match nss,h2 with
 | a::c::r,_=>
  have h1:=hl a WC
  have hr:r.length<=2:=by simp only[WX]at h4;lia
  have:=q447 (nss:=r) {} λx hx=>hl x (ZX _ (ZX _ hx))
  show(a++(bg++r.flatten)).length<=300
  rw[ZQ,ZQ]
  lia
theorem q615{α β:Type}{R:α->β->Prop}{x:α}{y:β}(hxy:R x y):∀{l:List α}{m:List β}(n:Nat),Paired R l m->Paired R (l.set n x) (m.set n y)
 | _,_,_,.nil=>.nil
 | _,_,0,.cons _ t=>.cons hxy t
 | _,_,n+1,.cons h t=>.cons h (q615 hxy n t)
def Tbs.first(h:∀ T∈([377,391,384,370]:List Addr),H T=some (.tbl #[])):Tbs H:=λq hq=>by
 have:q.1∈([377,391,384,370]:List Addr):=by
  have z:∀ q∈tbQ,q.1∈([377,391,384,370]:List Addr):=by decide +kernel
  exact z q hq
 exact⟨#[],h _ this,trivial,.inl rfl⟩
def mI_sum{i j k:Int}(e:i+j=k)(h:Q (.int k) H):mI (λi j=>V.int (i+j)) (.int i) (.int j) H Q:=by
 rw[<- e]at h
 exact h
def gat1{H:Hp}{L:Nat}{t:Addr}{u:V}{os:List Int}{st en:Nat}(ht:H t=some (.tup [u,.int (st:Int),.int (en:Int)]))(hu:q35 H u (growO L os)):GatAt H L [.ref t] [(os,st,en)]:=
 (GatAt.nil H L).snoc ⟨t,u,rfl,ht,hu⟩
def q553{os:List Int}{st en:Nat}:PlsOk [(os,st,en)] [0-(st:Int)]:=λj g hj=>by
 match j,hj with
 | 0,hj=>cases hj;exact⟨_,rfl,by show 0-(st:Int)+(st:Int)=0;exact W149⟩
def q448{low:Int}{st en:Nat}:Wh [(offs low ws,st,en)]=offs low (segI ws st en):=by
 unfold Wh
 rw[YV,flatMap_nil,YN]
 exact(q543 _ ws st en).symm
def good1{low:Int}{L:Nat}{ws:List Int}{st en:Nat}(hw:Wths low L ws)(h3:ws.length<=300)(h1:st<=en)(h2:en<=ws.length):∀ g∈[(offs low ws,st,en)],GoodS L g:=λg hg=>by
 rw[eD hg]
 exact⟨q280 hw,h1,by show en<=(offs low ws).length;rw[ZJ];exact h2,by show(offs low ws).length<=300;rw[ZJ];exact h3⟩
abbrev k_law:Nat:=50
abbrev sp_law(K:Fg):Sp:=q472 K [377,391,384,370]
def ok_law(z:Bz K mg base):∀(f:Addr)(fd:FuncData),Fun K "law" "law" s_law f fd->FnOk P w K mg base CX0 k_law f fd ["_law_script"] (sp_law K):=by
 have sc:=sc_law
 intro f fd F
 refine F.ok sc (λ_ _ _ _ ⟨_,_,e,_⟩=>by rw[e];rfl) λ_ _ _ s H _ Q _ hr h=>?_
 obtain⟨a,sn,rfl,hS,h63,hT,hnl,q⟩:=h
 refine⟨_,(q12 (pst 1 sc.nd (q32 (pa3 (pr 0) q13 q13)))
 (q12 (pst 2 sc.nd (pfn (q363 z) hr (pa1 (pr 1))))
 (q12 (q158 (i:=3) (cl:=[("_law_pen", s.heap.objs.size+1+0),("_law_bounds_here", s.heap.objs.size+1+1)]) (cn:=["_law_pen", "_law_bounds_here"]) (N:=["_law_bounds_here", "_law_pen"]) (fr:=[2,1]) (sc0:=q16 s_law) sc.nd rfl (Or.inl rfl) rfl (q41 rfl z.range_ (pa1 (pe_op q86 q13 (pfn (q23 z) hr (pa2 (pr 1) q13))))) (λC s₂ H₂ fp=>(pfn (q535 z) hr (pa3 (pr 2) (pr 1) q13))) (by ac_rfl) ⟨by ac_rfl,by ac_rfl,trivial⟩ rfl rfl rfl cok rfl (by ac_rfl) (.inl rfl))
 (q12 (q422 (ps_if (PW.pt (q450 (q59 om_lt (pix q379 (pr 2) q13) q13 (q19 _)) (q299 (q59 op_eq (pfn (q23 z) hr (pa2 (pr 1) q13)) q13 (q19 _)))))
 (q12 (pst 4 sc.nd (q192 (cl:=[("_law_pen", s.heap.objs.size+1+0),("_law_bounds_here", s.heap.objs.size+1+1)]) (cn:=["_law_pen", "_law_bounds_here"]) (N:=["_law_bounds_here", "_law_pen"]) (fr:=[2,1]) (sc0:=q16 s_law) rfl (q41 rfl z.range_ (pa1 q13)) (λC s₂ H₂ fp=>(pe_op q86 (pix (q144 (K:=K) rfl) (pr 1) q13) (pfn (q23 z) hr (pa2 (pr 2) (pe_op q671 q13 (pix (q144 (K:=K) rfl) (pr 1) q13)))))) (by ac_rfl) ⟨by ac_rfl,by ac_rfl,trivial⟩ rfl rfl rfl cok rfl))
 (q15 (q260 (q192 (cl:=[("_law_pen", s.heap.objs.size+1+0),("_law_few", s.heap.objs.size+1+2)]) (cn:=["_law_pen", "_law_few"]) (N:=["_law_few", "_law_pen"]) (fr:=[4,1]) (sc0:=q16 s_law) rfl (q41 rfl z.range_ (pa1 (pe_op q86 q13 (pfn (q23 z) hr (pa2 (pr 1) q13))))) (λC s₂ H₂ fp=>(pix (q209 (K:=K) rfl) (pr 1) (pfn (q23 z) hr (pa2 (pr 2) q13)))) (by ac_rfl) ⟨by ac_rfl,by ac_rfl,trivial⟩ rfl rfl rfl cok rfl) (q556 (pr 3) q13 set_list))))
 q21))
 (q12 (pst 5 sc.nd q60)
 (q12 (pst 6 sc.nd (q32 q11))
 (q12 (pst 7 sc.nd (q32 q11))
 (q12 (pst 8 sc.nd (q32 q11))
 (q12 (q61 PassesOwn.never rfl (q34 (pr 3)) (pgn 9 sc.nd)
 (q12 (q75 (pe_bm WQ WS WT q42 (pr 7) (pa1 (q29 (pa3 (pfn (q248 z) hr (pa2 (pr 2) (pr 9))) q13 (pln z.len_ (pa1 (pr 9))))))))
 (q12 (q75 (pe_bm WQ WS WT q42 (pr 8) (pa1 (pln z.len_ (pa1 (pr 6))))))
 (q12 (pst 5 sc.nd (pfn (q762 z) hr (pa2 (pr 5) (pix q379 (pix q39 (pr 7) (pe_un un_neg q13)) q13))))
 (q15 (pst 6 sc.nd (pe_op q109 (pr 6) (pr 9))))))))
 (q12 (ps_if (q59 (q698 hr.units) (pr 5) (pfn (q248 z) hr (pa2 (pr 2) (pr 6))) (q19 _))
 (q15 (q18 pe_bl))
 q21)
 (q12 (pst 10 sc.nd (pfn (q23 z) hr (pa2 (pr 1) (pe_op q86 (pln z.len_ (pa1 (pr 6))) q13))))
 (q12 (pst 11 sc.nd (pe_op q86 (pr 10) (pfn (q23 z) hr (pa2 (pr 1) (pe_op q315 (pe_op q86 (pln z.len_ (pa1 (pr 6))) q13) (pr 10))))))
 (q12 (pst 12 sc.nd (pfn (q661 z) hr (pa1 (q29 (pa3 (pr 5) (pr 10) (pr 11))))))
 (q12 (ps_if (q59 (q698 hr.units) (pr 12) (pfn (q248 z) hr (pa2 (pr 2) (q108 q302 (pr 6) (q77 (pr 10)) (q77 (pr 11))))) (q19 _))
 (q15 (q18 pe_bl))
 q21)
 (q12 (pst 13 sc.nd (pfn (q552 z) hr (pa4 (pr 1) (pr 5) (pr 10) (pr 11))))
 (q12 (pst 14 sc.nd (q32 (pa3 (q29 (pa2 (q32 (pa1 (q29 (pa3 (pr 5) (pr 10) (pr 11))))) (q32 (pa1 (pe_op q315 q13 (pr 10)))))) (q29 (pa2 (pr 13) (pe_op op_rep (q32 (pa1 (pe_op q315 q13 (pr 10)))) q13))) (q29 (pa2 (q32 (pa1 (q29 (pa3 (pr 12) q13 (pe_op q315 (pr 11) (pr 10)))))) (q32 (pa1 q13)))))))
 (q12 (ps_if (q118 (q104 (pfn (q236 z) hr (pa4 (pr 2) (pr 14) (q108 q302 (pr 6) (q77 (pr 10)) (q77 (pr 11))) (pfn (q232 z) hr (pa3 (pr 1) (pr 2) (q108 q302 (pr 6) (q77 (pr 10)) (q77 (pr 11)))))))))
 (q15 (q18 pe_bl))
 q21)
 (q12 (pst 15 sc.nd (pfn (q232 z) hr (pa3 (pr 1) (pr 2) (pr 6))))
 (q15 (q18 (pfn (q236 z) hr (pa4 (pr 2) (q32 (pa2 (q29 (pa2 (q32 (pa1 (q29 (pa3 (pr 5) q13 (pln z.len_ (pa1 (pr 6))))))) (q32 (pa1 q13)))) (q29 (pa2 (pr 7) (pr 8))))) (pr 6) (pr 15))))))))))))))))))))))),?_⟩
 refine⟨szb rfl,λpen hpen=>?_⟩
 obtain⟨H1,e1,s1,g1⟩:=nwH hpen (.lst [.ref a,.int 0,.int 0])
 rw[e1]
 have P1:Pen K H1 pen 0:=⟨a,sn,0,0,g1,(Only.no hnl hS).same s1,h63,∅,∅,∅⟩
 have T1:Tbs H1:=(Tbs.first hT).same s1
 refine⟨pen,0,rfl,P1,∅,λb low L H2 k2 P2 hb2 lo1 lo2 hL=>?_⟩
 have B2:Bs K pen b low L 4 H2:=⟨P2,hb2,T1.pen k2 g1⟩
 clear hT hnl hS e1 s1 g1 k2 P1 T1 P2 hb2 hpen
 have hp:=p2pos L
 have hq:=p2le hL
 refine⟨pen,3,4,rfl,B2.p,∅,∅,∅,λc H3 k3 P3 c0 c1=>⟨2+c,rfl,{},{},λR hR=>?_⟩⟩
 have B3:=B2.pn k3 P3
 have nR:R≠pen:=P3.fresh hR
 refine q78 (n:=(2+c).toNat) (sz {}) (λj ys G=>∃ nss:LL,ys.length=j/\nss.length=j/\G R=some (.lst ys)/\Bs K pen b low L (5+80*j) G/\Paired (RwX [pen,R] low L G) ys nss /\ ∀ ns∈nss,ns.length<=20)
  ⟨[],rfl,rfl,q14,(B3.same (q17 hR _)).le {},.nil,λ_ h=>absurd h (by simp)⟩ (λj ys G ⟨_,e1,_,e2,_⟩=>⟨e2,e1⟩) ?_ ?_
 ·rintro j ys G hj ⟨nss,e1,e2,e3,BG,rG,l20⟩
  refine⟨pen,b,_,20,low,L,rfl,BG.p,{},BG.b,hL,∅,∅,λr ns G1 k1 P1 hr1 hr0 hl hw=>?_⟩
  have nrp:r≠pen:=BG.p.fresh hr0
  have nrR:r≠R:=λz=>by rw[z,e3]at hr0;cases hr0
  have e3':=k1 _ _ nR e3
  have kR:=Keep.set R G1 (.lst (ys++[.ref r]))
  refine⟨e3',nss++[ns],by rw[ZQ,e1];rfl,by rw[ZQ,e2];rfl,q14,((BG.pn k1 P1).set nR e3').le {},q50 (L2.Paired.mapP rG λ_ _ z=>z.up λa xs n e=>⟨kR _ _ (λz=>n (by simp[z])) (k1 _ _ (λz=>n (by simp[z])) e),n⟩) (.cons ⟨r,rfl,by simp[nrp,nrR],kR _ _ nrR hr1,hw⟩ .nil),λx hx=>?_⟩
  rcases eC hx with hx | hx
  ·exact l20 x hx
  ·rw[eD hx];lia
 rintro ys0 G0 ⟨nss0,e1,e2,e3,B0,r0,l20⟩
 exists λσ G=>∃(v4:Option V)(ys:List V)(nss:LL),σ=[some (.ref a),some (.ref pen),some (.ref b),some (.ref R),v4,none,none,none,none,none,none,none,none,none,none,none]/\G R=some (.lst ys)/\Bs K pen b low L 1000 G/\Paired (RwX [pen,R] low L G) ys nss/\nss.length<=4/\nss.flatten.length<=300,?_
 ·refine⟨_,_,SqT.of B0.b,rfl,ite2 (λ_=>?_) (λ_=>iteF ?_)⟩
  ·refine⟨pen,12,_,rfl,B0.p,{},∅,∅,λt Ga ka Pa _ _=>⟨rfl,ite2 (λ_=>?_) (λ_=>?_)⟩⟩
   ·have Ba:=B0.pn ka Pa
    have ra:Paired (RwX [pen,R] low L Ga) ys0 nss0:=L2.Paired.mapP r0 λ_ _ z=>z.up λa xs n e=>⟨ka _ _ (λz=>n (by simp[z])) e,n⟩
    have hRa:=ka _ _ nR e3
    refine⟨3,rfl,∅,∅,λFw hFw=>?_⟩
    have nF:Fw≠pen:=Pa.fresh hFw
    have nFR:R≠Fw:=λz=>by rw[<- z,hRa]at hFw;cases hFw
    refine q78 (n:=3) (sz ∅) (λj zs G=>∃ fs:List Int,zs=fs.map V.int/\fs.length=j/\G Fw=some (.lst zs)/\Bs K pen b low L (5+80*((2+c).toNat:Int)+1+j) G/\Keep pen Ga G /\ ∀ x∈fs,low<=x/\x<low+2^L)
     ⟨[],rfl,rfl,q14,(Ba.same (q17 hFw _)).le {},.same (q17 hFw _),λ_ h=>absurd h (by simp)⟩ (λj zs G ⟨fs,e1,e2,e3,_⟩=>⟨e3,by rw[e1,ZJ];exact e2⟩) ?_ ?_
    ·rintro j zs G hj ⟨fs,e1,e2,e3,BG,kG,hb⟩
     exists _,_,SqT.of BG.b,rfl,_,_,SqT.of BG.b,rfl,_,_,rfl,rfl,⟨(W95 hL),(W135 hL),∅⟩
     dsimp only
     rw[q700]
     refine⟨pen,_,_,rfl,BG.p,{},hp,(W140 hp hq),λx G1 k1 P1 x0 x1=>?_⟩
     have e3':=k1 _ _ nF e3
     refine⟨e3',fs++[low+x],by rw[WK,e1] <;> rfl,by rw[ZQ,e2] <;> rfl,q14,((BG.pn k1 P1).set nF e3').le {},(kG.trans k1).own hFw,λy hy=>?_⟩
     rcases eC hy with h' | h'
     ·exact hb y h'
     ·rw[eD h'];lia
    rintro zs Gb ⟨fs,ez,lf,hFb,Bb,kb,hfb⟩
    rw[ez]at hFb
    refine⟨pen,176,_,rfl,Bb.p,{},∅,∅,λc' Gc kc Pc' c0' c1'=>⟨65+c',rfl,{},{},λLg hLg=>?_⟩⟩
    have Bc:=Bb.pn kc Pc'
    have hFc:=kc _ _ nF hFb
    have nL:Lg≠pen:=Pc'.fresh hLg
    have nLF:Fw≠Lg:=λz=>by rw[<- z,hFc]at hLg;cases hLg
    have hRc:=kc _ _ nR (kb _ _ nR hRa)
    have nLR:R≠Lg:=λz=>by rw[<- z,hRc]at hLg;cases hLg
    refine q78 (n:=(65+c').toNat) (sz {}) (λj zs G=>∃ fs:List Int,zs=fs.map V.int/\fs.length=j/\G Lg=some (.lst zs)/\Bs K pen b low L (5+80*((2+c).toNat:Int)+1+3+1+j) G/\Keep pen Gc G/\Wths low L fs)
     ⟨[],rfl,rfl,q14,(Bc.same (q17 hLg _)).le {},.same (q17 hLg _),λ_ h=>absurd h (by simp)⟩ (λj zs G ⟨fs,e1,e2,e3,_⟩=>⟨e3,by rw[e1,ZJ];exact e2⟩) ?_ ?_
    ·rintro j zs G hj ⟨gs,e1,e2,e3,BG,kG,hb⟩
     refine⟨pen,3,_,rfl,BG.p,{},∅,∅,λx G1 k1 P1 x0 x1=>?_⟩
     obtain⟨fv,hm,hv⟩:=q126 (l:=fs) x0 (by rw[lf];exact x1)
     have e3':=k1 _ _ nL e3
     refine⟨_,_,SqL.of (k1 _ _ nF (kG _ _ nF hFc)),hv,e3',gs++[fv],by rw[WK,e1] <;> rfl,by rw[ZQ,e2] <;> rfl,q14,((BG.pn k1 P1).set nL e3').le {},(kG.trans k1).own hLg,hb.snoc (hfb fv hm).1 (hfb fv hm).2⟩
    rintro zs Gd ⟨bg,ez',lb,hLd,Bd,kd,hwd⟩
    rw[ez']at hLd
    have hRd:=kd _ _ nR hRc
    have hyl:ys0.length=(2+c).toNat:=e1
    exists R,ys0,1,1,rfl,rfl,hRd,by unfold ixN;simp;lia
    have kR:=Keep.set R Gd (.lst (ys0.set 1 (.ref Lg)))
    have kall:Keep pen Ga Gd:=kb.trans (kc.trans kd)
    refine⟨_,ys0.set 1 (.ref Lg),nss0.set 1 bg,rfl,q14,(Bd.set nR hRd).le {},q615 ⟨Lg,rfl,by simp[nL,Ne.symm nLR],kR _ _ (Ne.symm nLR) hLd,hwd⟩ 1 (L2.Paired.mapP ra λ_ _ z=>z.up λa xs n e=>⟨kR _ _ (λz=>n (by simp[z])) (kall _ _ (λz=>n (by simp[z])) e),n⟩),by rw[length_set];lia,big_len {} {} l20 {}⟩
   ·exact⟨_,ys0,nss0,rfl,ka _ _ nR e3,(B0.pn ka Pa).le {},L2.Paired.mapP r0 λ_ _ z=>z.up λa xs n e=>⟨ka _ _ (λz=>n (by simp[z])) e,n⟩,(W132 c0 e2 c1),ZO (q447 {} l20) (W126 c0 e2 c1)⟩
  ·exact⟨_,ys0,nss0,rfl,e3,B0.le {},r0,(W132 c0 e2 c1),ZO (q447 {} l20) (W126 c0 e2 c1)⟩
 rintro σ G1 ⟨v4,ys,nss,rfl,hR1,B1,rw1,l4,l300⟩
 clear B0 r0 l20 e1 e2 e3 B2 B3 k3 P3 hR c0 c1
 refine⟨szb rfl,λr0 hr0=>?_⟩
 have n0p:r0≠pen:=B1.p.fresh hr0
 obtain⟨G2,e2,s2,f2⟩:=nwH hr0 (.lst [])
 rw[e2]
 refine⟨szb rfl,λPc hPc=>?_⟩
 have nPp:Pc≠pen:=(B1.p.same s2).fresh hPc
 have nP0:r0≠Pc:=λz=>by rw[<- z,f2]at hPc;cases hPc
 obtain⟨G3,e3,s3,f3'⟩:=nwH hPc (.lst [])
 rw[e3]
 refine⟨szb rfl,λBg hBg=>?_⟩
 have nBp:Bg≠pen:=((B1.p.same s2).same s3).fresh hBg
 have nB0:r0≠Bg:=λz=>by rw[<- z,s3 _ _ f2]at hBg;cases hBg
 have nPB:Pc≠Bg:=λz=>by rw[<- z,f3']at hBg;cases hBg
 obtain⟨G4,e4,s4,f4⟩:=nwH hBg (.lst [])
 rw[e4]
 have s14:=s2.trans (s3.trans s4)
 have rw4:Paired (RwX [pen,R,Pc,Bg] low L G4) ys nss:=L2.Paired.mapP rw1 λ_ _ z=>z.up λa xs n e=>⟨s14 _ _ e,λh=>by
  simp only[mem_cons,not_mem_nil,or_false]at h n
  rcases h with h | h | h | h
  ·exact n (.inl h)
  ·exact n (.inr h)
  ·rw[h]at e;rw[s2 _ _ e]at hPc;cases hPc
  ·rw[h]at e;rw[s3 _ _ (s2 _ _ e)]at hBg;cases hBg⟩
 have nRP:R≠Pc:=λz=>by rw[<- z,s2 _ _ hR1]at hPc;cases hPc
 have nRB:R≠Bg:=λz=>by rw[<- z,s3 _ _ (s2 _ _ hR1)]at hBg;cases hBg
 refine⟨R,rfl,⟨_,SqL.of (s14 _ _ hR1)⟩,q95 (K:=K) (a:=R) (xs:=ys) (λi σ G=>∃(T:V)(rr:Addr)(xs:List V)(v9:Option V),σ=[some (.ref a),some (.ref pen),some (.ref b),some (.ref R),v4,some T,some (.ref rr),some (.ref Pc),some (.ref Bg),v9,none,none,none,none,none,none]/\Bs K pen b low L 1000 G/\G R=some (.lst ys)/\Paired (RwX [pen,R,Pc,Bg] low L G) ys nss/\q35 G T (grow low L (nss.take i).flatten)/\G rr=some (.lst ((nss.take i).flatten.map V.int))/\rr≠pen/\rr≠Pc/\rr≠Bg/\G Pc=some (.lst xs)/\GatAt G L xs (pcs low (nss.take i))/\G Bg=some (.lst ((bgs 0 (nss.take i)).map V.int)))
  ⟨.non,r0,[],none,rfl,B1.same s14,s14 _ _ hR1,rw4,by rw[take_zero,flatten_nil,q111];rfl,(s3.trans s4) _ _ f2,n0p,nP0,nB0,s4 _ _ f3',GatAt.nil _ _,f4⟩ (λi σ G _ ⟨_,_,_,_,_,_,h,_⟩=>SqL.of h) ?_ ?_⟩
 ·rintro i x σ G hi ⟨T,rr,xs,v9,rfl,BG,hRG,rwG,hTG,hrr,n1,n2,n3,hP,gG,hB⟩
  obtain⟨ns,hn,r,rfl,nr,hr,hw⟩:=q68 rwG hi
  have hni:i<nss.length:=(eA hn).1
  have hmem:ns∈nss:=WY hn
  have hnl:ns.length<=300:=ZO (sublist_flatten_of_mem hmem).length_le l300
  have eT:nss.take (i+1)=nss.take i++[ns]:=by rw[YG,hn];rfl
  have eF:(nss.take (i+1)).flatten=(nss.take i).flatten++ns:=by rw[eT,flatten_append,flatten_cons,flatten_nil,YN]
  have hacc:(nss.take i).flatten.length+ns.length<=300:=by
   have h1:(nss.take (i+1)).flatten.length<=nss.flatten.length:=by
    conv=>rhs;rw[<- YR (i+1) nss]
    rw[flatten_append,ZQ]
    exact W13
   rw[eF,ZQ]at h1
   lia
  have hxl:xs.length=i:=by rw[gG.1];unfold pcs;rw[ZJ,WZ];exact W49 hni
  simp only[mem_cons,not_mem_nil,or_false,not_or]at nr
  obtain⟨m1,m2,m3,m4⟩:=nr
  refine⟨.inl ⟨rfl,_,SqL.of hP⟩,b,r,low,L,ns,rfl,SqT.of BG.b,hL,SqL.of hr,(W96 hnl),hw,λGa v sa hv=>⟨r,_,rfl,.inl (SqL.of (sa _ _ hr)),szb rfl,λt ht=>?_⟩⟩
  rw[ZJ]
  obtain⟨Gb,eb,sb,fb⟩:=nwH ht (.tup [v,.int 0,.int (ns.length:Int)])
  rw[eb]
  have sab:=sa.trans sb
  have hPb:=sab _ _ hP
  exists Pc,_,_,rfl,rfl,hPb,q52 {}
  have kP:=Keep.set Pc Gb (.lst (xs++[.ref t]))
  have tP:TKeep Gb (upd Gb Pc (.lst (xs++[.ref t]))):=.set hPb
  have fP:=@q14 Gb Pc (.lst (xs++[.ref t]))
  have Bc:=(BG.same sab).set (zs:=xs++[.ref t]) nPp hPb
  generalize upd Gb Pc (.lst (xs++[.ref t]))=Gc at *
  have hBc:=kP _ _ (Ne.symm nPB) (sab _ _ hB)
  refine⟨.inl ⟨rfl,_,SqL.of hBc⟩,rr,_,rfl,.inl (SqL.of (kP _ _ n2 (sab _ _ hrr))),Bg,_,_,rfl,rfl,hBc,q52 (by
   have:(bgs 0 (nss.take i)).length<=4:=by
    have:∀(j:Int)(l:LL),(bgs j l).length=l.length:=λj l=>by
     induction l generalizing j with
     | nil=>rfl
     | cons x l ih=>show(bgs _ l).length+1=l.length+1;rw[ih]
    rw[this,WZ];lia
   rw[ZJ];lia),?_⟩
  rw[ZJ]
  have kB:=Keep.set Bg Gc (.lst ((bgs 0 (nss.take i)).map V.int++[.int ((nss.take i).flatten.length:Int)]))
  have tB:TKeep Gc (upd Gc Bg (.lst ((bgs 0 (nss.take i)).map V.int++[.int ((nss.take i).flatten.length:Int)]))):=.set hBc
  have fB:=@q14 Gc Bg (.lst ((bgs 0 (nss.take i)).map V.int++[.int ((nss.take i).flatten.length:Int)]))
  have Bd:=Bc.set (zs:=(bgs 0 (nss.take i)).map V.int++[.int ((nss.take i).flatten.length:Int)]) nBp hBc
  generalize upd Gc Bg (.lst ((bgs 0 (nss.take i)).map V.int++[.int ((nss.take i).flatten.length:Int)]))=Gd at *
  have tbd:TKeep Gb Gd:=λx ys=>⟨λe=>(tB _ _).1 ((tP _ _).1 e),λo e=>(tB _ _).2 o ((tP _ _).2 o e)⟩
  have hPd:=kB _ _ nPB fP
  refine⟨_,rfl,_,_,SqL.of hPd,q562 _ _,_,_,SqT.of ((tbd _ _).1 fb),rfl,L,hL,T,v,low,(nss.take i).flatten,ns,rfl,(hTG.same sab).tk tbd,(hv.same sb).tk tbd,{},{},λu Ge se hu=>?_⟩
  have kl:∀{x:Addr}{zs:List V},x≠Pc->x≠Bg->G x=some (.lst zs)->Ge x=some (.lst zs):=λh1 h2 e=>se _ _ (kB _ _ h2 (kP _ _ h1 (sab _ _ e)))
  refine⟨rr,r,_,_,rfl,rfl,kl n2 n3 hrr,kl m3 m4 hr,sz (by rw[ZJ,ZJ];lia),λr6 hr6=>?_⟩
  have B6:=Bd.same se
  obtain⟨Gf,ef,sf,ff⟩:=nwH hr6 (.lst ((nss.take i).flatten.map V.int++ns.map V.int))
  rw[ef]
  have sef:=se.trans sf
  exists u,r6,xs++[.ref t],some (.ref r),rfl,B6.same sf,sf _ _ (kl nRP nRB hRG),L2.Paired.mapP rwG λ_ _ z=>z.up λa xs n e=>⟨sf _ _ (kl (λz=>n (by simp[z])) (λz=>n (by simp[z])) e),n⟩,by rw[eF];exact hu.same sf,by rw[eF,WK];exact ff,B6.p.fresh hr6,(λz=>by rw[z,se _ _ hPd]at hr6;cases hr6),(λz=>by rw[z,se _ _ fB]at hr6;cases hr6),sef _ _ hPd,?_
  ·rw[eT,show pcs low (nss.take i++[ns])=pcs low (nss.take i)++[(offs low ns,0,ns.length)] by unfold pcs;rw[WK];rfl]
   have tf:TKeep Gb Gf:=λx ys=>⟨λe=>sef _ _ ((tbd _ _).1 e),λo e=>sef _ _ ((tbd _ _).2 o e)⟩
   exact((gG.same sab).tk tf).snoc ⟨t,v,rfl,(tf _ _).1 fb,by rw[q131]at hv;exact(hv.same sb).tk tf⟩
  ·rw[eT,q614,WK,Int.zero_add]
   exact sef _ _ fB
 rintro σ G ⟨T,rr,xs,v9,rfl,BG,hRG,rwG,hTG,hrr,n1,n2,n3,hP,gG,hB⟩
 have hyl:ys.length=nss.length:=Paired.length rwG
 rw[hyl,YQ]at hTG hrr gG hB
 have hww:∀ ns∈nss,Wths low L ns:=λns hn=>by
  obtain⟨j,hj⟩:=getElem?_of_mem hn
  have hjl:=(eA hj).1
  obtain⟨ns',e,r,_,_,_,h⟩:=q68 rwG (i:=j) (ZM (W55 hjl hyl))
  rw[hj]at e
  cases e
  exact h
 have hw:Wths low L nss.flatten:=λx hx=>by
  obtain⟨ns,h1,h2⟩:=List.mem_flatten.mp hx
  exact hww ns h1 x h2
 have hpg:=pcs_good hww l300
 have hpw:=pcs_W low nss
 have hpl:=pcs_pls low nss
 have hpn:(pcs low nss).length<=4:=by unfold pcs;rw[ZJ];exact l4
 generalize nss.flatten=ws at *
 generalize pcs low nss=pg at *
 generalize bgs 0 nss=bl at *
 clear rwG hww hRG rw4 rw1 hR1 B1 f2 f3' f4 s2 s3 s4 s14 e2 e3 e4 hr0 hPc hBg
 have hml:(ws.map V.int).length=ws.length:=ZJ _
 have dp:∀ xs:List Int,(grow low L xs).deep<=60:=λxs=>ZO (q330 L low xs) {}
 refine⟨b,rr,low,L,ws,rfl,SqT.of BG.b,hL,SqL.of hrr,(W69 hml l300),hw,λGa va sa hva=>⟨_,hTG.same sa,hva,dp _,ifB rfl ?_⟩⟩
 refine⟨rr,_,rfl,.inl (SqL.of (sa _ _ hrr)),pen,_,_,rfl,(BG.same sa).p,{},by rw[hml];exact W198 hml l300,by rw[hml];exact W202 hml l300,λsv Gb kb Pb v0 v1=>?_⟩
 rw[hml]at v1
 obtain⟨st,rfl⟩:=Int.eq_ofNat_of_zero_le v0
 have hrb:=kb _ _ n1 (sa _ _ hrr)
 refine⟨rr,_,rfl,.inl (SqL.of hrb),pen,_,_,rfl,Pb,{},by rw[hml];lia,by rw[hml];lia,λdv Gc kc Pc' d0 d1=>?_⟩
 rw[hml]at d1
 obtain⟨en,hen⟩:∃ en:Nat,(st:Int)+dv=(en:Int):=⟨st+dv.toNat,{}⟩
 refine mI_sum hen ?_
 have h12:st<=en:={}
 have h23:en<=ws.length:={}
 have Bc:Bs K pen b low L 1002 Gc:=(((BG.same sa).pn kb Pb).pn kc Pc').le {}
 have kac:Keep pen G Gc:=(Keep.same sa).trans (kb.trans kc)
 obtain⟨py,hpy⟩:=BG.p.at
 have tac:TKeep G Gc:=.keep kac hpy
 have hTc:=hTG.tk tac
 have hrc:=kac _ _ n1 hrr
 have hPcc:=kac _ _ nPp hP
 have gc:=gG.tk tac
 have hBc:=kac _ _ nBp hB
 clear BG hTG hrr hP gG hB kac tac hpy kb kc Pb Pc' hrb sa hva v0 v1 d0 d1
 refine⟨szb rfl,λca hca=>?_⟩
 obtain⟨Gd,ed,sd,fd'⟩:=nwH hca (.tup [T,.int (st:Int),.int (en:Int)])
 rw[ed]
 refine⟨L,hL,ca,T,st,en,low,ws,rfl,fd',hTc.same sd,hw,h12,h23,l300,λu Ge se hu=>?_⟩
 have sde:=sd.trans se
 have hsl:(segI ws st en).length<=300:=by rw[q542 h23];lia
 have hsw:Wths low L (segI ws st en):=λx hx=>hw x (mem_of_mem_take (mem_of_mem_drop hx))
 refine⟨_,rfl,_,rfl,rr,_,rfl,SqL.of (sde _ _ hrc),λl5 hl5=>?_⟩
 rw[q438 _ _ _ h12 h23]
 obtain⟨Gf,ef,sf,ff⟩:=nwH hl5 (.lst ((segI ws st en).map V.int))
 unfold segI at ef
 rw[ef]
 have Bf:=((Bc.same sde).same sf)
 refine⟨b,l5,low,L,segI ws st en,rfl,SqT.of Bf.b,hL,SqL.of ff,(W96 hsl),hsw,λGg vg sg hvg=>⟨_,(hu.same sf).same sg,hvg,dp _,ifB rfl ?_⟩⟩
 have scg:=sde.trans (sf.trans sg)
 have Bg1:=Bf.same sg
 have hTg:=hTc.same scg
 refine⟨pen,T,_,L,st,en,offs low ws,rfl,Bg1.p,{},by rw[<- q131];exact hTg,h12,{},λD xs' ps Gh kh Ph hD nD gD hpp h0 hz hbp l2 l8=>?_⟩
 have nDp:D≠pen:=Bg1.p.fresh nD
 obtain⟨py,hpy⟩:=Bg1.p.at
 have tgh:TKeep Gg Gh:=.keep kh hpy
 have Bh:=Bg1.pn kh Ph
 have hTh:=hTg.tk tgh
 have huh:=(hu.same (sf.trans sg)).tk tgh
 have kl:∀{x:Addr}{zs:List V},x≠pen->Gc x=some (.lst zs)->Gh x=some (.lst zs):=λn e=>kh _ _ n (scg _ _ e)
 have hrh:=kl n1 hrc
 have hPh:=kl nPp hPcc
 have hBh:=kl nBp hBc
 have gh:=(gc.same scg).tk tgh
 have hol:(offs low ws).length=ws.length:=ZJ _
 have hbo:∀ p∈ps,p<=(offs low ws).length:=λp hp=>by have:=hbp p hp;lia
 have hDW:Wh (cutG (offs low ws) ps (ps.length-1))=offs low (segI ws st en):=by
  rw[q780 hpp hbo _ {},h0,hz]
  exact(q543 _ ws st en).symm
 have hDg:=q782 (q280 hw) (by rw[ZJ];exact l300) hpp hbo (show ps.length-1<ps.length by lia)
 have hDp:=cutG_pls (k:=8) hpp hbo (show ps.length-1<ps.length by lia) h0 {}
 have hDn:(cutG (offs low ws) ps (ps.length-1)).length<=100:=by unfold cutG;rw[ZJ,length_range];lia
 generalize cutG (offs low ws) ps (ps.length-1)=dg at *
 clear Bc Bf Bg1 hTc hTg hrc hPcc gc hBc hu hvg hca ed fd' sd se sde hl5 ef sf ff sg scg kh Ph hpy tgh nD hpp h0 hz hbp l2 l8 hbo
 refine⟨szb rfl,λt1 ht1=>?_⟩
 obtain⟨I1,e1,s1,f1⟩:=nwH ht1 (.tup [T,.int (st:Int),.int (en:Int)])
 rw[e1]
 refine⟨szb rfl,λl1 hl1=>?_⟩
 obtain⟨I2,e2,s2,f2⟩:=nwH hl1 (.lst [.ref t1])
 rw[e2]
 refine⟨szb rfl,λp1 hp1=>?_⟩
 obtain⟨I3,e3,s3,f3'⟩:=nwH hp1 (.lst [.int (0-(st:Int))])
 rw[e3]
 refine⟨szb rfl,λq1 hq1=>?_⟩
 obtain⟨I4,e4,s4,f4⟩:=nwH hq1 (.tup [.ref l1,.ref p1])
 rw[e4]
 refine⟨szb rfl,λx2 hx2=>?_⟩
 obtain⟨I5,e5,s5,f5⟩:=nwH hx2 (.lst [.int (0-(st:Int))])
 rw[e5]
 refine⟨x2,8,_,rfl,rfl,f5,∅,∅,sz (by exact(by decide:1*8<=1000)),λp2 hp2=>?_⟩
 obtain⟨I6,e6,s6,f6⟩:=nwH hp2 (.lst (List.replicate (8:Int).toNat [V.int (0-(st:Int))]).flatten)
 rw[e6]
 have f6':I6 p2=some (.lst ((List.replicate 8 (0-(st:Int))).map V.int)):=f6
 refine⟨szb rfl,λq2 hq2=>?_⟩
 obtain⟨I7,e7,s7,f7⟩:=nwH hq2 (.tup [.ref D,.ref p2])
 rw[e7]
 refine⟨szb rfl,λt3 ht3=>?_⟩
 obtain⟨I8,e8,s8,f8⟩:=nwH ht3 (.tup [u,.int 0,.int ((en:Int)-(st:Int))])
 rw[e8]
 refine⟨szb rfl,λl3 hl3=>?_⟩
 obtain⟨I9,e9,s9,f9⟩:=nwH hl3 (.lst [.ref t3])
 rw[e9]
 refine⟨szb rfl,λp3 hp3=>?_⟩
 obtain⟨Ia,ea,sa,fa⟩:=nwH hp3 (.lst [.int 0])
 rw[ea]
 refine⟨szb rfl,λq3 hq3=>?_⟩
 obtain⟨Ib,eb,sb,fb⟩:=nwH hq3 (.tup [.ref l3,.ref p3])
 rw[eb]
 refine⟨szb rfl,λgg hgg=>?_⟩
 obtain⟨Ic,ec,sc1,fc⟩:=nwH hgg (.lst [.ref q1,.ref q2,.ref q3])
 rw[ec]
 have z1:=s1.trans s2
 have z3:=z1.trans s3
 have z6:=z3.trans (s4.trans (s5.trans s6))
 have z8:=z6.trans (s7.trans s8)
 have za:=z8.trans (s9.trans sa)
 have zc:=za.trans (sb.trans sc1)
 have y8:=(s9.trans sa).trans (sb.trans sc1)
 have y6:=(s7.trans s8).trans y8
 have y3:=(s4.trans (s5.trans s6)).trans y6
 have np:∀{Ix:Hp}{x:Addr},Same Gh Ix->Ix x=none->x≠pen:=λS h=>(Bh.p.same S).fresh h
 refine⟨_,rfl,_,rfl,rr,_,rfl,SqL.of (zc _ _ hrh),λr1 hr1=>?_⟩
 rw[q438 _ _ _ h12 h23]
 obtain⟨Id,ed,sd,fd'⟩:=nwH hr1 (.lst ((segI ws st en).map V.int))
 unfold segI at ed
 rw[ed]
 refine⟨_,rfl,_,rfl,rr,_,rfl,SqL.of (sd _ _ (zc _ _ hrh)),λr2 hr2=>?_⟩
 rw[q438 _ _ _ h12 h23]
 obtain⟨Ie,ee,se,fe⟩:=nwH hr2 (.lst ((segI ws st en).map V.int))
 unfold segI at ee
 rw[ee]
 have sce:=sd.trans se
 have ze:=zc.trans sce
 have Be:=Bh.same ze
 refine⟨pen,b,r2,_,low,L,segI ws st en,rfl,Be.p,{},Be.b,hL,fe,np (zc.trans sd) hr2,hsl,λaa nums k part If kf Pf haq l2 l3' hk pp1 pp6=>?_⟩
 obtain⟨py,hpy⟩:=Be.p.at
 have Bf:=Be.pn kf Pf
 have tf:TKeep Ie If:=.keep kf hpy
 have hsf:((segI ws st en).length:Int)=(en:Int)-(st:Int):=by rw[q542 h23];lia
 have few:∀{gs:List My.G3},Wh gs=offs low (segI ws st en)->(Wh gs).length<=900:=λe=>by rw[e,ZJ];lia
 have hTf:=(hTh.same ze).tk tf
 have huf:=(huh.same ze).tk tf
 refine⟨b,gg,r1,aa,[.ref q1,.ref q2,.ref q3],low,L,segI ws st en,nums,k,part,rfl,kf _ _ (np (za.trans sb) hgg) (sce _ _ fc),Nat.succ_pos _,λzz hzz=>?_,kf _ _ (np zc hr1) (se _ _ fd'),hsl,hsw,haq,(W150 l2 l3'),l3',hk,pp1,pp6,λIg kg tg=>⟨_,rfl,iteF ?_⟩⟩
 ·simp only[mem_cons,not_mem_nil,or_false]at hzz
  rcases hzz with rfl | rfl | rfl
  ·have e:=q448 (low:=low) (ws:=ws) (st:=st) (en:=en)
   exact⟨q1,l1,p1,_,_,[0-(st:Int)],rfl,(tf _ _).1 ((((s5.trans s6).trans y6).trans sce) _ _ f4),⟨Bf.b,hL,kf _ _ (np s1 hl1) (((s3.trans y3).trans sce) _ _ f2),gat1 ((tf _ _).1 ((((s2.trans s3).trans y3).trans sce) _ _ f1)) (by rw[<- q131];exact hTf),good1 hw l300 h12 h23,by exact(by decide:1<=100),few e,Bf.t⟩,e,kf _ _ (np z1 hp1) ((y3.trans sce) _ _ f3'),q553⟩
  ·exact⟨q2,D,p2,xs',dg,_,rfl,(tf _ _).1 (((s8.trans y8).trans sce) _ _ f7),⟨Bf.b,hL,kf _ _ nDp (ze _ _ hD),(gD.same ze).tk tf,hDg,hDn,few hDW,Bf.t⟩,hDW,kf _ _ (np (z3.trans (s4.trans s5)) hp2) ((y6.trans sce) _ _ f6'),hDp⟩
  ·have e:Wh [(offs low (segI ws st en),0,(segI ws st en).length)]=offs low (segI ws st en):=by
    rw[q448]
    show offs low (((segI ws st en).take _).drop 0)=_
    rw[drop_zero,WU (ZG _)]
   refine⟨q3,l3,p3,_,_,[0],rfl,(tf _ _).1 ((sc1.trans sce) _ _ fb),⟨Bf.b,hL,kf _ _ (np z8 hl3) (((sa.trans (sb.trans sc1)).trans sce) _ _ f9),gat1 (st:=0) (en:=(segI ws st en).length) ((tf _ _).1 ((y8.trans sce) _ _ (by rw[hsf];exact f8))) (by rw[<- q131];exact huf),good1 hsw hsl (WA _) (ZG _),by exact(by decide:1<=100),few e,Bf.t⟩,e,kf _ _ (np (z8.trans s9) hp3) (((sb.trans sc1).trans sce) _ _ fa),q553 (st:=0)⟩
 have Bg1:=Bf.kp kg tg
 have eg:∀{x:Addr}{zs:List V},x≠pen->Gh x=some (.lst zs)->Ig x=some (.lst zs):=λn e=>kg.l (kf _ _ n (ze _ _ e))
 have hrg:=eg n1 hrh
 have hPg:=eg nPp hPh
 have hBg':=eg nBp hBh
 have gg1:=((gh.same ze).tk tf).tk kg.tk
 have hTg:=hTf.tk kg.tk
 clear eg kg tg Bf Be hTf huf few hsf tf hpy kf Pf haq l2 l3' hk pp1 pp6 ze sce ee fe hr2 ed fd' hr1 np y3 y6 y8 z1 z3 z6 z8 za zc ec fc hgg fb fa f9 f8 f7 f6' f6 f5 f4 f3' f2 f1 hp1 hp2 hp3 hq1 hq2 hq3 hl1 hl3 ht1 ht3 hx2 hDW hDg hDp hDn gD hD huh hTh hrh hPh hBh gh Bh
 refine⟨pen,b,rr,_,low,L,ws,rfl,Bg1.p,{},Bg1.b,hL,hrg,n1,l300,λaa nums k part Ih kh Ph haq l2 l3 hk pp1 pp6=>?_⟩
 obtain⟨py,hpy⟩:=Bg1.p.at
 have Bh:=Bg1.pn kh Ph
 have th:TKeep Ig Ih:=.keep kh hpy
 have hTh:=hTg.tk th
 have hrh:=kh _ _ n1 hrg
 have hPh:=kh _ _ nPp hPg
 have hBh:=kh _ _ nBp hBg'
 have gh:=gg1.tk th
 refine⟨rr,_,rfl,.inl (SqL.of hrh),szb rfl,λt1 ht1=>?_⟩
 rw[hml]
 obtain⟨I1,e1,s1,f1⟩:=nwH ht1 (.tup [T,.int 0,.int (ws.length:Int)])
 rw[e1]
 refine⟨szb rfl,λl1 hl1=>?_⟩
 obtain⟨I2,e2,s2,f2⟩:=nwH hl1 (.lst [.ref t1])
 rw[e2]
 refine⟨szb rfl,λp1 hp1=>?_⟩
 obtain⟨I3,e3,s3,f3'⟩:=nwH hp1 (.lst [.int 0])
 rw[e3]
 refine⟨szb rfl,λq1 hq1=>?_⟩
 obtain⟨I4,e4,s4,f4⟩:=nwH hq1 (.tup [.ref l1,.ref p1])
 rw[e4]
 refine⟨szb rfl,λq2 hq2=>?_⟩
 obtain⟨I5,e5,s5,f5⟩:=nwH hq2 (.tup [.ref Pc,.ref Bg])
 rw[e5]
 refine⟨szb rfl,λgg hgg=>?_⟩
 obtain⟨I6,e6,s6,f6⟩:=nwH hgg (.lst [.ref q1,.ref q2])
 rw[e6]
 have y4:=s5.trans s6
 have y3:=s4.trans y4
 have z6:=(s1.trans (s2.trans s3)).trans y3
 have B6:=Bh.same z6
 refine⟨b,gg,rr,aa,[.ref q1,.ref q2],low,L,ws,nums,k,part,rfl,f6,Nat.succ_pos _,λzz hzz=>?_,z6 _ _ hrh,l300,hw,haq.kp (.of z6),(W150 l2 l3),l3,hk,pp1,pp6,λI7 _ _=>q I7⟩
 simp only[mem_cons,not_mem_nil,or_false]at hzz
 rcases hzz with rfl | rfl
 ·have e:Wh [(offs low ws,0,ws.length)]=offs low ws:=by
   rw[q448]
   show offs low ((ws.take _).drop 0)=_
   rw[drop_zero,WU (ZG _)]
  exact⟨q1,l1,p1,_,_,[0],rfl,y4 _ _ f4,⟨B6.b,hL,(s3.trans y3) _ _ f2,gat1 (st:=0) (en:=ws.length) (((s2.trans s3).trans y3) _ _ f1) (by rw[<- q131];exact hTh.same z6),good1 hw l300 (WA _) (ZG _),by exact(by decide:1<=100),by rw[e,ZJ];lia,B6.t⟩,e,y3 _ _ f3',q553 (st:=0)⟩
 ·exact⟨q2,Pc,Bg,xs,pg,bl,rfl,s6 _ _ f5,⟨B6.b,hL,z6 _ _ hPh,gh.same z6,hpg,{},by rw[hpw,ZJ];lia,B6.t⟩,hpw,z6 _ _ hBh,hpl⟩
end My
open PySem PySem.W PyProof.Rows
set_option maxRecDepth 100000 in
set_option maxHeartbeats 0 in
theorem PySem.Challenge.cw_manyleast_k64_whole_pieces_answer_as_the_holds : PySem.Challenge.rw_manyleast_k64_whole_pieces_answer_as_the.Holds := by
 refine MyQ.hd ?_
 k_fill
 refine L2.walkT (k:=My.k_law) (l:=PySem.Challenge.rw_manyleast_k64_whole_pieces_answer_as_the) [(381,377),(395,391),(388,384),(374,370)] ⟨rfl,∅,∅⟩ rfl rfl (λw h Y=>PySem.W.km_in_of Y) (λw h Y=>PySem.W.km_tabs_of Y) ?F
 case F=>
  intro w mg fa h KX G hmg
  exists List.forall_mem_cons.mpr ⟨⟨by kernel_rfl,by kernel_rfl⟩,List.forall_mem_cons.mpr ⟨⟨by kernel_rfl,by kernel_rfl⟩,List.forall_mem_cons.mpr ⟨⟨by kernel_rfl,by kernel_rfl⟩,List.forall_mem_cons.mpr ⟨⟨by kernel_rfl,by kernel_rfl⟩,λ_ h=>nomatch h⟩⟩⟩⟩
  have d_law:L2.Def (L2.KOf KX) mg "law" My.s_law ["_law_script"]:=by
   dsimp only [L2.KOf]
   refine' L2.q791 KX G ?a ?l ?c ?k ?b
   (case a=>k_is);(case l=>k_is);(case c=>k_is);(case k=>k_is)
   (case b=>exact λ_ _ _ _ _ _ us hl=>match us,hl with | [_],_=>rfl)
  have z:∀ base:Heap,L2.BMain mg base->My.Bz (L2.KOf KX) mg base:=by
   dsimp only [L2.KOf]
   intro base bm
   refine' ⟨YD KX G ?z0,YD KX G ?z1,YD KX G ?z2,YD KX G ?z3,YD KX G ?z4,YD KX G ?z5,YD KX G ?z6,YD KX G ?z7,YD KX G ?z8,YD KX G ?z9,YD KX G ?z10,YD KX G ?z11,YD KX G ?z12,YD KX G ?z13,L2.q791 KX G ?a0 ?l0 ?c0 ?k0 (λ_ _ _ _ _ _=>L2.mt1 λ_=>rfl),L2.q791 KX G ?a1 ?l1 ?c1 ?k1 (λ_ _ _ _ _ _=>L2.mt1 λ_=>rfl),L2.q791 KX G ?a2 ?l2 ?c2 ?k2 (λ_ _ _ _ _ _=>L2.mt1 λ_=>rfl),L2.q791 KX G ?a3 ?l3 ?c3 ?k3 (λ_ _ _ _ _ _=>L2.mt2 λ_ _=>rfl),L2.q791 KX G ?a4 ?l4 ?c4 ?k4 (λ_ _ _ _ _ _=>L2.mt2 λ_ _=>rfl),L2.q791 KX G ?a5 ?l5 ?c5 ?k5 (λ_ _ _ _ _ _=>L2.mt2 λ_ _=>rfl),L2.q791 KX G ?a6 ?l6 ?c6 ?k6 (λ_ _ _ _ _ _=>L2.mt3 λ_ _ _=>rfl),L2.q791 KX G ?a7 ?l7 ?c7 ?k7 (λ_ _ _ _ _ _=>L2.mt3 λ_ _ _=>rfl),L2.q791 KX G ?a8 ?l8 ?c8 ?k8 (λ_ _ _ _ _ _=>L2.mt2 λ_ _=>rfl),L2.q791 KX G ?a9 ?l9 ?c9 ?k9 (λ_ _ _ _ _ _=>L2.mt3 λ_ _ _=>rfl),L2.q791 KX G ?a10 ?l10 ?c10 ?k10 (λ_ _ _ _ _ _=>L2.mt2 λ_ _=>rfl),L2.q791 KX G ?a11 ?l11 ?c11 ?k11 (λ_ _ _ _ _ _=>L2.mt2 λ_ _=>rfl),L2.q791 KX G ?a12 ?l12 ?c12 ?k12 (λ_ _ _ _ _ _=>L2.mt1 λ_=>rfl),L2.q791 KX G ?a13 ?l13 ?c13 ?k13 (λ_ _ _ _ _ _=>L2.mt1 λ_=>rfl),L2.q791 KX G ?a14 ?l14 ?c14 ?k14 (λ_ _ _ _ _ _=>L2.mt1 λ_=>rfl),L2.q791 KX G ?a15 ?l15 ?c15 ?k15 (λ_ _ _ _ _ _=>L2.mt2 λ_ _=>rfl),L2.q791 KX G ?a16 ?l16 ?c16 ?k16 (λ_ _ _ _ _ _=>L2.mt2 λ_ _=>rfl),L2.q791 KX G ?a17 ?l17 ?c17 ?k17 (λ_ _ _ _ _ _=>L2.mt3 λ_ _ _=>rfl),L2.q791 KX G ?a18 ?l18 ?c18 ?k18 (λ_ _ _ _ _ _=>L2.mt1 λ_=>rfl),L2.q791 KX G ?a19 ?l19 ?c19 ?k19 (λ_ _ _ _ _ _=>L2.mt2 λ_ _=>rfl),L2.q791 KX G ?a20 ?l20 ?c20 ?k20 (λ_ _ _ _ _ _=>L2.mt3 λ_ _ _=>rfl),L2.q791 KX G ?a21 ?l21 ?c21 ?k21 (λ_ _ _ _ _ _=>L2.mt3 λ_ _ _=>rfl),L2.q791 KX G ?a22 ?l22 ?c22 ?k22 (λ_ _ _ _ _ _=>L2.mt3 λ_ _ _=>rfl),L2.q791 KX G ?a23 ?l23 ?c23 ?k23 (λ_ _ _ _ _ _=>L2.mt2 λ_ _=>rfl),L2.q791 KX G ?a24 ?l24 ?c24 ?k24 (λ_ _ _ _ _ _=>L2.mt3 λ_ _ _=>rfl),L2.q791 KX G ?a25 ?l25 ?c25 ?k25 (λ_ _ _ _ _ _=>L2.mt4 λ_ _ _ _=>rfl),L2.q791 KX G ?a26 ?l26 ?c26 ?k26 (λ_ _ _ _ _ _=>L2.mt2 λ_ _=>rfl),L2.q791 KX G ?a27 ?l27 ?c27 ?k27 (λ_ _ _ _ _ _=>L2.mt2 λ_ _=>rfl),L2.q791 KX G ?a28 ?l28 ?c28 ?k28 (λ_ _ _ _ _ _=>L2.mt3 λ_ _ _=>rfl),L2.q791 KX G ?a29 ?l29 ?c29 ?k29 (λ_ _ _ _ _ _=>L2.mt5 λ_ _ _ _ _=>rfl),L2.q791 KX G ?a30 ?l30 ?c30 ?k30 (λ_ _ _ _ _ _=>L2.mt3 λ_ _ _=>rfl),L2.q791 KX G ?a31 ?l31 ?c31 ?k31 (λ_ _ _ _ _ _=>L2.mt3 λ_ _ _=>rfl),L2.q791 KX G ?a32 ?l32 ?c32 ?k32 (λ_ _ _ _ _ _=>L2.mt1 λ_=>rfl),L2.q791 KX G ?a33 ?l33 ?c33 ?k33 (λ_ _ _ _ _ _=>L2.mt1 λ_=>rfl),L2.q791 KX G ?a34 ?l34 ?c34 ?k34 (λ_ _ _ _ _ _=>L2.mt2 λ_ _=>rfl),L2.q791 KX G ?a35 ?l35 ?c35 ?k35 (λ_ _ _ _ _ _=>L2.mt3 λ_ _ _=>rfl),L2.q791 KX G ?a36 ?l36 ?c36 ?k36 (λ_ _ _ _ _ _=>L2.mt2 λ_ _=>rfl),L2.q791 KX G ?a37 ?l37 ?c37 ?k37 (λ_ _ _ _ _ _=>L2.mt5 λ_ _ _ _ _=>rfl),L2.q791 KX G ?a38 ?l38 ?c38 ?k38 (λ_ _ _ _ _ _=>L2.mt5 λ_ _ _ _ _=>rfl),L2.q791 KX G ?a39 ?l39 ?c39 ?k39 (λ_ _ _ _ _ _=>L2.mt5 λ_ _ _ _ _=>rfl),L2.q791 KX G ?a40 ?l40 ?c40 ?k40 (λ_ _ _ _ _ _=>L2.mt5 λ_ _ _ _ _=>rfl),L2.q791 KX G ?a41 ?l41 ?c41 ?k41 (λ_ _ _ _ _ _=>L2.mt3 λ_ _ _=>rfl),L2.q791 KX G ?a42 ?l42 ?c42 ?k42 (λ_ _ _ _ _ _=>L2.mt3 λ_ _ _=>rfl),L2.q791 KX G ?a43 ?l43 ?c43 ?k43 (λ_ _ _ _ _ _=>L2.mt3 λ_ _ _=>rfl),L2.q791 KX G ?a44 ?l44 ?c44 ?k44 (λ_ _ _ _ _ _=>L2.mt3 λ_ _ _=>rfl),L2.q791 KX G ?a45 ?l45 ?c45 ?k45 (λ_ _ _ _ _ _=>L2.mt4 λ_ _ _ _=>rfl),L2.q790 KX G ?a46 ?l46 ?c46 ?k46 ?h46 (λ_ _ _ _ _ _=>L2.mt3 λ_ _ _=>rfl),L2.q790 KX G ?a47 ?l47 ?c47 ?k47 ?h47 (λ_ _ _ _ _ _=>L2.mt3 λ_ _ _=>rfl),L2.q790 KX G ?a48 ?l48 ?c48 ?k48 ?h48 (λ_ _ _ _ _ _=>L2.mt3 λ_ _ _=>rfl),L2.q790 KX G ?a49 ?l49 ?c49 ?k49 ?h49 (λ_ _ _ _ _ _=>L2.mt3 λ_ _ _=>rfl),L2.q791 KX G ?a50 ?l50 ?c50 ?k50 (λ_ _ _ _ _ _=>L2.mt3 λ_ _ _=>rfl),L2.q791 KX G ?a51 ?l51 ?c51 ?k51 (λ_ _ _ _ _ _=>L2.mt4 λ_ _ _ _=>rfl),L2.q791 KX G ?a52 ?l52 ?c52 ?k52 (λ_ _ _ _ _ _=>L2.mt2 λ_ _=>rfl),L2.q791 KX G ?a53 ?l53 ?c53 ?k53 (λ_ _ _ _ _ _=>L2.mt2 λ_ _=>rfl),L2.q791 KX G ?a54 ?l54 ?c54 ?k54 (λ_ _ _ _ _ _=>L2.mt1 λ_=>rfl),L2.q791 KX G ?a55 ?l55 ?c55 ?k55 (λ_ _ _ _ _ _=>L2.mt3 λ_ _ _=>rfl),L2.q791 KX G ?a56 ?l56 ?c56 ?k56 (λ_ _ _ _ _ _=>L2.mt3 λ_ _ _=>rfl),L2.q791 KX G ?a57 ?l57 ?c57 ?k57 (λ_ _ _ _ _ _=>L2.mt3 λ_ _ _=>rfl),L2.q791 KX G ?a58 ?l58 ?c58 ?k58 (λ_ _ _ _ _ _=>L2.mt2 λ_ _=>rfl),L2.q791 KX G ?a59 ?l59 ?c59 ?k59 (λ_ _ _ _ _ _=>L2.mt4 λ_ _ _ _=>rfl),L2.q791 KX G ?a60 ?l60 ?c60 ?k60 (λ_ _ _ _ _ _=>L2.mt5 λ_ _ _ _ _=>rfl),L2.q791 KX G ?a61 ?l61 ?c61 ?k61 (λ_ _ _ _ _ _=>L2.mt4 λ_ _ _ _=>rfl),L2.q791 KX G ?a62 ?l62 ?c62 ?k62 (λ_ _ _ _ _ _=>L2.mt4 λ_ _ _ _=>rfl),bm⟩
   (case z0=>k_is)
   (case z1=>k_is)
   (case z2=>k_is)
   (case z3=>k_is)
   (case z4=>k_is)
   (case z5=>k_is)
   (case z6=>k_is)
   (case z7=>k_is)
   (case z8=>k_is)
   (case z9=>k_is)
   (case z10=>k_is)
   (case z11=>k_is)
   (case z12=>k_is)
   (case z13=>k_is)
   (case a0 | l0 | c0 | k0=>k_is)
   (case a1 | l1 | c1 | k1=>k_is)
   (case a2 | l2 | c2 | k2=>k_is)
   (case a3 | l3 | c3 | k3=>k_is)
   (case a4 | l4 | c4 | k4=>k_is)
   (case a5 | l5 | c5 | k5=>k_is)
   (case a6 | l6 | c6 | k6=>k_is)
   (case a7 | l7 | c7 | k7=>k_is)
   (case a8 | l8 | c8 | k8=>k_is)
   (case a9 | l9 | c9 | k9=>k_is)
   (case a10 | l10 | c10 | k10=>k_is)
   (case a11 | l11 | c11 | k11=>k_is)
   (case a12 | l12 | c12 | k12=>k_is)
   (case a13 | l13 | c13 | k13=>k_is)
   (case a14 | l14 | c14 | k14=>k_is)
   (case a15 | l15 | c15 | k15=>k_is)
   (case a16 | l16 | c16 | k16=>k_is)
   (case a17 | l17 | c17 | k17=>k_is)
   (case a18 | l18 | c18 | k18=>k_is)
   (case a19 | l19 | c19 | k19=>k_is)
   (case a20 | l20 | c20 | k20=>k_is)
   (case a21 | l21 | c21 | k21=>k_is)
   (case a22 | l22 | c22 | k22=>k_is)
   (case a23 | l23 | c23 | k23=>k_is)
   (case a24 | l24 | c24 | k24=>k_is)
   (case a25 | l25 | c25 | k25=>k_is)
   (case a26 | l26 | c26 | k26=>k_is)
   (case a27 | l27 | c27 | k27=>k_is)
   (case a28 | l28 | c28 | k28=>k_is)
   (case a29 | l29 | c29 | k29=>k_is)
   (case a30 | l30 | c30 | k30=>k_is)
   (case a31 | l31 | c31 | k31=>k_is)
   (case a32 | l32 | c32 | k32=>k_is)
   (case a33 | l33 | c33 | k33=>k_is)
   (case a34 | l34 | c34 | k34=>k_is)
   (case a35 | l35 | c35 | k35=>k_is)
   (case a36 | l36 | c36 | k36=>k_is)
   (case a37 | l37 | c37 | k37=>k_is)
   (case a38 | l38 | c38 | k38=>k_is)
   (case a39 | l39 | c39 | k39=>k_is)
   (case a40 | l40 | c40 | k40=>k_is)
   (case a41 | l41 | c41 | k41=>k_is)
   (case a42 | l42 | c42 | k42=>k_is)
   (case a43 | l43 | c43 | k43=>k_is)
   (case a44 | l44 | c44 | k44=>k_is)
   (case a45 | l45 | c45 | k45=>k_is)
   (case a46 | l46 | c46 | k46=>k_is)
   (case h46=>kernel_rfl)
   (case a47 | l47 | c47 | k47=>k_is)
   (case h47=>kernel_rfl)
   (case a48 | l48 | c48 | k48=>k_is)
   (case h48=>kernel_rfl)
   (case a49 | l49 | c49 | k49=>k_is)
   (case h49=>kernel_rfl)
   (case a50 | l50 | c50 | k50=>k_is)
   (case a51 | l51 | c51 | k51=>k_is)
   (case a52 | l52 | c52 | k52=>k_is)
   (case a53 | l53 | c53 | k53=>k_is)
   (case a54 | l54 | c54 | k54=>k_is)
   (case a55 | l55 | c55 | k55=>k_is)
   (case a56 | l56 | c56 | k56=>k_is)
   (case a57 | l57 | c57 | k57=>k_is)
   (case a58 | l58 | c58 | k58=>k_is)
   (case a59 | l59 | c59 | k59=>k_is)
   (case a60 | l60 | c60 | k60=>k_is)
   (case a61 | l61 | c61 | k61=>k_is)
   (case a62 | l62 | c62 | k62=>k_is)
  exact L2.law_mkT d_law (λbase f fd bm hf=>My.ok_law (base:=base) (z base bm) f fd hf) hmg
#print axioms PySem.Challenge.cw_manyleast_k64_whole_pieces_answer_as_the_holds
