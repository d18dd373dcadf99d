import PyProof.Rows.All
import Wide.All
import OpenK.AllK
import Wide.FinOn
import Lean
import PyProof.EqAt
import PyProof.EqKinds
import PyProof.TupleCall
import KE.KTryMore
import KE.KRevSl
import KE.KSortTup
import KE.KSortKey
import PyProof.Rows.SetFrom
import KE.KLam
import PySem.Challenge.RW_manyleast_k39_told_papers_split_no_more
set_option Elab.async false
set_option linter.all false
set_option maxRecDepth 100000
set_option maxHeartbeats 4000000
theorem fnt:false ≠ true:=Bool.noConfusion
theorem nf {p:Prop} (z:false=true):p:=absurd z fnt
theorem nr {α:Type} {a:α} {p:Prop} (z:¬ a=a):p:=absurd rfl z
theorem na {p q:Prop} [Decidable p] (h:p) (z:¬ decide p=true):q:=absurd (decide_eq_true h) z
theorem ny {p q:Prop} [Decidable p] (h:¬ p) (z:decide p=true):q:=absurd (of_decide_eq_true z) h
namespace PySem.W.Fast
def tw7674292497303504648:=()
def tw1600396345302884861:=()
def tw3318930204785009659:=()
def tw16436599242024385848:=()
def tw10319890603644969507:=()
def tw11616619567489218914:=()
def tw7761618985941245095:=()
def tw6719760885574732229:=()
def tw9520490972464475719:=()
def tw15768543512920034202:=()
def tw12237661793801359568:=()
def tw1127595517895521820:=()
def tw13926366519889075906:=()
def tw7704981422072863698:=()
def tw10674067043680467898:=()
def tw9534381381781387134:=()
def tw10928185103094478626:=()
def tw4841561948144831862:=()
def tw14252402509523110066:=()
def tw11381643979880962071:=()
def tw9921685727807755435:=()
def tw5190544784514004910:=()
def tw14277264028472327525:=()
def tw159289920359884642:=()
def tw14202530840768277934:=()
def tw17089686603996939070:=()
def tw7291853029264518361:=()
def tw5039868494357483390:=()
def tw7253826797589774341:=()
def tw12433517554221672914:=()
def tw9983086225577768694:=()
def tw5505084317474838028:=()
def tw910545026019457994:=()
def tw17228944672201460023:=()
def tw15594624424295923622:=()
def tw5468458459307871393:=()
def tw1777386019989471594:=()
def tw9416342967383407621:=()
def tw13135024844165081551:=()
def tw16051238747791021906:=()
def tw15611139203357756287:=()
def tw968435071728953553:=()
def tw10366555236597406866:=()
def tw17646501400497837024:=()
def tw7424575791281338296:=()
def tw15867290793973653153:=()
def tw17639626319198420003:=()
def tw10498113233240878775:=()
def tw14442223042088135046:=()
def tw506084722562613460:=()
def tw7177272980506268132:=()
def tw6236597913760386638:=()
def tw2205725972480034407:=()
def tw15881791569963224565:=()
def tw12434119785876565568:=()
def tw209642371284989679:=()
def tw6763809976899758113:=()
def tw18109425805076668427:=()
def tw7380429999671960748:=()
def tw6315762791205855314:=()
def tw1614709238326827297:=()
def tw6234561926702834750:=()
def tw5867000216294841507:=()
def tw16258720467840586289:=()
def tw2596521859697326508:=()
def tw16505413488842263530:=()
def tw14047800177945244427:=()
def tw9747054618995711974:=()
def tw2450977443962013231:=()
def tw11353218422293117351:=()
def tw15223281260093290593:=()
def tw13939773330377455102:=()
def tw12049851283146712894:=()
def tw11678864987126886492:=()
def tw17059314371650493446:=()
def tw11223099715779107903:=()
def tw13465981591990043105:=()
def tw10323370739272191379:=()
def tw82005722241962319:=()
def tw16673349864108250374:=()
def tw6868188204366076418:=()
def tw7128652625623124251:=()
def tw1700297796934975892:=()
def tw4660560187823731358:=()
def tw10808111340453683001:=()
def tw5862322206346474224:=()
def tw10388913030401298273:=()
def tw16022913297337016482:=()
def tw5720434049817069038:=()
def tw301006041343888519:=()
def tw907066436341549541:=()
def tw16365900404782665486:=()
def tw12763007645173374492:=()
def tw10227356312978387625:=()
def tw352399395496652838:=()
def tw7702323841530612758:=()
def tw14599282561262730818:=()
def tw2837303323077362757:=()
def tw13548661231697801652:=()
def tw9174920438979683178:=()
def tw8990302438939108447:=()
def tw16625391248734187838:=()
def tw1540536381027328519:=()
def tw7609725042078104943:=()
def tw9826760416998294385:=()
def tw15608268961489184015:=()
def tw16044531387507112602:=()
def tw14300603829703142177:=()
def tw17467034209300981503:=()
def tw13758753613599618272:=()
def tw14218047221777303228:=()
def tw5901072332566809543:=()
def tw12444951494669534325:=()
def tw12519438092222798882:=()
def tw4231021851328312660:=()
def tw17469137010576402495:=()
def tw12200791725232319682:=()
def tw13880838815026709575:=()
def tw3439565294848903228:=()
def tw1411659736387885424:=()
def tw1074976015671464928:=()
def tw3984046339844578591:=()
def tw1250413296360375949:=()
def tw12866980909932383786:=()
def tw11881327016776672749:=()
def tw16145912080854870213:=()
def tw2611979165867773506:=()
def tw15343367966234289610:=()
def tw16416620250725466010:=()
def tw6313624620280223950:=()
def tw4995266846689475898:=()
def tw8963895112646091591:=()
def tw10778668411813757015:=()
def tw5371592265134195514:=()
def tw13967932697832078207:=()
def tw16082103331657907264:=()
def tw3212421987359364732:=()
def tw9835778138184858799:=()
def tw17742567168078797843:=()
def tw4568213894205559244:=()
def tw652038853030509935:=()
def tw7702375251252654666:=()
def tw15422292940531736126:=()
def tw8892284414119267889:=()
def tw15641563723708387084:=()
def tw4217844877387783379:=()
def tw10698749417285407384:=()
def tw4624444373769603351:=()
def tw7906664609892364329:=()
def tw5329663305018748003:=()
def tw8388976849371627365:=()
def tw8468329586102179312:=()
def tw11245778613873665809:=()
def tw2116318280633981780:=()
def tw12112156511666972985:=()
def tw8170966065458385997:=()
def tw1331674321610722113:=()
def tw14532334090647904587:=()
def tw10135827340599014466:=()
def tw4117854834480361561:=()
def tw16489502665604376411:=()
def tw12456111746291119536:=()
def tw14561318994479137940:=()
def tw11062753942163722384:=()
def tw2715829415663797675:=()
def tw16533043869709436987:=()
def tw9942995334421685102:=()
def tw15908440706551688552:=()
def tw700817654876334075:=()
def tw2445216400498832926:=()
def tw17341527279929756081:=()
def tw18118621365326969405:=()
def tw17051895053255351612:=()
def tw15030774354621848764:=()
def tw17830816381149701929:=()
def tw17891129725459621234:=()
def tw5747435597695942061:=()
def tw11552851535942150449:=()
def tw5682659003468527610:=()
def tw16914247507796531513:=()
def tw17597551394670742026:=()
def tw5850709125125892891:=()
def tw6733893054821508623:=()
def tw13149318282770895899:=()
def tw14815621092457149213:=()
def tw14008926687988313493:=()
def tw8406167087015551452:=()
def tw13181623349232852244:=()
def tw1575110450732024092:=()
def tw7705844590803021129:=()
def tw16330521978762534902:=()
def tw12109578091334022303:=()
def tw6442598024378944114:=()
def tw8387977697896384227:=()
def tw5543881179064118069:=()
def tw204416394771109489:=()
def tw8795766956512786128:=()
def tw14826499366414050920:=()
def tw16023561596762684905:=()
def tw5886414156432050711:=()
def tw10776569594758732305:=()
def tw3313165750111610149:=()
def tw2659083171236825624:=()
def tw13479588002707102239:=()
def tw1187478091160774648:=()
def tw3251786441892902534:=()
def tw2478687752371587528:=()
def tw4344256219701867515:=()
def tw10048816432922542669:=()
def tw15337901735698961701:=()
def tw4413209752999012450:=()
def tw8037673160584739394:=()
def tw6590170009088736220:=()
def tw16039470834707422454:=()
def tw16270905453106340941:=()
def tw3372637119799379252:=()
def tw17543331788088331501:=()
def tw4066328193345442044:=()
def tw1136097862803032843:=()
def tw4989752409047614439:=()
def tw2640517176969667911:=()
def tw12822463278888256752:=()
def tw10832747873455014894:=()
def tw11189239964411898533:=()
def tw3695023827613771029:=()
def tw17848417410149431110:=()
def tw8944570376034065166:=()
def tw17097151078496092382:=()
def tw2745378658709315504:=()
def tw15791378732498521703:=()
def tw14792579508260885592:=()
def tw4961258962502810436:=()
def tw16316514481622999022:=()
def tw17486315937911341988:=()
def tw11704966299223008444:=()
def tw12898935375424084938:=()
def tw8726686090494935559:=()
def tw8299587165046571585:=()
def tw10409003194638929243:=()
def tw15017498350615152487:=()
def tw14782018082280542048:=()
def tw12493364927238303292:=()
def tw6864627946063444615:=()
def tw11270171831386580612:=()
def tw9937092732693852872:=()
def tw15698701137761156408:=()
def tw2515147683548321767:=()
def tw2610878706196575380:=()
def tw4815639213182940869:=()
def tw528191112706905720:=()
def tw17819051917567742862:=()
def tw4272310698141147462:=()
def tw8469631976431751410:=()
def tw14812091148204673768:=()
def tw5601082147876943838:=()
def tw3772719875106906533:=()
def tw18405275960795730846:=()
def tw5887128229681561205:=()
def tw698818206398992135:=()
def tw7033123226975928093:=()
def tw8643274757629856961:=()
def tw15755722664435919614:=()
def tw191736159529225122:=()
def tw15398974502709059195:=()
def tw4428514896798540001:=()
def tw11599396805172193718:=()
def tw8671316591209415617:=()
def tw1754144696484785813:=()
def tw508768140701256891:=()
def tw8667215590884245030:=()
def tw16785603591046713906:=()
def tw18437741578303973484:=()
def tw15552394390470468643:=()
def tw9933985296693649337:=()
def tw1340611242074686334:=()
def tw10582798219273898823:=()
def tw13264165192970377661:=()
def tw4142010180246591321:=()
def tw12755112207726893488:=()
def tw3298300010936634344:=()
def tw13164717751046234774:=()
def tw1009135605508506968:=()
def tw4844919589645535085:=()
def tw14293001285050034306:=()
def tw12651082617264386299:=()
def tw11288216728676369268:=()
def tw3527853041542063372:=()
def tw6078404495086772986:=()
def tw18068323108987239918:=()
def tw3924395597765895423:=()
def tw15565584389326581863:=()
def tw4420261934667453287:=()
def tw875299224719475661:=()
def tw2918246702564738169:=()
def tw9529454967832367545:=()
def tw14916225686565035847:=()
def tw3438187778459393123:=()
def tw6968009936451361993:=()
def tw4748583799389997970:=()
def tw1309202734339608732:=()
def tw17963368263820307054:=()
def tw13621764292831103558:=()
def tw4950589735927936166:=()
def tw7761107803168033057:=()
def tw7912642910817192086:=()
def tw6557436029715433057:=()
def tw10681865433266786909:=()
def tw9648657426526094934:=()
def tw17775384146817740528:=()
def tw4431118429425593007:=()
def tw11749588713537377060:=()
def tw4429960525625888610:=()
def tw11887137725222702075:=()
def tw14779488989934752405:=()
def tw16042305462272429958:=()
def tw14590554241645140732:=()
def tw16586445673651656187:=()
def tw17023123218843384309:=()
def tw8952840872546439171:=()
def tw15381410110896658450:=()
def tw9550716036455223890:=()
def tw2246297048838052279:=()
def tw3562859311043964014:=()
def tw7680101059923337797:=()
def tw5677398921097938060:=()
def tw18073099967072575201:=()
def tw17216985733618570366:=()
def tw2297964913455375542:=()
def tw15018477175967828603:=()
def tw12414339555337455141:=()
def tw3223989944468558646:=()
def tw6916206897447758838:=()
def tw12026716509971077025:=()
def tw7814172746864783220:=()
def tw3171279331266756781:=()
def tw2182167179563949717:=()
def tw14676474121868903871:=()
def tw15681391376519199319:=()
def tw3389192785804387262:=()
def tw3072404116491829383:=()
def tw1963387934230081508:=()
def tw2207217210086020726:=()
def tw17044819959649551243:=()
def tw4692928888188244601:=()
def tw18235452253149247878:=()
def tw11565066897794326154:=()
def tw4604139818626484484:=()
def tw18078619283636933777:=()
def tw4983928325486299255:=()
def tw6376415523024199260:=()
def tw14428464832636438383:=()
def tw8552113705682161241:=()
def tw480278111867222062:=()
def tw15430456094236794606:=()
def tw14911805265737935263:=()
def tw5188951482470000806:=()
def tw4247745577103242744:=()
def tw6472956451160256859:=()
def tw11705138545887059525:=()
def tw16158868878642706968:=()
def tw15026383968613363534:=()
def tw2120457735356467843:=()
def tw4808950543253363581:=()
def tw144659140826314361:=()
def tw4950580800906469354:=()
def tw13690118669981414490:=()
def tw9377072233891000151:=()
def tw4230939364532708203:=()
def tw6932776233077646467:=()
def tw3452351148927849873:=()
def tw33629291032162940:=()
def tw3618129029108379041:=()
def tw9980838293368238746:=()
def tw17731241378077780531:=()
def tw1363473646964845656:=()
def tw7164447993671083142:=()
def tw15739421511342611067:=()
def tw6203324808043542537:=()
def tw16602414045665831649:=()
def tw5954155343702517267:=()
def tw2140310516834484182:=()
def tw4495318095693314834:=()
def tw2353099961009879568:=()
def tw12369536728580865824:=()
def tw1485493585128531333:=()
def tw7776016063620975759:=()
def tw8507300812334302929:=()
def tw3249111543083589531:=()
def tw18238567125629267890:=()
def tw8228753614773283151:=()
def tw612008121336243751:=()
def tw11343903489246459256:=()
def tw4143777134573641084:=()
def tw11223049913137328173:=()
def tw1859628274250455520:=()
def tw14676908826619030799:=()
def tw17109187352924961561:=()
def tw11699809319675599399:=()
def tw15915806478239237007:=()
def tw17882394903723346866:=()
def tw3203964364932667806:=()
def tw13599809739172481258:=()
def tw9057703355865801191:=()
def tw15603339954407093263:=()
def tw17944970265626361695:=()
def tw15523127495285566071:=()
def tw4088144234151177072:=()
def tw15905912420688748548:=()
def tw1227006098917210663:=()
def tw18024155805704515402:=()
def tw8837010606522363093:=()
def tw10926635696150222162:=()
def tw17602089171715195962:=()
def tw6234057829302764384:=()
def tw17937800105000055360:=()
def tw9760111895251921728:=()
def tw14366585254422855137:=()
def tw3745408631365147495:=()
def tw5292012071361942795:=()
def tw3620856892647408467:=()
def tw7654607311794919399:=()
def tw9885852853804880371:=()
def tw12000967465500802181:=()
def tw6628119156497107250:=()
def tw8853813002755587140:=()
def tw689096795711285700:=()
def tw15079362820179193744:=()
def tw12495214420855687126:=()
def tw11885624622457937270:=()
def tw3120346165206571232:=()
def tw9076072592305284689:=()
def tw14395782871525961079:=()
def tw9107689523670181856:=()
def tw12855495260564303276:=()
def tw10336556913703776536:=()
def tw15568258831191555420:=()
def tw13305298859380553211:=()
def tw13767260738629300338:=()
def tw297738783912879456:=()
def tw322295246221327223:=()
def tw17112086195055807262:=()
def tw14017121464172096563:=()
def tw508037691183021049:=()
def tw12574383615001655546:=()
def tw13965862743891884663:=()
def tw8724661656438207836:=()
def tw11516297942970172145:=()
def tw909316783026513908:=()
def tw10191239657598446345:=()
def tw18443185604178646013:=()
def tw10196020907070153890:=()
def tw13741008209235051298:=()
def tw4004120644863606594:=()
def tw2327721491251436090:=()
def tw2705130897364207962:=()
def tw11102700100208000855:=()
def tw11977646088073847918:=()
def tw10417425706776611645:=()
def tw13966456347038353127:=()
def tw17637979102295490783:=()
def tw6684263576911574636:=()
def tw18085040587513518195:=()
def tw5926090636028907017:=()
def tw5852682639967837176:=()
def tw6559644494775957954:=()
def tw8477670951307206872:=()
def tw13878754149126678279:=()
def tw11203456374039024713:=()
def tw17901681112765655948:=()
def tw10337434231580791950:=()
def tw13207504287123180351:=()
def tw17988845477219354645:=()
def tw18302063642845257522:=()
def tw16972992519164167638:=()
def tw712090011266550194:=()
def tw15817266053677822114:=()
def tw14985858801390555760:=()
def tw2176950028731537476:=()
def tw15568607915717550782:=()
def tw1069839481671484912:=()
def tw18395454504429595746:=()
def tw11774659008337028895:=()
def tw11641909142981106098:=()
def tw5269187590147569246:=()
def tw9942854486490610205:=()
def tw11210360578774706284:=()
def tw3592108883931922519:=()
def tw3721733620583759314:=()
def tw9594316055933176975:=()
def tw13608963045956336470:=()
def tw11880447994219283590:=()
def tw9145106041998997988:=()
def tw12412136462601083532:=()
def tw16266153115381851875:=()
def tw1198265368805838418:=()
def tw8159205760508497542:=()
def tw14974777253472074537:=()
def tw12270529452202628625:=()
def tw5508698786147645851:=()
def tw3393643103149240399:=()
def tw6885958272402144714:=()
def tw13447967112608379263:=()
def tw16243105911518860428:=()
def tw11619275535398678472:=()
def tw10864236124755784880:=()
def tw2549626780298786201:=()
def tw17377532221302565686:=()
def tw8932175759273126200:=()
def tw5753657283570344003:=()
def tw12737375916335539817:=()
def tw5349518993882738928:=()
def tw9379168398719077393:=()
def tw13731138097183494419:=()
def tw8785654052671995457:=()
def tw11231738744263300511:=()
def tw6449874082298323994:=()
def tw14855452152118709819:=()
def tw16831749919388689775:=()
def tw17253480600099142821:=()
def tw17232056405629423014:=()
def tw17315499856962299121:=()
def tw7175954137739492768:=()
def tw6545849610504398609:=()
def tw12070434114301544797:=()
def tw7473509904694524347:=()
def tw3307799699880198628:=()
def tw14094640584182287928:=()
def tw12676278510371711749:=()
def tw8941703019076274443:=()
def tw14920650950586792863:=()
def tw15856750273124908767:=()
def tw7826859644002864044:=()
def tw15169776829929521990:=()
def tw5997886195763570698:=()
def tw10564644320713959332:=()
def tw779944214124313554:=()
def tw15443927895630573860:=()
def tw18020262977532143048:=()
def tw8286540860774983919:=()
def tw4471597903241821774:=()
def tw17927209365911276747:=()
def tw7407441786695144822:=()
def tw17254346757230252408:=()
def tw3943501410029744453:=()
def tw5395752956898995177:=()
def tw15348242531663402188:=()
def tw6073753567944891374:=()
def tw935973748777969203:=()
def tw2732893748803753949:=()
def tw611003918761163407:=()
def tw1157176076737346467:=()
def tw10539917982025870912:=()
def tw2969379664283673930:=()
def tw17204108299387176123:=()
def tw8651476451653079170:=()
def tw3717407646597466838:=()
def tw6901974582582345135:=()
def tw1759597028577125593:=()
def tw7555536539538638882:=()
def tw11224663168190757870:=()
def tw9725915765575898696:=()
def tw4862071902474419245:=()
def tw3818169845889789904:=()
def tw13481614244381442717:=()
def tw233436469060606073:=()
def tw10624216082261354568:=()
def tw13259977382368533591:=()
end PySem.W.Fast
namespace MyQ
open PySem PySem.W PyProof.Rows List
set_option maxRecDepth 100000 in
set_option maxHeartbeats 0 in
open_top hd for PySem.Challenge.rw_manyleast_k39_told_papers_split_no_more
end MyQ
set_option autoImplicit true
abbrev Fg:=PySem.W.Frag
abbrev VS:=PySem.Value->PySem.Shared->Prop
abbrev LL:=List (List Int)
abbrev Mg:=PySem.Str->Option PySem.Value
section
open PySem PySem.Spec PyProof.Rows PySem.W List
theorem ZA:type_of% @decide_eq_true:=@decide_eq_true
theorem ZC:type_of% @wpAny_bind:=@wpAny_bind
theorem ZF:type_of% @Heap.get?_push_of_some:=@Heap.get?_push_of_some
theorem ZG:type_of% @Nat.le_refl:=@Nat.le_refl
theorem ZH:type_of% @of_decide_eq_true:=@of_decide_eq_true
theorem ZI:type_of% @if_neg:=@if_neg
theorem ZJ:type_of% @if_pos:=@if_pos
theorem ZK:type_of% @decide_eq_false:=@decide_eq_false
theorem ZM:type_of% @wpAny_pure:=@wpAny_pure
theorem ZN:type_of% @length_map:=@length_map
theorem ZP:type_of% @getElem?_eq_getElem:=@getElem?_eq_getElem
theorem ZQ:type_of% @kasC_bind:=@kasC_bind
theorem ZR:type_of% @Nat.le_trans:=@Nat.le_trans
theorem ZT:type_of% @kasC_pure:=@kasC_pure
theorem ZU:type_of% @Heap.get?_push_size:=@Heap.get?_push_size
theorem ZV:type_of% @length_append:=@length_append
theorem ZW:type_of% @Heap.lt_size:=@Heap.lt_size
theorem ZX:type_of% @size_toArray:=@size_toArray
theorem ZY:type_of% @Array.length_toList:=@Array.length_toList
theorem ZZ:type_of% @mem_cons_of_mem:=@mem_cons_of_mem
theorem WA:type_of% @decide_eq_true_eq:=@decide_eq_true_eq
theorem WB:type_of% @Nat.zero_le:=@Nat.zero_le
theorem WC:type_of% @Nat.lt_of_lt_of_le:=@Nat.lt_of_lt_of_le
theorem WE:type_of% @Array.getElem?_toList:=@Array.getElem?_toList
theorem WF:type_of% @mem_cons_self:=@mem_cons_self
theorem WH:type_of% @Nat.ne_of_lt:=@Nat.ne_of_lt
theorem WJ:type_of% @Bool.and_false:=@Bool.and_false
theorem WK:type_of% @Array.toList_append:=@Array.toList_append
theorem WL:type_of% @Bool.and_eq_true:=@Bool.and_eq_true
theorem WM:type_of% @Array.getElem?_eq_getElem:=@Array.getElem?_eq_getElem
theorem WN:type_of% @getElem?_map:=@getElem?_map
theorem WP:type_of% @Nat.le_add_left:=@Nat.le_add_left
theorem WQ:type_of% @map_append:=@map_append
theorem WR:type_of% @Bool.false_and:=@Bool.false_and
theorem WT:type_of% @take_of_length_le:=@take_of_length_le
theorem WU:type_of% @take_add_one:=@take_add_one
theorem WV:type_of% @mem_of_getElem?:=@mem_of_getElem?
theorem WW:type_of% @wpAny_mono:=@wpAny_mono
theorem WX:type_of% @mem_append_right:=@mem_append_right
theorem WZ:type_of% @length_cons:=@length_cons
theorem YA:type_of% @PySem.F.plainAttrs_list:=@PySem.F.plainAttrs_list
theorem YB:type_of% @Int.emod_lt_of_pos:=@Int.emod_lt_of_pos
theorem YC:type_of% @PySem.mem_of_lookup:=@PySem.mem_of_lookup
theorem YD:type_of% @take_length:=@take_length
theorem YE:type_of% @length_filter_le:=@length_filter_le
theorem YF:type_of% @wpAny_newObj_type:=@wpAny_newObj_type
theorem YH:type_of% @Int.emod_nonneg:=@Int.emod_nonneg
theorem YI:type_of% @filter_cons:=@filter_cons
theorem YJ:type_of% @Int.pow_succ:=@Int.pow_succ
theorem YK:type_of% @wpAny_setField_rec:=@wpAny_setField_rec
theorem YL:type_of% @PySem.F.slot_list_append:=@PySem.F.slot_list_append
theorem YM:type_of% @PySem.F.type_list_append:=@PySem.F.type_list_append
theorem YN:type_of% @getElem?_append_right:=@getElem?_append_right
theorem YO:type_of% @getD_eq_getElem?_getD:=@getD_eq_getElem?_getD
theorem YR:type_of% @decide_eq_false_iff_not:=@decide_eq_false_iff_not
theorem YS:type_of% @getElem?_append_left:=@getElem?_append_left
theorem YT:type_of% @countP_cons:=@countP_cons
theorem YV:type_of% @Heap.get?_update_other:=@Heap.get?_update_other
theorem YW:type_of% @append_assoc:=@append_assoc
theorem YX:type_of% @PySem.W.kia_one:=@PySem.W.kia_one
theorem YY:type_of% @Nat.min_eq_left:=@Nat.min_eq_left
theorem YZ:type_of% @map_congr_left:=@map_congr_left
end
local macro_rules|`(∅)=>`(by omega)
local macro_rules(kind:=Lean.Parser.Term.structInst)|`({})=>`(by decide)
local macro_rules|`(tactic|exists $[$es],*)=>`(tactic|refine ⟨$[$es],*, ?_⟩)
local macro_rules|`(tactic|lia)=>`(tactic|omega)
namespace L2
open PySem PySem.Spec PyProof.Rows List
abbrev Key:=Sum Int Str
noncomputable def keyIs:Key->Value->Bool
 | .inl k,v=>Value.isInt k v
 | .inr x,v=>Value.isStrOf x v
noncomputable def keyH(w:World):Key->Int
 | .inl k=>hashInt k
 | .inr x=>hashStr w x
theorem q44:∀{k:Key}{v:Value},keyIs k v=true->(∃ i t,k=Sum.inl i/\v=Value.int i t)\/(∃ x t,k=Sum.inr x/\v=Value.str x t)
 | .inl i,v,h=>by
  obtain⟨t,e⟩:=Value.isInt_shape (k:=i) (v:=v) h
  exact .inl ⟨i,t,rfl,e⟩
 | .inr x,v,h=>by
  obtain⟨t,e⟩:=Value.isStrOf_shape (x:=x) (v:=v) h
  exact .inr ⟨x,t,rfl,e⟩
theorem key_ll(a b:Int):decide ((Sum.inl a:Key)=Sum.inl b)=(a==b):=by
 by_cases e:a=b
 ·subst e;simp
 ·have h:¬(Sum.inl a:Key)=Sum.inl b:=fun q=>e (Sum.inl.inj q)
  rw[ZK h]
  exact(beq_eq_false_iff_ne.mpr e).symm
theorem key_rr(a b:Str):decide ((Sum.inr a:Key)=Sum.inr b)=decide (a=b):=by
 by_cases e:a=b
 ·subst e;simp
 ·have h:¬(Sum.inr a:Key)=Sum.inr b:=fun q=>e (Sum.inr.inj q)
  rw[ZK h,ZK e]
theorem key_lr(a:Int)(b:Str):decide ((Sum.inl a:Key)=Sum.inr b)=false:=ZK (fun q=>nomatch q)
theorem key_rl(a:Str)(b:Int):decide ((Sum.inr a:Key)=Sum.inl b)=false:=ZK (fun q=>nomatch q)
noncomputable def q640(prog:Program)(w:World):PySem.KeyKind prog w Key where
 is:=keyIs
 hash:=keyH w
 inj:=fun v a b ha hb=>by
  rcases q44 ha with ⟨i,t,rfl,rfl⟩ | ⟨x,t,rfl,rfl⟩
  ·rcases q44 hb with ⟨j,u,rfl,e⟩ | ⟨y,u,rfl,e⟩
   ·injection e with e1 _;rw[e1]
   ·exact nomatch e
  ·rcases q44 hb with ⟨j,u,rfl,e⟩ | ⟨y,u,rfl,e⟩
   ·exact nomatch e
   ·injection e with e1 _;rw[e1]
 byValue:=fun k v h=>by
  rcases q44 h with ⟨i,t,rfl,rfl⟩ | ⟨x,t,rfl,rfl⟩ <;> rfl
 pyHash:=fun hv h=>by
  rcases q44 hv with ⟨i,t,rfl,rfl⟩ | ⟨x,t,rfl,rfl⟩
  ·exact wpAny_pyHash_int h
  ·exact wpAny_pyHash_str h
 eqBool:=fun hu hv h=>by
  rcases q44 hu with ⟨i,t,rfl,rfl⟩ | ⟨x,t,rfl,rfl⟩
  ·rcases q44 hv with ⟨j,u,rfl,rfl⟩ | ⟨y,u,rfl,rfl⟩
   ·rw[key_ll]at h;exact wpAny_eqBool_int h
   ·rw[key_lr]at h;exact SeqAt.EqAt.int_str i t y u _ _ _ _ h
  ·rcases q44 hv with ⟨j,u,rfl,rfl⟩ | ⟨y,u,rfl,rfl⟩
   ·rw[key_rl]at h;exact SeqAt.EqAt.str_int x t j u _ _ _ _ h
   ·rw[key_rr]at h;exact wpAny_eqBool_str h
 «strs»:=fun k x t v h=>by
  rcases q44 h with ⟨i,u,rfl,e⟩ | ⟨y,u,rfl,e⟩
  ·exact nomatch e
  ·injection e with e1 _
   subst e1
   cases v <;> rfl
inductive V where
 | non | bl (b:Bool) | int (i:Int) | str (x:Str) | byt (b:Array UInt8) | flt (b:UInt64) | ref (a:Addr) | ty (n:String)
 deriving DecidableEq
def RelV:V->Value->Prop
 | .non,u=>u=Value.none
 | .bl b,u=>u=Value.bool b
 | .int i,u=>∃ t,u=Value.int i t
 | .str x,u=>∃ t,u=Value.str x t
 | .byt b,u=>∃ t,u=Value.bytes b t
 | .flt b,u=>∃ t,u=Value.float b t
 | .ref a,u=>u=Value.ref a
 | .ty n,u=>u=Value.type n
abbrev Vals:List V->List Value->Prop:=Paired RelV
theorem Vals.length{xs:List V}{us:List Value}(r:Vals xs us):xs.length=us.length:=Paired.length r
theorem Vals.get:∀{xs:List V}{us:List Value}{i:Nat}{x:V},Vals xs us->xs[i]? = some x -> ∃ u,us[i]? = some u/\RelV x u
 | _,_,_,_,.nil,e=>by simp at e
 | _,_,0,_,.cons r _,e=>by simp at e;subst e;exact⟨_,rfl,r⟩
 | _,_,i+1,x,.cons _ t,e=>by
  obtain⟨u,h1,h2⟩:=Vals.get (i:=i) (x:=x) t (by simpa using e)
  exact⟨u,by simpa using h1,h2⟩
theorem Vals.set{x:V}{u:Value}(r:RelV x u):∀{xs:List V}{us:List Value}(i:Nat),Vals xs us->Vals (xs.set i x) (us.set i u)
 | _,_,_,.nil=>.nil
 | _,_,0,.cons _ t=>.cons r t
 | _,_,i+1,.cons q t=>.cons q (Vals.set r i t)
theorem Vals.append:∀{xs ys:List V}{us ws:List Value},Vals xs us->Vals ys ws->Vals (xs++ys) (us++ws)
 | _,_,_,_,.nil,s=>s
 | _,_,_,_,.cons r t,s=>.cons r (Vals.append t s)
theorem Vals.take:∀{xs:List V}{us:List Value}(n:Nat),Vals xs us->Vals (xs.take n) (us.take n)
 | _,_,0,_=>.nil
 | _,_,_+1,.nil=>.nil
 | _,_,n+1,.cons r t=>.cons r (Vals.take n t)
theorem Vals.drop:∀{xs:List V}{us:List Value}(n:Nat),Vals xs us->Vals (xs.drop n) (us.drop n)
 | _,_,0,r=>r
 | _,_,_+1,.nil=>.nil
 | _,_,n+1,.cons _ t=>Vals.drop n t
def RelO:Option V->Option Value->Prop
 | some v,some u=>RelV v u
 | none,none=>True
 | _,_=>False
def KV{κ:Type}:List (κ×V)->List (κ×Value)->Prop:=Paired fun(p:κ×V) (q:κ×Value)=>p.1=q.1/\RelV p.2 q.2
noncomputable def kV:Key->V
 | .inl i=>.int i
 | .inr x=>.str x
inductive HO where
 | lst (xs:List V)
 | tup (xs:List V)
 | dK (kvs:List (Key×V)) | dT (kvs:List (List Key×V))
 | set (S:Int->Bool) (n:Nat)
 | ins (C dx:Addr) (fs:List (Str×V))
 | own (x:Addr)
 | xd (fs:List (Str×V))
 | met (f x:Addr)
 | rng (lo hi:Int)
 | frz (o:Obj) (u:HO)
 | tbl (ps:Array Value)
 | ext (φ:Heap->Prop)
abbrev Hp:=Addr->Option HO
noncomputable def upd(H:Hp)(a:Addr)(o:HO):Hp:=fun b=>if b=a then some o else H b
theorem q13:upd H a o a=some o:=by unfold upd;rw[ZJ rfl]
theorem q27(h:b≠a):upd H a o b=H b:=by unfold upd;rw[ZI h]
theorem q84:upd (upd H a o) a u=upd H a u:=by
 funext b;unfold upd;split <;> rfl
theorem ne_of{H:Hp}{a b:Addr}{o u:HO}(h:H a=some o)(h':H b=some u)(d:o≠u):a≠b:=by
 intro e;subst e;rw[h]at h';exact d (Option.some.inj h')
theorem q24{H:Hp}{a b:Addr}{o:HO}(h:H a=some o)(h':H b=none):a≠b:=by
 intro e;subst e;rw[h]at h';cases h'
section
variable (P:Program) (w:World)
noncomputable def ObjOk(H:Hp)(h:Heap)(a:Addr):HO->Prop
 | .lst xs=>xs.length<=sizeLine /\ ∃(its:List Value)(n:Nat),Vals xs its/\h.get? a=some { cls:=.type "list", data:=.seq its.toArray n }
 | .tup xs=>xs.length<=sizeLine /\ ∃ its:List Value,Vals xs its/\IsTup h a its.toArray
 | .dK kvs=>kvs.length<=sizeLine/\(a==sysModules)=false /\ ∃ vs,KV kvs vs/\h.DictOf (q640 P w) a vs
 | .dT kvs=>kvs.length<=sizeLine/\(a==sysModules)=false /\ ∃ xs:List (List Key×Addr×Value),
   Paired (fun(p:List Key×V) (q:List Key×Addr×Value)=>p.1=q.1/\H q.2.1=some (.tup (p.1.map kV))/\RelV p.2 q.2.2) kvs xs /\
   ∃ o es ep,h.get? a=some o/\o.ExactDict/\o.data = .dict es ep/\es.toList=xs.map (entryOfKey (tupleKind (q640 P w)))/\(xs.map (·.1)).Nodup
 | .set S n=>h.SetOf (intKind P w) a S n
 | .ins C dx fs=>H dx=some (.own a)/\fs.length<=1000/\dx≠a/\h.get? a=some (PySem.W.instObj C dx) /\
   ∃ mA,h.Ns1 dx mA/\(∀ f,RelO (fs.lookup f) (mA f))/\PySem.Within mA (fs.map (·.1))
 | .own _=>∃ o,h.get? a=some o
 | .xd fs=>∃ mA,h.Ns1 a mA /\ ∀ f,RelO (fs.lookup f) (mA f)
 | .rng lo hi=>∃ t u v,h.get? a=some { cls:=.type "range", data:=.fields #[.int lo t,.int hi u,.int 1 v] }
 | .frz o u=>h.get? a=some o/\ObjOk H h a u
 | .tbl ps=>h.get? a=some { cls:=.none,data:=.fields ps }
 | .met f x=>h.get? a=some (PySem.W.methodObj (.ref f) (.ref x))
 | .ext φ=>φ h/\(∃ o,h.get? a=some o) /\ ∀ h1 h2:Heap,φ h1->(∀ o,h1.get? a=some o->h2.get? a=some o)->φ h2
noncomputable def HOk(H:Hp)(h:Heap):Prop:=∀ a o,H a=some o->ObjOk P w H h a o
end
section
variable {P:Program} {w:World} {H H':Hp} {h h':Heap} {a:Addr} {o:HO}
theorem ObjOk.lt(x:ObjOk P w H h a o):a<h.objs.size:=by
 cases o with
 | lst xs=>obtain⟨_,_,_,_,e⟩:=x;exact ZW e
 | tup xs=>obtain⟨_,_,_,p⟩:=x;exact p.lt
 | dK kvs=>obtain⟨_,_,_,_,o,_,_,e,_⟩:=x;exact ZW e
 | dT kvs=>obtain⟨_,_,_,_,o,_,_,e,_⟩:=x;exact ZW e
 | set S n=>obtain⟨o,_,_,_,e,_⟩:=x;exact ZW e
 | ins C dx fs=>obtain⟨_,_,_,e,_⟩:=x;exact ZW e
 | own y=>obtain⟨_,e⟩:=x;exact ZW e
 | xd fs=>obtain⟨_,⟨_,_,_,e,_⟩,_⟩:=x;exact ZW e
 | rng lo hi=>obtain⟨_,_,_,e⟩:=x;exact ZW e
 | frz ob u=>obtain⟨e,_⟩:=x;exact ZW e
 | tbl ps=>exact ZW (show h.get? a=some _ from x)
 | met f y=>exact ZW (show h.get? a=some _ from x)
 | ext φ=>obtain⟨_,⟨_,e⟩,_⟩:=x;exact ZW e
theorem Paired.mapP{α β:Type}{F G:α->β->Prop}:∀{l₁:List α}{l₂:List β},Paired F l₁ l₂->(∀ a b,F a b->G a b)->Paired G l₁ l₂
 | _,_,.nil,_=>.nil
 | _,_,.cons r t,f=>.cons (f _ _ r) (Paired.mapP t f)
theorem ObjOk.stay(x:ObjOk P w H h a o)(k:∀ b u,(b=a\/H b=some (.own a))->h.get? b=some u->h'.get? b=some u)
  (ho:∀ b,H b=some (.own a)->H' b=some (.own a)) (ht:∀ b xs,H b=some (.tup xs)->H' b=some (.tup xs)):ObjOk P w H' h' a o:=by
 induction o with
 | lst xs=>obtain⟨z,its,n,r,e⟩:=x;exact⟨z,its,n,r,k _ _ (.inl rfl) e⟩
 | tup xs=>obtain⟨z,its,r,ob,e,c⟩:=x;exact⟨z,its,r,ob,k _ _ (.inl rfl) e,c⟩
 | dK kvs=>obtain⟨z,y,vs,r,ob,es,ep,e,c⟩:=x;exact⟨z,y,vs,r,ob,es,ep,k _ _ (.inl rfl) e,c⟩
 | dT kvs=>
  obtain⟨z,y,xs,r,ob,es,ep,e,c⟩:=x
  exact⟨z,y,xs,Paired.mapP r fun p q z=>⟨z.1,ht _ _ z.2.1,z.2.2⟩,ob,es,ep,k _ _ (.inl rfl) e,c⟩
 | set S n=>obtain⟨ob,es,ep,t,e,c⟩:=x;exact⟨ob,es,ep,t,k _ _ (.inl rfl) e,c⟩
 | ins C dx fs=>
  obtain⟨d,z,ne,e,mA,⟨od,es,ep,e2,c⟩,r⟩:=x
  exact⟨ho _ d,z,ne,k _ _ (.inl rfl) e,mA,⟨od,es,ep,k _ _ (.inr d) e2,c⟩,r⟩
 | own y=>obtain⟨ob,e⟩:=x;exact⟨ob,k _ _ (.inl rfl) e⟩
 | xd fs=>obtain⟨mA,⟨od,es,ep,e,c⟩,r⟩:=x;exact⟨mA,⟨od,es,ep,k _ _ (.inl rfl) e,c⟩,r⟩
 | rng lo hi=>obtain⟨t,u,v,e⟩:=x;exact⟨t,u,v,k _ _ (.inl rfl) e⟩
 | frz ob u ih=>obtain⟨e,q⟩:=x;exact⟨k _ _ (.inl rfl) e,ih q⟩
 | tbl ps=>
  have e:h.get? a=some { cls:=.none,data:=.fields ps }:=x
  show h'.get? a=some { cls:=.none,data:=.fields ps }
  exact k a _ (.inl rfl) e
 | met f y=>
  have e:h.get? a=some (PySem.W.methodObj (.ref f) (.ref y)):=x
  show h'.get? a=some (PySem.W.methodObj (.ref f) (.ref y))
  exact k a _ (.inl rfl) e
 | ext φ=>obtain⟨p,⟨o,e⟩,st⟩:=x;exact⟨st _ _ p fun o q=>k _ _ (.inl rfl) q,⟨o,k _ _ (.inl rfl) e⟩,st⟩
theorem HOk.lt(x:HOk P w H h)(e:H a=some o):a<h.objs.size:=(x a o e).lt
theorem HOk.fresh(x:HOk P w H h)(e:h.objs.size<=a):H a=none:=by
 cases q:H a with
 | none=>rfl
 | some u=>exact absurd (WC (x.lt q) e) (Nat.lt_irrefl _)
theorem HOk.kept(x:HOk P w H h)(k:∀ b u,h.get? b=some u->h'.get? b=some u):HOk P w H h':=fun a o e=>
 (x a o e).stay (fun b u _ q=>k b u q) (fun _ q=>q) fun _ _ q=>q
theorem HOk.laid(x:HOk P w H h)(k:∀ b u,h.get? b=some u->h'.get? b=some u)(hp:h.objs.size<=a)(new:ObjOk P w (upd H a o) h' a o):HOk P w (upd H a o) h':=fun b u e=>by
 have hn:=x.fresh hp
 by_cases hb:b=a
 ·subst hb;rw[q13]at e;cases e;exact new
 ·rw[q27 hb]at e
  exact(x b u e).stay (fun c v _ q=>k c v q) (fun c q=>by rw[q27 (q24 q hn)];exact q) fun c xs q=>by rw[q27 (q24 q hn)];exact q
end
def Rd(H:Hp)(a:Addr)(u:HO):Prop:=H a=some u \/ ∃ o,H a=some (.frz o u)
theorem Rd.ok(r:Rd H a u)(x:HOk P w H h):ObjOk P w H h a u:=by
 rcases r with r | ⟨o,r⟩
 ·exact x a u r
 ·obtain⟨_,q⟩:=x a _ r
  exact q
def Mut:Option HO->Prop
 | some (.lst _)=>True
 | some (.dK _)=>True
 | some (.dT _)=>True
 | some (.set _ _)=>True
 | some (.ins _ _ _)=>True
 | some (.ext _)=>True
 | _=>False
section
variable {P:Program} {w:World} {H:Hp} {h h':Heap} {x e:Addr} {o':HO}
theorem HOk.write(ok:HOk P w H h)(mu:Mut (H x))(he:e=x\/H e=some (.own x))(k:∀ b u,b≠e->h.get? b=some u->h'.get? b=some u)(heo:∃ u,h'.get? e=some u)
  (new:ObjOk P w (upd H x o') h' x o'):HOk P w (upd H x o') h':=fun b u q=>by
 have nown:∀ c y,H c=some (.own y)->c≠x:=fun c y r z=>by subst z;rw[r]at mu;exact mu
 have ntup:∀ c xs,H c=some (.tup xs)->c≠x:=fun c xs r z=>by subst z;rw[r]at mu;exact mu
 by_cases hb:b=x
 ·subst hb;rw[q13]at q;cases q;exact new
 ·rw[q27 hb]at q
  by_cases hbe:b=e
  ·have q':H b=some (.own x):=by
    rcases he with z | z
    ·exact absurd (hbe.trans z) hb
    ·rw[hbe];exact z
   rw[q]at q';cases q'
   obtain⟨v,hv⟩:=heo
   exact⟨v,by rw[hbe];exact hv⟩
  ·refine(ok b u q).stay (fun c v hc r=>k c v ?_ r) (fun c r=>by rw[q27 (nown c b r)];exact r) fun c xs r=>by rw[q27 (ntup c xs r)];exact r
   rcases hc with rfl | hc
   ·exact hbe
   ·rintro rfl
    rcases he with z | z
    ·exact nown c b hc z
    ·rw[hc]at z;cases z;exact hb rfl
end
structure Un(fs ex:List Addr)(H H':Hp)(h h':Heap):Prop where
 keep:∀ b o,h.get? b=some o->H b=none->b ∉ fs->b ∉ ex->h'.get? b=some o
 slot:∀ b o,h.get? b=some o->H b=none->b∈fs->b ∉ ex -> ∃ sl,h'.get? b=some { o with slots:=sl }
 free:∀ b o,h.get? b=some o->H b=none->b ∉ ex->H' b=none
 there:∀ b o,h.get? b=some o->b ∉ ex -> ∃ o',h'.get? b=some o'
 tups:∀ b xs,H b=some (.tup xs)->H' b=some (.tup xs)
 frzs:∀ b o u,H b=some (.frz o u)->H' b=some (.frz o u)
 tbls:∀ b ps,H b=some (.tbl ps) -> ∃ more,H' b=some (.tbl (ps++more))
section
variable{fs fs' ex ex':List Addr}{H H1 H2:Hp}{h h1 h2 h':Heap}{a x e:Addr}{o:HO}
theorem Un.any(u:Un fs ex H H1 h h1)(q:h.get? b=some ob)(n:H b=none)(hx:b ∉ ex):∃ sl,h1.get? b=some { ob with slots:=sl }:=by
 by_cases hb:b∈fs
 ·exact u.slot b ob q n hb hx
 ·exact⟨ob.slots,u.keep b ob q n hb hx⟩
theorem Un.kept(k:∀ b u,h.get? b=some u->h'.get? b=some u):Un fs ex H H h h':=
 ⟨fun b ob q _ _ _=>k b ob q,fun b ob q _ _ _=>⟨ob.slots,k b ob q⟩,fun _ _ _ n _=>n,fun b ob q _=>⟨ob,k b ob q⟩,fun _ _ q=>q,fun _ _ _ q=>q,fun _ ps q=>⟨#[],by rw[q];simp⟩⟩
theorem Un.refl:Un fs ex H H h h:=Un.kept fun _ _ q=>q
theorem Un.laid(k:∀ b u,h.get? b=some u->h'.get? b=some u)(hp:h.objs.size<=a)(hn:H a=none):Un fs ex H (upd H a o) h h' where
 keep:=fun b u q _ _ _=>k b u q
 slot:=fun b u q _ _ _=>⟨u.slots,k b u q⟩
 free:=fun b u q n _=>by rw[q27 (WH (WC (ZW q) hp))];exact n
 there:=fun b u q _=>⟨u,k b u q⟩
 tups:=fun b xs q=>by rw[q27 (q24 q hn)];exact q
 frzs:=fun b u xs q=>by rw[q27 (q24 q hn)];exact q
 tbls:=fun b ps q=>⟨#[],by rw[q27 (q24 q hn),q];simp⟩
theorem Un.write(mu:Mut (H x))(he:e=x\/H e=some (.own x))(k:∀ b u,b≠e->h.get? b=some u->h'.get? b=some u)(heo:∃ u,h'.get? e=some u):Un fs ex H (upd H x o) h h':=by
 have hx:∀ b,H b=none->b≠x:=fun b n z=>by subst z;rw[n]at mu;exact mu
 have hb:∀ b,H b=none->b≠e:=fun b n z=>by
  subst z
  rcases he with r | r
  ·exact hx b n r
  ·rw[n]at r;cases r
 have hm:∀ b u,H b=some u -> ¬ Mut (some u)->b≠x:=fun b u q nm z=>by subst z;rw[q]at mu;exact nm mu
 refine⟨fun b u q n _ _=>k b u (hb b n) q,fun b u q n _ _=>⟨u.slots,k b u (hb b n) q⟩,fun b u q n _=>by rw[q27 (hx b n)];exact n,fun b u q _=>?_,
  fun b xs q=>by rw[q27 (hm b _ q fun z=>z)];exact q,fun b u xs q=>by rw[q27 (hm b _ q fun z=>z)];exact q,fun b ps q=>⟨#[],by rw[q27 (hm b _ q fun z=>z),q];simp⟩⟩
 by_cases hbe:b=e
 ·subst hbe;exact heo
 ·exact⟨u,k b u hbe q⟩
end
noncomputable def trk(h:Heap)(H:Hp):List Addr:=(List.range h.objs.size).filter fun a=>(H a).isSome
noncomputable def hidT(h:Heap)(H:Hp):Heap:=PySem.W.hideAll h (trk h H)
theorem q641(h:Heap)(H:Hp):(hidT h H).objs.size=h.objs.size:=PySem.W.hideAll_size _ _
theorem hidT_get{h:Heap}(e:h.get? b=some o)(n:H b=none):(hidT h H).get? b=some o:=
 PySem.W.hideAll_get _ e fun hm=>by
  have q:(H b).isSome=true:=(List.mem_filter.mp hm).2
  rw[n]at q;simp at q
theorem of_hidT{h:Heap}(e:(hidT h H).get? b=some o):h.get? b=some o/\H b=none:=by
 have e':h.get? b=some o:=PySem.W.of_hideAll (trk h H) e
 exists e'
 cases q:H b with
 | none=>rfl
 | some x=>
  have hm:b∈trk h H:=List.mem_filter.mpr ⟨List.mem_range.mpr (ZW e'),by simp[q]⟩
  have z:(hidT h H).get? b=none:=PySem.W.hideAll_none (trk h H) hm
  rw[z]at e;cases e
noncomputable def allNews(g h:Heap)(L:Addr):List (Addr×Obj):=(List.range h.objs.size).filterMap fun a=>if a=L\/(g.get? a).isSome=true then none else(h.get? a).map fun o=>(a,o)
noncomputable def rest(g h:Heap)(L d:Addr):List (Addr×Obj):=(allNews g h L).filter fun p=>decide (p.1≠d)
structure Mod(K:Fg)(mg:Mg)(base:Heap):Prop where
 kin:K.In base
 glob:base.Ns mainGlobals mg
 blt:∃ mb,base.Ns builtinsNs mb /\ ∀ x:Str,x ≠ "__name__" -> mb x=bootBuiltins x
 nolimit:base.NoLimit
structure Cx where
 prog:Program
 w:World
 K:Fg
 mg:Mg
 base:Heap
 A:Around
 N:List Str
 s₀:Shared
 H₀:Hp
 env:Env
 outer:List Env
 stack:List Env
 ex:List Addr
 fn:Str->Bool
 calm:Bool
 pn:List (Addr×Obj)
 xe:VS
variable {X:Cx}
noncomputable def frs(l:List Env):List Addr:=l.filterMap (·.frame)
noncomputable abbrev Cx.fs(X:Cx):List Addr:=frs X.outer
def Vis(sc:Scope)(x:Str):Prop:=sc.names.lookup x=some .local\/sc.names.lookup x=some .cell\/sc.names.lookup x=some .free
def Loc(sc:Scope)(x:Str):Prop:=sc.names.lookup x=some .local\/sc.names.lookup x=some .cell
noncomputable def Look(env:Env)(h:Heap)(m:Mg)(x:Str)(u:Value):Prop:=
 (env.kindOf x=some .local/\m x=some u)\/((env.kindOf x=some .cell\/env.kindOf x=some .free) /\ ∃ c,env.cells.lookup x=some c/\h.IsCell c (some u))
structure Cx.Ok(X:Cx):Prop where
 mod:Mod X.K X.mg X.base
 kind:X.env.scope.kind = .function
 glob:X.env.globals=mainGlobals
 blt:X.env.builtins=builtinsNs
 above:X.s₀.heap.objs.size<=X.env.locals
 inj:∀ x y c,X.env.cells.lookup x=some c->X.env.cells.lookup y=some c->x=y
 has:∀ x,(X.env.kindOf x=some .cell\/X.env.kindOf x=some .free) -> ∃ c,X.env.cells.lookup x=some c
 cab:∀ x c,X.fn x=true->X.env.cells.lookup x=some c->X.s₀.heap.objs.size<=c
 hd:X.calm=true->X.A.handled=none
 frames:X.A.frames=some X.stack
 stk:X.stack=X.outer\/(X.stack=X.env::X.outer/\X.env.frame=some X.env.locals)
 exf:∀ b∈X.ex,b≠X.env.locals /\ ∀ x c,X.env.cells.lookup x=some c->c≠b
 bs:∀ b o,X.base.get? b=some o->X.s₀.heap.get? b=some o/\X.H₀ b=none
 bsz:X.base.objs.size<=X.s₀.heap.objs.size
 noex:∀ b o,X.base.get? b=some o->b ∉ X.ex
 exfs:∀ b∈X.ex,b ∉ X.fs
 funs:X.s₀.heap.FunFrames X.base X.outer
 frf:∀ b∈X.fs,X.H₀ b=none
structure Inv(X:Cx)(pins:List (Addr×Obj))(σ:List (Option V))(H:Hp)(s:Shared):Prop where
 ok:X.Ok
 os:s.os=X.s₀.os
 bare:AllBare s.gens
 base:Un X.fs X.ex X.H₀ H X.s₀.heap s.heap
 loc:∃ m,s.heap.Ns X.env.locals m /\ ∀(i:Nat)(x:Str)(v:V),X.N[i]? = some x->σ[i]? = some (some v)->Vis X.env.scope x -> ∃ u,RelV v u/\Look X.env s.heap m x u
 cell:∀ x c,X.env.cells.lookup x=some c -> ∃ v,s.heap.IsCell c v
 free:H X.env.locals=none
 freeC:∀ x c,X.env.cells.lookup x=some c->H c=none
 pin:∀ p∈X.pn++pins,s.heap.get? p.1=some p.2/\H p.1=none/\p.1≠X.env.locals/\p.1 ∉ X.fs /\ ∀ v,p.2.data ≠ .cell v
 hok:HOk X.prog X.w H s.heap
 len:σ.length=X.N.length
section
variable {pins:List (Addr×Obj)} {σ:List (Option V)} {H H':Hp} {s:Shared} {h':Heap}
theorem Cx.Ok.nofr(ok:X.Ok)(e:X.base.get? b=some o):b ∉ X.fs:=fun hb=>by
 have:=(ok.funs.mem hb).1
 rw[e]at this;cases this
theorem Inv.bs(I:Inv X pins σ H s):∀ b o,X.base.get? b=some o->s.heap.get? b=some o/\H b=none:=fun b o e=>
 ⟨I.base.keep b o (I.ok.bs b o e).1 (I.ok.bs b o e).2 (I.ok.nofr e) (I.ok.noex b o e),I.base.free b o (I.ok.bs b o e).1 (I.ok.bs b o e).2 (I.ok.noex b o e)⟩
theorem Inv.bk(I:Inv X pins σ H s):∀ b o,X.base.get? b=some o->s.heap.get? b=some o:=fun b o e=>(I.bs b o e).1
theorem Inv.mod(I:Inv X pins σ H s):Mod X.K X.mg X.base:=I.ok.mod
theorem Inv.kIn(I:Inv X pins σ H s):X.K.In s.heap:=I.ok.mod.kin.keeps I.bk
theorem Inv.lt(I:Inv X pins σ H s):X.env.locals<s.heap.objs.size:=let ⟨_,hn,_⟩:=I.loc;hn.lt
theorem Inv.sz(I:Inv X pins σ H s):X.s₀.heap.objs.size<=s.heap.objs.size:=ZR I.ok.above (Nat.le_of_lt I.lt)
theorem Inv.nofs(I:Inv X pins σ H s)(h:s.heap.objs.size<=a):a ∉ X.fs:=fun hb=>by
 obtain⟨_,o,ho,_⟩:=I.ok.funs.mem hb
 exact absurd (WC (ZW ho) (ZR I.sz h)) (Nat.lt_irrefl _)
theorem Inv.cne(I:Inv X pins σ H s):∀ x c,X.env.cells.lookup x=some c->c≠X.env.locals:=fun x c e z=>by
 obtain⟨v,o,ho,hd⟩:=I.cell x c e
 obtain⟨m,⟨o',es,ep,ho',hd',_⟩,_⟩:=I.loc
 rw[z,ho']at ho;cases ho;rw[hd']at hd;cases hd
theorem Inv.funs(I:Inv X pins σ H s):s.heap.FunFrames X.base X.outer:=by
 have all:∀(l:List Env),(∀ b∈frs l,b∈X.fs)->X.s₀.heap.FunFrames X.base l->s.heap.FunFrames X.base l:=by
  intro l
  induction l with
  | nil=>intro _ _;trivial
  | cons env r ih=>
   intro hs hl
   obtain⟨hk,⟨L,o,hf,hn,ho,hd⟩,hr⟩:=hl
   have hL:L∈X.fs:=hs L (by unfold frs;rw[filterMap_cons,hf];exact WF)
   obtain⟨sl,e⟩:=I.base.slot L o ho (I.ok.frf L hL) hL fun z=>I.ok.exfs L z hL
   exact⟨hk,⟨L,_,hf,hn,e,hd⟩,ih (fun b hb=>hs b (by unfold frs;rw[filterMap_cons,hf];exact ZZ _ hb)) hr⟩
 exact all X.outer (fun _ hb=>hb) I.ok.funs
theorem Inv.stack(I:Inv X pins σ H s):s.heap.FunFrames X.base X.stack:=by
 rcases I.ok.stk with e | ⟨e,hf⟩
 ·rw[e];exact I.funs
 ·rw[e]
  obtain⟨m,hn,_⟩:=I.loc
  refine .cons (by rw[I.ok.kind];decide) hf hn ?_ I.funs
  exact Heap.get?_none_of_le (ZR I.ok.bsz I.ok.above)
theorem Inv.stkSub(I:Inv X pins σ H s):∀ b∈frs X.stack,b∈X.env.locals::X.fs:=fun b hb=>by
 rcases I.ok.stk with e | ⟨e,hf⟩
 ·rw[e]at hb;exact ZZ _ hb
 ·rw[e]at hb
  unfold frs at hb
  rw[filterMap_cons,hf]at hb
  exact hb
theorem Inv.stkFree(I:Inv X pins σ H s):∀ b∈frs X.stack,H b=none:=fun b hb=>by
 rcases List.mem_cons.mp (I.stkSub b hb)with e | hb
 ·rw[e];exact I.free
 ·obtain⟨_,o,ho,_⟩:=I.ok.funs.mem hb
  exact I.base.free b o ho (I.ok.frf b hb) fun z=>I.ok.exfs b z hb
theorem Inv.step{g':Array GenState}{t':Nat}{d':Drawn}{ch:List Addr}(I:Inv X pins σ H s)
  (hch:∀ b∈ch,(b∈X.ex\/X.s₀.heap.objs.size<=b)/\b≠X.env.locals/\(∀ x c,X.env.cells.lookup x=some c->c≠b) /\ ∀ p∈X.pn++pins,p.1≠b)
  (keep:∀ b o,b≠X.env.locals->b ∉ X.fs->b ∉ ch->s.heap.get? b=some o->H b=none->h'.get? b=some o)
  (slot:∀ b o,b≠X.env.locals->b∈X.fs->b ∉ ch->s.heap.get? b=some o->H b=none -> ∃ sl,h'.get? b=some { o with slots:=sl }) (free:∀ b o,b ∉ ch->s.heap.get? b=some o->H b=none->H' b=none)
  (there:∀ b o,b ∉ ch->s.heap.get? b=some o -> ∃ o',h'.get? b=some o')
  (tups:∀ b xs,H b=some (.tup xs)->H' b=some (.tup xs)) (frzs:∀ b o u,H b=some (.frz o u)->H' b=some (.frz o u)) (tbls:∀ b ps,H b=some (.tbl ps) -> ∃ more,H' b=some (.tbl (ps++more)))
  (ns:∀ m,s.heap.Ns X.env.locals m->h'.Ns X.env.locals m) (hok:HOk X.prog X.w H' h') (hg:AllBare g') :
  Inv X pins σ H' { s with heap:=h',gens:=g',drawn:=d',toks:=t' }:=by
 have neL:∀ b o,X.s₀.heap.get? b=some o->b≠X.env.locals:=fun b o e=>WH (WC (ZW e) I.ok.above)
 have neC:∀ b o,X.s₀.heap.get? b=some o->b ∉ X.ex->b ∉ ch:=fun b o e hx hb=>by
  rcases(hch b hb).1 with z | z
  ·exact hx z
  ·exact absurd (WC (ZW e) z) (Nat.lt_irrefl _)
 have cellK:∀ x c,X.env.cells.lookup x=some c -> ∀ v,s.heap.IsCell c v->h'.IsCell c v:=fun x c e v ⟨o,ho,hd⟩=>by
  have nch:c ∉ ch:=fun z=>(hch c z).2.2.1 x c e rfl
  by_cases hc:c∈X.fs
  ·obtain⟨sl,q⟩:=slot c o (I.cne x c e) hc nch ho (I.freeC x c e)
   exact⟨_,q,hd⟩
  ·exact⟨o,keep c o (I.cne x c e) hc nch ho (I.freeC x c e),hd⟩
 refine⟨I.ok,I.os,hg,⟨fun b o e n hb hx=>?_,fun b o e n hb hx=>?_,fun b o e n hx=>?_,fun b o e hx=>?_,fun b xs e=>tups b xs (I.base.tups b xs e),fun b o xs e=>frzs b o xs (I.base.frzs b o xs e),fun b ps e=>?_⟩,?_,fun x c e=>?_,?_,fun x c e=>?_,fun p hp=>?_,hok,I.len⟩
 ·exact keep b o (neL b o e) hb (neC b o e hx) (I.base.keep b o e n hb hx) (I.base.free b o e n hx)
 ·obtain⟨sl,e1⟩:=I.base.slot b o e n hb hx
  obtain⟨sl',e2⟩:=slot b _ (neL b o e) hb (neC b o e hx) e1 (I.base.free b o e n hx)
  exact⟨sl',e2⟩
 ·obtain⟨o',e1⟩:=I.base.there b o e hx
  exact free b o' (neC b o e hx) e1 (I.base.free b o e n hx)
 ·obtain⟨o',e1⟩:=I.base.there b o e hx
  exact there b o' (neC b o e hx) e1
 ·obtain⟨m1,e1⟩:=I.base.tbls b ps e
  obtain⟨m2,e2⟩:=tbls b _ e1
  exact⟨m1++m2,by rw[e2,Array.append_assoc]⟩
 ·obtain⟨m,hn,hl⟩:=I.loc
  refine⟨m,ns m hn,fun i x v e1 e2 e3=>?_⟩
  obtain⟨u,r,l⟩:=hl i x v e1 e2 e3
  exists u,r
  rcases l with l | ⟨k,c,e,z⟩
  ·exact .inl l
  ·exact .inr ⟨k,c,e,cellK x c e _ z⟩
 ·obtain⟨v,z⟩:=I.cell x c e
  exact⟨v,cellK x c e v z⟩
 ·obtain⟨m,⟨o,_,_,ho,_⟩,_⟩:=I.loc
  exact free _ o (fun z=>(hch _ z).2.1 rfl) ho I.free
 ·obtain⟨v,o,ho,hd⟩:=I.cell x c e
  exact free c o (fun z=>(hch c z).2.2.1 x c e rfl) ho (I.freeC x c e)
 ·obtain⟨e,n,ne,nf,d⟩:=I.pin p hp
  have nch:p.1 ∉ ch:=fun z=>(hch p.1 z).2.2.2 p hp rfl
  exact⟨keep p.1 p.2 ne nf nch e n,free p.1 p.2 nch e n,ne,nf,d⟩
theorem Inv.un{t':Nat}(I:Inv X pins σ H s)(u:Un X.fs [] H H' s.heap h')(hok:HOk X.prog X.w H' h'):Inv X pins σ H' { s with heap:=h',toks:=t' }:=by
 obtain⟨m,⟨o,es,ep,ho,r⟩,_⟩:=id I.loc
 obtain⟨sl,hL⟩:=u.any ho I.free (by simp)
 exact I.step (g':=s.gens) (d':=s.drawn) (ch:=[]) (fun _ z=>nomatch z) (fun b o _ hb _ e n=>u.keep b o e n hb (by simp)) (fun b o _ hb _ e n=>u.slot b o e n hb (by simp)) (fun b o _ e n=>u.free b o e n (by simp)) (fun b o _ e=>u.there b o e (by simp)) u.tups u.frzs u.tbls (fun m' hm=>by
  obtain⟨o',es',ep',ho',r'⟩:=hm
  rw[ho]at ho';cases ho'
  exact⟨_,es',ep',hL,r'⟩) hok I.bare
theorem Inv.call{g':Array GenState}{t':Nat}{d':Drawn}{ch:List Addr}(I:Inv X pins σ H s)(u:Un (frs X.stack) ch H H' s.heap h')(hok:HOk X.prog X.w H' h')(hg:AllBare g')
  (hch:∀ b∈ch,(b∈X.ex\/X.s₀.heap.objs.size<=b)/\b≠X.env.locals/\(∀ x c,X.env.cells.lookup x=some c->c≠b) /\ ∀ p∈X.pn++pins,p.1≠b) :
  Inv X pins σ H' { s with heap:=h',gens:=g',drawn:=d',toks:=t' }:=by
 obtain⟨m,⟨o,es,ep,ho,r⟩,_⟩:=id I.loc
 obtain⟨sl,hL⟩:=u.any ho I.free fun z=>(hch _ z).2.1 rfl
 exact I.step (ch:=ch) hch (fun b o hL hb hc e n=>u.keep b o e n (fun z=>(List.mem_cons.mp (I.stkSub b z)).elim hL hb) hc) (fun b o _ _ hc e n=>u.any e n hc) (fun b o hc e n=>u.free b o e n hc) (fun b o hc e=>u.there b o e hc) u.tups u.frzs u.tbls (fun m' hm=>by
  obtain⟨o',es',ep',ho',r'⟩:=hm
  rw[ho]at ho';cases ho'
  exact⟨_,es',ep',hL,r'⟩) hok hg
theorem Inv.turned{t':Nat}{it:Addr}(I:Inv X pins σ H s)(k:∀ b o,b≠it->s.heap.get? b=some o->h'.get? b=some o)(hn:H it=none)(hL:it≠X.env.locals)
  (h1:it∈X.ex\/X.s₀.heap.objs.size<=it) (h2:∀ x c,X.env.cells.lookup x=some c->c≠it) (h3:∀ p∈X.pn++pins,p.1≠it):Inv X pins σ H { s with heap:=h',toks:=t' }:=by
 have nit:∀ b u,H b=some u->b≠it:=fun b u e z=>by rw[z,hn]at e;cases e
 refine I.step (g':=s.gens) (d':=s.drawn) (ch:=[it]) (fun b hb=>?_) (fun b o _ _ hc e _=>k b o (fun z=>hc (by simp[z])) e) (fun b o _ _ hc e _=>⟨o.slots,k b o (fun z=>hc (by simp[z])) e⟩) (fun _ _ _ _ n=>n)
  (fun b o hc e=>⟨o,k b o (fun z=>hc (by simp[z])) e⟩) (fun _ _ e=>e) (fun _ _ _ e=>e) (fun b ps e=>⟨#[],by rw[e];simp⟩) (fun m hm=>?_) (fun b u e=>?_) I.bare
 ·have e:b=it:=by simpa using hb
  subst e
  exact⟨h1,hL,h2,h3⟩
 ·obtain⟨o,es,ep,ho,r⟩:=hm
  exact⟨o,es,ep,k _ o (Ne.symm hL) ho,r⟩
 ·refine(I.hok b u e).stay (fun c v hc q=>k c v ?_ q) (fun _ q=>q) fun _ _ q=>q
  rcases hc with z | z
  ·rw[z];exact nit b u e
  ·exact nit c _ z
theorem Inv.tok(I:Inv X pins σ H s)(t:Nat):Inv X pins σ H { s with toks:=t }:=I.un (h':=s.heap) (t':=t) Un.refl I.hok
theorem Inv.kept{t':Nat}(I:Inv X pins σ H s)(k:∀ b u,s.heap.get? b=some u->h'.get? b=some u):Inv X pins σ H { s with heap:=h',toks:=t' }:=I.un (Un.kept k) (I.hok.kept k)
theorem Inv.laid{t':Nat}(I:Inv X pins σ H s)(k:∀ b u,s.heap.get? b=some u->h'.get? b=some u)(hp:s.heap.objs.size<=a)(new:ObjOk X.prog X.w (upd H a o) h' a o) :
  Inv X pins σ (upd H a o) { s with heap:=h',toks:=t' }:=I.un (Un.laid k hp (I.hok.fresh hp)) (I.hok.laid k hp new)
theorem Inv.write{t':Nat}(I:Inv X pins σ H s)(mu:Mut (H x))(he:e=x\/H e=some (.own x))(k:∀ b u,b≠e->s.heap.get? b=some u->h'.get? b=some u)(heo:∃ u,h'.get? e=some u)
  (new:ObjOk X.prog X.w (upd H x o) h' x o):Inv X pins σ (upd H x o) { s with heap:=h',toks:=t' }:=I.un (Un.write mu he k heo) (I.hok.write mu he k heo new)
theorem Inv.pins_of(I:Inv X pins σ H s)(h:∀ p∈pins',s.heap.get? p.1=some p.2/\H p.1=none/\p.1≠X.env.locals/\p.1 ∉ X.fs /\ ∀ v,p.2.data ≠ .cell v):Inv X pins' σ H s:=
 ⟨I.ok,I.os,I.bare,I.base,I.loc,I.cell,I.free,I.freeC,fun p hp=>(List.mem_append.mp hp).elim (fun z=>I.pin p (mem_append_left _ z)) (h p),I.hok,I.len⟩
theorem q394{N:List Str}(hN:N.Nodup){i j:Nat}(a:N[i]? = some x)(b:N[j]? = some x):i=j:=by
 obtain⟨h1,e1⟩:=List.getElem?_eq_some_iff.mp a
 obtain⟨h2,e2⟩:=List.getElem?_eq_some_iff.mp b
 exact(getElem_inj hN).mp (e1.trans e2.symm)
theorem q287{M:Model}{A:Around}{E:VS}{i:Nat}(I:Inv X pins σ H s)(hN:X.N.Nodup)(hi:X.N[i]? = some x)(hx:Loc X.env.scope x)(r:RelV v u)
  (h:∀ s',Inv X pins (σ.set i (some v)) H s'->(∃ a,Heap.SameBut a s.heap s'.heap/\(a=X.env.locals\/X.env.cells.lookup x=some a))->Q () s') (hf:X.fn x=true\/X.env.scope.names.lookup x=some .local:=by first | exact .inl rfl | exact .inr rfl | assumption):wpAny M A (storeName X.env x u) Q E s:=by
 obtain⟨m,hn,hl⟩:=id I.loc
 have hcls:(X.env.scope.kind == .class||(X.env.scope.kind == .module&&X.env.locals != X.env.globals))=false:=by rw[I.ok.kind];rfl
 have hiσ:i<σ.length:=by rw[I.len];exact(List.getElem?_eq_some_iff.mp hi).1
 have cne:=I.cne
 have tracked:∀{a:Addr}{h':Heap},(∃ o,s.heap.get? a=some o/\H a=none)->Heap.SameBut a s.heap h'->HOk X.prog X.w H h':=fun {a h'} ha hs b ob e=>by
  obtain⟨_,_,hfree⟩:=ha
  refine(I.hok b ob e).stay (fun c w' hc q=>(hs.2 c ?_).trans q) (fun _ q=>q) fun _ _ q=>q
  rintro rfl
  rcases hc with rfl | hc
  ·rw[hfree]at e;cases e
  ·rw[hfree]at hc;cases hc
 rcases hx with hk | hk
 ·refine wpAny_storeName_local hk hn (fun h' hn' hs=>?_) hcls
  obtain⟨oL,_,_,hoL,_⟩:=id hn
  refine h _ ⟨I.ok,I.os,I.bare,⟨fun b o e n hb hx=>?_,fun b o e n hb hx=>?_,I.base.free,fun b o e hx=>?_,I.base.tups,I.base.frzs,I.base.tbls⟩,⟨_,hn',fun j y v' e1 e2 e3=>?_⟩,fun y c e=>?_,I.free,I.freeC,fun p hp=>?_,tracked ⟨oL,hoL,I.free⟩ hs,by simpa using I.len⟩ ⟨_,hs,.inl rfl⟩
  ·exact(hs.2 b (WH (WC (ZW e) I.ok.above))).trans (I.base.keep b o e n hb hx)
  ·obtain⟨sl,e1⟩:=I.base.slot b o e n hb hx
   exact⟨sl,(hs.2 b (WH (WC (ZW e) I.ok.above))).trans e1⟩
  ·obtain⟨o',e1⟩:=I.base.there b o e hx
   exact⟨o',(hs.2 b (WH (WC (ZW e) I.ok.above))).trans e1⟩
  ·by_cases hj:j=i
   ·subst hj
    rw[hi]at e1;cases e1
    rw[getElem?_set_self hiσ]at e2
    cases e2
    exact⟨u,r,.inl ⟨hk,by simp⟩⟩
   ·rw[getElem?_set_ne (Ne.symm hj)]at e2
    obtain⟨u',r',q⟩:=hl j y v' e1 e2 e3
    exists u',r'
    rcases q with ⟨k,e⟩ | ⟨k,c,e,z⟩
    ·refine .inl ⟨k,?_⟩
     have:y≠x:=fun e=>hj (q394 hN e1 (e▸hi))
     simp[this,e]
    ·exact .inr ⟨k,c,e,z.sameBut hs (cne y c e)⟩
  ·obtain⟨w',z⟩:=I.cell y c e
   exact⟨w',z.sameBut hs (cne y c e)⟩
  ·obtain⟨e,n,ne,nf,d⟩:=I.pin p hp
   exact⟨(hs.2 p.1 ne).trans e,n,ne,nf,d⟩
 ·have hfn:X.fn x=true:=by
   rcases hf with z | z
   ·exact z
   ·rw[z]at hk;cases hk
  obtain⟨c,hc⟩:=I.ok.has x (.inl hk)
  obtain⟨w',z⟩:=I.cell x c hc
  refine wpAny_storeName_cell I.ok.kind hk hc z (fun h' hc' hs=>?_)
  obtain⟨oc,hoc,hocd⟩:=id z
  refine h { s with heap:=h' } ⟨I.ok,I.os,I.bare,⟨fun b o e n hb hx=>?_,fun b o e n hb hx=>?_,I.base.free,fun b o e hx=>?_,I.base.tups,I.base.frzs,I.base.tbls⟩,⟨m,hn.sameBut hs (Ne.symm (cne x c hc)),fun j y v' e1 e2 e3=>?_⟩,fun y c' e=>?_,I.free,I.freeC,fun p hp=>?_,tracked ⟨oc,hoc,I.freeC x c hc⟩ hs,by simpa using I.len⟩ ⟨c,hs,.inr hc⟩
  ·exact(hs.2 b (WH (WC (ZW e) (I.ok.cab x c hfn hc)))).trans (I.base.keep b o e n hb hx)
  ·obtain⟨sl,e1⟩:=I.base.slot b o e n hb hx
   exact⟨sl,(hs.2 b (WH (WC (ZW e) (I.ok.cab x c hfn hc)))).trans e1⟩
  ·obtain⟨o',e1⟩:=I.base.there b o e hx
   exact⟨o',(hs.2 b (WH (WC (ZW e) (I.ok.cab x c hfn hc)))).trans e1⟩
  ·by_cases hj:j=i
   ·subst hj
    rw[hi]at e1;cases e1
    rw[getElem?_set_self hiσ]at e2
    cases e2
    exact⟨u,r,.inr ⟨.inl hk,c,hc,hc'⟩⟩
   ·rw[getElem?_set_ne (Ne.symm hj)]at e2
    obtain⟨u',r',q⟩:=hl j y v' e1 e2 e3
    exists u',r'
    rcases q with q | ⟨k,c',e,z'⟩
    ·exact .inl q
    ·refine .inr ⟨k,c',e,z'.sameBut hs ?_⟩
     rintro rfl
     exact hj (q394 hN e1 (I.ok.inj _ _ _ e hc▸hi))
  ·by_cases hcc:c'=c
   ·subst hcc;exact⟨_,hc'⟩
   ·obtain⟨w2,z2⟩:=I.cell y c' e
    exact⟨w2,z2.sameBut hs hcc⟩
  ·obtain⟨e,n,ne,nf,d⟩:=I.pin p hp
   refine⟨(hs.2 p.1 ?_).trans e,n,ne,nf,d⟩
   intro q
   rw[q,hoc]at e
   have q':oc=p.2:=Option.some.inj e
   exact d w' (by rw[<- q'];exact hocd)
theorem q199{M:Model}{A:Around}{E:VS}{i:Nat}(I:Inv X pins σ H s)(hN:X.N.Nodup)(hi:X.N[i]? = some x)(hx:Loc X.env.scope x)(r:RelV v u)
  (h:∀ s',Inv X pins (σ.set i (some v)) H s'->Q () s') (hf:X.fn x=true\/X.env.scope.names.lookup x=some .local:=by first | exact .inl rfl | exact .inr rfl | assumption):wpAny M A (storeName X.env x u) Q E s:=
 q287 I hN hi hx r (fun s' I' _=>h s' I') hf
theorem Inv.call'{s':Shared}(I:Inv X pins σ H s)(ho:s'.os=s.os)(u:Un (frs X.stack) ch H H' s.heap s'.heap)(hok:HOk X.prog X.w H' s'.heap)(hg:AllBare s'.gens)
  (hch:∀ b∈ch,(b∈X.ex\/X.s₀.heap.objs.size<=b)/\b≠X.env.locals/\(∀ x c,X.env.cells.lookup x=some c->c≠b) /\ ∀ p∈X.pn++pins,p.1≠b):Inv X pins σ H' s':=by
 obtain⟨h',g',d',t',o'⟩:=s'
 have e:o'=s.os:=ho
 subst e
 exact I.call (g':=g') (t':=t') (d':=d') u hok hg hch
end
abbrev XK:=Value->Option Addr->Hp->Prop
abbrev St:=List (Option V)
abbrev VK:=V->Hp->Prop
abbrev TE:=St->Hp->VK->Prop
abbrev TT:=St->Hp->(Bool->Hp->Prop)->Prop
abbrev TA:=St->Hp->(List V->Hp->Prop)->Prop
structure Ends where
 nx:St->Hp->Prop
 rt:VK
 bk:St->Hp->Prop:=fun _ _=>False
 ct:St->Hp->Prop:=fun _ _=>False
abbrev TS:=Ends->St->Hp->Prop
inductive EP(X:Cx)(pins:List (Addr×Obj))(σ:St)(Q:VK)(u:Value)(s':Shared):Prop
 |mk(v:V)(H':Hp)(_:Inv X pins σ H' s')(_:RelV v u)(_:Q v H')
inductive TP(X:Cx)(pins:List (Addr×Obj))(σ:St)(Q:Bool->Hp->Prop)(b:Bool)(s':Shared):Prop
 |mk(H':Hp)(_:Inv X pins σ H' s')(_:Q b H')
inductive AP(X:Cx)(pins:List (Addr×Obj))(σ:St)(Q:List V->Hp->Prop)(us:List Value)(s':Shared):Prop
 |mk(vs:List V)(H':Hp)(_:Inv X pins σ H' s')(_:Vals vs us)(_:Q vs H')
inductive NP(X:Cx)(pins:List (Addr×Obj))(N:St->Hp->Prop)(s':Shared):Prop
 |mk(σ':St)(H':Hp)(_:Inv X pins σ' H' s')(_:N σ' H')
inductive RP(X:Cx)(pins:List (Addr×Obj))(R:VK)(u:Value)(s':Shared):Prop
 |mk(v:V)(σ':St)(H':Hp)(_:Inv X pins σ' H' s')(_:RelV v u)(_:R v H')
def SP(X:Cx)(pins:List (Addr×Obj))(D:Ends)(f:Flow)(s':Shared):Prop:=
 match f with
 | .next=>NP X pins D.nx s'
 | .brk=>NP X pins D.bk s'
 | .cont=>NP X pins D.ct s'
 | .ret u=>RP X pins D.rt u s'
def PE(X:Cx)(e:Expr)(t:TE):Prop:=
 ∀(pins:List (Addr×Obj)) (s:Shared) (σ:St) (H:Hp) (Q:VK),Inv X pins σ H s->t σ H Q->wpAny (model X.prog X.w) X.A (eval e X.env) (EP X pins σ Q) X.xe s
def PT(X:Cx)(e:Expr)(t:TT):Prop:=
 ∀(pins:List (Addr×Obj)) (s:Shared) (σ:St) (H:Hp) (Q:Bool->Hp->Prop),Inv X pins σ H s->t σ H Q->wpAny (model X.prog X.w) X.A (isTrue e X.env (eval e X.env)) (TP X pins σ Q) X.xe s
def PW(X:Cx)(e:Expr)(t:TT):Prop:=
 ∀(whole:Sem Value) (pins:List (Addr×Obj)) (s:Shared) (σ:St) (H:Hp) (Q:Bool->Hp->Prop),Inv X pins σ H s->t σ H Q->wpAny (model X.prog X.w) X.A (isTrue e X.env whole) (TP X pins σ Q) X.xe s
theorem PW.pt(h:PW X e t):PT X e t:=h _
def PA(X:Cx)(es:List Expr)(t:TA):Prop:=
 ∀(pos:Pos) (pins:List (Addr×Obj)) (s:Shared) (σ:St) (H:Hp) (Q:List V->Hp->Prop),Inv X pins σ H s->t σ H Q->wpAny (model X.prog X.w) X.A (spliced (backTo pos (starEach es X.env))) (AP X pins σ Q) X.xe s
def PS(X:Cx)(st:Stmt)(t:TS):Prop:=
 ∀(pins:List (Addr×Obj)) (s:Shared) (σ:St) (H:Hp) (D:Ends),Inv X pins σ H s->t D σ H->wpAny (model X.prog X.w) X.A (exec st X.env) (SP X pins D) X.xe s
def PSs(X:Cx)(st:List Stmt)(t:TS):Prop:=
 ∀(pins:List (Addr×Obj)) (s:Shared) (σ:St) (H:Hp) (D:Ends),Inv X pins σ H s->t D σ H->wpAny (model X.prog X.w) X.A (execs st X.env) (SP X pins D) X.xe s
theorem thn{α:Type}{t:Sem α}{Q Q':α->Shared->Prop}{M:Model}{A:Around}{E:VS}{s:Shared}(h:wpAny M A t Q E s)(hQ:∀ a s,Q a s->Q' a s):wpAny M A t Q' E s:=WW h hQ fun _ _ x=>x
section
inductive tVar(i:Nat)(σ:St)(H:Hp)(Q:VK):Prop
 |mk(v:V)(_:σ[i]? = some (some v))(_:Q v H)
def tC(v:V):TE:=fun _ H Q=>Q v H
theorem pe_var{i:Nat}{pos:Pos}(hN:X.N[i]? = some x)(hv:Vis X.env.scope x)(hd:(x==("__debug__" : Str))=false:=by decide) (hcd:(x==("__classdict__" : Str))=false:=by decide):PE X (.Name x pos) (tVar i):=by
 intro pins s σ H Q I h
 obtain⟨v,e,h⟩:=h
 obtain⟨m,hn,hl⟩:=I.loc
 obtain⟨u,r,l⟩:=hl i x v hN e hv
 have fin:EP X pins σ Q u s:=⟨v,H,I,r,h⟩
 rcases l with ⟨hk,hm⟩ | ⟨hk,c,hc,hcell⟩
 ·exact wpAny_Name (wpAny_loadName_local I.ok.kind hk hn hm fin) hd
 ·rcases hk with hk | hk
  ·exact wpAny_Name (wpAny_loadName_cell I.ok.kind hk hc hcell fin) hd
  ·exact wpAny_Name (wpAny_loadName_free I.ok.kind hk hc hcell fin hcd) hd
theorem q14{i j pos}:PE X (.Constant (.int i) j pos) (tC (.int i)):=fun _ _ _ H _ I h=>wpAny_Constant_int ⟨.int i,H,I.tok _,⟨_,rfl⟩,h⟩
theorem pe_bl{b j pos}:PE X (.Constant (.bool b) j pos) (tC (.bl b)):=fun _ _ _ H _ I h=>Constant_bool ⟨.bl b,H,I,rfl,h⟩
theorem q95{j pos}:PE X (.Constant .none j pos) (tC .non):=fun _ _ _ H _ I h=>Constant_none ⟨.non,H,I,rfl,h⟩
theorem q34{x j pos}:PE X (.Constant (.str x) j pos) (tC (.str x)):=fun _ _ _ H _ I h=>Calls.Constant_str ⟨.str x,H,I.tok _,⟨_,rfl⟩,h⟩
def Gl(X:Cx)(x:Str):Prop:=X.env.kindOf x=some .globalImplicit
theorem q232{E:VS}{pos:Pos}(I:Inv X pins σ H s)(hg:Gl X x)(hm:X.mg x=some u)(h:Q u s)
  (hd:(x==("__debug__" : Str))=false:=by decide):wpAny (model X.prog X.w) X.A (eval (.Name x pos) X.env) Q E s:=
 Calls.Name_function_global I.ok.kind hg (Calls.loadGlobal_global (by rw[I.ok.glob];exact I.mod.glob.keeps I.bk) hm h) hd
theorem q362{E:VS}{pos:Pos}(I:Inv X pins σ H s)(hg:Gl X x)(hm:X.mg x=none)(hv:bootBuiltins x=some u)(h:Q u s)
  (hn:x ≠ "__name__" := by decide) (hd:(x==("__debug__" : Str))=false:=by decide):wpAny (model X.prog X.w) X.A (eval (.Name x pos) X.env) Q E s:=by
 obtain⟨mb,h1,h2⟩:=I.mod.blt
 exact Calls.Name_function_global I.ok.kind hg (Calls.loadGlobal_builtin (by rw[I.ok.glob];exact I.mod.glob.keeps I.bk) hm (by rw[I.ok.blt];exact h1.keeps I.bk) ((h2 x hn).trans hv) h) hd
theorem q233{pos:Pos}(hg:Gl X x)(hm:X.mg x=some u)(r:RelV v u)(hd:(x==("__debug__" : Str))=false:=by decide):PE X (.Name x pos) (tC v):=
 fun _ _ _ H _ I h=>q232 I hg hm ⟨v,H,I,r,h⟩ hd
theorem q185{pos:Pos}(hg:Gl X x)(hm:X.mg x=none)(hv:bootBuiltins x=some u)(r:RelV v u)(hn:x ≠ "__name__" := by decide) (hd:(x==("__debug__" : Str))=false:=by decide):PE X (.Name x pos) (tC v):=
 fun _ _ _ H _ I h=>q362 I hg hm hv ⟨v,H,I,r,h⟩ hn hd
variable{a b:Expr}{ta tb:TE}{pos:Pos}
inductive isB(x:V)(H:Hp)(Q:Bool->Hp->Prop):Prop
 |mk(c:Bool)(_:x = .bl c)(_:Q c H)
def tB(t:TE):TT:=fun σ H Q=>t σ H fun x H1=>isB x H1 Q
theorem q87{e:Expr}(h:PE X e t)(he:∀ whole,isTrue e X.env whole=(do let v <- whole;standAt e.pos;holding [v] (truthy v)):=by intro _;rfl):PT X e (tB t):=by
 intro pins s σ H Q I hw
 refine isTrue_plain (thn (h pins s σ H _ I hw) fun v s1 ⟨x,H1,I1,r1,q1⟩=>?_) (he _)
 obtain⟨d,rfl,q⟩:=q1
 cases r1
 exact wpAny_truthy_bool ⟨H1,I1,q⟩
variable{tA tB':TT}{rest:List Expr}
def tAnd(t u:TT):TT:=fun σ H Q=>t σ H fun c H1=>if c=true then u σ H1 Q else Q false H1
def tOr(t u:TT):TT:=fun σ H Q=>t σ H fun c H1=>if c=true then Q true H1 else u σ H1 Q
def tNot(t:TT):TT:=fun σ H Q=>t σ H fun c H1=>Q (!c) H1
theorem q186(ha:PT X a tA):PW X (.BoolOp .And [a] pos) tA:=by
 intro wh pins s σ H Q I h
 refine isTrue_and (thn (ha pins s σ H Q I h) fun c s1 e=>?_)
 cases c with
 | true=>exact isTrue_and_nil e
 | false=>exact e
theorem q115(ha:PT X a tA):PW X (.BoolOp .Or [a] pos) tA:=by
 intro wh pins s σ H Q I h
 refine isTrue_or (thn (ha pins s σ H Q I h) fun c s1 e=>?_)
 cases c with
 | false=>exact isTrue_or_nil e
 | true=>exact e
theorem q288(ha:PT X a tA)(hb:PW X (.BoolOp .And (b::rest) pos) tB'):PW X (.BoolOp .And (a::b::rest) pos) (tAnd tA tB'):=by
 intro wh pins s σ H Q I h
 refine isTrue_and (thn (ha pins s σ H _ I h) fun c s1 ⟨H1,I1,q1⟩=>?_)
 cases c with
 | true=>exact hb wh pins s1 σ H1 Q I1 q1
 | false=>exact⟨H1,I1,q1⟩
theorem pw_or(ha:PT X a tA)(hb:PW X (.BoolOp .Or (b::rest) pos) tB'):PW X (.BoolOp .Or (a::b::rest) pos) (tOr tA tB'):=by
 intro wh pins s σ H Q I h
 refine isTrue_or (thn (ha pins s σ H _ I h) fun c s1 ⟨H1,I1,q1⟩=>?_)
 cases c with
 | true=>exact⟨H1,I1,q1⟩
 | false=>exact hb wh pins s1 σ H1 Q I1 q1
theorem q116(ha:PT X a tA):PT X (.UnaryOp .Not a pos) (tNot tA):=by
 intro pins s σ H Q I h
 exact isTrue_not (thn (ha pins s σ H (fun c H1=>Q (!c) H1) I h) fun c s' ⟨H1,I1,q⟩=>⟨H1,I1,q⟩)
def tAndV(ta tb:TE):TE:=fun σ H Q=>ta σ H fun x H1=>isB x H1 fun c H1=>if c=true then tb σ H1 Q else Q (.bl false) H1
def tOrV(ta tb:TE):TE:=fun σ H Q=>ta σ H fun x H1=>isB x H1 fun c H1=>if c=true then Q (.bl true) H1 else tb σ H1 Q
def tNotV(ta:TE):TE:=fun σ H Q=>ta σ H fun x H1=>isB x H1 fun c H1=>Q (.bl (!c)) H1
theorem q256{op}(h:PE X a t):PE X (.BoolOp op [a] pos) t:=fun pins s σ H Q I hw=>BoolOp_one (h pins s σ H Q I hw)
theorem q166(ha:PE X a ta)(hb:PE X (.BoolOp .And (b::rest) pos) tb):PE X (.BoolOp .And (a::b::rest) pos) (tAndV ta tb):=by
 intro pins s σ H Q I h
 refine BoolOp_and (thn (ha pins s σ H _ I h) fun v s1 ⟨x,H1,I1,r1,q1⟩=>?_)
 obtain⟨c,rfl,q1⟩:=q1
 cases r1
 refine wpAny_truthy_bool ?_
 cases c with
 | true=>exact hb pins s1 σ H1 Q I1 q1
 | false=>exact⟨.bl false,H1,I1,rfl,q1⟩
theorem pe_or(ha:PE X a ta)(hb:PE X (.BoolOp .Or (b::rest) pos) tb):PE X (.BoolOp .Or (a::b::rest) pos) (tOrV ta tb):=by
 intro pins s σ H Q I h
 refine BoolOp_or (thn (ha pins s σ H _ I h) fun v s1 ⟨x,H1,I1,r1,q1⟩=>?_)
 obtain⟨c,rfl,q1⟩:=q1
 cases r1
 refine wpAny_truthy_bool ?_
 cases c with
 | false=>exact hb pins s1 σ H1 Q I1 q1
 | true=>exact⟨.bl true,H1,I1,rfl,q1⟩
theorem pe_not(ha:PE X a ta):PE X (.UnaryOp .Not a pos) (tNotV ta):=by
 intro pins s σ H Q I h
 refine UnaryOp_ (thn (ha pins s σ H _ I h) fun v s1 ⟨x,H1,I1,r1,q1⟩=>?_)
 obtain⟨c,rfl,q1⟩:=q1
 cases r1
 exact not_of (wpAny_truthy_bool ⟨.bl (!c),H1,I1,rfl,q1⟩)
def tIf(t:TT)(ta tb:TE):TE:=fun σ H Q=>t σ H fun c H1=>if c=true then ta σ H1 Q else tb σ H1 Q
theorem pe_ifExp(hc:PT X c tA)(ha:PE X a ta)(hb:PE X b tb):PE X (.IfExp c a b pos) (tIf tA ta tb):=by
 intro pins s σ H Q I h
 refine wpAny_IfExp (thn (hc pins s σ H _ I h) fun d s1 ⟨H1,I1,q1⟩=>?_)
 cases d with
 | true=>exact ha pins s1 σ H1 Q I1 q1
 | false=>exact hb pins s1 σ H1 Q I1 q1
end
def SqL(K:Fg)(H:Hp)(a:Addr)(xs:List V):Prop:=
 Rd H a (.lst xs) \/
  ∃(o:Obj)(its:Array Value)(n:Nat),K.lookup a=some o/\o.cls = .type "list" /\ o.dict=none/\o.data = .seq its n/\its.size<=sizeLine/\Vals xs its.toList
def SqT(K:Fg)(H:Hp)(a:Addr)(xs:List V):Prop:=
 Rd H a (.tup xs) \/
  ∃(o:Obj)(its:Array Value)(n:Nat),K.lookup a=some o/\o.cls = .type "tuple" /\ o.data = .seq its n/\its.size<=sizeLine/\Vals xs its.toList
noncomputable def absV:Value->Option V
 | .none=>some .non
 | .bool b=>some (.bl b)
 | .int i _=>some (.int i)
 | .str x _=>some (.str x)
 | .bytes b _=>some (.byt b)
 | .float b _=>some (.flt b)
 | .ref a=>some (.ref a)
 | .type n=>some (.ty n)
 | _=>none
theorem RelV.abs(r:RelV x u):absV u=some x:=by
 cases x with
 | non=>cases r;rfl
 | bl _=>cases r;rfl
 | int _=>obtain⟨t,rfl⟩:=r;rfl
 | str _=>obtain⟨t,rfl⟩:=r;rfl
 | byt _=>obtain⟨t,rfl⟩:=r;rfl
 | flt _=>obtain⟨t,rfl⟩:=r;rfl
 | ref _=>cases r;rfl
 | ty _=>cases r;rfl
theorem RelV.inj(r:RelV x u)(q:RelV y u):x=y:=Option.some.inj (r.abs.symm.trans q.abs)
theorem Vals.inj:∀{xs ys:List V}{us:List Value},Vals xs us->Vals ys us->xs=ys
 | _,_,_,.nil,.nil=>rfl
 | _,_,_,.cons r t,.cons r' t'=>by rw[r.inj r',Vals.inj t t']
section
variable {pins:List (Addr×Obj)} {σ:St} {H:Hp} {s:Shared} {a:Addr} {xs ys:List V}
theorem SqL.of{K:Fg}(h:H a=some (.lst xs)):SqL K H a xs:=.inl (.inl h)
theorem SqT.of{K:Fg}(h:H a=some (.tup xs)):SqT K H a xs:=.inl (.inl h)
theorem Inv.list(I:Inv X pins σ H s)(h:SqL X.K H a xs):∃ its:List Value,Vals xs its/\PlainL s.heap a its.toArray/\xs.length<=sizeLine:=by
 rcases h with h | ⟨o,its,n,hk,hc,hd,hs,hz,r⟩
 ·obtain⟨z,its,n,r,e⟩:=h.ok I.hok
  exact⟨its,r,⟨_,n,e,rfl,rfl,rfl⟩,z⟩
 ·exists its.toList,r,⟨o,n,I.kIn a o hk,hc,hd,by simpa using hs⟩
  have e:=r.length
  simp only[ZY]at e
  lia
theorem Inv.tuple(I:Inv X pins σ H s)(h:SqT X.K H a xs):∃ its:List Value,Vals xs its/\IsTup s.heap a its.toArray/\xs.length<=sizeLine:=by
 rcases h with h | ⟨o,its,n,hk,hc,hs,hz,r⟩
 ·obtain⟨z,its,r,p⟩:=h.ok I.hok
  exact⟨its,r,p,z⟩
 ·exists its.toList,r,⟨o,I.kIn a o hk,hc,n,by simpa using hs⟩
  have e:=r.length
  simp only[ZY]at e
  lia
theorem Inv.list_inj(I:Inv X pins σ H s)(h:SqL X.K H a xs)(h':SqL X.K H a ys):xs=ys:=by
 obtain⟨its,r,⟨o,n,e,_,_,d⟩,_⟩:=I.list h
 obtain⟨its',r',⟨o',n',e',_,_,d'⟩,_⟩:=I.list h'
 rw[e]at e';cases e'
 rw[d]at d'
 injection d' with d1 _
 have:its=its':=by simpa using congrArg Array.toList d1
 subst this
 exact r.inj r'
theorem Inv.tuple_inj(I:Inv X pins σ H s)(h:SqT X.K H a xs)(h':SqT X.K H a ys):xs=ys:=by
 obtain⟨its,r,⟨o,e,_,n,d⟩,_⟩:=I.tuple h
 obtain⟨its',r',⟨o',e',_,n',d'⟩,_⟩:=I.tuple h'
 rw[e]at e';cases e'
 rw[d]at d'
 injection d' with d1 _
 have:its=its':=by simpa using congrArg Array.toList d1
 subst this
 exact r.inj r'
end
noncomputable abbrev Cx.wish(X:Cx)(E:VS):Cx:={ X with xe:=E }
noncomputable abbrev Cx.nox(X:Cx):Cx:=X.wish fun _ _=>False
theorem Cx.Ok.wish{X:Cx}(ok:X.Ok)(E:VS):(X.wish E).Ok:=
 ⟨ok.mod,ok.kind,ok.glob,ok.blt,ok.above,ok.inj,ok.has,ok.cab,ok.hd,ok.frames,ok.stk,ok.exf,ok.bs,ok.bsz,ok.noex,ok.exfs,ok.funs,ok.frf⟩
theorem Cx.Ok.unwish{X:Cx}(ok:(X.wish E).Ok):X.Ok:=
 ⟨ok.mod,ok.kind,ok.glob,ok.blt,ok.above,ok.inj,ok.has,ok.cab,ok.hd,ok.frames,ok.stk,ok.exf,ok.bs,ok.bsz,ok.noex,ok.exfs,ok.funs,ok.frf⟩
section
variable {pins:List (Addr×Obj)} {σ:St} {H:Hp} {s:Shared} {E:VS}
theorem Inv.wish(I:Inv X pins σ H s)(E:VS):Inv (X.wish E) pins σ H s:=⟨I.ok.wish E,I.os,I.bare,I.base,I.loc,I.cell,I.free,I.freeC,I.pin,I.hok,I.len⟩
theorem Inv.unwish(I:Inv (X.wish E) pins σ H s):Inv X pins σ H s:=⟨I.ok.unwish,I.os,I.bare,I.base,I.loc,I.cell,I.free,I.freeC,I.pin,I.hok,I.len⟩
theorem SP.unwish(h:SP (X.wish E) pins D f s'):SP X pins D f s':=by
 cases f with
 | next=>obtain⟨σ',H',I,q⟩:=h;exact⟨σ',H',I.unwish,q⟩
 | brk=>obtain⟨σ',H',I,q⟩:=h;exact⟨σ',H',I.unwish,q⟩
 | cont=>obtain⟨σ',H',I,q⟩:=h;exact⟨σ',H',I.unwish,q⟩
 | ret u=>obtain⟨v,σ',H',I,r,q⟩:=h;exact⟨v,σ',H',I.unwish,r,q⟩
theorem PSs.nox{st:List Stmt}{t:TS}(h:PSs X.nox st t):PSs X st t:=fun pins s σ H D I hw=>
 WW (h pins s σ H D (I.wish _) hw) (fun _ _ q=>q.unwish) fun _ _ z=>False.elim z
end
section
variable {st:Stmt} {rest:List Stmt} {t u:TS} {e:Expr} {te:TE} {pos:Pos}
def tNext:TS:=fun D σ H=>D.nx σ H
def tSeq(t u:TS):TS:=fun D σ H=>t { D with nx:=u D } σ H
theorem q21:PSs X [] tNext:=fun _ _ σ H _ I h=>wpAny_execs_nil ⟨σ,H,I,h⟩
theorem q11(h1:PS X st t)(h2:PSs X rest u):PSs X (st::rest) (tSeq t u):=by
 intro pins s σ H D I h
 refine wpAny_execs_cons (thn (h1 pins s σ H { D with nx:=u D } I h) fun f s1 q=>?_)
 cases f with
 | next=>
  obtain⟨σ',H',I',q⟩:=q
  exact h2 pins s1 σ' H' D I' q
 | ret v=>exact q
 | brk=>exact q
 | cont=>exact q
theorem q16(h1:PS X st t):PSs X [st] t:=by
 intro pins s σ H D I h
 refine wpAny_execs_cons (thn (h1 pins s σ H D I h) fun f s1 q=>?_)
 cases f with
 | next=>exact wpAny_execs_nil q
 | ret v=>exact q
 | brk=>exact q
 | cont=>exact q
theorem Inv.quiet(I:Inv X pins σ H s):interactive X.env=false:=by simp[interactive,I.ok.kind]
def tDrop(te:TE):TS:=fun D σ H=>te σ H fun _ H1=>D.nx σ H1
theorem q137(he:PE X e te)(hs:swapsWith e none pos.line X.env=pure false:=by rfl):PS X (.Expr e pos) (tDrop te):=by
 intro pins s σ H D I h
 exact wpAny_Expr_any (thn (he pins s σ H _ I h) fun v s1 ⟨x,H1,I1,r1,q1⟩=>⟨σ,H1,I1,q1⟩) I.quiet hs
def tRet(te:TE):TS:=fun D σ H=>te σ H D.rt
theorem q19(he:PE X e te):PS X (.Return (some e) pos) (tRet te):=by
 intro pins s σ H D I h
 exact wpAny_Return_some (thn (he pins s σ H _ I h) fun v s1 ⟨x,H1,I1,r1,q1⟩=>⟨x,σ,H1,I1,r1,q1⟩)
def tIfS(c:TT)(t u:TS):TS:=fun D σ H=>c σ H fun b H1=>if b=true then t D σ H1 else u D σ H1
theorem ps_if(hc:PT X c tc)(ha:PSs X a t)(hb:PSs X b u):PS X (.If c a b pos) (tIfS tc t u):=by
 intro pins s σ H D I h
 refine wpAny_If (thn (hc pins s σ H _ I h) fun d s1 ⟨H1,I1,q1⟩=>?_)
 cases d with
 | true=>exact ha pins s1 σ H1 D I1 q1
 | false=>exact hb pins s1 σ H1 D I1 q1
def tNever:TS:=fun _ _ _=>False
theorem q395:PS X st tNever:=fun _ _ _ _ _ _ h=>h.elim
end
abbrev TG:=V->St->Hp->(St->Hp->Prop)->Prop
abbrev TGs:=List V->St->Hp->(St->Hp->Prop)->Prop
def PG(X:Cx)(target:Expr)(t:TG):Prop:=
 ∀(pins:List (Addr×Obj)) (s:Shared) (σ:St) (H:Hp) (v:V) (u:Value) (Q:St->Hp->Prop),Inv X pins σ H s->RelV v u->t v σ H Q ->
  wpAny (model X.prog X.w) X.A (assign target X.env u) (fun _ s'=>NP X pins Q s') X.xe s
def PGs(X:Cx)(ts:List Expr)(t:TGs):Prop:=
 ∀(pins:List (Addr×Obj)) (s:Shared) (σ:St) (H:Hp) (vs:List V) (us:List Value) (Q:St->Hp->Prop),Inv X pins σ H s->Vals vs us->t vs σ H Q ->
  wpAny (model X.prog X.w) X.A (assignInOrder ((assignEach ts X.env).map (·.2)) us) (fun _ s'=>NP X pins Q s') X.xe s
abbrev TSet:=V->V->V->Hp->(Hp->Prop)->Prop
def PSet(X:Cx)(t:TSet):Prop:=
 ∀(pins:List (Addr×Obj)) (s:Shared) (σ:St) (H:Hp) (o i v:V) (ov iv u:Value) (Q:Hp->Prop),Inv X pins σ H s->RelV o ov->RelV i iv->RelV v u->t o i v H Q ->
  wpAny (model X.prog X.w) X.A (setItem ov iv u) (fun _ s'=>∃ H',Inv X pins σ H' s'/\Q H') X.xe s
section
variable {pos:Pos}
def gName(i:Nat):TG:=fun v σ H Q=>Q (σ.set i (some v)) H
theorem q96{i:Nat}(hN:X.N.Nodup)(hi:X.N[i]? = some x)(hx:Loc X.env.scope x)(hf:X.fn x=true\/X.env.scope.names.lookup x=some .local:=by first | exact .inl rfl | exact .inr rfl | assumption):PG X (.Name x pos) (gName i):=by
 intro pins s σ H v u Q I r h
 exact wpAny_assign_Name (q199 I hN hi hx r (fun s' I'=>⟨_,H,I',h⟩) hf)
def gNil:TGs:=fun vs σ H Q=>vs=[]/\Q σ H
inductive gCons(t:TG)(u:TGs)(vs:List V)(σ:St)(H:Hp)(Q:St->Hp->Prop):Prop
 |mk(v:V)(r:List V)(_:vs=v::r)(_:t v σ H fun σ' H'=>u r σ' H' Q)
theorem q97:PGs X [] gNil:=by
 intro pins s σ H vs us Q I r h
 obtain⟨e,h⟩:=h
 subst e
 cases r
 exact assignInOrder_nil ⟨σ,H,I,h⟩
theorem q28(h1:PG X e t)(h2:PGs X es u)
  (hs:(assignEach (e::es) X.env).map (·.2)=assign e X.env::(assignEach es X.env).map (·.2):=by rfl):PGs X (e::es) (gCons t u):=by
 intro pins s σ H vs us Q I r h
 obtain⟨v,vr,e1,h⟩:=h
 subst e1
 cases r with
 | cons r rr=>
  rw[hs]
  refine assignInOrder_cons (thn (h1 pins s σ H _ _ _ I r h) fun _ s1 ⟨σ1,H1,I1,q1⟩=>?_)
  exact h2 pins s1 σ1 H1 _ _ Q I1 rr q1
inductive gTup(K:Fg)(n:Nat)(t:TGs)(v:V)(σ:St)(H:Hp)(Q:St->Hp->Prop):Prop
 |mk(a:Addr)(xs:List V)(_:v = .ref a)(_:SqT K H a xs)(_:xs.length=n)(_:t xs σ H Q)
theorem q200{k:Nat}{n:Nat}(hc:X.calm=true)(h:PGs X es t)
  (hn:(assignEach es X.env).length=n:=by rfl) (hst:(assignEach es X.env).findIdx? (·.1)=none:=by rfl):PG X (.Tuple es k pos) (gTup X.K n t):=by
 intro pins s σ H v u Q I r hw
 obtain⟨a,xs,e1,hq,hl,hw⟩:=hw
 subst e1
 cases r
 obtain⟨its,rv,ht,hz⟩:=I.tuple hq
 refine assign_Tuple_tuple (I.ok.hd hc) ht (by simp[hn,<- hl,rv.length]) hst fun h' hx=>?_
 have I1:Inv X pins σ H { s with heap:=h' }:=I.kept (t':=s.toks) fun b o e=>hx b o (WH (ZW e)) e
 exact h pins _ σ H xs _ Q I1 (by simpa using rv) hw
def gSub(to ti:TE)(t:TSet):TG:=fun v σ H Q=>to σ H fun o H1=>ti σ H1 fun i H2=>t o i v H2 fun H3=>Q σ H3
theorem q642(ho:PE X o to)(hi:PE X i ti)(hs:PSet X t)
  (ha:∀ v,assign (.Subscript o i pos) X.env v=(do
   let ov <- holding [v] (eval o X.env)
   let iv <- holding [v,ov] (eval i X.env)
   standAt pos
   holding [v,ov,iv] (setItem ov iv v)
   release [v,ov,iv] []):=by intro _;rfl):PG X (.Subscript o i pos) (gSub to ti t):=by
 intro pins s σ H v u Q I r h
 rw[ha]
 refine ZC (wpAny_holding (thn (ho pins s σ H _ I h) fun ov s1 ⟨x,H1,I1,r1,q1⟩=>?_))
 refine ZC (wpAny_holding (thn (hi pins s1 σ H1 _ I1 q1) fun iv s2 ⟨y,H2,I2,r2,q2⟩=>?_))
 refine ZC (wpAny_standAt (ZC (wpAny_holding (thn (hs pins s2 σ H2 x y v ov iv u _ I2 r1 r2 r q2) fun _ s3 ⟨H3,I3,q3⟩=>?_))))
 exact wpAny_release ⟨σ,H3,I3,q3⟩
noncomputable def tAsg(te:TE)(g:TG):TS:=fun D σ H=>te σ H fun x H1=>g x σ H1 D.nx
theorem q363(he:PE X e te)(hg:PG X tg g)(hs:swapsWithSole [tg] e pos.line X.env=pure false:=by rfl)(hw:swappedStores [tg] e X.env=pure none:=by rfl)
  (h1:(assignEach [tg] X.env).map (·.2)=[assign tg X.env]:=by rfl):PS X (.Assign [tg] e pos) (tAsg te g):=by
 intro pins s σ H D I h
 refine wpAny_Assign_stores (thn (he pins s σ H _ I h) fun v s1 ⟨x,H1,I1,r1,q1⟩=>?_) hs hw
 rw[h1]
 exact thn (hg pins s1 σ H1 x v _ I1 r1 q1) fun _ s2 q=>q
theorem ps_set{i:Nat}(hN:X.N.Nodup)(hi:X.N[i]? = some x)(hx:Loc X.env.scope x)(he:PE X e te)(hs:swapsWith e (some (.Name x pos')) pos.line X.env=pure false:=by rfl)(hf:X.fn x=true\/X.env.scope.names.lookup x=some .local:=by first | exact .inl rfl | exact .inr rfl | assumption) :
  PS X (.Assign [.Name x pos'] e pos) (tAsg te (gName i)):=by
 intro pins s σ H D I h
 refine wpAny_Assign_Name (thn (he pins s σ H _ I h) fun v s1 ⟨y,H1,I1,r1,q1⟩=>?_) hs
 exact q199 I1 hN hi hx r1 (fun s2 I2=>⟨_,H1,I2,q1⟩) hf
end
section
variable {pos:Pos}
inductive tWhile(c:TT)(tb:TS)(D:Ends)(σ:St)(H:Hp):Prop
 |mk(W:Nat->St->Hp->Prop)(_:(∃ m,W m σ H))(_:∀ m σ H,W m σ H->c σ H fun b H1=>if b=true then ∃ N:St->Hp->Prop,(∀ σ' H',N σ' H' -> ∃ m',m'<m/\W m' σ' H')/\tb { D with nx:=N,ct:=N,bk:=D.nx } σ H1 else D.nx σ H1)
theorem ps_while(hp:PassesOwn (model X.prog X.w) X.A X.env X.xe)(hc:PT X c tc)(hb:PSs X body tb):PS X (.While c body [] pos) (tWhile tc tb):=by
 intro pins s σ H D I h
 obtain⟨W,⟨m0,w0⟩,turn⟩:=h
 refine wpAny_While (codeAny_whileLoop (fun n s'=>∃ σ' H',Inv X pins σ' H' s'/\W n σ' H') ?_ m0 ⟨σ,H,I,w0⟩)
 rintro n s1 ⟨σ1,H1,I1,w1⟩
 refine wpAny_passesOwn hp (thn (hc pins s1 σ1 H1 _ I1 (turn n σ1 H1 w1)) fun b s2 ⟨H2,I2,q2⟩=>?_)
 cases b with
 | true=>
  obtain⟨N,hN,q2⟩:=q2
  rw[ZJ rfl]
  refine wpAny_passesOwn hp (thn (hb pins s2 σ1 H2 _ I2 q2) fun f s3 q3=>?_)
  cases f with
  | next=>
   obtain⟨σ3,H3,I3,n3⟩:=q3
   obtain⟨m',hm,w3⟩:=hN σ3 H3 n3
   exact⟨m',hm,σ3,H3,I3,w3⟩
  | cont=>
   obtain⟨σ3,H3,I3,n3⟩:=q3
   obtain⟨m',hm,w3⟩:=hN σ3 H3 n3
   exact⟨m',hm,σ3,H3,I3,w3⟩
  | brk=>exact q3
  | ret v=>exact q3
 | false=>
  rw[ZI fnt]
  exact wpAny_execs_nil ⟨σ1,H2,I2,q2⟩
end
structure It where
 go:Nat->Hp->Prop
 yld:Nat->Hp->V->Hp->Prop
 stop:Nat->Hp->Prop
noncomputable def FpOk(X:Cx)(pins:List (Addr×Obj))(H:Hp)(b:Addr):Prop:=
 H b=none/\b≠X.env.locals/\b ∉ X.fs/\(b∈X.ex\/X.s₀.heap.objs.size<=b)/\(∀ x c,X.env.cells.lookup x=some c->c≠b) /\ ∀ p∈X.pn++pins,p.1≠b
theorem Inv.fpOk{s:Shared}(I:Inv X pins σ H s)(hb:s.heap.objs.size<=b)(hn:H' b=none):FpOk X pins H' b:=by
 refine⟨hn,Nat.ne_of_gt (WC I.lt hb),I.nofs hb,.inr (ZR I.sz hb),fun x c e z=>?_,fun p hp z=>?_⟩
 ·obtain⟨v,q⟩:=I.cell x c e
  exact absurd (WC q.lt (by rw[z];exact hb)) (Nat.lt_irrefl _)
 ·exact absurd (WC (ZW (I.pin p hp).1) (by rw[z];exact hb)) (Nat.lt_irrefl _)
structure Turn(P:Program)(w:World)(K:Fg)(tg:Expr)(J:It)(fp:List Addr)(it:Addr)(tn:Nat->Heap->Prop):Prop where
 mem:it∈fp
 obj:∀ i h,tn i h -> ∀ b∈fp,∃ o,h.get? b=some o /\ ∀ v,o.data ≠ .cell v
 keep:∀ i h h',tn i h->(∀ b∈fp,∀ o,h.get? b=some o->h'.get? b=some o)->tn i h'
 item:∀(X:Cx),X.prog=P->X.w=w->X.K=K->X.calm=true -> ∀(i:Nat) (pins:List (Addr×Obj)) (s:Shared) (σ:St) (H:Hp) (E:VS),Inv X pins σ H s->(∀ b∈fp,FpOk X pins H b)->tn i s.heap->J.go i H ->
  wpAny (model P w) X.A (pyNext (.ref it)) (fun r s1=>∃ u,r=some u /\
   wpAny (model P w) X.A (letOwnedTupleGo tg (.ref it) u) (fun _ s2=>∃ x H',Inv X pins σ H' s2/\RelV x u/\J.yld i H x H'/\tn (i+1) s2.heap /\ ∀ b∈fp,H' b=none) E s1) E s
 done:∀(X:Cx),X.prog=P->X.w=w->X.K=K->X.calm=true -> ∀(i:Nat) (pins:List (Addr×Obj)) (s:Shared) (σ:St) (H:Hp) (E:VS),Inv X pins σ H s->(∀ b∈fp,FpOk X pins H b)->tn i s.heap->J.stop i H ->
  wpAny (model P w) X.A (pyNext (.ref it)) (fun r s1=>r=none/\Inv X pins σ H s1) E s
 self:∀(A:Around)(i:Nat)(s:Shared)(Q:VS)(E:VS),tn i s.heap->Q (.ref it) s->wpAny (model P w) A (pyIter (.ref it)) Q E s
abbrev TI:=St->Hp->(It->Hp->Prop)->Prop
inductive PIE(X:Cx)(pins:List (Addr×Obj))(σ:St)(tg:Expr)(R:It->Hp->Prop)(itv:Value)(s2:Shared):Prop
 |mk(it:Addr)(fp:List Addr)(tn:Nat->Heap->Prop)(J:It)(H':Hp)(_:itv = .ref it)(_:Inv X pins σ H' s2)(_:Turn X.prog X.w X.K tg J fp it tn)(_:tn 0 s2.heap)(_:∀ b∈fp,FpOk X pins H' b)(_:R J H')
def PI(X:Cx)(tg itr:Expr)(wi:TI):Prop:=
 ∀(pins:List (Addr×Obj)) (s:Shared) (σ:St) (H:Hp) (R:It->Hp->Prop),Inv X pins σ H s->wi σ H R ->
  wpAny (model X.prog X.w) X.A (eval itr X.env) (fun v s1=>wpAny (model X.prog X.w) X.A (pyIter v) (PIE X pins σ tg R) X.xe s1) X.xe s
theorem go_of{s:Shared}{o:Obj}(ho:s.heap.get? it=some o)(hc:o.cls = .type n)(hd:o.data = .fields vs)
  (hn:["enumerate", "zip", "dict_itemiterator", "dict_reverseitemiterator", "odict_iterator", "itertools.zip_longest", "itertools.pairwise"].contains n=false) (hQ:Q () s):wpAny M A (letOwnedTupleGo tg (.ref it) u) Q E s:=by
 unfold letOwnedTupleGo
 cases tg <;> first
  | exact ZM hQ
  | (cases u <;> first
    | exact ZM hQ
    | (refine ZC (wpAny_load ho ?_)
       rw[hc,hd]
       show wpAny M A (if(["enumerate", "zip", "dict_itemiterator", "dict_reverseitemiterator", "odict_iterator", "itertools.zip_longest", "itertools.pairwise"].contains n&&vs[0]?==some (rawInt _))=true then _ else _) Q E s
       rw[ZI (by intro h;rw[hn,WR]at h;cases h)]
       exact ZM hQ))
def Itl(K:Fg)(a:Addr):It:=
 ⟨fun i H=>∃ xs x,SqL K H a xs/\xs[i]? = some x,fun i H x H'=>H'=H /\ ∀ xs,SqL K H a xs->xs[i]? = some x,fun i H=>∃ xs,SqL K H a xs/\xs.length<=i⟩
noncomputable def Itt(K:Fg)(a:Addr):It:=
 ⟨fun i H=>∃ xs x,SqT K H a xs/\xs[i]? = some x,fun i H x H'=>H'=H /\ ∀ xs,SqT K H a xs->xs[i]? = some x,fun i H=>∃ xs,SqT K H a xs/\xs.length<=i⟩
noncomputable def Itr(lo:Int)(n:Nat):It:=⟨fun i _=>i<n,fun i H x H'=>H'=H/\x = .int (lo+i),fun i _=>n<=i⟩
theorem q643{P:Program}{w:World}{K:Fg}{tg:Expr}(a it:Addr):Turn P w K tg (Itl K a) [it] it (fun i h=>h.IsListIter it a i) where
 mem:=by simp
 obj:=fun i h st b hb=>by
  have e:b=it:=by simpa using hb
  subst e
  obtain⟨o,e,c,d⟩:=st
  exact⟨o,e,fun v z=>by rw[d]at z;cases z⟩
 keep:=fun i h h' st k=>st.at fun o e=>k it (by simp) o e
 item:=by
  intro X hP hw hK hc i pins s σ H E I hf st hg
  subst hP hw hK
  obtain⟨xs,x,hq,hx⟩:=hg
  obtain⟨its,rv,p,hz⟩:=I.list hq
  obtain⟨u,hu,ru⟩:=rv.get hx
  obtain⟨f0,f1,f2,f3,f4,f5⟩:=hf it (by simp)
  refine wpAny_pyNext_list_item st p.isList (x:=u) (by simpa using hu) fun h' st' sb=>?_
  have I1:Inv X pins σ H { s with heap:=h' }:=I.turned (t':=s.toks) (fun b o hb e=>(sb.2 b hb).trans e) f0 f1 f3 f4 f5
  obtain⟨o,e,c,d⟩:=id st'
  exact⟨u,rfl,go_of (s:={ s with heap:=h' }) e c d {} ⟨x,H,I1,ru,⟨rfl,fun ys hy=>by rw[I.list_inj hy hq];exact hx⟩,st',fun b hb=>(hf b hb).1⟩⟩
 done:=by
  intro X hP hw hK hc i pins s σ H E I hf st hg
  subst hP hw hK
  obtain⟨xs,hq,hx⟩:=hg
  obtain⟨its,rv,p,hz⟩:=I.list hq
  obtain⟨f0,f1,f2,f3,f4,f5⟩:=hf it (by simp)
  have hl:=rv.length
  exact wpAny_pyNext_list_end (I.ok.hd hc) st p.isList (by simp;lia) fun h' eb=>⟨rfl,I.turned (t':=s.toks) (fun b o hb e=>eb b o hb e) f0 f1 f3 f4 f5⟩
 self:=fun _ _ _ _ _ st h=>wpAny_pyIter_listiter st h
theorem q592{P:Program}{w:World}{K:Fg}{tg:Expr}(a it:Addr):Turn P w K tg (Itt K a) [it] it (fun i h=>h.IsTupleIter it a i) where
 mem:=by simp
 obj:=fun i h st b hb=>by
  have e:b=it:=by simpa using hb
  subst e
  obtain⟨o,e,c,d⟩:=st
  exact⟨o,e,fun v z=>by rw[d]at z;cases z⟩
 keep:=fun i h h' st k=>st.at fun o e=>k it (by simp) o e
 item:=by
  intro X hP hw hK hc i pins s σ H E I hf st hg
  subst hP hw hK
  obtain⟨xs,x,hq,hx⟩:=hg
  obtain⟨its,rv,p,hz⟩:=I.tuple hq
  obtain⟨u,hu,ru⟩:=rv.get hx
  obtain⟨f0,f1,f2,f3,f4,f5⟩:=hf it (by simp)
  refine wpAny_pyNext_tuple_item st (show s.heap.IsTuple a its.toArray from p) (x:=u) (by simpa using hu) fun h' st' sb=>?_
  have I1:Inv X pins σ H { s with heap:=h' }:=I.turned (t':=s.toks) (fun b o hb e=>(sb.2 b hb).trans e) f0 f1 f3 f4 f5
  obtain⟨o,e,c,d⟩:=id st'
  exact⟨u,rfl,go_of (s:={ s with heap:=h' }) e c d {} ⟨x,H,I1,ru,⟨rfl,fun ys hy=>by rw[I.tuple_inj hy hq];exact hx⟩,st',fun b hb=>(hf b hb).1⟩⟩
 done:=by
  intro X hP hw hK hc i pins s σ H E I hf st hg
  subst hP hw hK
  obtain⟨xs,hq,hx⟩:=hg
  obtain⟨its,rv,p,hz⟩:=I.tuple hq
  obtain⟨f0,f1,f2,f3,f4,f5⟩:=hf it (by simp)
  have hl:=rv.length
  exact wpAny_pyNext_tuple_end (I.ok.hd hc) st (show s.heap.IsTuple a its.toArray from p) (by simp;lia) fun h' eb=>⟨rfl,I.turned (t':=s.toks) (fun b o hb e=>eb b o hb e) f0 f1 f3 f4 f5⟩
 self:=fun _ _ _ _ _ st h=>wpAny_pyIter_tupleiter st h
theorem q593{P:Program}{w:World}{K:Fg}{tg:Expr}(it:Addr)(lo:Int)(n:Nat):Turn P w K tg (Itr lo n) [it] it (fun i h=>IsRangeIter h it (lo+(i:Nat)*1) ((n:Int)-(i:Nat)) 1) where
 mem:=by simp
 obj:=fun i h st b hb=>by
  have e:b=it:=by simpa using hb
  subst e
  exact⟨_,st,fun v z=>by
   have z':Data.fields _=Data.cell v:=z
   cases z'⟩
 keep:=fun i h h' st k=>k it (by simp) _ st
 item:=by
  intro X hP hw hK hc i pins s σ H E I hf st hg
  subst hP hw hK
  obtain⟨f0,f1,f2,f3,f4,f5⟩:=hf it (by simp)
  have W:=Walks.range (prog:=X.prog) (w:=X.w) (I.ok.hd hc) it lo 1 n
  refine W.item i s _ _ hg st fun v h' tk hv st' kk=>?_
  obtain⟨t,rfl⟩:=hv
  have I1:Inv X pins σ H { s with heap:=h',toks:=tk }:=I.turned (fun b o hb e=>kk b o (by simpa using hb) e) f0 f1 f3 f4 f5
  refine⟨_,rfl,go_of (s:={ s with heap:=h',toks:=tk }) (n := "range_iterator") st' rfl rfl {} ⟨.int (lo+i),H,I1,⟨t,?_⟩,⟨rfl,rfl⟩,st',fun b hb=>(hf b hb).1⟩⟩
  rw[Int.mul_one]
 done:=by
  intro X hP hw hK hc i pins s σ H E I hf st hg
  subst hP hw hK
  obtain⟨f0,f1,f2,f3,f4,f5⟩:=hf it (by simp)
  exact wpAny_pyNext_range_end (I.ok.hd hc) st (by have:n<=i:=hg;lia) fun h' eb=>⟨rfl,I.turned (t':=s.toks) (fun b o hb e=>eb b o hb e) f0 f1 f3 f4 f5⟩
 self:=fun _ _ _ _ _ st h=>wpAny_pyIter_rangeiter st h
section
variable {tg:Expr}
inductive jList(K:Fg)(x:V)(H:Hp)(R:It->Hp->Prop):Prop
 |mk(a:Addr)(_:x = .ref a)(_:∃ xs,SqL K H a xs)(_:R (Itl K a) H)
def iList(K:Fg)(tl:TE):TI:=fun σ H R=>tl σ H fun x H1=>jList K x H1 R
inductive jTup(K:Fg)(x:V)(H:Hp)(R:It->Hp->Prop):Prop
 |mk(a:Addr)(_:x = .ref a)(_:∃ xs,SqT K H a xs)(_:R (Itt K a) H)
def iTup(K:Fg)(tl:TE):TI:=fun σ H R=>tl σ H fun x H1=>jTup K x H1 R
theorem q32{l:Expr}{tl:TE}(hl:PE X l tl):PI X tg l (iList X.K tl):=by
 intro pins s σ H R I h
 refine thn (hl pins s σ H _ I h) fun v s1 ⟨x,H1,I1,r1,q1⟩=>?_
 obtain⟨a,e,⟨xs,hq⟩,q⟩:=q1
 subst e
 cases r1
 obtain⟨its,rv,p,hz⟩:=I1.list hq
 refine wpAny_pyIter_list p.isList ?_
 refine⟨s1.heap.objs.size,[s1.heap.objs.size],_,_,H1,rfl,I1.kept (t':=s1.toks) fun b o e=>ZF _ e,q643 a _,⟨_,ZU _ rfl,rfl,rfl⟩,fun b hb=>?_,q⟩
 have e:b=s1.heap.objs.size:=by simpa using hb
 subst e
 exact I1.fpOk (ZG _) (I1.hok.fresh (ZG _))
theorem q438{l:Expr}{tl:TE}(hl:PE X l tl):PI X tg l (iTup X.K tl):=by
 intro pins s σ H R I h
 refine thn (hl pins s σ H _ I h) fun v s1 ⟨x,H1,I1,r1,q1⟩=>?_
 obtain⟨a,e,⟨xs,hq⟩,q⟩:=q1
 subst e
 cases r1
 obtain⟨its,rv,p,hz⟩:=I1.tuple hq
 refine wpAny_pyIter_tuple (show s1.heap.IsTuple a its.toArray from p) ?_
 refine⟨s1.heap.objs.size,[s1.heap.objs.size],_,_,H1,rfl,I1.kept (t':=s1.toks) fun b o e=>ZF _ e,q592 a _,⟨_,ZU _ rfl,rfl,rfl⟩,fun b hb=>?_,q⟩
 have e:b=s1.heap.objs.size:=by simpa using hb
 subst e
 exact I1.fpOk (ZG _) (I1.hok.fresh (ZG _))
theorem q542{s:Shared}{lo hi:Int}{t u v:Tok}{tk:Nat}(I:Inv X pins σ H s)(h1:-(2^62)<=lo)(h2:lo<2^62)(h3:-(2^62)<=hi)(h4:hi<2^62)
  (q:R (Itr lo (hi-lo).toNat) H):wpAny (model X.prog X.w) X.A (pyIter (.ref s.heap.objs.size)) (PIE X pins σ tg R) E { s with heap:=s.heap.push { cls:=.type "range", data:=.fields #[.int lo t,.int hi u,.int 1 v] },toks:=tk }:=by
 refine wpAny_pyIter_range (IsRange.new ..) (small_one h1 h2 h3 h4) ?_
 have I1:Inv X pins σ H { s with heap:=s.heap.push { cls:=.type "range", data:=.fields #[.int lo t,.int hi u,.int 1 v] },toks:=tk }:=I.kept fun b o e=>ZF _ e
 refine⟨(s.heap.push { cls:=.type "range", data:=.fields #[.int lo t,.int hi u,.int 1 v] }).objs.size,[(s.heap.push { cls:=.type "range", data:=.fields #[.int lo t,.int hi u,.int 1 v] }).objs.size],_,_,H,rfl,
  I1.kept (t':=tk) fun b o e=>ZF _ e,q593 _ lo (hi-lo).toNat,?_,fun b hb=>?_,q⟩
 ·have e1:lo+((0:Nat):Int)*1=lo:=by simp
  have e2:(((hi-lo).toNat:Nat):Int)-((0:Nat):Int)=Builtin.Range.rangeSize lo hi 1:=by rw[rangeSize_one];split <;> lia
  show IsRangeIter _ _ (lo+((0:Nat):Int)*1) ((((hi-lo).toNat:Nat):Int)-((0:Nat):Int)) 1
  rw[e1,e2]
  exact ZU _ rfl
 ·have e:b=(s.heap.push { cls:=.type "range", data:=.fields #[.int lo t,.int hi u,.int 1 v] }).objs.size:=by simpa using hb
  subst e
  exact I1.fpOk (ZG _) (I1.hok.fresh (ZG _))
inductive jRng1(vs:List V)(H:Hp)(R:It->Hp->Prop):Prop
 |mk(j:Int)(_:vs=[.int j])(_:-(2^62)<=j)(_:j<2^62)(_:R (Itr 0 j.toNat) H)
def iRng1(ta:TA):TI:=fun σ H R=>ta σ H fun vs H1=>jRng1 vs H1 R
inductive jRng2(vs:List V)(H:Hp)(R:It->Hp->Prop):Prop
 |mk(i j:Int)(_:vs=[.int i,.int j])(_:-(2^62)<=i/\i<2^62 /\ -(2^62)<=j/\j<2^62)(_:R (Itr i (j-i).toNat) H)
def iRng2(ta:TA):TI:=fun σ H R=>ta σ H fun vs H1=>jRng2 vs H1 R
theorem q59{p pos:Pos}(hg:Gl X "range") (hm:X.mg "range" = none) (ha:PA X [a] ta) (hs:starEach [a] X.env=[(false,eval a X.env)]:=by rfl):PI X tg (.Call (.Name "range" p) [a] [] pos) (iRng1 ta):=by
 intro pins s σ H R I h
 refine Call_ (q362 I hg hm boot_range (PyProof.Rows.callWith_type1 (thn (ha pos pins s σ H _ I h) fun us s1 ⟨vs,H1,I1,r1,q1⟩=>?_) hs rfl))
 obtain⟨j,e,q1,q2,q⟩:=q1
 subst e
 cases r1 with
 | cons r rr=>
  cases rr
  obtain⟨t,rfl⟩:=r
  exact call_range_1 (q542 I1 ∅ ∅ q1 q2 (by simpa using q))
theorem q644{p pos:Pos}(hg:Gl X "range") (hm:X.mg "range" = none) (ha:PA X [a,b] ta) (hs:starEach [a,b] X.env=[(false,eval a X.env),(false,eval b X.env)]:=by rfl) (hs2:starEach [b] X.env=[(false,eval b X.env)]:=by rfl) :
  PI X tg (.Call (.Name "range" p) [a,b] [] pos) (iRng2 ta):=by
 intro pins s σ H R I h
 refine Call_ (q362 I hg hm boot_range (PyProof.Rows.callWith_type1 (thn (ha pos pins s σ H _ I h) fun us s1 ⟨vs,H1,I1,r1,q1⟩=>?_) (by rw[hs,hs2]) (by rw[hs2];rfl)))
 obtain⟨i,j,e,⟨q1,q2,q3,q4⟩,q⟩:=q1
 subst e
 cases r1 with
 | cons r rr=>
  cases rr with
  | cons r' rr=>
   cases rr
   obtain⟨t,rfl⟩:=r
   obtain⟨t',rfl⟩:=r'
   exact call_range_2 (q542 I1 q1 q2 q3 q4 q)
noncomputable def tFor(wi:TI)(g:TG)(tb:TS):TS:=fun D σ H=>wi σ H fun J H1=>∃ W:Nat->Nat->St->Hp->Prop,(∃ m,W 0 m σ H1) /\ ∀ i m σ H,W i m σ H ->
 (J.stop i H/\D.nx σ H)\/(J.go i H /\ ∃ N:St->Hp->Prop,(∀ σ' H',N σ' H' -> ∃ m',m'<m/\W (i+1) m' σ' H') /\ ∀ x H',J.yld i H x H'->g x σ H' fun σ2 H2=>tb { D with nx:=N,ct:=N,bk:=D.nx } σ2 H2)
noncomputable def q543(fp:List Addr)(h:Heap):List (Addr×Obj):=fp.filterMap fun b=>(h.get? b).map fun o=>(b,o)
theorem q92{h:Heap}(hb:b∈fp)(e:h.get? b=some o):(b,o)∈q543 fp h:=List.mem_filterMap.mpr ⟨b,hb,by rw[e];rfl⟩
theorem q645{h:Heap}{p:Addr×Obj}(hp:p∈q543 fp h):p.1∈fp/\h.get? p.1=some p.2:=by
 obtain⟨b,hb,e⟩:=List.mem_filterMap.mp hp
 cases q:h.get? b with
 | none=>rw[q]at e;cases e
 | some o=>
  rw[q]at e
  have e':(b,o)=p:=Option.some.inj e
  subst e'
  exact⟨hb,q⟩
theorem Inv.pinned{s:Shared}(I:Inv X pins σ H s)(hf:∀ b∈fp,FpOk X pins H b)(ho:∀ b∈fp,∃ o,s.heap.get? b=some o /\ ∀ v,o.data ≠ .cell v):Inv X (pins++q543 fp s.heap) σ H s:=
 I.pins_of fun p hp=>(List.mem_append.mp hp).elim (fun z=>I.pin p (WX _ z)) fun z=>by
  obtain⟨hb,e⟩:=q645 z
  obtain⟨f0,f1,f2,_⟩:=hf p.1 hb
  obtain⟨o,e',d⟩:=ho p.1 hb
  rw[e]at e';cases e'
  exact⟨e,f0,f1,f2,d⟩
theorem Inv.unpinned(I:Inv X (pins++pl) σ H s):Inv X pins σ H s:=I.pins_of fun p hp=>I.pin p (WX _ (mem_append_left _ hp))
theorem q60{pos:Pos}(hp:PassesOwn (model X.prog X.w) X.A X.env X.xe)(hc:X.calm=true)(hi:PI X tg itr wi)(hg:PG X tg g)(hb:PSs X body tb)
  (hs:∀ x,foldedSetIterable itr X.env x=pure x:=by intro _;rfl):PS X (.For tg itr body [] pos) (tFor wi g tb):=by
 intro pins s σ H D I h
 refine wpAny_For (thn (hi pins s σ H _ I h) fun v s1 h1=>thn h1 fun itv s2 h2=>?_) hs
 obtain⟨it,fp,tn,J,H2,e,I2,T,st2,f2,W,⟨m0,w0⟩,turn⟩:=h2
 subst e
 have stat:∀{H':Hp},(∀ b∈fp,H' b=none) -> ∀ b∈fp,FpOk X pins H' b:=fun hn b hb=>⟨hn b hb,(f2 b hb).2⟩
 refine codeAny_forLoop_any (fun n s'=>∃ i σ' H',Inv X pins σ' H' s'/\tn i s'.heap/\(∀ b∈fp,H' b=none)/\W i n σ' H') ?_ m0 ⟨0,σ,H2,I2,st2,fun b hb=>(f2 b hb).1,w0⟩
 rintro n s3 ⟨i,σ3,H3,I3,st3,fr3,w3⟩
 rcases turn i n σ3 H3 w3 with ⟨stop,qn⟩ | ⟨go,N,hN,step⟩
 ·refine wpAny_passesOwn hp (thn (T.done X rfl rfl rfl hc i pins s3 σ3 H3 X.xe I3 (stat fr3) st3 stop) fun r s4 ⟨hr,I4⟩=>?_)
  subst hr
  exact wpAny_execs_nil ⟨σ3,H3,I4,qn⟩
 ·refine wpAny_passesOwn hp (thn (T.item X rfl rfl rfl hc i pins s3 σ3 H3 X.xe I3 (stat fr3) st3 go) fun r s4 ⟨u,hr,h4⟩=>?_)
  subst hr
  refine wpAny_passesOwn hp (thn h4 fun _ s5 ⟨x,H5,I5,r5,y5,st5,fr5⟩=>?_)
  have I5':=I5.pinned (stat fr5) (T.obj _ _ st5)
  refine wpAny_passesOwn hp (thn (hg _ s5 σ3 H5 x u _ I5' r5 (step x H5 y5)) fun _ s6 ⟨σ6,H6,I6,q6⟩=>?_)
  refine wpAny_passesOwn hp (thn (hb _ s6 σ6 H6 _ I6 q6) fun f s7 q7=>?_)
  have again:∀{σ7:St}{H7:Hp},Inv X (pins++q543 fp s5.heap) σ7 H7 s7->N σ7 H7 -> ∃ m,m<n /\ ∃ i σ' H',Inv X pins σ' H' s7/\tn i s7.heap/\(∀ b∈fp,H' b=none)/\W i m σ' H':=fun {σ7 H7} I7 n7=>by
   obtain⟨m',hm,w7⟩:=hN σ7 H7 n7
   refine⟨m',hm,i+1,σ7,H7,I7.unpinned,T.keep _ _ _ st5 fun b hb o e=>(I7.pin (b,o) (WX _ (WX _ (q92 hb e)))).1,fun b hb=>?_,w7⟩
   obtain⟨o,e,d⟩:=T.obj _ _ st5 b hb
   exact(I7.pin (b,o) (WX _ (WX _ (q92 hb e)))).2.1
  cases f with
  | next=>obtain⟨σ7,H7,I7,n7⟩:=q7;exact again I7 n7
  | cont=>obtain⟨σ7,H7,I7,n7⟩:=q7;exact again I7 n7
  | brk=>obtain⟨σ7,H7,I7,q7⟩:=q7;exact⟨σ7,H7,I7.unpinned,q7⟩
  | ret v=>obtain⟨x7,σ7,H7,I7,r7,q7⟩:=q7;exact⟨x7,σ7,H7,I7.unpinned,r7,q7⟩
end
theorem q156{K:Fg}{a:Addr}{xs:List V}{g:TG}{tb:TS}{D:Ends}{σ:St}{H:Hp}(Pv:Nat->St->Hp->Prop)(h0:Pv 0 σ H)(hl:∀ i σ H,i<=xs.length->Pv i σ H->SqL K H a xs)
  (hs:∀ i x σ H,xs[i]? = some x->Pv i σ H->g x σ H fun σ2 H2=>tb { D with nx:=Pv (i+1),ct:=Pv (i+1),bk:=D.nx } σ2 H2) (hd:∀ σ H,Pv xs.length σ H->D.nx σ H) :
  ∃ W:Nat->Nat->St->Hp->Prop,(∃ m,W 0 m σ H) /\ ∀ i m σ H,W i m σ H ->
   ((Itl K a).stop i H/\D.nx σ H)\/((Itl K a).go i H /\ ∃ N:St->Hp->Prop,(∀ σ' H',N σ' H' -> ∃ m',m'<m/\W (i+1) m' σ' H') /\ ∀ x H',(Itl K a).yld i H x H'->g x σ H' fun σ2 H2=>tb { D with nx:=N,ct:=N,bk:=D.nx } σ2 H2):=by
 exists fun i m σ H=>m=xs.length-i/\i<=xs.length/\Pv i σ H,⟨xs.length,by simp,WB _,h0⟩
 rintro i m σ H ⟨rfl,hi,p⟩
 have q:=hl i σ H hi p
 by_cases hlt:i<xs.length
 ·refine .inr ⟨⟨xs,xs[i],q,by simp[hlt]⟩,Pv (i+1),fun σ' H' p'=>⟨xs.length-(i+1),∅,rfl,hlt,p'⟩,fun x H' y=>?_⟩
  obtain⟨e,y⟩:=y
  subst e
  exact hs i x σ _ (y xs q) p
 ·have e:i=xs.length:=∅
  subst e
  exact .inl ⟨⟨xs,q,ZG _⟩,hd σ H p⟩
theorem q289{K:Fg}{a:Addr}{xs:List V}{g:TG}{tb:TS}{D:Ends}{σ:St}{H:Hp}(Pv:Nat->St->Hp->Prop)(h0:Pv 0 σ H)(hl:∀ i σ H,i<=xs.length->Pv i σ H->SqT K H a xs)
  (hs:∀ i x σ H,xs[i]? = some x->Pv i σ H->g x σ H fun σ2 H2=>tb { D with nx:=Pv (i+1),ct:=Pv (i+1),bk:=D.nx } σ2 H2) (hd:∀ σ H,Pv xs.length σ H->D.nx σ H) :
  ∃ W:Nat->Nat->St->Hp->Prop,(∃ m,W 0 m σ H) /\ ∀ i m σ H,W i m σ H ->
   ((Itt K a).stop i H/\D.nx σ H)\/((Itt K a).go i H /\ ∃ N:St->Hp->Prop,(∀ σ' H',N σ' H' -> ∃ m',m'<m/\W (i+1) m' σ' H') /\ ∀ x H',(Itt K a).yld i H x H'->g x σ H' fun σ2 H2=>tb { D with nx:=N,ct:=N,bk:=D.nx } σ2 H2):=by
 exists fun i m σ H=>m=xs.length-i/\i<=xs.length/\Pv i σ H,⟨xs.length,by simp,WB _,h0⟩
 rintro i m σ H ⟨rfl,hi,p⟩
 have q:=hl i σ H hi p
 by_cases hlt:i<xs.length
 ·refine .inr ⟨⟨xs,xs[i],q,by simp[hlt]⟩,Pv (i+1),fun σ' H' p'=>⟨xs.length-(i+1),∅,rfl,hlt,p'⟩,fun x H' y=>?_⟩
  obtain⟨e,y⟩:=y
  subst e
  exact hs i x σ _ (y xs q) p
 ·have e:i=xs.length:=∅
  subst e
  exact .inl ⟨⟨xs,q,ZG _⟩,hd σ H p⟩
theorem q78{lo:Int}{n:Nat}{g:TG}{tb:TS}{D:Ends}{σ:St}{H:Hp}(Pv:Nat->St->Hp->Prop)(h0:Pv 0 σ H)
  (hs:∀ i σ H,i<n->Pv i σ H->g (.int (lo+i)) σ H fun σ2 H2=>tb { D with nx:=Pv (i+1),ct:=Pv (i+1),bk:=D.nx } σ2 H2) (hd:∀ σ H,Pv n σ H->D.nx σ H) :
  ∃ W:Nat->Nat->St->Hp->Prop,(∃ m,W 0 m σ H) /\ ∀ i m σ H,W i m σ H ->
   ((Itr lo n).stop i H/\D.nx σ H)\/((Itr lo n).go i H /\ ∃ N:St->Hp->Prop,(∀ σ' H',N σ' H' -> ∃ m',m'<m/\W (i+1) m' σ' H') /\ ∀ x H',(Itr lo n).yld i H x H'->g x σ H' fun σ2 H2=>tb { D with nx:=N,ct:=N,bk:=D.nx } σ2 H2):=by
 exists fun i m σ H=>m=n-i/\i<=n/\Pv i σ H,⟨n,by simp,WB _,h0⟩
 rintro i m σ H ⟨rfl,hi,p⟩
 by_cases hlt:i<n
 ·refine .inr ⟨hlt,Pv (i+1),fun σ' H' p'=>⟨n-(i+1),∅,rfl,hlt,p'⟩,fun x H' y=>?_⟩
  obtain⟨e,y⟩:=y
  subst e y
  exact hs i σ _ hlt p
 ·have e:i=n:=∅
  subst e
  exact .inl ⟨ZG _,hd σ H p⟩
theorem while_by(Pv:St->Hp->Prop)(μ:St->Hp->Nat)(h0:Pv σ H)
  (hs:∀ σ H,Pv σ H->c σ H fun b H1=>if b=true then tb { D with nx:=fun σ' H'=>Pv σ' H'/\μ σ' H'<μ σ H,ct:=fun σ' H'=>Pv σ' H'/\μ σ' H'<μ σ H,bk:=D.nx } σ H1 else D.nx σ H1)
  (mono:∀ σ H Q Q',(∀ b H1,Q b H1->Q' b H1)->c σ H Q->c σ H Q'):tWhile c tb D σ H:=by
 exists fun m σ H=>m=μ σ H/\Pv σ H,⟨_,rfl,h0⟩
 rintro m σ H ⟨rfl,p⟩
 refine mono σ H _ _ (fun b H1 q=>?_) (hs σ H p)
 cases b with
 | true=>exact⟨_,fun σ' H' ⟨p',l⟩=>⟨_,l,rfl,p'⟩,q⟩
 | false=>exact q
abbrev R2:=V->V->Hp->VK->Prop
def OpR(X:Cx)(f:Value->Value->Sem Value)(r:R2):Prop:=
 ∀(pins:List (Addr×Obj)) (s:Shared) (σ:St) (H:Hp) (x y:V) (v u:Value) (Q:VK),Inv X pins σ H s->RelV x v->RelV y u->r x y H Q ->
  wpAny (model X.prog X.w) X.A (f v u) (EP X pins σ Q) X.xe s
def UnR(X:Cx)(f:Value->Sem Value)(r:V->Hp->VK->Prop):Prop:=
 ∀(pins:List (Addr×Obj)) (s:Shared) (σ:St) (H:Hp) (x:V) (v:Value) (Q:VK),Inv X pins σ H s->RelV x v->r x H Q ->
  wpAny (model X.prog X.w) X.A (f v) (EP X pins σ Q) X.xe s
def CallR(X:Cx)(f:Value)(r:List V->Hp->VK->Prop):Prop:=
 ∀(pins:List (Addr×Obj)) (s:Shared) (σ:St) (H:Hp) (xs:List V) (us:List Value) (Q:VK),Inv X pins σ H s->Vals xs us->r xs H Q ->
  wpAny (model X.prog X.w) X.A (call f us) (EP X pins σ Q) X.xe s
def tOp(r:R2)(ta tb:TE):TE:=fun σ H Q=>ta σ H fun x H1=>tb σ H1 fun y H2=>r x y H2 Q
def tUn(r:V->Hp->VK->Prop)(ta:TE):TE:=fun σ H Q=>ta σ H fun x H1=>r x H1 Q
inductive rI(C:Int->Int->Prop)(g:Int->Int->V)(x y:V)(H:Hp)(Q:VK):Prop
 |mk(i j:Int)(_:x = .int i)(_:y = .int j)(_:C i j)(_:Q (g i j) H)
inductive rI0(g:Int->Int->V)(x y:V)(H:Hp)(Q:VK):Prop
 |mk(i j:Int)(_:x = .int i)(_:y = .int j)(_:Q (g i j) H)
inductive rU(g:Int->V)(x:V)(H:Hp)(Q:VK):Prop
 |mk(i)(_:x = .int i)(_:Q (g i) H)
section
variable{a b c:Expr}{ta tb tc:TE}{pos:Pos}
theorem binT(ha:PE X a ta)(hb:PE X b tb){pins:List (Addr×Obj)}{s:Shared}{σ:St}{H:Hp}{R:V->V->Hp->Prop}(I:Inv X pins σ H s)
  (h:ta σ H fun x H1=>tb σ H1 fun y H2=>R x y H2) {Q:VS} {f:Value->Value->Sem Value}
  (hf:∀ v u s2 x y H2,Inv X pins σ H2 s2->RelV x v->RelV y u->R x y H2->wpAny (model X.prog X.w) X.A (f v u) Q X.xe s2) :
  wpAny (model X.prog X.w) X.A (eval a X.env) (fun v s₁=>wpAny (model X.prog X.w) X.A (eval b X.env) (fun u s₂=>wpAny (model X.prog X.w) X.A (f v u) Q X.xe s₂) X.xe s₁) X.xe s:=by
 refine thn (ha pins s σ H _ I h) fun v s1 ⟨x,H1,I1,r1,q1⟩=>?_
 refine thn (hb pins s1 σ H1 _ I1 q1) fun u s2 ⟨y,H2,I2,r2,q2⟩=>?_
 exact hf v u s2 x y H2 I2 r1 r2 q2
theorem pe_op{op:Operator}{r:R2}(ho:OpR X (binaryOp op) r)(ha:PE X a ta)(hb:PE X b tb):PE X (.BinOp a op b pos) (tOp r ta tb):=by
 intro pins s σ H Q I h
 exact wpAny_BinOp (binT ha hb I h fun v u s2 x y H2 I2 rx ry q=>ho pins s2 σ H2 x y v u Q I2 rx ry q)
theorem pe_un(ho:UnR X (unaryOp op) r)(ha:PE X a ta):PE X (.UnaryOp op a pos) (tUn r ta):=by
 intro pins s σ H Q I h
 exact UnaryOp_ (thn (ha pins s σ H _ I h) fun v s1 ⟨x,H1,I1,r1,q1⟩=>ho pins s1 σ H1 x v Q I1 r1 q1)
theorem opI{f:Value->Value->Sem Value}{C:Int->Int->Prop}{g:Int->Int->Int}
  (rule:∀(i j:Int)(t u:Tok)(s:Shared)(Q:VS)(E:VS),C i j->Q (.int (g i j) s.toks) { s with toks:=s.toks+1 }->wpAny (model X.prog X.w) X.A (f (.int i t) (.int j u)) Q E s) :
  OpR X f (rI C fun i j=>.int (g i j)):=by
 intro pins s σ H x y v u Q I rx ry h
 obtain⟨i,j,rfl,rfl,hc,q⟩:=h
 obtain⟨t,rfl⟩:=rx
 obtain⟨t',rfl⟩:=ry
 exact rule i j t t' s _ _ hc ⟨.int (g i j),H,I.tok _,⟨_,rfl⟩,q⟩
theorem opI0{f:Value->Value->Sem Value}{g:Int->Int->Int}
  (rule:∀(i j:Int)(t u:Tok)(s:Shared)(Q:VS)(E:VS),Q (.int (g i j) s.toks) { s with toks:=s.toks+1 }->wpAny (model X.prog X.w) X.A (f (.int i t) (.int j u)) Q E s) :
  OpR X f (rI0 fun i j=>.int (g i j)):=by
 intro pins s σ H x y v u Q I rx ry h
 obtain⟨i,j,rfl,rfl,q⟩:=h
 obtain⟨t,rfl⟩:=rx
 obtain⟨t',rfl⟩:=ry
 exact rule i j t t' s _ _ ⟨.int (g i j),H,I.tok _,⟨_,rfl⟩,q⟩
theorem opB0{f:Value->Value->Sem Value}{g:Int->Int->Bool}
  (rule:∀(i j:Int)(t u:Tok)(s:Shared)(Q:VS)(E:VS),Q (.bool (g i j)) s->wpAny (model X.prog X.w) X.A (f (.int i t) (.int j u)) Q E s) :
  OpR X f (rI0 fun i j=>.bl (g i j)):=by
 intro pins s σ H x y v u Q I rx ry h
 obtain⟨i,j,rfl,rfl,q⟩:=h
 obtain⟨t,rfl⟩:=rx
 obtain⟨t',rfl⟩:=ry
 exact rule i j t t' s _ _ ⟨.bl (g i j),H,I,rfl,q⟩
def CPow(i j:Int):Prop:=0<=j/\j<=1000000/\i.natAbs<2^64
def CMul(i j:Int):Prop:=(-(2^64)<i/\i<2^64)\/(-(2^64)<j/\j<2^64)
theorem CMul.ok{i j:Int}(h:CMul i j):IntMulOk i j:=by
 rcases h with ⟨h1,h2⟩ | ⟨h1,h2⟩
 ·exact .of_left (intBits_le_64 h1 h2)
 ·exact .of_right (intBits_le_64 h1 h2)
theorem q29:OpR X (binaryOp .Add) (rI0 fun i j=>.int (i+j)):=opI0 fun _ _ _ _ _ _ _ q=>add_int q
theorem q54:OpR X (binaryOp .Sub) (rI0 fun i j=>.int (i-j)):=opI0 fun _ _ _ _ _ _ _ q=>sub_int q
theorem q105:OpR X (binaryOp .Mult) (rI CMul fun i j=>.int (i*j)):=opI fun _ _ _ _ _ _ _ hc q=>mul_int q hc.ok
theorem q134:OpR X (binaryOp .Mod) (rI (fun _ j=>0<j) fun i j=>.int (i%j)):=opI fun i j _ _ _ _ _ hc q=>by
 have h1:(0:Int)<j:=hc
 exact mod_int' ∅ (by rw[Int.fmod_eq_emod_of_nonneg i ∅];exact q)
theorem q290:OpR X (binaryOp .Pow) (rI CPow fun i j=>.int (i^j.toNat)):=opI fun _ _ _ _ _ _ _ hc q=>pow_int_small hc.1 hc.2.1 hc.2.2 q
theorem q544:OpR X (binaryOp .LShift) (rI CPow fun i j=>.int (i*2^j.toNat)):=opI fun _ _ _ _ _ _ _ hc q=>lshift_int_small hc.1 hc.2.1 hc.2.2 q
theorem unI{f:Value->Sem Value}{g:Int->Int}
  (rule:∀(i:Int)(t:Tok)(s:Shared)(Q:VS)(E:VS),Q (.int (g i) s.toks) { s with toks:=s.toks+1 }->wpAny (model X.prog X.w) X.A (f (.int i t)) Q E s) :
  UnR X f (rU fun i=>.int (g i)):=by
 intro pins s σ H x v Q I rx h
 obtain⟨i,rfl,q⟩:=h
 obtain⟨t,rfl⟩:=rx
 exact rule i t s _ _ ⟨.int (g i),H,I.tok _,⟨_,rfl⟩,q⟩
theorem un_neg:UnR X (unaryOp .USub) (rU fun i=>.int (-i)):=unI fun _ _ _ _ _ q=>neg_int q
end
noncomputable def scal:V->V->Bool
 | .non,.non=>true | .non,.int _=>true | .int _,.non=>true | .non,.bl _=>true | .bl _,.non=>true | .non,.str _=>true | .str _,.non=>true
 | .int _,.int _=>true | .bl _,.bl _=>true | .str _,.str _=>true | .byt _,.byt _=>true
 | .int _,.str _=>true | .str _,.int _=>true | .bl _,.str _=>true | .str _,.bl _=>true
 | _,_=>false
noncomputable def rEq:R2:=fun x y H Q=>scal x y=true/\Q (.bl (decide (x=y))) H
noncomputable def rNe:R2:=fun x y H Q=>scal x y=true/\Q (.bl (!decide (x=y))) H
theorem dec_int{i j:Int}:decide (V.int i=V.int j)=(i==j):=by
 rw[Bool.eq_iff_iff]
 simp
theorem dec_bl{i j:Bool}:decide (V.bl i=V.bl j)=(i==j):=by
 rw[Bool.eq_iff_iff]
 simp
theorem q646:decide (V.str i=V.str j)=(i==j):=by
 rw[Bool.eq_iff_iff]
 simp
theorem q647{i j:Array UInt8}:decide (V.byt i=V.byt j)=(i.toList==j.toList):=by
 rw[Bool.eq_iff_iff]
 cases i
 cases j
 simp
section
variable{a b c:Expr}{ta tb tc:TE}{pos:Pos}
theorem q37{k k':Bool}(I:Inv X pins σ H s)(q:Q (.bl k) H)(e:k=k'):EP X pins σ Q (.bool k') s:=by
 subst e
 exact⟨.bl k,H,I,rfl,q⟩
theorem op_eq:OpR X (compareOp .Eq) rEq:=by
 intro pins s σ H x y v u Q I rx ry h
 obtain⟨hs,q⟩:=h
 cases x with
 | non=>
  cases rx
  cases y with
  | non=>cases ry;exact PySem.EqNone.eq_none_none (q37 I q (by simp))
  | bl j=>cases ry;exact PySem.EqNone.eq_none_bool (q37 I q (by simp))
  | int j=>obtain⟨t',rfl⟩:=ry;exact PySem.EqNone.eq_none_int (q37 I q (by simp))
  | str j=>obtain⟨t',rfl⟩:=ry;exact PySem.EqNone.eq_none_str (q37 I q (by simp))
  | _=>exact absurd (show false=true from hs) fnt
 | bl i=>
  cases rx
  cases y with
  | non=>cases ry;exact PySem.EqNone.eq_bool_none (q37 I q (by simp))
  | bl j=>cases ry;exact eq_bool (q37 I q dec_bl)
  | str j=>obtain⟨t',rfl⟩:=ry;exact PySem.EqMixed.eq_bool_str (q37 I q (by simp))
  | _=>exact absurd (show false=true from hs) fnt
 | int i=>
  obtain⟨t,rfl⟩:=rx
  cases y with
  | non=>cases ry;exact PySem.EqNone.eq_int_none (q37 I q (by simp))
  | int j=>obtain⟨t',rfl⟩:=ry;exact eq_int (q37 I q dec_int)
  | str j=>obtain⟨t',rfl⟩:=ry;exact PySem.EqMixed.eq_int_str (q37 I q (by simp))
  | _=>exact absurd (show false=true from hs) fnt
 | str i=>
  obtain⟨t,rfl⟩:=rx
  cases y with
  | non=>cases ry;exact PySem.EqNone.eq_str_none (q37 I q (by simp))
  | bl j=>cases ry;exact PySem.EqMixed.eq_str_bool (q37 I q (by simp))
  | int j=>obtain⟨t',rfl⟩:=ry;exact PySem.EqMixed.eq_str_int (q37 I q (by simp))
  | str j=>obtain⟨t',rfl⟩:=ry;exact eq_str (q37 I q q646)
  | _=>exact absurd (show false=true from hs) fnt
 | byt i=>
  obtain⟨t,rfl⟩:=rx
  cases y with
  | byt j=>obtain⟨t',rfl⟩:=ry;exact PySem.W.eq_bytes (q37 I q q647)
  | _=>exact absurd (show false=true from hs) fnt
 | _=>cases y <;> exact absurd (show false=true from hs) fnt
theorem op_ne:OpR X (compareOp .NotEq) rNe:=by
 intro pins s σ H x y v u Q I rx ry h
 obtain⟨hs,q⟩:=h
 cases x with
 | non=>
  cases rx
  cases y with
  | non=>cases ry;exact PySem.EqNone.ne_none_none (q37 I q (by simp))
  | bl j=>cases ry;exact PySem.EqNone.ne_none_bool (q37 I q (by simp))
  | int j=>obtain⟨t',rfl⟩:=ry;exact PySem.EqNone.ne_none_int (q37 I q (by simp))
  | str j=>obtain⟨t',rfl⟩:=ry;exact PySem.EqNone.ne_none_str (q37 I q (by simp))
  | _=>exact absurd (show false=true from hs) fnt
 | bl i=>
  cases rx
  cases y with
  | non=>cases ry;exact PySem.EqNone.ne_bool_none (q37 I q (by simp))
  | bl j=>cases ry;exact ne_bool (q37 I q (congrArg not dec_bl))
  | str j=>obtain⟨t',rfl⟩:=ry;exact PySem.EqMixed.ne_bool_str (q37 I q (by simp))
  | _=>exact absurd (show false=true from hs) fnt
 | int i=>
  obtain⟨t,rfl⟩:=rx
  cases y with
  | non=>cases ry;exact PySem.EqNone.ne_int_none (q37 I q (by simp))
  | int j=>obtain⟨t',rfl⟩:=ry;exact ne_int (q37 I q (congrArg not dec_int))
  | str j=>obtain⟨t',rfl⟩:=ry;exact PySem.EqMixed.ne_int_str (q37 I q (by simp))
  | _=>exact absurd (show false=true from hs) fnt
 | str i=>
  obtain⟨t,rfl⟩:=rx
  cases y with
  | non=>cases ry;exact PySem.EqNone.ne_str_none (q37 I q (by simp))
  | bl j=>cases ry;exact PySem.EqMixed.ne_str_bool (q37 I q (by simp))
  | int j=>obtain⟨t',rfl⟩:=ry;exact PySem.EqMixed.ne_str_int (q37 I q (by simp))
  | str j=>obtain⟨t',rfl⟩:=ry;exact ne_str (q37 I q (congrArg not q646))
  | _=>exact absurd (show false=true from hs) fnt
 | byt i=>
  obtain⟨t,rfl⟩:=rx
  cases y with
  | byt j=>obtain⟨t',rfl⟩:=ry;exact PySem.W.ne_bytes (q37 I q (congrArg not q647))
  | _=>exact absurd (show false=true from hs) fnt
 | _=>cases y <;> exact absurd (show false=true from hs) fnt
theorem op_lt:OpR X (compareOp .Lt) (rI0 fun i j=>.bl (decide (i<j))):=opB0 fun _ _ _ _ _ _ _ q=>lt_int q
theorem op_le:OpR X (compareOp .LtE) (rI0 fun i j=>.bl (decide (i<=j))):=opB0 fun _ _ _ _ _ _ _ q=>le_int q
theorem op_gt:OpR X (compareOp .Gt) (rI0 fun i j=>.bl (decide (j<i))):=opB0 fun _ _ _ _ _ _ _ q=>gt_int q
theorem op_ge:OpR X (compareOp .GtE) (rI0 fun i j=>.bl (decide (j<=i))):=opB0 fun _ _ _ _ _ _ _ q=>ge_int q
theorem q291:OpR X (compareOp .Is) (fun x y H Q=>y = .non/\Q (.bl (decide (x = .non))) H):=by
 intro pins s σ H x y v u Q I rx ry h
 obtain⟨rfl,q⟩:=h
 cases ry
 refine is_none_gen (q37 I q ?_)
 cases x <;> first
  | (cases rx;rfl)
  | (obtain⟨t,rfl⟩:=rx;rfl)
theorem op_notN:OpR X (compareOp .IsNot) (fun x y H Q=>y = .non/\Q (.bl (!decide (x = .non))) H):=by
 intro pins s σ H x y v u Q I rx ry h
 obtain⟨rfl,q⟩:=h
 cases ry
 refine isnot_none_gen (q37 I q ?_)
 cases x <;> first
  | (cases rx;rfl)
  | (obtain⟨t,rfl⟩:=rx;rfl)
theorem q20(b:Expr)(h:op ≠ .In:=by decide)(h2:op ≠ .NotIn:=by decide):behindInMarks op b=false:=by
 have e1:(op==CmpOp.In)=false:=by cases op <;> first | rfl | exact absurd rfl h
 have e2:(op==CmpOp.NotIn)=false:=by cases op <;> first | rfl | exact absurd rfl h2
 cases b <;> simp[behindInMarks,e1,e2]
theorem q41{op:CmpOp}{r:R2}(ho:OpR X (compareOp op) r)(ha:PE X a ta)(hb:PE X b tb)(hm:behindInMarks op b=false):PE X (.Compare a [op] [b] pos) (tOp r ta tb):=by
 intro pins s σ H Q I h
 exact wpAny_Compare1 (binT ha hb I h fun v u s2 x y H2 I2 rx ry q=>ho pins s2 σ H2 x y v u Q I2 rx ry q) hm
def tTest(t:TE):TT:=fun σ H Q=>t σ H fun x H'=>isB x H' Q
theorem q18(ho:OpR X (compareOp op) r)(ha:PE X a ta)(hb:PE X b tb)(hm:behindInMarks op b=false):PT X (.Compare a [op] [b] pos) (tTest (tOp r ta tb)):=by
 intro pins s σ H Q I h
 refine wpAny_isTrue_Compare1 (thn (ha pins s σ H _ I h) fun v s1 ⟨x,H1,I1,r1,q1⟩=>thn (hb pins s1 σ H1 _ I1 q1) fun u s2 ⟨y,H2,I2,r2,q2⟩=>
  thn (ho pins s2 σ H2 x y v u _ I2 r1 r2 q2) fun c s3 ⟨z,H3,I3,r3,k,e,q3⟩=>?_) hm
 subst e
 cases r3
 exact wpAny_truthy_bool ⟨H3,I3,q3⟩
def tChain(r r':R2)(ta tb tc:TE):TE:=fun σ H Q=>ta σ H fun x H1=>tb σ H1 fun y H2=>r x y H2 fun z H3=>∃ k,z = .bl k /\
 (if k=true then tc σ H3 fun w' H4=>r' y w' H4 Q else Q (.bl false) H3)
theorem q396(ho:OpR X (compareOp op) r)(ho':OpR X (compareOp op') r')(ha:PE X a ta)(hb:PE X b tb)(hc:PE X c tc)
  (hm:lastMarks [op,op'] [b,c]=false:=by with_unfolding_all rfl):PE X (.Compare a [op,op'] [b,c] pos) (tChain r r' ta tb tc):=by
 intro pins s σ H Q I h
 refine Compare_chain (thn (ha pins s σ H _ I h) fun v s1 ⟨x,H1,I1,r1,q1⟩=>chain_link (thn (hb pins s1 σ H1 _ I1 q1) fun u s2 ⟨y,H2,I2,r2,q2⟩=>
  thn (ho pins s2 σ H2 x y v u _ I2 r1 r2 q2) fun d s3 ⟨z,H3,I3,r3,k,e,q3⟩=>?_)) hm
 subst e
 cases r3
 refine wpAny_truthy_bool ?_
 cases k with
 | false=>exact ite_ff ⟨.bl false,H3,I3,rfl,q3⟩
 | true=>exact ite_tt (chain_last (thn (hc pins s3 σ H3 _ I3 q3) fun w' s4 ⟨z',H4,I4,r4,q4⟩=>ho' pins s4 σ H4 y z' u w' Q I4 r2 r4 q4))
theorem pt_chain(ho:OpR X (compareOp op) r)(ho':OpR X (compareOp op') r')(ha:PE X a ta)(hb:PE X b tb)(hc:PE X c tc)
  (hm:lastMarks [op,op'] [b,c]=false:=by with_unfolding_all rfl):PT X (.Compare a [op,op'] [b,c] pos) (tTest (tChain r r' ta tb tc)):=by
 intro pins s σ H Q I h
 refine isTrue_chain (thn (ha pins s σ H _ I h) fun v s1 ⟨x,H1,I1,r1,q1⟩=>test_link (thn (hb pins s1 σ H1 _ I1 q1) fun u s2 ⟨y,H2,I2,r2,q2⟩=>
  thn (ho pins s2 σ H2 x y v u _ I2 r1 r2 q2) fun d s3 ⟨z,H3,I3,r3,k,e,q3⟩=>?_)) hm
 subst e
 cases r3
 refine wpAny_truthy_bool ?_
 cases k with
 | false=>
  obtain⟨k',e',q'⟩:=q3
  cases e'
  exact ite_ff ⟨H3,I3,q'⟩
 | true=>
  refine ite_tt (test_last (thn (hc pins s3 σ H3 _ I3 q3) fun w' s4 ⟨z',H4,I4,r4,q4⟩=>thn (ho' pins s4 σ H4 y z' u w' _ I4 r2 r4 q4) fun d' s5 ⟨z2,H5,I5,r5,k2,e2,q5⟩=>?_))
  subst e2
  cases r5
  exact wpAny_truthy_bool ⟨H5,I5,q5⟩
theorem q545:(sizeLine:Nat)<2^63:=by rw[sizeLine_eq];decide
theorem vals1(r:Vals [x] us):∃ u,us=[u]/\RelV x u:=by
 cases r with
 | cons r1 r2=>cases r2;exact⟨_,rfl,r1⟩
theorem vals2(r:Vals [x,y] us):∃ u w',us=[u,w']/\RelV x u/\RelV y w':=by
 cases r with
 | cons r1 r2=>
  cases r2 with
  | cons r3 r4=>cases r4;exact⟨_,_,rfl,r1,r3⟩
inductive q594  (xs:List V) (H:Hp) (Q:VK):Prop
 |mk(i j)(_:xs=[.int i,.int j])(_:Q (.int (if j > i then j else i)) H)
theorem q648(hc:X.calm=true):CallR X (.builtin "max") q594:=by
 intro pins s σ H xs us Q I r h
 obtain⟨i,j,rfl,q⟩:=h
 obtain⟨u,w',rfl,⟨t,rfl⟩,⟨t',rfl⟩⟩:=vals2 r
 refine max_two_ints (I.ok.hd hc) fun h' tk k=>⟨_,H,I.kept k,?_,q⟩
 by_cases hj:j > i
 ·rw[ZJ hj,ZJ hj];exact⟨_,rfl⟩
 ·rw[ZI hj,ZI hj];exact⟨_,rfl⟩
inductive q595  (xs:List V) (H:Hp) (Q:VK):Prop
 |mk(i j)(_:xs=[.int i,.int j])(_:Q (.int (if j<i then j else i)) H)
theorem q649(hc:X.calm=true):CallR X (.builtin "min") q595:=by
 intro pins s σ H xs us Q I r h
 obtain⟨i,j,rfl,q⟩:=h
 obtain⟨u,w',rfl,⟨t,rfl⟩,⟨t',rfl⟩⟩:=vals2 r
 refine min_two_ints (I.ok.hd hc) fun h' tk k=>⟨_,H,I.kept k,?_,q⟩
 by_cases hj:j<i
 ·rw[ZJ hj,ZJ hj];exact⟨_,rfl⟩
 ·rw[ZI hj,ZI hj];exact⟨_,rfl⟩
theorem q650:CallR X (.type "int") (fun xs H Q=>(∃ i,xs=[.int i]/\Q (.int i) H) \/ ∃ k,xs=[.bl k]/\Q (.int (if k then 1 else 0)) H):=by
 intro pins s σ H xs us Q I r h
 rcases h with ⟨i,rfl,q⟩ | ⟨k,rfl,q⟩
 ·obtain⟨u,rfl,t,rfl⟩:=vals1 r
  exact call_int_int ⟨.int i,H,I,⟨_,rfl⟩,q⟩
 ·obtain⟨u,rfl,r1⟩:=vals1 r
  cases r1
  exact call_int_bool ⟨.int (if k then 1 else 0),H,I.tok _,⟨_,rfl⟩,q⟩
end
structure ObjM(h:Heap)(x dx C:Addr)(mA:Mg):Prop where
 obj:h.get? x=some (PySem.W.instObj C dx)
 ns:h.Ns1 dx mA
 ne:dx≠x
theorem q651{h:Heap}(n:h.Ns1 dx mA):∃ od,h.get? dx=some od /\ ∀ name,PySem.W.lookIn name od=some (mA name):=by
 obtain⟨o,es,ep,ho,hd,hk,_,hm⟩:=n
 refine⟨o,ho,fun name=>?_⟩
 have e:=hm name
 unfold nsFind findBy at e
 rw[<- Array.find?_toList]at e
 unfold PySem.W.lookIn
 rw[hd]
 dsimp only
 split
 ·rename_i y q
  rw[q]at e
  exact congrArg some e
 ·rename_i q
  rw[q]at e
  have a:es.toList.any (·.refKey)=false:=by
   rw[any_eq_false]
   intro y hy
   obtain⟨z,t,hkey⟩:=hk y (Array.mem_toList_iff.mp hy)
   simp[DictEntry.refKey,hkey]
  have a':¬ es.toList.any (·.refKey)=true:=by rw[a];exact fnt
  rw[ZI a']
  exact congrArg some e
theorem ObjM.look(I:ObjM h x dx C mA):∃ od,PySem.W.InstAt h x (PySem.W.instObj C dx) C (some od) /\ ∀ name,PySem.W.lookIn name od=some (mA name):=
 let ⟨od,ho,hl⟩:=q651 I.ns
 ⟨od,⟨I.obj,rfl,rfl,ho⟩,hl⟩
section
variable {P:Program} {w:World} {H H':Hp} {h h':Heap} {a C dx:Addr} {fs fs':List (Str×V)}
theorem ins_get(hok:HOk P w H h)(e:H a=some (.ins C dx fs)):∃ mA,ObjM h a dx C mA/\(∀ f,RelO (fs.lookup f) (mA f))/\PySem.Within mA (fs.map (·.1))/\fs.length<=1000/\H dx=some (.own a):=by
 obtain⟨d,z,ne,ob,mA,n,r,q⟩:=(show ObjOk P w H h a (.ins C dx fs)from hok a _ e)
 exact⟨mA,⟨ob,n,ne⟩,r,q,z,d⟩
end
structure Cls(K:Fg)(C:Addr):Prop where
 pg:PySem.W.plainGet K C Str.empty=true
 hd:PySem.W.hasDictIn K C=true
 po:PySem.W.plainOver K C=true
 sa:PySem.W.findIn K (.ref C) "__setattr__" = some (some (.builtin "object.__setattr__"))
theorem Cls.get{K:Fg}{C:Addr}(c:Cls K C)(f:Str):PySem.W.plainGet K C f=true:=c.pg
def NoAttr(K:Fg)(C:Addr)(f:Str):Prop:=PySem.W.findIn K (.ref C) f=some none
structure Con(K:Fg)(C:Addr)(f:Str)(v:V)(u:Value):Prop where
 at_:PySem.W.findIn K (.ref C) f=some (some u)
 rel:RelV v u
 get:PySem.W.specialIn K u "__get__" = some none
 cp:PySem.W.copiedNames.contains f=false
structure Meth(K:Fg)(C:Addr)(m:Str)(f:Addr):Prop where
 at_:PySem.W.findIn K (.ref C) m=some (some (.ref f))
 fn:PySem.W.isFn K (.ref f)=true
 kp:PySem.W.keepIn K (.ref f)=true
section
variable {pins:List (Addr×Obj)} {σ:St} {H:Hp} {s:Shared} {A:Around} {E:VS} {Q:VS} {c:Value} {b:Bool}
inductive TyOf(K:Fg)(H:Hp):V->Value->Prop where
 | non:TyOf K H .non (.type "NoneType")
 | bl (x:Bool):TyOf K H (.bl x) (.type "bool")
 | int (i:Int):TyOf K H (.int i) (.type "int")
 | str (x:Str):TyOf K H (.str x) (.type "str")
 | flt (x:UInt64):TyOf K H (.flt x) (.type "float")
 | lst {a:Addr} {xs:List V} (e:H a=some (.lst xs)):TyOf K H (.ref a) (.type "list")
 | frz {a:Addr} {o:Obj} {xs:List V} (e:H a=some (.frz o (.lst xs))):TyOf K H (.ref a) (.type "list")
 | tup {a:Addr} {xs:List V} (e:H a=some (.tup xs)):TyOf K H (.ref a) (.type "tuple")
 | dK {a:Addr} {kvs:List (Key×V)} (e:H a=some (.dK kvs)):TyOf K H (.ref a) (.type "dict")
 | dT {a:Addr} {kvs:List (List Key×V)} (e:H a=some (.dT kvs)):TyOf K H (.ref a) (.type "dict")
 | ins {a C dx:Addr} {fs:List (Str×V)} (e:H a=some (.ins C dx fs)) (cl:Cls K C) (ha:PySem.W.findIn K (.ref C) "__class__" = some (some (.builtin "object.__class__")))
   (hn:PySem.W.specialIn K (.builtin "object.__class__") "__get__" = some (some (.builtin "getset_descriptor.__get__"))) (htk:PySem.W.takesIn K (.builtin "object.__class__")=some true)
   (hm:PySem.W.mroIn K C (.type "object")=some true):TyOf K H (.ref a) (.ref C)
theorem q652(I:Inv X pins σ H s)(rx:RelV x u)(ty:TyOf X.K H x t)(e:PySem.W.kitOne X.K t c=some b)(h:∀ tk,Q (.bool b) { s with toks:=tk }) :
  wpAny (model X.prog X.w) A (call (.builtin "isinstance") [u,c]) Q E s:=by
 cases ty with
 | non=>cases(show u=Value.none from rx);exact YX PySem.W.kitx_none I.kIn True.intro e (fun z=>nomatch z) h
 | bl y=>cases(show u=Value.bool y from rx);exact YX PySem.W.kitx_bool I.kIn True.intro e (fun z=>nomatch z) h
 | int i=>obtain⟨t,q⟩:=(show ∃ t,u=Value.int i t from rx);cases q;exact YX PySem.W.kitx_int I.kIn True.intro e (fun z=>nomatch z) h
 | str y=>obtain⟨t,q⟩:=(show ∃ t,u=Value.str y t from rx);cases q;exact YX PySem.W.kitx_str I.kIn True.intro e (fun z=>nomatch z) h
 | flt y=>obtain⟨t,q⟩:=(show ∃ t,u=Value.float y t from rx);cases q;exact YX PySem.W.kitx_float I.kIn True.intro e (fun z=>nomatch z) h
 | @lst a xs ea=>
  cases(show u=Value.ref a from rx)
  obtain⟨_,_,n,_,h1⟩:=(show ObjOk X.prog X.w H s.heap a (.lst xs)from I.hok a _ ea)
  exact YX PySem.W.kitx_list I.kIn ⟨_,h1,rfl⟩ e (fun z=>nomatch z) h
 | @frz a ob xs ea=>
  cases(show u=Value.ref a from rx)
  obtain⟨_,_,_,n,_,h1⟩:=(show ObjOk X.prog X.w H s.heap a (.frz ob (.lst xs))from I.hok a _ ea)
  exact YX PySem.W.kitx_list I.kIn ⟨_,h1,rfl⟩ e (fun z=>nomatch z) h
 | @tup a xs ea=>
  cases(show u=Value.ref a from rx)
  obtain⟨_,_,_,p⟩:=(show ObjOk X.prog X.w H s.heap a (.tup xs)from I.hok a _ ea)
  obtain⟨o,h1,h2,_⟩:=p
  exact YX PySem.W.kitx_tuple I.kIn ⟨o,h1,h2⟩ e (fun z=>nomatch z) h
 | @dK a kvs ea=>
  cases(show u=Value.ref a from rx)
  obtain⟨_,_,vs,_,p⟩:=(show ObjOk X.prog X.w H s.heap a (.dK kvs)from I.hok a _ ea)
  obtain⟨o,es,ep,h1,h2,_⟩:=p
  exact YX PySem.W.kitx_dict I.kIn ⟨o,h1,h2.1⟩ e (fun z=>nomatch z) h
 | @dT a kvs ea=>
  cases(show u=Value.ref a from rx)
  obtain⟨_,_,xs,_,o,es,ep,h1,h2,_⟩:=(show ObjOk X.prog X.w H s.heap a (.dT kvs)from I.hok a _ ea)
  exact YX PySem.W.kitx_dict I.kIn ⟨o,h1,h2.1⟩ e (fun z=>nomatch z) h
 | @ins a C dx fs ea cl ha hn htk hm=>
  cases(show u=Value.ref a from rx)
  obtain⟨mA,O,_⟩:=ins_get I.hok ea
  obtain⟨od,J,_⟩:=O.look
  exact YX (PySem.W.kitx_own (cl.get _) cl.hd ha hn htk hm) I.kIn J e (fun z=>nomatch z) h
end
structure Room(k:Nat)(A:Around):Prop where
 hd:A.handled=none
 dp:A.depth+3*k+5<recursionLimit
 un:A.units+16*k+200<cLine
theorem Room.mono{j k:Nat}(r:Room k A)(h:j<=k):Room j A:=⟨r.hd,by have:=r.dp;lia,by have:=r.un;lia⟩
theorem Room.deeper{k:Nat}{A:Around}(r:Room (k+1) A)(env:Env):Room k (A.deeper env):=
 ⟨r.hd,by have:=r.dp;show A.depth+1+3*k+5<_;lia,by have:=r.un;show A.units+3+16*k+200<_;lia⟩
theorem Room.depth{k:Nat}{A:Around}(r:Room k A):A.depth<recursionLimit:=by have:=r.dp;lia
theorem Room.units{k:Nat}{A:Around}(r:Room k A):A.units+64<cLine:=by have:=r.un;lia
theorem Room.units0{k:Nat}{A:Around}(r:Room k A):A.units<cLine:=by have:=r.un;lia
def tNil:TA:=fun _ H Q=>Q [] H
def tCons(ta:TE)(tr:TA):TA:=fun σ H Q=>ta σ H fun x H1=>tr σ H1 fun xs H2=>Q (x::xs) H2
section
variable {e:Expr} {es:List Expr} {te:TE} {t:TA} {pos:Pos}
theorem q12:PA X [] tNil:=fun _ _ _ _ H Q I h=>Calls.spliced_nil ⟨[],H,I,.nil,h⟩
theorem q10(ha:PE X e te)(hr:PA X es t)(hs:starEach (e::es) X.env=(false,eval e X.env)::starEach es X.env:=by rfl):PA X (e::es) (tCons te t):=by
 intro pos pins s σ H Q I h
 rw[hs]
 show wpAny _ _ (spliced ((false,eval e X.env)::backTo pos (starEach es X.env))) _ _ s
 refine Calls.spliced_cons (thn (ha pins s σ H _ I h) fun u s1 ⟨x,H1,I1,r1,q1⟩=>?_)
 exact thn (hr pos pins s1 σ H1 _ I1 q1) fun us s2 ⟨xs,H2,I2,r2,q2⟩=>⟨x::xs,H2,I2,.cons r1 r2,q2⟩
noncomputable def tTup(t:TA):TE:=fun σ H Q=>t σ H fun xs H1=>xs.length<=sizeLine /\ ∀ p,H1 p=none->Q (.ref p) (upd H1 p (.tup xs))
noncomputable def tLst(t:TA):TE:=fun σ H Q=>t σ H fun xs H1=>xs.length<=sizeLine /\ ∀ p,H1 p=none->Q (.ref p) (upd H1 p (.lst xs))
theorem q30{x1}(h:PA X es t):PE X (.Tuple es x1 pos) (tTup t):=by
 intro pins s σ H Q I hq
 refine wpAny_Tuple_spliced (thn (h pos pins s σ H _ I hq) fun us s1 ⟨xs,H1,I1,r,z,q⟩=>⟨by rw[<- r.length];exact z,?_⟩)
 have hf:H1 s1.heap.objs.size=none:=I1.hok.fresh (ZG _)
 refine⟨.ref s1.heap.objs.size,upd H1 s1.heap.objs.size (.tup xs),I1.laid (t':=s1.toks) (fun b u e=>ZF _ e) (ZG _) ?_,rfl,q _ hf⟩
 exact⟨z,us,r,⟨_,ZU _ rfl,rfl,_,rfl⟩⟩
theorem q42(h:PA X es t):PE X (.List es pos) (tLst t):=by
 intro pins s σ H Q I hq
 refine wpAny_List_spliced (thn (h pos pins s σ H _ I hq) fun us s1 ⟨xs,H1,I1,r,z,q⟩=>⟨by rw[<- r.length];exact z,?_⟩)
 have hf:H1 s1.heap.objs.size=none:=I1.hok.fresh (ZG _)
 refine⟨.ref s1.heap.objs.size,upd H1 s1.heap.objs.size (.lst xs),I1.laid (t':=s1.toks) (fun b u e=>ZF _ e) (ZG _) ?_,rfl,q _ hf⟩
 exact⟨z,us,0,r,ZU _ rfl⟩
end
abbrev Sp:=List V->Hp->VK->XK->Prop
abbrev CXT:=List Env->Hp->Shared->XK->VS
structure Env0(P:Program)(w:World)(K:Fg)(mg:Mg)(base:Heap)(A:Around)(outer:List Env)(s:Shared)(H:Hp):Prop where
 frames:A.frames=some outer
 mod:Mod K mg base
 bs:∀ b o,base.get? b=some o->s.heap.get? b=some o/\H b=none
 bsz:base.objs.size<=s.heap.objs.size
 funs:s.heap.FunFrames base outer
 frf:∀ b∈frs outer,H b=none
 hok:HOk P w H s.heap
 bare:AllBare s.gens
inductive CE(outer:List Env)(P:Program)(w:World)(H:Hp)(s:Shared)(Q:VK)(u:Value)(s':Shared):Prop
 |mk(v:V)(H':Hp)(_:s'.os=s.os)(_:AllBare s'.gens)(_:Un (frs outer) [] H H' s.heap s'.heap)(_:HOk P w H' s'.heap)(_:RelV v u)(_:Q v H')
noncomputable def CR(CX:CXT)(outer:List Env)(P:Program)(w:World)(H:Hp)(s:Shared)(Q:VK)(E:XK)(r:Result)(s':Shared):Prop:=
 match r with
 | .ok (.ret u)=>CE outer P w H s Q u s'
 | .ok _=>False
 | .error e=>CX outer H s E e s'
structure FnOk(P:Program)(w:World)(K:Fg)(mg:Mg)(base:Heap)(CX:CXT)(k:Nat)(f:Addr)(fd:FuncData)(ps:List Str)(sp:Sp):Prop where
 len:∀ vs H Q E,sp vs H Q E->vs.length=ps.length
 run:∀(A:Around)(outer:List Env)(s:Shared)(H:Hp)(args:Args)(us:List Value)(vs:List V)(Q:VK)(E:XK),Room k A->Env0 P w K mg base A outer s H->BindsTo s fd args (ps.zip us)->Vals vs us->sp vs H Q E ->
  codeAny (model P w) A (.call (.ref f) args) (CR CX outer P w H s Q E) s
theorem FnOk.mono{P:Program}{w:World}{K:Fg}{mg:Mg}{base:Heap}{CX:CXT}{j k:Nat}{f:Addr}{fd:FuncData}{ps:List Str}{sp:Sp}(F:FnOk P w K mg base CX j f fd ps sp)(h:j<=k) :
  FnOk P w K mg base CX k f fd ps sp:=⟨F.len,fun A outer s H args us vs Q E hr=>F.run A outer s H args us vs Q E (hr.mono h)⟩
section
variable {pins:List (Addr×Obj)} {σ:St} {H:Hp} {s s':Shared}
theorem Inv.env0(I:Inv X pins σ H s):Env0 X.prog X.w X.K X.mg X.base X.A X.stack s H:=
 ⟨I.ok.frames,I.ok.mod,I.bs,ZR I.ok.bsz I.sz,I.stack,I.stkFree,I.hok,I.bare⟩
theorem Inv.after(I:Inv X pins σ H s)(h:CE X.stack X.prog X.w H s Q u s'):EP X pins σ Q u s':=by
 obtain⟨v,H',os,bare,un,hok,r,q⟩:=h
 obtain⟨hh,g,d,t,os'⟩:=s'
 obtain rfl:os'=s.os:=os
 exact⟨v,H',I.call (h':=hh) (g':=g) (d':=d) (t':=t) (ch:=[]) un hok bare (fun b z=>absurd z (by simp)),r,q⟩
end
def tCall(sp:Sp)(dvs:List V)(E:XK)(t:TA):TE:=fun σ H Q=>t σ H fun vs H1=>sp (vs++dvs) H1 Q E
def Binds(K:Fg)(fd:FuncData)(ps:List Str)(ds:List Value):Prop:=
 ∀(s:Shared)(us:List Value),K.In s.heap->(us++ds).length=ps.length->BindsTo s fd ⟨us,[]⟩ (ps.zip (us++ds))
theorem Binds.all{K:Fg}{fd:FuncData}{ps:List Str}(h:∀ us:List Value,us.length=ps.length->bindArgs fd ⟨us,[]⟩=pure (ps.zip us)):Binds K fd ps []:=fun s us _ hl=>by
 rw[append_nil]at hl ⊢
 exact .of_eq (h us hl)
def q546(CX:CXT)(X:Cx)(E:XK):Prop:=∀(pins:List (Addr×Obj)) (σ:St) (H:Hp) (s:Shared) (e:Value) (s':Shared),Inv X pins σ H s->CX X.stack H s E e s'->X.xe e s'
section
variable {CX:CXT} {k:Nat} {f C:Addr} {fd:FuncData} {ps:List Str} {sp:Sp} {dvs:List V} {ds:List Value} {E:XK} {x m:Str} {p pos apos:Pos} {e o:Expr} {es:List Expr} {ta:TE} {t:TA}
theorem run_fn(F:FnOk X.prog X.w X.K X.mg X.base CX k f fd ps sp)(hr:Room k X.A)(hb:Binds X.K fd ps ds)(hd:Vals dvs ds)(hx:q546 CX X E)
  (I:Inv X pins σ H s) (r:Vals vs us) (h:sp (vs++dvs) H Q E):wpAny (model X.prog X.w) X.A (call (.ref f) us) (EP X pins σ Q) X.xe s:=by
 have r2:Vals (vs++dvs) (us++ds):=r.append hd
 have hl:(us++ds).length=ps.length:=by rw[<- r2.length];exact F.len _ _ _ _ h
 refine wpAny_call (codeAny_mono (F.run X.A X.stack s H ⟨us,[]⟩ (us++ds) (vs++dvs) Q E hr I.env0 (hb s us I.kIn hl) r2 h) fun r s' hq=>?_)
 cases r with
 | error e=>exact hx pins σ H s e s' I hq
 | ok fl=>
  cases fl with
  | ret u=>exact I.after hq
  | next=>exact False.elim hq
  | brk=>exact False.elim hq
  | cont=>exact False.elim hq
theorem q653(F:FnOk X.prog X.w X.K X.mg X.base CX k f fd ps sp)(hr:Room k X.A)(hg:Gl X x)(hm:X.mg x=some (.ref f))(hk:PySem.W.keepIn X.K (.ref f)=true)(hb:Binds X.K fd ps ds)(hd:Vals dvs ds)(hx:q546 CX X E)
  (ha:PA X (e::es) t) (hdb:(x==("__debug__" : Str))=false:=by decide) (he:starEach (e::es) X.env=(false,eval e X.env)::starEach es X.env:=by rfl) (hpl:(backTo pos (starEach es X.env)).any (·.1)=false:=by rfl) :
  PE X (.Call (.Name x p) (e::es) [] pos) (tCall sp dvs E t):=by
 intro pins s σ H Q I h
 refine wpAny_Call_Name_kw (q232 I hg hm ?_ hdb)
 refine PySem.W.callWith_K (h₀:=X.base) I.ok.mod.kin hk (thn (ha pos pins s σ H _ I h) fun us s1 ⟨vs,H1,I1,r,q⟩=>⟨I1.kIn,?_⟩) he hpl
 exact run_fn F hr hb hd hx I1 r q
structure Mk(K:Fg)(C f:Addr):Prop where
 makes:PySem.W.makesIn K C=true
 init:PySem.W.findIn K (.ref C) "__init__" = some (some (.ref f))
 fn:PySem.W.isFn K (.ref f)=true
 kp:PySem.W.keepIn K (.ref C)=true
end
section
variable {CX:CXT} {k:Nat} {f C:Addr} {fd:FuncData} {ps ks:List Str} {sp:Sp} {E:XK} {x m:Str} {p pos apos kpos:Pos} {e o:Expr} {es:List Expr} {kws:List Keyword} {te ta:TE} {t tk:TA} {nm:Option Str}
structure KBinds(K:Fg)(fd:FuncData)(ps ks:List Str)(g:List Value->List Value->List Value)(gV:List V->List V->List V):Prop where
 to:∀(s:Shared)(us ws:List Value),K.In s.heap->(g us ws).length=ps.length->BindsTo s fd ⟨us,ks.zip ws⟩ (ps.zip (g us ws))
 rel:∀{vs:List V}{us:List Value}{zs:List V}{ws:List Value},Vals vs us->Vals zs ws->Vals (gV vs zs) (g us ws)
variable {g:List Value->List Value->List Value} {gV:List V->List V->List V}
end
structure FnScope(N P:List Str)(sc:Scope):Prop where
 kind:sc.kind = .function
 co:sc.isCoroutine=false
 gen:sc.isGenerator=false
 nd:N.Nodup
 pre:N.take P.length=P
 par:∀ x∈P,sc.names.lookup x=some .local\/sc.names.lookup x=some .cell
 nofree:∀ y∈sc.names,y.2 ≠ .free
theorem q439{kindOf:Str->Option NameKind}{x:Str}:∀{binds:List (Str×Value)} {m:Mg},(∀ v,(x,v) ∉ binds)->bindL kindOf binds m x=m x
 | [],_,_=>rfl
 | (n,v)::r,m,h=>by
  unfold bindL
  rw[q439 fun w hw=>h w (ZZ _ hw)]
  split
  ·have:x≠n:=by rintro rfl;exact h v WF
   simp[this]
  ·rfl
theorem q440{kindOf:Str->Option NameKind}{x:Str}:∀{binds:List (Str×Value)} {m:Mg},(∀ v,(x,v) ∉ binds)->bindC kindOf binds m x=m x
 | [],_,_=>rfl
 | (n,v)::r,m,h=>by
  unfold bindC
  rw[q440 fun w hw=>h w (ZZ _ hw)]
  split
  ·rfl
  ·have:x≠n:=by rintro rfl;exact h v WF
   simp[this]
theorem q441{kindOf:Str->Option NameKind}{x:Str}{v:Value}:∀{P:List Str}{vs:List Value}{i:Nat}{m:Mg},P.Nodup->P[i]? = some x->vs[i]? = some v->kindOf x=some .local ->
  bindL kindOf (P.zip vs) m x=some v
 | [],_,_,_,_,h,_,_=>by simp at h
 | _::_,[],_,_,_,_,h,_=>by simp at h
 | p::P,w::vs,0,m,nd,h1,h2,hk=>by
  simp at h1 h2;subst h1;subst h2
  show bindL kindOf ((p,w)::P.zip vs) m p=_
  unfold bindL
  rw[q439 fun v hv=>(List.nodup_cons.mp nd).1 (of_mem_zip hv).1,ZJ hk]
  simp
 | p::P,w::vs,i+1,m,nd,h1,h2,hk=>by
  show bindL kindOf ((p,w)::P.zip vs) m x=_
  unfold bindL
  exact q441 (i:=i) (List.nodup_cons.mp nd).2 (by simpa using h1) (by simpa using h2) hk
theorem q442{kindOf:Str->Option NameKind}{x:Str}{v:Value}:∀{P:List Str}{vs:List Value}{i:Nat}{m:Mg},P.Nodup->P[i]? = some x->vs[i]? = some v->kindOf x≠some .local ->
  bindC kindOf (P.zip vs) m x=some v
 | [],_,_,_,_,h,_,_=>by simp at h
 | _::_,[],_,_,_,_,h,_=>by simp at h
 | p::P,w::vs,0,m,nd,h1,h2,hk=>by
  simp at h1 h2;subst h1;subst h2
  show bindC kindOf ((p,w)::P.zip vs) m p=_
  unfold bindC
  rw[q440 fun v hv=>(List.nodup_cons.mp nd).1 (of_mem_zip hv).1,ZI hk]
  simp
 | p::P,w::vs,i+1,m,nd,h1,h2,hk=>by
  show bindC kindOf ((p,w)::P.zip vs) m x=_
  unfold bindC
  exact q442 (i:=i) (List.nodup_cons.mp nd).2 (by simpa using h1) (by simpa using h2) hk
noncomputable def start(N:List Str)(vs:List V):St:=vs.map some++List.replicate (N.length-vs.length) none
noncomputable def cxOf(CX:CXT)(P:Program)(w:World)(K:Fg)(mg:Mg)(base:Heap)(N:List Str)(qual:Str)(scope:Scope)(f:Addr)(cd:Value)(A:Around)(outer:List Env)(s:Shared)(H:Hp)(E:XK):Cx where
 prog:=P
 w:=w
 K:=K
 mg:=mg
 base:=base
 A:=A.deeper (envOfC qual scope s.heap.objs.size f cd)
 N:=N
 s₀:=s
 H₀:=H
 env:=envOfC qual scope s.heap.objs.size f cd
 outer:=outer
 stack:=envOfC qual scope s.heap.objs.size f cd::outer
 ex:=[]
 calm:=true
 fn:=fun _=>true
 pn:=[]
 xe:=fun e s'=>wpAny (model P w) (A.deeper (envOfC qual scope s.heap.objs.size f cd)) (leaving (envOfC qual scope s.heap.objs.size f cd) e) (fun _ s''=>CX outer H s E e s'') (fun e' s''=>CX outer H s E e' s'') s'
theorem q547{sc:Scope}{n:Nat}(h:sc.names.lookup x=some .cell):∃ c,(cellsFrom n sc.names []).lookup x=some c:=by
 have q:=PySem.W.cellsFrom_some sc.names n [] (.inl h)
 exact Option.isSome_iff_exists.mp q
theorem q654{CX:CXT}{P:Program}{w:World}{K:Fg}{mg:Mg}{base:Heap}{N ps:List Str}{qual:Str}{scope:Scope}{f:Addr}{cd:Value}{A:Around}{outer:List Env}{s s1:Shared}{H:Hp}{E:XK}{us:List Value}{vs:List V}
  (S:FnScope N ps scope) (hd:A.handled=none) (e0:Env0 P w K mg base A outer s H) (hl:vs.length=ps.length) (r:Vals vs us)
  (x:InCallC s s.heap.objs.size (bindL (envOfC qual scope s.heap.objs.size f cd).kindOf (ps.zip us) fun _=>none) (cellsFrom (s.heap.objs.size+1) scope.names []) (bindC (envOfC qual scope s.heap.objs.size f cd).kindOf (ps.zip us) fun _=>none) s1) :
  Inv (cxOf CX P w K mg base N qual scope f cd A outer s H E) [] (start N vs) H s1:=by
 have hpl:ps.length<=N.length:=by have:=congrArg List.length S.pre;rw[length_take]at this;lia
 obtain⟨h1,tk,rfl,hk⟩:=x.done
 have noA:∀ b:Addr,b ∉ (cxOf CX P w K mg base N qual scope f cd A outer s H E).ex:=fun b z=>absurd (show b∈([]:List Addr)from z) (by simp)
 refine⟨⟨e0.mod,S.kind,rfl,rfl,ZG _,fun y z c h1 h2=>?_,fun y hy=>?_,fun y c _ h=>?_,fun _=>hd,Around.frames_deeper e0.frames,.inr ⟨rfl,rfl⟩,fun b z=>absurd z (noA b),e0.bs,e0.bsz,fun b _ _=>noA b,fun b z=>absurd z (noA b),e0.funs,e0.frf⟩,
  rfl,e0.bare,Un.kept hk,⟨_,x.toInCall.ns,fun i y v h1 h2 h3=>?_⟩,fun y c h=>⟨_,x.cell y c h⟩,e0.hok.fresh (ZG _),fun y c h=>?_,fun p hp=>absurd (show p∈([]:List (Addr×Obj))from hp) (by simp),e0.hok.kept hk,?_⟩
 ·exact name_of_addr x.apart (YC h1) (YC h2)
 ·have hy:scope.names.lookup y=some .cell\/scope.names.lookup y=some .free:=hy
  rcases hy with hy | hy
  ·exact q547 hy
  ·exact absurd rfl (S.nofree _ (YC hy))
 ·exact Nat.le_of_lt (x.above y c (YC h))
 ·have hi:i<vs.length:=by
   unfold start at h2
   by_cases hi:i<vs.length
   ·exact hi
   ·rw[YN (by simpa using hi)]at h2
    rw[getElem?_replicate]at h2
    split at h2 <;> cases h2
  have ha:vs[i]? = some v:=by
   unfold start at h2
   rw[YS (by simpa using hi),WN]at h2
   cases e:vs[i]? with
   | none=>rw[e]at h2;cases h2
   | some a=>rw[e]at h2;cases h2;rfl
  obtain⟨u,hu,rv⟩:=r.get ha
  have hp:ps[i]? = some y:=by
   rw[<- S.pre,getElem?_take_of_lt ∅];exact h1
  have ndP:ps.Nodup:=by rw[<- S.pre];exact S.nd.sublist (take_sublist _ _)
  exists u,rv
  rcases S.par y (WV hp)with k | k
  ·exact .inl ⟨k,q441 ndP hp hu k⟩
  ·obtain⟨c,e⟩:=q547 (n:=s.heap.objs.size+1) k
   refine .inr ⟨.inl k,c,e,?_⟩
   have q:=x.cell y c e
   rw[q442 ndP hp hu (by show scope.names.lookup y≠_;rw[k];decide)]at q
   exact q
 ·exact e0.hok.fresh (Nat.le_of_lt (x.above y c (YC h)))
 ·unfold start
  show _=N.length
  rw[ZV,ZN,length_replicate]
  lia
theorem fn_of{CX:CXT}{P:Program}{w:World}{K:Fg}{mg:Mg}{base:Heap}{k:Nat}{f:Addr}{name qual:Str}{params:Arguments}{body:List Stmt}{scope:Scope}{dV kV doc pm cdv ct oc:Value}{an od:Option Addr}
  {osl:Array (Option Value)} {N ps:List Str} {sp:Sp} (lk:K.lookup f=some ⟨oc,od,.func (PySem.W.fnOf name qual params body scope dV kV doc pm an cdv ct),osl⟩) (hcd:PySem.W.codeIn K cdv qual=true) (S:FnScope N ps scope)
  (len:∀ vs H Q E,sp vs H Q E->vs.length=ps.length)
  (hbody:∀(A:Around)(outer:List Env)(s:Shared)(H:Hp)(vs:List V)(Q:VK)(E:XK),Room k (A.deeper (envOfC qual scope s.heap.objs.size f cdv))->sp vs H Q E ->
   ∃ t,PSs (cxOf CX P w K mg base N qual scope f cdv A outer s H E) body t/\t { nx:=fun _ H'=>Q .non H',rt:=Q } (start N vs) H) :
  FnOk P w K mg base CX (k+1) f (PySem.W.fnOf name qual params body scope dV kV doc pm an cdv ct) ps sp:=by
 refine⟨len,fun A outer s H args us vs Q E hr e0 hb r hsp=>?_⟩
 have hl:=len _ _ _ _ hsp
 have KX:K.In s.heap:=e0.mod.kin.keeps fun b o e=>(e0.bs b o e).1
 have lim:s.heap.NoLimit:=e0.mod.nolimit.keeps fun b o e=>(e0.bs b o e).1
 have hkind:∀ y∈ps.zip us,scope.names.lookup y.1=some .local\/(scope.names.lookup y.1=some .cell/\((cellsFrom (s.heap.objs.size+1) scope.names []).lookup y.1).isSome=true):=fun⟨n,v⟩ hy=>by
  rcases S.par n (of_mem_zip hy).1 with q | q
  ·exact .inl q
  ·exact .inr ⟨q,PySem.W.cellsFrom_some _ _ _ (.inl q)⟩
 refine codeAny_call_function hr.depth (KX _ _ lk) rfl S.co S.gen rfl (PySem.W.codeRec_of KX hcd) (hb _ _ _ _ ?_)
 refine wpAny_newFunctionEnv_cells S.kind hkind fun env he s1 x=>?_
 subst he
 refine⟨lim.keeps x.toInCall.keep,codeAny_func ?_⟩
 obtain⟨t,ht,hq⟩:=hbody A outer s H vs Q E (hr.deeper _) hsp
 have I:Inv (cxOf CX P w K mg base N qual scope f cdv A outer s H E) [] (start N vs) H s1:=q654 S hr.hd e0 hl r x
 refine WW (ht [] s1 (start N vs) H _ I hq) (fun fl s' hs=>?_) fun e s' hs=>hs
 have fin:∀{σ':St}{H':Hp}{v:V}{u:Value},Inv (cxOf CX P w K mg base N qual scope f cdv A outer s H E) [] σ' H' s'->RelV v u->Q v H'->CE outer P w H s Q u s':=
  fun {σ' H' v u} J rv q=>⟨v,H',J.os,J.bare,J.base,J.hok,rv,q⟩
 cases fl with
 | ret u=>
  obtain⟨v,σ',H',J,rv,q⟩:=hs
  exact fin J rv q
 | next=>
  obtain⟨σ',H',J,q⟩:=hs
  exact fin (v:=V.non) (u:=Value.none) J rfl q
 | brk=>
  obtain⟨_,_,_,q⟩:=hs
  exact False.elim q
 | cont=>
  obtain⟨_,_,_,q⟩:=hs
  exact False.elim q
section
variable {x:Str} {p pos:Pos} {e:Expr} {es:List Expr} {t:TA} {id T:String} {r:List V->Hp->VK->Prop}
def tCB(r:List V->Hp->VK->Prop)(t:TA):TE:=fun σ H Q=>t σ H fun vs H1=>r vs H1 Q
theorem q35(hc:CallR X (.builtin id) r)(hg:Gl X x)(hm:X.mg x=none)(hv:bootBuiltins x=some (.builtin id))(ha:PA X (e::es) t)(hn:x ≠ "__name__" := by decide) (hdb:(x==("__debug__" : Str))=false:=by decide)
  (he:starEach (e::es) X.env=(false,eval e X.env)::starEach es X.env:=by rfl) (hpl:(backTo pos (starEach es X.env)).any (·.1)=false:=by rfl):PE X (.Call (.Name x p) (e::es) [] pos) (tCB r t):=by
 intro pins s σ H Q I h
 refine wpAny_Call_Name_kw (q362 I hg hm hv ?_ hn hdb)
 exact PyProof.Rows.callWith_builtin1 (thn (ha pos pins s σ H _ I h) fun us s1 ⟨vs,H1,I1,r1,q1⟩=>hc pins s1 σ H1 vs us Q I1 r1 q1) he hpl
theorem q138(hc:CallR X (.type T) r)(hg:Gl X x)(hm:X.mg x=none)(hv:bootBuiltins x=some (.type T))(ha:PA X (e::es) t)(hn:x ≠ "__name__" := by decide) (hdb:(x==("__debug__" : Str))=false:=by decide)
  (he:starEach (e::es) X.env=(false,eval e X.env)::starEach es X.env:=by rfl) (hpl:(backTo pos (starEach es X.env)).any (·.1)=false:=by rfl):PE X (.Call (.Name x p) (e::es) [] pos) (tCB r t):=by
 intro pins s σ H Q I h
 refine wpAny_Call_Name_kw (q362 I hg hm hv ?_ hn hdb)
 exact PyProof.Rows.callWith_type1 (thn (ha pos pins s σ H _ I h) fun us s1 ⟨vs,H1,I1,r1,q1⟩=>hc pins s1 σ H1 vs us Q I1 r1 q1) he hpl
end
end L2
namespace HT
set_option autoImplicit false
open PySem PyProof.Rows
section
open PySem.SeqAt
open PySem.AutoSeq1 (wpAny_loadPart')
open PySem.MeetsSeq PySem.MeetsSeq2 PySem.MeetsSeq3
end
section
variable {prog:Program} {w:World} {A:Around} {E:VS} {s:Shared}
noncomputable def sIx(n d:Nat):Option Int->Nat
 | none=>d
 | some v=>if v<0 then(v+(n:Int)).toNat else min v.toNat n
theorem q752(n d:Nat):sIx n d none=d:=rfl
theorem q753(n d k:Nat):sIx n d (some (k:Int))=min k n:=by
 show(if(k:Int)<0 then((k:Int)+(n:Int)).toNat else min (k:Int).toNat n)=min k n
 rw[ZI ∅,Int.toNat_natCast]
theorem sIx_le(n d:Nat)(hd:d<=n)(o:Option Int):sIx n d o<=n:=by
 cases o with
 | none=>exact hd
 | some v=>
  show(if v<0 then(v+(n:Int)).toNat else min v.toNat n)<=n
  by_cases hv:v<0
  ·rw[ZJ hv];lia
  ·rw[ZI hv];exact Nat.min_le_right _ _
theorem q655(v:Int)(n d:Nat):(if v<0 then max (v+(n:Int)) 0 else min v (n:Int))=((sIx n d (some v):Nat):Int):=by
 show(if v<0 then max (v+(n:Int)) 0 else min v (n:Int))=(((if v<0 then(v+(n:Int)).toNat else min v.toNat n):Nat):Int)
 by_cases hv:v<0
 ·simp only[ZJ hv];lia
 ·simp only[ZI hv];lia
theorem q596(lo hi:Option Int)(n:Nat):Builtin.Slice.sliceAdjust lo hi 1 (n:Int)=(((sIx n 0 lo:Nat):Int),((sIx n n hi:Nat):Int)):=by
 have h1:¬((1:Int)<0):=∅
 unfold Builtin.Slice.sliceAdjust
 simp only[h1,if_false]
 refine Prod.ext ?_ ?_
 ·cases lo with
  | none=>rfl
  | some v=>exact q655 v n 0
 ·cases hi with
  | none=>rfl
  | some v=>exact q655 v n n
theorem q597(i j:Nat):Builtin.Slice.slicePlaces (i:Int) (j:Int) 1=j-i:=by
 unfold Builtin.Slice.slicePlaces
 have h1:(1:Int) > 0:=∅
 simp only[h1,if_true,Int.ediv_one]
 split <;> lia
theorem q364{v:Value}{o:Option Int}{Q:Option Int->Shared->Prop}(p:IsPart v o)(h:Q o s):wpAny (model prog w) A (Builtin.Slice.slicePartIndex v) Q E s:=by
 cases p with
 | none=>exact slicePart_none h
 | int i t=>exact slicePart_int h
theorem q135{sl:Addr}{vl vu:Value}{lo hi:Option Int}{n:Nat}{Q:Int×Int×Nat->Shared->Prop}(hs:s.heap.IsSliceOf sl vl vu .none)(pl:IsPart vl lo)(pu:IsPart vu hi)
  (h:Q (((sIx n 0 lo:Nat):Int),1,sIx n n hi-sIx n 0 lo) s):wpAny (model prog w) A (Builtin.Slice.sliceApplied (.ref sl) (pure (n:Int))) Q E s:=by
 obtain⟨os,hos,hcs,hds⟩:=id hs
 unfold Builtin.Slice.sliceApplied Builtin.Slice.sliceFields
 refine ZC (ZC (wpAny_field hos hds (x:=vl) rfl (ZC (wpAny_field hos hds (x:=vu) rfl (ZC (wpAny_field hos hds (x:=.none) rfl (ZM ?_)))))))
 refine ZC (slicePart_none ?_)
 show wpAny _ _ (if((1:Int)==0)=true then _ else _) _ _ s
 rw[ZI {}]
 refine ZC (q364 pl (ZC (q364 pu (ZC (ZM ?_)))))
 show wpAny _ _ (match Builtin.Slice.sliceAdjust lo hi 1 (n:Int)with | (lo,hi)=>pure (lo,(1:Int),Builtin.Slice.slicePlaces lo hi 1)) _ _ s
 rw[q596 lo hi n]
 show wpAny _ _ (pure (((sIx n 0 lo:Nat):Int),(1:Int),Builtin.Slice.slicePlaces ((sIx n 0 lo:Nat):Int) ((sIx n n hi:Nat):Int) 1)) _ _ s
 rw[q597]
 exact ZM h
theorem pick_gen(xs:Array Value)(i k:Nat):((List.range k).filterMap fun(m:Nat)=>xs[((i:Int)+(m:Int)*1).toNat]?).toArray=((xs.toList.drop i).take k).toArray:=by
 have e:(fun(m:Nat)=>xs[((i:Int)+(m:Int)*1).toNat]?)=fun m=>xs[i+m]?:=by
  funext m
  have:((i:Int)+(m:Int)*1).toNat=i+m:=∅
  rw[this]
 rw[e]
 have:=pick_run xs i k
 rw[List.filterMap_map]at this
 have e2:((fun x=>xs[x]?)∘fun x=>i+x)=fun m=>xs[i+m]?:=rfl
 rw[e2]at this
 rw[this]
theorem q598{t sl:Addr}{items:Array Value}{vl vu:Value}{lo hi:Option Int}{Q:VS}(ht:IsTup s.heap t items)(hs:s.heap.IsSliceOf sl vl vu .none)(pl:IsPart vl lo)(pu:IsPart vu hi)
  (hw:¬(sIx items.size 0 lo=0/\sIx items.size items.size hi=items.size))
  (h:Q (.ref s.heap.objs.size) { s with heap:=s.heap.push { cls:=.type "tuple", data:=.seq ((items.toList.drop (sIx items.size 0 lo)).take (sIx items.size items.size hi-sIx items.size 0 lo)).toArray } })
  (hsz:items.size<=sizeLine):wpAny (model prog w) A (getItem (.ref t) (.ref sl)) Q E s:=by
 have htake:sizeOk (.seq ((items.toList.drop (sIx items.size 0 lo)).take (sIx items.size items.size hi-sIx items.size 0 lo)).toArray):=by
  show((items.toList.drop (sIx items.size 0 lo)).take (sIx items.size items.size hi-sIx items.size 0 lo)).toArray.size<=sizeLine
  rw[List.size_toArray,List.length_take,List.length_drop,ZY]
  lia
 have hj:sIx items.size items.size hi<=items.size:=sIx_le _ _ (ZG _) hi
 obtain⟨os,hos,hcs,hds⟩:=id hs
 have hTs:s.TypeIs (.ref sl) "slice" := ⟨os,hos,hcs⟩
 unfold getItem
 try with_reducible refine wpAny_holding ?_
 first | refine ZC (ZM ?_) | skip
 refine ZC (wpAny_sequenceKey ht.typeIs {} ?_)
 refine ZC (wpAny_callSpecial?_slot (name:=Str.ofString "__getitem__") ht.typeIs PyProof.Rows.slot_tuple_getitem
  (wpAny_call_entry PyProof.Rows.slot_tuple_getitem ht.typeIs entry_tuple_getitem ?_ (args_tuple_getitem _ _)))
 show wpAny _ _ (Builtin.Tuple.tupleItemsOf (.ref t) >>= _) _ _ s
 refine ZC (tupleItemsOf_ ht ?_)
 refine ZC (wpAny_typeOf hTs ?_)
 rw[ZJ {}]
 refine ZC (q135 hs pl pu ?_)
 have hno:¬((((sIx items.size 0 lo:Nat):Int)==0&&(1:Int)==1&&(sIx items.size items.size hi-sIx items.size 0 lo)==items.size)=true):=by
  intro q
  rw[WL,WL]at q
  have q1:((sIx items.size 0 lo:Nat):Int)=0:=eq_of_beq q.1.1
  have q2:sIx items.size items.size hi-sIx items.size 0 lo=items.size:=eq_of_beq q.2
  exact hw ⟨∅,∅⟩
 show wpAny _ _ (if(((sIx items.size 0 lo:Nat):Int)==0&&(1:Int)==1&&(sIx items.size items.size hi-sIx items.size 0 lo)==items.size)=true then _ else _) _ _ s
 rw[ZI hno,pick_gen]
 first
  | exact ZC (m:=Builtin.Tuple.tupleExact _) (YF (ZM ⟨_,rfl,ZM h⟩) htake)
  | exact ZC (m:=Builtin.Tuple.tupleExact _) (YF (ZC (ZM (ZM ⟨_,rfl,ZM h⟩))) htake)
  | exact ZC (ZC (m:=Builtin.Tuple.tupleExact _) (YF (ZM (ZM ⟨_,rfl,ZM h⟩)) htake))
  | exact ZC (ZC (m:=Builtin.Tuple.tupleExact _) (YF (ZM ⟨_,rfl,ZM h⟩) htake))
end
end HT
namespace L2
open PySem PySem.Spec PyProof.Rows List
variable {X:Cx}
abbrev TO:=St->Hp->(Option Int->Hp->Prop)->Prop
def PO(X:Cx)(e:Option Expr)(t:TO):Prop:=
 ∀(pins:List (Addr×Obj)) (s:Shared) (σ:St) (H:Hp) (Q:Option Int->Hp->Prop),Inv X pins σ H s->t σ H Q ->
  wpAny (model X.prog X.w) X.A (evalPart e X.env) (fun u s'=>∃ o H',Inv X pins σ H' s'/\IsPart u o/\Q o H') X.xe s
def tNoPart:TO:=fun _ H Q=>Q none H
inductive jPart(x:V)(H:Hp)(Q:Option Int->Hp->Prop):Prop
 |mk(i:Int)(_:x = .int i)(_:Q (some i) H)
def tPart(t:TE):TO:=fun σ H Q=>t σ H fun x H1=>jPart x H1 Q
theorem q58{ns:List Int}:∀{us:List Value},Vals (ns.map V.int) us->IntsAre us ns:=by
 induction ns with
 | nil=>intro us r;rw[map_nil]at r;cases r;exact .nil
 | cons n ns ih=>
  intro us r
  rw[map_cons]at r
  cases r with
  | cons r1 r2=>
   obtain⟨t,e⟩:=r1
   subst e
   exact .cons n t (ih r2)
section
variable {e:Expr} {te:TE} {lo hi:Option Expr} {tl th:TO} {pos p2:Pos}
theorem q187:PO X none tNoPart:=by
 intro pins s σ H Q I h
 rw[evalPart_none]
 exact ZM ⟨none,H,I,.none,h⟩
theorem q188(h:PE X e te):PO X (some e) (tPart te):=by
 intro pins s σ H Q I hw
 rw[evalPart_some]
 refine thn (h pins s σ H _ I hw) fun u s1 ⟨x,H1,I1,r1,q1⟩=>?_
 obtain⟨i,rfl,q⟩:=q1
 obtain⟨t,rfl⟩:=r1
 exact⟨some i,H1,I1,.int i t,q⟩
def SlR(X:Cx)(r:V->Option Int->Option Int->Hp->VK->Prop):Prop:=
 ∀(pins:List (Addr×Obj)) (s:Shared) (σ:St) (H:Hp) (x:V) (v vl vu:Value) (lo hi:Option Int) (sl:Addr) (Q:VK),Inv X pins σ H s->RelV x v->s.heap.IsSliceOf sl vl vu .none->IsPart vl lo->IsPart vu hi->r x lo hi H Q ->
  ∃ T id,typeLookup (.type T) "__getitem__" = pure (some (.builtin id))/\s.TypeIs v T/\wpAny (model X.prog X.w) X.A (getItem v (.ref sl)) (EP X pins σ Q) X.xe s
def tSl(r:V->Option Int->Option Int->Hp->VK->Prop)(te:TE)(tl th:TO):TE:=fun σ H Q=>te σ H fun x H1=>tl σ H1 fun l H2=>th σ H2 fun u H3=>r x l u H3 Q
theorem q124(hr:SlR X r)(he:PE X e te)(hl:PO X lo tl)(hu:PO X hi th):PE X (.Subscript e (.Slice lo hi none p2) pos) (tSl r te tl th):=by
 intro pins s σ H Q I h
 refine Subscript_ (thn (he pins s σ H _ I h) fun v s1 ⟨x,H1,I1,r1,q1⟩=>?_)
 refine wpAny_Slice (thn (hl pins s1 σ H1 _ I1 q1) fun vl s2 ⟨l,H2,I2,pl,q2⟩=>thn (hu pins s2 σ H2 _ I2 q2) fun vu s3 ⟨u,H3,I3,pu,q3⟩=>?_)
 rw[evalPart_none]
 refine ZM ?_
 have I4:Inv X pins σ H3 { s3 with heap:=s3.heap.push { cls:=.type "slice", data:=.fields #[vl,vu,.none] } }:=I3.kept (t':=s3.toks) fun b ob q=>ZF _ q
 obtain⟨T,id,hT,ht,hg⟩:=hr pins { s3 with heap:=s3.heap.push { cls:=.type "slice", data:=.fields #[vl,vu,.none] } } σ H3 x v vl vu l u s3.heap.objs.size Q I4 r1 (Heap.IsSliceOf.new ..) pl pu q3
 show wpAny (model X.prog X.w) X.A (subscriptTail e (.Slice lo hi none p2) v (.ref s3.heap.objs.size)) (EP X pins σ Q) X.xe { s3 with heap:=s3.heap.push { cls:=.type "slice", data:=.fields #[vl,vu,.none] } }
 exact tail_any (ops:=[.ref s3.heap.objs.size,v]) ht hT hg (by with_unfolding_all rfl)
noncomputable def cutV(xs:List V)(lo hi:Option Int):List V:=(xs.drop (HT.sIx xs.length 0 lo)).take (HT.sIx xs.length xs.length hi-HT.sIx xs.length 0 lo)
theorem q189(xs:List V)(lo hi:Option Int):(cutV xs lo hi).length<=xs.length:=by
 unfold cutV
 rw[length_take,length_drop]
 lia
inductive rSlT(K:Fg)(x:V)(lo:Option Int)(hi:Option Int)(H:Hp)(Q:VK):Prop
 |mk(a xs)(_:x = .ref a)(_:SqT K H a xs)(_:¬(HT.sIx xs.length 0 lo=0/\HT.sIx xs.length xs.length hi=xs.length))(_:∀ p,H p=none->Q (.ref p) (upd H p (.tup (cutV xs lo hi))))
theorem q548:SlR X (rSlT X.K):=by
 intro pins s σ H x v vl vu lo hi sl Q I rx hs pl pu h
 obtain⟨a,xs,rfl,hx,hw,q⟩:=h
 cases rx
 obtain⟨its,r,ht,hz⟩:=I.tuple hx
 have hlen:its.toArray.size=xs.length:=by rw[ZX];exact r.length.symm
 exists "tuple", _,PyProof.Rows.slot_tuple_getitem.lookup,ht.typeIs
 refine HT.q598 ht hs pl pu (by rw[hlen];exact hw) ?_ (by rw[hlen];exact hz)
 rw[hlen]
 refine⟨.ref s.heap.objs.size,_,I.laid (t':=s.toks) (o:=.tup (cutV xs lo hi)) (fun b ob q=>ZF _ q) (ZG _) ?_,rfl,q _ (I.hok.fresh (ZG _))⟩
 exact⟨ZR (q189 xs lo hi) hz,_,(r.drop (HT.sIx xs.length 0 lo)).take (HT.sIx xs.length xs.length hi-HT.sIx xs.length 0 lo),IsTup.new _ _⟩
theorem Vals.nil_iff(r:Vals xs us):us=[]↔xs=[]:=by
 cases r with
 | nil=>simp
 | cons _ _=>simp
end
noncomputable def ixN(n:Nat)(i:Int):Option Nat:=if 0<=i then(if i<n then some i.toNat else none)else if -(n:Int)<=i then some (i+n).toNat else none
noncomputable def atI{α:Type}(xs:List α)(i:Int):Option α:=(ixN xs.length i).bind fun j=>xs[j]?
theorem q656{n:Nat}{i:Int}{j:Nat}(h:ixN n i=some j):seqIndex? i n=some j/\j<n /\ -(n:Int)<=i/\i<n:=by
 unfold ixN at h
 by_cases h0:0<=i
 ·rw[ZJ h0]at h
  by_cases h1:i<n
  ·rw[ZJ h1]at h
   have e:i.toNat=j:=Option.some.inj h
   exact⟨by rw[seqIndex_of h0 h1,e],∅,∅,h1⟩
  ·rw[ZI h1]at h;cases h
 ·rw[ZI h0]at h
  by_cases h1:-(n:Int)<=i
  ·rw[ZJ h1]at h
   have e:(i+n).toNat=j:=Option.some.inj h
   exact⟨by rw[seqIndex_neg ∅ h1,e],∅,h1,∅⟩
  ·rw[ZI h1]at h;cases h
theorem q657{α:Type}{xs:List α}{i:Int}{v:α}(h:atI xs i=some v):∃ j,seqIndex? i xs.length=some j/\xs[j]? = some v/\j<xs.length /\ -(xs.length:Int)<=i/\i<xs.length:=by
 unfold atI at h
 cases e:ixN xs.length i with
 | none=>rw[e]at h;cases h
 | some j=>
  rw[e]at h
  obtain⟨h1,h2,h3,h4⟩:=q656 e
  exact⟨j,h1,h,h2,h3,h4⟩
theorem q61{α:Type}{xs:List α}{j:Nat}{v:α}(h:xs[j]? = some v):atI xs (j:Int)=some v:=by
 have hj:j<xs.length:=(List.getElem?_eq_some_iff.mp h).1
 have e:ixN xs.length (j:Int)=some j:=by
  unfold ixN
  rw[ZJ ∅,ZJ ∅];simp
 unfold atI;rw[e];exact h
def q658(b:Expr):Prop:=∀ o i,subscripted b false o i=operate [o,i] (getItem o i)
def IxR(X:Cx)(r:R2):Prop:=
 ∀(value slice:Expr) (pins:List (Addr×Obj)) (s:Shared) (σ:St) (H:Hp) (x y:V) (v u:Value) (Q:VK),Inv X pins σ H s->RelV x v->RelV y u->r x y H Q ->
  subscripted slice false v u=operate [v,u] (getItem v u)->wpAny (model X.prog X.w) X.A (subscriptTail value slice v u) (EP X pins σ Q) X.xe s
def MtR(X:Cx)(id:String)(r:V->List V->Hp->VK->Prop):Prop:=
 ∀(pins:List (Addr×Obj)) (s:Shared) (σ:St) (H:Hp) (x:V) (xs:List V) (v:Value) (us:List Value) (Q:VK),Inv X pins σ H s->RelV x v->Vals xs us->r x xs H Q ->
  wpAny (model X.prog X.w) X.A (call (.builtin id) (v::us)) (EP X pins σ Q) X.xe s
section
variable{a b:Expr}{ta tb:TE}{pos:Pos}
theorem pe_ix(hr:IxR X r)(ha:PE X a ta)(hb:PE X b tb)(hs:q658 b):PE X (.Subscript a b pos) (tOp r ta tb):=by
 intro pins s σ H Q I h
 exact Subscript_ (binT ha hb I h fun v u s2 x y H2 I2 rx ry q=>hr a b pins s2 σ H2 x y v u Q I2 rx ry q (hs _ _))
inductive rIxL(K:Fg)(x y:V)(H:Hp)(Q:VK):Prop
 |mk(p:Addr)(xs:List V)(i:Int)(v:V)(_:x = .ref p)(_:y = .int i)(_:SqL K H p xs)(_:atI xs i=some v)(_:Q v H)
inductive rIxT(K:Fg)(x y:V)(H:Hp)(Q:VK):Prop
 |mk(p:Addr)(xs:List V)(i:Int)(v:V)(_:x = .ref p)(_:y = .int i)(_:SqT K H p xs)(_:atI xs i=some v)(_:Q v H)
theorem q31:IxR X (rIxL X.K):=by
 intro value slice pins s σ H x y v u Q I rx ry h hs
 obtain⟨p,xs,i,z,rfl,rfl,hq,he,q⟩:=h
 cases rx
 obtain⟨t,rfl⟩:=ry
 obtain⟨its,r,pl,hz⟩:=I.list hq
 obtain⟨j,h1,h2,h3,h4,h5⟩:=q657 he
 obtain⟨w,ew,rw'⟩:=r.get h2
 have hl:=r.length
 have hn:=q545
 have fin:EP X pins σ Q w s:=⟨z,H,I,rw',q⟩
 by_cases h0:0<=i
 ·have hj:i.toNat=j:=by
   rw[seqIndex_of h0 h5]at h1
   exact Option.some.inj h1
  exact item_listR pl.isList h0 ∅ (by rw[hj];simpa using ew) fin hs
 ·have hj:(i+(its.toArray.size:Int)).toNat=j:=by
   rw[seqIndex_neg ∅ h4]at h1
   rw[ZX,<- hl]
   exact Option.some.inj h1
  exact subscriptTail_builtinR (x:=w) pl.isList.typeIs slot_list_getitem.lookup
   (wpAny_getItem_list_neg (Q:=fun r s'=>r=w/\EP X pins σ Q r s') pl.isList ∅ (by rw[ZX] <;> lia) ∅ (by rw[hj];simpa using ew) ⟨rfl,fin⟩) hs
theorem q26:IxR X (rIxT X.K):=by
 intro value slice pins s σ H x y v u Q I rx ry h hs
 obtain⟨p,xs,i,z,rfl,rfl,hq,he,q⟩:=h
 cases rx
 obtain⟨t,rfl⟩:=ry
 obtain⟨its,r,pl,hz⟩:=I.tuple hq
 obtain⟨j,h1,h2,h3,h4,h5⟩:=q657 he
 obtain⟨w,ew,rw'⟩:=r.get h2
 have hl:=r.length
 have hn:=q545
 have fin:EP X pins σ Q w s:=⟨z,H,I,rw',q⟩
 exact subscriptTail_builtinR (x:=w) pl.typeIs slot_tuple_getitem.lookup
  (getItem_tuple (j:=j) (Q:=fun r s'=>r=w/\EP X pins σ Q r s') pl ∅ ∅ (by rw[ZX,<- hl];exact h1) (by simpa using ew) ⟨rfl,fin⟩) hs
theorem q599(its:List Value)(n j:Nat)(u:Value):Obj.mapSeq (·.setIfInBounds j u) { cls:=.type "list", data:=.seq its.toArray n } = { cls:=.type "list", data:=.seq (its.set j u).toArray n }:=by
 simp[Obj.mapSeq]
theorem Inv.lst{s:Shared}(I:Inv X pins σ H s)(h:H p=some (.lst xs)) :
  ∃(its:List Value)(n:Nat),Vals xs its/\s.heap.get? p=some { cls:=.type "list", data:=.seq its.toArray n }/\xs.length<=sizeLine:=by
 obtain⟨z,its,n,r,e⟩:=I.hok p _ h
 exact⟨its,n,r,e,z⟩
theorem Inv.lstUpd{s:Shared}{ys:List V}{its its':List Value}{n n':Nat}{f:Obj->Obj}(I:Inv X pins σ H s)(h:H p=some (.lst xs))
  (ho:s.heap.get? p=some { cls:=.type "list", data:=.seq its.toArray n }) (hf:f { cls:=.type "list", data:=.seq its.toArray n } = { cls:=.type "list", data:=.seq its'.toArray n' }) (r:Vals ys its') (hz:ys.length<=sizeLine) (t:Nat) :
  Inv X pins σ (upd H p (.lst ys)) { s with heap:=s.heap.update p f,toks:=t }:=by
 have e:(s.heap.update p f).get? p=some { cls:=.type "list", data:=.seq its'.toArray n' }:=by
  rw[Heap.get?_update_self f ho (by rw[hf] <;> rfl),hf]
 refine I.write (x:=p) (e:=p) (by rw[h];trivial) (.inl rfl) (fun b u hb q=>(YV _ _ (Ne.symm hb)).trans q) ⟨_,e⟩ ?_
 exact⟨hz,its',n',r,e⟩
inductive rSetL  (o:V) (i:V) (v:V) (H:Hp) (Q:Hp->Prop):Prop
 |mk(p xs k j)(_:o = .ref p)(_:i = .int k)(_:H p=some (.lst xs))(_:ixN xs.length k=some j)(_:Q (upd H p (.lst (xs.set j v))))
theorem set_list:PSet X rSetL:=by
 intro pins s σ H o i v ov iv u Q I ro ri rv h
 obtain⟨p,xs,k,j,rfl,rfl,hp,hj,q⟩:=h
 cases ro
 obtain⟨t,rfl⟩:=ri
 obtain⟨its,n,r,ho,hz⟩:=I.lst hp
 obtain⟨h1,h2,h3,h4⟩:=q656 hj
 have hl:=r.length
 have hn:=q545
 have I':Inv X pins σ (upd H p (.lst (xs.set j v))) { s with heap:=s.heap.update p (Obj.mapSeq (·.setIfInBounds j u)) }:=
  I.lstUpd hp ho (q599 its n j u) (r.set rv j) (by rw[length_set];exact hz) s.toks
 by_cases h0:0<=k
 ·have hk:k.toNat=j:=by
   rw[seqIndex_of h0 h4]at h1
   exact Option.some.inj h1
  exact PySem.W.ki_setAt ho h0 ∅ (by rw[ZX,<- hl];exact h4) (by rw[hk];exact⟨_,I',q⟩)
 ·have hk:(k+(its.toArray.size:Int)).toNat=j:=by
   rw[seqIndex_neg ∅ h3]at h1
   rw[ZX,<- hl]
   exact Option.some.inj h1
  exact PySem.W.ki_setBack ho ∅ (by rw[ZX,<- hl];exact h3) ∅ (by rw[hk];exact⟨_,I',q⟩)
theorem q443(lo hi:Option Int)(n:Nat):(sliceBounds lo hi none n).1=((HT.sIx n 0 lo:Nat):Int)/\(sliceBounds lo hi none n).2.1=((HT.sIx n n hi:Nat):Int)/\(sliceBounds lo hi none n).2.2=1:=by
 refine⟨?_,?_,rfl⟩
 ·cases lo with
  | none=>simp[sliceBounds,HT.sIx]
  | some i=>
   simp only[sliceBounds,HT.sIx,Option.getD_none,show(1:Int) > 0 by decide,if_true]
   by_cases h:i<0
   ·simp only[h,if_true] <;> lia
   ·simp only[h,if_false] <;> lia
 ·cases hi with
  | none=>simp[sliceBounds,HT.sIx]
  | some i=>
   simp only[sliceBounds,HT.sIx,Option.getD_none,show(1:Int) > 0 by decide,if_true]
   by_cases h:i<0
   ·simp only[h,if_true] <;> lia
   ·simp only[h,if_false] <;> lia
theorem q397(its:List Value)(lo hi:Option Int):slicePick its.toArray lo hi none=((its.drop (HT.sIx its.length 0 lo)).take (HT.sIx its.length its.length hi-HT.sIx its.length 0 lo)).toArray:=by
 obtain⟨h1,h2,h3⟩:=q443 lo hi its.toArray.size
 unfold slicePick
 rw[h1,h2,h3]
 simp only[sliceRange_one,pick_run,ZX] <;> rfl
inductive rSlL(K:Fg)(x:V)(lo:Option Int)(hi:Option Int)(H:Hp)(Q:VK):Prop
 |mk(a xs)(_:x = .ref a)(_:SqL K H a xs)(_:∀ p,H p=none->Q (.ref p) (upd H p (.lst (cutV xs lo hi))))
theorem sl_list:SlR X (rSlL X.K):=by
 intro pins s σ H x v vl vu lo hi sl Q I rx hs pl pu h
 obtain⟨a,xs,rfl,hx,q⟩:=h
 cases rx
 obtain⟨its,r,ht,hz⟩:=I.list hx
 have hlen:=r.length
 exists "list", _,slot_list_getitem.lookup,ht.isList.typeIs
 refine wpAny_getItem_list_slice ht.isList hs pl pu .none (by simp) ?_ (by rw[ZX] <;> lia)
 rw[q397,<- hlen]
 refine⟨.ref s.heap.objs.size,_,I.laid (t':=s.toks) (o:=.lst (cutV xs lo hi)) (fun b ob q=>ZF _ q) (ZG _) ?_,rfl,q _ (I.hok.fresh (ZG _))⟩
 exact⟨ZR (q189 xs lo hi) hz,_,0,(r.drop (HT.sIx xs.length 0 lo)).take (HT.sIx xs.length xs.length hi-HT.sIx xs.length 0 lo),ZU _ rfl⟩
noncomputable def flatV:V->Bool
 | .non=>true
 | .bl _=>true
 | .int _=>true
 | .str _=>true
 | _=>false
noncomputable def eqV:V->V->Bool
 | .non,.non=>true
 | .bl a,.bl b=>a==b
 | .bl a,.int b=>(if a then 1 else 0)==b
 | .int a,.bl b=>a==(if b then 1 else 0)
 | .int a,.int b=>a==b
 | .str a,.str b=>a==b
 | _,_=>false
theorem q444(ry:RelV y u)(rx:RelV x v)(fy:flatV y=true)(fx:flatV x=true):SeqAt.EqAt A s u v (eqV y x):=by
 cases y with
 | non=>
  cases ry
  cases x with
  | non=>cases rx;exact SeqAt.EqAt.same _
  | bl b=>cases rx;exact SeqAt.EqAt.none_bool b
  | int b=>obtain⟨t,rfl⟩:=rx;exact SeqAt.EqAt.none_int b t
  | str b=>obtain⟨t,rfl⟩:=rx;exact SeqAt.EqAt.none_str b t
  | _=>exact absurd (show false=true from fx) fnt
 | bl a=>
  cases ry
  cases x with
  | non=>cases rx;exact SeqAt.EqAt.bool_none a
  | bl b=>cases rx;exact SeqAt.EqAt.bool_bool a b
  | int b=>obtain⟨t,rfl⟩:=rx;exact SeqAt.EqAt.bool_int a b t
  | str b=>obtain⟨t,rfl⟩:=rx;exact SeqAt.EqAt.bool_str a b t
  | _=>exact absurd (show false=true from fx) fnt
 | int a=>
  obtain⟨t',rfl⟩:=ry
  cases x with
  | non=>cases rx;exact SeqAt.EqAt.int_none a t'
  | bl b=>cases rx;exact SeqAt.EqAt.int_bool a t' b
  | int b=>obtain⟨t,rfl⟩:=rx;exact SeqAt.EqAt.int_int a t' b t
  | str b=>obtain⟨t,rfl⟩:=rx;exact SeqAt.EqAt.int_str a t' b t
  | _=>exact absurd (show false=true from fx) fnt
 | str a=>
  obtain⟨t',rfl⟩:=ry
  cases x with
  | non=>cases rx;exact SeqAt.EqAt.str_none a t'
  | bl b=>cases rx;exact SeqAt.EqAt.str_bool a t' b
  | int b=>obtain⟨t,rfl⟩:=rx;exact SeqAt.EqAt.str_int a t' b t
  | str b=>obtain⟨t,rfl⟩:=rx;exact SeqAt.EqAt.str_str a t' b t
  | _=>exact absurd (show false=true from fx) fnt
 | _=>exact absurd (show false=true from fy) fnt
noncomputable def eqU(x:V)(u:Value):Bool:=match u with
 | .none=>eqV .non x
 | .bool b=>eqV (.bl b) x
 | .int i _=>eqV (.int i) x
 | .str z _=>eqV (.str z) x
 | _=>false
theorem eqU_of(r:RelV y u)(f:flatV y=true):eqU x u=eqV y x:=by
 cases y with
 | non=>cases r;rfl
 | bl b=>cases r;rfl
 | int i=>obtain⟨t,rfl⟩:=r;rfl
 | str z=>obtain⟨t,rfl⟩:=r;rfl
 | _=>exact absurd (show false=true from f) fnt
theorem q398{A:Around}{s:Shared}{x:V}{v:Value}(rx:RelV x v)(fx:flatV x=true):∀{xs:List V}{us:List Value},Vals xs us->xs.all flatV=true -> ∀ u∈us,SeqAt.EqAt A s u v (eqU x u)
 | _,_,.nil,_=>fun u hu=>by cases hu
 | y::xs,u::us,.cons r t,f=>fun u' hu=>by
  rw[all_cons,WL]at f
  rcases List.mem_cons.mp hu with rfl | hu
  ·rw[eqU_of r f.1];exact q444 r rx f.1 fx
  ·exact q398 rx fx t f.2 u' hu
inductive q125(K:Fg)(xs:List V)(H:Hp)(Q:VK):Prop
 |mk(p ys)(_:xs=[.ref p])(_:(SqL K H p ys\/SqT K H p ys))(_:Q (.int ys.length) H)
theorem q257:CallR X (.builtin "len") (q125 X.K):=by
 intro pins s σ H xs us Q I r h
 obtain⟨p,ys,rfl,hq,q⟩:=h
 obtain⟨u,rfl,rx⟩:=vals1 r
 cases rx
 have hn:=q545
 rcases hq with hq | hq
 ·obtain⟨its,r',pl,hz⟩:=I.list hq
  have hlen:=r'.length
  exact Calls.call_len_list pl.isList (by simp only[ZX] <;> lia) ⟨.int ys.length,H,I.tok _,⟨s.toks+1,by rw[ZX,hlen]⟩,q⟩
 ·obtain⟨its,r',pl,hz⟩:=I.tuple hq
  have hlen:=r'.length
  exact len_tuple pl (by simp only[ZX] <;> lia) ⟨.int ys.length,H,I.tok _,⟨s.toks+1,by rw[ZX,hlen]⟩,q⟩
def tyV(K:Fg)(T:String)(x:V)(H:Hp):Prop:=match x with
 | .str _=>T = "str"
 | .int _=>T = "int"
 | .ref p=>(T = "list" /\ ∃ xs,SqL K H p xs)\/(T = "tuple" /\ ∃ o,K.lookup p=some o/\o.cls = .type "tuple" /\ o.dict=none) \/
   (T = "dict" /\ ((∃ kvs,H p=some (.dK kvs)) \/ ∃ kvs,H p=some (.dT kvs)))\/(T = "set" /\ ∃ S n,H p=some (.set S n))
 | _=>False
theorem tyV_is{s:Shared}(I:Inv X pins σ H s)(r:RelV x v)(ty:tyV X.K T x H) :
  s.TypeIs v T /\ ∀ a,v = .ref a -> ∃ ob,s.heap.get? a=some ob/\ob.dict=none:=by
 cases x with
 | str z=>
  obtain⟨t,rfl⟩:=r
  cases(show T = "str" from ty)
  exact⟨typeIs_str s z t,fun _ e=>nomatch e⟩
 | int i=>
  obtain⟨t,rfl⟩:=r
  cases(show T = "int" from ty)
  exact⟨typeIs_int s i t,fun _ e=>nomatch e⟩
 | ref p=>
  cases r
  rcases ty with ⟨rfl,xs,hq⟩ | ⟨rfl,o,hk,hc,hd⟩ | ⟨rfl,hk⟩ | ⟨rfl,S,n,hk⟩
  ·obtain⟨its,_,pl,_⟩:=I.list hq
   refine⟨pl.isList.typeIs,fun a e=>?_⟩
   cases e
   obtain⟨o,n,e,c,hd,_⟩:=pl
   exact⟨o,e,hd⟩
  ·refine⟨⟨o,I.kIn p o hk,hc⟩,fun a e=>?_⟩
   cases e
   exact⟨o,I.kIn _ o hk,hd⟩
  ·have z:∃ o,s.heap.get? p=some o/\o.ExactDict:=by
    rcases hk with ⟨kvs,hk⟩ | ⟨kvs,hk⟩
    ·obtain⟨_,_,_,_,o,_,_,e,ex,_⟩:=I.hok p _ hk
     exact⟨o,e,ex⟩
    ·obtain⟨_,_,_,_,o,_,_,e,ex,_⟩:=I.hok p _ hk
     exact⟨o,e,ex⟩
   obtain⟨o,e,ex⟩:=z
   refine⟨⟨o,e,ex.1⟩,fun a e2=>?_⟩
   cases e2
   exact⟨o,e,ex.2.1⟩
  ·obtain⟨o,_,_,_,e,ex,_⟩:=I.hok p _ hk
   refine⟨⟨o,e,ex.1⟩,fun a e2=>?_⟩
   cases e2
   exact⟨o,e,ex.2.1⟩
 | _=>exact False.elim ty
def tBM(K:Fg)(T:String)(r:V->List V->Hp->VK->Prop)(to:TE)(t:TA):TE:=fun σ H Q=>to σ H fun x H1=>tyV K T x H1/\t σ H1 fun xs H2=>r x xs H2 Q
variable{o e:Expr}{es:List Expr}{to:TE}{t:TA}{name:Str}{apos cpos:Pos}{T id:String}{r:V->List V->Hp->VK->Prop}
theorem pe_bm(pa:PlainAttrs T)(slot:Slot T name id)(hty:typeOf (.builtin id)=pure (.type "method_descriptor")) (hm:MtR X id r) (ho:PE X o to) (ha:PA X (e::es) t)
  (hbase:attributeBase o name X.env (eval o X.env)=eval o X.env:=by rfl)
  (hfew:((backTo cpos (starEach (e::es) X.env)).all (fun x=>!x.1)&&(backToKw cpos (keywordEach [] X.env)).all (fun x=>x.1.isSome)
   && decide ((e::es).length+([]:List Keyword).length+(if([]:List Keyword).isEmpty then 0 else 1)<30))=true:=by rfl)
  (hline:(apos.endLine==cpos.line)=true:=by rfl) (hs:starEach (e::es) X.env=(false,eval e X.env)::starEach es X.env:=by rfl) (hplain:(backTo cpos (starEach es X.env)).any (·.1)=false:=by rfl) :
  PE X (.Call (.Attribute o name apos) (e::es) [] cpos) (tBM X.K T r to t):=by
 intro pins s σ H Q I h
 refine wpAny_Call_method_late hbase hfew hline rfl (thn (ho pins s σ H _ I h) fun v s1 ⟨x,H1,I1,r1,ty,q1⟩=>?_)
 obtain⟨h1,h2⟩:=tyV_is I1 r1 ty
 exists T,id,pa,slot,hty,h1,h2
 have hA:=ha cpos pins s1 σ H1 _ I1 q1
 rw[hs]at hA ⊢
 refine Calls.callWith_builtin (by show(false||(backTo cpos (starEach es X.env)).any (·.1))=false;rw[hplain] <;> rfl) (Calls.evalArgs_plain ?_)
 exact thn hA fun us s2 ⟨vs,H2,I2,r2,q2⟩=>hm pins s2 σ H2 x vs v us Q I2 r1 r2 q2
/- xs.append(e),list.index on a module's tuple .. are MtR facts of 06m -/
end
def MtM(X:Cx)(id:String)(r:V->List V->Hp->VK->Prop):Prop:=
 ∀(pins:List (Addr×Obj)) (s:Shared) (σ:St) (H:Hp) (x:V) (xs:List V) (v:Value) (us:List Value) (Q:VK),Inv X pins σ H s->RelV x v->Vals xs us->r x xs H Q ->
  wpAny (model X.prog X.w) X.A (call (.builtin id) (v::us)) (EP X pins σ Q) X.xe s
theorem Vals.one:∀{x:V}{us:List Value},Vals [x] us -> ∃ u,us=[u]/\RelV x u
 | _,_,.cons r .nil=>⟨_,rfl,r⟩
theorem Vals.eraseIdx:∀{xs:List V}{us:List Value}(i:Nat),Vals xs us->Vals (xs.eraseIdx i) (us.eraseIdx i)
 | _,_,_,.nil=>.nil
 | _,_,0,.cons _ t=>t
 | _,_,i+1,.cons r t=>.cons r (Vals.eraseIdx i t)
theorem q445{α:Type}:∀(l:List α)(i:Nat),(l.eraseIdx i).length<=l.length
 | [],_=>ZG _
 | _::_,0=>Nat.le_succ _
 | _::r,i+1=>Nat.succ_le_succ (q445 r i)
section
variable {pins:List (Addr×Obj)} {σ:St} {H:Hp} {s:Shared} {l b:Addr} {xs ys zs:List V}
theorem Inv.lset{its its':List Value}{n:Nat}{f:Array Value->Array Value}{t':Nat}(I:Inv X pins σ H s)(hH:H l=some (.lst xs))
  (e:s.heap.get? l=some { cls:=.type "list", data:=.seq its.toArray n }) (hf:f its.toArray=its'.toArray) (hv:Vals ys its') (hz:ys.length<=sizeLine) :
  Inv X pins σ (upd H l (.lst ys)) { s with heap:=s.heap.update l (Obj.mapSeq f),toks:=t' }:=by
 have q:=PySem.IsL.update e f
 rw[hf]at q
 refine I.write (x:=l) (e:=l) (by rw[hH];exact trivial) (.inl rfl) (fun b' u hb hu=>(YV s.heap (Obj.mapSeq f) (Ne.symm hb)).trans hu) ⟨_,q⟩ ?_
 exact⟨hz,its',_,hv,q⟩
theorem Inv.lnew{t':Nat}(I:Inv X pins σ H s)(hv:Vals ys its)(hz:ys.length<=sizeLine) :
  Inv X pins σ (upd H s.heap.objs.size (.lst ys)) { s with heap:=s.heap.push { cls:=.type "list", data:=.seq its.toArray },toks:=t' }:=
 I.laid (fun _ _ q=>ZF _ q) (ZG _) ⟨hz,its,0,hv,ZU _ rfl⟩
theorem Inv.fresh(I:Inv X pins σ H s):H s.heap.objs.size=none:=I.hok.fresh (ZG _)
theorem Inv.lstM(I:Inv X pins σ H s)(hH:H l=some (.lst xs)):xs.length<=sizeLine /\ ∃(its:List Value)(n:Nat),Vals xs its/\xs.length=its.length/\s.heap.get? l=some { cls:=.type "list", data:=.seq its.toArray n }:=by
 obtain⟨z,its,n,r,e⟩:=I.hok l _ hH
 exact⟨z,its,n,r,r.length,e⟩
end
inductive rAppend  (x:V) (vs:List V) (H:Hp) (Q:VK):Prop
 |mk(l xs y)(_:x = .ref l)(_:vs=[y])(_:H l=some (.lst xs))(_:xs.length<sizeLine)(_:Q .non (upd H l (.lst (xs++[y]))))
theorem q62:MtM X "list.append" rAppend:=by
 intro pins s σ H x vs v us Q I rx rv h
 obtain⟨l,xs,y,rfl,rfl,hH,hz,q⟩:=h
 cases rx
 obtain⟨u,rfl,ru⟩:=rv.one
 obtain⟨z,its,n,r,hl,e⟩:=I.lstM hH
 refine call_meets F.slot_list_append ⟨_,e,rfl⟩ F.entry_list_append (F.args_list_append_2 _ _) (PySem.list_append l its.toArray n u (by rw[ZX];lia)) ⟨e,?_⟩
 refine⟨.non,_,I.lset (its':=its++[u]) hH e (by simp) (r.append (.cons ru .nil)) ?_,rfl,q⟩
 rw[ZV,length_singleton]
 lia
inductive rPopAt  (x:V) (vs:List V) (H:Hp) (Q:VK):Prop
 |mk(l xs i k y)(_:x = .ref l)(_:vs=[.int i])(_:H l=some (.lst xs))(_:-(2^63)<=i)(_:i<2^63)(_:seqIndex? i xs.length=some k)(_:xs[k]? = some y)(_:Q y (upd H l (.lst (xs.eraseIdx k))))
theorem mt_popAt:MtM X "list.pop" rPopAt:=by
 intro pins s σ H x vs v us Q I rx rv h
 obtain⟨l,xs,i,k,y,rfl,rfl,hH,h1,h2,hk,hy,q⟩:=h
 cases rx
 obtain⟨u,rfl,ru⟩:=rv.one
 obtain⟨t,rfl⟩:=ru
 obtain⟨z,its,n,r,hl,e⟩:=I.lstM hH
 obtain⟨w,hw,rw'⟩:=r.get hy
 refine call_meets F.slot_list_pop ⟨_,e,rfl⟩ F.entry_list_pop (F.args_list_pop_2 _ _)
  (MeetsSeq.list_pop_at l its.toArray n i t k w (fitsIndex_both h1 h2) (by rw[ZX,<- hl];exact hk) (by rw[<- WE];exact hw) (by rw[ZX];lia)) ⟨e,?_⟩
 refine⟨y,_,I.lset (its':=its.eraseIdx k) hH e ?_ (r.eraseIdx k) ?_,rw',q⟩
 ·show its.toArray.eraseIdxIfInBounds k=(its.eraseIdx k).toArray
  rw[eraseIdxIfInBounds_toArray]
 ·have:=q445 xs k
  lia
inductive rCat  (x:V) (y:V) (H:Hp) (Q:VK):Prop
 |mk(l b xs zs)(_:x = .ref l)(_:y = .ref b)(_:H l=some (.lst xs))(_:H b=some (.lst zs))(_:xs.length+zs.length<=sizeLine)(_:∀ p,H p=none->Q (.ref p) (upd H p (.lst (xs++zs))))
theorem q446:OpR X (binaryOp .Add) rCat:=by
 intro pins s σ H x y v u Q I rx ry h
 obtain⟨l,b,xs,zs,rfl,rfl,hH,hB,hz,q⟩:=h
 cases rx
 cases ry
 obtain⟨z,its,n,r,hl,e⟩:=I.lstM hH
 obtain⟨z2,its2,n2,r2,hl2,e2⟩:=I.lstM hB
 refine PySem.P.add_list e e2 ?_ (by rw[ZX,ZX];lia)
 have ea:its.toArray++its2.toArray=(its++its2).toArray:=by simp
 rw[ea]
 exact⟨.ref _,_,I.lnew (t':=s.toks) (r.append r2) (by rw[ZV];lia),rfl,q _ I.fresh⟩
section
variable {prog:Program} {w:World} {A:Around} {E:VS} {s:Shared}
set_option maxRecDepth 100000 in
end
end L2
namespace Att
set_option autoImplicit false
open PySem PySem.W PySem.Calls PyProof.Rows
theorem q292{P:Params}{h:Heap}:∀(ns:List Int)(vs:List Value),WellAll P h vs (ns.map WData.int)->IntsAre vs ns:=by
 intro ns
 induction ns with
 | nil=>
  intro vs w
  rw[List.map_nil]at w
  cases w
  exact .nil
 | cons n ns ih=>
  intro vs w
  rw[List.map_cons]at w
  cases w with
  | cons a b=>
   cases a
   exact .cons _ _ (ih _ b)
theorem q659{l:OpenLaw}{n:Nat}(hn:l.most=some n){P:Params}{h:Heap}{args:List WData}{vals:List Value}
  (hpre:l.row.toRowW.claim.pre args=true) (hwl:WellAll P h vals args) :
  ∃ a vs ns,vals=[Value.ref a]/\args=[WData.list (ns.map WData.int)]/\h.get? a=some { cls:=.type "list", data:=.seq vs.toArray }/\IntsAre vs ns/\ns.length<=n:=by
 have hsh:WShape.hasAll [] args [.list .int]=true:=(pre_splitW hpre).1
 have hc:l.pre.holds [] { args:=args }=true:=(pre_splitW hpre).2
 obtain⟨d,r,rfl,h1,h2⟩:=hasAllW_cons hsh
 obtain rfl:=hasAllW_nil h2
 obtain⟨xs,rfl,h3⟩:=hasW_list h1
 obtain⟨ns,rfl⟩:=items_int h3
 have hlen:ns.length<=n:=by
  unfold OpenLaw.pre at hc
  have h4:(WTm.not (.lt (.lit (.int (n:Int))) (.len (.arg 0)))).holds [] { args:=[.list (ns.map .int)] }=true:=by
   have h4:=(holds_andW hc).1
   rw[hn]at h4
   exact h4
  have h5:=condW_of h4 (w_not (w_lt w_lit (w_len_list (w_arg rfl))))
  rw[List.length_map]at h5
  refine Nat.le_of_not_lt fun q=>?_
  have q':(n:Int)<((ns.length:Nat):Int):=∅
  first
   | (rw[ZA q']at h5;exact absurd h5 {})
   | (simp at h5;lia)
 cases hwl with
 | cons w1 w2=>
  cases w2
  cases w1 with
  | list ho hall=>exact⟨_,_,ns,rfl,rfl,ho,q292 ns _ hall,hlen⟩
theorem q660(l:OpenLaw)(args:List WData):l.row.toRowW.claim.post args (.bool true) args=true:=
 postW_of (r:=l.row.toRowW) (X:=(true==true))
  (show WShape.has [] (.bool true) .bool=true by first | rfl | decide | simp[WShape.has,WShape.arms,WShape.armsAll])
  (show(WTm.eq .res (.lit (.bool true))).value [] { args:=args,res:=some (.bool true),after:=args }=some (.bool (true==true))from w_eq_bool (w_res rfl) w_lit) rfl
theorem q749{l:OpenLaw}{n:Nat}{q:Program}{loose:List Str}{XP:(Mg)->Heap->Prop}{YP:World->Heap->Prop}{d:DefRec}
  (hn:l.most=some n) (hdf:d.params.defaults=[])
  (call:∀(w:World)(s₀ s₁:Shared)(mg mb:Mg)(fa:Addr)(o:Obj)(pm cd doc:Value)(a:Addr)(vs:List Value)(ns:List Int),
   Ground q loose [] XP w s₀ mg mb s₁.heap->YP w s₁.heap ->
   s₁.heap.get? fa=some o->o.data = .func (docDef d.name d.params d.body d.scope pm cd doc)->s₁.heap.CodeRec cd d.name->mg d.name=some (.ref fa) ->
   s₁.heap.get? a=some { cls:=.type "list", data:=.seq vs.toArray }->IntsAre vs ns->ns.length<=n->s₁.gens = #[] ->
   codeAny (model l.prog w) callerA (.call (.ref fa) ⟨[.ref a],[]⟩) (fun r s'=>r = .ok (.ret (.bool true))/\OldK s₁.heap s'.heap/\s'.os=s₁.os/\AllBare s'.gens) s₁) :
  WalkO q loose XP YP l.row.toRowW d [] (fun f vs=>PySem.call f vs):=by
 intro w s₀ s₁ mg mb G Y fa o pm cd doc dV kV ho hd hcd hD hmg hg args vals as hpre hlay hrd hwl hlo
 obtain rfl:dV = .none:=Dflts.none hD hdf
 obtain rfl:kV = .none:=Dflts.noKw hD
 obtain⟨a,vs,ns,rfl,rfl,hobj,hints,hlen⟩:=q659 hn hpre hwl
 refine enter_call (codeAny_mono (call w s₀ s₁ mg mb fa o pm cd doc a vs ns G Y ho (fd_plain hd) hcd hmg hobj hints hlen hg) fun r s' hq=>?_)
 obtain⟨rfl,h2,h3,h4⟩:=hq
 exact⟨.inl ⟨.bool true,.bool true,[],rfl,fun _=>rfl,.bool true,q660 l _,fun _=>⟨List.Pairwise.nil,fun _ hm=>(nomatch hm)⟩⟩,h2,h3,h4⟩
end Att
namespace L2
open PySem PySem.Spec PyProof.Rows List
variable {X:Cx}
theorem q293:∀{vs:List Value}{ns:List Int},IntsAre vs ns->Vals (ns.map V.int) vs
 | _,_,.nil=>.nil
 | _,_,.cons n t h=>.cons ⟨t,rfl⟩ (q293 h)
def Only(H:Hp):Prop:=∀ b,H b=none \/ ∃ o xs,H b=some (.frz o (.lst xs))
noncomputable abbrev KOf{K:Fg}{h:Heap}(_:K.In h):Fg:=K
end L2
/- THE LAST THEOREM (shape;LID,My.* are yours):
  My.Adr: a structure of the addresses that your layer names (classes,functions);My.Txt K t: a structure (Prop) of the equations over K;
  My.txt_mk:{K} {implicit addresses ..} (e1:nsIn K mainGlobals "law" = some (some (.ref f))) (e2:K.lookup f=some ⟨oc,od,.func (fnOf "law" "law" params body scope dV kV doc pm an cdv ct),sl⟩) (e3:codeIn K cdv "law" = true) .. : ∃ t,My.Txt K t
set_option maxRecDepth 100000 in
set_option maxHeartbeats 0 in
theorem PySem.Challenge.cw_LID_holds : PySem.Challenge.rw_LID.Holds := by
 w_on;o_law;k_head;(case hw=>w_witness2)
 k_fill
 refine L2.walk_of (l:=PySem.Challenge.rw_LID) (n:=63) (k:=40) (x := "script") (CX:=fun w=>..) (sp:=fun _=>My.sp_law) rfl {} rfl ⟨rfl,{},{}⟩ (fun w h Y=>PySem.W.kIn_of Y) ?F ?S ?C
 case F=>
  intro w mg fa h KX G hmg
  have T:∃ t,My.Txt (L2.KOf KX) t:=by
   dsimp only [L2.KOf]                          -- K must stand as «<heap const> w.params» for k_is
   refine' My.txt_mk ?e1 ?e2 ?e3 ..
   (case e1=>PySem.W.k_is)                    -- in the order: a name->its address->its object->its parts
   (case e2=>PySem.W.k_is)
   ..
  obtain⟨t,T⟩:=T
  have e0:=hmg.symm.trans (PySem.W.mg_of KX G T.law)
  cases e0                                       -- fa is the law's own address
  exact⟨_,fun s u=>.of_eq rfl,fun base kb nb=>My.law_fn T kb nb⟩     -- if «.of_eq rfl» comes too early: refine' ⟨_,?b,fun base kb nb=>My.law_fn T kb nb⟩;exact fun s u=>.of_eq rfl
 case S=>exact fun w H a ns hl hO hS=>..
 case C=>exact ..
(the tactic k_is has no namespace: write k_is) -/
namespace L2
open PySem PySem.Spec PyProof.Rows List
variable {X:Cx}
noncomputable def q126(s:Stmt):Arguments:=match s with
 | .FunctionDef _ a _ _ _ _ _ _ _ _=>a
 | _=>{ posonlyargs:=[],args:=[],vararg:=none,kwonlyargs:=[],kw_defaults:=[],kwarg:=none,defaults:=[] }
noncomputable def q63(s:Stmt):List Stmt:=match s with
 | .FunctionDef _ _ b _ _ _ _ _ _ _=>b
 | _=>[]
noncomputable def q17(s:Stmt):Scope:=match s with
 | .FunctionDef _ _ _ _ _ _ sc _ _ _=>sc
 | _=>{ kind:=.function,names:=[],isGenerator:=false,isCoroutine:=false }
abbrev CX0:CXT:=fun _ _ _ _ _ _=>False
abbrev E0:XK:=fun _ _ _=>False
theorem pass0:q546 CX0 X E0:=fun _ _ _ _ _ _ _ h=>h.elim
structure Fun(K:Fg)(x qual:Str)(st:Stmt)(f:Addr)(fd:FuncData):Prop where
 ex:∃(oc:Value) (od:Option Addr) (kV doc pm:Value) (an:Option Addr) (cdv ct:Value) (osl:Array (Option Value)),
  fd=PySem.W.fnOf x qual (q126 st) (q63 st) (q17 st) .none kV doc pm an cdv ct/\K.lookup f=some ⟨oc,od,.func fd,osl⟩/\PySem.W.codeIn K cdv qual=true
 kp:PySem.W.keepIn K (.ref f)=true
section
variable {P:Program} {w:World} {K:Fg} {mg:Mg} {base:Heap}
theorem Fun.ok{x qual:Str}{st:Stmt}{f:Addr}{fd:FuncData}{N ps:List Str}{k:Nat}{sp:Sp}(F:Fun K x qual st f fd)(S:FnScope N ps (q17 st))(len:∀ vs H Q E,sp vs H Q E->vs.length=ps.length)
  (hbody:∀(cdv:Value)(A:Around)(outer:List Env)(s:Shared)(H:Hp)(vs:List V)(Q:VK)(E:XK),Room k (A.deeper (envOfC qual (q17 st) s.heap.objs.size f cdv))->sp vs H Q E ->
   ∃ t,PSs (cxOf CX0 P w K mg base N qual (q17 st) f cdv A outer s H E).nox (q63 st) t/\t { nx:=fun _ H'=>Q .non H',rt:=Q } (start N vs) H):FnOk P w K mg base CX0 (k+1) f fd ps sp:=by
 obtain⟨oc,od,kV,doc,pm,an,cdv,ct,osl,rfl,lk,hcd⟩:=F.ex
 refine fn_of lk hcd S len fun A outer s H vs Q E hr hsp=>?_
 obtain⟨t,h,q⟩:=hbody cdv A outer s H vs Q E hr hsp
 exact⟨t,h.nox,q⟩
theorem fun_mk{x qual:Str}{st:Stmt}{f:Addr}{oc:Value}{od an:Option Addr}{osl:Array (Option Value)}{kV doc pm cdv ct:Value}(l:K.lookup f=some ⟨oc,od,.func (PySem.W.fnOf x qual (q126 st) (q63 st) (q17 st) .none kV doc pm an cdv ct),osl⟩)
  (c:PySem.W.codeIn K cdv qual=true) (k:PySem.W.keepIn K (.ref f)=true):Fun K x qual st f (PySem.W.fnOf x qual (q126 st) (q63 st) (q17 st) .none kV doc pm an cdv ct):=⟨⟨oc,od,kV,doc,pm,an,cdv,ct,osl,rfl,l,c⟩,k⟩
end
theorem q79{n:Nat}(h:n<=1000):n<sizeLine:=Nat.lt_of_le_of_lt h {}
theorem pv(i:Nat){pos:Pos}(hN:X.N[i]? = some x:=by rfl)(hv:Vis X.env.scope x:=by first | exact Or.inl rfl | exact Or.inr (Or.inl rfl) | exact Or.inr (Or.inr rfl))(hd:(x==("__debug__" : Str))=false:=by decide)
  (hcd:(x==("__classdict__" : Str))=false:=by decide):PE X (.Name x pos) (tVar i):=pe_var hN hv hd hcd
theorem iteF{A B:Prop}(h:B):if false=true then A else B:=by
 rw[ZI fnt]
 exact h
theorem iteT{A B:Prop}(h:A):if true=true then A else B:=by
 rw[ZJ rfl]
 exact h
theorem ite2{c A B:Prop}[Decidable c](h1:c->A)(h2:¬ c->B):if c then A else B:=by
 by_cases h:c
 ·rw[ZJ h]
  exact h1 h
 ·rw[ZI h]
  exact h2 h
def Same(H H':Hp):Prop:=∀ b o,H b=some o->H' b=some o
theorem Same.refl(H:Hp):Same H H:=fun _ _ h=>h
theorem Same.trans(a:Same H H1)(b:Same H1 H2):Same H H2:=fun c o h=>b c o (a c o h)
theorem Same.free(e:Same H H')(h:H' l=Option.none):H l=Option.none:=by
 cases q:H l with
 | none=>rfl
 | some o=>
  rw[e l o q]at h
  cases h
theorem Same.seq{K:Fg}{H H':Hp}{a:Addr}{xs:List V}(e:Same H H')(h:SqL K H a xs):SqL K H' a xs:=by
 rcases h with (h | ⟨o,h⟩) | h
 ·exact .inl (.inl (e _ _ h))
 ·exact .inl (.inr ⟨o,e _ _ h⟩)
 ·exact .inr h
theorem q15(h:H p=none)(o:HO):Same H (upd H p o):=fun b u q=>by rw[q27 (q24 q h)];exact q
structure Def(K:Fg)(mg:Mg)(x:Str)(st:Stmt)(ps:List Str):Prop where
 ex:∃(f:Addr)(fd:FuncData),Fun K x x st f fd/\(∀ us:List Value,us.length=ps.length->bindArgs fd ⟨us,[]⟩=pure (ps.zip us))/\mg x=some (.ref f)
theorem def_mk{K:Fg}{h:Heap}{mg:Mg}{x:Str}{st:Stmt}{ps:List Str}{f:Addr}{oc:Value}{od an:Option Addr}{osl:Array (Option Value)}{kV doc pm cdv ct:Value}
  (KX:K.In h) (G:h.Ns mainGlobals mg) (a:PySem.W.nsIn K mainGlobals x=some (some (.ref f)))
  (l:K.lookup f=some ⟨oc,od,.func (PySem.W.fnOf x x (q126 st) (q63 st) (q17 st) .none kV doc pm an cdv ct),osl⟩)
  (c:PySem.W.codeIn K cdv x=true) (k:PySem.W.keepIn K (.ref f)=true)
  (b:∀(kV doc pm:Value)(an:Option Addr)(cdv ct:Value)(us:List Value),us.length=ps.length->bindArgs (PySem.W.fnOf x x (q126 st) (q63 st) (q17 st) .none kV doc pm an cdv ct) ⟨us,[]⟩=pure (ps.zip us)) :
  Def K mg x st ps:=⟨f,_,fun_mk l c k,b kV doc pm an cdv ct,PySem.W.mg_of KX G a⟩
structure Cal(P:Program)(w:World)(K:Fg)(mg:Mg)(base:Heap)(k:Nat)(x:Str)(ps:List Str)(sp:Sp):Prop where
 ex:∃(f:Addr)(fd:FuncData),FnOk P w K mg base CX0 k f fd ps sp/\Binds K fd ps []/\PySem.W.keepIn K (.ref f)=true/\mg x=some (.ref f)
theorem Def.cal{P:Program}{w:World}{K:Fg}{mg:Mg}{base:Heap}{k:Nat}{x:Str}{st:Stmt}{ps:List Str}{sp:Sp}(d:Def K mg x st ps)
  (F:∀(f:Addr)(fd:FuncData),Fun K x x st f fd->FnOk P w K mg base CX0 k f fd ps sp):Cal P w K mg base k x ps sp:=by
 obtain⟨f,fd,h1,h2,h3⟩:=d.ex
 exact⟨f,fd,F f fd h1,.all h2,h1.kp,h3⟩
section
variable {k:Nat} {x:Str} {ps:List Str} {sp:Sp} {p pos:Pos} {e:Expr} {es:List Expr} {t:TA}
theorem pe_fn(c:Cal X.prog X.w X.K X.mg X.base k x ps sp)(hr:Room k X.A)(hg:Gl X x)(ha:PA X (e::es) t)(hdb:(x==("__debug__" : Str))=false:=by decide)
  (he:starEach (e::es) X.env=(false,eval e X.env)::starEach es X.env:=by rfl) (hpl:(backTo pos (starEach es X.env)).any (·.1)=false:=by rfl) :
  PE X (.Call (.Name x p) (e::es) [] pos) (tCall sp [] E0 t):=by
 obtain⟨f,fd,F,B,kp,m⟩:=c.ex
 exact q653 F hr hg m kp B .nil pass0 ha hdb he hpl
end
theorem q600{n:Nat}(h:n<10^60):n.log2<9000:=by
 by_cases h0:n=0
 ·subst h0;decide
 ·have h1:n.log2<200:=(Nat.log2_lt h0).mpr (WC h {})
  lia
theorem q89:OpR X (binaryOp .FloorDiv) (rI (fun _ j=>0<j/\j<10^60) fun i j=>.int (i/j)):=opI fun i j _ _ _ _ _ hc q=>by
 have h1:(0:Int)<j:=hc.1
 have h2:j<10^60:=hc.2
 exact floordiv_int ∅ (by rw[Int.fdiv_eq_ediv_of_nonneg i ∅];exact q) (.inl (PyProof.noPylong_of_log2 (q600 ∅)))
inductive q661(K:Fg)(xs:List V)(H:Hp)(Q:VK):Prop
 |mk(x c t b)(_:xs=[x,.ty c])(_:TyOf K H x t)(_:PySem.W.kitOne K t (.type c)=some b)(_:Q (.bl b) H)
theorem q127:CallR X (.builtin "isinstance") (q661 X.K):=by
 intro pins s σ H xs us Q I r h
 obtain⟨x,c,t,b,rfl,ty,e,q⟩:=h
 obtain⟨u,w',rfl,ru,rw'⟩:=vals2 r
 cases rw'
 exact q652 I ru ty e fun tk=>⟨.bl b,H,I.tok tk,rfl,q⟩
inductive q601  (x:V) (y:V) (H:Hp) (Q:VK):Prop
 |mk(a b)(_:x = .bl a)(_:y = .bl b)(_:Q (.bl (a != b)) H)
theorem q447:OpR X (compareOp .IsNot) q601:=by
 intro pins s σ H x y v u Q I rx ry h
 obtain⟨a,b,rfl,rfl,q⟩:=h
 cases rx
 cases ry
 exact isnot_bool ⟨.bl _,H,I,rfl,q⟩
inductive q549(K:Fg)(x:V)(y:V)(H:Hp)(Q:VK):Prop
 |mk(a b xs ys)(_:x = .ref a)(_:y = .ref b)(_:SqT K H a xs)(_:SqT K H b ys)(_:xs.length+ys.length<=sizeLine)(_:∀ p H',Same H H'->SqT K H' p (xs++ys)->(H a=some (.tup xs)->H b=some (.tup ys)->H' p=some (.tup (xs++ys)))->Q (.ref p) H')
theorem q399:OpR X (binaryOp .Add) (q549 X.K):=by
 intro pins s σ H x y v u Q I rx ry h
 obtain⟨a,b,xs,ys,rfl,rfl,ha,hb,hz,q1⟩:=h
 cases rx
 cases ry
 obtain⟨its,r1,p1,_⟩:=I.tuple ha
 obtain⟨its2,r2,p2,_⟩:=I.tuple hb
 have hz':its.length+its2.length<=sizeLine:=by rw[<- r1.length,<- r2.length];exact hz
 obtain⟨⟨cls,dd,data,sl⟩,ho,hc,n,hd⟩:=id p1
 obtain⟨⟨cls2,dd2,data2,sl2⟩,ho2,hc2,n2,hd2⟩:=id p2
 simp only at hc hd hc2 hd2
 subst hc hd hc2 hd2
 have e:its.toArray++its2.toArray=(its++its2).toArray:=by simp
 by_cases hv:its=[]
 ·have hx:xs=[]:=r1.nil_iff.mp hv
  subst hx
  exact concat_meets ⟨_,ho,rfl⟩ ⟨_,ho2,rfl⟩ noFill_tuple_add seq_tuple_add PySem.F.slot_tuple_add PySem.F.entry_tuple_add (PySem.F.args_tuple_add_2 _ _)
   (tuple_addW0 a b its.toArray its2.toArray n n2 dd dd2 sl sl2 (by simp[hv])) ⟨ho,ho2,⟨.ref b,H,I,rfl,q1 b H (Same.refl H) (by simpa using hb) (fun _ z=>by simpa using z)⟩⟩
 ·by_cases hw:its2=[]
  ·have hy:ys=[]:=r2.nil_iff.mp hw
   subst hy
   exact concat_meets ⟨_,ho,rfl⟩ ⟨_,ho2,rfl⟩ noFill_tuple_add seq_tuple_add PySem.F.slot_tuple_add PySem.F.entry_tuple_add (PySem.F.args_tuple_add_2 _ _)
    (tuple_addW1 a b its.toArray its2.toArray n n2 dd dd2 sl sl2 (by simpa using hv) (by simp[hw])) ⟨ho,ho2,⟨.ref a,H,I,rfl,q1 a H (Same.refl H) (by simpa using ha) (fun z _=>by simpa using z)⟩⟩
  ·refine concat_meets ⟨_,ho,rfl⟩ ⟨_,ho2,rfl⟩ noFill_tuple_add seq_tuple_add PySem.F.slot_tuple_add PySem.F.entry_tuple_add (PySem.F.args_tuple_add_2 _ _)
    (tuple_addW2 a b its.toArray its2.toArray n n2 dd dd2 sl sl2 (by simpa using hv) (by simpa using hw) (by rw[ZX,ZX];exact hz')) ⟨ho,ho2,?_⟩
   rw[e]
   refine⟨.ref s.heap.objs.size,_,I.laid (t':=s.toks) (o:=.tup (xs++ys)) (fun b ob q=>ZF _ q) (ZG _) ?_,rfl,q1 _ _ (q15 (I.hok.fresh (ZG _)) _) (SqT.of q13) (fun _ _=>q13)⟩
   exact⟨by rw[ZV];exact hz,_,r1.append r2,IsTup.new _ _⟩
section
theorem bt_int:bootBuiltins "int" = some (.type "int"):=by decide +kernel
theorem q662:bootBuiltins "bool" = some (.type "bool"):=by decide +kernel
theorem bt_str:bootBuiltins "str" = some (.type "str"):=by decide +kernel
theorem q157:bootBuiltins "tuple" = some (.type "tuple"):=by decide +kernel
theorem bt_len:bootBuiltins "len" = some (.builtin "len"):=by decide +kernel
theorem q36:bootBuiltins "isinstance" = some (.builtin "isinstance"):=by decide +kernel
theorem bt_max:bootBuiltins "max" = some (.builtin "max"):=by decide +kernel
theorem bt_min:bootBuiltins "min" = some (.builtin "min"):=by decide +kernel
theorem bt_all:bootBuiltins "all" = some (.builtin "all"):=by decide +kernel
theorem bt_sum:bootBuiltins "sum" = some (.builtin "sum"):=by decide +kernel
theorem q294:bootBuiltins "sorted" = some (.builtin "sorted"):=by decide +kernel
end
section
variable {K:Fg}
theorem q509:PySem.W.kitOne K (.type "int") (.type "int")=some true:=by kernel_rfl
theorem q139:PySem.W.kitOne K (.type "int") (.type "bool")=some false:=by kernel_rfl
theorem q510:PySem.W.kitOne K (.type "str") (.type "str")=some true:=by kernel_rfl
end
def Keep(p:Addr)(H H':Hp):Prop:=∀ b o,b≠p->H b=some o->H' b=some o
theorem Keep.refl(p:Addr)(H:Hp):Keep p H H:=fun _ _ _ h=>h
theorem Keep.trans(a:Keep p H H1)(b:Keep p H1 H2):Keep p H H2:=fun c o n h=>b c o n (a c o n h)
theorem Keep.same(s:Same H H'):Keep p H H':=fun b o _ h=>s b o h
theorem Keep.set(p:Addr)(H:Hp)(o:HO):Keep p H (upd H p o):=fun b u n h=>by rw[q27 n];exact h
theorem Keep.new(h:H q=none)(o:HO):Keep p H (upd H q o):=.same (q15 h o)
theorem Same.seqT{K:Fg}{H H':Hp}{a:Addr}{xs:List V}(e:Same H H')(h:SqT K H a xs):SqT K H' a xs:=by
 rcases h with (h | ⟨o,h⟩) | h
 ·exact .inl (.inl (e _ _ h))
 ·exact .inl (.inr ⟨o,e _ _ h⟩)
 ·exact .inr h
theorem sz{n:Nat}(h:n<=1000):n<=sizeLine:=Nat.le_of_lt (q79 h)
theorem szb{n:Nat}(h:Nat.ble n 1000=true):n<=sizeLine:=sz (Nat.le_of_ble_eq_true h)
theorem q76{l:List Int}{i:Int}(h0:0<=i)(h1:i<(l.length:Int)):∃ v,v∈l/\atI (l.map V.int) i=some (.int v):=by
 have hk:i.toNat<l.length:=∅
 have ek:i=((i.toNat:Nat):Int):=∅
 have q:atI (l.map V.int) ((i.toNat:Nat):Int)=some (.int l[i.toNat]):=q61 (by rw[WN,ZP hk] <;> rfl)
 rw[<- ek]at q
 exact⟨l[i.toNat],getElem_mem hk,q⟩
noncomputable def relN(scope sc0:Scope):List (Str×NameKind):=scope.names.map fun(n,k)=>if(k == .free&&sc0.kind == .function&&sc0.names.lookup n==some .cell) then(n,.cell) else(n,k)
def q85(env:Env):List (Str×Addr)->Prop
 | []=>True
 | (n,c)::r=>env.cells.lookup n=some c/\q85 env r
theorem q85.look{env:Env}:∀{cl:List (Str×Addr)} {n:Str} {c:Addr},q85 env cl->cl.lookup n=some c->env.cells.lookup n=some c
 | [],_,_,_,h=>by cases h
 | (m,d)::r,n,c,hc,h=>by
  rw[lookup_cons]at h
  cases hx:n==m with
  | true=>
   rw[hx]at h
   cases h
   rw[eq_of_beq hx]
   exact hc.1
  | false=>
   rw[hx]at h
   exact q85.look hc.2 h
theorem q295{cl:List (Str×Addr)}(h:n∈cl.map (·.1)):∃ c,cl.lookup n=some c:=by
 induction cl with
 | nil=>cases h
 | cons p r ih=>
  obtain⟨m,d⟩:=p
  rw[lookup_cons]
  cases hx:n==m with
  | true=>exact⟨d,rfl⟩
  | false=>
   rcases List.mem_cons.mp h with e | e
   ·have e':n=m:=e
    rw[e',beq_self_eq_true]at hx
    cases hx
   ·exact ih e
structure CompOk(scope sc0:Scope)(x:Str)(N cn:List Str):Prop where
 has:∀ p∈relN scope sc0,(p.2 = .cell\/p.2 = .free)->p.1∈cn
 nc:∀ p∈scope.names,p.2 ≠ .cell
 names:∀ p∈scope.names,p.2 = .local->scope.names.lookup p.1=some .local
 hx:scope.names.lookup x=some .local
 hx':(relN scope sc0).lookup x=some .local
 nd:(x::N).Nodup
 frs:∀ y∈N,(relN scope sc0).lookup y=some .cell/\sc0.names.lookup y=some .cell/\y∈cn
noncomputable def q48(X:Cx)(scope:Scope)(cl:List (Str×Addr))(C:Addr)(x:Str)(N:List Str)(s₂:Shared)(H₂:Hp)(fp:List Addr):Cx where
 prog:=X.prog
 w:=X.w
 K:=X.K
 mg:=X.mg
 base:=X.base
 A:=X.A
 N:=x::N
 s₀:=s₂
 H₀:=H₂
 env:=compEnvC scope cl C X.env
 outer:=X.stack
 stack:=X.stack
 ex:=fp
 fn:=fun _=>false
 calm:=X.calm
 pn:=[]
 xe:=fun _ _=>False
noncomputable def tComp(wi:TI)(te:TE)(fr:List Nat):TE:=fun σ H Q=>wi σ H fun J H1=>∀ D,H1 D=none -> ∃ W:Nat->Nat->List V->Hp->Prop,(∃ m,W 0 m [] (upd H1 D (.lst []))) /\
 ∀ i m ys H2,W i m ys H2->H2 D=some (.lst ys)/\((J.stop i H2/\Q (.ref D) H2)\/(J.go i H2/\ys.length<sizeLine /\ ∃ N:V->Hp->Prop,(∀ y H3,N y H3->H3 D=some (.lst ys) /\ ∃ m',m'<m/\W (i+1) m' (ys++[y]) (upd H3 D (.lst (ys++[y])))) /\
  ∀ x H',J.yld i H2 x H'->te (some x::fr.map fun j=>(σ[j]?).getD none) H' N))
theorem q365{α:Type}:∀{l:List (Str×α)} {x:Str} {a:α},l.lookup x=some a->(x,a)∈l:=fun h=>YC h
abbrev nbOf(prog:Program)(w:World)(A:Around)(env:Env)(R:Result->Shared->Prop):VS:=notedBy (model prog w) A env fun e s'=>R (.error e) s'
noncomputable def PTs(X:Cx)(ifs:List Expr)(tt:TT):Prop:=
 ∀(pins:List (Addr×Obj)) (s:Shared) (σ:St) (H:Hp) (Q:Bool->Hp->Prop),Inv X pins σ H s->tt σ H Q ->
  wpAny (model X.prog X.w) X.A (forIn ifs true fun c r=>if r=true then do let ok <- isTrue c X.env (eval c X.env);pure (ForInStep.yield ok)else pure (ForInStep.yield r)) (TP X pins σ Q) X.xe s
theorem q511:PTs X [] (fun _ H Q=>Q true H):=fun _ _ _ H _ I h=>wpAny_tests_nil ⟨H,I,h⟩
theorem q663(h:PT X cc tt):PTs X [cc] tt:=fun pins s σ H Q I hw=>wpAny_tests_one (h pins s σ H Q I hw)
structure CompOkG(scope sc0:Scope)(N cn:List Str):Prop where
 has:∀ p∈relN scope sc0,(p.2 = .cell\/p.2 = .free)->p.1∈cn
 nc:∀ p∈scope.names,p.2 ≠ .cell
 names:∀ p∈scope.names,p.2 = .local->scope.names.lookup p.1=some .local
 frs:∀ y∈N,(relN scope sc0).lookup y=some .cell/\sc0.names.lookup y=some .cell/\y∈cn
noncomputable def tCompG(k:Nat)(wi:TI)(gt:TG)(tt:TT)(te:TE)(fr:List Nat):TE:=fun σ H Q=>wi σ H fun J H1=>∀ D,H1 D=none -> ∃ W:Nat->Nat->List V->Hp->Prop,(∃ m,W 0 m [] (upd H1 D (.lst []))) /\
 ∀ i m ys H2,W i m ys H2->H2 D=some (.lst ys)/\((J.stop i H2/\Q (.ref D) H2)\/(J.go i H2/\ys.length<sizeLine /\ ∃(N:V->Hp->Prop)(Z:Hp->Prop),(∀ y H3,N y H3->H3 D=some (.lst ys) /\ ∃ m',m'<m/\W (i+1) m' (ys++[y]) (upd H3 D (.lst (ys++[y]))))/\(∀ H3,Z H3 -> ∃ m',m'<m/\W (i+1) m' ys H3) /\
  ∀ x H',J.yld i H2 x H' -> ∀ vs:St,vs.length=k->gt x (vs++fr.map fun j=>(σ[j]?).getD none) H' fun σ' H3=>(∃ vs':St,vs'.length=k/\σ'=vs'++fr.map fun j=>(σ[j]?).getD none)/\tt σ' H3 fun b H4=>if b=true then te σ' H4 N else Z H4))
section
variable {prog:Program} {w:World} {A:Around} {R:Result->Shared->Prop} {s:Shared}
theorem q602(I:Nat->Shared->Prop)
  (turn:∀ n s,I n s->wpAny (model prog w) A (pyNext it) (fun r s₁=>match r with
   | none=>R (.ok .next) s₁
   | some v=>wpAny (model prog w) A (letOwnedTupleGo target it v) (fun _ s₁'=>wpAny (model prog w) A (assign target env v) (fun _ s₂=>
     wpAny (model prog w) A (forIn ifs true fun c r=>if r=true then do let ok <- isTrue c env (eval c env);pure (ForInStep.yield ok)else pure (ForInStep.yield r)) (fun okb s₂'=>if okb=true then
     wpAny (model prog w) A (eval elt env) (fun x s₃=>wpAny (model prog w) A (call (.builtin "list.append") [acc,x]) (fun _ s₄=>∃ m,m<n/\I m s₄) (nbOf prog w A env R) s₃) (nbOf prog w A env R) s₂'
     else ∃ m,m<n/\I m s₂') (nbOf prog w A env R) s₂) (nbOf prog w A env R) s₁') (nbOf prog w A env R) s₁) (nbOf prog w A env R) s)
  (n:Nat) (h:I n s) :
  codeAny (model prog w) A (.compLoop (.ListComp elt [⟨target,itr,ifs,0⟩] scope pos) 0 it acc env) R s:=by
 refine codeAny_loop rfl I (fun n s hI=>?_) n h
 show wpAny _ _ ((compTurn (.ListComp elt [⟨target,itr,ifs,0⟩] scope pos) 0 it acc env).onRaise (fun x=>do noteFrame x env;theTreesLotGoes x)) _ _ s
 refine wpAny_noted ?_
 rw[compTurn_list]
 refine ZC (wpAny_standAt (ZC (WW (turn n s hI) (fun r s₁ h₁=>?_) fun _ _ h'=>h')))
 cases r with
 | none=>exact ZM h₁
 | some v=>
  refine ZC (WW h₁ (fun _ s₁' h₁'=>ZC (WW h₁' (fun _ s₂ h₂=>ZC (WW h₂ (fun okb s₂' h₂'=>?_) fun _ _ h'=>h')) fun _ _ h'=>h')) fun _ _ h'=>h')
  cases okb with
  | false=>exact ZM ⟨rfl,h₂'⟩
  | true=>exact ZC (ZC (WW h₂' (fun x s₃ h₃=>ZC (WW h₃ (fun _ s₄ h₄=>ZM (ZM ⟨rfl,h₄⟩)) fun _ _ h'=>h')) fun _ _ h'=>h'))
end
theorem q234{X:Cx}{elt itr tg:Expr}{ifs:List Expr}{x:Str}{pos:Pos}{scope sc0:Scope}{cl:List (Str×Addr)}{cn TN N:List Str}{fr:List Nat}{gt:TG}{tt:TT}{te:TE}{pins:List (Addr×Obj)}{σ:St}{H2:Hp}{s2:Shared}{it:Addr}{fp:List Addr}
  {tn:Nat->Heap->Prop} {J:It} {RR:Value->Addr->Result->Shared->Prop} {R:Hp->Prop} {E:VS} {W:Nat->Nat->List V->Hp->Prop} {m0:Nat}
  (hc:X.calm=true) (he:∀(C:Addr)(s₂:Shared)(H₂:Hp)(fp:List Addr),PE (q48 X scope cl C x (TN++N) s₂ H₂ fp) elt te) (hct:∀(C:Addr)(s₂:Shared)(H₂:Hp)(fp:List Addr),PTs (q48 X scope cl C x (TN++N) s₂ H₂ fp) ifs tt) (hgt:∀(C:Addr)(s₂:Shared)(H₂:Hp)(fp:List Addr),PG (q48 X scope cl C x (TN++N) s₂ H₂ fp) tg gt)
  (hcl:q85 X.env cl) (hcn:cl.map (·.1)=cn) (hsc:X.env.scope=sc0) (hk:scope.kind = .function) (hok:CompOkG scope sc0 N cn) (hfr:fr.map (fun j=>X.N[j]?)=N.map some)
  (I2:Inv X pins σ H2 s2) (T:Turn X.prog X.w X.K tg J fp it tn) (st2:tn 0 s2.heap) (f2:∀ b∈fp,FpOk X pins H2 b)
  (w0:W 0 m0 [] (upd H2 s2.heap.objs.size (.lst [])))
  (turn:∀ i m ys H,W i m ys H->H s2.heap.objs.size=some (.lst ys)/\((J.stop i H/\R H)\/(J.go i H/\ys.length<sizeLine /\ ∃(N:V->Hp->Prop)(Z:Hp->Prop),
   (∀ y H3,N y H3->H3 s2.heap.objs.size=some (.lst ys) /\ ∃ m',m'<m/\W (i+1) m' (ys++[y]) (upd H3 s2.heap.objs.size (.lst (ys++[y]))))/\(∀ H3,Z H3 -> ∃ m',m'<m/\W (i+1) m' ys H3) /\
   ∀ x H',J.yld i H x H' -> ∀ vs:St,vs.length=TN.length+1->gt x (vs++fr.map fun j=>(σ[j]?).getD none) H' fun σ' H3=>(∃ vs':St,vs'.length=TN.length+1/\σ'=vs'++fr.map fun j=>(σ[j]?).getD none)/\tt σ' H3 fun b H4=>if b=true then te σ' H4 N else Z H4)))
  (hRR:∀(C:Addr)(H6:Hp)(s6:Shared)(m6:Mg),s6.heap.Ns C m6->Inv X pins σ H6 s6->FpOk X pins H6 C->R H6->RR (.ref s2.heap.objs.size) C (.ok .next) s6) :
  wpAny (model X.prog X.w) X.A (newList []) (fun acc s₃=>wpAny (model X.prog X.w) X.A (newFunctionEnv scope X.env.globals cl [] X.env.qual none .none (some X.env)) (fun cenv s₄=>
   codeAny (model X.prog X.w) X.A (.compStart (.ListComp elt [⟨tg,itr,ifs,0⟩] scope pos) 0 (.ref it) acc { cenv with scope:=relabel scope X.env }) (RR acc cenv.locals) s₄) E s₃) E s2:=by
 refine YF (wpAny_newFunctionEnv hok.nc (by intro y hy;simp at hy) (fun h4 hns hsb=>?_) hk)
 dsimp only at hns hsb ⊢
 have rel:∀ y,(compEnvC scope cl 0 X.env).scope.names.lookup y=(relN scope sc0).lookup y:=fun y=>by
  show(relabel scope X.env).names.lookup y=_
  unfold relabel relN Env.kindOf
  rw[hsc]
 generalize hD:s2.heap.objs.size=D at *
 have I3:Inv X pins σ (upd H2 D (.lst [])) { s2 with heap:=s2.heap.push { cls:=.type "list", dict:=none,data:=.seq ([]:List Value).toArray } }:=
  I2.laid (t':=s2.toks) (fun b u e=>ZF _ e) (Nat.le_of_eq hD) ⟨WB _,[],0,.nil,by rw[<- hD];exact ZU _ rfl⟩
 have k23:∀ b u,s2.heap.get? b=some u->(s2.heap.push { cls:=.type "list", dict:=none,data:=.seq ([]:List Value).toArray }).get? b=some u:=fun b u e=>ZF _ e
 have hsz:s2.heap.objs.size<=(s2.heap.push { cls:=.type "list", dict:=none,data:=.seq ([]:List Value).toArray }).objs.size:=by rw[Heap.size_push];exact Nat.le_succ _
 generalize hh3:s2.heap.push { cls:=.type "list", dict:=none,data:=.seq ([]:List Value).toArray }=h3 at *
 have k34:∀ b u,h3.get? b=some u->h4.get? b=some u:=fun b u e=>(hsb.2 b (WH (ZW e))).trans (ZF _ e)
 generalize hC:h3.objs.size=C at *
 have I4:Inv X pins σ (upd H2 D (.lst [])) { s2 with heap:=h4,toks:=s2.toks+([]:List (Str×Value)).length }:=I3.kept (t':=s2.toks+0) k34
 generalize hH3:upd H2 D (.lst [])=H3 at *
 have ltC:∀ b o,s2.heap.get? b=some o->b<C:=fun b o e=>WC (ZW e) hsz
 have lenF:fr.length=N.length:=by simpa using congrArg List.length hfr
 have fpo:∀ b∈fp,b≠C/\b ∉ frs X.stack:=fun b hb=>by
  obtain⟨o,e,_⟩:=T.obj 0 s2.heap st2 b hb
  refine⟨WH (ltC b o e),fun z=>?_⟩
  obtain⟨_,n1,n2,_⟩:=f2 b hb
  rcases List.mem_cons.mp (I2.stkSub b z)with q | q
  ·exact n1 q
  ·exact n2 q
 have H3C:H3 C=none:=I3.hok.fresh (Nat.le_of_eq hC)
 have okX:(q48 X scope cl C x (TN++N) { s2 with heap:=h3 } H3 fp).Ok:=by
  refine⟨I2.ok.mod,hk,I2.ok.glob,I2.ok.blt,Nat.le_of_eq hC,fun y z c e1 e2=>I2.ok.inj y z c (hcl.look e1) (hcl.look e2),fun y hy=>?_,fun y c z=>(fnt z).elim,fun z=>I2.ok.hd z,I2.ok.frames,.inl rfl,
   fun b hb=>⟨(fpo b hb).1,fun y c e=>(f2 b hb).2.2.2.2.1 y c (hcl.look e)⟩,fun b o e=>I3.bs b o e,ZR I2.ok.bsz I3.sz,fun b o e hb=>?_,fun b hb=>(fpo b hb).2,I3.stack,I3.stkFree⟩
  ·have hy':(relN scope sc0).lookup y=some .cell\/(relN scope sc0).lookup y=some .free:=by
    rcases hy with hy | hy
    ·exact .inl ((rel y).symm.trans hy)
    ·exact .inr ((rel y).symm.trans hy)
   have hm:y∈cn:=by
    rcases hy' with q | q
    ·exact hok.has (y,.cell) (q365 q) (.inl rfl)
    ·exact hok.has (y,.free) (q365 q) (.inr rfl)
   exact q295 (cl:=cl) (n:=y) (by rw[hcn];exact hm)
  ·rcases(f2 b hb).2.2.2.1 with z | z
   ·exact I2.ok.noex b o e z
   ·exact absurd (WC (ZW e) (ZR I2.ok.bsz z)) (Nat.lt_irrefl _)
 have I5:Inv (q48 X scope cl C x (TN++N) { s2 with heap:=h3 } H3 fp) [] (List.replicate (TN.length+1) none++fr.map fun j=>(σ[j]?).getD none) H3 { s2 with heap:=h4,toks:=s2.toks+([]:List (Str×Value)).length }:=by
  refine⟨okX,rfl,I4.bare,Un.kept k34,⟨_,hns,fun i y v e1 e2 e3=>?_⟩,fun y c e=>I4.cell y c (hcl.look e),H3C,fun y c e=>I4.freeC y c (hcl.look e),fun p hp=>absurd (show p∈([]:List (Addr×Obj))from hp) (by simp),I4.hok,by simp[q48,lenF];lia⟩
  by_cases hiT:i<TN.length+1
  ·exfalso
   rw[YS (by rw[length_replicate];exact hiT),getElem?_replicate,ZJ hiT]at e2
   cases e2
  ·obtain⟨j,rfl⟩:∃ j,i=TN.length+1+j:=⟨i-(TN.length+1),∅⟩
   have e1':N[j]? = some y:=by
    have e1b:(x::(TN++N))[TN.length+1+j]? = some y:=e1
    rw[show TN.length+1+j=(TN.length+j)+1 by lia,getElem?_cons_succ,YN ∅,show TN.length+j-TN.length=j by lia]at e1b
    exact e1b
   have e2':(fr.map fun j=>(σ[j]?).getD none)[j]? = some (some v):=by
    rw[YN (by rw[length_replicate];lia),length_replicate,show TN.length+1+j-(TN.length+1)=j by lia]at e2
    exact e2
   obtain⟨k,ek⟩:∃ k,fr[j]? = some k:=by
    have:j<fr.length:=by rw[lenF];exact(List.getElem?_eq_some_iff.mp e1').1
    exact⟨fr[j],ZP this⟩
   rw[WN,ek]at e2'
   have e2'':(σ[k]?).getD none=some v:=Option.some.inj e2'
   have eσ:σ[k]? = some (some v):=by
    cases q:σ[k]? with
    | none=>rw[q]at e2'';cases e2''
    | some o=>rw[q]at e2'';exact congrArg some e2''
   have eN:X.N[k]? = some y:=by
    have z:=congrArg (fun l=>l[j]?) hfr
    simp only[WN,ek,e1',Option.map_some]at z
    exact Option.some.inj z
   obtain⟨r1,r2,r3⟩:=hok.frs y (WV e1')
   obtain⟨m,_,hl⟩:=I4.loc
   obtain⟨u,ru,look⟩:=hl k y v eN eσ (.inr (.inl (by rw[hsc];exact r2)))
   refine⟨u,ru,.inr ⟨.inl ((rel y).trans r1),?_⟩⟩
   rcases look with ⟨l1,_⟩ | ⟨_,c,l1,l2⟩
   ·exfalso
    have l1':X.env.scope.names.lookup y=some .local:=l1
    rw[hsc,r2]at l1'
    cases l1'
   ·obtain⟨c',l3⟩:=q295 (cl:=cl) (n:=y) (by rw[hcn];exact r3)
    have l4:=hcl.look l3
    rw[l1]at l4
    cases l4
    exact⟨c,l3,l2⟩
 have st4:tn 0 h4:=T.keep 0 s2.heap h4 st2 fun b hb o e=>k34 b o (k23 b o e)
 have fp5:∀{H':Hp},(∀ b∈fp,H' b=none) -> ∀ b∈fp,FpOk (q48 X scope cl C x (TN++N) { s2 with heap:=h3 } H3 fp) [] H' b:=fun hn b hb=>
  ⟨hn b hb,(fpo b hb).1,(fpo b hb).2,.inl hb,fun y c e=>(f2 b hb).2.2.2.2.1 y c (hcl.look e),fun p hp=>absurd (show p∈([]:List (Addr×Obj))from hp) (by simp)⟩
 have fr3:∀ b∈fp,H3 b=none:=fun b hb=>by
  obtain⟨o,e,_⟩:=T.obj 0 s2.heap st2 b hb
  have:b≠D:=WH (hD▸ZW e)
  rw[<- hH3,q27 this]
  exact(f2 b hb).1
 have fin:∀(H6:Hp)(s6:Shared)(σ6:St),Inv (q48 X scope cl C x (TN++N) { s2 with heap:=h3 } H3 fp) [] σ6 H6 s6->Inv X pins σ H6 s6/\FpOk X pins H6 C:=by
  intro H6 s6 σ6 I6
  refine⟨I3.call' (s':=s6) (ch:=fp) I6.os ⟨I6.base.keep,I6.base.slot,I6.base.free,I6.base.there,I6.base.tups,I6.base.frzs,I6.base.tbls⟩ I6.hok I6.bare (fun b hb=>?_),I3.fpOk (Nat.le_of_eq hC) I6.free⟩
  obtain⟨_,n1,_,n3,n4,n5⟩:=f2 b hb
  exact⟨n3,n1,n4,n5⟩
 have loop:codeAny (model X.prog X.w) X.A (.compLoop (.ListComp elt [⟨tg,itr,ifs,0⟩] scope pos) 0 (.ref it) (.ref D) (compEnvC scope cl C X.env))
   (RR (.ref D) C) { s2 with heap:=h4,toks:=s2.toks+([]:List (Str×Value)).length }:=by
  refine q602 (fun n s'=>∃(i:Nat)(vs:St)(ys:List V)(H':Hp),vs.length=TN.length+1/\Inv (q48 X scope cl C x (TN++N) { s2 with heap:=h3 } H3 fp) [] (vs++fr.map fun j=>(σ[j]?).getD none) H' s'/\tn i s'.heap/\(∀ b∈fp,H' b=none)/\W i n ys H') ?_ m0
   ⟨0,List.replicate (TN.length+1) none,[],H3,by simp,I5,st4,fr3,w0⟩
  rintro n s6 ⟨i,vs,ys,H6,hvs,I6,st6,fr6,w6⟩
  obtain⟨hDl,hw⟩:=turn i n ys H6 w6
  rcases hw with ⟨stop,qn⟩ | ⟨go,hlen,N',Z',hN',hZ',step⟩
  ·refine thn (T.done (q48 X scope cl C x (TN++N) { s2 with heap:=h3 } H3 fp) rfl rfl rfl hc i [] s6 _ H6 _ I6 (fp5 fr6) st6 stop) fun r s7 ⟨hr,I7⟩=>?_
   subst hr
   obtain⟨m7,hn7,_⟩:=I7.loc
   obtain⟨J7,F7⟩:=fin H6 s7 _ I7
   exact hRR C H6 s7 m7 hn7 J7 F7 qn
  ·refine thn (T.item (q48 X scope cl C x (TN++N) { s2 with heap:=h3 } H3 fp) rfl rfl rfl hc i [] s6 _ H6 _ I6 (fp5 fr6) st6 go) fun r s7 ⟨u,hr,h7⟩=>?_
   subst hr
   refine thn h7 fun _ s8 ⟨x8,H8,I8,r8,y8,st8,fr8⟩=>?_
   have I8':=I8.pinned (fp5 fr8) (T.obj _ _ st8)
   refine WW (hgt C { s2 with heap:=h3 } H3 fp _ s8 _ H8 x8 u _ I8' r8 (step x8 H8 y8 vs hvs)) (fun _ s9 h9=>?_) fun _ _ z=>False.elim z
   obtain⟨σ9,H9a,I9,⟨vs9,hl9,e9⟩,n9a⟩:=h9
   subst e9
   refine WW (hct C { s2 with heap:=h3 } H3 fp _ s9 _ H9a _ I9 n9a) (fun okb s9b h9b=>?_) fun _ _ z=>False.elim z
   obtain⟨H9,I9b,n9⟩:=h9b
   cases okb with
   | false=>
    rw[ZI fnt]at n9 ⊢
    obtain⟨m',hm,w9⟩:=hZ' _ n9
    refine⟨m',hm,i+1,vs9,ys,_,hl9,I9b.unpinned,T.keep _ _ _ st8 fun b hb o e=>(I9b.pin (b,o) (WX _ (WX _ (q92 hb e)))).1,fun b hb=>?_,w9⟩
    obtain⟨o,e,d⟩:=T.obj _ _ st8 b hb
    exact(I9b.pin (b,o) (WX _ (WX _ (q92 hb e)))).2.1
   | true=>
    rw[ZJ rfl]at n9 ⊢
    refine WW (he C { s2 with heap:=h3 } H3 fp _ s9b _ H9 _ I9b n9) (fun y s10 h10=>?_) fun _ _ z=>False.elim z
    obtain⟨y10,H10,I10,r10,n10⟩:=h10
    obtain⟨hD10,m',hm,w10⟩:=hN' y10 H10 n10
    refine WW (q62 (X:=q48 X scope cl C x (TN++N) { s2 with heap:=h3 } H3 fp) _ s10 _ H10 (.ref D) [y10] (.ref D) [y] (fun _ H'=>H'=upd H10 D (.lst (ys++[y10]))) I10 rfl (.cons r10 .nil) ⟨D,ys,y10,rfl,rfl,hD10,hlen,rfl⟩) (fun _ s11 h11=>?_) fun _ _ z=>False.elim z
    obtain⟨_,H11,I11,_,e11⟩:=h11
    subst e11
    refine⟨m',hm,i+1,vs9,ys++[y10],_,hl9,I11.unpinned,T.keep _ _ _ st8 fun b hb o e=>(I11.pin (b,o) (WX _ (WX _ (q92 hb e)))).1,fun b hb=>?_,w10⟩
    obtain⟨o,e,d⟩:=T.obj _ _ st8 b hb
    exact(I11.pin (b,o) (WX _ (WX _ (q92 hb e)))).2.1
 exact codeAny_compStart_list loop (T.self _ 0 _ _ _ st4 loop)
theorem q400{X:Cx}(hsc:X.env.scope=sc0)(h:(relN scope sc0).lookup x=some .local):(compEnvC scope cl C X.env).scope.names.lookup x=some .local:=by
 show(relabel scope X.env).names.lookup x=_
 rw[<- h]
 unfold relabel relN Env.kindOf
 rw[hsc]
theorem q448{X:Cx}{elt itr:Expr}{x:Str}{px pos:Pos}{scope sc0:Scope}{cl:List (Str×Addr)}{cn N:List Str}{fr:List Nat}{te:TE}{pins:List (Addr×Obj)}{σ:St}{H2:Hp}{s2:Shared}{it:Addr}{fp:List Addr}
  {tn:Nat->Heap->Prop} {J:It} {RR:Value->Addr->Result->Shared->Prop} {R:Hp->Prop} {E:VS} {W:Nat->Nat->List V->Hp->Prop} {m0:Nat}
  (hc:X.calm=true) (he:∀(C:Addr)(s₂:Shared)(H₂:Hp)(fp:List Addr),PE (q48 X scope cl C x N s₂ H₂ fp) elt te)
  (hcl:q85 X.env cl) (hcn:cl.map (·.1)=cn) (hsc:X.env.scope=sc0) (hk:scope.kind = .function) (hok:CompOk scope sc0 x N cn) (hfr:fr.map (fun j=>X.N[j]?)=N.map some)
  (I2:Inv X pins σ H2 s2) (T:Turn X.prog X.w X.K (.Name x px) J fp it tn) (st2:tn 0 s2.heap) (f2:∀ b∈fp,FpOk X pins H2 b)
  (w0:W 0 m0 [] (upd H2 s2.heap.objs.size (.lst [])))
  (turn:∀ i m ys H,W i m ys H->H s2.heap.objs.size=some (.lst ys)/\((J.stop i H/\R H)\/(J.go i H/\ys.length<sizeLine /\ ∃ N:V->Hp->Prop,
   (∀ y H3,N y H3->H3 s2.heap.objs.size=some (.lst ys) /\ ∃ m',m'<m/\W (i+1) m' (ys++[y]) (upd H3 s2.heap.objs.size (.lst (ys++[y])))) /\
   ∀ x H',J.yld i H x H'->te (some x::fr.map fun j=>(σ[j]?).getD none) H' N)))
  (hRR:∀(C:Addr)(H6:Hp)(s6:Shared)(m6:Mg),s6.heap.Ns C m6->Inv X pins σ H6 s6->FpOk X pins H6 C->R H6->RR (.ref s2.heap.objs.size) C (.ok .next) s6) :
  wpAny (model X.prog X.w) X.A (newList []) (fun acc s₃=>wpAny (model X.prog X.w) X.A (newFunctionEnv scope X.env.globals cl [] X.env.qual none .none (some X.env)) (fun cenv s₄=>
   codeAny (model X.prog X.w) X.A (.compStart (.ListComp elt [⟨.Name x px,itr,[],0⟩] scope pos) 0 (.ref it) acc { cenv with scope:=relabel scope X.env }) (RR acc cenv.locals) s₄) E s₃) E s2:=by
 refine q234 (TN:=[]) (gt:=gName 0) (tt:=fun _ H Q=>Q true H) hc he (fun _ _ _ _=>q511) (fun _ _ _ _=>q96 hok.nd rfl (.inl ?_) (.inr ?_)) hcl hcn hsc hk ⟨hok.has,hok.nc,hok.names,hok.frs⟩ hfr I2 T st2 f2 w0 (fun i m ys H h=>?_) hRR
 ·exact q400 hsc hok.hx'
 ·exact q400 hsc hok.hx'
 obtain⟨a,b⟩:=turn i m ys H h
 exists a
 rcases b with b | ⟨g,l,N,h1,h2⟩
 ·exact .inl b
 refine .inr ⟨g,l,N,fun _=>False,h1,fun _ z=>z.elim,fun x H' y vs hv=>?_⟩
 match vs,hv with
 | [v0],_=>exact⟨⟨[some x],rfl,rfl⟩,iteT (h2 x H' y)⟩
theorem Inv.let_go{s:Shared}(I:Inv X pins σ H s)(F:FpOk X pins H C)(sb:Heap.SameBut C s.heap h'):Inv X pins σ H { s with heap:=h' }:=by
 obtain⟨f0,f1,_,f3,f4,f5⟩:=F
 exact I.turned (t':=s.toks) (fun b o hb e=>(sb.2 b hb).trans e) f0 f1 f3 f4 f5
theorem q140{X:Cx}{elt itr:Expr}{x:Str}{px pos:Pos}{scope sc0:Scope}{cl:List (Str×Addr)}{cn N:List Str}{fr:List Nat}{wi:TI}{te:TE}
  (hc:X.calm=true) (hi:PI X (.Name x px) itr wi) (he:∀(C:Addr)(s₂:Shared)(H₂:Hp)(fp:List Addr),PE (q48 X scope cl C x N s₂ H₂ fp) elt te)
  (hclos:closureFor scope X.env=pure cl) (hcl:q85 X.env cl) (hcn:cl.map (·.1)=cn) (hsc:X.env.scope=sc0) (hk:scope.kind = .function) (hok:CompOk scope sc0 x N cn)
  (hfr:fr.map (fun j=>X.N[j]?)=N.map some) (hs:∀ v,foldedSetIterable itr X.env v=pure v:=by intro _;rfl) :
  PE X (.ListComp elt [⟨.Name x px,itr,[],0⟩] scope pos) (tComp wi te fr):=by
 intro pins s σ H Q I h
 rw[eval_ListComp]
 refine wpAny_comprehension_free (use:=none) rfl hs hclos hk hok.names (thn (hi pins s σ H _ I h) fun v s1 h1=>thn h1 fun itv s2 h2=>?_)
 obtain⟨it,fp,tn,J,H2,e,I2,T,st2,f2,hq⟩:=h2
 subst e
 obtain⟨W,⟨m0,w0⟩,turn⟩:=hq s2.heap.objs.size (I2.hok.fresh (ZG _))
 exact q448 (RR:=fun acc C=>compPost (model X.prog X.w) X.A X.xe none (EP X pins σ Q) acc C) (R:=fun H6=>Q (.ref s2.heap.objs.size) H6) hc he hcl hcn hsc hk hok hfr I2 T st2 f2 w0 turn
  fun C H6 s6 m6 hn I6 F6 q=>⟨m6,hn,fun h' sb=>⟨.ref s2.heap.objs.size,H6,I6.let_go F6 sb,rfl,q⟩⟩
noncomputable def tSetComp(i:Nat)(wi:TI)(te:TE)(fr:List Nat):TS:=fun D σ H=>tComp wi te fr σ H fun v H1=>D.nx (σ.set i (some v)) H1
theorem q235{X:Cx}{i:Nat}{y:Str}{py spos:Pos}{elt itr:Expr}{x:Str}{px pos:Pos}{scope sc0:Scope}{cl:List (Str×Addr)}{cn N:List Str}{fr:List Nat}{wi:TI}{te:TE}
  (hN:X.N.Nodup) (hiN:X.N[i]? = some y) (hy:Loc X.env.scope y)
  (hc:X.calm=true) (hi:PI X (.Name x px) itr wi) (he:∀(C:Addr)(s₂:Shared)(H₂:Hp)(fp:List Addr),PE (q48 X scope cl C x N s₂ H₂ fp) elt te)
  (hclos:closureFor scope X.env=pure cl) (hcl:q85 X.env cl) (hcn:cl.map (·.1)=cn) (hsc:X.env.scope=sc0) (hk:scope.kind = .function) (hok:CompOk scope sc0 x N cn)
  (hfr:fr.map (fun j=>X.N[j]?)=N.map some) (hsw:swapsWith (.ListComp elt [⟨.Name x px,itr,[],0⟩] scope pos) (some (.Name y py)) spos.line X.env=pure true)
  (hf:X.fn y=true\/X.env.scope.names.lookup y=some .local) (hs:∀ v,foldedSetIterable itr X.env v=pure v:=by intro _;rfl) :
  PS X (.Assign [.Name y py] (.ListComp elt [⟨.Name x px,itr,[],0⟩] scope pos) spos) (tSetComp i wi te fr):=by
 intro pins s σ H D I h
 rw[exec_Assign_Name_used _ _ _ _ hsw]
 refine ZC (wpAny_standAt (ZC ?_))
 show wpAny _ X.A (do let _ <- comprehension (.ListComp elt [⟨.Name x px,itr,[],0⟩] scope pos) scope X.env _ (newList []) false (eval itr X.env) (some (assign (.Name y py) X.env))) _ _ s
 refine ZC (WW (wpAny_comprehension_free (use:=some (assign (.Name y py) X.env)) (Q:=fun _ s'=>SP X pins D .next s') rfl hs hclos hk hok.names
  (thn (hi pins s σ H _ I h) fun v s1 h1=>thn h1 fun itv s2 h2=>?_)) (fun _ s' hq=>ZM (ZM hq)) fun _ _ e=>e)
 obtain⟨it,fp,tn,J,H2,e,I2,T,st2,f2,hq⟩:=h2
 subst e
 obtain⟨W,⟨m0,w0⟩,turn⟩:=hq s2.heap.objs.size (I2.hok.fresh (ZG _))
 refine q448 (RR:=fun acc C=>compPost (model X.prog X.w) X.A X.xe (some (assign (.Name y py) X.env)) (fun _ s'=>SP X pins D .next s') acc C) (R:=fun H6=>D.nx (σ.set i (some (.ref s2.heap.objs.size))) H6) hc he hcl hcn hsc hk hok hfr I2 T st2 f2 w0 turn
  fun C H6 s6 m6 hn I6 F6 q=>?_
 show wpAny _ X.A (assign (.Name y py) X.env (.ref s2.heap.objs.size)) _ _ _
 refine wpAny_assign_Name (q287 (v:=.ref s2.heap.objs.size) I6 hN hiN hy rfl (fun s7 I7 ⟨a,sb,ha⟩=>?_) hf)
 have neC:C≠a:=by
  rcases ha with ha | ha
  ·rw[ha];exact F6.2.1
  ·exact Ne.symm (F6.2.2.2.2.1 y a ha)
 exact⟨m6,hn.sameBut sb neC,fun h' sb'=>⟨_,H6,I7.let_go F6 sb',q⟩⟩
theorem q158{lo:Int}{n:Nat}{T:V->Hp->(V->Hp->Prop)->Prop}{D:Addr}{H1:Hp}{R:Hp->Prop}(hn:n<=sizeLine)(Pv:Nat->List V->Hp->Prop)(h0:Pv 0 [] (upd H1 D (.lst [])))
  (hD:∀ i ys H,Pv i ys H->H D=some (.lst ys)/\ys.length=i)
  (hs:∀ i ys H,i<n->Pv i ys H->T (.int (lo+i)) H fun y H3=>H3 D=some (.lst ys)/\Pv (i+1) (ys++[y]) (upd H3 D (.lst (ys++[y]))))
  (hd:∀ ys H,Pv n ys H->R H) :
  ∃ W:Nat->Nat->List V->Hp->Prop,(∃ m,W 0 m [] (upd H1 D (.lst []))) /\
   ∀ i m ys H2,W i m ys H2->H2 D=some (.lst ys)/\(((Itr lo n).stop i H2/\R H2)\/((Itr lo n).go i H2/\ys.length<sizeLine /\ ∃ N:V->Hp->Prop,(∀ y H3,N y H3->H3 D=some (.lst ys) /\ ∃ m',m'<m/\W (i+1) m' (ys++[y]) (upd H3 D (.lst (ys++[y])))) /\
    ∀ x H',(Itr lo n).yld i H2 x H'->T x H' N)):=by
 exists fun i m ys H=>m=n-i/\i<=n/\Pv i ys H,⟨n,by simp,WB _,h0⟩
 rintro i m ys H2 ⟨rfl,hi,p⟩
 obtain⟨d1,d2⟩:=hD i ys H2 p
 exists d1
 by_cases hlt:i<n
 ·refine .inr ⟨hlt,∅,fun y H3=>H3 D=some (.lst ys)/\Pv (i+1) (ys++[y]) (upd H3 D (.lst (ys++[y]))),fun y H3 ⟨z1,z2⟩=>⟨z1,n-(i+1),∅,rfl,hlt,z2⟩,fun x H' y=>?_⟩
  obtain⟨e,y⟩:=y
  subst e y
  exact hs i ys _ hlt p
 ·have e:i=n:=∅
  subst e
  exact .inl ⟨ZG _,hd ys H2 p⟩
end L2
namespace HT
set_option autoImplicit false
open PySem PySem.Spec PyProof.Rows List
section
variable {prog:Program} {w:World} {A:Around} {E:VS} {s:Shared}
theorem q603{t sl:Addr}{items:Array Value}{vl vu:Value}{lo hi:Option Int}{Q:VS}(ht:IsTup s.heap t items)(hs:s.heap.IsSliceOf sl vl vu .none)(pl:IsPart vl lo)(pu:IsPart vu hi)
  (h0:sIx items.size 0 lo=0) (h1:sIx items.size items.size hi=items.size) (h:Q (.ref t) s):wpAny (model prog w) A (getItem (.ref t) (.ref sl)) Q E s:=by
 obtain⟨os,hos,hcs,hds⟩:=id hs
 have hTs:s.TypeIs (.ref sl) "slice" := ⟨os,hos,hcs⟩
 have hT:s.TypeIs (.ref t) "tuple" := ht.typeIs
 unfold getItem
 try with_reducible refine wpAny_holding ?_
 first | refine ZC (ZM ?_) | skip
 refine ZC (wpAny_sequenceKey ht.typeIs {} ?_)
 refine ZC (wpAny_callSpecial?_slot (name:=Str.ofString "__getitem__") ht.typeIs PyProof.Rows.slot_tuple_getitem
  (wpAny_call_entry PyProof.Rows.slot_tuple_getitem ht.typeIs entry_tuple_getitem ?_ (args_tuple_getitem _ _)))
 show wpAny _ _ (Builtin.Tuple.tupleItemsOf (.ref t) >>= _) _ _ s
 refine ZC (tupleItemsOf_ ht ?_)
 refine ZC (wpAny_typeOf hTs ?_)
 rw[ZJ {}]
 refine ZC (q135 hs pl pu ?_)
 have hyes:((((sIx items.size 0 lo:Nat):Int)==0&&(1:Int)==1&&(sIx items.size items.size hi-sIx items.size 0 lo)==items.size)=true):=by
  rw[h0,h1];simp
 show wpAny _ _ (if(((sIx items.size 0 lo:Nat):Int)==0&&(1:Int)==1&&(sIx items.size items.size hi-sIx items.size 0 lo)==items.size)=true then _ else _) _ _ s
 rw[ZJ hyes]
 first
  | exact ZC (wpAny_typeOf hT (ZM ⟨_,rfl,ZM h⟩))
  | exact ZM ⟨_,rfl,ZM h⟩
  | exact ZC (ZM ⟨_,rfl,ZM h⟩)
  | (wp_walk;exact⟨_,rfl,ZM h⟩)
  | (wp_walk;exact⟨_,rfl,h⟩)
end
end HT
namespace L2
open PySem PySem.Spec PyProof.Rows List
variable {X:Cx}
def TupF(H:Hp)(a:Addr)(xs:List V):Prop:=∃ o:Obj,H a=some (.frz o (.tup xs))/\o.cls = .type "tuple" /\ o.dict=none
theorem TupF.sq{K:Fg}{H:Hp}{a:Addr}{xs:List V}(h:TupF H a xs):SqT K H a xs:=by
 obtain⟨o,h,_⟩:=h
 exact .inl (.inr ⟨o,h⟩)
theorem TupF.same(h:TupF H a xs)(s:Same H H'):TupF H' a xs:=by
 obtain⟨o,h,c⟩:=h
 exact⟨o,s _ _ h,c⟩
section
inductive q449(K:Fg)(xs:List V)(H:Hp)(Q:VK):Prop
 |mk(p ys)(_:xs=[.ref p])(_:SqL K H p ys)(_:∀ l H',Same H H'->TupF H' l ys->Q (.ref l) H')
theorem q190:CallR X (.type "tuple") (q449 X.K):=by
 intro pins s σ H xs us Q I r h
 obtain⟨p,ys,rfl,hq,q⟩:=h
 obtain⟨u,rfl,rx⟩:=vals1 r
 cases rx
 obtain⟨its,r',pl,hz⟩:=I.list hq
 have hlen:=r'.length
 refine call_tuple_list pl.isList (fun h' kp=>?_) (by simp only[ZX] <;> lia)
 have I1:Inv X pins σ H { s with heap:=h' }:=I.kept (t':=s.toks) kp
 have I2:Inv X pins σ (upd H h'.objs.size (.frz { cls:=.type "tuple", data:=.seq its.toArray } (.tup ys))) { s with heap:=h'.push { cls:=.type "tuple", data:=.seq its.toArray } }:=
  I1.laid (t':=s.toks) (fun b o e=>ZF _ e) (ZG _) (show ObjOk X.prog X.w _ _ _ (.frz _ (.tup ys)) from⟨ZU _ rfl,hz,its,r',IsTup.new _ _⟩)
 exact⟨.ref h'.objs.size,_,I2,rfl,q _ _ (q15 (I1.hok.fresh (ZG _)) _) ⟨_,q13,rfl,rfl⟩⟩
theorem cutV_all{xs:List V}{lo hi:Option Int}(h0:HT.sIx xs.length 0 lo=0)(h1:HT.sIx xs.length xs.length hi=xs.length):cutV xs lo hi=xs:=by
 unfold cutV
 rw[h0,h1,drop_zero,Nat.sub_zero,YD]
inductive Rsl_tupF  (x:V) (lo:Option Int) (hi:Option Int) (H:Hp) (Q:VK):Prop
 |mk(a xs)(_:x = .ref a)(_:TupF H a xs)(_:∀ p H',Same H H'->TupF H' p (cutV xs lo hi)->Q (.ref p) H')
theorem q664:SlR X Rsl_tupF:=by
 intro pins s σ H x v vl vu lo hi sl Q I rx hs pl pu h
 obtain⟨a,xs,rfl,hx,q⟩:=h
 cases rx
 obtain⟨its,r,ht,hz⟩:=I.tuple (hx.sq (K:=X.K))
 have hlen:its.toArray.size=xs.length:=by rw[ZX];exact r.length.symm
 exists "tuple", _,PyProof.Rows.slot_tuple_getitem.lookup,ht.typeIs
 by_cases hw:HT.sIx xs.length 0 lo=0/\HT.sIx xs.length xs.length hi=xs.length
 ·refine HT.q603 ht hs pl pu (by rw[hlen];exact hw.1) (by rw[hlen];exact hw.2) ⟨.ref a,H,I,rfl,q a H (Same.refl H) ?_⟩
  rw[cutV_all hw.1 hw.2]
  exact hx
 ·refine HT.q598 ht hs pl pu (by rw[hlen];exact hw) ?_ (by rw[hlen];exact hz)
  rw[hlen]
  refine⟨.ref s.heap.objs.size,_,I.laid (t':=s.toks) (o:=.frz { cls:=.type "tuple", data:=.seq ((its.toArray.toList.drop (HT.sIx xs.length 0 lo)).take (HT.sIx xs.length xs.length hi-HT.sIx xs.length 0 lo)).toArray } (.tup (cutV xs lo hi))) (fun b ob q=>ZF _ q) (ZG _) ?_,rfl,
   q _ _ (q15 (I.hok.fresh (ZG _)) _) ⟨_,q13,rfl,rfl⟩⟩
  exact⟨ZU _ rfl,ZR (q189 xs lo hi) hz,_,(r.drop (HT.sIx xs.length 0 lo)).take (HT.sIx xs.length xs.length hi-HT.sIx xs.length 0 lo),IsTup.new _ _⟩
theorem q236{x:V}:∀{xs:List V}{us:List Value},Vals xs us->xs.all flatV=true->us.countP (eqU x)=xs.countP fun y=>eqV y x
 | _,_,.nil,_=>rfl
 | y::xs,u::us,.cons r t,f=>by
  rw[all_cons,WL]at f
  rw[YT,YT,eqU_of r f.1,q236 t f.2]
inductive q604(K:Fg)(x:V)(xs:List V)(H:Hp)(Q:VK):Prop
 |mk(a ys v)(_:x = .ref a)(_:xs=[v])(_:SqT K H a ys)(_:flatV v=true)(_:ys.all flatV=true)(_:Q (.int (ys.countP fun y=>eqV y v:Nat)) H)
theorem q665:MtR X "tuple.count" (q604 X.K):=by
 intro pins s σ H x xs v us Q I rx rv h
 obtain⟨a,ys,y,rfl,rfl,ha,f1,f2,q⟩:=h
 cases rx
 obtain⟨u,rfl,ru⟩:=rv.one
 obtain⟨its,r,p,hz⟩:=I.tuple ha
 obtain⟨⟨cls,dd,data,sl⟩,ho,hc,n,hd⟩:=id p
 simp only at hc hd
 subst hc hd
 refine call_meets F.slot_tuple_count ⟨_,ho,rfl⟩ F.entry_tuple_count (F.args_tuple_count_2 _ _) (SeqAt.tuple_countAt a its.toArray n dd sl u (eqU y)) ⟨ho,fun z hz=>q398 ru f1 r f2 z (by simpa using hz),?_⟩
 refine⟨.int (ys.countP fun y'=>eqV y' y:Nat),H,I.tok _,?_,q⟩
 rw[<- q236 r f2]
 exact⟨_,rfl⟩
def tBMF(T:String)(r:V->List V->Hp->VK->Prop)(to:TE)(t:TA):TE:=fun σ H Q=>to σ H fun x H1=>(∃ a o u,x = .ref a/\H1 a=some (.frz o u)/\o.cls = .type T/\o.dict=none)/\t σ H1 fun xs H2=>r x xs H2 Q
variable{o e:Expr}{es:List Expr}{to:TE}{t:TA}{name:Str}{apos cpos:Pos}{T id:String}{r:V->List V->Hp->VK->Prop}
theorem pe_bmF(pa:PlainAttrs T)(slot:Slot T name id)(hty:typeOf (.builtin id)=pure (.type "method_descriptor")) (hm:MtR X id r) (ho:PE X o to) (ha:PA X (e::es) t)
  (hbase:attributeBase o name X.env (eval o X.env)=eval o X.env:=by rfl)
  (hfew:((backTo cpos (starEach (e::es) X.env)).all (fun x=>!x.1)&&(backToKw cpos (keywordEach [] X.env)).all (fun x=>x.1.isSome)
   && decide ((e::es).length+([]:List Keyword).length+(if([]:List Keyword).isEmpty then 0 else 1)<30))=true:=by rfl)
  (hline:(apos.endLine==cpos.line)=true:=by rfl) (hs:starEach (e::es) X.env=(false,eval e X.env)::starEach es X.env:=by rfl) (hplain:(backTo cpos (starEach es X.env)).any (·.1)=false:=by rfl) :
  PE X (.Call (.Attribute o name apos) (e::es) [] cpos) (tBMF T r to t):=by
 intro pins s σ H Q I h
 refine wpAny_Call_method_late hbase hfew hline rfl (thn (ho pins s σ H _ I h) fun v s1 ⟨x,H1,I1,r1,ty,q1⟩=>?_)
 obtain⟨a,ob,u,rfl,hH,hc,hd⟩:=ty
 cases r1
 obtain⟨hg,_⟩:=I1.hok a _ hH
 exists T,id,pa,slot,hty,⟨ob,hg,hc⟩,fun b eb=>?_
 ·cases eb
  exact⟨ob,hg,hd⟩
 have hA:=ha cpos pins s1 σ H1 _ I1 q1
 rw[hs]at hA ⊢
 refine Calls.callWith_builtin (by show(false||(backTo cpos (starEach es X.env)).any (·.1))=false;rw[hplain] <;> rfl) (Calls.evalArgs_plain ?_)
 exact thn hA fun us s2 ⟨vs,H2,I2,r2,q2⟩=>hm pins s2 σ H2 (.ref a) vs (.ref a) us Q I2 rfl r2 q2
end
theorem q666(bs:List Bool):((List.range bs.length).all fun i=>bs.getD i true)=bs.all id:=by
 rw[Bool.eq_iff_iff,all_eq_true,all_eq_true]
 constructor
 ·intro h b hb
  obtain⟨i,hi,rfl⟩:=List.mem_iff_getElem.mp hb
  have:=h i (List.mem_range.mpr hi)
  simpa [YO,hi] using this
 ·intro h i hi
  have hi':=List.mem_range.mp hi
  have:=h bs[i] (getElem_mem hi')
  simpa [YO,hi'] using this
inductive q667(K:Fg)(xs:List V)(H:Hp)(Q:VK):Prop
 |mk(p:Addr)(bs:List Bool)(_:xs=[.ref p])(_:SqL K H p (bs.map V.bl))(_:Q (.bl (bs.all id)) H)
theorem call_all(hc:X.calm=true):CallR X (.builtin "all") (q667 X.K):=by
 intro pins s σ H xs us Q I r h
 obtain⟨p,bs,rfl,hq,q⟩:=h
 obtain⟨u,rfl,rx⟩:=vals1 r
 cases rx
 obtain⟨its,r',pl,hz⟩:=I.list hq
 have hl:=r'.length
 rw[ZN]at hl
 obtain⟨o,n,ho,_⟩:=id pl
 have hlt:p<s.heap.objs.size:=ZW ho
 refine call_all_walk (wpAny_pyIter_list pl.isList ⟨s.heap.objs.size,_,_,_,_,_,fun i=>bs.getD i true,rfl,Walks.list (A:=X.A.in1) (show X.A.in1.handled=none from I.ok.hd hc) s.heap.objs.size p (WH hlt) its.toArray,⟨⟨_,ZU _ rfl,rfl,rfl⟩,pl.isList.at fun o e=>ZF _ e⟩,?_,?_⟩)
 ·intro i v s' Q' E' hv hQ'
  have hv':its[i]? = some v:=by simpa using hv
  have hi:i<bs.length:=by rw[hl];exact(List.getElem?_eq_some_iff.mp hv').1
  obtain⟨u',hu',ru'⟩:=r'.get (i:=i) (x:=.bl bs[i]) (by rw[WN,ZP hi] <;> rfl)
  rw[hv']at hu'
  cases hu'
  cases ru'
  refine wpAny_truthy_bool ?_
  have e:bs.getD i true=bs[i]:=by simp[YO,hi]
  rw[<- e]
  exact hQ'
 ·intro h' tk hk
  refine⟨.bl (bs.all id),H,I.kept (t':=tk) fun b ob e=>hk b ob (by simp;exact WH (ZW e)) (ZF _ e),?_,q⟩
  show Value.bool _=Value.bool _
  congr 1
  rw[ZX,<- hl]
  exact q666 bs
inductive Rop_neL(K:Fg)(x:V)(y:V)(H:Hp)(Q:VK):Prop
 |mk(a b:Addr)(ns ms:List Int)(_:x = .ref a)(_:y = .ref b)(_:SqL K H a (ns.map V.int))(_:SqL K H b (ms.map V.int))(_:Q (.bl (!decide (ns=ms))) H)
theorem q550(hu:X.A.units+64<cLine):OpR X (compareOp .NotEq) (Rop_neL X.K):=by
 intro pins s σ H x y v u Q I rx ry h
 obtain⟨a,b,ns,ms,rfl,rfl,ha,hb,q⟩:=h
 cases rx
 cases ry
 obtain⟨its,r1,p1,_⟩:=I.list ha
 obtain⟨its2,r2,p2,_⟩:=I.list hb
 exact PySem.W.ke_ne_ints p1.isList p2.isList (q58 r1) (q58 r2) hu ⟨.bl _,H,I,rfl,q⟩
theorem q668(o:Obj)(f:Array Value->Array Value):(o.mapFields f).dict=o.dict:=by
 rcases o with ⟨c,d,dt,sl⟩
 cases dt <;> rfl
def ctxV:Addr:=111
def Ctx(cls:Value)(vs:Array Value):Prop:=cls ≠ .ref ctxV->vs[2]? = some .none
def Exc(n:Nat)(h:Heap)(x:Addr)(cls:Value)(dd:Option Addr)(fl:Value):Prop:=
 ∃(oe:Obj)(vs:Array Value)(T:Addr)(oT:Obj)(ts:Array Value),(h.get? x=some oe/\oe.cls=cls/\oe.dict=dd/\oe.data = .fields vs/\vs[1]? = some (.ref T)/\Ctx cls vs) /\
  (n<=T/\T≠x)/\h.get? T=some oT/\oT.data = .fields ts/\ts[3]? = some fl
structure Fly(n:Nat)(fs:List Addr)(x:Addr)(h h':Heap):Prop where
 keep:∀ b o,h.get? b=some o->b<n->b≠x->b ∉ fs->h'.get? b=some o
 slot:∀ b o,h.get? b=some o->b∈fs -> ∃ sl,h'.get? b=some { o with slots:=sl }
 there:∀ b o,h.get? b=some o -> ∃ o',h'.get? b=some o'
section
variable {n:Nat} {fs:List Addr} {x y:Addr} {h h1 h':Heap}
theorem Fly.trans(a:Fly n fs x h h1)(b:Fly n fs x h1 h'):Fly n fs x h h':=by
 refine⟨fun c o q l m k=>b.keep c o (a.keep c o q l m k) l m k,fun c o q k=>?_,fun c o q=>?_⟩
 ·obtain⟨sl,e⟩:=a.slot c o q k
  obtain⟨sl',e'⟩:=b.slot c _ e k
  exact⟨sl',e'⟩
 ·obtain⟨o',e⟩:=a.there c o q
  exact b.there c o' e
theorem Fly.push(o:Obj):Fly n fs x h (h.push o):=
 ⟨fun _ _ q _ _ _=>ZF _ q,fun _ ob q _=>⟨ob.slots,ZF _ q⟩,fun _ ob q=>⟨ob,ZF _ q⟩⟩
theorem Fly.upd{o:Obj}(f:Array Value->Array Value)(ho:h.get? y=some o)(hd:o.data = .fields vs)(hy:y=x\/n<=y)(hf:y ∉ fs):Fly n fs x h (h.update y (Obj.mapFields f)):=by
 have oth:∀ b ob,b≠y->h.get? b=some ob->(h.update y (Obj.mapFields f)).get? b=some ob:=fun b ob m q=>(YV _ _ (Ne.symm m)).trans q
 refine⟨fun b ob q l m _=>oth b ob (fun z=>?_) q,fun b ob q k=>⟨ob.slots,oth b ob (fun z=>hf (z▸k)) q⟩,fun b ob q=>?_⟩
 ·rcases hy with e | e
  ·exact m (z.trans e)
  ·exact absurd (WC l e) (by rw[z];exact Nat.lt_irrefl _)
 ·by_cases z:b=y
  ·subst z
   exact⟨_,Heap.get?_update_self _ ho (Obj.isFreed_of_fields (Obj.data_mapFields hd f))⟩
  ·exact⟨ob,oth b ob z q⟩
theorem Fly.slots(a:Heap.SlotsOnly fs h h'):Fly n fs x h h':=by
 refine⟨fun b o q _ _ k=>(a.2.1 b k).trans q,fun b o q _=>a.2.2 b o q,fun b o q=>?_⟩
 obtain⟨sl,e⟩:=a.2.2 b o q
 exact⟨_,e⟩
end
section
variable {M:Model} {A:Around} {E:VS} {s:Shared} {base:Heap} {env:Env} {outer:List Env} {L x:Addr} {n:Nat} {Q:Unit->Shared->Prop}
theorem q551{oe:Obj}{h:Heap}(hl:h.FunFrames base l)(he:h.get? x=some oe)(hd:oe.data = .fields vs):x ∉ frs l:=fun z=>by
 obtain⟨_,o,ho,nf⟩:=hl.mem z
 rw[he]at ho
 cases ho
 exact nf vs hd
theorem q450{oe:Obj}{vs:Array Value}{head:Value}{b:Bool}(hfr:A.frames=some (env::outer))(hl:s.heap.FunFrames base (env::outer))(hf:env.frame=some L)
  (he:s.heap.get? x=some oe) (hd:oe.data = .fields vs) (hz:1<vs.size) (hc:Ctx oe.cls vs) (hn:n<=s.heap.objs.size)
  (h:∀ h',Fly n (frs (env::outer)) x s.heap h'->Exc n h' x oe.cls oe.dict (rawInt L)->Q () { s with heap:=h' }) :
  wpAny M A (frameOf env >>= fun a=>entryPlaceOf L b >>= fun pl=>EntryCells.newEntry head a .none (rawInt L) .none pl >>= fun t=>setField (.ref x) 1 t) Q E s:=by
 have nx:=q551 hl he hd
 refine ZC (wpAny_frameOf_fun hfr hl hf fun h₁ a1=>ZC (wpAny_entryPlaceOf fun pl hp=>?_))
 unfold EntryCells.newEntry newFields
 refine ZC (YF ?_ (hp.sizeOk5 _ _ _ _ _))
 have e1:h₁.get? x=some oe:=(a1.2.1 x nx).trans he
 have hs:h₁.objs.size=s.heap.objs.size:=a1.1
 generalize hto:({ cls:=.type "traceback", dict:=none,data:=.fields ([head,.ref L,.none,rawInt L,.none]++(if pl.isEmpty then List.replicate 6 Value.none else pl)).toArray }:Obj)=tb
 have e2:=ZF (h:=h₁) tb e1
 refine wpAny_setField e2 hd hz ?_
 have ne:h₁.objs.size≠x:=Nat.ne_of_gt (ZW e1)
 have hd3:=Obj.data_mapFields hd (·.setIfInBounds 1 (Value.ref h₁.objs.size))
 have e3:=Heap.get?_update_self (Obj.mapFields (·.setIfInBounds 1 (Value.ref h₁.objs.size))) e2 (Obj.isFreed_of_fields hd3)
 refine h _ ((Fly.slots a1).trans ((Fly.push tb).trans (.upd _ e2 hd (.inl rfl) nx))) ⟨_,_,h₁.objs.size,tb,_,⟨e3,Obj.cls_mapFields _ _,q668 _ _,hd3,by simp[hz],fun z=>(Array.getElem?_setIfInBounds_ne {}).trans (hc z)⟩,⟨by rw[hs];exact hn,ne⟩,?_,by rw[<- hto],?_⟩
 ·refine(YV _ _ (Ne.symm ne)).trans (ZU h₁ ?_)
  rw[<- hto]
  rfl
 ·first | (simp;done) | (rcases hp with rfl | ⟨_,_,_,_,_,_,_,rfl⟩ <;> simp)
theorem q605{oe:Obj}(hfr:A.frames=some (env::outer))(hl:s.heap.FunFrames base (env::outer))(hf:env.frame=some L)
  (he:s.heap.get? x=some oe) (hd:oe.data = .fields vs) (h1:vs[1]? = some .none) (h2:Ctx oe.cls vs) (hn:n<=s.heap.objs.size)
  (h:∀ h',Fly n (frs (env::outer)) x s.heap h'->Exc n h' x oe.cls oe.dict (rawInt L)->Q () { s with heap:=h' }):wpAny M A (noteFrame (.ref x) env) Q E s:=by
 unfold noteFrame
 simp only[hf]
 refine ZC (wpAny_field he hd h1 ?_)
 rw[ZI {}]
 exact q450 hfr hl hf he hd (Array.getElem?_eq_some_iff.mp h1).1 h2 hn h
theorem q451(hfr:A.frames=some (env::outer))(hl:s.heap.FunFrames base (env::outer))(hf:env.frame=some L)(ex:Exc n s.heap x cls dd .none)
  (h:∀ h',Fly n (frs (env::outer)) x s.heap h'->Exc n h' x cls dd (rawInt L)->Q () { s with heap:=h' }):wpAny M A (noteFrame (.ref x) env) Q E s:=by
 obtain⟨oe,vs,T,oT,ts,⟨he,rfl,rfl,hd,h1,hc⟩,⟨nT,Tx⟩,hT,hdT,h3⟩:=ex
 unfold noteFrame
 simp only[hf]
 refine ZC (wpAny_field he hd h1 ?_)
 rw[ZJ (show(Value.ref T != Value.none)=true from by simp)]
 refine ZC (wpAny_field hT hdT h3 ?_)
 rw[ZI (show ¬((Value.none==rawInt L)=true)from by simp[rawInt])]
 refine ZC (wpAny_setField hT hdT (Array.getElem?_eq_some_iff.mp h3).1 ?_)
 have tf:=q551 hl hT hdT
 have fl:Fly n (frs (env::outer)) x s.heap (s.heap.update T (Obj.mapFields (·.setIfInBounds 3 Value.none))):=.upd _ hT hdT (.inr nT) tf
 have oth:∀ c,c≠T->(s.heap.update T (Obj.mapFields (·.setIfInBounds 3 Value.none))).get? c=s.heap.get? c:=fun c m=>YV _ _ (Ne.symm m)
 refine q450 hfr (hl.of_keeps fun c o q nf=>⟨o,(oth c fun z=>?_).trans q,rfl⟩) hf ((oth x (Ne.symm Tx)).trans he) hd (Array.getElem?_eq_some_iff.mp h1).1 hc ?_ fun h' f e=>h h' (fl.trans f) e
 ·rw[z,hT]at q
  cases q
  exact nf ts hdT
 ·have l1:=ZW hT
  rw[Heap.size_update]
  exact ZR nT (Nat.le_of_lt l1)
theorem q669(to:Option Addr)(hl:∀ T oT ts,s.heap.get? T=some oT->oT.data = .fields ts->T ∉ fs)(ex:Exc n s.heap x cls dd fl)
  (h:∀ h',Fly n fs x s.heap h'->Exc n h' x cls dd (to.elim .none fun f=>rawInt f)->Q () { s with heap:=h' }):wpAny M A (setFlight (.ref x) to) Q E s:=by
 obtain⟨oe,vs,T,oT,ts,⟨he,rfl,rfl,hd,h1,hc⟩,⟨nT,Tx⟩,hT,hdT,h3⟩:=ex
 have h3':=(Array.getElem?_eq_some_iff.mp h3).1
 unfold setFlight
 refine ZC (wpAny_field he hd h1 ?_)
 rw[ZJ (show(Value.ref T != Value.none)=true from by simp)]
 refine wpAny_setField hT hdT h3' (h _ (.upd _ hT hdT (.inr nT) (hl T oT ts hT hdT)) ⟨oe,vs,T,_,_,⟨(YV _ _ Tx).trans he,rfl,rfl,hd,h1,hc⟩,⟨nT,Tx⟩,Heap.get?_update_self _ hT (Obj.isFreed_of_fields (Obj.data_mapFields hdT _)),Obj.data_mapFields hdT _,by simp[h3']⟩)
end
section
variable {P:Program} {w:World} {fs fs':List Addr} {H₀ H:Hp} {h₀ h h':Heap} {x:Addr} {n:Nat}
theorem Un.fly(u:Un fs [] H₀ H h₀ h)(f:Fly n fs' x h h')(hs:∀ b∈fs',b∈fs\/h₀.get? b=none)(hx:h₀.get? x=none)(hn:h₀.objs.size<=n):Un fs [] H₀ H h₀ h':=by
 have lt:∀ b o,h₀.get? b=some o->b<n:=fun b o q=>WC (ZW q) hn
 have nx:∀ b o,h₀.get? b=some o->b≠x:=fun b o q z=>by rw[z,hx]at q;cases q
 refine⟨fun b o q m k z=>f.keep b o (u.keep b o q m k z) (lt b o q) (nx b o q) (fun y=>(hs b y).elim k fun y'=>by rw[y']at q;cases q),fun b o q m k z=>?_,u.free,fun b o q k=>?_,u.tups,u.frzs,u.tbls⟩
 ·obtain⟨sl,e⟩:=u.slot b o q m k z
  by_cases y:b∈fs'
  ·obtain⟨sl',e'⟩:=f.slot b _ e y
   exact⟨sl',e'⟩
  ·exact⟨sl,f.keep b _ e (lt b o q) (nx b o q) y⟩
 ·obtain⟨o',e⟩:=u.there b o q k
  exact f.there b o' e
theorem HOk.fly(k:HOk P w H h)(f:Fly n fs' x h h')(hn:∀ b u,H b=some u->b<n)(hx:H x=none)(hf:∀ b∈fs',H b=none):HOk P w H h':=fun a o e=>by
 have kp:∀ b u,H b=some u -> ∀ ob,h.get? b=some ob->h'.get? b=some ob:=fun b u q ob hb=>f.keep b ob hb (hn b u q) (q24 q hx) fun z=>by rw[hf b z]at q;cases q
 refine(k a o e).stay (fun b u z q=>?_) (fun _ q=>q) fun _ _ q=>q
 rcases z with rfl | z
 ·exact kp _ _ e u q
 ·exact kp _ _ z u q
end
structure Out(P:Program)(w:World)(outer:List Env)(H:Hp)(s:Shared)(x:Addr)(cls:Value)(dd:Option Addr)(n:Nat)(H':Hp)(fl:Value)(s':Shared):Prop where
 os:s'.os=s.os
 bare:AllBare s'.gens
 un:Un (frs outer) [] H H' s.heap s'.heap
 hok:HOk P w H' s'.heap
 exc:Exc n s'.heap x cls dd fl
 free:H' x=none
 new:s.heap.get? x=none
 old:s.heap.objs.size<=n
 low:∀ b u,H' b=some u->b<n
def CX1(P:Program)(w:World):CXT:=fun outer H s E e s'=>∃(x:Addr)(cls:Value)(dd:Option Addr)(n:Nat)(H':Hp),e = .ref x/\Out P w outer H s x cls dd n H' .none s'/\E cls dd H'
section
variable {pins:List (Addr×Obj)} {σ:St} {H H':Hp} {s s':Shared} {x:Addr} {cls fl:Value} {dd:Option Addr} {n:Nat}
structure Away(X:Cx)(pins:List (Addr×Obj))(σ:St)(H:Hp)(s:Shared)(x:Addr)(cls:Value)(dd:Option Addr)(n:Nat)(fl:Value):Prop where
 inv:Inv X pins σ H s
 exc:Exc n s.heap x cls dd fl
 free:H x=none
 new:X.s₀.heap.get? x=none
 old:X.s₀.heap.objs.size<=n
 low:∀ b u,H b=some u->b<n
 loc:X.env.locals<n
end
theorem leaves{X:Cx}{s:Shared}{M:Model}(I:Inv X pins σ H s)(hex:X.ex=[])(hst:X.stack=X.env::X.outer)(hfm:X.env.frame=some X.env.locals)
  (note:∀ Q:Unit->Shared->Prop,(∀ cls dd n h',Fly n (frs X.stack) x s.heap h'->Exc n h' x cls dd (rawInt X.env.locals)->X.s₀.heap.objs.size<=n->(∀ b u,H b=some u->b<n)->E cls dd H->Q () { s with heap:=h' }) ->
   wpAny M X.A (noteFrame (.ref x) X.env) Q (fun _ _=>False) s)
  (hx:H x=none) (nx:X.s₀.heap.get? x=none) :
  wpAny M X.A (leaving X.env (.ref x)) (fun _ s''=>CX1 X.prog X.w X.outer X.H₀ X.s₀ E (.ref x) s'') (fun e s''=>CX1 X.prog X.w X.outer X.H₀ X.s₀ E e s'') s:=by
 unfold leaving
 refine ZC (WW (note _ fun cls dd n h' f e ho hl q=>?_) (fun _ _ z=>z) fun _ _ z=>z.elim)
 have fsm:∀ b∈frs X.stack,H b=none:=I.stkFree
 have hun:∀ h'',Fly n (frs X.stack) x s.heap h''->Un (frs X.outer) [] X.H₀ H X.s₀.heap h'':=fun h'' f2=>by
  have u:=I.base
  rw[hex]at u
  refine u.fly f2 (fun b hb=>?_) nx ho
  rcases List.mem_cons.mp (I.stkSub b hb)with z | z
  ·right
   rw[z]
   exact Heap.get?_none_of_le I.ok.above
  ·exact .inl z
 have nr:∀ T oT ts,h'.get? T=some oT->oT.data = .fields ts->T ∉ frs X.stack:=fun T oT ts h1 h2 hb=>by
  obtain⟨_,o,h3,h4⟩:=I.stack.mem hb
  obtain⟨sl,h5⟩:=f.slot T o h3 hb
  rw[h5]at h1
  cases h1
  exact h4 ts h2
 refine q669 none nr e fun h'' f2 e2=>?_
 have f3:=f.trans f2
 exact⟨x,cls,dd,n,H,rfl,⟨I.os,I.bare,hun h'' f3,I.hok.fly f3 hl hx fsm,e2,hx,nx,ho,hl⟩,q⟩
theorem ObjOk.some{h:Heap}(x:ObjOk P w H h a o):∃ ob,h.get? a=some ob:=by
 cases o with
 | lst xs=>obtain⟨_,_,_,_,e⟩:=x;exact⟨_,e⟩
 | tup xs=>obtain⟨_,_,_,ob,e,_⟩:=x;exact⟨ob,e⟩
 | dK kvs=>obtain⟨_,_,_,_,ob,_,_,e,_⟩:=x;exact⟨ob,e⟩
 | dT kvs=>obtain⟨_,_,_,_,ob,_,_,e,_⟩:=x;exact⟨ob,e⟩
 | set S n=>obtain⟨ob,_,_,_,e,_⟩:=x;exact⟨ob,e⟩
 | ins C dx fs=>obtain⟨_,_,_,e,_⟩:=x;exact⟨_,e⟩
 | own y=>obtain⟨ob,e⟩:=x;exact⟨ob,e⟩
 | xd fs=>obtain⟨_,⟨ob,_,_,e,_⟩,_⟩:=x;exact⟨ob,e⟩
 | rng lo hi=>obtain⟨_,_,_,e⟩:=x;exact⟨_,e⟩
 | frz ob u=>obtain⟨e,_⟩:=x;exact⟨ob,e⟩
 | tbl ps=>exact⟨_,x⟩
 | met f y=>exact⟨_,x⟩
 | ext φ=>obtain⟨_,e,_⟩:=x;exact e
theorem Inv.newFree{s:Shared}(I:Inv X pins σ H s)(h:s.heap.get? a=none):H a=none:=by
 cases q:H a with
 | none=>rfl
 | some o=>
  obtain⟨ob,e⟩:=(I.hok a o q).some
  rw[h]at e
  cases e
theorem Inv.newOld{X:Cx}{s:Shared}(I:Inv X pins σ H s)(hex:X.ex=[])(h:s.heap.get? a=none):X.s₀.heap.get? a=none:=by
 cases q:X.s₀.heap.get? a with
 | none=>rfl
 | some o=>
  obtain⟨ob,e⟩:=I.base.there a o q (by rw[hex];simp)
  rw[h]at e
  cases e
theorem own_exc{K:Fg}(KX:K.In h)(m:mg x=some (.ref C))(q:PySem.W.excIn K C tl nw=true):OwnCls x C tl nw mg h:=by
 exists m
 unfold PySem.W.excIn at q
 split at q
 case h_2=>cases q
 rename_i dd cd sl lk
 split at q
 case h_2=>cases q
 rename_i c2 bm k0 k1 k2 k3 nm k5 hm hs
 simp only[WL,beq_iff_eq,Bool.not_eq_true']at q
 obtain⟨⟨⟨⟨⟨q1,q2⟩,q3⟩,q4⟩,q5⟩,q6⟩:=q
 subst q1 q2
 obtain⟨a1,a2,a3,a4,a5,a6,a7,a8,a9,a10,a11⟩:=cd
 simp only at hm q3 q5 q6
 subst hm q3
 have z:sl = #[k0,k1,k2,k3,some (.builtin nm),k5]:=Array.ext' hs
 subst z
 exact⟨_,a4,_,_,_,_,_,_,_,_,_,_,_,_,_,_,_,KX _ _ lk,.of_isNs (PySem.W.isNs_of_in KX q5),PySem.W.nsMap_none_of_in KX q5 q6,PySem.W.tail_of_in KX q4⟩
structure Lv(X:Cx)(E:XK):Prop where
 xe:X.xe=fun e s'=>wpAny (model X.prog X.w) X.A (leaving X.env e) (fun _ s''=>CX1 X.prog X.w X.outer X.H₀ X.s₀ E e s'') (fun e' s''=>CX1 X.prog X.w X.outer X.H₀ X.s₀ E e' s'') s'
 ex:X.ex=[]
 stack:X.stack=X.env::X.outer
 frame:X.env.frame=some X.env.locals
 calm:X.calm=true
section
variable {E:XK} {x:Str} {C:Addr} {e:Expr} {es:List Expr} {t:TA} {np cpos pos:Pos} {B nw it:String} {tl:List Value}
def tRaise(C:Addr)(E:XK)(t:TA):TS:=fun _ σ H=>t σ H fun vs H1=>vs.length<=sizeLine/\E (.ref C) none H1
theorem ps_raise(l:Lv X E)(F:ExcBaseFacts B nw it tl)(O:OwnCls x C tl nw X.mg X.base)(hg:Gl X x)(ha:PA X (e::es) t)(hdb:(x==("__debug__" : Str))=false:=by decide)
  (he:starEach (e::es) X.env=(false,eval e X.env)::starEach es X.env:=by rfl) (hpl:(backTo cpos (starEach es X.env)).any (·.1)=false:=by rfl) :
  PS X (.Raise (some (.Call (.Name x np) (e::es) [] cpos)) none pos) (tRaise C E t):=by
 intro pins s σ H D I h
 obtain⟨bm,N,nm,q,bs,hdct,sn,sub,ab,col,dd,k0,k1,k2,k3,k5,mN,hC,hN,hni,T⟩:=O.obj
 have hp2:(backTo cpos (starEach (e::es) X.env)).any (·.1)=false:=by
  rw[he]
  show(false||(backTo cpos (starEach es X.env)).any (·.1))=false
  rw[hpl]
  rfl
 refine wpAny_Raise_call_subT F (C:=C) (nm:=nm) (q:=q) (N:=N) (bs:=bs) (bm:=bm) (hdct:=hdct) (sn:=sn) (sub:=sub) (ab:=ab) (col:=col) (dd:=dd) (k0:=k0) (k1:=k1) (k2:=k2) (k3:=k3) (k5:=k5) (mN:=mN)
  (T.hasType F.hasBase) (I.ok.hd l.calm) hp2 hni (q232 I hg O.bound ⟨rfl,?_⟩ hdb)
 have h0:=ha cpos pins s σ H _ I h
 rw[he]at h0 ⊢
 refine Calls.evalArgs_plain (thn h0 fun us s2 ⟨vs,H1,I1,r,q1,q2⟩=>⟨rfl,?_,I1.bk _ _ hC,hN.keeps I1.bk,T.keeps I1.bk,fun h' ex hm=>?_⟩)
 ·show us.length<=sizeLine
  rw[<- r.length]
  exact q1
 ·have J:Inv X pins σ H1 { s2 with heap:=h' }:=I1.kept (t':=s2.toks) hm.keeps
  obtain⟨tp,hx,_,_⟩:=hm.there
  rw[l.xe]
  have st:=J.stack
  rw[l.stack]at st
  have hfr:=J.ok.frames
  rw[l.stack]at hfr
  refine leaves J l.ex l.stack l.frame (fun Q hQ=>?_) (I1.newFree hm.new) (I1.newOld l.ex hm.new)
  rw[l.stack]at hQ
  exact q605 (n:=h'.objs.size) hfr st l.frame hx rfl rfl (fun _=>rfl) (ZG _) fun h'' f ec=>hQ _ _ _ h'' f ec J.sz (fun b u z=>J.hok.lt z) q2
theorem pass1(l:Lv X E):q546 (CX1 X.prog X.w) X E:=by
 intro pins σ H s ev s' I h
 obtain⟨ex,cls,dd,n,H',rfl,O,q⟩:=h
 have J:Inv X pins σ H' s':=I.call' (ch:=[]) O.os O.un O.hok O.bare fun b z=>absurd z (by simp)
 rw[l.xe]
 have st:=J.stack
 rw[l.stack]at st
 have hfr:=J.ok.frames
 rw[l.stack]at hfr
 refine leaves J l.ex l.stack l.frame (fun Q hQ=>?_) O.free (I.newOld l.ex O.new)
 rw[l.stack]at hQ
 exact q451 hfr st l.frame O.exc fun h'' f ec=>hQ _ _ _ h'' f ec (ZR I.sz O.old) O.low q
end
def ExcO(x:Addr)(cls:Value)(dd:Option Addr):HO:=.ext fun h=>∃ o vs,h.get? x=some o/\o.cls=cls/\o.dict=dd/\o.data = .fields vs
theorem Exc.seen{n:Nat}(e:Exc n h x cls dd fl):ObjOk P w H h x (ExcO x cls dd):=by
 obtain⟨oe,vs,T,oT,ts,⟨he,h1,h2,h3,_⟩,_⟩:=e
 refine⟨⟨oe,vs,he,h1,h2,h3⟩,⟨oe,he⟩,fun h1 h2 ⟨o,us,z,r⟩ k=>⟨o,us,k o z,r⟩⟩
section
variable {P:Program} {w:World} {fs:List Addr} {H H':Hp} {h h':Heap} {x:Addr} {o:HO}
theorem Un.track(u:Un fs [] H H' h h')(hx:h.get? x=none)(hn:H x=none):Un fs [] H (upd H' x o) h h':=by
 have nx:∀ b ob,h.get? b=some ob->b≠x:=fun b ob q z=>by rw[z,hx]at q;cases q
 refine⟨u.keep,u.slot,fun b ob q m k=>?_,u.there,fun b xs q=>?_,fun b ob v q=>?_,fun b ps q=>?_⟩
 ·rw[q27 (nx b ob q)]
  exact u.free b ob q m k
 ·rw[q27 (q24 q hn)]
  exact u.tups b xs q
 ·rw[q27 (q24 q hn)]
  exact u.frzs b ob v q
 ·rw[q27 (q24 q hn)]
  exact u.tbls b ps q
theorem HOk.track(k:HOk P w H h)(hn:H x=none)(new:ObjOk P w (upd H x o) h x o):HOk P w (upd H x o) h:=fun b u e=>by
 by_cases hb:b=x
 ·subst hb
  rw[q13]at e
  cases e
  exact new
 ·rw[q27 hb]at e
  exact(k b u e).stay (fun c v _ q=>q) (fun c q=>by rw[q27 (q24 q hn)];exact q) fun c xs q=>by rw[q27 (q24 q hn)];exact q
end
noncomputable abbrev Cx.hand(X:Cx)(x:Addr):Cx:={ X with A:=X.A.mark (some (.ref x)),calm:=false,xe:=fun _ _=>False }
section
variable {pins:List (Addr×Obj)} {σ:St} {H:Hp} {s:Shared} {x:Addr}
theorem Cx.Ok.hand(ok:X.Ok):(X.hand x).Ok:=
 ⟨ok.mod,ok.kind,ok.glob,ok.blt,ok.above,ok.inj,ok.has,ok.cab,(fun z=>nomatch z),ok.frames,ok.stk,ok.exf,ok.bs,ok.bsz,ok.noex,ok.exfs,ok.funs,ok.frf⟩
theorem Inv.hand(I:Inv X pins σ H s):Inv (X.hand x) pins σ H s:=⟨I.ok.hand,I.os,I.bare,I.base,I.loc,I.cell,I.free,I.freeC,I.pin,I.hok,I.len⟩
theorem Inv.unhand(ok:X.Ok)(I:Inv (X.hand x) pins σ H s):Inv X pins σ H s:=⟨ok,I.os,I.bare,I.base,I.loc,I.cell,I.free,I.freeC,I.pin,I.hok,I.len⟩
theorem q401{i:Nat}(I:Inv X pins σ H s)(hN:X.N.Nodup)(hi:X.N[i]? = some n)(hk:X.env.scope.names.lookup n=some .local)
  (h:∀ s',Inv X pins (σ.set i none) H s'->Q () s'):wpAny M A (bindName X.env n .none >>= fun _=>unbindBehindTheSuite X.env n pos) Q E s:=by
 obtain⟨m,hn,hl⟩:=id I.loc
 have hiσ:i<σ.length:=by rw[I.len];exact(List.getElem?_eq_some_iff.mp hi).1
 have hcls:(X.env.scope.kind == .class||(X.env.scope.kind == .module&&X.env.locals != X.env.globals))=false:=by rw[I.ok.kind];rfl
 have ab:∀ b o,X.s₀.heap.get? b=some o->b≠X.env.locals:=fun b o e=>WH (WC (ZW e) I.ok.above)
 refine wpAny_nameGoes_keeps hk hn hcls fun h' v hn' hs=>h _ ⟨I.ok,I.os,I.bare,⟨fun b o e n hb hx=>?_,fun b o e n hb hx=>?_,I.base.free,fun b o e hx=>?_,I.base.tups,I.base.frzs,I.base.tbls⟩,⟨_,hn',fun j y v' e1 e2 e3=>?_⟩,fun y c e=>?_,I.free,I.freeC,fun p hp=>?_,fun b ob e=>?_,by simpa using I.len⟩
 ·exact(hs.2 b (ab b o e)).trans (I.base.keep b o e n hb hx)
 ·obtain⟨sl,e1⟩:=I.base.slot b o e n hb hx
  exact⟨sl,(hs.2 b (ab b o e)).trans e1⟩
 ·obtain⟨o',e1⟩:=I.base.there b o e hx
  exact⟨o',(hs.2 b (ab b o e)).trans e1⟩
 ·by_cases hj:j=i
  ·subst hj
   rw[getElem?_set_self hiσ]at e2
   cases e2
  ·rw[getElem?_set_ne (Ne.symm hj)]at e2
   obtain⟨u',r',q⟩:=hl j y v' e1 e2 e3
   exists u',r'
   rcases q with ⟨k,e⟩ | ⟨k,c,e,z⟩
   ·refine .inl ⟨k,?_⟩
    have:y≠n:=fun e=>hj (q394 hN e1 (e▸hi))
    simp[this,e]
   ·exact .inr ⟨k,c,e,z.sameBut hs (I.cne y c e)⟩
 ·obtain⟨w',z⟩:=I.cell y c e
  exact⟨w',z.sameBut hs (I.cne y c e)⟩
 ·obtain⟨e,n,ne,nf,d⟩:=I.pin p hp
  exact⟨(hs.2 p.1 ne).trans e,n,ne,nf,d⟩
 ·refine(I.hok b ob e).stay (fun c w' hc q=>(hs.2 c ?_).trans q) (fun _ q=>q) fun _ _ q=>q
  rintro rfl
  rcases hc with hc | hc
  ·rw[<- hc,I.free]at e
   cases e
  ·rw[I.free]at hc
   cases hc
end
section
variable{k i:Nat}{f C2:Addr}{fd:FuncData}{ps:List Str}{sp:Sp}{fx cx n:Str}{p p2 pos cpos epos hpos:Pos}{e:Expr}{es:List Expr}{t:TA}{b₀:Stmt}{suite:List Stmt}{u:TS}
theorem call_any(F:FnOk X.prog X.w X.K X.mg X.base (CX1 X.prog X.w) k f fd ps sp)(hr:Room k X.A)(hg:Gl X fx)(hm:X.mg fx=some (.ref f))
  (hk:PySem.W.keepIn X.K (.ref f)=true) (hb:Binds X.K fd ps []) (ha:PA X.nox (e::es) t) (I:Inv X pins σ H s) (h:t σ H fun vs H1=>sp vs H1 Q E)
  (hx:∀ H1 s1 ev s',Inv X pins σ H1 s1->CX1 X.prog X.w X.stack H1 s1 E ev s'->EX ev s') (hdb:(fx==("__debug__" : Str))=false:=by decide)
  (he:starEach (e::es) X.env=(false,eval e X.env)::starEach es X.env:=by rfl) (hpl:(backTo pos (starEach es X.env)).any (·.1)=false:=by rfl) :
  wpAny (model X.prog X.w) X.A (eval (.Call (.Name fx p) (e::es) [] pos) X.env) (EP X pins σ Q) EX s:=by
 refine wpAny_Call_Name_kw (q232 I hg hm ?_ hdb)
 refine PySem.W.callWith_K (h₀:=X.base) I.ok.mod.kin hk (WW (ha pos pins s σ H _ (I.wish _) h) (fun us s1 ⟨vs,H1,I1,r,q⟩=>⟨I1.unwish.kIn,?_⟩) fun _ _ z=>z.elim) he hpl
 have J:=I1.unwish
 have hl:us.length=ps.length:=by rw[<- r.length];exact F.len _ _ _ _ q
 have hb':BindsTo s1 fd ⟨us,[]⟩ (ps.zip us):=by
  have z:=hb s1 us J.kIn (by rw[append_nil];exact hl)
  rwa [append_nil]at z
 refine wpAny_call (codeAny_mono (F.run X.A X.stack s1 H1 ⟨us,[]⟩ us vs Q E hr J.env0 hb' r q) fun r s' hq=>?_)
 cases r with
 | error ev=>exact hx H1 s1 ev s' J hq
 | ok fl=>
  cases fl with
  | ret v=>exact J.after hq
  | next=>exact False.elim hq
  | brk=>exact False.elim hq
  | cont=>exact False.elim hq
noncomputable def tTry(K:Fg)(sp:Sp)(C2:Addr)(i:Nat)(t:TA)(u:TS):TS:=fun D σ H=>t σ H fun vs H1=>sp vs H1 (fun _ H2=>D.nx σ H2) fun cls dd H2=>
 PySem.W.exmOne K cls (.ref C2)=some true /\ ∀ x,H2 x=none->u { nx:=fun σ' H'=>D.nx (σ'.set i none) H',rt:=D.rt,bk:=fun σ' H'=>D.bk (σ'.set i none) H',ct:=fun σ' H'=>D.ct (σ'.set i none) H' } (σ.set i (some (.ref x))) (upd H2 x (ExcO x cls dd))
theorem ps_try(hst:X.stack=X.env::X.outer)(hfm:X.env.frame=some X.env.locals)(F:FnOk X.prog X.w X.K X.mg X.base (CX1 X.prog X.w) k f fd ps sp)(hr:Room k X.A)(hg:Gl X fx)(hm:X.mg fx=some (.ref f))
  (hk:PySem.W.keepIn X.K (.ref f)=true) (hb:Binds X.K fd ps []) (ha:PA X.nox (e::es) t) (hgc:Gl X cx) (hmc:X.mg cx=some (.ref C2)) (hN:X.N.Nodup) (hi:X.N[i]? = some n) (hkn:X.env.scope.names.lookup n=some .local)
  (hu:∀ x,PSs (X.hand x) (b₀::suite) u) (hdb:(fx==("__debug__" : Str))=false:=by decide) (hdc:(cx==("__debug__" : Str))=false:=by decide)
  (he:starEach (e::es) X.env=(false,eval e X.env)::starEach es X.env:=by rfl) (hpl:(backTo cpos (starEach es X.env)).any (·.1)=false:=by rfl)
  (hsw:swapsWith (.Call (.Name fx p) (e::es) [] cpos) none epos.line X.env=pure false:=by rfl) :
  PS X (.Try [.Expr (.Call (.Name fx p) (e::es) [] cpos) epos] [.ExceptHandler (some (.Name cx p2)) (some n) (b₀::suite) hpos] [] [] pos) (tTry X.K sp C2 i t u):=by
 intro pins s σ H D I h
 refine wpAny_Try_except (wpAny_execs_cons (wpAny_Expr_any (WW (call_any (EX:=fun ev s1=>_) F hr hg hm hk hb ha I h (fun H1 s1 ev s' I1 hx=>?exc) hdb he hpl) (fun v s1 ⟨xv,H1,I1,r1,q1⟩=>?nrm) fun _ _ z=>z) I.quiet hsw))
 case nrm=>exact wpAny_execs_nil (wpAny_execs_nil ⟨σ,H1,I1,q1⟩)
 case exc=>
  obtain⟨x,cls,dd,n1,H2,rfl,O,hm1,hq⟩:=hx
  have J1:Inv X pins σ H2 s':=I1.call' (ch:=[]) O.os O.un O.hok O.bare fun b z=>absurd z (by simp)
  have st:=J1.stack
  rw[hst]at st
  have hfr:=J1.ok.frames
  rw[hst]at hfr
  have nr:∀ h',Fly n1 (frs X.stack) x s'.heap h' -> ∀ T oT ts,h'.get? T=some oT->oT.data = .fields ts->T ∉ frs X.stack:=fun h' f T oT ts h1 h2 hb=>by
   obtain⟨_,o,h3,h4⟩:=J1.stack.mem hb
   obtain⟨sl,h5⟩:=f.slot T o h3 hb
   rw[h5]at h1
   cases h1
   exact h4 ts h2
  have later:∀(h':Heap)(tk:Nat),Fly n1 (frs X.stack) x s'.heap h'->Inv X pins σ H2 { s' with heap:=h',toks:=tk }:=fun h' tk f=>
   I1.call' (s':={ s' with heap:=h',toks:=tk }) (ch:=[]) O.os (O.un.fly f (fun b hb=>.inl hb) O.new O.old) (O.hok.fly f O.low O.free J1.stkFree) O.bare fun b z=>absurd z (by simp)
  refine q451 hfr st hfm O.exc fun h1 f1 e1=>?_
  rw[<- hst]at f1
  refine q669 none (nr h1 f1) e1 fun h2 f2 e2=>?_
  have f12:=f1.trans f2
  have J2:=later h2 s'.toks f12
  refine wpAny_handleBy_cons (codeAny_handlers_test ?_) (by intro q;cases q)
  have J2h:Inv (X.hand x) pins σ H2 { s' with heap:=h2,toks:=s'.toks }:=J2.hand
  refine q232 J2h hgc hmc ?_ hdc
  have LT:PySem.W.Looks (model X.prog X.w) h2 (typeOf (.ref x)) cls:=by
   obtain⟨oe,vs,T,oT,ts,⟨z1,z2,_⟩,_⟩:=e2
   rw[<- z2]
   exact(PySem.W.Looks.ld z1).andThen .now
  refine(PySem.W.exm_one J2.kIn LT hm1).here ?_
  refine codeAny_handlers_suite_as (q669 none (nr h2 f12) e2 fun h3 f3 e3=>?_)
  have f13:=f12.trans f3
  have J3:Inv X pins σ (upd H2 x (ExcO x cls dd)) { s' with heap:=h3 }:=
   I1.call' (s':={ s' with heap:=h3 }) (ch:=[]) O.os ((O.un.fly f13 (fun b hb=>.inl hb) O.new O.old).track O.new (I1.newFree O.new)) ((O.hok.fly f13 O.low O.free J1.stkFree).track O.free e3.seen) O.bare fun b z=>absurd z (by simp)
  refine q199 (X:=X.hand x) J3.hand hN hi (.inl hkn) (v:=.ref x) rfl (fun s4 J4=>?_) (.inr hkn)
  refine WW (hu x pins s4 _ _ _ J4 (hq x O.free)) (fun fl s5 h5=>?_) fun _ _ z=>z.elim
  cases fl with
  | next=>
   obtain⟨σ',H',J5,q5⟩:=h5
   exact q401 (J5.unhand I.ok) hN hi hkn fun s6 J6=>⟨_,H',J6,q5⟩
  | brk=>
   obtain⟨σ',H',J5,q5⟩:=h5
   exact q401 (J5.unhand I.ok) hN hi hkn fun s6 J6=>⟨_,H',J6,q5⟩
  | cont=>
   obtain⟨σ',H',J5,q5⟩:=h5
   exact q401 (J5.unhand I.ok) hN hi hkn fun s6 J6=>⟨_,H',J6,q5⟩
  | ret v=>
   obtain⟨xv,σ',H',J5,r5,q5⟩:=h5
   exact q401 (J5.unhand I.ok) hN hi hkn fun s6 J6=>⟨xv,_,H',J6,r5,q5⟩
end
structure ECls(K:Fg)(C:Addr):Prop where
 ga:PySem.W.findIn K (.ref C) "__getattribute__" = some (some (.builtin "BaseException.__getattribute__"))
 gh:PySem.W.findIn K (.ref C) "__getattr__" = some none
 sb:PySem.W.subIn K (.ref C) (.type "BaseException")=some true
 cl:PySem.W.isClsIn K C=true
 fi:PySem.W.findIn K (.ref C) "__class__" = some (some (.builtin "object.__class__"))
 sp:PySem.W.specialIn K (.builtin "object.__class__") "__get__" = some (some (.builtin "getset_descriptor.__get__"))
 tk:PySem.W.takesIn K (.builtin "object.__class__")=some true
 mr:PySem.W.mroIn K C (.type "object")=some true
section
variable {prog:Program} {w:World} {A:Around} {E:VS} {s:Shared} {K:Fg} {x C:Addr} {ox:Obj} {od:Option Obj}
theorem q670(c:ECls K C):PySem.W.findObj K C od "__class__" = some (.bind (.builtin "getset_descriptor.__get__") (.builtin "object.__class__")):=by
 obtain⟨cd,hcd⟩:=Option.isSome_iff_exists.mp (show(PySem.W.clsIn K C).isSome=true from c.cl)
 unfold PySem.W.findObj
 rw[hcd,Option.bind_some,c.fi,Option.bind_some]
 simp[c.sp,c.tk]
theorem q671(c:ECls K C)(X:K.In s.heap)(I:PySem.W.InstAt s.heap x ox C od)(q:Q () s):wpAny M A (checkBuiltinCall "BaseException.__getattribute__" ⟨[.ref x,nv],[]⟩) Q E s:=by
 have k1:builtinKind "BaseException.__getattribute__" = some .slot:=by decide +kernel
 have k2:splitId "BaseException.__getattribute__" = some ("BaseException", "__getattribute__"):=by decide +kernel
 have k3:=F.args_bexc_ga (.ref x) nv
 have L:PySem.W.Looks M s.heap (isInstance (.ref x) (.type "BaseException")) true:=(I.type (M:=M)).andThen (PySem.W.looks_subIn X c.sb)
 obtain⟨hh,g,d,t,os⟩:=s
 simp only[checkBuiltinCall,k1,k2]
 refine ZC (L.at ?_)
 repeat (first | assumption | wp_step)
theorem exc_get(c:ECls K C)(X:K.In s.heap)(I:PySem.W.InstAt s.heap x ox C od)(q:Q (.done (.ret (.ref C))) s) :
  wpAny (model prog w) A (Builtin.«object.__getattribute__» ⟨[.ref x,.str "__class__" tok],[]⟩) Q E s:=by
 have L0:=I.type (M:=model prog w)
 have L1:=PySem.W.looks_find (M:=model prog w) X I (q670 (od:=od) c)
 have cg:∀(A:Around)(R:Result->Shared->Prop),R (.ok (.ret (.ref C))) s->codeAny (model prog w) A (.call (.builtin "getset_descriptor.__get__") ⟨[.builtin "object.__class__", .ref x,.ref C],[]⟩) R s:=fun A R r=>PySem.W.class_get X I c.mr r
 obtain⟨hh,g,d,t,os⟩:=s
 repeat (any_goals (first | assumption | with_reducible refine L0.at ?_ | with_reducible refine L1.at ?_ | wp_step))
 refine cg _ _ ?_
 repeat (any_goals (first | assumption | wp_step))
theorem q672(c:ECls K C)(X:K.In s.heap)(I:PySem.W.InstAt s.heap x ox C od)(q:Q (some (.ref C)) { s with toks:=s.toks+1 }):wpAny (model prog w) A (getAttr? (.ref x) "__class__") Q E s:=by
 have L0:=I.type (M:=model prog w)
 have L1:=PySem.W.looks_findIn (M:=model prog w) X c.ga
 have L2:=PySem.W.looks_findIn (M:=model prog w) X c.gh
 have f3:=F.attr_ValueError.ga.bind (.ref x)
 have f4:(Value.builtin "BaseException.__getattribute__" == Value.builtin "object.__getattribute__")=false:=by decide +kernel
 have f5:(onTheHeap (Value.ref C)&&Value.builtin "BaseException.__getattribute__" == Value.builtin "object.__getattribute__")=false:=by rw[f4];rfl
 have f6:(false&&onTheHeap (Value.builtin "BaseException.__getattribute__"))=false:=rfl
 have cg:∀(A:Around)(tok:Tok)(R:Result->Shared->Prop),R (.ok (.ret (.ref C))) { s with toks:=s.toks+1 }->codeAny (model prog w) A (.call (.builtin "BaseException.__getattribute__") ⟨[.ref x,.str "__class__" tok],[]⟩) R { s with toks:=s.toks+1 }:=fun A tok R r=>
  codeAny_call_builtin F.attr_ValueError.ga.plain F.entry_bexc_ga (q671 (s:={ s with toks:=s.toks+1 }) c X I (exc_get (s:={ s with toks:=s.toks+1 }) c X I r))
 obtain⟨hh,g,d,t,os⟩:=s
 unfold getAttr? getAttrBy?
 repeat (any_goals (first | assumption | with_reducible refine L0.at ?_ | with_reducible refine L1.at ?_ | with_reducible refine L2.at ?_ | wp_step))
 refine cg _ _ _ ?_
 repeat (any_goals (first | assumption | wp_step))
end
theorem ECls.kit{K:Fg}{C x:Addr}(c:ECls K C):PySem.W.KitX K (.ref x) (.ref C) (fun h=>∃ ox od,PySem.W.InstAt h x ox C od):=by
 obtain⟨cd,hcd⟩:=Option.isSome_iff_exists.mp (show(PySem.W.clsIn K C).isSome=true from c.cl)
 have lk:∃ c' d' sl',K.lookup C=some ⟨c',d',.cls cd,sl'⟩:=by
  unfold PySem.W.clsIn at hcd
  split at hcd
  ·rename_i c' d' cd' sl' ho
   cases hcd
   exact⟨_,_,_,ho⟩
  ·cases hcd
 obtain⟨c',d',sl',lk⟩:=lk
 refine⟨fun _ _ _ ⟨_,_,I⟩=>I.type,fun M h X _ A Q E s k q=>?_,fun h tp dd its n sl X htp=>?_,fun {prog w A E Q s} X ⟨ox,od,I⟩ q=>?_⟩
 ·unfold isType loadHead
  exact ZC (wpAny_loadPart (k _ _ (X _ _ lk)) (ZM q))
 ·refine Bool.eq_false_iff.mpr fun q=>?_
  have e:C=tp:=Value.ref.inj (beq_iff_eq.mp q)
  subst e
  have z:=(X _ _ lk).symm.trans htp
  cases z
 ·exact q672 c X I q
def EAt(K:Fg)(H:Hp)(x C:Addr):Prop:=ECls K C /\ ∃ dd,H x=some (ExcO x (.ref C) dd) /\ ∀ dx,dd=some dx -> ∃ o,H dx=some o
theorem Inv.eat{X:Cx}{s:Shared}(I:Inv X pins σ H s)(h:EAt X.K H x C):∃ ox od,PySem.W.InstAt s.heap x ox C od:=by
 obtain⟨_,dd,hx,hd⟩:=h
 obtain⟨⟨o,vs,h1,h2,h3,h4⟩,_⟩:=(show ObjOk X.prog X.w H s.heap x (ExcO x (.ref C) dd)from I.hok x _ hx)
 have no:PySem.W.notCls o=true:=by
  obtain⟨a,b,c,d⟩:=o
  simp only at h4
  subst h4
  rfl
 cases dd with
 | none=>exact⟨o,none,h1,h2,no,by rw[h3];trivial⟩
 | some dx=>
  obtain⟨u,hu⟩:=hd dx rfl
  obtain⟨od,ho⟩:=(I.hok dx u hu).some
  exact⟨o,some od,h1,h2,no,by rw[h3];exact ho⟩
inductive ClsV:V->Value->Prop where
 | own (D:Addr):ClsV (.ref D) (.ref D)
 | ty (T:String):ClsV (.ty T) (.type T)
theorem ClsV.eq(h:ClsV v c)(r:RelV v u):u=c:=by
 cases h with
 | own D=>exact r
 | ty T=>exact r
theorem ClsV.all:∀{vs:List V}{cs us:List Value},Paired ClsV vs cs->Vals vs us->us=cs:=by
 intro vs cs us h r
 induction h generalizing us with
 | nil=>cases r;rfl
 | cons h1 _ ih=>
  cases r with
  | cons r1 r2=>rw[h1.eq r1,ih r2]
inductive q673(K:Fg)(xs:List V)(H:Hp)(Q:VK):Prop
 |mk(x C v c b)(_:xs=[.ref x,v])(_:EAt K H x C)(_:ClsV v c)(_:PySem.W.kitOne K (.ref C) c=some b)(_:Q (.bl b) H)
theorem call_isE{K:Fg}(hK:X.K=K):CallR X (.builtin "isinstance") (q673 K):=by
 subst hK
 intro pins s σ H xs us Q I r h
 obtain⟨x,C,v,c,b,rfl,ea,hv,e,q⟩:=h
 obtain⟨u,w',rfl,ru,rw'⟩:=vals2 r
 cases ru
 cases hv.eq rw'
 exact YX ea.1.kit I.kIn (I.eat ea) e (fun z=>nomatch z) fun tk=>⟨.bl b,H,I.tok tk,rfl,q⟩
inductive q606(K:Fg)(xs:List V)(H:Hp)(Q:VK):Prop
 |mk(x C tp vs cs b)(_:xs=[.ref x,.ref tp])(_:EAt K H x C)(_:SqT K H tp vs)(_:Paired ClsV vs cs)(_:PySem.W.kitAny K (.ref C) cs=some b)(_:Q (.bl b) H)
theorem q674{K:Fg}(hK:X.K=K):CallR X (.builtin "isinstance") (q606 K):=by
 subst hK
 intro pins s σ H xs us Q I r h
 obtain⟨x,C,tp,vs,cs,b,rfl,ea,ht,hv,e,q⟩:=h
 obtain⟨u,w',rfl,ru,rw'⟩:=vals2 r
 cases ru
 cases rw'
 obtain⟨its,r1,p1,_⟩:=I.tuple ht
 obtain⟨⟨cls,dd,data,sl⟩,ho,hc,n,hd⟩:=id p1
 simp only at hc hd
 subst hc hd
 have z:=ClsV.all hv r1
 subst z
 exact PySem.W.kia_tup ea.1.kit I.kIn (I.eat ea) ho e (fun z=>nomatch z) fun tk=>⟨.bl b,H,I.tok tk,rfl,q⟩
section
variable {prog:Program} {w:World} {A:Around} {E:VS} {s:Shared}
theorem q607{i:Nat}(a1:s.heap.IsTupleIter ia tp i)(a2:s.heap.IsTuple tp us)(a3:us[i]? = some u)
  (k:∀ h',h'.IsTupleIter ia tp (i+1)->Heap.SameBut ia s.heap h'->Q u { s with heap:=h' }):wpAny (model prog w) A (Builtin.SmallTypes.nextOf (.ref ia)) Q E s:=by
 obtain⟨o,b1,b2,b3⟩:=id a1
 obtain⟨ot,c1,_,nt,c2⟩:=a2
 unfold Builtin.SmallTypes.nextOf
 refine ZC (wpAny_callSpecial?_slot (name:=Str.ofString "__next__") a1.typeIs F.slot_tuple_iterator_next (wpAny_call_entry F.slot_tuple_iterator_next a1.typeIs F.entry_tuple_iterator_next ?_ (F.args_tuple_iterator_next_1 _)))
 show wpAny _ _ (field (.ref ia) 0 >>= _) _ _ s
 refine ZC (wpAny_field b1 b3 (x:=.ref tp) rfl ?_)
 show wpAny _ _ (if(Value.ref tp==Value.none)=true then _ else _) _ _ s
 rw[ZI (show ¬((Value.ref tp==Value.none)=true)from fnt)]
 show wpAny _ _ (field (.ref ia) 1 >>= _) _ _ s
 refine ZC (wpAny_field b1 b3 (x:=.int i 0) rfl ?_)
 show wpAny _ _ (seqItems? (.ref tp) >>= _) _ _ s
 refine ZC (wpAny_seqItems c1 c2 ?_)
 simp only[Int.toNat_natCast,a3]
 refine ZC (wpAny_setField b1 b3 (by simp) (ZM ⟨u,rfl,ZM (k _ ?_ (Heap.SameBut.update ..))⟩))
 exact⟨_,Heap.get?_update_self _ b1 (Obj.isFreed_of_fields (Obj.data_mapFields b3 _)),(Obj.cls_mapFields ..).trans b2,by rw[Obj.data_mapFields b3];simp[rawInt]⟩
theorem q675{i:Nat}{Q:VS}(hh:A.handled=none)(a1:s.heap.IsTupleIter ia tp i)(a2:s.heap.IsTuple tp us)(a3:us[i]? = none)
  (k:∀ h' x,Heap.ExtBut ia s.heap h'->(∃ o,h'.get? x=some o/\o.cls = .type "StopIteration")->E (.ref x) { s with heap:=h' }):wpAny (model prog w) A (Builtin.SmallTypes.nextOf (.ref ia)) Q E s:=by
 obtain⟨o,b1,b2,b3⟩:=id a1
 obtain⟨ot,c1,_,nt,c2⟩:=a2
 unfold Builtin.SmallTypes.nextOf
 refine ZC (wpAny_callSpecial?_slot (name:=Str.ofString "__next__") a1.typeIs F.slot_tuple_iterator_next (wpAny_call_entry F.slot_tuple_iterator_next a1.typeIs F.entry_tuple_iterator_next ?_ (F.args_tuple_iterator_next_1 _)))
 show wpAny _ _ (field (.ref ia) 0 >>= _) _ _ s
 refine ZC (wpAny_field b1 b3 (x:=.ref tp) rfl ?_)
 show wpAny _ _ (if(Value.ref tp==Value.none)=true then _ else _) _ _ s
 rw[ZI (show ¬((Value.ref tp==Value.none)=true)from fnt)]
 show wpAny _ _ (field (.ref ia) 1 >>= _) _ _ s
 refine ZC (wpAny_field b1 b3 (x:=.int i 0) rfl ?_)
 show wpAny _ _ (seqItems? (.ref tp) >>= _) _ _ s
 refine ZC (wpAny_seqItems c1 c2 ?_)
 simp only[Int.toNat_natCast,a3]
 refine ZC (wpAny_rule (ZC (wpAny_setField b1 b3 (by simp) ?_)))
 show wpAny _ _ (newExc (.type "StopIteration") [] >>= fun _=>_) _ _ _
 refine ZC ?_
 simp only[newExc,newTuple]
 refine ZC (YF ?_ (by size_fits))
 refine ZC (m:=firstArgMember _ _) (wpAny_of_eq (a:=Value.none) (by first | rfl | simp[firstArgMember]) (YF ?_ (by size_fits)))
 simp only[raiseNew]
 refine ZC (wpAny_handled ?_)
 first | rw[show A.in1.handled=none from hh] | (rw[hh];skip)
 exact ZC (ZM (wpAny_throw (k _ _ (((Heap.SameBut.update ..).extBut.push _).push _) ⟨_,ZU _ rfl,rfl⟩)))
theorem q608{i:Nat}{Q:Option Value->Shared->Prop}(e0:IsEnum s.heap en ia i was)(a1:s.heap.IsTupleIter ia tp i)(a2:s.heap.IsTuple tp us)(a3:us[i]? = some u)(ne:en≠ia)
  (k:∀ h',IsEnumOut h' en ia ((i:Int)+1) u s.heap.objs.size->h'.IsTupleIter ia tp (i+1)->h'.get? s.heap.objs.size=some { cls:=.type "tuple", data:=.seq #[.int i s.toks,u] } ->
   (∀ b o,b≠en->b≠ia->s.heap.get? b=some o->h'.get? b=some o)->Q (some (.ref s.heap.objs.size)) { s with heap:=h',toks:=s.toks+1 }) :
  wpAny (model prog w) A (pyNext (.ref en)) Q E s:=by
 have ty:s.TypeIs (.ref en) "enumerate" := ⟨_,e0,rfl⟩
 unfold pyNext
 refine ZC (wpAny_attempt (wpAny_callSpecial?_slot (name:=Str.ofString "__next__") ty F.slot_enumerate_next (wpAny_call_entry F.slot_enumerate_next ty F.entry_enumerate_next ?_ (F.args_enumerate_next_1 _))))
 obtain⟨h0,g,d,tk,os⟩:=s
 show wpAny _ _ (field (.ref en) 2 >>= _) _ _ _
 refine ZC (wpAny_field e0 rfl (x:=.ref ia) rfl (ZC (q607 a1 a2 a3 fun h1 n1 s1=>?_)))
 replace s1:Heap.SameBut ia h0 h1:=s1
 have e1:IsEnum h1 en ia i was:=(s1.2 en ne).trans e0
 show wpAny _ _ (field (.ref en) 3 >>= _) _ _ ⟨h1,g,d,tk,os⟩
 refine ZC (wpAny_field e1 rfl (x:=rawInt i) rfl ?_)
 show wpAny _ _ (field (.ref en) 4 >>= _) _ _ ⟨h1,g,d,tk,os⟩
 refine ZC (wpAny_field e1 rfl (x:=.none) rfl ?_)
 show wpAny _ _ (mkInt i >>= _) _ _ ⟨h1,g,d,tk,os⟩
 refine ZC (wpAny_mkInt ?_)
 show wpAny _ _ (setField (.ref en) 3 (rawInt ((i:Int)+1)) >>= _) _ _ ⟨h1,g,d,tk+1,os⟩
 refine ZC (YK e1 (by simp) fun h2 e2 s2=>?_)
 replace s2:Heap.SameBut en h1 h2:=s2
 replace e2:IsEnum h2 en ia ((i:Int)+1) was:=e2
 show wpAny _ _ (setField (.ref en) 4 .none >>= _) _ _ ⟨h2,g,d,tk+1,os⟩
 refine ZC (YK e2 (by simp) fun h3 e3 s3=>?_)
 replace s3:Heap.SameBut en h2 h3:=s3
 replace e3:IsEnum h3 en ia ((i:Int)+1) was:=e3
 show wpAny _ _ (newTuple [.int i tk,u] >>= _) _ _ ⟨h3,g,d,tk+1,os⟩
 refine ZC (wpAny_newTuple ?_)
 have z3:h3.objs.size=h0.objs.size:=by rw[s3.1,s2.1,s1.1]
 have l0:en<h0.objs.size:=ZW e0
 have ni:ia≠en:=Ne.symm ne
 generalize hh4:h3.push { cls:=.type "tuple", data:=.seq #[.int i tk,u] }=h4
 have e4:IsEnum h4 en ia ((i:Int)+1) was:=by rw[<- hh4];exact ZF _ e3
 have t4:h4.get? h0.objs.size=some { cls:=.type "tuple", data:=.seq #[.int i tk,u] }:=by rw[<- hh4,<- z3];exact ZU _ rfl
 have k4:∀ b o,b≠en->b≠ia->h0.get? b=some o->h4.get? b=some o:=fun b o m1 m2 q=>by
  rw[<- hh4]
  exact ZF _ (s3.extBut b o m1 (s2.extBut b o m1 (s1.extBut b o m2 q)))
 have n4:h4.IsTupleIter ia tp (i+1):=by
  rw[<- hh4]
  obtain⟨o,q,r⟩:=(n1.extBut s2.extBut ni).extBut s3.extBut ni
  exact⟨o,ZF _ q,r⟩
 show wpAny _ _ (Builtin.SmallTypes.ownedTupleIsFree (.ref en) >>= _) _ _ ⟨h4,g,d,tk+1,os⟩
 rw[z3]
 clear hh4
 refine ZC ?_
 unfold Builtin.SmallTypes.ownedTupleIsFree
 refine ZC (wpAny_field e4 rfl (x:=.none) rfl (ZM ?_))
 simp only[if_true]
 refine ZC (wpAny_rule (ZC (wpAny_field e4 rfl (x:=was) rfl (ZC (YK e4 (by simp) fun h5 e5 s5=>?_)))))
 replace s5:Heap.SameBut en h4 h5:=s5
 replace e5:IsEnum h5 en ia ((i:Int)+1) u:=e5
 show wpAny _ _ (Builtin.SmallTypes.ownedTupleHandOut (.ref en) (.ref h0.objs.size) >>= _) _ _ ⟨h5,g,d,tk+1,os⟩
 refine ZC ?_
 unfold Builtin.SmallTypes.ownedTupleHandOut
 refine ZC (YK e5 (by simp) fun h6 e6 s6=>?_)
 replace s6:Heap.SameBut en h5 h6:=s6
 replace e6:IsEnumOut h6 en ia ((i:Int)+1) u h0.objs.size:=e6
 refine YK e6 (by simp) fun h7 e7 s7=>?_
 replace s7:Heap.SameBut en h6 h7:=s7
 replace e7:IsEnumOut h7 en ia ((i:Int)+1) u h0.objs.size:=e7
 have up:∀ b o,b≠en->h4.get? b=some o->h7.get? b=some o:=fun b o m q=>s7.extBut b o m (s6.extBut b o m (s5.extBut b o m q))
 refine ZC (wpAny_letGo (ZM ⟨_,rfl,ZM (k h7 e7 ?_ (up _ _ (Nat.ne_of_gt l0) t4) fun b o m1 m2 q=>up b o m1 (k4 b o m1 m2 q))⟩))
 obtain⟨o,q,r⟩:=n4
 exact⟨o,up _ _ ni q,r⟩
theorem q676{i:Nat}(hh:A.handled=none)(e0:IsEnum s.heap en ia i was)(a1:s.heap.IsTupleIter ia tp i)(a2:s.heap.IsTuple tp us)(a3:us[i]? = none)
  (k:∀ h',Heap.ExtBut ia s.heap h'->Q none { s with heap:=h' }):wpAny (model prog w) A (pyNext (.ref en)) Q E s:=by
 have ty:s.TypeIs (.ref en) "enumerate" := ⟨_,e0,rfl⟩
 unfold pyNext
 refine ZC (wpAny_attempt (wpAny_callSpecial?_slot (name:=Str.ofString "__next__") ty F.slot_enumerate_next (wpAny_call_entry F.slot_enumerate_next ty F.entry_enumerate_next ?_ (F.args_enumerate_next_1 _))))
 show wpAny _ _ (field (.ref en) 2 >>= _) _ _ _
 refine ZC (wpAny_field e0 rfl (x:=.ref ia) rfl (ZC (q675 hh a1 a2 a3 fun h' x q1 q2=>?_)))
 obtain⟨o,o1,o2⟩:=q2
 exact ZC (wpAny_isInstance (T := "StopIteration") (b:=true) ⟨o,o1,o2⟩ isSubtype_stop (ZM (k _ q1)))
end
noncomputable def Ite(K:Fg)(a:Addr):It:=
 ⟨fun i H=>∃ xs x,SqT K H a xs/\xs[i]? = some x,fun i H x H'=>∃ p y,x = .ref p/\H p=none/\H'=upd H p (.tup [.int i,y]) /\ ∀ xs,SqT K H a xs->xs[i]? = some y,fun i H=>∃ xs,SqT K H a xs/\xs.length<=i⟩
theorem q677:2<=sizeLine:=szb rfl
theorem q609{P:Program}{w:World}{K:Fg}{es:List Expr}{x1:Nat}{pos:Pos}(a en ia:Addr)(ne:en≠ia) :
  Turn P w K (.Tuple es x1 pos) (Ite K a) [en,ia] en (fun i h=>(∃ was,IsEnum h en ia (i:Nat) was)/\h.IsTupleIter ia a i) where
 mem:=by simp
 obj:=fun i h st b hb=>by
  obtain⟨⟨was,q1⟩,o,q2,q3,q4⟩:=st
  rcases List.mem_cons.mp hb with z | z
  ·subst z
   exact⟨_,q1,fun v y=>by cases y⟩
  ·have z':b=ia:=by simpa using z
   subst z'
   exact⟨o,q2,fun v y=>by rw[q4]at y;cases y⟩
 keep:=fun i h h' st k=>by
  obtain⟨⟨was,q1⟩,o,q2,q3⟩:=st
  exact⟨⟨was,k en (by simp) _ q1⟩,o,k ia (by simp) _ q2,q3⟩
 item:=by
  intro X hP hw hK hc i pins s σ H E I hf st hg
  subst hP hw hK
  obtain⟨⟨was,q1⟩,q2⟩:=st
  obtain⟨xs,x,hq,hx⟩:=hg
  obtain⟨its,rv,p,hz⟩:=I.tuple hq
  obtain⟨u,hu,ru⟩:=rv.get hx
  refine q608 q1 q2 (show s.heap.IsTuple a its.toArray from p) (u:=u) (by simpa using hu) ne fun h1 e1 n1 t1 k1=>⟨_,rfl,?_⟩
  refine wpAny_letOwnedTupleGo_enum e1 fun h2 e2 s2=>?_
  replace s2:Heap.SameBut en h1 h2:=s2
  have len:en<s.heap.objs.size:=ZW q1
  have t2:h2.get? s.heap.objs.size=some { cls:=.type "tuple", data:=.seq #[.int i s.toks,u] }:=(s2.2 _ (Nat.ne_of_gt len)).trans t1
  have kk:∀ b o,b≠en->b≠ia->s.heap.get? b=some o->h2.get? b=some o:=fun b o m1 m2 q=>(s2.2 b m1).trans (k1 b o m1 m2 q)
  have fr:H s.heap.objs.size=none:=I.hok.fresh (ZG _)
  have f1:=hf en (by simp)
  have f2:=hf ia (by simp)
  have neq:∀ b,H b≠none->b≠en/\b≠ia:=fun b m=>⟨fun z=>m (z▸f1.1),fun z=>m (z▸f2.1)⟩
  have un:Un (frs X.stack) [en,ia] H (upd H s.heap.objs.size (.tup [.int i,x])) s.heap h2:=by
   have nn:∀ b,b ∉ [en,ia]->b≠en/\b≠ia:=fun b m=>⟨fun z=>m (by simp[z]),fun z=>m (by simp[z])⟩
   have np:∀ b o,s.heap.get? b=some o->b≠s.heap.objs.size:=fun b o q=>WH (ZW q)
   exact⟨fun b o q _ _ m=>kk b o (nn b m).1 (nn b m).2 q,fun b o q _ _ m=>⟨o.slots,kk b o (nn b m).1 (nn b m).2 q⟩,fun b o q m _=>by rw[q27 (np b o q)];exact m,fun b o q m=>⟨o,kk b o (nn b m).1 (nn b m).2 q⟩,
    fun b ys q=>by rw[q27 (q24 q fr)];exact q,fun b o v q=>by rw[q27 (q24 q fr)];exact q,fun b ps q=>⟨#[],by rw[q27 (q24 q fr),q];simp⟩⟩
  have hok:HOk X.prog X.w (upd H s.heap.objs.size (.tup [.int i,x])) h2:=fun b ob e=>by
   by_cases hb:b=s.heap.objs.size
   ·subst hb
    rw[q13]at e
    cases e
    exact⟨q677,[.int i s.toks,u],.cons ⟨_,rfl⟩ (.cons ru .nil),⟨_,t2,rfl,_,rfl⟩⟩
   ·rw[q27 hb]at e
    refine(I.hok b ob e).stay (fun c v z q=>?_) (fun c q=>by rw[q27 (q24 q fr)];exact q) fun c ys q=>by rw[q27 (q24 q fr)];exact q
    have m:H c≠none:=by
     rcases z with rfl | z
     ·rw[e];exact fun y=>nomatch y
     ·rw[z];exact fun y=>nomatch y
    exact kk c v (neq c m).1 (neq c m).2 q
  have J:Inv X pins σ (upd H s.heap.objs.size (.tup [.int i,x])) { s with heap:=h2,toks:=s.toks+1 }:=by
   refine I.call' (s':={ s with heap:=h2,toks:=s.toks+1 }) (ch:=[en,ia]) rfl un hok I.bare fun b hb=>?_
   rcases List.mem_cons.mp hb with z | z
   ·subst z
    exact⟨f1.2.2.2.1,f1.2.1,f1.2.2.2.2.1,f1.2.2.2.2.2⟩
   ·have z':b=ia:=by simpa using z
    subst z'
    exact⟨f2.2.2.2.1,f2.2.1,f2.2.2.2.2.1,f2.2.2.2.2.2⟩
  refine⟨.ref s.heap.objs.size,_,J,rfl,⟨s.heap.objs.size,x,rfl,fr,rfl,fun ys hy=>by rw[I.tuple_inj hy hq];exact hx⟩,⟨⟨u,?_⟩,?_⟩,fun b hb=>?_⟩
  ·have:((i+1:Nat):Int)=(i:Int)+1:=∅
   rw[this]
   exact e2
  ·obtain⟨o,q,r⟩:=n1
   exact⟨o,(s2.2 ia (Ne.symm ne)).trans q,r⟩
  ·have hb':b=en\/b=ia:=by simpa using hb
   have lb:b<s.heap.objs.size:=by
    rcases hb' with z | z
    ·rw[z];exact len
    ·obtain⟨o,q,_⟩:=q2
     rw[z];exact ZW q
   rw[q27 (WH lb)]
   exact(hf b hb).1
 done:=by
  intro X hP hw hK hc i pins s σ H E I hf st hg
  subst hP hw hK
  obtain⟨⟨was,q1⟩,q2⟩:=st
  obtain⟨xs,hq,hx⟩:=hg
  obtain⟨its,rv,p,hz⟩:=I.tuple hq
  obtain⟨f0,f1,f2,f3,f4,f5⟩:=hf ia (by simp)
  have hl:=rv.length
  exact q676 (I.ok.hd hc) q1 q2 (show s.heap.IsTuple a its.toArray from p) (by simp;lia) fun h' eb=>⟨rfl,I.turned (t':=s.toks) (fun b o hb e=>eb b o hb e) f0 f1 f3 f4 f5⟩
 self:=fun _ _ _ _ _ st h=>by
  obtain⟨⟨was,q1⟩,_⟩:=st
  exact wpAny_pyIter_enum q1 h
theorem q678(tp:Addr)(us:Array Value)(n:Nat)(dct:Option Addr)(sl:Array (Option Value)) :
  Meets (Builtin.«enumerate.__new__» ⟨[.type "enumerate", .ref tp],[]⟩) (fun _ R s=>s.heap.get? tp=some { cls:=.type "tuple", dict:=dct,data:=.seq us n,slots:=sl } /\
   R (.ok (.ret (.ref (s.heap.push { cls:=.type "tuple_iterator", data:=.fields #[.ref tp,.int 0 0] }).objs.size)))
    { s with heap:=(s.heap.push { cls:=.type "tuple_iterator", data:=.fields #[.ref tp,.int 0 0] }).push { cls:=.type "enumerate", data:=.fields #[.none,.bool false,.ref s.heap.objs.size,rawInt 0,.none,.none] } }):=
 .of_wp fun prog w A R s z=>by
  obtain⟨hp,g,d,tk,os⟩:=s
  obtain⟨z1,z2⟩:=z
  have sb:=sub_enumerate
  have T:Heap.IsTuple (Shared.heap ⟨hp,g,d,tk,os⟩) tp us:=⟨_,z1,rfl,n,rfl⟩
  wp_walk using AutoSeq1.wpAny_loadPart' z1
  refine wpAny_stack_any fun st=>ZM ?_
  split
  ·rename_i c _ _ _ _ _
   cases(c==Value.type "enumerate")
   all_goals
    wp_walk using AutoSeq1.wpAny_loadPart' z1,wpAny_pyIter_tuple T
    exact⟨_,rfl,z2⟩
  ·wp_walk using AutoSeq1.wpAny_loadPart' z1,wpAny_pyIter_tuple T
   exact⟨_,rfl,z2⟩
section
variable {prog:Program} {w:World} {A:Around} {E:VS} {s:Shared}
theorem q610(T:s.heap.IsTuple tp us)
  (k:∀ h',IsEnum h' (s.heap.objs.size+1) s.heap.objs.size 0 .none->h'.IsTupleIter s.heap.objs.size tp 0->(∀ b o,s.heap.get? b=some o->h'.get? b=some o)->Q (.ref (s.heap.objs.size+1)) { s with heap:=h' }) :
  wpAny (model prog w) A (call (.type "enumerate") [.ref tp]) Q E s:=by
 obtain⟨⟨c,dct,dt,sl⟩,z1,z2,n,z3⟩:=T
 simp only at z2 z3
 subst z2 z3
 refine callType_new F.called_enumerate {} (F.typeCall_enumerate_1 _) (F.newCall_enumerate_1 _) (fun obj=>F.args_object_init_2 obj _) F.entry_enumerate_new (q678 tp us n dct sl) ⟨z1,?_⟩
 generalize ho:({ cls:=.type "tuple_iterator", data:=.fields #[.ref tp,.int 0 0] }:Obj)=o1
 have y1:(s.heap.push o1).objs.size=s.heap.objs.size+1:=Heap.size_push ..
 have y2:∀ o2:Obj,o2.isFreed=false->((s.heap.push o1).push o2).get? (s.heap.objs.size+1)=some o2:=fun o2 f=>by
  have:=ZU (s.heap.push o1) (o:=o2) f
  rwa [y1]at this
 show _/\_
 rw[y1]
 have y3:=y2 { cls:=.type "enumerate", data:=.fields #[.none,.bool false,.ref s.heap.objs.size,rawInt 0,.none,.none] } rfl
 refine⟨⟨_,y3,rfl⟩,k _ y3 ⟨o1,ZF _ (ZU _ (by rw[<- ho];rfl)),by rw[<- ho],by rw[<- ho];rfl⟩ fun b o q=>ZF _ (ZF _ q)⟩
end
section
variable {es:List Expr} {x1:Nat} {tpos:Pos}
noncomputable def iEnum(K:Fg)(ta:TA):TI:=fun σ H R=>ta σ H fun vs H1=>∃ a,vs=[.ref a]/\(∃ xs,SqT K H1 a xs)/\R (Ite K a) H1
theorem pi_enum{l:Expr}{ta:TA}{p pos:Pos}(hg:Gl X "enumerate") (hm:X.mg "enumerate" = none) (ha:PA X [l] ta) (hs:starEach [l] X.env=[(false,eval l X.env)]:=by rfl) :
  PI X (.Tuple es x1 tpos) (.Call (.Name "enumerate" p) [l] [] pos) (iEnum X.K ta):=by
 intro pins s σ H R I h
 refine Call_ (q362 I hg hm boot_enumerate (PyProof.Rows.callWith_type1 (thn (ha pos pins s σ H _ I h) fun us s1 ⟨vs,H1,I1,r1,q1⟩=>?_) hs rfl))
 obtain⟨a,e,⟨xs,hq⟩,q⟩:=q1
 subst e
 cases r1 with
 | cons r rr=>
  cases rr
  cases r
  obtain⟨its,rv,p,hz⟩:=I1.tuple hq
  refine q610 (show s1.heap.IsTuple a its.toArray from p) fun h' e1 e2 k=>wpAny_pyIter_enum e1 ?_
  have I2:Inv X pins σ H1 { s1 with heap:=h' }:=I1.kept (t':=s1.toks) k
  refine⟨s1.heap.objs.size+1,[s1.heap.objs.size+1,s1.heap.objs.size],_,_,H1,rfl,I2,q609 a _ _ (Nat.succ_ne_self _),⟨⟨_,e1⟩,e2⟩,fun b hb=>?_,q⟩
  have hb':s1.heap.objs.size<=b:=by
   have z:b=s1.heap.objs.size+1\/b=s1.heap.objs.size:=by simpa using hb
   rcases z with z | z
   ·rw[z];exact Nat.le_succ _
   ·rw[z];exact ZG _
  exact I1.fpOk hb' (I1.hok.fresh hb')
theorem for_enum{K:Fg}{a:Addr}{xs:List V}{g:TG}{tb:TS}{D:Ends}{σ:St}{H:Hp}(Pv:Nat->St->Hp->Prop)(h0:Pv 0 σ H)(hl:∀ i σ H,i<=xs.length->Pv i σ H->SqT K H a xs)
  (hs:∀ i x σ H p,xs[i]? = some x->Pv i σ H->H p=none->g (.ref p) σ (upd H p (.tup [.int i,x])) fun σ2 H2=>tb { D with nx:=Pv (i+1),ct:=Pv (i+1),bk:=D.nx } σ2 H2) (hd:∀ σ H,Pv xs.length σ H->D.nx σ H) :
  ∃ W:Nat->Nat->St->Hp->Prop,(∃ m,W 0 m σ H) /\ ∀ i m σ H,W i m σ H ->
   ((Ite K a).stop i H/\D.nx σ H)\/((Ite K a).go i H /\ ∃ N:St->Hp->Prop,(∀ σ' H',N σ' H' -> ∃ m',m'<m/\W (i+1) m' σ' H') /\ ∀ x H',(Ite K a).yld i H x H'->g x σ H' fun σ2 H2=>tb { D with nx:=N,ct:=N,bk:=D.nx } σ2 H2):=by
 exists fun i m σ H=>m=xs.length-i/\i<=xs.length/\Pv i σ H,⟨xs.length,by simp,WB _,h0⟩
 rintro i m σ H ⟨rfl,hi,p⟩
 have q:=hl i σ H hi p
 by_cases hlt:i<xs.length
 ·refine .inr ⟨⟨xs,xs[i],q,by simp[hlt]⟩,Pv (i+1),fun σ' H' p'=>⟨xs.length-(i+1),∅,rfl,hlt,p'⟩,fun x H' y=>?_⟩
  obtain⟨pp,yv,rfl,e2,rfl,y⟩:=y
  exact hs i yv σ _ pp (y xs q) p e2
 ·have e:i=xs.length:=∅
  subst e
  exact .inl ⟨⟨xs,q,ZG _⟩,hd σ H p⟩
end
structure CalX(P:Program)(w:World)(K:Fg)(mg:Mg)(base:Heap)(k:Nat)(x:Str)(ps:List Str)(sp:Sp):Prop where
 ex:∃(f:Addr)(fd:FuncData),FnOk P w K mg base (CX1 P w) k f fd ps sp/\Binds K fd ps []/\PySem.W.keepIn K (.ref f)=true/\mg x=some (.ref f)
section
variable {P:Program} {w:World} {K:Fg} {mg:Mg} {base:Heap} {k:Nat} {x:Str} {st:Stmt} {ps:List Str} {sp:Sp}
theorem Def.calx(d:Def K mg x st ps)(F:∀(f:Addr)(fd:FuncData),Fun K x x st f fd->FnOk P w K mg base (CX1 P w) k f fd ps sp):CalX P w K mg base k x ps sp:=by
 obtain⟨f,fd,h1,h2,h3⟩:=d.ex
 exact⟨f,fd,F f fd h1,.all h2,h1.kp,h3⟩
theorem CalX.cal(c:CalX P w K mg base k x ps sp)(h:∀ vs H Q E,sp' vs H Q E->sp vs H Q E0):Cal P w K mg base k x ps sp':=by
 obtain⟨f,fd,F,B,kp,m⟩:=c.ex
 refine⟨f,fd,⟨fun vs H Q E q=>F.len vs H Q E0 (h vs H Q E q),fun A outer s H args us vs Q E hr he hb hv hs=>codeAny_mono (F.run A outer s H args us vs Q E0 hr he hb hv (h _ _ _ _ hs)) fun r s' q=>?_⟩,B,kp,m⟩
 cases r with
 | error e=>
  obtain⟨_,_,_,_,_,_,_,z⟩:=(show CX1 P w outer H s E0 e s' from q)
  exact z.elim
 | ok fl=>
  cases fl with
  | ret u=>exact q
  | next=>exact q
  | brk=>exact q
  | cont=>exact q
theorem Fun.okx(F:Fun K x qual st f fd)(S:FnScope N ps (q17 st))(len:∀ vs H Q E,sp vs H Q E->vs.length=ps.length)
  (hbody:∀(cdv:Value)(A:Around)(outer:List Env)(s:Shared)(H:Hp)(vs:List V)(Q:VK)(E:XK),Room k (A.deeper (envOfC qual (q17 st) s.heap.objs.size f cdv))->sp vs H Q E ->
   ∃ t,PSs (cxOf (CX1 P w) P w K mg base N qual (q17 st) f cdv A outer s H E) (q63 st) t/\t { nx:=fun _ H'=>Q .non H',rt:=Q } (start N vs) H):FnOk P w K mg base (CX1 P w) (k+1) f fd ps sp:=by
 obtain⟨oc,od,kV,doc,pm,an,cdv,ct,osl,rfl,lk,hcd⟩:=F.ex
 exact fn_of lk hcd S len fun A outer s H vs Q E hr hsp=>hbody cdv A outer s H vs Q E hr hsp
theorem lv_of:Lv (cxOf (CX1 P w) P w K mg base N qual sc f cd A outer s H E) E:=⟨rfl,rfl,rfl,rfl,rfl⟩
end
section
variable {E:XK} {x:Str} {C:Addr} {e:Expr} {es:List Expr} {t:TA} {np cpos pos:Pos}
noncomputable abbrev bmVE:List Value:=[.type "ValueError", .type "Exception", .type "BaseException", .type "object"]
theorem q452(l:Lv X E)(m:X.mg x=some (.ref C))(q:PySem.W.excIn X.K C bmVE "ValueError.__new__" = true) (hg:Gl X x) (ha:PA X (e::es) t) (hdb:(x==("__debug__" : Str))=false:=by decide)
  (he:starEach (e::es) X.env=(false,eval e X.env)::starEach es X.env:=by rfl) (hpl:(backTo cpos (starEach es X.env)).any (·.1)=false:=by rfl) :
  PS X (.Raise (some (.Call (.Name x np) (e::es) [] cpos)) none pos) (tRaise C E t):=fun pins s σ H D I h=>
 ps_raise l PySem.F.excBase_ValueError (own_exc I.mod.kin m q) hg ha hdb he hpl pins s σ H D I h
variable{k i:Nat}{C2:Addr}{ps:List Str}{sp:Sp}{fx cx n:Str}{p p2 epos hpos:Pos}{b₀:Stmt}{suite:List Stmt}{u:TS}
theorem ps_tryD(hst:X.stack=X.env::X.outer)(hfm:X.env.frame=some X.env.locals)(c:CalX X.prog X.w X.K X.mg X.base k fx ps sp)(hr:Room k X.A)(hg:Gl X fx)(ha:PA X.nox (e::es) t)(hgc:Gl X cx)(hmc:X.mg cx=some (.ref C2))
  (hN:X.N.Nodup) (hi:X.N[i]? = some n) (hkn:X.env.scope.names.lookup n=some .local) (hu:∀ x,PSs (X.hand x) (b₀::suite) u) (hdb:(fx==("__debug__" : Str))=false:=by decide) (hdc:(cx==("__debug__" : Str))=false:=by decide)
  (he:starEach (e::es) X.env=(false,eval e X.env)::starEach es X.env:=by rfl) (hpl:(backTo cpos (starEach es X.env)).any (·.1)=false:=by rfl)
  (hsw:swapsWith (.Call (.Name fx p) (e::es) [] cpos) none epos.line X.env=pure false:=by rfl) :
  PS X (.Try [.Expr (.Call (.Name fx p) (e::es) [] cpos) epos] [.ExceptHandler (some (.Name cx p2)) (some n) (b₀::suite) hpos] [] [] pos) (tTry X.K sp C2 i t u):=by
 obtain⟨f,fd,F,B,kp,m⟩:=c.ex
 exact ps_try hst hfm F hr hg m kp B ha hgc hmc hN hi hkn hu hdb hdc he hpl hsw
inductive Rop_eqF(K:Fg)(x:V)(y:V)(H:Hp)(Q:VK):Prop
 |mk(a b:Addr)(xs ys:List V)(_:x = .ref a)(_:y = .ref b)(_:SqL K H a xs)(_:SqL K H b ys)(_:xs.length=ys.length)(_:xs.all flatV=true)(_:ys.all flatV=true)(_:Q (.bl ((List.range xs.length).all fun j=>eqV (xs.getD j .non) (ys.getD j .non))) H)
theorem op_eqF(hu:X.A.units<cLine):OpR X (compareOp .Eq) (Rop_eqF X.K):=by
 intro pins s σ H x y v u Q I rx ry h
 obtain⟨a,b,xs,ys,rfl,rfl,ha,hb,hl,f1,f2,q⟩:=h
 cases rx
 cases ry
 obtain⟨its,r1,p1,_⟩:=I.list ha
 obtain⟨its2,r2,p2,_⟩:=I.list hb
 have l1:=r1.length
 have l2:=r2.length
 refine SeqAt.eq_listAt (e:=fun j=>eqV (xs.getD j .non) (ys.getD j .non)) p1.isList p2.isList (by rw[ZX,ZX,<- l1,<- l2];exact hl) hu (fun j h1 h2=>?_) ?_
 ·have h1':j<xs.length:=by rw[ZX]at h1;lia
  have h2':j<ys.length:=∅
  obtain⟨v1,e1,r1'⟩:=r1.get (i:=j) (x:=xs[j]) (by simp[h1'])
  obtain⟨v2,e2,r2'⟩:=r2.get (i:=j) (x:=ys[j]) (by simp[h2'])
  have g1:its.toArray[j]=v1:=by
   have:=List.getElem?_eq_some_iff.mp e1
   simpa using this.2
  have g2:its2.toArray[j]=v2:=by
   have:=List.getElem?_eq_some_iff.mp e2
   simpa using this.2
  have z:=q444 (A:=X.A.in1) (s:=s) r1' r2' (List.all_eq_true.mp f1 _ (getElem_mem h1')) (List.all_eq_true.mp f2 _ (getElem_mem h2'))
  have e1:xs.getD j .non=xs[j]:=by simp[YO,h1']
  have e2:ys.getD j .non=ys[j]:=by simp[YO,h2']
  simp only[e1,e2]
  first | (rw[g1,g2];exact z) | (simp only[g1];simp only[g2];exact z)
 ·refine⟨.bl _,H,I,?_,q⟩
  show Value.bool _=Value.bool _
  congr 1
  rw[ZX,<- l1]
end
open PySem.Builtin.ObjectAttr in
structure XFld(K:Fg)(C:Addr)(f:Str):Prop where
 sa:PySem.W.findIn K (.ref C) "__setattr__" = some (some (.builtin "object.__setattr__"))
 na:PySem.W.findIn K (.ref C) f=some none
 hd:PySem.W.hasDictIn K C=true
noncomputable def q679(wi:TI)(tt:TT)(te:TE)(fr:List Nat):TE:=fun σ H Q=>wi σ H fun J H1=>∀ D,H1 D=none -> ∃ W:Nat->Nat->List V->Hp->Prop,(∃ m,W 0 m [] (upd H1 D (.lst []))) /\
 ∀ i m ys H2,W i m ys H2->H2 D=some (.lst ys)/\((J.stop i H2/\Q (.ref D) H2)\/(J.go i H2/\ys.length<sizeLine /\ ∃ N:V->Hp->Prop,(∀ y H3,N y H3->H3 D=some (.lst ys) /\ ∃ m',m'<m/\W (i+1) m' (ys++[y]) (upd H3 D (.lst (ys++[y])))) /\
  ∀ x H',J.yld i H2 x H'->tt (some x::fr.map fun j=>(σ[j]?).getD none) H' fun b H3=>if b=true then te (some x::fr.map fun j=>(σ[j]?).getD none) H3 N else ∃ m',m'<m/\W (i+1) m' ys H3))
theorem q296{X:Cx}{elt itr cc:Expr}{x:Str}{px pos:Pos}{scope sc0:Scope}{cl:List (Str×Addr)}{cn N:List Str}{fr:List Nat}{tt:TT}{te:TE}{pins:List (Addr×Obj)}{σ:St}{H2:Hp}{s2:Shared}{it:Addr}{fp:List Addr}
  {tn:Nat->Heap->Prop} {J:It} {RR:Value->Addr->Result->Shared->Prop} {R:Hp->Prop} {E:VS} {W:Nat->Nat->List V->Hp->Prop} {m0:Nat}
  (hc:X.calm=true) (he:∀(C:Addr)(s₂:Shared)(H₂:Hp)(fp:List Addr),PE (q48 X scope cl C x N s₂ H₂ fp) elt te) (hct:∀(C:Addr)(s₂:Shared)(H₂:Hp)(fp:List Addr),PT (q48 X scope cl C x N s₂ H₂ fp) cc tt)
  (hcl:q85 X.env cl) (hcn:cl.map (·.1)=cn) (hsc:X.env.scope=sc0) (hk:scope.kind = .function) (hok:CompOk scope sc0 x N cn) (hfr:fr.map (fun j=>X.N[j]?)=N.map some)
  (I2:Inv X pins σ H2 s2) (T:Turn X.prog X.w X.K (.Name x px) J fp it tn) (st2:tn 0 s2.heap) (f2:∀ b∈fp,FpOk X pins H2 b)
  (w0:W 0 m0 [] (upd H2 s2.heap.objs.size (.lst [])))
  (turn:∀ i m ys H,W i m ys H->H s2.heap.objs.size=some (.lst ys)/\((J.stop i H/\R H)\/(J.go i H/\ys.length<sizeLine /\ ∃ N:V->Hp->Prop,
   (∀ y H3,N y H3->H3 s2.heap.objs.size=some (.lst ys) /\ ∃ m',m'<m/\W (i+1) m' (ys++[y]) (upd H3 s2.heap.objs.size (.lst (ys++[y])))) /\
   ∀ x H',J.yld i H x H'->tt (some x::fr.map fun j=>(σ[j]?).getD none) H' fun b H3=>if b=true then te (some x::fr.map fun j=>(σ[j]?).getD none) H3 N else ∃ m',m'<m/\W (i+1) m' ys H3)))
  (hRR:∀(C:Addr)(H6:Hp)(s6:Shared)(m6:Mg),s6.heap.Ns C m6->Inv X pins σ H6 s6->FpOk X pins H6 C->R H6->RR (.ref s2.heap.objs.size) C (.ok .next) s6) :
  wpAny (model X.prog X.w) X.A (newList []) (fun acc s₃=>wpAny (model X.prog X.w) X.A (newFunctionEnv scope X.env.globals cl [] X.env.qual none .none (some X.env)) (fun cenv s₄=>
   codeAny (model X.prog X.w) X.A (.compStart (.ListComp elt [⟨.Name x px,itr,[cc],0⟩] scope pos) 0 (.ref it) acc { cenv with scope:=relabel scope X.env }) (RR acc cenv.locals) s₄) E s₃) E s2:=by
 refine q234 (TN:=[]) (gt:=gName 0) (tt:=tt) hc he (fun C s h f=>q663 (hct C s h f)) (fun _ _ _ _=>q96 hok.nd rfl (.inl ?_) (.inr ?_)) hcl hcn hsc hk ⟨hok.has,hok.nc,hok.names,hok.frs⟩ hfr I2 T st2 f2 w0 (fun i m ys H h=>?_) hRR
 ·exact q400 hsc hok.hx'
 ·exact q400 hsc hok.hx'
 obtain⟨a,b⟩:=turn i m ys H h
 exists a
 rcases b with b | ⟨g,l,N,h1,h2⟩
 ·exact .inl b
 refine .inr ⟨g,l,N,fun H3=>∃ m',m'<m/\W (i+1) m' ys H3,h1,fun _ z=>z,fun x H' y vs hv=>?_⟩
 match vs,hv with
 | [v0],_=>exact⟨⟨[some x],rfl,rfl⟩,h2 x H' y⟩
theorem q64{X:Cx}{elt itr cc:Expr}{x:Str}{px pos:Pos}{scope sc0:Scope}{cl:List (Str×Addr)}{cn N:List Str}{fr:List Nat}{wi:TI}{tt:TT}{te:TE}
  (hc:X.calm=true) (hi:PI X (.Name x px) itr wi) (he:∀(C:Addr)(s₂:Shared)(H₂:Hp)(fp:List Addr),PE (q48 X scope cl C x N s₂ H₂ fp) elt te) (hct:∀(C:Addr)(s₂:Shared)(H₂:Hp)(fp:List Addr),PT (q48 X scope cl C x N s₂ H₂ fp) cc tt)
  (hclos:closureFor scope X.env=pure cl) (hcl:q85 X.env cl) (hcn:cl.map (·.1)=cn) (hsc:X.env.scope=sc0) (hk:scope.kind = .function) (hok:CompOk scope sc0 x N cn)
  (hfr:fr.map (fun j=>X.N[j]?)=N.map some) (hs:∀ v,foldedSetIterable itr X.env v=pure v:=by intro _;rfl) :
  PE X (.ListComp elt [⟨.Name x px,itr,[cc],0⟩] scope pos) (q679 wi tt te fr):=by
 intro pins s σ H Q I h
 rw[eval_ListComp]
 refine wpAny_comprehension_free (use:=none) rfl hs hclos hk hok.names (thn (hi pins s σ H _ I h) fun v s1 h1=>thn h1 fun itv s2 h2=>?_)
 obtain⟨it,fp,tn,J,H2,e,I2,T,st2,f2,hq⟩:=h2
 subst e
 obtain⟨W,⟨m0,w0⟩,turn⟩:=hq s2.heap.objs.size (I2.hok.fresh (ZG _))
 exact q296 (RR:=fun acc C=>compPost (model X.prog X.w) X.A X.xe none (EP X pins σ Q) acc C) (R:=fun H6=>Q (.ref s2.heap.objs.size) H6) hc he hct hcl hcn hsc hk hok hfr I2 T st2 f2 w0 turn
  fun C H6 s6 m6 hn I6 F6 q=>⟨m6,hn,fun h' sb=>⟨.ref s2.heap.objs.size,H6,I6.let_go F6 sb,rfl,q⟩⟩
noncomputable def q611(i:Nat)(wi:TI)(tt:TT)(te:TE)(fr:List Nat):TS:=fun D σ H=>q679 wi tt te fr σ H fun v H1=>D.nx (σ.set i (some v)) H1
theorem q453{X:Cx}{i:Nat}{spos:Pos}{scope:Scope}{cl:List (Str×Addr)}{N:List Str}{fr:List Nat}
  (hN:X.N.Nodup) (hiN:X.N[i]? = some y) (hy:Loc X.env.scope y)
  (hc:X.calm=true) (hi:PI X (.Name x px) itr wi) (he:∀(C:Addr)(s₂:Shared)(H₂:Hp)(fp:List Addr),PE (q48 X scope cl C x N s₂ H₂ fp) elt te) (hct:∀(C:Addr)(s₂:Shared)(H₂:Hp)(fp:List Addr),PT (q48 X scope cl C x N s₂ H₂ fp) cc tt)
  (hclos:closureFor scope X.env=pure cl) (hcl:q85 X.env cl) (hcn:cl.map (·.1)=cn) (hsc:X.env.scope=sc0) (hk:scope.kind = .function) (hok:CompOk scope sc0 x N cn)
  (hfr:fr.map (fun j=>X.N[j]?)=N.map some) (hsw:swapsWith (.ListComp elt [⟨.Name x px,itr,[cc],0⟩] scope pos) (some (.Name y py)) spos.line X.env=pure true)
  (hf:X.fn y=true\/X.env.scope.names.lookup y=some .local) (hs:∀ v,foldedSetIterable itr X.env v=pure v:=by intro _;rfl) :
  PS X (.Assign [.Name y py] (.ListComp elt [⟨.Name x px,itr,[cc],0⟩] scope pos) spos) (q611 i wi tt te fr):=by
 intro pins s σ H D I h
 rw[exec_Assign_Name_used _ _ _ _ hsw]
 refine ZC (wpAny_standAt (ZC ?_))
 show wpAny _ X.A (do let _ <- comprehension (.ListComp elt [⟨.Name x px,itr,[cc],0⟩] scope pos) scope X.env _ (newList []) false (eval itr X.env) (some (assign (.Name y py) X.env))) _ _ s
 refine ZC (WW (wpAny_comprehension_free (use:=some (assign (.Name y py) X.env)) (Q:=fun _ s'=>SP X pins D .next s') rfl hs hclos hk hok.names
  (thn (hi pins s σ H _ I h) fun v s1 h1=>thn h1 fun itv s2 h2=>?_)) (fun _ s' hq=>ZM (ZM hq)) fun _ _ e=>e)
 obtain⟨it,fp,tn,J,H2,e,I2,T,st2,f2,hq⟩:=h2
 subst e
 obtain⟨W,⟨m0,w0⟩,turn⟩:=hq s2.heap.objs.size (I2.hok.fresh (ZG _))
 refine q296 (RR:=fun acc C=>compPost (model X.prog X.w) X.A X.xe (some (assign (.Name y py) X.env)) (fun _ s'=>SP X pins D .next s') acc C) (R:=fun H6=>D.nx (σ.set i (some (.ref s2.heap.objs.size))) H6) hc he hct hcl hcn hsc hk hok hfr I2 T st2 f2 w0 turn
  fun C H6 s6 m6 hn I6 F6 q=>?_
 show wpAny _ X.A (assign (.Name y py) X.env (.ref s2.heap.objs.size)) _ _ _
 refine wpAny_assign_Name (q287 (v:=.ref s2.heap.objs.size) I6 hN hiN hy rfl (fun s7 I7 ⟨a,sb,ha⟩=>?_) hf)
 have neC:C≠a:=by
  rcases ha with ha | ha
  ·rw[ha];exact F6.2.1
  ·exact Ne.symm (F6.2.2.2.2.1 y a ha)
 exact⟨m6,hn.sameBut sb neC,fun h' sb'=>⟨_,H6,I7.let_go F6 sb',q⟩⟩
theorem q512{K:Fg}{a:Addr}{xs:List V}{p:V->Bool}{g:V->V}{Tt:V->Hp->(Bool->Hp->Prop)->Prop}{Te:V->Hp->(V->Hp->Prop)->Prop}{D:Addr}{H1:Hp}{R:Hp->Prop}
  (ha:SqL K H1 a xs) (hD:H1 D=none) (hn:xs.length<=sizeLine) (hT:∀ x∈xs,∀(H:Hp)(Q:Bool->Hp->Prop),Same H1 H->Q (p x) H->Tt x H Q) (hE:∀ x∈xs,p x=true -> ∀(H:Hp)(Q:V->Hp->Prop),Same H1 H->Q (g x) H->Te x H Q)
  (hR:R (upd H1 D (.lst ((xs.filter p).map g)))) :
  ∃ W:Nat->Nat->List V->Hp->Prop,(∃ m,W 0 m [] (upd H1 D (.lst []))) /\
   ∀ i m ys H2,W i m ys H2->H2 D=some (.lst ys)/\(((Itl K a).stop i H2/\R H2)\/((Itl K a).go i H2/\ys.length<sizeLine /\ ∃ N:V->Hp->Prop,(∀ y H3,N y H3->H3 D=some (.lst ys) /\ ∃ m',m'<m/\W (i+1) m' (ys++[y]) (upd H3 D (.lst (ys++[y])))) /\
    ∀ x H',(Itl K a).yld i H2 x H'->Tt x H' fun b H3=>if b=true then Te x H3 N else ∃ m',m'<m/\W (i+1) m' ys H3)):=by
 exists fun i m ys H=>m=xs.length-i/\i<=xs.length/\ys=((xs.take i).filter p).map g/\H=upd H1 D (.lst ys),⟨xs.length,by simp,WB _,by simp,rfl⟩
 rintro i m ys H2 ⟨rfl,hi,hy,rfl⟩
 have sm:=q15 hD (.lst ys)
 have q:=sm.seq ha
 have hyl:ys.length<=i:=by
  rw[hy,ZN]
  exact ZR (YE _ _) (by rw[length_take];exact Nat.min_le_left _ _)
 exists q13
 by_cases hlt:i<xs.length
 ·refine .inr ⟨⟨xs,xs[i],q,by simp[hlt]⟩,∅,fun y H3=>H3=upd H1 D (.lst ys)/\y=g xs[i]/\p xs[i]=true,fun y H3 ⟨z1,z2,z3⟩=>⟨by rw[z1];exact q13,xs.length-(i+1),∅,rfl,hlt,?eq,by rw[z1,q84]⟩,fun x H' y=>?st⟩
  case eq=>
   rw[take_succ_eq_append_getElem hlt,filter_append,WQ,<- hy,z2]
   simp[z3]
  case st=>
   obtain⟨e,y⟩:=y
   subst e
   have hx:xs[i]? = some x:=y xs q
   have hx':xs[i]=x:=by simpa [hlt] using hx
   have hm:x∈xs:=by rw[<- hx'];exact getElem_mem hlt
   refine hT x hm _ _ sm ?_
   by_cases hp:p x=true
   ·rw[ZJ hp]
    exact hE x hm hp _ _ sm ⟨rfl,by rw[hx'],by rw[hx'];exact hp⟩
   ·rw[ZI hp]
    refine⟨xs.length-(i+1),∅,rfl,hlt,?_,rfl⟩
    rw[take_succ_eq_append_getElem hlt,filter_append,WQ,<- hy,hx']
    simp[hp]
 ·have e:i=xs.length:=∅
  subst e
  refine .inl ⟨⟨xs,q,ZG _⟩,?_⟩
  rw[hy,YD]
  exact hR
section
variable {P:Program} {w:World} {K:Fg} {mg:Mg} {base:Heap}
def prevSp(sp:Nat->Sp):Nat->Sp
 | 0=>fun _ _ _ _=>False
 | e+1=>sp e
theorem Def.recur{sp:Nat->Sp}{x:Str}{st:Stmt}{ps:List Str}(d:Def K mg x st ps){k:Nat}(n:Nat)
  (step:∀ e,e<=n->Cal P w K mg base (e+k) x ps (prevSp sp e) -> ∀(f:Addr)(fd:FuncData),Fun K x x st f fd->FnOk P w K mg base CX0 (e+(k+1)) f fd ps (sp e)) :
  Cal P w K mg base (n+(k+1)) x ps (fun vs H Q E=>∃ e,e<=n/\sp e vs H Q E):=by
 obtain⟨f,fd,h1,h2,h3⟩:=d.ex
 have all:∀ e,e<=n->FnOk P w K mg base CX0 (e+(k+1)) f fd ps (sp e):=by
  intro e
  induction e with
  | zero=>exact fun he=>step 0 he ⟨f,fd,⟨fun _ _ _ _ h=>h.elim,fun _ _ _ _ _ _ _ _ _ _ _ _ _ h=>h.elim⟩,.all h2,h1.kp,h3⟩ f fd h1
  | succ e ih=>exact fun he=>step (e+1) he ⟨f,fd,(ih ∅).mono ∅,.all h2,h1.kp,h3⟩ f fd h1
 refine⟨f,fd,⟨?_,?_⟩,.all h2,h1.kp,h3⟩
 ·rintro vs H Q E ⟨e,he,h⟩
  exact(all e he).len vs H Q E h
 ·rintro A outer s H args us vs Q E hr he hb hv ⟨e,hle,h⟩
  exact(all e hle).run A outer s H args us vs Q E (hr.mono ∅) he hb hv h
end
theorem q612{K:Fg}{a:Addr}{xs:List V}{g:V->V}{Te:V->Hp->(V->Hp->Prop)->Prop}{D:Addr}{H1:Hp}{R:Hp->Prop}
  (ha:SqL K H1 a xs) (hD:H1 D=none) (hn:xs.length<=sizeLine) (hE:∀ x∈xs,∀(H:Hp)(Q:V->Hp->Prop),Same H1 H->Q (g x) H->Te x H Q) (hR:R (upd H1 D (.lst (xs.map g)))) :
  ∃ W:Nat->Nat->List V->Hp->Prop,(∃ m,W 0 m [] (upd H1 D (.lst []))) /\
   ∀ i m ys H2,W i m ys H2->H2 D=some (.lst ys)/\(((Itl K a).stop i H2/\R H2)\/((Itl K a).go i H2/\ys.length<sizeLine /\ ∃ N:V->Hp->Prop,(∀ y H3,N y H3->H3 D=some (.lst ys) /\ ∃ m',m'<m/\W (i+1) m' (ys++[y]) (upd H3 D (.lst (ys++[y])))) /\
    ∀ x H',(Itl K a).yld i H2 x H'->Te x H' N)):=by
 exists fun i m ys H=>m=xs.length-i/\i<=xs.length/\ys=(xs.take i).map g/\H=upd H1 D (.lst ys),⟨xs.length,by simp,WB _,by simp,rfl⟩
 rintro i m ys H2 ⟨rfl,hi,hy,rfl⟩
 have sm:=q15 hD (.lst ys)
 have q:=sm.seq ha
 have hyl:ys.length<=i:=by
  rw[hy,ZN,length_take];exact Nat.min_le_left _ _
 exists q13
 by_cases hlt:i<xs.length
 ·refine .inr ⟨⟨xs,xs[i],q,by simp[hlt]⟩,∅,fun y H3=>H3=upd H1 D (.lst ys)/\y=g xs[i],fun y H3 ⟨z1,z2⟩=>⟨by rw[z1];exact q13,xs.length-(i+1),∅,rfl,hlt,?eq,by rw[z1,q84]⟩,fun x H' y=>?st⟩
  case eq=>
   rw[take_succ_eq_append_getElem hlt,WQ,<- hy,z2]
   rfl
  case st=>
   obtain⟨e,y⟩:=y
   subst e
   have hx:xs[i]? = some x:=y xs q
   have hx':xs[i]=x:=by simpa [hlt] using hx
   have hm:x∈xs:=by rw[<- hx'];exact getElem_mem hlt
   exact hE x hm _ _ sm ⟨rfl,by rw[hx']⟩
 ·have e:i=xs.length:=∅
  subst e
  refine .inl ⟨⟨xs,q,ZG _⟩,?_⟩
  rw[hy,YD]
  exact hR
inductive Rop_eqL(K:Fg)(x:V)(y:V)(H:Hp)(Q:VK):Prop
 |mk(a b:Addr)(ns ms:List Int)(_:x = .ref a)(_:y = .ref b)(_:SqL K H a (ns.map V.int))(_:SqL K H b (ms.map V.int))(_:Q (.bl (decide (ns=ms))) H)
theorem op_eqL(hu:X.A.units+64<cLine):OpR X (compareOp .Eq) (Rop_eqL X.K):=by
 intro pins s σ H x y v u Q I rx ry h
 obtain⟨a,b,ns,ms,rfl,rfl,ha,hb,q⟩:=h
 cases rx
 cases ry
 obtain⟨its,r1,p1,_⟩:=I.list ha
 obtain⟨its2,r2,p2,_⟩:=I.list hb
 exact PySem.W.ke_eq_ints p1.isList p2.isList (q58 r1) (q58 r2) hu ⟨.bl _,H,I,rfl,q⟩
inductive q402(K:Fg)(xs:List V)(H:Hp)(Q:VK):Prop
 |mk(p:Addr)(ns:List Int)(_:xs=[.ref p])(_:SqL K H p (ns.map V.int))(_:ns.length<64)(_:∀(l:Addr)(ms:List Int),H l=none->ms.Perm ns->ms.Pairwise (· <= ·)->Q (.ref l) (upd H l (.lst (ms.map V.int))))
theorem q454:CallR X (.builtin "sorted") (q402 X.K):=by
 intro pins s σ H xs us Q I r h
 obtain⟨p,ns,rfl,hq,h64,q⟩:=h
 obtain⟨u,rfl,rx⟩:=vals1 r
 cases rx
 obtain⟨its,r',pl,hz⟩:=I.list hq
 have hl:=r'.length
 rw[ZN]at hl hz
 refine PyProof.Rows.sorted_ints pl.isList (q58 r') ∅ fun out ms a1 a2 a3=>?_
 obtain⟨e,he⟩:=PyProof.Rows.sortedAll_at s.heap its out
 have hml:ms.length=ns.length:=a2.length_eq
 refine⟨.ref (s.heap.objs.size+1),_,I.laid (t':=s.toks) (a:=s.heap.objs.size+1) (o:=.lst (ms.map V.int)) (fun b ob z=>PyProof.Rows.sortedAll_old z) (Nat.le_succ _) ?_,rfl,q _ ms (I.hok.fresh (Nat.le_succ _)) a2 a3⟩
 exists by rw[ZN];lia,out.toList,e,q293 a1
 rw[he]
section
variable {K:Fg}
theorem q69(h:X.K=K):IxR X (rIxT K):=by subst h;exact q26
theorem q552(h:X.K=K):IxR X (rIxL K):=by subst h;exact q31
theorem q680(h:X.K=K):CallR X (.builtin "len") (q125 K):=by subst h;exact q257
theorem pe_bmK{o e:Expr}{es:List Expr}{to:TE}{t:TA}{name:Str}{apos cpos:Pos}{T id:String}{r:V->List V->Hp->VK->Prop}(h:X.K=K)
  (pa:PlainAttrs T) (slot:Slot T name id) (hty:typeOf (.builtin id)=pure (.type "method_descriptor")) (hm:MtR X id r) (ho:PE X o to) (ha:PA X (e::es) t)
  (hbase:attributeBase o name X.env (eval o X.env)=eval o X.env:=by rfl)
  (hfew:((backTo cpos (starEach (e::es) X.env)).all (fun x=>!x.1)&&(backToKw cpos (keywordEach [] X.env)).all (fun x=>x.1.isSome)&&decide ((e::es).length+([]:List Keyword).length+(if([]:List Keyword).isEmpty then 0 else 1)<30))=true:=by rfl)
  (hline:(apos.endLine==cpos.line)=true:=by rfl) (hs:starEach (e::es) X.env=(false,eval e X.env)::starEach es X.env:=by rfl) (hplain:(backTo cpos (starEach es X.env)).any (·.1)=false:=by rfl) :
  PE X (.Call (.Attribute o name apos) (e::es) [] cpos) (tBM K T r to t):=by subst h;exact pe_bm pa slot hty hm ho ha hbase hfew hline hs hplain
end
inductive Tr where
 | non
 | many (n:Int)
 | part (ms:List Int) (l r:Tr)
noncomputable def q55(H:Hp):V->Tr->Prop
 | v,.non=>v = .non
 | v,.many n=>∃ a,v = .ref a/\H a=some (.tup [.str "many", .int n])
 | v,.part ms l r=>∃ a m x y,v = .ref a/\H a=some (.tup [.str "part", .ref m,x,y])/\TupF H m (ms.map V.int)/\q55 H x l/\q55 H y r
def TKeep(H H':Hp):Prop:=∀ b xs,(H b=some (.tup xs)->H' b=some (.tup xs)) /\ ∀ o,H b=some (.frz o (.tup xs))->H' b=some (.frz o (.tup xs))
theorem TKeep.trans(a:TKeep H H1)(b:TKeep H1 H2):TKeep H H2:=fun c xs=>⟨fun h=>(b c xs).1 ((a c xs).1 h),fun o h=>(b c xs).2 o ((a c xs).2 o h)⟩
theorem TKeep.same(s:Same H H'):TKeep H H':=fun _ _=>⟨s _ _,fun _=>s _ _⟩
theorem TKeep.keep(s:Keep p H H')(e:H p=some (.lst ys)):TKeep H H':=fun _ _=>⟨fun h=>s _ _ (ne_of h e (by intro z;cases z)) h,fun _ h=>s _ _ (ne_of h e (by intro z;cases z)) h⟩
theorem TKeep.set(e:H p=some (.lst ys)):TKeep H (upd H p (.lst zs)):=.keep (Keep.set p H _) e
theorem TupF.tk(h:TupF H a xs)(s:TKeep H H'):TupF H' a xs:=by
 obtain⟨o,h,c⟩:=h
 exact⟨o,(s _ _).2 o h,c⟩
theorem q55.tk{H H':Hp}(s:TKeep H H'):∀{t:Tr}{v:V},q55 H v t->q55 H' v t
 | .non,_,h=>h
 | .many _,_,⟨a,e,h⟩=>⟨a,e,(s _ _).1 h⟩
 | .part _ _ _,_,⟨a,m,x,y,e,h,hm,hl,hr⟩=>⟨a,m,x,y,e,(s _ _).1 h,hm.tk s,q55.tk s hl,q55.tk s hr⟩
theorem q55.same(s:Same H H')(h:q55 H v t):q55 H' v t:=h.tk (.same s)
theorem q403{A:Around}{xs ys:List V}(I:Inv X pins σ H s)(ha:SqT X.K H a xs)(hb:SqT X.K H b ys)(hl:xs.length=ys.length)
  (he:∀(j:Nat)(x y:V),xs[j]? = some x->ys[j]? = some y -> ∀ u v,RelV x u->RelV y v->SeqAt.EqAt A.in1 s u v true) (hu:A.units<cLine) :
  SeqAt.RcAt A s (.ref a) (.ref b) true/\SeqAt.RcNeAt A s (.ref a) (.ref b) false:=by
 obtain⟨its,r1,p1,_⟩:=I.tuple ha
 obtain⟨its2,r2,p2,_⟩:=I.tuple hb
 have l1:=r1.length
 have l2:=r2.length
 have hz:its.toArray.size=its2.toArray.size:=by rw[ZX,ZX];lia
 have el:∀(j:Nat)(h1:j<its.toArray.size)(h2:j<its2.toArray.size),SeqAt.EqAt A.in1 s its.toArray[j] its2.toArray[j] ((fun _=>true) j):=by
  intro j h1 h2
  have h1':j<xs.length:=by rw[ZX]at h1;lia
  have h2':j<ys.length:=by rw[ZX]at h2;lia
  obtain⟨v1,e1,r1'⟩:=r1.get (i:=j) (x:=xs[j]) (ZP h1')
  obtain⟨v2,e2,r2'⟩:=r2.get (i:=j) (x:=ys[j]) (ZP h2')
  have g1:its.toArray[j]=v1:=by
   have:=List.getElem?_eq_some_iff.mp e1
   simpa using this.2
  have g2:its2.toArray[j]=v2:=by
   have:=List.getElem?_eq_some_iff.mp e2
   simpa using this.2
  rw[g1,g2]
  exact he j _ _ (ZP h1') (ZP h2') _ _ r1' r2'
 have t0:((List.range (min its.toArray.size its2.toArray.size)).all (fun _=>true)&&its.toArray.size==its2.toArray.size)=true:=by
  rw[hz];simp
 constructor
 ·rw[<- t0]
  exact SeqAt.RcAt.tuples p1 p2 hu el
 ·have z:=SeqAt.RcNeAt.tuples (e:=fun _=>true) p1 p2 hu el
  rw[t0]at z
  exact z
theorem q404(h:SeqAt.RcAt A s (.ref a) (.ref b) true):SeqAt.EqAt A s (.ref a) (.ref b) true:=by
 by_cases e:a=b
 ·subst e
  exact SeqAt.EqAt.same _
 ·exact .of_refs e h
theorem eqAt_int{i:Int}(r1:RelV (.int i) u)(r2:RelV (.int i) v):SeqAt.EqAt A s u v true:=by
 have z:=q444 (A:=A) (s:=s) r1 r2 rfl rfl
 have e:eqV (.int i) (.int i)=true:=by simp[eqV]
 rw[e]at z
 exact z
theorem q681{A:Around}{ns:List Int}(I:Inv X pins σ H s)(ha:SqT X.K H a (ns.map V.int))(hb:SqT X.K H b (ns.map V.int))(hu:A.units<cLine) :
  SeqAt.RcAt A s (.ref a) (.ref b) true/\SeqAt.RcNeAt A s (.ref a) (.ref b) false:=by
 refine q403 I ha hb rfl (fun j x y h1 h2 u v r1 r2=>?_) hu
 rw[h1]at h2
 cases h2
 rw[WN]at h1
 cases e:ns[j]? with
 | none=>rw[e]at h1;cases h1
 | some n=>
  rw[e]at h1
  cases h1
  exact eqAt_int r1 r2
noncomputable def onI{α:Type}(f:Int->α)(d:α):V->α
 | .int n=>f n
 | _=>d
theorem filt_onI{p:Int->Bool}{g:Int->V}(ns:List Int):(((ns.map V.int).filter (onI p false)).map (onI g .non))=(ns.filter p).map g:=by
 induction ns with
 | nil=>rfl
 | cons n ns ih=>
  rw[map_cons,YI,YI]
  have e:onI p false (.int n)=p n:=rfl
  rw[e]
  by_cases h:p n=true
  ·rw[ZJ h,ZJ h,map_cons,map_cons,ih];rfl
  ·rw[ZI h,ZI h];exact ih
section
variable {K:Fg} {a:Addr} {ns:List Int} {p:Int->Bool} {g:Int->V} {Tt:V->Hp->(Bool->Hp->Prop)->Prop} {Te:V->Hp->(V->Hp->Prop)->Prop} {D:Addr} {H1:Hp} {R:Hp->Prop}
theorem q98(ha:SqL K H1 a (ns.map V.int))(hD:H1 D=none)(hn:ns.length<=sizeLine)(hT:∀ n∈ns,∀(H:Hp)(Q:Bool->Hp->Prop),Same H1 H->Q (p n) H->Tt (.int n) H Q)
  (hE:∀ n∈ns,p n=true -> ∀(H:Hp)(Q:V->Hp->Prop),Same H1 H->Q (g n) H->Te (.int n) H Q) (hR:R (upd H1 D (.lst ((ns.filter p).map g)))) :
  ∃ W:Nat->Nat->List V->Hp->Prop,(∃ m,W 0 m [] (upd H1 D (.lst []))) /\
   ∀ i m ys H2,W i m ys H2->H2 D=some (.lst ys)/\(((Itl K a).stop i H2/\R H2)\/((Itl K a).go i H2/\ys.length<sizeLine /\ ∃ N:V->Hp->Prop,(∀ y H3,N y H3->H3 D=some (.lst ys) /\ ∃ m',m'<m/\W (i+1) m' (ys++[y]) (upd H3 D (.lst (ys++[y])))) /\
    ∀ x H',(Itl K a).yld i H2 x H'->Tt x H' fun b H3=>if b=true then Te x H3 N else ∃ m',m'<m/\W (i+1) m' ys H3)):=by
 refine q512 (p:=onI p false) (g:=onI g .non) ha hD (by rw[ZN];exact hn) (fun x hx H Q s q=>?_) (fun x hx hp H Q s q=>?_) (by rw[filt_onI];exact hR)
 ·obtain⟨n,hm,rfl⟩:=List.mem_map.mp hx
  exact hT n hm H Q s q
 ·obtain⟨n,hm,rfl⟩:=List.mem_map.mp hx
  exact hE n hm hp H Q s q
theorem q682(ha:SqL K H1 a (ns.map V.int))(hD:H1 D=none)(hn:ns.length<=sizeLine)(hE:∀ n∈ns,∀(H:Hp)(Q:V->Hp->Prop),Same H1 H->Q (g n) H->Te (.int n) H Q)(hR:R (upd H1 D (.lst (ns.map g)))) :
  ∃ W:Nat->Nat->List V->Hp->Prop,(∃ m,W 0 m [] (upd H1 D (.lst []))) /\
   ∀ i m ys H2,W i m ys H2->H2 D=some (.lst ys)/\(((Itl K a).stop i H2/\R H2)\/((Itl K a).go i H2/\ys.length<sizeLine /\ ∃ N:V->Hp->Prop,(∀ y H3,N y H3->H3 D=some (.lst ys) /\ ∃ m',m'<m/\W (i+1) m' (ys++[y]) (upd H3 D (.lst (ys++[y])))) /\
    ∀ x H',(Itl K a).yld i H2 x H'->Te x H' N)):=by
 refine q612 (g:=onI g .non) ha hD (by rw[ZN];exact hn) (fun x hx H Q s q=>?_) (by rw[map_map];exact hR)
 obtain⟨n,hm,rfl⟩:=List.mem_map.mp hx
 exact hE n hm H Q s q
end
theorem Keep.free(k:Keep p H H')(hl:H' l=none)(hp:H' p=some o):H l=none:=by
 cases e:H l with
 | none=>rfl
 | some u=>
  have n:l≠p:=fun z=>by rw[z,hp]at hl;cases hl
  rw[k l u n e]at hl
  cases hl
theorem Keep.own(k:Keep p H H')(hr:H r=none):Keep p H (upd H' r o):=fun c u hc z=>by
 rw[q27 (q24 z hr)]
 exact k c u hc z
theorem p2pos(L:Nat):(0:Int)<2^L:=by
 induction L with
 | zero=>decide
 | succ L ih=>rw[YJ];lia
theorem p2le{L:Nat}(h:L<=40):(2:Int)^L<=1099511627776:=by
 have e:(2:Int)^L=((2^L:Nat):Int):=by simp
 have:2^L<=2^40:=Nat.pow_le_pow_right {} h
 rw[e]
 have e2:(2:Nat)^40=1099511627776:={}
 lia
theorem q553(L:Nat):(1:Int)*2^((L:Int)).toNat=2^L:=by rw[Int.one_mul];rfl
inductive Alk(K:Fg)(H:Hp):Nat->V->V->Prop where
 | flat {n:Nat} {x:V} (h:flatV x=true):Alk K H n x x
 | tup {n:Nat} {a b:Addr} {xs ys:List V} (ha:SqT K H a xs) (hb:SqT K H b ys) (hl:xs.length=ys.length) (h:∀(j:Nat)(x y:V),xs[j]? = some x->ys[j]? = some y->Alk K H n x y):Alk K H (n+1) (.ref a) (.ref b)
 | lst {n:Nat} {a b:Addr} {xs ys:List V} (ha:SqL K H a xs) (hb:SqL K H b ys) (hl:xs.length=ys.length) (h:∀(j:Nat)(x y:V),xs[j]? = some x->ys[j]? = some y->Alk K H n x y):Alk K H (n+1) (.ref a) (.ref b)
theorem eqV_self:∀{x:V},flatV x=true->eqV x x=true:=by
 intro x h
 cases x <;> simp[flatV]at h <;> simp[eqV]
theorem q554{A:Around}{xs ys:List V}(I:Inv X pins σ H s)(ha:SqL X.K H a xs)(hb:SqL X.K H b ys)(hl:xs.length=ys.length)
  (he:∀(j:Nat)(x y:V),xs[j]? = some x->ys[j]? = some y -> ∀ u v,RelV x u->RelV y v->SeqAt.EqAt A.in1 s u v true) (hu:A.units<cLine) :
  SeqAt.RcAt A s (.ref a) (.ref b) true/\SeqAt.RcNeAt A s (.ref a) (.ref b) false:=by
 obtain⟨its,r1,p1,_⟩:=I.list ha
 obtain⟨its2,r2,p2,_⟩:=I.list hb
 have l1:=r1.length
 have l2:=r2.length
 have hz:its.toArray.size=its2.toArray.size:=by rw[ZX,ZX];lia
 have el:∀(j:Nat)(h1:j<its.toArray.size)(h2:j<its2.toArray.size),SeqAt.EqAt A.in1 s its.toArray[j] its2.toArray[j] ((fun _=>true) j):=by
  intro j h1 h2
  have h1':j<xs.length:=by rw[ZX]at h1;lia
  have h2':j<ys.length:=by rw[ZX]at h2;lia
  obtain⟨v1,e1,r1'⟩:=r1.get (i:=j) (x:=xs[j]) (ZP h1')
  obtain⟨v2,e2,r2'⟩:=r2.get (i:=j) (x:=ys[j]) (ZP h2')
  have g1:its.toArray[j]=v1:=by
   have:=List.getElem?_eq_some_iff.mp e1
   simpa using this.2
  have g2:its2.toArray[j]=v2:=by
   have:=List.getElem?_eq_some_iff.mp e2
   simpa using this.2
  rw[g1,g2]
  exact he j _ _ (ZP h1') (ZP h2') _ _ r1' r2'
 have t0:(List.range its.toArray.size).all (fun _=>true)=true:=by simp
 constructor
 ·rw[<- t0]
  exact SeqAt.RcAt.lists p1.isList p2.isList hz hu el
 ·have z:=SeqAt.RcNeAt.lists (e:=fun _=>true) p1.isList p2.isList hz hu el
  rw[t0]at z
  exact z
theorem q555(I:Inv X pins σ H s){n:Nat}(h:Alk X.K H n x y):∀(A:Around)(u v:Value),RelV x u->RelV y v->A.units+n+1<cLine->SeqAt.EqAt A s u v true:=by
 induction h with
 | @flat n x hf=>
  intro A u v ru rv hu
  have z:=q444 (A:=A) (s:=s) ru rv hf hf
  rw[eqV_self hf]at z
  exact z
 | tup ha hb hl _ ih=>
  intro A u v ru rv hu
  cases ru
  cases rv
  exact q404 (q403 I ha hb hl (fun j x y h1 h2 u v r1 r2=>ih j x y h1 h2 A.in1 u v r1 r2 (by show A.units+1+_+1<cLine;lia)) ∅).1
 | lst ha hb hl _ ih=>
  intro A u v ru rv hu
  cases ru
  cases rv
  exact q404 (q554 I ha hb hl (fun j x y h1 h2 u v r1 r2=>ih j x y h1 h2 A.in1 u v r1 r2 (by show A.units+1+_+1<cLine;lia)) ∅).1
theorem alk_refs(I:Inv X pins σ H s){n:Nat}(h:Alk X.K H n (.ref a) (.ref b))(A:Around)(hu:A.units+n+1<cLine):SeqAt.RcAt A s (.ref a) (.ref b) true/\SeqAt.RcNeAt A s (.ref a) (.ref b) false:=by
 cases h with
 | flat hf=>exact absurd hf (by simp[flatV])
 | tup ha hb hl h=>exact q403 I ha hb hl (fun j x y h1 h2 u v r1 r2=>q555 I (h j x y h1 h2) A.in1 u v r1 r2 (by show A.units+1+_+1<cLine;lia)) ∅
 | lst ha hb hl h=>exact q554 I ha hb hl (fun j x y h1 h2 u v r1 r2=>q555 I (h j x y h1 h2) A.in1 u v r1 r2 (by show A.units+1+_+1<cLine;lia)) ∅
inductive q683(K:Fg)(x:V)(y:V)(H:Hp)(Q:VK):Prop
 |mk(n:Nat)(a b:Addr)(_:x = .ref a)(_:y = .ref b)(_:Alk K H n (.ref a) (.ref b))(_:n<=60)(_:Q (.bl true) H)
theorem op_eqAlk(hu:X.A.units+64<cLine):OpR X (compareOp .Eq) (q683 X.K):=by
 intro pins s σ H x y v u Q I rx ry h
 obtain⟨n,a,b,rfl,rfl,hk,hn,q⟩:=h
 cases rx
 cases ry
 exact(alk_refs I hk X.A ∅).1 _ _ _ _ ⟨.bl true,H,I,rfl,q⟩
theorem q405{X:Cx}{pos:Pos}{scope:Scope}{cl:List (Str×Addr)}{N:List Str}{fr:List Nat}
  (hc:X.calm=true) (hi:PI X tg itr wi) (he:∀(C:Addr)(s₂:Shared)(H₂:Hp)(fp:List Addr),PE (q48 X scope cl C x (TN++N) s₂ H₂ fp) elt te) (hct:∀(C:Addr)(s₂:Shared)(H₂:Hp)(fp:List Addr),PTs (q48 X scope cl C x (TN++N) s₂ H₂ fp) ifs tt) (hgt:∀(C:Addr)(s₂:Shared)(H₂:Hp)(fp:List Addr),PG (q48 X scope cl C x (TN++N) s₂ H₂ fp) tg gt)
  (hclos:closureFor scope X.env=pure cl) (hcl:q85 X.env cl) (hcn:cl.map (·.1)=cn) (hsc:X.env.scope=sc0) (hk:scope.kind = .function) (hok:CompOkG scope sc0 N cn)
  (hfr:fr.map (fun j=>X.N[j]?)=N.map some) (hs:∀ v,foldedSetIterable itr X.env v=pure v:=by intro _;rfl) :
  PE X (.ListComp elt [⟨tg,itr,ifs,0⟩] scope pos) (tCompG (TN.length+1) wi gt tt te fr):=by
 intro pins s σ H Q I h
 rw[eval_ListComp]
 refine wpAny_comprehension_free (use:=none) rfl hs hclos hk hok.names (thn (hi pins s σ H _ I h) fun v s1 h1=>thn h1 fun itv s2 h2=>?_)
 obtain⟨it,fp,tn,J,H2,e,I2,T,st2,f2,hq⟩:=h2
 subst e
 obtain⟨W,⟨m0,w0⟩,turn⟩:=hq s2.heap.objs.size (I2.hok.fresh (ZG _))
 exact q234 (RR:=fun acc C=>compPost (model X.prog X.w) X.A X.xe none (EP X pins σ Q) acc C) (R:=fun H6=>Q (.ref s2.heap.objs.size) H6) hc he hct hgt hcl hcn hsc hk hok hfr I2 T st2 f2 w0 turn
  fun C H6 s6 m6 hn I6 F6 q=>⟨m6,hn,fun h' sb=>⟨.ref s2.heap.objs.size,H6,I6.let_go F6 sb,rfl,q⟩⟩
theorem q237{K:Fg}{a:Addr}{xs:List V}{Tn:V->Hp->(V->Hp->Prop)->(Hp->Prop)->Prop}{D:Addr}{H1:Hp}{R:Hp->Prop}(hn:xs.length<=sizeLine)(Pv:Nat->List V->Hp->Prop)(h0:Pv 0 [] (upd H1 D (.lst [])))
  (hl:∀ i ys H,Pv i ys H->SqL K H a xs) (hD:∀ i ys H,Pv i ys H->H D=some (.lst ys)/\ys.length<=i)
  (hs:∀ i x ys H,xs[i]? = some x->Pv i ys H->Tn x H (fun y H3=>H3 D=some (.lst ys)/\Pv (i+1) (ys++[y]) (upd H3 D (.lst (ys++[y])))) (Pv (i+1) ys))
  (hd:∀ ys H,Pv xs.length ys H->R H) :
  ∃ W:Nat->Nat->List V->Hp->Prop,(∃ m,W 0 m [] (upd H1 D (.lst []))) /\
   ∀ i m ys H2,W i m ys H2->H2 D=some (.lst ys)/\(((Itl K a).stop i H2/\R H2)\/((Itl K a).go i H2/\ys.length<sizeLine /\ ∃(N:V->Hp->Prop)(Z:Hp->Prop),(∀ y H3,N y H3->H3 D=some (.lst ys) /\ ∃ m',m'<m/\W (i+1) m' (ys++[y]) (upd H3 D (.lst (ys++[y]))))/\(∀ H3,Z H3 -> ∃ m',m'<m/\W (i+1) m' ys H3) /\
    ∀ x H',(Itl K a).yld i H2 x H'->Tn x H' N Z)):=by
 exists fun i m ys H=>m=xs.length-i/\i<=xs.length/\Pv i ys H,⟨xs.length,by simp,WB _,h0⟩
 rintro i m ys H2 ⟨rfl,hi,p⟩
 obtain⟨d1,d2⟩:=hD i ys H2 p
 have q:=hl i ys H2 p
 exists d1
 by_cases hlt:i<xs.length
 ·refine .inr ⟨⟨xs,xs[i],q,by simp[hlt]⟩,∅,fun y H3=>H3 D=some (.lst ys)/\Pv (i+1) (ys++[y]) (upd H3 D (.lst (ys++[y]))),Pv (i+1) ys,fun y H3 ⟨z1,z2⟩=>⟨z1,xs.length-(i+1),∅,rfl,hlt,z2⟩,fun H3 z=>⟨xs.length-(i+1),∅,rfl,hlt,z⟩,fun x H' y=>?_⟩
  obtain⟨e,y⟩:=y
  subst e
  exact hs i x ys _ (y xs q) p
 ·have e:i=xs.length:=∅
  subst e
  exact .inl ⟨⟨xs,q,ZG _⟩,hd ys H2 p⟩
inductive q613(K:Fg)(xs:List V)(H:Hp)(Q:VK):Prop
 |mk(p:Addr)(ns:List Int)(_:xs=[.ref p])(_:SqL K H p (ns.map V.int))(_:Q (.int ns.sum) H)
theorem q455(hc:X.calm=true):CallR X (.builtin "sum") (q613 X.K):=by
 intro pins s σ H xs us Q I r h
 obtain⟨p,ns,rfl,hq,q⟩:=h
 obtain⟨u,rfl,rx⟩:=vals1 r
 cases rx
 obtain⟨its,r',pl,hz⟩:=I.list hq
 have hi:=q58 r'
 obtain⟨ys,hx⟩:=hi.allInts.items
 have hl':s.heap.IsList p (intItems ys):=hx▸pl.isList
 refine sum_intListG (I.ok.hd hc) hl' fun h' tk t' hk=>?_
 have e1:ns=ys.toList.map (·.1):=by
  rw[<- nums_intItems,<- hx]
  exact(show numsOf its.toArray.toList=ns from hi.numsOf).symm
 have e2:preSum (numAt ys) ys.size=ns.sum:=by
  rw[preSum_eq,WT (by simp),e1]
 rw[e2]
 exact⟨.int ns.sum,H,I.kept (t':=tk) hk,⟨_,rfl⟩,q⟩
theorem q513{K:Fg}{es:List Expr}{k:Nat}{t:TGs}{n:Nat}{pos:Pos}(hK:X.K=K)(hc:X.calm=true)(h:PGs X es t)
  (hn:(assignEach es X.env).length=n:=by rfl) (hst:(assignEach es X.env).findIdx? (·.1)=none:=by rfl):PG X (.Tuple es k pos) (gTup K n t):=by subst hK;exact q200 hc h hn hst
theorem q70{K:Fg}{a:Addr}{xs:List V}{T:V->Hp->(V->Hp->Prop)->Prop}{D:Addr}{H1:Hp}{R:Hp->Prop}(hn:xs.length<=sizeLine)(Pv:Nat->List V->Hp->Prop)(h0:Pv 0 [] (upd H1 D (.lst [])))
  (hl:∀ i ys H,Pv i ys H->SqL K H a xs) (hD:∀ i ys H,Pv i ys H->H D=some (.lst ys)/\ys.length=i)
  (hs:∀ i x ys H,xs[i]? = some x->Pv i ys H->T x H fun y H3=>H3 D=some (.lst ys)/\Pv (i+1) (ys++[y]) (upd H3 D (.lst (ys++[y]))))
  (hd:∀ ys H,Pv xs.length ys H->R H) :
  ∃ W:Nat->Nat->List V->Hp->Prop,(∃ m,W 0 m [] (upd H1 D (.lst []))) /\
   ∀ i m ys H2,W i m ys H2->H2 D=some (.lst ys)/\(((Itl K a).stop i H2/\R H2)\/((Itl K a).go i H2/\ys.length<sizeLine /\ ∃ N:V->Hp->Prop,(∀ y H3,N y H3->H3 D=some (.lst ys) /\ ∃ m',m'<m/\W (i+1) m' (ys++[y]) (upd H3 D (.lst (ys++[y])))) /\
    ∀ x H',(Itl K a).yld i H2 x H'->T x H' N)):=by
 exists fun i m ys H=>m=xs.length-i/\i<=xs.length/\Pv i ys H,⟨xs.length,by simp,WB _,h0⟩
 rintro i m ys H2 ⟨rfl,hi,p⟩
 obtain⟨d1,d2⟩:=hD i ys H2 p
 have q:=hl i ys H2 p
 exists d1
 by_cases hlt:i<xs.length
 ·refine .inr ⟨⟨xs,xs[i],q,by simp[hlt]⟩,∅,fun y H3=>H3 D=some (.lst ys)/\Pv (i+1) (ys++[y]) (upd H3 D (.lst (ys++[y]))),fun y H3 ⟨z1,z2⟩=>⟨z1,xs.length-(i+1),∅,rfl,hlt,z2⟩,fun x H' y=>?_⟩
  obtain⟨e,y⟩:=y
  subst e
  exact hs i x ys _ (y xs q) p
 ·have e:i=xs.length:=∅
  subst e
  exact .inl ⟨⟨xs,q,ZG _⟩,hd ys H2 p⟩
theorem Alk.up{K:Fg}{H:Hp}{n m:Nat}{x y:V}(h:Alk K H n x y):n<=m->Alk K H m x y:=by
 induction h generalizing m with
 | flat hf=>exact fun _=>.flat hf
 | @tup n a b xs ys ha hb hl h ih=>
  intro hm
  obtain⟨m',rfl⟩:∃ m',m=m'+1:=⟨m-1,∅⟩
  exact .tup ha hb hl fun j x y h1 h2=>ih j x y h1 h2 ∅
 | @lst n a b xs ys ha hb hl h ih=>
  intro hm
  obtain⟨m',rfl⟩:∃ m',m=m'+1:=⟨m-1,∅⟩
  exact .lst ha hb hl fun j x y h1 h2=>ih j x y h1 h2 ∅
end L2
namespace HT
set_option autoImplicit false
open PySem PySem.Spec PyProof.Rows List
section
open PySem.SeqAt
open PySem.AutoSeq1 (wpAny_loadPart')
open PySem.MeetsSeq PySem.MeetsSeq2 PySem.MeetsSeq3
end
end HT
namespace L2
open PySem PySem.Spec PyProof.Rows List
variable {X:Cx}
theorem op_catUK{K:Fg}(hK:X.K=K):OpR X (binaryOp .Add) (q549 K):=by subst hK;exact q399
theorem q141{K:Fg}{a:Addr}{xs:List V}{Tt:V->Hp->(Bool->Hp->Prop)->Prop}{Te:V->Hp->(V->Hp->Prop)->Prop}{D:Addr}{H1:Hp}{R:Hp->Prop}(hn:xs.length<=sizeLine)(Pv:Nat->List V->Hp->Prop)(h0:Pv 0 [] (upd H1 D (.lst [])))
  (hl:∀ i ys H,Pv i ys H->SqL K H a xs) (hD:∀ i ys H,Pv i ys H->H D=some (.lst ys)/\ys.length<=i)
  (hs:∀ i x ys H,xs[i]? = some x->Pv i ys H->Tt x H fun b H3=>if b=true then Te x H3 (fun y H4=>H4 D=some (.lst ys)/\Pv (i+1) (ys++[y]) (upd H4 D (.lst (ys++[y]))))else ∃ m',m'<xs.length-i/\m'=xs.length-(i+1)/\i+1<=xs.length/\Pv (i+1) ys H3)
  (hd:∀ ys H,Pv xs.length ys H->R H) :
  ∃ W:Nat->Nat->List V->Hp->Prop,(∃ m,W 0 m [] (upd H1 D (.lst []))) /\
   ∀ i m ys H2,W i m ys H2->H2 D=some (.lst ys)/\(((Itl K a).stop i H2/\R H2)\/((Itl K a).go i H2/\ys.length<sizeLine /\ ∃ N:V->Hp->Prop,(∀ y H3,N y H3->H3 D=some (.lst ys) /\ ∃ m',m'<m/\W (i+1) m' (ys++[y]) (upd H3 D (.lst (ys++[y])))) /\
    ∀ x H',(Itl K a).yld i H2 x H'->Tt x H' fun b H3=>if b=true then Te x H3 N else ∃ m',m'<m/\W (i+1) m' ys H3)):=by
 exists fun i m ys H=>m=xs.length-i/\i<=xs.length/\Pv i ys H,⟨xs.length,by simp,WB _,h0⟩
 rintro i m ys H2 ⟨rfl,hi,p⟩
 obtain⟨d1,d2⟩:=hD i ys H2 p
 have q:=hl i ys H2 p
 exists d1
 by_cases hlt:i<xs.length
 ·refine .inr ⟨⟨xs,xs[i],q,by simp[hlt]⟩,∅,fun y H3=>H3 D=some (.lst ys)/\Pv (i+1) (ys++[y]) (upd H3 D (.lst (ys++[y]))),fun y H3 ⟨z1,z2⟩=>⟨z1,xs.length-(i+1),∅,rfl,hlt,z2⟩,fun x H' y=>?_⟩
  obtain⟨e,y⟩:=y
  subst e
  exact hs i x ys _ (y xs q) p
 ·have e:i=xs.length:=∅
  subst e
  exact .inl ⟨⟨xs,q,ZG _⟩,hd ys H2 p⟩
inductive q614(K:Fg)(x:V)(y:V)(H:Hp)(Q:VK):Prop
 |mk(a b:Addr)(xs:List V)(_:x = .ref a)(_:y = .ref b)(_:SqT K H a xs)(_:SqT K H b [])(_:Q (.bl xs.isEmpty) H)
theorem q684(hu:X.A.units<cLine):OpR X (compareOp .Eq) (q614 X.K):=by
 intro pins s σ H x y v u Q I rx ry h
 obtain⟨a,b,xs,rfl,rfl,ha,hb,q⟩:=h
 cases rx
 cases ry
 obtain⟨its,r1,p1,_⟩:=I.tuple ha
 obtain⟨its2,r2,p2,_⟩:=I.tuple hb
 have l1:=r1.length
 have l2:its2.length=0:=r2.length.symm
 refine SeqAt.eq_tupleAt (e:=fun _=>true) p1 p2 hu (fun j h1 h2=>?_) ⟨.bl xs.isEmpty,H,I,?_,q⟩
 ·rw[ZX,l2]at h2
  exact absurd h2 (Nat.not_lt_zero _)
 ·show Value.bool _=Value.bool _
  congr 1
  rw[ZX,ZX,l2,<- l1]
  cases xs with
  | nil=>rfl
  | cons _ _=>simp
theorem best_in{ys:Array (Int×Tok)}{k:Nat}(h:(intItems ys)[k]? = some v):∃ t,v = .int (numAt ys k) t/\k<ys.size:=by
 unfold intItems at h
 rw[Array.getElem?_map]at h
 cases e:ys[k]? with
 | none=>rw[e]at h;cases h
 | some y=>
  rw[e]at h
  refine⟨y.2,?_,(Array.getElem?_eq_some_iff.mp e).1⟩
  have e2:numAt ys k=y.1:=by
   unfold numAt
   simp[e,Array.getD_eq_getD_getElem?]
  rw[e2]
  exact(Option.some.inj h).symm
theorem num_mem{ys:Array (Int×Tok)}{k:Nat}(h:k<ys.size):numAt ys k∈ys.toList.map (·.1):=by
 refine List.mem_map.mpr ⟨ys[k],by simp,?_⟩
 unfold numAt
 simp[h]
theorem num_of{ys:Array (Int×Tok)}{a:Int}(h:a∈ys.toList.map (·.1)):∃ j,j<ys.size/\numAt ys j=a:=by
 obtain⟨y,hy,rfl⟩:=List.mem_map.mp h
 obtain⟨j,hj,e⟩:=List.mem_iff_getElem.mp hy
 exists j,by simpa using hj
 unfold numAt
 have:ys[j]'(by simpa using hj)=y:=by simpa using e
 simp[this,show j<ys.size by simpa using hj]
inductive q615(K:Fg)(xs:List V)(H:Hp)(Q:VK):Prop
 |mk(p:Addr)(ns:List Int)(_:xs=[.ref p])(_:SqL K H p (ns.map V.int))(_:0<ns.length)(_:∀ M,M∈ns->(∀ a∈ns,a<=M)->Q (.int M) H)
theorem q685(hc:X.calm=true):CallR X (.builtin "max") (q615 X.K):=by
 intro pins s σ H xs us Q I r h
 obtain⟨p,ns,rfl,hq,hn,q⟩:=h
 obtain⟨u,rfl,rx⟩:=vals1 r
 cases rx
 obtain⟨its,r',pl,hz⟩:=I.list hq
 have hi:=q58 r'
 obtain⟨ys,hx⟩:=hi.allInts.items
 have hl':s.heap.IsList p (intItems ys):=hx▸pl.isList
 have e1:ns=ys.toList.map (·.1):=by
  rw[<- nums_intItems,<- hx]
  exact(show numsOf its.toArray.toList=ns from hi.numsOf).symm
 have hsz:0<ys.size:=by rw[e1]at hn;simpa using hn
 refine max_intList (I.ok.hd hc) hl' hsz fun v h' tk hv hk=>?_
 obtain⟨t,rfl,hlt⟩:=best_in hv
 refine⟨.int _,H,I.kept (t':=tk) hk,⟨_,rfl⟩,q _ (by rw[e1];exact num_mem hlt) (fun a ha=>?_)⟩
 rw[e1]at ha
 obtain⟨j,hj,rfl⟩:=num_of ha
 exact(argBest_gt (numAt ys) (ys.size-1)).2 j ∅
section
theorem q686{A:Around}{p q:Int×Int}(I:Inv X pins σ H s)(ha:SqT X.K H a [.int p.1,.int p.2])(hb:SqT X.K H b [.int q.1,.int q.2])(hab:a=b->p=q)(hu:A.units+4<cLine) :
  SeqAt.EqAt A s (.ref b) (.ref a) (decide (q=p)):=by
 by_cases e:q=p
 ·subst e
  rw[ZA rfl]
  exact q404 (q681 (ns:=[q.1,q.2]) I hb ha ∅).1
 ·rw[ZK e]
  have hne:b≠a:=fun z=>e (hab z.symm).symm
  refine .of_refs hne ?_
  obtain⟨its,r1,p1,_⟩:=I.tuple hb
  obtain⟨its2,r2,p2,_⟩:=I.tuple ha
  have l1:its.length=2:=r1.length.symm
  have l2:its2.length=2:=r2.length.symm
  have z:=SeqAt.RcAt.tuples (A:=A) (e:=fun j=>[q.1,q.2].getD j 0==[p.1,p.2].getD j 0) p1 p2 ∅ (fun j h1 h2=>by
   have h1':j<2:=by rw[ZX]at h1;lia
   obtain⟨v1,e1,r1'⟩:=r1.get (i:=j) (x:=.int ([q.1,q.2].getD j 0)) (by match j,h1' with | 0,_=>rfl | 1,_=>rfl)
   obtain⟨v2,e2,r2'⟩:=r2.get (i:=j) (x:=.int ([p.1,p.2].getD j 0)) (by match j,h1' with | 0,_=>rfl | 1,_=>rfl)
   have g1:its.toArray[j]=v1:=by
    have:=List.getElem?_eq_some_iff.mp e1
    simpa using this.2
   have g2:its2.toArray[j]=v2:=by
    have:=List.getElem?_eq_some_iff.mp e2
    simpa using this.2
   rw[g1,g2]
   exact q444 r1' r2' rfl rfl)
  have f:((List.range (min its.toArray.size its2.toArray.size)).all (fun j=>[q.1,q.2].getD j 0==[p.1,p.2].getD j 0)&&its.toArray.size==its2.toArray.size)=false:=by
   rw[ZX,ZX,l1,l2]
   show(((q.1==p.1)&&((q.2==p.2)&&true))&&true)=false
   rw[Bool.and_true,Bool.and_true]
   by_cases c1:q.1=p.1
   ·have c2:¬ q.2=p.2:=fun c2=>e (Prod.ext c1 c2)
    rw[beq_eq_false_iff_ne.mpr c2,WJ]
   ·rw[beq_eq_false_iff_ne.mpr c1,WR]
  rw[f]at z
  exact z
def q297(H:Hp)(xs:List V)(ps:List (Int×Int)):Prop:=xs.length=ps.length /\ ∀(j:Nat)(x:V)(q:Int×Int),xs[j]? = some x->ps[j]? = some q -> ∃ b,x = .ref b/\H b=some (.tup [.int q.1,.int q.2])
variable{a b c d:Expr}{ta tb tc td:TE}{pos:Pos}
end
end L2
namespace TS
set_option autoImplicit false
open PySem PySem.W PyProof.Rows List
abbrev M2:=StateT SortSt Sem
noncomputable def gallop':Bool->Keyed->Array Keyed->Nat->Nat->Nat->M2 (Option Nat):=sortPriv% PySem.Builtin.gallop
noncomputable def mergeLo':Array Keyed->Array Keyed->M2 (Array Keyed):=sortPriv% PySem.Builtin.mergeLo
def mergeHi':Array Keyed->Array Keyed->M2 (Array Keyed):=sortPriv% PySem.Builtin.mergeHi
noncomputable def setMG':Nat->M2 Unit:=sortPriv% PySem.Builtin.setMinGallop
section
variable {prog:Program} {w:World} {A:Around} {E:VS}
theorem c_for{β:Type}{f:Nat->β->M2 (ForInStep β)}{Q:β->SortSt->Shared->Prop}(I:Nat->β->SortSt->Shared->Prop) :
  ∀(l:List Nat)(n:Nat)(b:β)(st:SortSt)(s:Shared),I n b st s->(∀ b st s,I (n+l.length) b st s->Q b st s) ->
  (∀ k x b st s,n<=k->k<n+l.length->I k b st s->kasC (model prog w) A E (f x b) (fun r st' s'=>match r with | .done b'=>Q b' st' s' | .yield b'=>I (k+1) b' st' s') st s) ->
  kasC (model prog w) A E (forIn l b f) Q st s
 | [],n,b,st,s,hi,hq,_=>kasC_nil (hq b st s hi)
 | x::l,n,b,st,s,hi,hq,hs=>by
  refine kasC_cons (WW (hs n x b st s (ZG _) (by simp) hi) (fun r s' h=>?_) fun _ _ e=>e)
  obtain⟨r,st'⟩:=r
  cases r with
  | done b'=>exact h
  | yield b'=>
   refine c_for I l (n+1) b' st' s' h (fun b st s hb=>hq b st s (by simpa [Nat.add_assoc,Nat.add_comm,Nat.add_left_comm] using hb)) (fun k x b st s h1 h2 h3=>hs k x b st s ∅ (by simp at h2 ⊢;lia) h3)
theorem c_range{β:Type}{f:Nat->β->M2 (ForInStep β)}{Q:β->SortSt->Shared->Prop}{n:Nat}{b:β}{st:SortSt}{s:Shared}(I:Nat->β->SortSt->Shared->Prop)(h0:I 0 b st s)(hq:∀ b st s,I n b st s->Q b st s)
  (hs:∀ k x b st s,k<n->I k b st s->kasC (model prog w) A E (f x b) (fun r st' s'=>match r with | .done b'=>Q b' st' s' | .yield b'=>I (k+1) b' st' s') st s):kasC (model prog w) A E (forIn [0:n] b f) Q st s:=by
 refine kasC_range (c_for I (List.range' 0 (n-0)) 0 b st s h0 (fun b st s h=>hq b st s ?_) (fun k x b st s h1 h2 h3=>hs k x b st s ?_ h3))
 ·simpa using h
 ·simpa using h2
theorem q90{β:Type}{f:Nat->β->M2 (ForInStep β)}{Q:β->SortSt->Shared->Prop}{n:Nat}{b:β}{st:SortSt}{s:Shared}(I:Nat->β->SortSt->Shared->Prop)(R:β->SortSt->Shared->Prop)(h0:I 0 b st s)(he:∀ b st s,I n b st s->R b st s)
  (hs:∀ k x b st s,k<n->I k b st s->kasC (model prog w) A E (f x b) (fun r st' s'=>match r with | .done b'=>R b' st' s' | .yield b'=>I (k+1) b' st' s') st s) (hR:∀ b st s,R b st s->Q b st s):kasC (model prog w) A E (forIn [0:n] b f) Q st s:=
 WW (c_range I h0 he hs) (fun r s' h=>hR _ _ _ h) fun _ _ e=>e
theorem q49{arr:Array Keyed}{i:Nat}{Q:Keyed->SortSt->Shared->Prop}{st:SortSt}{s:Shared}(hi:i<arr.size)(h:Q (kas_item arr i) st s):kasC (model prog w) A E (elem' arr i) Q st s:=by
 rw[elem'_eq]
 have e:arr[i]? = some (kas_item arr i):=by
  unfold kas_item
  simp[Array.getD,hi]
 rw[e]
 exact ZT h
def Good(prog:Program)(w:World)(A:Around)(E:VS)(κ:SortKind)(P:Keyed->Prop)(lt:Keyed->Keyed->Bool)(s:Shared):Prop:=
 ∀(x y:Keyed)(st:SortSt)(Q:Option Bool->SortSt->Shared->Prop),P x->P y->kindOf st=κ->Q (some (lt x y)) st s->kasC (model prog w) A E (lt' x y) Q st s
variable {κ:SortKind} {P:Keyed->Prop} {lt:Keyed->Keyed->Bool}
theorem q238{s:Shared}(G:Good prog w A E κ P lt s){left:Bool}{key:Keyed}{arr:Array Keyed}{base n hint k:Nat}{Q:Option Nat->SortSt->Shared->Prop}{st:SortSt}(hst:kindOf st=κ)(hk:P key)(hP:∀ i,i<n->P (kas_item arr (base+i)))
  (hsz:base+n<=arr.size) (hh:hint<n) (hkn:k<=n) (hB:∀ i,i<n->(if left=true then lt (kas_item arr (base+i)) key else !(lt key (kas_item arr (base+i))))=decide (i<k)) (h:Q (some k) st s) :
  kasC (model prog w) A E (gallop' left key arr base n hint) Q st s:=by
 have bey:∀(i:Nat)(Q':Option Bool->SortSt->Shared->Prop),i<n->Q' (some (decide (i<k))) st s->kasC (model prog w) A E (do
   let x <- elem' arr (base+i)
   if left=true then lt' x key else do
    let r <- lt' key x
    pure (Option.map (fun x=>!x) r)) Q' st s:=by
  intro i Q' hi hq
  refine ZQ (q49 ∅ ?_)
  have hb:=hB i hi
  cases left with
  | true=>
   rw[ZJ rfl]at hb ⊢
   exact G _ _ _ _ (hP i hi) hk hst (by rw[hb];exact hq)
  | false=>
   rw[ZI fnt]at hb ⊢
   refine ZQ (G _ _ _ _ hk (hP i hi) hst (ZT ?_))
   show Q' (some (!(lt key (kas_item arr (base+i))))) st s
   rw[hb]
   exact hq
 refine ZQ (bey hint _ hh ?_)
 dsimp only
 by_cases c:hint<k
 ·rw[ZJ (ZA c)]
  refine ZQ (q90 (fun t r st' s'=>st'=st/\s'=s /\ ∃ la of,r=(none,la,of)/\la<of/\hint+la<k/\t+1<=of) (fun r st' s'=>st'=st/\s'=s /\ ∃ la of,r=(none,la,of)/\la<of/\hint+la<k/\k<=hint+min of (n-hint))
   ⟨rfl,rfl,0,1,rfl,∅,∅,∅⟩ ?_ ?_ ?_)
  ·rintro r st' s' ⟨rfl,rfl,la,of,rfl,h1,h2,h3⟩
   exact⟨rfl,rfl,la,of,rfl,h1,h2,∅⟩
  ·rintro t x r st' s' ht ⟨rfl,rfl,la,of,rfl,h1,h2,h3⟩
   dsimp only
   by_cases c2:of>=n-hint
   ·rw[ZJ c2]
    exact ZT ⟨rfl,rfl,la,of,rfl,h1,h2,∅⟩
   ·rw[ZI c2]
    refine ZQ (bey (hint+of) _ ∅ ?_)
    dsimp only
    by_cases c3:hint+of<k
    ·rw[ZI (by simp[c3])]
     exact ZT ⟨rfl,rfl,of,2*of+1,rfl,∅,c3,∅⟩
    ·rw[ZJ (by simp[c3])]
     exact ZT ⟨rfl,rfl,la,of,rfl,h1,h2,∅⟩
  ·rintro r st' s' ⟨rfl,rfl,la,of,rfl,h1,h2,h3⟩
   dsimp only
   refine ZQ (q90 (fun t r st₂ s₂=>st₂=st'/\s₂=s' /\ ∃ lo hi,r=(none,lo,hi)/\lo<=k/\k<=hi/\hi<=n/\(hi-lo)+t<=n) (fun r st₂ s₂=>st₂=st'/\s₂=s' /\ ∃ lo,r=(none,lo,k)) ⟨rfl,rfl,_,_,rfl,∅,∅,∅,∅⟩ ?_ ?_ ?_)
   ·rintro r st₂ s₂ ⟨rfl,rfl,lo,hi,rfl,g1,g2,g3,g4⟩
    obtain rfl:hi=k:=∅
    exact⟨rfl,rfl,lo,rfl⟩
   ·rintro t x r st₂ s₂ ht ⟨rfl,rfl,lo,hi,rfl,g1,g2,g3,g4⟩
    dsimp only
    by_cases c2:lo>=hi
    ·rw[ZJ c2]
     obtain rfl:hi=k:=∅
     exact ZT ⟨rfl,rfl,lo,rfl⟩
    ·rw[ZI c2]
     refine ZQ (bey (lo+(hi-lo)/2) _ ∅ ?_)
     dsimp only
     by_cases c3:lo+(hi-lo)/2<k
     ·rw[ZJ (ZA c3)]
      exact ZT ⟨rfl,rfl,_,_,rfl,∅,∅,∅,∅⟩
     ·rw[ZI (by simp[c3])]
      exact ZT ⟨rfl,rfl,_,_,rfl,∅,∅,∅,∅⟩
   ·rintro r st₂ s₂ ⟨rfl,rfl,lo,rfl⟩
    exact ZT h
 ·rw[ZI (by simp[c])]
  refine ZQ (q90 (fun t r st' s'=>st'=st/\s'=s /\ ∃ la of,r=(none,la,of)/\la<of/\k<=hint-la/\la<=hint/\t+1<=of) (fun r st' s'=>st'=st/\s'=s /\ ∃ la of,r=(none,la,of)/\la<of/\k<=hint-la/\la<=hint/\hint+1-min of (hint+1)<=k)
   ⟨rfl,rfl,0,1,rfl,∅,∅,∅,∅⟩ ?_ ?_ ?_)
  ·rintro r st' s' ⟨rfl,rfl,la,of,rfl,h1,h2,h3,h4⟩
   exact⟨rfl,rfl,la,of,rfl,h1,h2,h3,∅⟩
  ·rintro t x r st' s' ht ⟨rfl,rfl,la,of,rfl,h1,h2,h3,h4⟩
   dsimp only
   by_cases c2:of>=hint+1
   ·rw[ZJ c2]
    exact ZT ⟨rfl,rfl,la,of,rfl,h1,h2,h3,∅⟩
   ·rw[ZI c2]
    refine ZQ (bey (hint-of) _ ∅ ?_)
    dsimp only
    by_cases c3:hint-of<k
    ·rw[ZJ (ZA c3)]
     exact ZT ⟨rfl,rfl,la,of,rfl,h1,h2,h3,∅⟩
    ·rw[ZI (by simp[c3])]
     exact ZT ⟨rfl,rfl,of,2*of+1,rfl,∅,∅,∅,∅⟩
  ·rintro r st' s' ⟨rfl,rfl,la,of,rfl,h1,h2,h3,h4⟩
   dsimp only
   refine ZQ (q90 (fun t r st₂ s₂=>st₂=st'/\s₂=s' /\ ∃ lo hi,r=(none,lo,hi)/\lo<=k/\k<=hi/\hi<=n/\(hi-lo)+t<=n) (fun r st₂ s₂=>st₂=st'/\s₂=s' /\ ∃ lo,r=(none,lo,k)) ⟨rfl,rfl,_,_,rfl,∅,∅,∅,∅⟩ ?_ ?_ ?_)
   ·rintro r st₂ s₂ ⟨rfl,rfl,lo,hi,rfl,g1,g2,g3,g4⟩
    obtain rfl:hi=k:=∅
    exact⟨rfl,rfl,lo,rfl⟩
   ·rintro t x r st₂ s₂ ht ⟨rfl,rfl,lo,hi,rfl,g1,g2,g3,g4⟩
    dsimp only
    by_cases c2:lo>=hi
    ·rw[ZJ c2]
     obtain rfl:hi=k:=∅
     exact ZT ⟨rfl,rfl,lo,rfl⟩
    ·rw[ZI c2]
     refine ZQ (bey (lo+(hi-lo)/2) _ ∅ ?_)
     dsimp only
     by_cases c3:lo+(hi-lo)/2<k
     ·rw[ZJ (ZA c3)]
      exact ZT ⟨rfl,rfl,_,_,rfl,∅,∅,∅,∅⟩
     ·rw[ZI (by simp[c3])]
      exact ZT ⟨rfl,rfl,_,_,rfl,∅,∅,∅,∅⟩
   ·rintro r st₂ s₂ ⟨rfl,rfl,lo,rfl⟩
    exact ZT h
end
section
variable {P:Keyed->Prop} {lt:Keyed->Keyed->Bool}
structure Tot(P:Keyed->Prop)(lt:Keyed->Keyed->Bool):Prop where
 trans:∀ x y z,P x->P y->P z->lt y x=false->lt z y=false->lt z x=false
 asym:∀ x y,P x->P y->lt x y=true->lt y x=false
def Srt(lt:Keyed->Keyed->Bool)(l:List Keyed):Prop:=l.Pairwise fun x y=>lt y x=false
structure MInv(lt:Keyed->Keyed->Bool)(al bl o:List Keyed)(i j:Nat):Prop where
 perm:o.Perm (al.take i++bl.take j)
 srt:Srt lt o
 ba:∀ x∈o,∀ y∈al.drop i,lt y x=false
 bb:∀ x∈o,∀ y∈bl.drop j,lt y x=false
theorem MInv.zero(al bl:List Keyed):MInv lt al bl [] 0 0:=⟨by simp,.nil,fun x hx=>absurd hx (by simp),fun x hx=>absurd hx (by simp)⟩
theorem q616(l:List Keyed)(i k:Nat):l.drop i=(l.drop i).take k++l.drop (i+k):=by
 rw[<- drop_drop,take_append_drop]
theorem q617(l:List Keyed)(i k:Nat):l.take (i+k)=l.take i++(l.drop i).take k:=take_add
theorem MInv.chunkA{al bl o:List Keyed}{i j:Nat}(m:MInv lt al bl o i j)(ha:Srt lt al)(k:Nat)(hc:∀ x∈(al.drop i).take k,∀ y∈bl.drop j,lt y x=false):MInv lt al bl (o++(al.drop i).take k) (i+k) j:=by
 have hd:=q616 al i k
 have hs:Srt lt (al.drop i):=List.Pairwise.sublist (drop_sublist i al) ha
 rw[hd]at hs
 have hs':=List.pairwise_append.mp hs
 have sub1:∀ y∈(al.drop i).take k,y∈al.drop i:=fun y hy=>mem_of_mem_take hy
 have sub2:∀ y∈al.drop (i+k),y∈al.drop i:=fun y hy=>by rw[hd];exact WX _ hy
 refine⟨?_,?_,fun x hx y hy=>?_,fun x hx y hy=>?_⟩
 ·rw[q617]
  refine(m.perm.append_right _).trans ?_
  rw[YW,YW]
  exact List.Perm.append_left _ perm_append_comm
 ·refine List.pairwise_append.mpr ⟨m.srt,?_,fun x hx y hy=>m.ba x hx y (sub1 y hy)⟩
  have:=hs'.1
  simpa [take_take] using this
 ·rcases List.mem_append.mp hx with h | h
  ·exact m.ba x h y (sub2 y hy)
  ·exact hs'.2.2 x (by simpa [take_take] using h) y hy
 ·rcases List.mem_append.mp hx with h | h
  ·exact m.bb x h y hy
  ·exact hc x h y hy
theorem MInv.swap{al bl o:List Keyed}{i j:Nat}(m:MInv lt al bl o i j):MInv lt bl al o j i:=⟨m.perm.trans perm_append_comm,m.srt,m.bb,m.ba⟩
theorem MInv.chunkB{al bl o:List Keyed}{i j:Nat}(m:MInv lt al bl o i j)(hb:Srt lt bl)(k:Nat)(hc:∀ x∈(bl.drop j).take k,∀ y∈al.drop i,lt y x=false):MInv lt al bl (o++(bl.drop j).take k) i (j+k):=
 (m.swap.chunkA hb k hc).swap
def Fin2(lt:Keyed->Keyed->Bool)(al bl r:List Keyed):Prop:=r.Perm (al++bl)/\Srt lt r
theorem MInv.fin{al bl o:List Keyed}{i j:Nat}(m:MInv lt al bl o i j)(hi:al.length<=i)(hj:bl.length<=j):Fin2 lt al bl o:=by
 have p:=m.perm
 rw[WT hi,WT hj]at p
 exact⟨p,m.srt⟩
theorem MInv.doneB{al bl o:List Keyed}{i j:Nat}(m:MInv lt al bl o i j)(ha:Srt lt al)(hj:bl.length<=j):Fin2 lt al bl (o++al.drop i++bl.drop j):=by
 have e:bl.drop j=[]:=drop_of_length_le hj
 have z:=m.chunkA ha al.length (fun x _ y hy=>by rw[e]at hy;cases hy)
 rw[e,append_nil]
 have e2:(al.drop i).take al.length=al.drop i:=WT (by rw[length_drop];lia)
 rw[e2]at z
 exact z.fin ∅ hj
theorem MInv.doneA{al bl o:List Keyed}{i j:Nat}(m:MInv lt al bl o i j)(hb:Srt lt bl)(hi:al.length<=i):Fin2 lt al bl (o++al.drop i++bl.drop j):=by
 have e:al.drop i=[]:=drop_of_length_le hi
 have z:=m.chunkB hb bl.length (fun x _ y hy=>by rw[e]at hy;cases hy)
 rw[e,append_nil]
 have e2:(bl.drop j).take bl.length=bl.drop j:=WT (by rw[length_drop];lia)
 rw[e2]at z
 exact z.fin hi ∅
theorem MInv.lastA{al bl o:List Keyed}{i j:Nat}(m:MInv lt al bl o i j)(ha:Srt lt al)(hb:Srt lt bl)(hl:∀ x∈bl,∀ y∈al.drop i,lt y x=false):Fin2 lt al bl (o++bl.drop j++al.drop i):=by
 have z:=m.chunkB hb bl.length (fun x hx y hy=>hl x (mem_of_mem_drop (mem_of_mem_take hx)) y hy)
 have e2:(bl.drop j).take bl.length=bl.drop j:=WT (by rw[length_drop];lia)
 rw[e2]at z
 have z2:=z.doneB ha ∅
 have e3:bl.drop (j+bl.length)=[]:=drop_of_length_le ∅
 rw[e3,append_nil]at z2
 exact z2
theorem bound(B:Nat->Bool):∀ n,(∀ i j,i<=j->j<n->B j=true->B i=true) -> ∃ k,k<=n /\ ∀ i,i<n->B i=decide (i<k)
 | 0,_=>⟨0,ZG _,fun i hi=>absurd hi (Nat.not_lt_zero _)⟩
 | n+1,h=>by
  obtain⟨k,hk,hB⟩:=bound B n fun i j a b c=>h i j a ∅ c
  cases hn:B n with
  | true=>
   refine⟨n+1,ZG _,fun i hi=>?_⟩
   rw[h i n ∅ ∅ hn,ZA hi]
  | false=>
   refine⟨k,∅,fun i hi=>?_⟩
   by_cases e:i=n
   ·rw[e,hn,ZK ∅]
   ·exact hB i ∅
theorem q52{a:Array Keyed}{i:Nat}(h:i<a.size):a.toList[i]? = some (kas_item a i):=by
 unfold kas_item
 simp[Array.getD,h]
theorem q22{a:Array Keyed}{i:Nat}(h:i<a.size):kas_item a i∈a.toList:=WV (q52 h)
theorem q117{a:Array Keyed}{i:Nat}{y:Keyed}(h:y∈a.toList.drop i):∃ j,i<=j/\j<a.size/\y=kas_item a j:=by
 obtain⟨k,hk⟩:=mem_iff_getElem?.mp h
 rw[getElem?_drop]at hk
 have hl:=(List.getElem?_eq_some_iff.mp hk).1
 have hl':i+k<a.size:=by simpa using hl
 exists i+k,∅,hl'
 rw[q52 hl']at hk
 exact(Option.some.inj hk).symm
theorem q366{a:Array Keyed}{i k:Nat}{y:Keyed}(h:y∈(a.toList.drop i).take k):∃ j,i<=j/\j<i+k/\j<a.size/\y=kas_item a j:=by
 obtain⟨m,hm⟩:=mem_iff_getElem?.mp h
 rw[getElem?_take]at hm
 by_cases c:m<k
 ·rw[ZJ c,getElem?_drop]at hm
  have hl:=(List.getElem?_eq_some_iff.mp hm).1
  have hl':i+m<a.size:=by simpa using hl
  exists i+m,∅,∅,hl'
  rw[q52 hl']at hm
  exact(Option.some.inj hm).symm
 ·rw[ZI c]at hm
  cases hm
theorem q106{a:Array Keyed}{i j:Nat}(T:Tot P lt)(h:Srt lt a.toList)(hP:∀ x∈a.toList,P x)(hij:i<j)(hj:j<a.size):lt (kas_item a j) (kas_item a i)=false:=by
 have hi:i<a.size:=∅
 have z:=List.pairwise_iff_getElem.mp h i j (by simpa using hi) (by simpa using hj) hij
 have e1:=(List.getElem?_eq_some_iff.mp (q52 hi)).2
 have e2:=(List.getElem?_eq_some_iff.mp (q52 hj)).2
 rw[e1,e2]at z
 exact z
end
end TS
namespace TS
set_option autoImplicit false
open PySem PySem.W PyProof.Rows List
section
variable {P:Keyed->Prop} {lt:Keyed->Keyed->Bool} {a b out:Array Keyed} {i j k:Nat}
abbrev AInv(lt:Keyed->Keyed->Bool)(a b out:Array Keyed)(i j:Nat):Prop:=MInv lt a.toList b.toList out.toList i j
abbrev FinA(lt:Keyed->Keyed->Bool)(a b r:Array Keyed):Prop:=Fin2 lt a.toList b.toList r.toList
theorem q279(h:k<=a.size):(a.extract i k).toList=(a.toList.drop i).take (k-i):=by
 simp[extract_eq_take_drop]
theorem q239:(a.extract i a.size).toList=a.toList.drop i:=by
 rw[q279 (ZG _)]
 exact WT (by simp)
theorem q201(h:i<a.size):(a.toList.drop i).take 1=[kas_item a i]:=by
 have e:=(List.getElem?_eq_some_iff.mp (q52 h))
 obtain⟨h1,h2⟩:=e
 rw[drop_eq_getElem_cons h1,h2]
 rfl
theorem pushB(T:Tot P lt)(sb:Srt lt b.toList)(sa:Srt lt a.toList)(pa:∀ x∈a.toList,P x)(pb:∀ x∈b.toList,P x)(m:AInv lt a b out i j)(hi:i<a.size)(hj:j<b.size)(h:lt (kas_item b j) (kas_item a i)=true):AInv lt a b (out.push (kas_item b j)) i (j+1):=by
 have z:=m.chunkB sb 1 (fun x hx y hy=>by
  rw[q201 hj]at hx
  cases List.mem_singleton.mp hx
  obtain⟨j',h1,h2,rfl⟩:=q117 hy
  have q1:=T.asym _ _ (pb _ (q22 hj)) (pa _ (q22 hi)) h
  by_cases e:i=j'
  ·rw[<- e];exact q1
  ·exact T.trans _ _ _ (pb _ (q22 hj)) (pa _ (q22 hi)) (pa _ (q22 h2)) q1 (q106 T sa pa ∅ h2))
 rw[q201 hj]at z
 simpa [AInv] using z
theorem pushA(T:Tot P lt)(sb:Srt lt b.toList)(sa:Srt lt a.toList)(pa:∀ x∈a.toList,P x)(pb:∀ x∈b.toList,P x)(m:AInv lt a b out i j)(hi:i<a.size)(h:j<b.size->lt (kas_item b j) (kas_item a i)=false):AInv lt a b (out.push (kas_item a i)) (i+1) j:=by
 have z:=m.chunkA sa 1 (fun x hx y hy=>by
  rw[q201 hi]at hx
  cases List.mem_singleton.mp hx
  obtain⟨j',h1,h2,rfl⟩:=q117 hy
  have hj:j<b.size:=∅
  have q1:=h hj
  by_cases e:j=j'
  ·rw[<- e];exact q1
  ·exact T.trans _ _ _ (pa _ (q22 hi)) (pb _ (q22 hj)) (pb _ (q22 h2)) q1 (q106 T sb pb ∅ h2))
 rw[q201 hi]at z
 simpa [AInv] using z
theorem exA(T:Tot P lt)(sa:Srt lt a.toList)(pa:∀ x∈a.toList,P x){key:Keyed}(hk:P key)(n:Nat)(hn:i+n<=a.size):∃ k,k<=n /\ ∀ t,t<n->(if false=true then lt (kas_item a (i+t)) key else !(lt key (kas_item a (i+t))))=decide (t<k):=by
 refine bound _ n fun t u htu hu h=>?_
 rw[ZI fnt]at h ⊢
 rw[Bool.not_eq_true']at h ⊢
 by_cases e:t=u
 ·rw[e];exact h
 ·exact T.trans _ _ _ (pa _ (q22 ∅)) (pa _ (q22 ∅)) hk (q106 T sa pa ∅ ∅) h
theorem exB(T:Tot P lt)(sb:Srt lt b.toList)(pb:∀ x∈b.toList,P x){key:Keyed}(hk:P key)(n:Nat)(hn:j+n<=b.size):∃ k,k<=n /\ ∀ t,t<n->(if true=true then lt (kas_item b (j+t)) key else !(lt key (kas_item b (j+t))))=decide (t<k):=by
 refine bound _ n fun t u htu hu h=>?_
 rw[ZJ rfl]at h ⊢
 by_cases e:t=u
 ·rw[e];exact h
 ·cases c:lt (kas_item b (j+t)) key with
  | true=>rfl
  | false=>
   have z:=T.trans _ _ _ hk (pb _ (q22 ∅)) (pb _ (q22 ∅)) c (q106 T sb pb (show j+t<j+u by lia) ∅)
   rw[h]at z
   cases z
theorem galA(T:Tot P lt)(sb:Srt lt b.toList)(sa:Srt lt a.toList)(pa:∀ x∈a.toList,P x)(pb:∀ x∈b.toList,P x)(m:AInv lt a b out i j)(hi:i<=a.size)(hj:j<b.size)(hk:k<=a.size-i)
  (h:∀ t,t<a.size-i->(if false=true then lt (kas_item a (i+t)) (kas_item b j)else !(lt (kas_item b j) (kas_item a (i+t))))=decide (t<k)) :
  AInv lt a b (out++a.extract i (i+k)) (i+k) j/\(i+k<a.size->lt (kas_item b j) (kas_item a (i+k))=true):=by
 constructor
 ·have z:=m.chunkA sa k (fun x hx y hy=>by
   obtain⟨i',g1,g2,g3,rfl⟩:=q366 hx
   obtain⟨j',h1,h2,rfl⟩:=q117 hy
   have q:=h (i'-i) ∅
   rw[ZI fnt,show i+(i'-i)=i' by lia,ZA ∅,Bool.not_eq_true']at q
   by_cases e:j=j'
   ·rw[<- e];exact q
   ·exact T.trans _ _ _ (pa _ (q22 g3)) (pb _ (q22 hj)) (pb _ (q22 h2)) q (q106 T sb pb ∅ h2))
  have e:(out++a.extract i (i+k)).toList=out.toList++(a.toList.drop i).take k:=by
   rw[WK,q279 ∅,show i+k-i=k by lia]
  show MInv lt _ _ (out++a.extract i (i+k)).toList _ _
  rw[e]
  exact z
 ·intro hlt
  have q:=h k ∅
  rw[ZI fnt,ZK ∅,Bool.not_eq_false']at q
  exact q
theorem galB(T:Tot P lt)(sb:Srt lt b.toList)(sa:Srt lt a.toList)(pa:∀ x∈a.toList,P x)(pb:∀ x∈b.toList,P x)(m:AInv lt a b out i j)(hi:i<a.size)(hj:j<=b.size)(hk:k<=b.size-j)
  (h:∀ t,t<b.size-j->(if true=true then lt (kas_item b (j+t)) (kas_item a i)else !(lt (kas_item a i) (kas_item b (j+t))))=decide (t<k)) :
  AInv lt a b (out++b.extract j (j+k)) i (j+k)/\(j+k<b.size->lt (kas_item b (j+k)) (kas_item a i)=false):=by
 constructor
 ·have z:=m.chunkB sb k (fun x hx y hy=>by
   obtain⟨j',g1,g2,g3,rfl⟩:=q366 hx
   obtain⟨i',h1,h2,rfl⟩:=q117 hy
   have q:=h (j'-j) ∅
   rw[ZJ rfl,show j+(j'-j)=j' by lia,ZA ∅]at q
   have q1:=T.asym _ _ (pb _ (q22 g3)) (pa _ (q22 hi)) q
   by_cases e:i=i'
   ·rw[<- e];exact q1
   ·exact T.trans _ _ _ (pb _ (q22 g3)) (pa _ (q22 hi)) (pa _ (q22 h2)) q1 (q106 T sa pa ∅ h2))
  have e:(out++b.extract j (j+k)).toList=out.toList++(b.toList.drop j).take k:=by
   rw[WK,q279 ∅,show j+k-j=k by lia]
  show MInv lt _ _ (out++b.extract j (j+k)).toList _ _
  rw[e]
  exact z
 ·intro hlt
  have q:=h k ∅
  rw[ZJ rfl,ZK ∅]at q
  exact q
theorem doneB(sa:Srt lt a.toList)(m:AInv lt a b out i j)(h:j=b.size):FinA lt a b (out++a.extract i a.size++b.extract j b.size):=by
 have z:=MInv.doneB m sa (by rw[h];simp)
 show Fin2 lt _ _ (out++a.extract i a.size++b.extract j b.size).toList
 rw[WK,WK,q239,q239]
 exact z
theorem doneA(sb:Srt lt b.toList)(m:AInv lt a b out i j)(h:i=a.size):FinA lt a b (out++a.extract i a.size++b.extract j b.size):=by
 have z:=MInv.doneA m sb (by rw[h];simp)
 show Fin2 lt _ _ (out++a.extract i a.size++b.extract j b.size).toList
 rw[WK,WK,q239,q239]
 exact z
theorem lastA(sa:Srt lt a.toList)(sb:Srt lt b.toList)(m:AInv lt a b out i j)(h:i+1=a.size)(hl:∀ x∈b.toList,lt (kas_item a (a.size-1)) x=false):FinA lt a b (out++b.extract j b.size++a.extract i a.size):=by
 have z:=MInv.lastA m sa sb (fun x hx y hy=>by
  obtain⟨i',g1,g2,rfl⟩:=q117 hy
  have:i'=a.size-1:=∅
  rw[this]
  exact hl x hx)
 show Fin2 lt _ _ (out++b.extract j b.size++a.extract i a.size).toList
 rw[WK,WK,q239,q239]
 exact z
end
section
variable {prog:Program} {w:World} {A:Around} {E:VS} {κ:SortKind} {P:Keyed->Prop} {lt:Keyed->Keyed->Bool}
def Kp(st st':SortSt):Prop:=kindOf st'=kindOf st/\arrOf st'=arrOf st/\pendingOf st'=pendingOf st/\failedOf st'=failedOf st
theorem Kp.refl(st:SortSt):Kp st st:=⟨rfl,rfl,rfl,rfl⟩
theorem Kp.trans{a b c:SortSt}(h:Kp a b)(g:Kp b c):Kp a c:=⟨g.1.trans h.1,g.2.1.trans h.2.1,g.2.2.1.trans h.2.2.1,g.2.2.2.trans h.2.2.2⟩
theorem q556{g:Nat}{Q:Unit->SortSt->Shared->Prop}{st:SortSt}{s:Shared}(h:∀ st',Kp st st'->Q () st' s):kasC (model prog w) A E (setMG' g) Q st s:=by
 refine kasC_modify (h _ ⟨rfl,rfl,rfl,rfl⟩)
end
end TS
namespace TS
set_option autoImplicit false
open PySem PySem.W PyProof.Rows List
section
variable {prog:Program} {w:World} {A:Around} {E:VS} {κ:SortKind} {P:Keyed->Prop} {lt:Keyed->Keyed->Bool}
theorem q159{β:Type}{f:Nat->β->M2 (ForInStep β)}{Q:β->SortSt->Shared->Prop}{n:Nat}{b:β}{st:SortSt}{s:Shared}(I:Nat->β->SortSt->Shared->Prop)(R:β->SortSt->Shared->Prop)(h0:I 0 b st s)(he:∀ b st s,I n b st s->R b st s)
  (hs:∀ k x b st s,k<n->I k b st s -> ∀ N:ForInStep β->SortSt->Shared->Prop,(∀{b st s},R b st s->N (.done b) st s)->(∀{b st s},I (k+1) b st s->N (.yield b) st s)->kasC (model prog w) A E (f x b) N st s) (hR:∀ b st s,R b st s->Q b st s):kasC (model prog w) A E (forIn [0:n] b f) Q st s:=
 q90 I R h0 he (fun k x b st s hk hi=>hs k x b st s hk hi _ id id) hR
theorem c_J1{α:Type}(J:Unit->Nat->M2 α){c:Prop}{_d:Decidable c}{x y:Nat}{Q:α->SortSt->Shared->Prop}{st:SortSt}{s:Shared}(h:∀ g,kasC (model prog w) A E (J () g) Q st s):kasC (model prog w) A E (if c then J () x else J () y) Q st s:=by
 split <;> exact h _
theorem c_jp{α β γ:Type}(J:Unit->β->γ->M2 α){c:Prop}{_d:Decidable c}{x:M2 α}{o:β}{i:γ}{Q:α->SortSt->Shared->Prop}{st:SortSt}{s:Shared}(I:β->γ->Prop)(hJ:∀ o i,I o i->kasC (model prog w) A E (J () o i) Q st s)(hx:c->(∀ o i,I o i->kasC (model prog w) A E (J () o i) Q st s)->kasC (model prog w) A E x Q st s)(h0:¬ c->I o i):kasC (model prog w) A E (if c then x else J () o i) Q st s:=by
 by_cases h:c
 ·rw[ZJ h]
  exact hx h hJ
 ·rw[ZI h]
  exact hJ _ _ (h0 h)
theorem mergeLo_{s:Shared}(G:Good prog w A E κ P lt s)(T:Tot P lt){a b:Array Keyed}{Q:Array Keyed->SortSt->Shared->Prop}{st:SortSt}(hst:kindOf st=κ)(pa:∀ x∈a.toList,P x)(pb:∀ x∈b.toList,P x)(sa:Srt lt a.toList)(sb:Srt lt b.toList)
  (na:0<a.size) (nb:0<b.size) (h0:lt (kas_item b 0) (kas_item a 0)=true) (hl:∀ x∈b.toList,lt (kas_item a (a.size-1)) x=false) (h:∀ r st',Kp st st'->FinA lt a b r->Q r st' s):kasC (model prog w) A E (mergeLo' a b) Q st s:=by
 have m0:AInv lt a b (#[]:Array Keyed) 0 0:=MInv.zero _ _
 have m1:=pushB T sb sa pa pb m0 na nb h0
 refine ZQ (kasC_lift (wpAny_rule ?_))
 refine ZQ (q49 nb ?_)
 extract_lets -merge
 dsimp -zeta +zetaDelta only
 by_cases c1:1=b.size
 ·rw[ZJ (by simp[<- c1])]
  exact ZT (h _ _ (Kp.refl _) (doneB sa m1 c1))
 rw[ZI (by simpa using c1)]
 by_cases c2:0+1=a.size
 ·rw[ZJ (by simp[<- c2])]
  exact ZT (h _ _ (Kp.refl _) (lastA sa sb m1 c2 hl))
 rw[ZI (by simpa using c2)]
 refine ZQ (kasC_get ?_)
 refine ZQ (q159 (fun t r st' s'=>Kp st st'/\s'=s /\ ∃ out i j mg,r=(none,out,i,j,mg)/\AInv lt a b out i j/\i+1<a.size/\j<b.size/\t<=i+j)
  (fun r st' s'=>Kp st st'/\s'=s /\ ∃ res z,r=(some res,z)/\FinA lt a b res) ⟨Kp.refl _,rfl,_,_,_,_,rfl,m1,∅,∅,∅⟩ ?_ ?_ ?_)
 ·rintro r st' s' ⟨_,_,out,i,j,mg,_,_,h1,h2,h3⟩
  lia
 ·rintro t x r st' s' ht ⟨K1,rfl,out,i,j,mg,rfl,m,hi,hj,hij⟩ N dn yl
  dsimp -zeta only
  extract_lets -merge
  dsimp -zeta +zetaDelta only
  refine ZQ (q159 (fun u r st₂ s₂=>st₂=st'/\s₂=s' /\ ∃ out₂ i₂ j₂ ac bc,r=(none,out₂,i₂,j₂,ac,bc)/\AInv lt a b out₂ i₂ j₂/\i₂+1<a.size/\j₂<b.size/\u+(i+j)<=i₂+j₂)
   (fun r st₂ s₂=>st₂=st'/\s₂=s'/\((∃ res z,r=(some res,z)/\FinA lt a b res) \/ ∃ out₂ i₂ j₂ ac bc,r=(none,out₂,i₂,j₂,ac,bc)/\AInv lt a b out₂ i₂ j₂/\i₂+1<a.size/\j₂<b.size/\i+j<=i₂+j₂))
   ⟨rfl,rfl,_,_,_,_,_,rfl,m,hi,hj,∅⟩ ?_ ?_ ?_)
  ·rintro r st₂ s₂ ⟨_,_,out₂,i₂,j₂,ac,bc,_,_,h1,h2,h3⟩
   lia
  ·rintro u x r st₂ s₂ hu ⟨rfl,rfl,out₂,i₂,j₂,ac,bc,rfl,m₂,hi₂,hj₂,hu₂⟩ N dn yl
   dsimp -zeta only
   extract_lets -merge
   dsimp -zeta +zetaDelta only
   refine ZQ (q49 hj₂ (ZQ (q49 (show i₂<a.size by lia) ?_)))
   refine ZQ (G _ _ _ _ (pb _ (q22 hj₂)) (pa _ (q22 (show i₂<a.size by lia))) (K1.1.trans hst) ?_)
   dsimp -zeta only
   cases hb:lt (kas_item b j₂) (kas_item a i₂) with
   | true=>
    rw[ZJ rfl]
    refine ZQ (q49 hj₂ ?_)
    have m₃:=pushB T sb sa pa pb m₂ ∅ hj₂ hb
    by_cases d1:j₂+1=b.size
    ·rw[ZJ (by simp[<- d1])]
     exact ZT (dn ⟨rfl,rfl,.inl ⟨_,_,rfl,doneB sa m₃ d1⟩⟩)
    rw[ZI (by simpa using d1)]
    by_cases d2:bc+1>=mg
    ·rw[ZJ d2]
     exact ZT (dn ⟨rfl,rfl,.inr ⟨_,_,_,_,_,rfl,m₃,hi₂,∅,∅⟩⟩)
    ·rw[ZI d2]
     exact ZT (yl ⟨rfl,rfl,_,_,_,_,_,rfl,m₃,hi₂,∅,∅⟩)
   | false=>
    rw[ZI fnt]
    refine ZQ (q49 (show i₂<a.size by lia) ?_)
    have m₃:=pushA T sb sa pa pb m₂ ∅ (fun _=>hb)
    by_cases d1:i₂+1+1=a.size
    ·rw[ZJ (by simp[<- d1])]
     exact ZT (dn ⟨rfl,rfl,.inl ⟨_,_,rfl,lastA sa sb m₃ d1 hl⟩⟩)
    rw[ZI (by simpa using d1)]
    by_cases d2:ac+1>=mg
    ·rw[ZJ d2]
     exact ZT (dn ⟨rfl,rfl,.inr ⟨_,_,_,_,_,rfl,m₃,∅,hj₂,∅⟩⟩)
    ·rw[ZI d2]
     exact ZT (yl ⟨rfl,rfl,_,_,_,_,_,rfl,m₃,∅,hj₂,∅⟩)
  ·rintro r st₂ s₂ ⟨rfl,rfl,hr⟩
   rcases hr with ⟨res,z,rfl,hf⟩ | ⟨out₂,i₂,j₂,ac,bc,rfl,m₂,hi₂,hj₂,hu₂⟩
   ·exact ZT (dn ⟨K1,rfl,_,_,rfl,hf⟩)
   dsimp -zeta only
   extract_lets -merge
   dsimp -zeta +zetaDelta only
   refine ZQ (kasC_lift (wpAny_rule ?_))
   refine ZQ (q159 (fun u r st₃ s₃=>Kp st st₃/\s₃=s₂ /\ ∃ out₃ i₃ j₃ mg ac bc,r=(none,out₃,i₃,j₃,mg,ac,bc)/\AInv lt a b out₃ i₃ j₃/\i₃+1<a.size/\j₃<b.size/\u+(i₂+j₂)<=i₃+j₃)
    (fun r st₃ s₃=>Kp st st₃/\s₃=s₂/\((∃ res z,r=(some res,z)/\FinA lt a b res) \/ ∃ out₃ i₃ j₃ mg ac bc,r=(none,out₃,i₃,j₃,mg,ac,bc)/\AInv lt a b out₃ i₃ j₃/\i₃+1<a.size/\j₃<b.size/\i₂+j₂+1<=i₃+j₃))
    ⟨K1,rfl,_,_,_,_,_,_,rfl,m₂,hi₂,hj₂,∅⟩ ?_ ?_ ?_)
   ·rintro r st₃ s₃ ⟨_,_,out₃,i₃,j₃,mg,ac,bc,_,_,h1,h2,h3⟩
    lia
   ·rintro u x r st₃ s₃ hu ⟨K3,rfl,out₃,i₃,j₃,mg,ac,bc,rfl,m₃,hi₃,hj₃,hu₃⟩ N dn yl
    dsimp -zeta only
    extract_lets -merge +onlyGivenNames _ _ _ _ _ _ _ _ _ _ _
    dsimp -zeta +zetaDelta only
    extract_lets -underBinder jp
    refine c_J1 jp fun mgx=>?_
    dsimp -zeta only [jp]
    clear jp
    obtain⟨k,hk,hB⟩:=exA T sa pa (pb _ (q22 hj₃)) (a.size-i₃) (i:=i₃) ∅
    obtain⟨m₄,hk4⟩:=galA T sb sa pa pb m₃ ∅ hj₃ hk hB
    have key:∀ st₄,Kp st st₄->kindOf st₄=κ:=fun st₄ K4=>K4.1.trans hst
    refine ZQ (q556 fun st₄ K4=>?_)
    have K5:=K3.trans K4
    refine ZQ (q49 hj₃ ?_)
    refine ZQ (q238 G (key _ K5) (pb _ (q22 hj₃)) (fun t ht=>pa _ (q22 ∅)) ∅ ∅ hk hB ?_)
    dsimp -zeta only
    extract_lets -merge +onlyGivenNames _
    dsimp -zeta +zetaDelta only
    extract_lets -underBinder jp
    refine c_jp jp (fun o i'=>AInv lt a b o i' j₃/\i'+1<a.size/\lt (kas_item b j₃) (kas_item a i')=true/\i₃<=i') ?_ ?_ ?_
    ·rintro o i' ⟨m₄,hi4,hb4,hle⟩
     dsimp -zeta only [jp]
     clear jp
     refine ZQ (q49 hj₃ ?_)
     extract_lets -merge
     dsimp -zeta +zetaDelta only
     have m₅:=pushB T sb sa pa pb m₄ ∅ hj₃ hb4
     by_cases d3:j₃+1=b.size
     ·rw[ZJ (by simp[<- d3])]
      exact ZT (dn ⟨K5,rfl,.inl ⟨_,_,rfl,doneB sa m₅ d3⟩⟩)
     rw[ZI (by simpa using d3)]
     have hi5:i'<a.size:=∅
     refine ZQ (q49 hi5 ?_)
     generalize o.push (kas_item b j₃)=o5 at m₅ ⊢
     have hj5:i₃+j₃<i'+(j₃+1)/\j₃+1<b.size:=∅
     generalize j₃+1=j5 at m₅ hj5 ⊢
     obtain⟨k2,hk2,hB2⟩:=exB T sb pb (pa _ (q22 hi5)) (b.size-j5) (j:=j5) ∅
     obtain⟨m₆,hk6⟩:=galB T sb sa pa pb m₅ hi5 ∅ hk2 hB2
     refine ZQ (q238 G (key _ K5) (pa _ (q22 hi5)) (fun t ht=>pb _ (q22 ∅)) ∅ ∅ hk2 hB2 ?_)
     dsimp -zeta only
     extract_lets -merge +onlyGivenNames _
     dsimp -zeta +zetaDelta only
     extract_lets -underBinder jp
     refine c_jp jp (fun o j'=>AInv lt a b o i' j'/\j'<b.size/\lt (kas_item b j') (kas_item a i')=false/\j5<=j') ?_ ?_ ?_
     ·rintro o j' ⟨m₆,hj6,hb6,hl6⟩
      dsimp -zeta only [jp]
      clear jp
      refine ZQ (q49 hi5 ?_)
      extract_lets -merge
      dsimp -zeta +zetaDelta only
      have m₇:=pushA T sb sa pa pb m₆ hi5 (fun _=>hb6)
      by_cases d5:i'+1+1=a.size
      ·rw[ZJ (by simp[<- d5])]
       exact ZT (dn ⟨K5,rfl,.inl ⟨_,_,rfl,lastA sa sb m₇ d5 hl⟩⟩)
      rw[ZI (by simpa using d5)]
      split
      ·exact ZT (dn ⟨K5,rfl,.inr ⟨_,_,_,_,_,_,rfl,m₇,∅,hj6,∅⟩⟩)
      ·exact ZT (yl ⟨K5,rfl,_,_,_,_,_,_,rfl,m₇,∅,hj6,∅⟩)
     ·intro hk20 J
      clear_value jp
      dsimp -zeta +zetaDelta only
      by_cases d4:j5+k2=b.size
      ·rw[ZJ (by simp[<- d4])]
       exact ZT (dn ⟨K5,rfl,.inl ⟨_,_,rfl,doneB sa m₆ d4⟩⟩)
      rw[ZI (by simpa using d4)]
      exact J _ _ ⟨m₆,∅,hk6 ∅,∅⟩
     ·intro hk20
      obtain rfl:k2=0:=∅
      exact⟨m₅,∅,hk6 ∅,ZG _⟩
    ·intro hk0 J
     clear_value jp
     dsimp -zeta +zetaDelta only
     by_cases d1:i₃+k+1=a.size
     ·rw[ZJ (by simp[<- d1])]
      exact ZT (dn ⟨K5,rfl,.inl ⟨_,_,rfl,lastA sa sb m₄ d1 hl⟩⟩)
     rw[ZI (by simpa using d1)]
     by_cases d2:i₃+k=a.size
     ·rw[ZJ (by simp[<- d2])]
      exact ZT (dn ⟨K5,rfl,.inl ⟨_,_,rfl,doneA sb m₄ d2⟩⟩)
     rw[ZI (by simpa using d2)]
     exact J _ _ ⟨m₄,∅,hk4 ∅,∅⟩
    ·intro hk0
     obtain rfl:k=0:=∅
     exact⟨m₃,hi₃,hk4 ∅,ZG _⟩
   ·rintro r st₃ s₃ ⟨K3,rfl,hr⟩
    rcases hr with ⟨res,z,rfl,hf⟩ | ⟨out₃,i₃,j₃,mg,ac,bc,rfl,m₃,hi₃,hj₃,hu₃⟩
    ·exact ZT (dn ⟨K3,rfl,_,_,rfl,hf⟩)
    dsimp -zeta only
    extract_lets -merge
    dsimp -zeta +zetaDelta only
    refine ZQ (q556 fun st₄ K4=>?_)
    exact ZT (yl ⟨K3.trans K4,rfl,_,_,_,_,rfl,m₃,hi₃,hj₃,∅⟩)
 ·rintro r st' s' ⟨K1,rfl,res,z,rfl,hf⟩
  exact ZT (h _ _ K1 hf)
end
end TS
namespace TS
set_option autoImplicit false
open PySem PySem.W PyProof.Rows List
section
variable {P:Keyed->Prop} {lt:Keyed->Keyed->Bool}
structure HInv(lt:Keyed->Keyed->Bool)(al bl o:List Keyed)(i j:Nat):Prop where
 perm:o.Perm (al.drop i++bl.drop j)
 srt:Srt lt o
 ba:∀ x∈al.take i,∀ y∈o,lt y x=false
 bb:∀ x∈bl.take j,∀ y∈o,lt y x=false
theorem HInv.swap{al bl o:List Keyed}{i j:Nat}(m:HInv lt al bl o i j):HInv lt bl al o j i:=⟨m.perm.trans perm_append_comm,m.srt,m.bb,m.ba⟩
theorem HInv.chunkA{al bl o:List Keyed}{i j:Nat}(m:HInv lt al bl o i j)(ha:Srt lt al)(at_:Nat)(h:at_<=i)(hi:i<=al.length)(hc:∀ x∈bl.take j,∀ y∈(al.take i).drop at_,lt y x=false):HInv lt al bl ((al.take i).drop at_++o) at_ j:=by
 have hs:Srt lt (al.take i):=List.Pairwise.sublist (take_sublist i al) ha
 have e0:(al.take i).take at_=al.take at_:=by rw[take_take,YY h]
 have e1:al.take i=al.take at_++(al.take i).drop at_:=by rw[<- e0,take_append_drop]
 have hs2:=hs
 rw[e1]at hs2
 have hs':=List.pairwise_append.mp hs2
 have e2:al.drop at_=(al.take i).drop at_++al.drop i:=by
  have z:al=al.take i++al.drop i:=(take_append_drop i al).symm
  have z2:=congrArg (List.drop at_) z
  rw[drop_append_of_le_length (by rw[length_take];lia)]at z2
  exact z2
 have sub1:∀ y∈(al.take i).drop at_,y∈al.take i:=fun y hy=>mem_of_mem_drop hy
 have sub2:∀ y∈al.take at_,y∈al.take i:=fun y hy=>by rw[e1];exact mem_append_left _ hy
 refine⟨?_,?_,fun x hx y hy=>?_,fun x hx y hy=>?_⟩
 ·rw[e2,YW]
  exact m.perm.append_left _
 ·exact List.pairwise_append.mpr ⟨hs'.2.1,m.srt,fun x hx y hy=>m.ba x (sub1 x hx) y hy⟩
 ·rcases List.mem_append.mp hy with h' | h'
  ·exact hs'.2.2 x hx y h'
  ·exact m.ba x (sub2 x hx) y h'
 ·rcases List.mem_append.mp hy with h' | h'
  ·exact hc x hx y h'
  ·exact m.bb x hx y h'
theorem HInv.chunkB{al bl o:List Keyed}{i j:Nat}(m:HInv lt al bl o i j)(hb:Srt lt bl)(at_:Nat)(h:at_<=j)(hj:j<=bl.length)(hc:∀ x∈al.take i,∀ y∈(bl.take j).drop at_,lt y x=false):HInv lt al bl ((bl.take j).drop at_++o) i at_:=
 (m.swap.chunkA hb at_ h hj hc).swap
theorem HInv.zero(al bl:List Keyed):HInv lt al bl [] al.length bl.length:=⟨by simp,.nil,fun x hx y hy=>absurd hy (by simp),fun x hx y hy=>absurd hy (by simp)⟩
theorem HInv.fin{al bl o:List Keyed}(m:HInv lt al bl o 0 0):Fin2 lt al bl o:=⟨by simpa using m.perm,m.srt⟩
variable{a b out:Array Keyed}{i j k:Nat}
abbrev BInv(lt:Keyed->Keyed->Bool)(a b out:Array Keyed)(i j:Nat):Prop:=HInv lt a.toList b.toList out.reverse.toList i j
theorem ext0(h:i<=a.size):(a.extract k i).toList=(a.toList.take i).drop k:=by
 rw[q279 h,drop_take]
theorem q298{x:Keyed}(h:x∈a.toList.take i):∃ t,t<i/\t<a.size/\x=kas_item a t:=by
 obtain⟨m,hm⟩:=mem_iff_getElem?.mp h
 rw[getElem?_take]at hm
 by_cases c:m<i
 ·rw[ZJ c]at hm
  have hl:=(List.getElem?_eq_some_iff.mp hm).1
  have hl':m<a.size:=by simpa using hl
  exists m,c,hl'
  rw[q52 hl']at hm
  exact(Option.some.inj hm).symm
 ·rw[ZI c]at hm
  cases hm
theorem q557{x:Keyed}(h:x∈(a.toList.take i).drop k):∃ t,k<=t/\t<i/\t<a.size/\x=kas_item a t:=by
 obtain⟨m,hm⟩:=mem_iff_getElem?.mp h
 rw[getElem?_drop,getElem?_take]at hm
 by_cases c:k+m<i
 ·rw[ZJ c]at hm
  have hl:=(List.getElem?_eq_some_iff.mp hm).1
  have hl':k+m<a.size:=by simpa using hl
  exists k+m,∅,c,hl'
  rw[q52 hl']at hm
  exact(Option.some.inj hm).symm
 ·rw[ZI c]at hm
  cases hm
theorem one_last(h0:0<i)(h:i<=a.size):(a.toList.take i).drop (i-1)=[kas_item a (i-1)]:=by
 obtain⟨t,rfl⟩:∃ t,i=t+1:=⟨i-1,∅⟩
 have e:=q52 (a:=a) (i:=t) ∅
 rw[Nat.add_sub_cancel,WU,e,drop_append_of_le_length (by simp;lia),drop_of_length_le (by rw[length_take];lia)]
 rfl
theorem hgalA(T:Tot P lt)(sb:Srt lt b.toList)(sa:Srt lt a.toList)(pa:∀ x∈a.toList,P x)(pb:∀ x∈b.toList,P x)(m:BInv lt a b out i j)(hi:i<=a.size)(hj0:0<j)(hj:j<=b.size)(hk:k<=i)
  (h:∀ t,k<=t->t<i->lt (kas_item b (j-1)) (kas_item a t)=true):BInv lt a b (out++(a.extract k i).reverse) k j:=by
 have z:=m.chunkA sa k hk (by simpa using hi) (fun x hx y hy=>by
  obtain⟨j',h1,h2,rfl⟩:=q298 hx
  obtain⟨t,g1,g2,g3,rfl⟩:=q557 hy
  have q:=T.asym _ _ (pb _ (q22 ∅)) (pa _ (q22 g3)) (h t g1 g2)
  by_cases e:j'=j-1
  ·rw[e];exact q
  ·exact T.trans _ _ _ (pb _ (q22 h2)) (pb _ (q22 ∅)) (pa _ (q22 g3)) (q106 T sb pb ∅ ∅) q)
 have e:(out++(a.extract k i).reverse).reverse.toList=(a.toList.take i).drop k++out.reverse.toList:=by
  rw[<- ext0 hi]
  simp
 show HInv lt _ _ (out++(a.extract k i).reverse).reverse.toList _ _
 rw[e]
 exact z
theorem hgalB(T:Tot P lt)(sb:Srt lt b.toList)(sa:Srt lt a.toList)(pa:∀ x∈a.toList,P x)(pb:∀ x∈b.toList,P x)(m:BInv lt a b out i j)(hi0:0<i)(hi:i<=a.size)(hj:j<=b.size)(hk:k<=j)
  (h:∀ t,k<=t->t<j->lt (kas_item b t) (kas_item a (i-1))=false):BInv lt a b (out++(b.extract k j).reverse) i k:=by
 have z:=m.chunkB sb k hk (by simpa using hj) (fun x hx y hy=>by
  obtain⟨i',h1,h2,rfl⟩:=q298 hx
  obtain⟨t,g1,g2,g3,rfl⟩:=q557 hy
  have q:=h t g1 g2
  by_cases e:i'=i-1
  ·rw[e];exact q
  ·exact T.trans _ _ _ (pa _ (q22 h2)) (pa _ (q22 ∅)) (pb _ (q22 g3)) (q106 T sa pa ∅ ∅) q)
 have e:(out++(b.extract k j).reverse).reverse.toList=(b.toList.take j).drop k++out.reverse.toList:=by
  rw[<- ext0 hj]
  simp
 show HInv lt _ _ (out++(b.extract k j).reverse).reverse.toList _ _
 rw[e]
 exact z
theorem q558(h0:0<i)(h:i<=a.size):out++(a.extract (i-1) i).reverse=out.push (kas_item a (i-1)):=by
 apply Array.toList_inj.mp
 rw[WK,Array.toList_reverse,ext0 h,one_last h0 h]
 simp
theorem q687(T:Tot P lt)(sb:Srt lt b.toList)(sa:Srt lt a.toList)(pa:∀ x∈a.toList,P x)(pb:∀ x∈b.toList,P x)(m:BInv lt a b out i j)(hi0:0<i)(hi:i<=a.size)(hj0:0<j)(hj:j<=b.size)(h:lt (kas_item b (j-1)) (kas_item a (i-1))=true):BInv lt a b (out.push (kas_item a (i-1))) (i-1) j:=by
 rw[<- q558 hi0 hi]
 exact hgalA T sb sa pa pb m hi hj0 hj ∅ fun t h1 h2=>by
  have:t=i-1:=∅
  rw[this];exact h
theorem hpushB(T:Tot P lt)(sb:Srt lt b.toList)(sa:Srt lt a.toList)(pa:∀ x∈a.toList,P x)(pb:∀ x∈b.toList,P x)(m:BInv lt a b out i j)(hi0:0<i)(hi:i<=a.size)(hj0:0<j)(hj:j<=b.size)(h:lt (kas_item b (j-1)) (kas_item a (i-1))=false):BInv lt a b (out.push (kas_item b (j-1))) i (j-1):=by
 rw[<- q558 hj0 hj]
 exact hgalB T sb sa pa pb m hi0 hi hj ∅ fun t h1 h2=>by
  have:t=j-1:=∅
  rw[this];exact h
theorem q559(sb:Srt lt b.toList)(m:BInv lt a b out i j)(hj:j<=b.size)(h:i=0):FinA lt a b (a.extract 0 i++b.extract 0 j++out.reverse):=by
 subst h
 have z:=(m.chunkB sb 0 (WB _) (by simpa using hj) (fun x hx=>absurd hx (by simp))).fin
 show Fin2 lt _ _ (a.extract 0 0++b.extract 0 j++out.reverse).toList
 rw[WK,WK,ext0 hj,ext0 (WB _)]
 simpa using z
theorem hdoneB(sa:Srt lt a.toList)(m:BInv lt a b out i j)(hi:i<=a.size)(h:j=0):FinA lt a b (a.extract 0 i++b.extract 0 j++out.reverse):=by
 subst h
 have z:=(m.chunkA sa 0 (WB _) (by simpa using hi) (fun x hx=>absurd hx (by simp))).fin
 show Fin2 lt _ _ (a.extract 0 i++b.extract 0 0++out.reverse).toList
 rw[WK,WK,ext0 hi,ext0 (WB _)]
 simpa using z
theorem q560(sa:Srt lt a.toList)(sb:Srt lt b.toList)(m:BInv lt a b out i j)(hi:i<=a.size)(hj:j<=b.size)(h:j=1)(hf:∀ x∈a.toList,lt x (kas_item b 0)=false):FinA lt a b (b.extract 0 j++a.extract 0 i++out.reverse):=by
 subst h
 have z:=m.chunkA sa 0 (WB _) (by simpa using hi) (fun x hx y hy=>by
  obtain⟨t,h1,h2,rfl⟩:=q298 hx
  have:t=0:=∅
  subst this
  exact hf y (mem_of_mem_take (mem_of_mem_drop hy)))
 have z2:=(z.chunkB sb 0 (WB _) (by simpa using hj) (fun x hx=>absurd hx (by simp))).fin
 show Fin2 lt _ _ (b.extract 0 1++a.extract 0 i++out.reverse).toList
 rw[WK,WK,ext0 hi,ext0 hj]
 simpa using z2
end
section
variable {prog:Program} {w:World} {A:Around} {E:VS} {κ:SortKind} {P:Keyed->Prop} {lt:Keyed->Keyed->Bool}
theorem mergeHi_{s:Shared}(G:Good prog w A E κ P lt s)(T:Tot P lt){a b:Array Keyed}{Q:Array Keyed->SortSt->Shared->Prop}{st:SortSt}(hst:kindOf st=κ)(pa:∀ x∈a.toList,P x)(pb:∀ x∈b.toList,P x)(sa:Srt lt a.toList)(sb:Srt lt b.toList)
  (na:0<a.size) (nb:0<b.size) (hl:lt (kas_item b (b.size-1)) (kas_item a (a.size-1))=true) (hf:∀ x∈a.toList,lt x (kas_item b 0)=false) (h:∀ r st',Kp st st'->FinA lt a b r->Q r st' s):kasC (model prog w) A E (mergeHi' a b) Q st s:=by
 have m0:BInv lt a b (#[]:Array Keyed) a.size b.size:=by
  have z:=HInv.zero (lt:=lt) a.toList b.toList
  simpa [BInv] using z
 have m1:=q687 T sb sa pa pb m0 na (ZG _) nb (ZG _) hl
 refine ZQ (kasC_lift (wpAny_rule ?_))
 refine ZQ (q49 (show a.size-1<a.size by lia) ?_)
 extract_lets -merge
 dsimp -zeta +zetaDelta only
 by_cases c1:a.size-1=0
 ·rw[ZJ (by simp[c1])]
  exact ZT (h _ _ (Kp.refl _) (q559 sb m1 (ZG _) c1))
 rw[ZI (by simpa using c1)]
 by_cases c2:b.size=1
 ·rw[ZJ (by simp[c2])]
  exact ZT (h _ _ (Kp.refl _) (q560 sa sb m1 ∅ (ZG _) c2 hf))
 rw[ZI (by simpa using c2)]
 refine ZQ (kasC_get ?_)
 refine ZQ (q159 (fun t r st' s'=>Kp st st'/\s'=s /\ ∃ i j out mg,r=(none,i,j,out,mg)/\BInv lt a b out i j/\1<=i/\i<=a.size/\2<=j/\j<=b.size/\t+i+j<=a.size+b.size)
  (fun r st' s'=>Kp st st'/\s'=s /\ ∃ res z,r=(some res,z)/\FinA lt a b res) ⟨Kp.refl _,rfl,_,_,_,_,rfl,m1,∅,∅,∅,∅,∅⟩ ?_ ?_ ?_)
 ·rintro r st' s' ⟨_,_,i,j,out,mg,_,_,h1,h2,h3,h4,h5⟩
  lia
 ·rintro t x r st' s' ht ⟨K1,rfl,i,j,out,mg,rfl,m,hi0,hi,hj0,hj,hij⟩ N dn yl
  dsimp -zeta only
  extract_lets -merge
  dsimp -zeta +zetaDelta only
  refine ZQ (q159 (fun u r st₂ s₂=>st₂=st'/\s₂=s' /\ ∃ i₂ j₂ out₂ ac bc,r=(none,i₂,j₂,out₂,ac,bc)/\BInv lt a b out₂ i₂ j₂/\1<=i₂/\i₂<=a.size/\2<=j₂/\j₂<=b.size/\u+i₂+j₂<=i+j)
   (fun r st₂ s₂=>st₂=st'/\s₂=s'/\((∃ res z,r=(some res,z)/\FinA lt a b res) \/ ∃ i₂ j₂ out₂ ac bc,r=(none,i₂,j₂,out₂,ac,bc)/\BInv lt a b out₂ i₂ j₂/\1<=i₂/\i₂<=a.size/\2<=j₂/\j₂<=b.size/\i₂+j₂<=i+j))
   ⟨rfl,rfl,_,_,_,_,_,rfl,m,hi0,hi,hj0,hj,∅⟩ ?_ ?_ ?_)
  ·rintro r st₂ s₂ ⟨_,_,i₂,j₂,out₂,ac,bc,_,_,h1,h2,h3,h4,h5⟩
   lia
  ·rintro u x r st₂ s₂ hu ⟨rfl,rfl,i₂,j₂,out₂,ac,bc,rfl,m₂,hi₂0,hi₂,hj₂0,hj₂,hu₂⟩ N dn yl
   dsimp -zeta only
   extract_lets -merge
   dsimp -zeta +zetaDelta only
   have ja:j₂-1<b.size:=∅
   have ia:i₂-1<a.size:=∅
   refine ZQ (q49 ja (ZQ (q49 ia ?_)))
   refine ZQ (G _ _ _ _ (pb _ (q22 ja)) (pa _ (q22 ia)) (K1.1.trans hst) ?_)
   dsimp -zeta only
   cases hb:lt (kas_item b (j₂-1)) (kas_item a (i₂-1)) with
   | true=>
    rw[ZJ rfl]
    refine ZQ (q49 ia ?_)
    have m₃:=q687 T sb sa pa pb m₂ ∅ hi₂ ∅ hj₂ hb
    by_cases d1:i₂-1=0
    ·rw[ZJ (by simp[d1])]
     exact ZT (dn ⟨rfl,rfl,.inl ⟨_,_,rfl,q559 sb m₃ hj₂ d1⟩⟩)
    rw[ZI (by simpa using d1)]
    by_cases d2:ac+1>=mg
    ·rw[ZJ d2]
     exact ZT (dn ⟨rfl,rfl,.inr ⟨_,_,_,_,_,rfl,m₃,∅,∅,∅,∅,∅⟩⟩)
    ·rw[ZI d2]
     exact ZT (yl ⟨rfl,rfl,_,_,_,_,_,rfl,m₃,∅,∅,∅,∅,∅⟩)
   | false=>
    rw[ZI fnt]
    refine ZQ (q49 ja ?_)
    have m₃:=hpushB T sb sa pa pb m₂ ∅ hi₂ ∅ hj₂ hb
    by_cases d1:j₂-1=1
    ·rw[ZJ (by simp[d1])]
     exact ZT (dn ⟨rfl,rfl,.inl ⟨_,_,rfl,q560 sa sb m₃ hi₂ ∅ d1 hf⟩⟩)
    rw[ZI (by simpa using d1)]
    by_cases d2:bc+1>=mg
    ·rw[ZJ d2]
     exact ZT (dn ⟨rfl,rfl,.inr ⟨_,_,_,_,_,rfl,m₃,∅,∅,∅,∅,∅⟩⟩)
    ·rw[ZI d2]
     exact ZT (yl ⟨rfl,rfl,_,_,_,_,_,rfl,m₃,∅,∅,∅,∅,∅⟩)
  ·rintro r st₂ s₂ ⟨rfl,rfl,hr⟩
   rcases hr with ⟨res,z,rfl,hfin⟩ | ⟨i₂,j₂,out₂,ac,bc,rfl,m₂,hi₂0,hi₂,hj₂0,hj₂,hu₂⟩
   ·exact ZT (dn ⟨K1,rfl,_,_,rfl,hfin⟩)
   dsimp -zeta only
   extract_lets -merge
   dsimp -zeta +zetaDelta only
   refine ZQ (kasC_lift (wpAny_rule ?_))
   refine ZQ (q159 (fun u r st₃ s₃=>Kp st st₃/\s₃=s₂ /\ ∃ i₃ j₃ out₃ mg ac bc,r=(none,i₃,j₃,out₃,mg,ac,bc)/\BInv lt a b out₃ i₃ j₃/\1<=i₃/\i₃<=a.size/\2<=j₃/\j₃<=b.size/\u+i₃+j₃<=i₂+j₂)
    (fun r st₃ s₃=>Kp st st₃/\s₃=s₂/\((∃ res z,r=(some res,z)/\FinA lt a b res) \/ ∃ i₃ j₃ out₃ mg ac bc,r=(none,i₃,j₃,out₃,mg,ac,bc)/\BInv lt a b out₃ i₃ j₃/\1<=i₃/\i₃<=a.size/\2<=j₃/\j₃<=b.size/\1+i₃+j₃<=i₂+j₂))
    ⟨K1,rfl,_,_,_,_,_,_,rfl,m₂,hi₂0,hi₂,hj₂0,hj₂,∅⟩ ?_ ?_ ?_)
   ·rintro r st₃ s₃ ⟨_,_,i₃,j₃,out₃,mg,ac,bc,_,_,h1,h2,h3,h4,h5⟩
    lia
   ·rintro u x r st₃ s₃ hu ⟨K3,rfl,i₃,j₃,out₃,mg,ac,bc,rfl,m₃,hi₃0,hi₃,hj₃0,hj₃,hu₃⟩ N dn yl
    dsimp -zeta only
    extract_lets -merge +onlyGivenNames _ _ _ _ _ _ _ _ _ _ _
    dsimp -zeta +zetaDelta only
    extract_lets -underBinder jp
    refine c_J1 jp fun mgx=>?_
    dsimp -zeta only [jp]
    clear jp
    have ja:j₃-1<b.size:=∅
    obtain⟨k,hk,hB⟩:=exA T sa pa (pb _ (q22 ja)) i₃ (i:=0) ∅
    have gA:∀ t,t<k->lt (kas_item b (j₃-1)) (kas_item a t)=false:=fun t ht=>by
     have q:=hB t ∅
     rw[ZI fnt,Nat.zero_add,ZA ht,Bool.not_eq_true']at q
     exact q
    have gB:∀ t,k<=t->t<i₃->lt (kas_item b (j₃-1)) (kas_item a t)=true:=fun t h1 h2=>by
     have q:=hB t h2
     rw[ZI fnt,Nat.zero_add,ZK ∅,Bool.not_eq_false']at q
     exact q
    have m₄:=hgalA T sb sa pa pb m₃ hi₃ ∅ hj₃ hk gB
    have key:∀ st₄,Kp st st₄->kindOf st₄=κ:=fun st₄ K4=>K4.1.trans hst
    refine ZQ (q556 fun st₄ K4=>?_)
    have K5:=K3.trans K4
    refine ZQ (q49 ja ?_)
    refine ZQ (q238 G (key _ K5) (pb _ (q22 ja)) (fun t ht=>pa _ (q22 ∅)) ∅ ∅ hk hB ?_)
    dsimp -zeta only
    extract_lets -merge +onlyGivenNames _
    dsimp -zeta +zetaDelta only
    extract_lets -underBinder jp
    refine c_jp jp (fun i' o=>BInv lt a b o i' j₃/\0<i'/\i'<=i₃/\lt (kas_item b (j₃-1)) (kas_item a (i'-1))=false) ?_ ?_ ?_
    ·rintro i' o ⟨m₄,hi4,hi4',hb4⟩
     dsimp -zeta only [jp]
     clear jp
     refine ZQ (q49 ja ?_)
     extract_lets -merge
     dsimp -zeta +zetaDelta only
     have m₅:=hpushB T sb sa pa pb m₄ hi4 ∅ ∅ ∅ hb4
     by_cases d3:j₃-1=1
     ·rw[ZJ (by simp[d3])]
      exact ZT (dn ⟨K5,rfl,.inl ⟨_,_,rfl,q560 sa sb m₅ ∅ ∅ d3 hf⟩⟩)
     rw[ZI (by simpa using d3)]
     have hi5:i'-1<a.size:=∅
     refine ZQ (q49 hi5 ?_)
     generalize o.push (kas_item b (j₃-1))=o5 at m₅ ⊢
     have hj5:2<=j₃-1/\j₃-1<j₃:=∅
     generalize j₃-1=j5 at m₅ hj5 ⊢
     obtain⟨k2,hk2,hB2⟩:=exB T sb pb (pa _ (q22 hi5)) j5 (j:=0) ∅
     have gA2:∀ t,t<k2->lt (kas_item b t) (kas_item a (i'-1))=true:=fun t ht=>by
      have q:=hB2 t ∅
      rw[ZJ rfl,Nat.zero_add,ZA ht]at q
      exact q
     have gB2:∀ t,k2<=t->t<j5->lt (kas_item b t) (kas_item a (i'-1))=false:=fun t h1 h2=>by
      have q:=hB2 t h2
      rw[ZJ rfl,Nat.zero_add,ZK ∅]at q
      exact q
     refine ZQ (q238 G (key _ K5) (pa _ (q22 hi5)) (fun t ht=>pb _ (q22 ∅)) ∅ ∅ hk2 hB2 ?_)
     dsimp -zeta only
     extract_lets -merge +onlyGivenNames _
     dsimp -zeta +zetaDelta only
     extract_lets -underBinder jp
     refine c_jp jp (fun j' o=>BInv lt a b o i' j'/\2<=j'/\j'<=j5/\lt (kas_item b (j'-1)) (kas_item a (i'-1))=true) ?_ ?_ ?_
     ·rintro j' o ⟨m₆,hj6,hj6',hb6⟩
      dsimp -zeta only [jp]
      clear jp
      refine ZQ (q49 hi5 ?_)
      extract_lets -merge
      dsimp -zeta +zetaDelta only
      have m₇:=q687 T sb sa pa pb m₆ hi4 ∅ ∅ ∅ hb6
      by_cases d6:i'-1=0
      ·rw[ZJ (by simp[d6])]
       exact ZT (dn ⟨K5,rfl,.inl ⟨_,_,rfl,q559 sb m₇ ∅ d6⟩⟩)
      rw[ZI (by simpa using d6)]
      split
      ·exact ZT (dn ⟨K5,rfl,.inr ⟨_,_,_,_,_,_,rfl,m₇,∅,∅,∅,∅,∅⟩⟩)
      ·exact ZT (yl ⟨K5,rfl,_,_,_,_,_,_,rfl,m₇,∅,∅,∅,∅,∅⟩)
     ·intro hz2 J
      clear_value jp
      dsimp -zeta +zetaDelta only
      have m₆:=hgalB T sb sa pa pb m₅ hi4 ∅ ∅ (show k2<=j5 by lia) gB2
      by_cases d4:k2=1
      ·rw[ZJ (by simp[d4])]
       exact ZT (dn ⟨K5,rfl,.inl ⟨_,_,rfl,q560 sa sb m₆ ∅ ∅ d4 hf⟩⟩)
      rw[ZI (by simpa using d4)]
      by_cases d5:k2=0
      ·rw[ZJ (by simp[d5])]
       exact ZT (dn ⟨K5,rfl,.inl ⟨_,_,rfl,hdoneB sa m₆ ∅ d5⟩⟩)
      rw[ZI (by simpa using d5)]
      exact J _ _ ⟨m₆,∅,∅,gA2 _ ∅⟩
     ·intro hz2
      exact⟨m₅,∅,ZG _,gA2 _ ∅⟩
    ·intro hz J
     clear_value jp
     dsimp -zeta +zetaDelta only
     by_cases d1:k=0
     ·rw[ZJ (by simp[d1])]
      exact ZT (dn ⟨K5,rfl,.inl ⟨_,_,rfl,q559 sb m₄ hj₃ d1⟩⟩)
     rw[ZI (by simpa using d1)]
     exact J _ _ ⟨m₄,∅,∅,gA _ ∅⟩
    ·intro hz
     exact⟨m₃,∅,ZG _,gA _ ∅⟩
   ·rintro r st₃ s₃ ⟨K3,rfl,hr⟩
    rcases hr with ⟨res,z,rfl,hfin⟩ | ⟨i₃,j₃,out₃,mg,ac,bc,rfl,m₃,hi₃0,hi₃,hj₃0,hj₃,hu₃⟩
    ·exact ZT (dn ⟨K3,rfl,_,_,rfl,hfin⟩)
    dsimp -zeta only
    extract_lets -merge
    dsimp -zeta +zetaDelta only
    refine ZQ (q556 fun st₄ K4=>?_)
    exact ZT (yl ⟨K3.trans K4,rfl,_,_,_,_,rfl,m₃,hi₃0,hi₃,hj₃0,hj₃,∅⟩)
 ·rintro r st' s' ⟨K1,rfl,res,z,rfl,hfin⟩
  exact ZT (h _ _ K1 hfin)
end
end TS
namespace TS
set_option autoImplicit false
open PySem PySem.W PyProof.Rows List
section
variable {prog:Program} {w:World} {A:Around} {E:VS}
theorem c_upto{β:Type}{f:Nat->β->M2 (ForInStep β)}{R:β->SortSt->Shared->Prop}(I:Nat->β->SortSt->Shared->Prop) :
  ∀(m a:Nat)(b:β)(st:SortSt)(s:Shared),I a b st s->(∀ b st s,I (a+m) b st s->R b st s) ->
  (∀ k b st s,a<=k->k<a+m->I k b st s->kasC (model prog w) A E (f k b) (fun r st' s'=>match r with | .done b'=>R b' st' s' | .yield b'=>I (k+1) b' st' s') st s) ->
  kasC (model prog w) A E (forIn (List.range' a m) b f) R st s
 | 0,a,b,st,s,hi,hq,_=>kasC_nil (hq b st s hi)
 | m+1,a,b,st,s,hi,hq,hs=>by
  rw[range'_succ]
  refine kasC_cons (WW (hs a b st s (ZG _) ∅ hi) (fun r s' h=>?_) fun _ _ e=>e)
  obtain⟨r,st'⟩:=r
  cases r with
  | done b'=>exact h
  | yield b'=>exact c_upto I m (a+1) b' st' s' h (fun b st s hb=>hq b st s (by rw[show a+(m+1)=a+1+m by lia];exact hb)) (fun k b st s h1 h2 h3=>hs k b st s ∅ ∅ h3)
theorem q202{β:Type}{f:Nat->β->M2 (ForInStep β)}{Q:β->SortSt->Shared->Prop}{a n:Nat}{b:β}{st:SortSt}{s:Shared}(han:a<=n)(I:Nat->β->SortSt->Shared->Prop)(R:β->SortSt->Shared->Prop)(h0:I a b st s)(he:∀ b st s,I n b st s->R b st s)
  (hs:∀ k b st s,a<=k->k<n->I k b st s->kasC (model prog w) A E (f k b) (fun r st' s'=>match r with | .done b'=>R b' st' s' | .yield b'=>I (k+1) b' st' s') st s) (hR:∀ b st s,R b st s->Q b st s):kasC (model prog w) A E (forIn [a:n] b f) Q st s:=by
 refine kasC_range (WW (c_upto I (n-a) a b st s h0 (fun b st s h=>he b st s (by rw[show a+(n-a)=n by lia]at h;exact h)) (fun k b st s h1 h2 h3=>hs k b st s h1 ∅ h3)) (fun r s' h=>hR _ _ _ h) fun _ _ e=>e)
end
section
variable {P:Keyed->Prop} {lt:Keyed->Keyed->Bool}
theorem q110{xs ys:Array Keyed}{i j:Nat}(h:xs[i]? = ys[j]?):kas_item xs i=kas_item ys j:=by
 unfold kas_item
 rw[Array.getD_eq_getD_getElem?,Array.getD_eq_getD_getElem?,h]
theorem q299{xs:Array Keyed}{src d:Nat}(hs:src<xs.size)(hd:d<=src)(t:Nat):kas_item (bubble xs src d) t=if t=src-d then kas_item xs src else if src-d<t/\t<=src then kas_item xs (t-1)else kas_item xs t:=by
 have e:=getElem?_bubble hs d hd t
 by_cases h1:t=src-d
 ·rw[ZJ h1]at e ⊢;exact q110 e
 ·rw[ZI h1]at e ⊢
  by_cases h2:src-d<t/\t<=src
  ·rw[ZJ h2]at e ⊢;exact q110 e
  ·rw[ZI h2]at e ⊢;exact q110 e
theorem q191{xs:Array Keyed}{i j:Nat}(hj:j<=xs.size)(t:Nat):kas_item (mirror xs i j ((j-i)/2)) t=if i<=t/\t<j then kas_item xs (i+j-1-t)else kas_item xs t:=by
 have e:=getElem?_mirror_all (i:=i) hj t
 by_cases h1:i<=t/\t<j
 ·rw[ZJ h1]at e ⊢;exact q110 e
 ·rw[ZI h1]at e ⊢;exact q110 e
structure Loc(xs ys:Array Keyed)(lo hi:Nat):Prop where
 size:ys.size=xs.size
 perm:ys.Perm xs
 out:∀ t,t<lo\/hi<=t->ys[t]? = xs[t]?
theorem Loc.refl(xs:Array Keyed)(lo hi:Nat):Loc xs xs lo hi:=⟨rfl,Array.Perm.refl _,fun _ _=>rfl⟩
theorem Loc.trans{xs ys zs:Array Keyed}{lo hi:Nat}(a:Loc xs ys lo hi)(b:Loc ys zs lo hi):Loc xs zs lo hi:=⟨b.size.trans a.size,b.perm.trans a.perm,fun t ht=>(b.out t ht).trans (a.out t ht)⟩
theorem Loc.wide{xs ys:Array Keyed}{lo hi lo' hi':Nat}(a:Loc xs ys lo hi)(h1:lo'<=lo)(h2:hi<=hi'):Loc xs ys lo' hi':=⟨a.size,a.perm,fun t ht=>a.out t ∅⟩
theorem Loc.good{xs ys:Array Keyed}{lo hi:Nat}(a:Loc xs ys lo hi)(h:∀ x∈xs.toList,P x):∀ x∈ys.toList,P x:=fun x hx=>h x ((Array.perm_iff_toList_perm.mp a.perm).mem_iff.mp hx)
theorem q618{xs:Array Keyed}{src d:Nat}(hs:src<xs.size)(hd:d<=src):Loc xs (bubble xs src d) (src-d) (src+1):=⟨bubble_size _ _ _,bubble_perm _ _ _,fun t ht=>by
 rw[getElem?_bubble hs d hd t]
 by_cases h1:t=src-d
 ·lia
 ·rw[ZI h1,ZI ∅]⟩
theorem q71{xs:Array Keyed}{i j:Nat}(hj:j<=xs.size):Loc xs (mirror xs i j ((j-i)/2)) i j:=⟨mirror_size _ _ _ _,mirror_perm _ _ _ _,fun t ht=>by
 rw[getElem?_mirror_all hj t,ZI ∅]⟩
def Asc(lt:Keyed->Keyed->Bool)(xs:Array Keyed)(lo n:Nat):Prop:=∀ p q,p<q->q<n->lt (kas_item xs (lo+q)) (kas_item xs (lo+p))=false
def Su(st st':SortSt):Prop:=kindOf st'=kindOf st/\pendingOf st'=pendingOf st/\failedOf st'=failedOf st
theorem Su.refl(st:SortSt):Su st st:=⟨rfl,rfl,rfl⟩
theorem Su.trans{a b c:SortSt}(h:Su a b)(g:Su b c):Su a c:=⟨g.1.trans h.1,g.2.1.trans h.2.1,g.2.2.trans h.2.2⟩
theorem ins_asc(T:Tot P lt){xs:Array Keyed}{lo k l:Nat}(hp:∀ x∈xs.toList,P x)(hz:lo+k<xs.size)(hl:l<=k)(hs:Asc lt xs lo k)(h1:∀ t,t<l->lt (kas_item xs (lo+k)) (kas_item xs (lo+t))=false)(h2:∀ t,l<=t->t<k->lt (kas_item xs (lo+k)) (kas_item xs (lo+t))=true) :
  Asc lt (bubble xs (lo+k) (lo+k-(lo+l))) lo (k+1):=by
 have pm:∀ t,t<=k->P (kas_item xs (lo+t)):=fun t ht=>hp _ (q22 ∅)
 intro p q hpq hq
 rw[q299 hz ∅,q299 hz ∅]
 by_cases q1:q=l
 ·rw[ZJ ∅,ZI ∅,ZI ∅]
  exact h1 p ∅
 ·rw[ZI (show ¬ lo+q=lo+k-(lo+k-(lo+l)) by lia)]
  by_cases q2:l<q
  ·rw[ZJ (show lo+k-(lo+k-(lo+l))<lo+q/\lo+q<=lo+k by lia),show lo+q-1=lo+(q-1) by lia]
   by_cases p1:p=l
   ·rw[ZJ ∅]
    exact T.asym _ _ (pm k (ZG _)) (pm (q-1) ∅) (h2 (q-1) ∅ ∅)
   ·rw[ZI ∅]
    by_cases p2:l<p
    ·rw[ZJ ∅,show lo+p-1=lo+(p-1) by lia]
     exact hs (p-1) (q-1) ∅ ∅
    ·rw[ZI ∅]
     exact hs p (q-1) ∅ ∅
  ·rw[ZI ∅,ZI ∅,ZI ∅]
   exact hs p q hpq ∅
end
section
variable {prog:Program} {w:World} {A:Around} {E:VS} {κ:SortKind} {P:Keyed->Prop} {lt:Keyed->Keyed->Bool}
theorem q367{s:Shared}(G:Good prog w A E κ P lt s){i j:Nat}{Q:Option Bool->SortSt->Shared->Prop}{st:SortSt}(hst:kindOf st=κ)(hp:∀ x∈(arrOf st).toList,P x)(hi:i<(arrOf st).size)(hj:j<(arrOf st).size)
  (h:Q (some (lt (kas_item (arrOf st) i) (kas_item (arrOf st) j))) st s):kasC (model prog w) A E (ltAt' i j) Q st s:=by
 rw[ltAt'_eq]
 refine ZQ (kasC_get (ZQ (q49 hi (ZQ (q49 hj ?_)))))
 exact G _ _ _ _ (hp _ (q22 hi)) (hp _ (q22 hj)) hst h
theorem c_move{k l:Nat}{Q:Unit->SortSt->Shared->Prop}{st:SortSt}{s:Shared}(h:∀ st',Su st st'->arrOf st'=bubble (arrOf st) k (k-l)->Q () st' s):kasC (model prog w) A E (moveDown' k l) Q st s:=by
 rw[moveDown'_eq]
 exact kasC_modify (h _ ⟨rfl,rfl,rfl⟩ rfl)
theorem c_rev{i j:Nat}{Q:Unit->SortSt->Shared->Prop}{st:SortSt}{s:Shared}(h:∀ st',Su st st'->arrOf st'=mirror (arrOf st) i j ((j-i)/2)->Q () st' s):kasC (model prog w) A E (reverseSlice' i j) Q st s:=by
 rw[reverseSlice'_eq]
 exact kasC_modify (h _ ⟨rfl,rfl,rfl⟩ rfl)
theorem q514{s:Shared}(G:Good prog w A E κ P lt s)(T:Tot P lt){lo n ok:Nat}{Q:Bool->SortSt->Shared->Prop}{st:SortSt}(hst:kindOf st=κ)(hp:∀ x∈(arrOf st).toList,P x)(hn:lo+n<=(arrOf st).size)(hok:ok<=n)(h1:1<=n)(hs:Asc lt (arrOf st) lo ok)
  (h:∀ st',Su st st'->Loc (arrOf st) (arrOf st') lo (lo+n)->Asc lt (arrOf st') lo n->Q true st' s):kasC (model prog w) A E (binarySort' lo n ok) Q st s:=by
 refine ZQ (q202 (show max ok 1<=n by lia) (fun k r st' s'=>s'=s/\r=(none,())/\Su st st'/\Loc (arrOf st) (arrOf st') lo (lo+n)/\Asc lt (arrOf st') lo k) (fun r st' s'=>s'=s/\r=(none,())/\Su st st'/\Loc (arrOf st) (arrOf st') lo (lo+n)/\Asc lt (arrOf st') lo n)
  ⟨rfl,rfl,Su.refl _,Loc.refl _ _ _,fun p q h1 h2=>hs p q h1 ∅⟩ (fun _ _ _ h=>h) ?_ ?_)
 ·rintro k r st' s' hk1 hk2 ⟨rfl,rfl,S1,L1,A1⟩
  dsimp only
  have hp':=L1.good hp
  have hz:(arrOf st').size=(arrOf st).size:=L1.size
  refine ZQ (q90 (fun u r st₂ s₂=>st₂=st'/\s₂=s' /\ ∃ l r',r=(none,l,r')/\l<=r'/\r'<=k/\(r'-l)+u<=k/\(∀ t,t<l->lt (kas_item (arrOf st') (lo+k)) (kas_item (arrOf st') (lo+t))=false) /\ ∀ t,r'<=t->t<k->lt (kas_item (arrOf st') (lo+k)) (kas_item (arrOf st') (lo+t))=true)
   (fun r st₂ s₂=>st₂=st'/\s₂=s' /\ ∃ l r',r=(none,l,r')/\l<=k/\(∀ t,t<l->lt (kas_item (arrOf st') (lo+k)) (kas_item (arrOf st') (lo+t))=false) /\ ∀ t,l<=t->t<k->lt (kas_item (arrOf st') (lo+k)) (kas_item (arrOf st') (lo+t))=true)
   ⟨rfl,rfl,0,k,rfl,∅,∅,∅,fun t ht=>absurd ht (Nat.not_lt_zero _),fun t h1 h2=>∅⟩ ?_ ?_ ?_)
  ·rintro r st₂ s₂ ⟨rfl,rfl,l,r',rfl,g1,g2,g3,g4,g5⟩
   exact⟨rfl,rfl,l,r',rfl,∅,g4,fun t h1 h2=>g5 t ∅ h2⟩
  ·rintro u x r st₂ s₂ hu ⟨rfl,rfl,l,r',rfl,g1,g2,g3,g4,g5⟩
   dsimp only
   by_cases c:l>=r'
   ·rw[ZJ c]
    exact ZT ⟨rfl,rfl,l,r',rfl,∅,g4,fun t h1 h2=>g5 t ∅ h2⟩
   rw[ZI c]
   refine ZQ (q367 G (S1.1.trans hst) hp' ∅ ∅ ?_)
   dsimp only
   have pm:∀ t,t<=k->P (kas_item (arrOf st₂) (lo+t)):=fun t ht=>hp' _ (q22 ∅)
   cases hl:lt (kas_item (arrOf st₂) (lo+k)) (kas_item (arrOf st₂) (lo+(l+r')/2)) with
   | true=>
    rw[ZJ rfl]
    refine ZT ⟨rfl,rfl,_,_,rfl,∅,∅,∅,g4,fun t h1 h2=>?_⟩
    by_cases e:t=(l+r')/2
    ·rw[e];exact hl
    ·cases c2:lt (kas_item (arrOf st₂) (lo+k)) (kas_item (arrOf st₂) (lo+t)) with
     | true=>rfl
     | false=>
      have z:=T.trans _ _ _ (pm ((l+r')/2) ∅) (pm t ∅) (pm k (ZG _)) (A1 _ _ ∅ h2) c2
      rw[hl]at z
      cases z
   | false=>
    rw[ZI fnt]
    refine ZT ⟨rfl,rfl,_,_,rfl,∅,∅,∅,fun t ht=>?_,g5⟩
    by_cases e:t=(l+r')/2
    ·rw[e];exact hl
    ·exact T.trans _ _ _ (pm t ∅) (pm ((l+r')/2) ∅) (pm k (ZG _)) (A1 _ _ ∅ ∅) hl
  ·rintro r st₂ s₂ ⟨rfl,rfl,l,r',rfl,g1,g4,g5⟩
   dsimp only
   refine ZQ (c_move fun st₃ S3 e3=>ZT ⟨rfl,rfl,S1.trans S3,?_,?_⟩)
   ·rw[e3]
    exact L1.trans ((q618 ∅ ∅).wide ∅ ∅)
   ·rw[e3]
    exact ins_asc T hp' ∅ g1 A1 g4 g5
 ·rintro r st' s' ⟨rfl,rfl,S1,L1,A1⟩
  exact ZT (h _ S1 L1 A1)
end
end TS
namespace TS
set_option autoImplicit false
open PySem PySem.W PyProof.Rows List
section
variable {P:Keyed->Prop} {lt:Keyed->Keyed->Bool}
def Desc(lt:Keyed->Keyed->Bool)(xs:Array Keyed)(lo n:Nat):Prop:=∀ p q,p<q->q<n->lt (kas_item xs (lo+p)) (kas_item xs (lo+q))=false
noncomputable def EqT(lt:Keyed->Keyed->Bool)(xs:Array Keyed)(lo i m:Nat):Prop:=∀ p q,i<=p->p<m->i<=q->q<m->lt (kas_item xs (lo+p)) (kas_item xs (lo+q))=false
theorem q142(T:Tot P lt){xs:Array Keyed}{lo m:Nat}(hp:∀ x∈xs.toList,P x)(hz:lo+m<xs.size)(h:Desc lt xs lo m)(h1:0<m->lt (kas_item xs (lo+m-1)) (kas_item xs (lo+m))=false):Desc lt xs lo (m+1):=by
 have pm:∀ t,t<=m->P (kas_item xs (lo+t)):=fun t ht=>hp _ (q22 ∅)
 intro p q hpq hq
 by_cases e:q=m
 ·have z:=h1 ∅
  rw[show lo+m-1=lo+(m-1) by lia]at z
  rw[e]
  by_cases e2:p=m-1
  ·rw[e2];exact z
  ·exact T.trans _ _ _ (pm m (ZG _)) (pm (m-1) ∅) (pm p ∅) z (h p (m-1) ∅ ∅)
 ·exact h p q hpq ∅
theorem q561(T:Tot P lt){xs:Array Keyed}{lo m:Nat}(hp:∀ x∈xs.toList,P x)(hz:lo+m<xs.size)(h:Asc lt xs lo m)(h1:0<m->lt (kas_item xs (lo+m)) (kas_item xs (lo+m-1))=false):Asc lt xs lo (m+1):=by
 have pm:∀ t,t<=m->P (kas_item xs (lo+t)):=fun t ht=>hp _ (q22 ∅)
 intro p q hpq hq
 by_cases e:q=m
 ·have z:=h1 ∅
  rw[show lo+m-1=lo+(m-1) by lia]at z
  rw[e]
  by_cases e2:p=m-1
  ·rw[e2];exact z
  ·exact T.trans _ _ _ (pm p ∅) (pm (m-1) ∅) (pm m (ZG _)) (h p (m-1) ∅ ∅) z
 ·exact h p q hpq ∅
theorem q118{xs:Array Keyed}{lo i m t:Nat}(hz:lo+m<=xs.size)(ht:t<m):kas_item (mirror xs (lo+i) (lo+m) ((lo+m-(lo+i))/2)) (lo+t)=if i<=t then kas_item xs (lo+(i+m-1-t))else kas_item xs (lo+t):=by
 rw[q191 hz]
 by_cases c:i<=t
 ·rw[ZJ ∅,ZJ c,show lo+i+(lo+m)-1-(lo+t)=lo+(i+m-1-t) by lia]
 ·rw[ZI ∅,ZI c]
theorem q192{xs:Array Keyed}{lo i m:Nat}(hz:lo+m<=xs.size)(h:Desc lt xs lo m)(he:EqT lt xs lo i m):Desc lt (mirror xs (lo+i) (lo+m) ((lo+m-(lo+i))/2)) lo m:=by
 intro p q hpq hq
 rw[q118 hz ∅,q118 hz hq]
 by_cases c1:i<=p
 ·rw[ZJ c1,ZJ ∅]
  exact he _ _ ∅ ∅ ∅ ∅
 ·rw[ZI c1]
  by_cases c2:i<=q
  ·rw[ZJ c2]
   exact h _ _ ∅ ∅
  ·rw[ZI c2]
   exact h p q hpq hq
theorem q619{xs:Array Keyed}{lo m:Nat}(hz:lo+m<=xs.size)(h:Desc lt xs lo m):Asc lt (mirror xs lo (lo+m) ((lo+m-lo)/2)) lo m:=by
 have e:mirror xs lo (lo+m) ((lo+m-lo)/2)=mirror xs (lo+0) (lo+m) ((lo+m-(lo+0))/2):=rfl
 rw[e]
 intro p q hpq hq
 rw[q118 hz hq,q118 hz ∅,ZJ (WB _),ZJ (WB _)]
 exact h _ _ ∅ ∅
end
section
variable {prog:Program} {w:World} {A:Around} {E:VS} {κ:SortKind} {P:Keyed->Prop} {lt:Keyed->Keyed->Bool}
theorem c_jS{α:Type}(J:Unit->M2 α){c:Prop}{_d:Decidable c}{x:M2 α}{Q:α->SortSt->Shared->Prop}{st:SortSt}{s:Shared}(I:SortSt->Prop)(hJ:∀ st,I st->kasC (model prog w) A E (J ()) Q st s)(hx:c->(∀ st,I st->kasC (model prog w) A E (J ()) Q st s)->kasC (model prog w) A E x Q st s)(h0:¬ c->I st):kasC (model prog w) A E (if c then x else J ()) Q st s:=by
 by_cases h:c
 ·rw[ZJ h]
  exact hx h hJ
 ·rw[ZI h]
  exact hJ _ (h0 h)
theorem q688{s:Shared}(G:Good prog w A E κ P lt s)(T:Tot P lt){lo nrem:Nat}{Q:Option Nat->SortSt->Shared->Prop}{st:SortSt}(hst:kindOf st=κ)(hp:∀ x∈(arrOf st).toList,P x)(hn:lo+nrem<=(arrOf st).size)(h1:1<=nrem)
  (h:∀ n st',1<=n->n<=nrem->Su st st'->Loc (arrOf st) (arrOf st') lo (lo+nrem)->Asc lt (arrOf st') lo n->Q (some n) st' s):kasC (model prog w) A E (countRun' lo nrem) Q st s:=by
 have irr:∀ x,P x->lt x x=false:=fun x hx=>by
  cases c:lt x x with
  | false=>rfl
  | true=>exact c.symm.trans (T.asym x x hx hx c)
 refine ZQ (q202 (show 1<=nrem by lia) (fun k r st₉ s₉=>st₉=st/\s₉=s/\r=(none,k)/\Asc lt (arrOf st) lo k) (fun r st₉ s₉=>st₉=st/\s₉=s /\ ∃ k,r=(none,k)/\1<=k/\k<=nrem/\Asc lt (arrOf st) lo k/\(k=nrem\/lt (kas_item (arrOf st) (lo+k)) (kas_item (arrOf st) (lo+k-1))=true))
  ⟨rfl,rfl,rfl,fun p q a b=>absurd b ∅⟩ (fun r st₉ s₉ ⟨e1,e2,e3,e4⟩=>⟨e1,e2,nrem,e3,∅,ZG _,e4,.inl rfl⟩) ?_ ?_)
 ·rintro k r st₉ s₉ hk1 hk2 ⟨rfl,rfl,rfl,A9⟩
  dsimp only
  refine ZQ (q367 G hst hp ∅ ∅ ?_)
  dsimp only
  cases hl:lt (kas_item (arrOf st₉) (lo+k)) (kas_item (arrOf st₉) (lo+k-1)) with
  | true=>
   rw[ZJ rfl]
   exact ZT ⟨rfl,rfl,k,rfl,hk1,∅,A9,.inr hl⟩
  | false=>
   rw[ZI fnt]
   exact ZT ⟨rfl,rfl,rfl,q561 T hp ∅ A9 fun _=>hl⟩
 ·rintro r st₁ s₁ ⟨rfl,rfl,n,rfl,g1,g2,A1,hbr⟩
  dsimp -zeta only
  extract_lets -merge -underBinder
  dsimp -zeta +zetaDelta only
  extract_lets -merge -underBinder jp
  by_cases c1:n=nrem
  ·rw[ZJ (by simp[c1])]
   exact ZT (h n _ g1 g2 (Su.refl _) (Loc.refl _ _ _) A1)
  rw[ZI (by simpa using c1)]
  have hbr':lt (kas_item (arrOf st₁) (lo+n)) (kas_item (arrOf st₁) (lo+n-1))=true:=by
   rcases hbr with z | z
   ·exact absurd z c1
   ·exact z
  have pm1:∀ t,t<=n->P (kas_item (arrOf st₁) (lo+t)):=fun t ht=>hp _ (q22 ∅)
  rw[show lo+n-1=lo+(n-1) by lia]at hbr'
  have hge1:=T.asym _ _ (pm1 n (ZG _)) (pm1 (n-1) ∅) hbr'
  refine c_jS jp (fun st₂=>Su st₁ st₂/\Loc (arrOf st₁) (arrOf st₂) lo (lo+nrem)/\Desc lt (arrOf st₂) lo (n+1)) ?_ ?_ ?_
  ·rintro st₂ ⟨S2,L2,D2⟩
   dsimp -zeta +zetaDelta only
   clear jp
   refine ZQ (kasC_lift (wpAny_rule ?_))
   refine ZQ (q202 (show n+1<=nrem by lia) (fun k r st₄ s₄=>s₄=s₁/\Su st₁ st₄/\Loc (arrOf st₁) (arrOf st₄) lo (lo+nrem) /\ ∃ q,r=(none,k,q)/\q+1<=k/\Desc lt (arrOf st₄) lo k/\EqT lt (arrOf st₄) lo (k-(q+1)) k)
    (fun r st₄ s₄=>s₄=s₁/\Su st₁ st₄/\Loc (arrOf st₁) (arrOf st₄) lo (lo+nrem) /\ ∃ m q,r=(none,m,q)/\q+1<=m/\m<=nrem/\Desc lt (arrOf st₄) lo m/\EqT lt (arrOf st₄) lo (m-(q+1)) m)
    ⟨rfl,S2,L2,0,rfl,∅,D2,fun p q h1 h2 h3 h4=>by
     have ep:p=n:=∅
     have eq':q=n:=∅
     rw[ep,eq']
     exact irr _ (L2.good hp _ (q22 (by have:=L2.size;lia)))⟩ (fun r st₄ s₄ ⟨e1,e2,e3,q,e4,e5,e6,e7⟩=>⟨e1,e2,e3,nrem,q,e4,e5,ZG _,e6,e7⟩) ?_ ?_)
   ·rintro k r st₄ s₄ hk1 hk2 ⟨rfl,S4,L4,q,rfl,hq,D4,E4⟩
    dsimp only
    have hz4:=L4.size
    have hp4:=L4.good hp
    have hk4:kindOf st₄=κ:=S4.1.trans hst
    have pm:∀ t,t<=k->P (kas_item (arrOf st₄) (lo+t)):=fun t ht=>hp4 _ (q22 ∅)
    refine ZQ (q367 G hk4 hp4 ∅ ∅ ?_)
    dsimp only
    cases hl:lt (kas_item (arrOf st₄) (lo+k)) (kas_item (arrOf st₄) (lo+k-1)) with
    | true=>
     rw[ZJ rfl]
     rw[show lo+k-1=lo+(k-1) by lia]at hl
     have hge:=T.asym _ _ (pm k (ZG _)) (pm (k-1) ∅) hl
     by_cases hq0:q > 0
     ·rw[ZJ hq0]
      refine ZQ (c_rev fun st₅ S5 e5=>ZT ⟨rfl,S4.trans S5,?_,0,rfl,∅,?_,fun p q' h1 h2 h3 h4=>?_⟩)
      ·rw[e5]
       exact L4.trans ((q71 ∅).wide ∅ ∅)
      ·rw[e5,show lo+k-(q+1)=lo+(k-(q+1)) by lia]
       have D5:=q192 ∅ D4 E4
       have hp5:=(q71 (xs:=arrOf st₄) (i:=lo+(k-(q+1))) (j:=lo+k) ∅).good hp4
       have z1:kas_item (mirror (arrOf st₄) (lo+(k-(q+1))) (lo+k) ((lo+k-(lo+(k-(q+1))))/2)) (lo+k)=kas_item (arrOf st₄) (lo+k):=by
        rw[q191 ∅,ZI ∅]
       refine q142 T hp5 (by rw[mirror_size];lia) D5 fun _=>?_
       rw[show lo+k-1=lo+(k-1) by lia,z1,q118 ∅ ∅,ZJ ∅]
       exact T.trans _ _ _ (pm k (ZG _)) (pm (k-1) ∅) (pm _ ∅) hge (E4 _ _ ∅ ∅ ∅ ∅)
      ·have ep:p=k:=∅
       have eq':q'=k:=∅
       rw[ep,eq']
       refine irr _ ?_
       have L5:Loc (arrOf st₄) (arrOf st₅) (lo+k-(q+1)) (lo+k):=by
        rw[e5]
        exact q71 ∅
       exact L5.good hp4 _ (q22 (by have:=L5.size;lia))
     ·rw[ZI hq0]
      refine ZT ⟨rfl,S4,L4,0,rfl,∅,q142 T hp4 ∅ D4 fun _=>?_,fun p q' h1 h2 h3 h4=>?_⟩
      ·rw[show lo+k-1=lo+(k-1) by lia]
       exact hge
      ·have ep:p=k:=∅
       have eq':q'=k:=∅
       rw[ep,eq']
       exact irr _ (pm k (ZG _))
    | false=>
     rw[ZI fnt]
     refine ZQ (q367 G hk4 hp4 ∅ ∅ ?_)
     dsimp only
     cases hl2:lt (kas_item (arrOf st₄) (lo+k-1)) (kas_item (arrOf st₄) (lo+k)) with
     | true=>
      rw[ZJ rfl]
      exact ZT ⟨rfl,S4,L4,k,q,rfl,hq,∅,D4,E4⟩
     | false=>
      rw[ZI fnt]
      refine ZT ⟨rfl,S4,L4,q+1,rfl,∅,q142 T hp4 ∅ D4 fun _=>hl2,fun p q' h1 h2 h3 h4=>?_⟩
      rw[show lo+k-1=lo+(k-1) by lia]at hl hl2
      by_cases ep:p=k
      ·by_cases eq':q'=k
       ·rw[ep,eq']
        exact irr _ (pm k (ZG _))
       ·rw[ep]
        exact T.trans _ _ _ (pm q' ∅) (pm (k-1) ∅) (pm k (ZG _)) (E4 _ _ ∅ ∅ ∅ ∅) hl
      ·by_cases eq':q'=k
       ·rw[eq']
        exact T.trans _ _ _ (pm k (ZG _)) (pm (k-1) ∅) (pm p ∅) hl2 (E4 _ _ ∅ ∅ ∅ ∅)
       ·exact E4 _ _ ∅ ∅ ∅ ∅
   ·rintro r st₄ s₄ ⟨rfl,S4,L4,m,q,rfl,hq,hm,D4,E4⟩
    dsimp -zeta only
    extract_lets -merge -underBinder
    dsimp -zeta +zetaDelta only
    extract_lets -merge -underBinder jp
    have hz4:=L4.size
    refine c_jS jp (fun st₅=>Su st₁ st₅/\Loc (arrOf st₁) (arrOf st₅) lo (lo+nrem)/\Desc lt (arrOf st₅) lo m) ?_ ?_ ?_
    ·rintro st₅ ⟨S5,L5,D5⟩
     dsimp -zeta only [jp]
     clear jp
     have hz5:=L5.size
     refine ZQ (c_rev fun st₆ S6 e6=>?_)
     have L6:Loc (arrOf st₁) (arrOf st₆) lo (lo+nrem):=by
      rw[e6]
      exact L5.trans ((q71 ∅).wide (ZG _) ∅)
     have A6:Asc lt (arrOf st₆) lo m:=by
      rw[e6]
      exact q619 ∅ D5
     have hz6:=L6.size
     have hp6:=L6.good hp
     have hk6:kindOf st₆=κ:=(S5.trans S6).1.trans hst
     refine ZQ (q202 (show m<=nrem by lia) (fun k r st₉ s₉=>st₉=st₆/\s₉=s₄/\r=(none,k)/\Asc lt (arrOf st₆) lo k) (fun r st₉ s₉=>st₉=st₆/\s₉=s₄ /\ ∃ k,r=(none,k)/\m<=k/\k<=nrem/\Asc lt (arrOf st₆) lo k/\(k=nrem\/lt (kas_item (arrOf st₆) (lo+k)) (kas_item (arrOf st₆) (lo+k-1))=true))
      ⟨rfl,rfl,rfl,A6⟩ (fun r st₉ s₉ ⟨e1,e2,e3,e4⟩=>⟨e1,e2,nrem,e3,∅,ZG _,e4,.inl rfl⟩) ?_ ?_)
     ·rintro k r st₉ s₉ hk1 hk2 ⟨rfl,rfl,rfl,A9⟩
      dsimp only
      refine ZQ (q367 G hk6 hp6 ∅ ∅ ?_)
      dsimp only
      cases hl:lt (kas_item (arrOf st₉) (lo+k)) (kas_item (arrOf st₉) (lo+k-1)) with
      | true=>
       rw[ZJ rfl]
       exact ZT ⟨rfl,rfl,k,rfl,hk1,∅,A9,.inr hl⟩
      | false=>
       rw[ZI fnt]
       exact ZT ⟨rfl,rfl,rfl,q561 T hp6 ∅ A9 fun _=>hl⟩
     ·rintro r st₇ s₇ ⟨rfl,rfl,k,rfl,g1,g2,g3,_⟩
      exact ZT (h k _ ∅ g2 (S5.trans S6) L6 g3)
    ·intro hq0 J
     clear_value jp
     refine ZQ (c_rev fun st₅ S5 e5=>J _ ⟨S4.trans S5,?_,?_⟩)
     ·rw[e5]
      exact L4.trans ((q71 ∅).wide ∅ ∅)
     ·rw[e5,show lo+m-(q+1)=lo+(m-(q+1)) by lia]
      exact q192 ∅ D4 E4
    ·exact fun _=>⟨S4,L4,D4⟩
  ·intro c2 J
   clear_value jp
   refine ZQ (q367 G hst hp ∅ ∅ ?_)
   dsimp only
   cases hl0:lt (kas_item (arrOf st₁) lo) (kas_item (arrOf st₁) (lo+n-1)) with
   | true=>
    rw[ZJ rfl]
    exact ZT (h n _ g1 g2 (Su.refl _) (Loc.refl _ _ _) A1)
   | false=>
    rw[ZI fnt]
    rw[show lo+n-1=lo+(n-1) by lia]at hl0
    have hl0':lt (kas_item (arrOf st₁) (lo+0)) (kas_item (arrOf st₁) (lo+(n-1)))=false:=hl0
    have E1:EqT lt (arrOf st₁) lo 0 n:=fun p q _ hp1 _ hq1=>by
     have z1:lt (kas_item (arrOf st₁) (lo+(n-1))) (kas_item (arrOf st₁) (lo+q))=false:=by
      by_cases e:q=n-1
      ·rw[e];exact irr _ (pm1 (n-1) ∅)
      ·exact A1 _ _ ∅ ∅
     have z2:lt (kas_item (arrOf st₁) (lo+p)) (kas_item (arrOf st₁) (lo+0))=false:=by
      by_cases e:p=0
      ·rw[e];exact irr _ (pm1 0 ∅)
      ·exact A1 _ _ ∅ ∅
     have z3:=T.trans _ _ _ (pm1 q ∅) (pm1 (n-1) ∅) (pm1 0 ∅) z1 hl0'
     exact T.trans _ _ _ (pm1 q ∅) (pm1 0 ∅) (pm1 p ∅) z3 z2
    refine ZQ (c_rev fun st₂ S2 e2=>?_)
    have L2:Loc (arrOf st₁) (arrOf st₂) lo (lo+nrem):=by
     rw[e2]
     exact(q71 ∅).wide (ZG _) ∅
    have D2:Desc lt (arrOf st₂) lo (n+1):=by
     have D1:=q192 (i:=0) (show lo+n<=(arrOf st₁).size by lia) (fun p q a b=>E1 p q (WB _) ∅ (WB _) b) E1
     have hp2:=(q71 (xs:=arrOf st₁) (i:=lo) (j:=lo+n) ∅).good hp
     have z1:kas_item (mirror (arrOf st₁) lo (lo+n) ((lo+n-lo)/2)) (lo+n)=kas_item (arrOf st₁) (lo+n):=by
      rw[q191 ∅,ZI ∅]
     rw[e2]
     refine q142 T hp2 (by rw[mirror_size];lia) D1 fun _=>?_
     have z2:=q118 (xs:=arrOf st₁) (lo:=lo) (i:=0) (m:=n) (t:=n-1) ∅ ∅
     rw[ZJ (WB _)]at z2
     rw[show lo+n-1=lo+(n-1) by lia,z1]
     have z3:kas_item (mirror (arrOf st₁) lo (lo+n) ((lo+n-lo)/2)) (lo+(n-1))=kas_item (arrOf st₁) (lo+(0+n-1-(n-1))):=z2
     rw[z3]
     exact T.trans _ _ _ (pm1 n (ZG _)) (pm1 (n-1) ∅) (pm1 _ ∅) hge1 (E1 _ _ (WB _) ∅ (WB _) ∅)
    exact J _ ⟨S2,L2,D2⟩
  ·intro c2
   have en:n=1:=∅
   have D2:Desc lt (arrOf st₁) lo (n+1):=by
    refine q142 T hp ∅ (fun p q a b=>absurd b ∅) fun _=>?_
    rw[show lo+n-1=lo+(n-1) by lia]
    exact hge1
   have S2:=Su.refl st₁
   have L2:=Loc.refl (arrOf st₁) lo (lo+nrem)
   exact⟨S2,L2,D2⟩
end
end TS
namespace TS
set_option autoImplicit false
open PySem PySem.W PyProof.Rows List
section
variable {P:Keyed->Prop} {lt:Keyed->Keyed->Bool}
theorem set_list:∀(l:List Keyed)(xs:Array Keyed)(b off:Nat),b+off+l.length<=xs.size ->
  ((l.zipIdx off).foldl (fun a x=>a.setIfInBounds (b+x.snd) x.fst) xs).toList=xs.toList.take (b+off)++l++xs.toList.drop (b+off+l.length)
 | [],xs,b,off,h=>by simp
 | x::l,xs,b,off,h=>by
  rw[WZ]at h
  rw[zipIdx_cons,foldl_cons]
  have ih:=set_list l (xs.setIfInBounds (b+off) x) b (off+1) (by rw[Array.size_setIfInBounds];lia)
  rw[ih,Array.toList_setIfInBounds]
  have hl:b+off<xs.toList.length:=by simp;lia
  have tl:(xs.toList.take (b+off)).length=b+off:=by rw[length_take];lia
  have es:xs.toList.set (b+off) x=xs.toList.take (b+off)++x::xs.toList.drop (b+off+1):=by rw[set_eq_take_append_cons_drop,ZJ hl]
  have e1:(xs.toList.set (b+off) x).take (b+(off+1))=xs.toList.take (b+off)++[x]:=by
   rw[es,take_append,tl,WT ∅,show b+(off+1)-(b+off)=1 by lia]
   rfl
  have e2:(xs.toList.set (b+off) x).drop (b+(off+1)+l.length)=xs.toList.drop (b+off+(x::l).length):=by
   rw[drop_set,ZJ ∅,WZ]
   congr 1
   lia
  rw[e1,e2,YW,YW,YW]
  rfl
theorem q562{xs:Array Keyed}{b e t:Nat}(he:e<=xs.size)(ht:b+t<e):kas_item (xs.extract b e) t=kas_item xs (b+t):=by
 refine q110 ?_
 rw[Array.getElem?_extract,ZJ ∅]
theorem q563{xs:Array Keyed}{b e:Nat}(he:e<=xs.size):(xs.extract b e).size=e-b:=by
 rw[Array.size_extract]
 lia
theorem q564{xs:Array Keyed}(h:∀ p q,p<q->q<xs.size->lt (kas_item xs q) (kas_item xs p)=false):Srt lt xs.toList:=by
 refine List.pairwise_iff_getElem.mpr fun i j hi hj hij=>?_
 have hj':j<xs.size:=by simpa using hj
 have hi':i<xs.size:=by simpa using hi
 have e1:=(List.getElem?_eq_some_iff.mp (q52 hi')).2
 have e2:=(List.getElem?_eq_some_iff.mp (q52 hj')).2
 rw[e1,e2]
 exact h i j hij hj'
theorem q565{xs:Array Keyed}{y:Keyed}(h:y∈xs.toList):∃ t,t<xs.size/\y=kas_item xs t:=by
 obtain⟨j,_,h2,h3⟩:=q117 (i:=0) (a:=xs) (by simpa using h)
 exact⟨j,h2,h3⟩
end
section
variable {prog:Program} {w:World} {A:Around} {E:VS} {κ:SortKind} {P:Keyed->Prop} {lt:Keyed->Keyed->Bool}
theorem c_set{st₁ st:SortSt}{Q:PUnit->SortSt->Shared->Prop}{s:Shared}(h:Q ⟨⟩ st₁ s):kasC (model prog w) A E (set st₁:M2 PUnit) Q st s:=by
 unfold kasC
 rw[StateT.run_set]
 exact ZM h
theorem mergeAt_{s:Shared}(G:Good prog w A E κ P lt s)(T:Tot P lt){i sa na pw sb nb pw2:Nat}{Q:Bool->SortSt->Shared->Prop}{st:SortSt}(hst:kindOf st=κ)(hf:failedOf st=none)(hp:∀ x∈(arrOf st).toList,P x)
  (h1:(pendingOf st)[i]? = some (sa,na,pw)) (h2:(pendingOf st)[i+1]? = some (sb,nb,pw2)) (hsb:sb=sa+na) (hna:0<na) (hnb:0<nb) (hz:sb+nb<=(arrOf st).size) (A1:Asc lt (arrOf st) sa na) (A2:Asc lt (arrOf st) sb nb)
  (h:∀ st':SortSt,kindOf st'=κ->failedOf st'=none->pendingOf st'=((pendingOf st).setIfInBounds i (sa,na+nb,pw)).eraseIdxIfInBounds (i+1)->Loc (arrOf st) (arrOf st') sa (sb+nb)->Asc lt (arrOf st') sa (na+nb)->Q true st' s) :
  kasC (model prog w) A E (mergeAt' i) Q st s:=by
 have irr:∀ x,P x->lt x x=false:=fun x hx=>by
  cases c:lt x x with
  | false=>rfl
  | true=>exact c.symm.trans (T.asym x x hx hx c)
 have p1:∀ t,t<na->P (kas_item (arrOf st) (sa+t)):=fun t ht=>hp _ (q22 ∅)
 have p2:∀ t,t<nb->P (kas_item (arrOf st) (sb+t)):=fun t ht=>hp _ (q22 ∅)
 refine ZQ (kasC_get ?_)
 dsimp only
 rw[h1,h2]
 dsimp only
 refine ZQ (c_set ?_)
 refine ZQ (q49 (show sb<(arrOf st).size by lia) ?_)
 have pk:P (kas_item (arrOf st) sb):=p2 0 hnb
 obtain⟨k,hk,hB⟩:∃ k,k<=na /\ ∀ t,t<na->(if false=true then lt (kas_item (arrOf st) (sa+t)) (kas_item (arrOf st) sb)else !(lt (kas_item (arrOf st) sb) (kas_item (arrOf st) (sa+t))))=decide (t<k):=by
  refine bound _ na fun t u htu hu hh=>?_
  rw[ZI fnt,Bool.not_eq_true']at hh ⊢
  by_cases e:t=u
  ·rw[e];exact hh
  ·exact T.trans _ _ _ (p1 t ∅) (p1 u hu) pk (A1 t u ∅ hu) hh
 have B1:∀ t,t<k->lt (kas_item (arrOf st) sb) (kas_item (arrOf st) (sa+t))=false:=fun t ht=>by
  have q:=hB t ∅
  rw[ZI fnt,ZA ht,Bool.not_eq_true']at q
  exact q
 have B2:∀ t,k<=t->t<na->lt (kas_item (arrOf st) sb) (kas_item (arrOf st) (sa+t))=true:=fun t g1 g2=>by
  have q:=hB t g2
  rw[ZI fnt,ZK ∅,Bool.not_eq_false']at q
  exact q
 have C1:∀ t,t<nb->lt (kas_item (arrOf st) (sb+t)) (kas_item (arrOf st) sb)=false:=fun t ht=>by
  by_cases e:t=0
  ·rw[e];exact irr _ pk
  ·exact A2 0 t ∅ ht
 refine ZQ (q238 G hst pk (fun t ht=>p1 t ht) (show sa+na<=(arrOf st).size by lia) hna hk hB ?_)
 dsimp only
 have key:∀ t,t<k -> ∀ u,u<nb->lt (kas_item (arrOf st) (sb+u)) (kas_item (arrOf st) (sa+t))=false:=fun t ht u hu=>
  T.trans _ _ _ (p1 t ∅) pk (p2 u hu) (B1 t ht) (C1 u hu)
 by_cases c1:na-k=0
 ·rw[ZJ (by simp[c1])]
  refine ZT (h _ hst hf rfl (Loc.refl _ _ _) fun p q hpq hq=>?_)
  by_cases q1:q<na
  ·exact A1 p q hpq q1
  ·have eq1:sa+q=sb+(q-na):=∅
   by_cases p3:p<na
   ·rw[eq1]
    exact key p ∅ (q-na) ∅
   ·rw[eq1,show sa+p=sb+(p-na) by lia]
    exact A2 _ _ ∅ ∅
 rw[ZI (by simpa using c1)]
 replace c1:k<na:=∅
 have elast:sa+k+(na-k)-1=sa+(na-1):=∅
 rw[elast]
 clear elast
 have pl:P (kas_item (arrOf st) (sa+(na-1))):=p1 _ ∅
 refine ZQ (q49 (show sa+(na-1)<(arrOf st).size by lia) ?_)
 obtain⟨k2,hk2,hB2⟩:∃ k2,k2<=nb /\ ∀ t,t<nb->(if true=true then lt (kas_item (arrOf st) (sb+t)) (kas_item (arrOf st) (sa+(na-1)))else !(lt (kas_item (arrOf st) (sa+(na-1))) (kas_item (arrOf st) (sb+t))))=decide (t<k2):=by
  refine bound _ nb fun t u htu hu hh=>?_
  rw[ZJ rfl]at hh ⊢
  by_cases e:t=u
  ·rw[e];exact hh
  ·cases c:lt (kas_item (arrOf st) (sb+t)) (kas_item (arrOf st) (sa+(na-1))) with
   | true=>rfl
   | false=>
    have z:=T.trans _ _ _ pl (p2 t ∅) (p2 u hu) c (A2 t u ∅ hu)
    rw[hh]at z
    cases z
 have B3:∀ t,t<k2->lt (kas_item (arrOf st) (sb+t)) (kas_item (arrOf st) (sa+(na-1)))=true:=fun t ht=>by
  have q:=hB2 t ∅
  rw[ZJ rfl,ZA ht]at q
  exact q
 have B4:∀ t,k2<=t->t<nb->lt (kas_item (arrOf st) (sb+t)) (kas_item (arrOf st) (sa+(na-1)))=false:=fun t g1 g2=>by
  have q:=hB2 t g2
  rw[ZJ rfl,ZK ∅]at q
  exact q
 have key2:∀ t,t<na -> ∀ u,k2<=u->u<nb->lt (kas_item (arrOf st) (sb+u)) (kas_item (arrOf st) (sa+t))=false:=fun t ht u g1 g2=>by
  by_cases e:t=na-1
  ·rw[e];exact B4 u g1 g2
  ·exact T.trans _ _ _ (p1 t ht) pl (p2 u g2) (A1 t (na-1) ∅ ∅) (B4 u g1 g2)
 refine ZQ (q238 G hst pl (fun t ht=>p2 t ht) (show sb+nb<=(arrOf st).size by lia) ∅ hk2 hB2 ?_)
 dsimp only
 by_cases c2:k2=0
 ·rw[ZJ (by simp[c2])]
  refine ZT (h _ hst hf rfl (Loc.refl _ _ _) fun p q hpq hq=>?_)
  by_cases q1:q<na
  ·exact A1 p q hpq q1
  ·have eq1:sa+q=sb+(q-na):=∅
   by_cases p3:p<na
   ·rw[eq1]
    exact key2 p p3 (q-na) ∅ ∅
   ·rw[eq1,show sa+p=sb+(p-na) by lia]
    exact A2 _ _ ∅ ∅
 rw[ZI (by simpa using c2)]
 have xz:((arrOf st).extract (sa+k) sb).size=na-k:=by rw[q563 ∅];lia
 have yz:((arrOf st).extract sb (sb+k2)).size=k2:=by rw[q563 ∅];lia
 have xi:∀ t,t<na-k->kas_item ((arrOf st).extract (sa+k) sb) t=kas_item (arrOf st) (sa+(k+t)):=fun t ht=>by
  rw[q562 ∅ ∅,show sa+k+t=sa+(k+t) by lia]
 have yi:∀ t,t<k2->kas_item ((arrOf st).extract sb (sb+k2)) t=kas_item (arrOf st) (sb+t):=fun t ht=>q562 ∅ ∅
 have xm:∀ z∈((arrOf st).extract (sa+k) sb).toList,∃ t,k<=t/\t<na/\z=kas_item (arrOf st) (sa+t):=fun z hz'=>by
  obtain⟨t,g1,rfl⟩:=q565 hz'
  rw[xz]at g1
  exact⟨k+t,∅,∅,xi t g1⟩
 have ym:∀ z∈((arrOf st).extract sb (sb+k2)).toList,∃ t,t<k2/\z=kas_item (arrOf st) (sb+t):=fun z hz'=>by
  obtain⟨t,g1,rfl⟩:=q565 hz'
  rw[yz]at g1
  exact⟨t,g1,yi t g1⟩
 have px:∀ z∈((arrOf st).extract (sa+k) sb).toList,P z:=fun z hz'=>by
  obtain⟨t,g1,g2,rfl⟩:=xm z hz'
  exact p1 t g2
 have py:∀ z∈((arrOf st).extract sb (sb+k2)).toList,P z:=fun z hz'=>by
  obtain⟨t,g1,rfl⟩:=ym z hz'
  exact p2 t ∅
 have sx:Srt lt ((arrOf st).extract (sa+k) sb).toList:=q564 fun p q g1 g2=>by
  rw[xz]at g2
  rw[xi p ∅,xi q g2]
  exact A1 _ _ ∅ ∅
 have sy:Srt lt ((arrOf st).extract sb (sb+k2)).toList:=q564 fun p q g1 g2=>by
  rw[yz]at g2
  rw[yi p ∅,yi q g2]
  exact A2 _ _ ∅ ∅
 have xl:(arrOf st).toList.take (sa+k)++(((arrOf st).extract (sa+k) sb).toList++((arrOf st).extract sb (sb+k2)).toList)++(arrOf st).toList.drop (sb+k2)=(arrOf st).toList:=by
  rw[ext0 (show sb<=(arrOf st).size by lia),ext0 (show sb+k2<=(arrOf st).size by lia)]
  generalize (arrOf st).toList=l
  have e1:l.take sb=l.take (sa+k)++(l.take sb).drop (sa+k):=by
   have:(l.take sb).take (sa+k)=l.take (sa+k):=by rw[take_take,YY ∅]
   rw[<- this,take_append_drop]
  have e2:l.take (sb+k2)=l.take sb++(l.take (sb+k2)).drop sb:=by
   have:(l.take (sb+k2)).take sb=l.take sb:=by rw[take_take,YY ∅]
   rw[<- this,take_append_drop]
  rw[<- YW,<- e1,<- e2,take_append_drop]
 have fin:∀(r:Array Keyed)(st₂:SortSt),arrOf st₂=arrOf st->FinA lt ((arrOf st).extract (sa+k) sb) ((arrOf st).extract sb (sb+k2)) r ->
   Loc (arrOf st) (List.foldl (fun a x=>a.setIfInBounds (sa+k+x.snd) x.fst) (arrOf st₂) r.toList.zipIdx) sa (sb+nb)/\Asc lt (List.foldl (fun a x=>a.setIfInBounds (sa+k+x.snd) x.fst) (arrOf st₂) r.toList.zipIdx) sa (na+nb):=by
  intro r st₂ K2 F
  rw[K2]
  have rz:r.toList.length=na-k+k2:=by
   rw[F.1.length_eq,ZV,ZY,ZY,xz,yz]
  clear xz yz
  have ys:=set_list r.toList (arrOf st) (sa+k) 0 ∅
  generalize List.foldl (fun a x=>a.setIfInBounds (sa+k+x.snd) x.fst) (arrOf st) r.toList.zipIdx=zs at ys ⊢
  rw[Nat.add_zero,rz,show sa+k+(na-k+k2)=sb+k2 by lia]at ys
  have tl:((arrOf st).toList.take (sa+k)).length=sa+k:=by rw[length_take,ZY];lia
  have gl:∀ t,zs[t]? = if t<sa+k then(arrOf st)[t]? else if t<sb+k2 then r.toList[t-(sa+k)]? else(arrOf st)[t]?:=fun t=>by
   rw[<- WE,ys]
   by_cases g1:t<sa+k
   ·rw[ZJ g1,YW,YS ∅,getElem?_take,ZJ g1,WE]
   ·rw[ZI g1]
    by_cases g2:t<sb+k2
    ·rw[ZJ g2,YS (by rw[ZV];lia),YN ∅,tl]
    ·rw[ZI g2,YN (by rw[ZV];lia),getElem?_drop,ZV,tl,rz,WE]
     congr 1
     lia
  clear tl
  have pz:zs.toList.Perm (arrOf st).toList:=by
   rw[ys]
   refine List.Perm.trans ?_ (List.Perm.of_eq xl)
   exact(List.Perm.append_left _ F.1).append_right _
  have zz:zs.size=(arrOf st).size:=by
   have:=pz.length_eq
   simpa using this
  refine⟨⟨zz,Array.perm_iff_toList_perm.mpr pz,fun t ht=>?_⟩,fun p q hpq hq=>?_⟩
  ·rw[gl t]
   by_cases g1:t<sa+k
   ·rw[ZJ g1]
   ·rw[ZI g1,ZI ∅]
  ·clear zz
   have rm:∀ t,k<=t->t<na+k2->kas_item zs (sa+t)=kas_item r (t-k)/\((∃ u,k<=u/\u<na/\kas_item zs (sa+t)=kas_item (arrOf st) (sa+u)) \/ ∃ u,u<k2/\kas_item zs (sa+t)=kas_item (arrOf st) (sb+u)):=fun t g1 g2=>by
    have e:=gl (sa+t)
    rw[ZI ∅,ZJ ∅,show sa+t-(sa+k)=t-k by lia,WE]at e
    have e2:=q110 e
    exists e2
    have hm:=q22 (a:=r) (i:=t-k) (by rw[<- ZY,rz];lia)
    rcases List.mem_append.mp (F.1.mem_iff.mp hm)with z | z
    ·obtain⟨u,a1,a2,a3⟩:=xm _ z
     exact .inl ⟨u,a1,a2,e2.trans a3⟩
    ·obtain⟨u,a1,a3⟩:=ym _ z
     exact .inr ⟨u,a1,e2.trans a3⟩
   have lowi:∀ t,t<k->kas_item zs (sa+t)=kas_item (arrOf st) (sa+t):=fun t ht=>q110 (by rw[gl,ZJ ∅])
   have hii:∀ t,na+k2<=t->kas_item zs (sa+t)=kas_item (arrOf st) (sb+(t-na)):=fun t ht=>by
    refine q110 ?_
    rw[gl,ZI ∅,ZI ∅,show sb+(t-na)=sa+t by lia]
   by_cases p3:p<k
   ·rw[lowi p p3]
    by_cases q1:q<k
    ·rw[lowi q q1]
     exact A1 p q hpq ∅
    ·by_cases q2:q<na+k2
     ·rcases(rm q ∅ q2).2 with ⟨u,a1,a2,a3⟩ | ⟨u,a1,a3⟩
      ·rw[a3]
       exact A1 p u ∅ a2
      ·rw[a3]
       exact key p p3 u ∅
     ·rw[hii q ∅]
      exact key p p3 _ ∅
   ·by_cases p4:p<na+k2
    ·by_cases q2:q<na+k2
     ·rw[(rm p ∅ p4).1,(rm q ∅ q2).1]
      have z:=List.pairwise_iff_getElem.mp F.2 (p-k) (q-k) ∅ ∅ ∅
      have e1:=(List.getElem?_eq_some_iff.mp (q52 (a:=r) (i:=p-k) (by rw[<- ZY,rz];lia))).2
      have e2:=(List.getElem?_eq_some_iff.mp (q52 (a:=r) (i:=q-k) (by rw[<- ZY,rz];lia))).2
      rw[e1,e2]at z
      exact z
     ·rw[hii q ∅]
      rcases(rm p ∅ p4).2 with ⟨u,a1,a2,a3⟩ | ⟨u,a1,a3⟩
      ·rw[a3]
       exact key2 u a2 _ ∅ ∅
      ·rw[a3]
       exact A2 u _ ∅ ∅
    ·rw[hii p ∅,hii q ∅]
     exact A2 _ _ ∅ ∅
 have x0:kas_item ((arrOf st).extract (sa+k) sb) 0=kas_item (arrOf st) (sa+k):=xi 0 ∅
 have y0:kas_item ((arrOf st).extract sb (sb+k2)) 0=kas_item (arrOf st) sb:=yi 0 ∅
 have xe:kas_item ((arrOf st).extract (sa+k) sb) (((arrOf st).extract (sa+k) sb).size-1)=kas_item (arrOf st) (sa+(na-1)):=by
  rw[xz,xi _ ∅]
  congr 1
  lia
 have ye:kas_item ((arrOf st).extract sb (sb+k2)) (((arrOf st).extract sb (sb+k2)).size-1)=kas_item (arrOf st) (sb+(k2-1)):=by
  rw[yz,yi _ ∅]
 by_cases c3:na-k<=k2
 ·rw[ZJ c3]
  refine ZQ (mergeLo_ G T hst px py sx sy (show 0<((arrOf st).extract (sa+k) sb).size by rw[xz];lia) (show 0<((arrOf st).extract sb (sb+k2)).size by rw[yz];lia) (by rw[x0,y0];exact B2 k (ZG _) ∅) (fun z hz'=>?_) fun r st₂ K2 F=>?_)
  ·rw[xe]
   obtain⟨t,g1,rfl⟩:=ym z hz'
   exact T.asym _ _ (p2 t ∅) pl (B3 t g1)
  ·obtain⟨f1,f2⟩:=fin r st₂ K2.2.1 F
   refine ZQ (kasC_modify (ZQ (kasC_get (ZT ?_))))
   have ef:failedOf st₂=none:=K2.2.2.2.trans hf
   show Q (failedOf st₂).isNone _ s
   rw[ef]
   exact h _ (K2.1.trans hst) ef K2.2.2.1 f1 f2
 ·rw[ZI c3]
  refine ZQ (mergeHi_ G T hst px py sx sy (show 0<((arrOf st).extract (sa+k) sb).size by rw[xz];lia) (show 0<((arrOf st).extract sb (sb+k2)).size by rw[yz];lia) (by rw[xe,ye];exact B3 _ ∅) (fun z hz'=>?_) fun r st₂ K2 F=>?_)
  ·rw[y0]
   obtain⟨t,g1,g2,rfl⟩:=xm z hz'
   exact T.asym _ _ pk (p1 t g2) (B2 t g1 g2)
  ·obtain⟨f1,f2⟩:=fin r st₂ K2.2.1 F
   refine ZQ (kasC_modify (ZQ (kasC_get (ZT ?_))))
   have ef:failedOf st₂=none:=K2.2.2.2.trans hf
   show Q (failedOf st₂).isNone _ s
   rw[ef]
   exact h _ (K2.1.trans hst) ef K2.2.2.1 f1 f2
end
end TS
namespace TS
set_option autoImplicit false
open PySem PySem.W PyProof.Rows List
section
variable {P:Keyed->Prop} {lt:Keyed->Keyed->Bool}
noncomputable abbrev pr(p:Nat×Nat×Nat):Nat×Nat:=(p.1,p.2.1)
def Runs(lt:Keyed->Keyed->Bool)(xs:Array Keyed):Nat->List (Nat×Nat)->Nat->Prop
 | b,[],e=>b=e
 | b,(s,l)::r,e=>s=b/\0<l/\Asc lt xs b l/\Runs lt xs (b+l) r e
theorem Runs.le{xs:Array Keyed}:∀{l:List (Nat×Nat)} {b e:Nat},Runs lt xs b l e->b+l.length<=e
 | [],b,e,h=>by
  have:b=e:=h
  simp[this]
 | (s,l)::r,b,e,⟨_,h1,_,h2⟩=>by
  have:=h2.le
  rw[WZ]
  lia
theorem Runs.app{xs:Array Keyed}:∀{l1 l2:List (Nat×Nat)} {b e:Nat},Runs lt xs b (l1++l2) e↔∃ m,Runs lt xs b l1 m/\Runs lt xs m l2 e
 | [],l2,b,e=>⟨fun h=>⟨b,rfl,h⟩,fun⟨m,h1,h2⟩=>by
   have:b=m:=h1
   rw[this];exact h2⟩
 | (s,l)::r,l2,b,e=>⟨fun⟨h1,h2,h3,h4⟩=>by
   obtain⟨m,g1,g2⟩:=Runs.app.mp h4
   exact⟨m,⟨h1,h2,h3,g1⟩,g2⟩,fun⟨m,⟨h1,h2,h3,h4⟩,g⟩=>⟨h1,h2,h3,Runs.app.mpr ⟨m,h4,g⟩⟩⟩
theorem Asc.same{xs ys:Array Keyed}{b l:Nat}(h:∀ t,b<=t->t<b+l->kas_item ys t=kas_item xs t)(a:Asc lt xs b l):Asc lt ys b l:=fun p q h1 h2=>by
 rw[h _ ∅ ∅,h _ ∅ ∅]
 exact a p q h1 h2
theorem Runs.same{xs ys:Array Keyed}:∀{l:List (Nat×Nat)} {b e:Nat},(∀ t,b<=t->t<e->kas_item ys t=kas_item xs t)->Runs lt xs b l e->Runs lt ys b l e
 | [],b,e,_,h=>h
 | (s,l)::r,b,e,h,⟨h1,h2,h3,h4⟩=>by
  have hl:=h4.le
  exact⟨h1,h2,h3.same fun t g1 g2=>h t g1 ∅,h4.same fun t g1 g2=>h t ∅ g2⟩
theorem Loc.item{xs ys:Array Keyed}{lo hi t:Nat}(a:Loc xs ys lo hi)(h:t<lo\/hi<=t):kas_item ys t=kas_item xs t:=q110 (a.out t h)
theorem q689{α:Type}{l:List α}{i:Nat}(h:i+1<l.length):∃ l1 a b l2,l=l1++a::b::l2/\l1.length=i/\l[i]? = some a/\l[i+1]? = some b:=by
 have h0:i<l.length:=∅
 refine⟨l.take i,l[i],l[i+1],l.drop (i+2),?_,by rw[length_take];lia,ZP h0,ZP h⟩
 rw[<- drop_eq_getElem_cons h,<- drop_eq_getElem_cons h0,take_append_drop]
theorem q690{α:Type}(l1 l2:List α)(a b v:α):((l1++a::b::l2).set l1.length v).eraseIdx (l1.length+1)=l1++v::l2:=by
 induction l1 with
 | nil=>rfl
 | cons x l1 ih=>simpa using ih
theorem q691(pd:Array (Nat×Nat×Nat))(i:Nat)(f:Nat×Nat×Nat->Nat×Nat×Nat)(hf:∀ x,pr (f x)=pr x):(pd.modify i f).toList.map pr=pd.toList.map pr:=by
 apply ext_getElem?
 intro j
 rw[WN,WN,WE,WE,Array.getElem?_modify]
 by_cases c:i=j
 ·rw[ZJ c]
  cases pd[j]? with
  | none=>rfl
  | some x=>simp[hf x]
 ·rw[ZI c]
end
section
variable {prog:Program} {w:World} {A:Around} {E:VS} {κ:SortKind} {P:Keyed->Prop} {lt:Keyed->Keyed->Bool}
theorem ite_lt{c:Prop}[Decidable c]{a b n:Nat}(h1:a+1<n)(h2:b+1<n):(if c then a else b)+1<n:=by split <;> assumption
theorem c_iteF{α:Type}{c:Prop}[Decidable c]{x y:M2 α}{Q:α->SortSt->Shared->Prop}{st:SortSt}{s:Shared}(hc:¬ c)(h:kasC (model prog w) A E y Q st s):kasC (model prog w) A E (if c then x else y) Q st s:=by rw[ZI hc];exact h
theorem q368{s:Shared}(G:Good prog w A E κ P lt s)(T:Tot P lt){i lo:Nat}{Q:Bool->SortSt->Shared->Prop}{st:SortSt}(hst:kindOf st=κ)(hf:failedOf st=none)(hp:∀ x∈(arrOf st).toList,P x)
  (hi:i+1<(pendingOf st).size) (hlo:lo<=(arrOf st).size) (hr:Runs lt (arrOf st) 0 ((pendingOf st).toList.map pr) lo)
  (h:∀ st':SortSt,kindOf st'=κ->failedOf st'=none->(pendingOf st').size+1=(pendingOf st).size->Loc (arrOf st) (arrOf st') 0 lo->Runs lt (arrOf st') 0 ((pendingOf st').toList.map pr) lo->Q true st' s) :
  kasC (model prog w) A E (mergeAt' i) Q st s:=by
 obtain⟨l1,⟨sa,na,pw⟩,⟨sb,nb,pw2⟩,l2,e,el,g1,g2⟩:=q689 (l:=(pendingOf st).toList) (i:=i) (by simpa using hi)
 rw[WE]at g1 g2
 rw[e,WQ,map_cons,map_cons]at hr
 obtain⟨m,r1,rfl,na0,A1,hsb,nb0,A2,r2⟩:=Runs.app.mp hr
 have hsb':sb=sa+na:=hsb
 have na0':0<na:=na0
 have nb0':0<nb:=nb0
 have r2':Runs lt (arrOf st) (sa+na+nb) (l2.map pr) lo:=r2
 have hl2:=r2'.le
 have A2':Asc lt (arrOf st) sb nb:=by rw[hsb'];exact A2
 refine mergeAt_ G T hst hf hp g1 g2 hsb' na0' nb0' ∅ A1 A2' fun st' k1 k2 k3 L A3=>?_
 have ep:(pendingOf st').toList=l1++(sa,na+nb,pw)::l2:=by
  rw[k3,Array.toList_eraseIdxIfInBounds,Array.toList_setIfInBounds,e,<- el]
  exact q690 l1 l2 _ _ _
 refine h st' k1 k2 ?_ (L.wide (WB _) ∅) ?_
 ·rw[<- ZY,<- ZY,ep,e]
  simp
  lia
 ·rw[ep,WQ,map_cons]
  refine Runs.app.mpr ⟨sa,r1.same fun t _ ht=>L.item (.inl ht),rfl,(show 0<na+nb by lia),A3,?_⟩
  show Runs lt (arrOf st') (sa+(na+nb)) (l2.map pr) lo
  rw[<- Nat.add_assoc]
  exact r2'.same fun t ht _=>L.item (.inr ∅)
theorem c_jN{α:Type}(J:Unit->Nat->M2 α){c:Prop}{_d:Decidable c}{x:M2 α}{n:Nat}{Q:α->SortSt->Shared->Prop}{st:SortSt}{s:Shared}(I:Nat->SortSt->Prop)(hJ:∀ n st,I n st->kasC (model prog w) A E (J () n) Q st s)(hx:c->(∀ n st,I n st->kasC (model prog w) A E (J () n) Q st s)->kasC (model prog w) A E x Q st s)(h0:¬ c->I n st):kasC (model prog w) A E (if c then x else J () n) Q st s:=by
 by_cases h:c
 ·rw[ZJ h]
  exact hx h hJ
 ·rw[ZI h]
  exact hJ _ _ (h0 h)
theorem q456{s:Shared}(G:Good prog w A E κ P lt s)(T:Tot P lt){Q:Unit->SortSt->Shared->Prop}{st:SortSt}(hst:kindOf st=κ)(hf:failedOf st=none)(hpd:pendingOf st = #[])(hp:∀ x∈(arrOf st).toList,P x)(hn:1<=(arrOf st).size)
  (h:∀ st':SortSt,failedOf st'=none->(arrOf st').Perm (arrOf st)->Asc lt (arrOf st') 0 (arrOf st').size->Q () st' s):kasC (model prog w) A E sortRuns' Q st s:=by
 refine ZQ (kasC_get ?_)
 try dsimp -zeta only
 try extract_lets -merge -underBinder
 try dsimp -zeta +zetaDelta only
 refine ZQ (q90 (fun t r st' s'=>s'=s/\kindOf st'=κ/\failedOf st'=none/\Loc (arrOf st) (arrOf st') 0 (arrOf st).size /\ ∃ lo,r=(none,lo)/\lo<=(arrOf st).size/\t<=lo/\Runs lt (arrOf st') 0 ((pendingOf st').toList.map pr) lo)
  (fun r st' s'=>s'=s/\kindOf st'=κ/\failedOf st'=none/\Loc (arrOf st) (arrOf st') 0 (arrOf st).size/\r=(none,(arrOf st).size)/\Runs lt (arrOf st') 0 ((pendingOf st').toList.map pr) (arrOf st).size)
  ⟨rfl,hst,hf,Loc.refl _ _ _,0,rfl,WB _,WB _,by rw[hpd];exact rfl⟩ ?_ ?_ ?_)
 ·rintro r st' s' ⟨e1,e2,e3,e4,lo,e5,e6,e7,e8⟩
  have e7':(arrOf st).size<=lo:=e7
  have el:lo=(arrOf st).size:=∅
  subst el
  exact⟨e1,e2,e3,e4,e5,e8⟩
 ·rintro t x r st' s' ht ⟨rfl,k1,f1,L1,lo,rfl,hlo,htl,R1⟩
  try dsimp -zeta only
  try extract_lets -merge -underBinder
  try dsimp -zeta +zetaDelta only
  have hz1:=L1.size
  have hp1:=L1.good hp
  by_cases c1:lo>=(arrOf st).size
  ·rw[ZJ c1]
   have el:lo=(arrOf st).size:=∅
   subst el
   exact ZT ⟨rfl,k1,f1,L1,rfl,R1⟩
  rw[ZI c1]
  refine ZQ (q688 G T k1 hp1 (show lo+((arrOf st).size-lo)<=(arrOf st').size by lia) (show 1<=(arrOf st).size-lo by lia) fun fo st₂ fo1 fo2' S2 L2' A2=>?_)
  dsimp -zeta only
  extract_lets -merge -underBinder +onlyGivenNames _
  dsimp -zeta +zetaDelta only
  extract_lets -merge -underBinder jp
  have fo2:fo<=(arrOf st).size-lo:=fo2'
  have L2:Loc (arrOf st') (arrOf st₂) lo (lo+((arrOf st).size-lo)):=L2'
  have L12:Loc (arrOf st) (arrOf st₂) 0 (arrOf st).size:=L1.trans (L2.wide (WB _) ∅)
  have k2:kindOf st₂=κ:=S2.1.trans k1
  have f2:failedOf st₂=none:=S2.2.2.trans f1
  have R2:Runs lt (arrOf st₂) 0 ((pendingOf st₂).toList.map pr) lo:=by
   rw[S2.2.1]
   exact R1.same fun t _ ht=>L2.item (.inl ht)
  have hz2:=L12.size
  refine c_jN jp (fun n st₃=>kindOf st₃=κ/\failedOf st₃=none/\Loc (arrOf st) (arrOf st₃) 0 (arrOf st).size/\Runs lt (arrOf st₃) 0 ((pendingOf st₃).toList.map pr) lo/\Asc lt (arrOf st₃) lo n/\0<n/\lo+n<=(arrOf st).size) ?_ ?_ ?_
  ·rintro fo st₂ ⟨kS,fS,LS,RS,Am,hm,hm2⟩
   have hz2:=LS.size
   dsimp -zeta only [jp]
   clear jp
   refine ZQ (kasC_get ?_)
   try dsimp only
   cases hb:(pendingOf st₂).back? with
   | none=>
    refine ZQ (kasC_modify (ZT ⟨rfl,kS,fS,LS,lo+fo,rfl,(show lo+fo<=(arrOf st).size by lia),(show t+1<=lo+fo by lia),?_⟩))
    show Runs lt (arrOf st₂) 0 (((pendingOf st₂).push (lo,fo,0)).toList.map pr) (lo+fo)
    rw[Array.toList_push,WQ]
    exact Runs.app.mpr ⟨lo,RS,rfl,hm,Am,rfl⟩
   | some x=>
    obtain⟨s1,n1,z1⟩:=x
    try dsimp only
    refine ZQ (q90 (fun u r st₄ s₄=>s₄=s'/\r=(none,())/\kindOf st₄=κ/\failedOf st₄=none/\Loc (arrOf st) (arrOf st₄) 0 (arrOf st).size/\Runs lt (arrOf st₄) 0 ((pendingOf st₄).toList.map pr) lo/\Asc lt (arrOf st₄) lo fo)
     (fun r st₄ s₄=>s₄=s'/\r=(none,())/\kindOf st₄=κ/\failedOf st₄=none/\Loc (arrOf st) (arrOf st₄) 0 (arrOf st).size/\Runs lt (arrOf st₄) 0 ((pendingOf st₄).toList.map pr) lo/\Asc lt (arrOf st₄) lo fo)
     ⟨rfl,rfl,kS,fS,LS,RS,Am⟩ (fun _ _ _ z=>z) ?_ ?_)
    ·rintro u x r st₄ s₄ hu ⟨rfl,rfl,k4,f4,L4,R4,A4⟩
     try dsimp only
     refine ZQ (kasC_get ?_)
     try dsimp only
     have hz4:=L4.size
     have stop:kasC (model prog w) A E (pure (ForInStep.done ((none:Option Unit),())):M2 _) (fun r st' s'=>match r with
       | .done b'=>s'=s₄/\b'=(none,())/\kindOf st'=κ/\failedOf st'=none/\Loc (arrOf st) (arrOf st') 0 (arrOf st).size/\Runs lt (arrOf st') 0 ((pendingOf st').toList.map pr) lo/\Asc lt (arrOf st') lo fo
       | .yield b'=>s'=s₄/\b'=(none,())/\kindOf st'=κ/\failedOf st'=none/\Loc (arrOf st) (arrOf st') 0 (arrOf st).size/\Runs lt (arrOf st') 0 ((pendingOf st').toList.map pr) lo/\Asc lt (arrOf st') lo fo) st₄ s₄:=ZT ⟨rfl,rfl,k4,f4,L4,R4,A4⟩
     by_cases c5:(pendingOf st₄).size > 1
     ·rw[ZJ c5]
      cases h5:(pendingOf st₄)[(pendingOf st₄).size-2]? with
      | none=>exact stop
      | some y=>
       obtain⟨y1,y2,older⟩:=y
       try dsimp only
       split
       ·exact stop
       ·refine ZQ (q368 G T k4 f4 (L4.good hp) (show(pendingOf st₄).size-2+1<(pendingOf st₄).size by lia) ∅ R4 fun st₅ k5 f5 _ L5 R5=>?_)
        exact ZT ⟨rfl,rfl,k5,f5,L4.trans (L5.wide (ZG _) ∅),R5,A4.same fun t g1 _=>L5.item (.inr g1)⟩
     ·rw[ZI c5]
      exact stop
    ·rintro r st₄ s₄ ⟨rfl,rfl,k4,f4,L4,R4,A4⟩
     try dsimp only
     refine ZQ (kasC_modify (ZQ (kasC_modify (ZT ⟨rfl,k4,f4,L4,lo+fo,rfl,(show lo+fo<=(arrOf st).size by lia),(show t+1<=lo+fo by lia),?_⟩))))
     show Runs lt (arrOf st₄) 0 (((Array.modify (pendingOf st₄) _ _).push (lo,fo,0)).toList.map pr) (lo+fo)
     rw[Array.toList_push,WQ,q691]
     ·exact Runs.app.mpr ⟨lo,R4,rfl,hm,A4,rfl⟩
     ·exact fun _=>rfl
  ·intro c J
   have c2:fo<minRun' (arrOf st).size (arrOf st).size 0:=c
   clear_value jp
   refine ZQ (kasC_lift (wpAny_rule ?_))
   refine ZQ (q514 G T k2 (L12.good hp) (show lo+(min ((arrOf st).size-lo) (minRun' (arrOf st).size (arrOf st).size 0))<=(arrOf st₂).size by lia) (show fo<=(min ((arrOf st).size-lo) (minRun' (arrOf st).size (arrOf st).size 0)) by lia) (show 1<=(min ((arrOf st).size-lo) (minRun' (arrOf st).size (arrOf st).size 0)) by lia) A2 fun st₃ S3 L3' A3'=>?_)
   have L3:Loc (arrOf st₂) (arrOf st₃) lo (lo+(min ((arrOf st).size-lo) (minRun' (arrOf st).size (arrOf st).size 0))):=L3'
   have A3:Asc lt (arrOf st₃) lo (min ((arrOf st).size-lo) (minRun' (arrOf st).size (arrOf st).size 0)):=A3'
   have kS:kindOf st₃=κ:=S3.1.trans k2
   have fS:failedOf st₃=none:=S3.2.2.trans f2
   have LS:Loc (arrOf st) (arrOf st₃) 0 (arrOf st).size:=L12.trans (L3.wide (WB _) ∅)
   have RS:Runs lt (arrOf st₃) 0 ((pendingOf st₃).toList.map pr) lo:=by
    rw[S3.2.1]
    exact R2.same fun t _ ht=>L3.item (.inl ht)
   have Am:=A3
   have hm:0<(min ((arrOf st).size-lo) (minRun' (arrOf st).size (arrOf st).size 0)):=∅
   refine c_iteF (by simp) ?_
   exact J _ _ ⟨kS,fS,LS,RS,Am,hm,show lo+(min ((arrOf st).size-lo) (minRun' (arrOf st).size (arrOf st).size 0))<=(arrOf st).size by lia⟩
  ·exact fun c2=>⟨k2,f2,L12,R2,A2,fo1,∅⟩
 ·rintro r st' s' ⟨rfl,k1,f1,L1,rfl,R1⟩
  try dsimp only
  have hz1:=L1.size
  refine ZQ (q90 (fun t r st₂ s₂=>s₂=s'/\r=(none,())/\kindOf st₂=κ/\failedOf st₂=none/\Loc (arrOf st) (arrOf st₂) 0 (arrOf st).size/\Runs lt (arrOf st₂) 0 ((pendingOf st₂).toList.map pr) (arrOf st).size/\(pendingOf st₂).size+t<=(arrOf st).size)
   (fun r st₂ s₂=>s₂=s'/\r=(none,())/\failedOf st₂=none/\Loc (arrOf st) (arrOf st₂) 0 (arrOf st).size/\Runs lt (arrOf st₂) 0 ((pendingOf st₂).toList.map pr) (arrOf st).size/\(pendingOf st₂).size<=1)
   ⟨rfl,rfl,k1,f1,L1,R1,by have:=R1.le;simp at this;lia⟩ ?_ ?_ ?_)
  ·rintro r st₂ s₂ ⟨e1,e2,e3,e4,e5,e6,e7⟩
   have e7':(pendingOf st₂).size+(arrOf st).size<=(arrOf st).size:=e7
   exact⟨e1,e2,e4,e5,e6,∅⟩
  ·rintro t x r st₂ s₂ ht ⟨rfl,rfl,k2,f2,L2,R2,hs2⟩
   try dsimp only
   refine ZQ (kasC_get ?_)
   try dsimp only
   have hz2:=L2.size
   by_cases c1:(pendingOf st₂).size<=1
   ·rw[ZJ c1]
    exact ZT ⟨rfl,rfl,f2,L2,R2,c1⟩
   rw[ZI c1]
   refine ZQ (q368 G T k2 f2 (L2.good hp) (ite_lt (show(pendingOf st₂).size-2-1+1<(pendingOf st₂).size by lia) (show(pendingOf st₂).size-2+1<(pendingOf st₂).size by lia)) (show(arrOf st).size<=(arrOf st₂).size by lia) R2 fun st₅ k5 f5 e5 L5 R5=>?_)
   exact ZT ⟨rfl,rfl,k5,f5,L2.trans (L5.wide (ZG _) ∅),R5,∅⟩
  ·rintro r st₂ s₂ ⟨rfl,rfl,f2,L2,R2,hs2⟩
   have hz2:=L2.size
   refine ZT (h st₂ f2 L2.perm ?_)
   rw[hz2]
   cases hl:(pendingOf st₂).toList with
   | nil=>
    rw[hl]at R2
    have z:0=(arrOf st).size:=R2
    lia
   | cons y l=>
    have hll:l=[]:=by
     have:(pendingOf st₂).toList.length<=1:=by simpa using hs2
     rw[hl,WZ]at this
     exact eq_nil_of_length_eq_zero ∅
    rw[hl,hll]at R2
    obtain⟨_,_,A9,e9⟩:=R2
    have e9':0+y.2.1=(arrOf st).size:=e9
    rw[<- e9',Nat.zero_add]
    exact A9
end
end TS
namespace TS
set_option autoImplicit false
open PySem PySem.W PyProof.Rows List
abbrev I3:=Int×Int×Int
noncomputable def lex3(a b:I3):Bool:=if a.1=b.1 then(if a.2.1=b.2.1 then decide (a.2.2<b.2.2)else decide (a.2.1<b.2.1))else decide (a.1<b.1)
theorem q240{a b:I3}:lex3 a b=false↔(b.1<a.1\/(a.1=b.1/\(b.2.1<a.2.1\/(a.2.1=b.2.1/\b.2.2<=a.2.2)))):=by
 unfold lex3
 split
 ·split
  ·rw[YR];lia
  ·rw[YR];lia
 ·rw[YR];lia
theorem q692{a b:I3}:lex3 a b=true↔¬(b.1<a.1\/(a.1=b.1/\(b.2.1<a.2.1\/(a.2.1=b.2.1/\b.2.2<=a.2.2)))):=by
 rw[<- q240,Bool.not_eq_false]
def TupI(h:Heap)(v:Value)(t:I3):Prop:=∃(a:Addr)(o:Obj)(n:Nat)(t1 t2 t3:Tok),v = .ref a/\h.get? a=some o/\o.cls = .type "tuple" /\ o.data = .seq #[.int t.1 t1,.int t.2.1 t2,.int t.2.2 t3] n
section
variable {prog:Program} {w:World} {A:Around} {E:VS} {s:Shared}
theorem one_lt{a b:Int}{t u:Tok}{Q:Bool->Shared->Prop}(h:Q (decide (a<b)) s):wpAny (model prog w) A (oneLt' false (.int a t) (.int b u)) Q E s:=
 kat_one _ _ (lt_int h)
theorem cmp3{x y:Value}{t u:I3}{Q:Bool->Shared->Prop}(hx:TupI s.heap x t)(hy:TupI s.heap y u)(h:Q (lex3 t u) s):wpAny (model prog w) A (keyLt' (tuples' true) x y) Q E s:=by
 obtain⟨a,o,n,t1,t2,t3,rfl,ho,_,hd⟩:=hx
 obtain⟨b,o',n',u1,u2,u3,rfl,ho',_,hd'⟩:=hy
 refine kat_lt ho hd ho' hd' ?_
 unfold lex3 at h
 show KatLex prog w A true _ Q [(_,_),(_,_),(_,_)] 0 s
 refine kat_cons (wpAny_eqBool_int (kat_go (fun e=>kat_yes ?_) (fun e=>kat_no ?_)))
 ·rw[ZJ (beq_iff_eq.mp e)]at h
  refine kat_cons (wpAny_eqBool_int (kat_go (fun e=>kat_yes ?_) (fun e=>kat_no ?_)))
  ·rw[ZJ (beq_iff_eq.mp e)]at h
   refine kat_cons (wpAny_eqBool_int (kat_go (fun e=>kat_yes (kat_nil ?_)) (fun e=>kat_no (one_lt h))))
   have e':=beq_iff_eq.mp e
   rw[ZK ∅]at h
   exact h
  ·rw[ZI (fun z=>by rw[beq_iff_eq.mpr z]at e;cases e)]at h
   exact one_lt h
 ·rw[ZI (fun z=>by rw[beq_iff_eq.mpr z]at e;cases e)]at h
  exact oneLt_int h
theorem good3(ts:Value->I3):Good prog w A E (tuples' true) (fun x=>TupI s.heap x.1 (ts x.1)) (fun x y=>lex3 (ts x.1) (ts y.1)) s:=by
 intro x y st Q hx hy hk hq
 rw[lt'_eq]
 refine ZQ (kasC_get (ZQ (kasC_lift (wpAny_attempt ?_))))
 rw[hk]
 exact cmp3 (E:=_) hx hy (ZT hq)
theorem tot3{P:Keyed->Prop}(ts:Value->I3):Tot P (fun x y=>lex3 (ts x.1) (ts y.1)):=
 ⟨fun x y z _ _ _ h1 h2=>by rw[q240]at h1 h2 ⊢;lia,fun x y _ _ h=>by rw[q692]at h;rw[q240];lia⟩
theorem TupI.keep{h h':Heap}{v:Value}{t:I3}(k:∀ b o,h.get? b=some o->o.cls = .type "tuple" -> h'.get? b=some o) (z:TupI h v t):TupI h' v t:=by
 obtain⟨a,o,n,t1,t2,t3,e,ho,hc,hd⟩:=z
 exact⟨a,o,n,t1,t2,t3,e,k a o ho hc,hc,hd⟩
theorem kat_of{h:Heap}{ts:Value->I3}:∀(vs:List Value),(∀ v∈vs,TupI h v (ts v)) -> ∃ fs:List Value,KatTups h vs fs/\fs.length=vs.length /\ ∀ v∈fs,∃ i t,v=Value.int i t
 | [],_=>⟨[],trivial,rfl,fun v hv=>absurd hv (by simp)⟩
 | v::vs,hT=>by
  obtain⟨fs,k1,k2,k3⟩:=kat_of vs fun u hu=>hT u (ZZ _ hu)
  obtain⟨a,o,n,t1,t2,t3,rfl,ho,hc,hd⟩:=hT v (WF ..)
  exact⟨_::fs,KatTups.cons ho hc hd (f:=.int (ts (.ref a)).1 t1) rfl k1,by simp[k2],fun u hu=>by
   rcases List.mem_cons.mp hu with e | e
   ·exact⟨_,_,e⟩
   ·exact k3 u e⟩
theorem q515{a:Addr}{vs:List Value}{n:Nat}{ts:Value->I3}{Q:PySem.Fin->Shared->Prop}(ho:s.heap.get? a=some (seqObj "list" vs.toArray n)) (hT:∀ v∈vs,TupI s.heap v (ts v)) (hz:vs.length<=sizeLine)
  (h:∀ out:Array Value,out.toList.Perm vs->(out.toList.Pairwise fun x y=>lex3 (ts y) (ts x)=false)->Q (.done (.ret .none)) { s with heap:=sortedHeap s.heap a vs out }):wpAny (model prog w) A (Builtin.«list.sort» ⟨[.ref a],[]⟩) Q E s:=by
 have ha:a<s.heap.objs.size:=ZW ho
 have hvz:vs.toArray.size=vs.length:=ZX ..
 obtain⟨e1,ho1⟩:∃ e1,(s.heap.update a (Obj.mapSeq fun _=>(#[]:Array Value))).get? a=some (seqObj "list" #[] e1):=⟨_,get?_update_seq ho fun _=>#[]⟩
 rw[list_sort_plain]
 refine ZC (listItems_at ho rfl (ZC (listUpdate_at ho rfl ?_ (by rw[hvz];exact hz) (WB _))))
 refine ZC (seqEpoch_at ho1 rfl (ZC (wpAny_newTuple (ZC (wpAny_newList (wpAny_holding ?_) (WB _))) (by show vs.length<=_;exact hz))))
 obtain⟨h6,e6⟩:∃ h6,h6=((s.heap.update a (Obj.mapSeq fun _=>(#[]:Array Value))).push (seqObj "tuple" vs.toArray 0)).push (seqObj "list" #[] 0):=⟨_,rfl⟩
 have ho6:h6.get? a=some (seqObj "list" #[] e1):=by
  rw[e6]
  exact ZF _ (ZF _ ho1)
 have hT6:∀ v∈vs,TupI h6 v (ts v):=fun v hv=>(hT v hv).keep fun b o hb hc=>by
  have nb:b≠a:=fun z=>by
   rw[z,ho]at hb
   cases hb
   exact absurd (Value.type.inj hc) {}
  rw[e6]
  exact ZF _ (ZF _ (((Heap.SameBut.update s.heap a (Obj.mapSeq fun _=>(#[]:Array Value))).2 b nb).trans hb))
 show wpAny (model prog w) A _ Q E { s with heap:=((s.heap.update a (Obj.mapSeq fun _=>(#[]:Array Value))).push (seqObj "tuple" vs.toArray 0)).push (seqObj "list" #[] 0) }
 have hfin:∀ out:Array Value,out.toList.Perm vs->(out.toList.Pairwise fun x y=>lex3 (ts y) (ts x)=false)->Q (.done (.ret .none)) { s with heap:=h6.update a (Obj.mapSeq fun _=>out) }:=fun out p1 p2=>by
  rw[e6]
  exact h out p1 p2
 rw[<- e6]
 dsimp only
 by_cases h2:vs.toArray.size<2
 ·rw[ZJ h2,ZJ h2]
  refine ZC (ZM ?_)
  rw[StateT.run_pure]
  refine ZC (ZM ?_)
  dsimp only
  have eo:((arrOf (SortSt.mk' general' (vs.toArray.zip vs.toArray) #[] 7 none)).map (·.2))=vs.toArray:=by
   show(vs.toArray.zip vs.toArray).map (·.2)=vs.toArray
   apply Array.toList_inj.mp
   simp[map_snd_zip]
  rw[eo]
  refine ZC (seqEpoch_at ho6 rfl (ZC (listUpdate_at ho6 rfl ?_ (WB _) (by rw[hvz];lia))))
  simp only[bne_self_eq_false,Bool.false_eq_true,if_false]
  refine ZM (hfin vs.toArray (List.Perm.refl _) ?_)
  match vs,h2 with
  | [],_=>exact .nil
  | [x],_=>exact pairwise_singleton _ _
  | x::y::l,h2=>exact absurd h2 (by simp)
 ·rw[ZI h2,ZI h2]
  obtain⟨fs,k1,k2,k3⟩:=kat_of vs hT6
  refine ZC (kat_kind (T:=.type "int") (s:={ s with heap:=h6 }) k1 ∅ (fun v hv=>?_) (by rfl) ?_)
  ·obtain⟨i,t,rfl⟩:=k3 v hv
   exact Looks.of_pure rfl
  have zl:(vs.toArray.zip vs.toArray).toList=vs.zip vs:=by simp
  have pz:∀ x∈(vs.toArray.zip vs.toArray).toList,TupI h6 x.1 (ts x.1):=fun x hx=>by
   rw[zl]at hx
   exact hT6 _ (mem_zip_self hx).2
  have run:=q456 (prog:=prog) (w:=w) (A:=A) (E:=E) (good3 (s:={ s with heap:=h6 }) ts) (tot3 ts) (Q:=fun _ st' s'=>s' = { s with heap:=h6 }/\failedOf st'=none/\(arrOf st').Perm (vs.toArray.zip vs.toArray)/\Asc (fun x y=>lex3 (ts x.1) (ts y.1)) (arrOf st') 0 (arrOf st').size)
   (st:=SortSt.mk' (tuples' true) (vs.toArray.zip vs.toArray) #[] 7 none) rfl rfl rfl pz (by show 1<=(vs.toArray.zip vs.toArray).size;simp;lia) (fun st' f1 f2 f3=>⟨rfl,f1,f2,f3⟩)
  refine ZC (WW run ?_ fun _ _ e=>e)
  rintro ⟨⟨⟩,st'⟩ s' ⟨rfl,f1,f2,f3⟩
  dsimp only
  have p0:=Array.perm_iff_toList_perm.mp f2
  rw[zl]at p0
  have osz:((arrOf st').map (·.2)).size=vs.length:=by
   rw[Array.size_map,<- ZY,p0.length_eq]
   simp
  refine ZC (seqEpoch_at ho6 rfl (ZC (listUpdate_at ho6 rfl ?_ (WB _) (ZR (Nat.le_of_eq osz) ∅))))
  rw[f1]
  simp only[bne_self_eq_false,Bool.false_eq_true,if_false]
  refine ZM (hfin _ ?_ ?_)
  ·rw[Array.toList_map]
   refine(p0.map _).trans (List.Perm.of_eq ?_)
   exact map_snd_zip (ZG _)
  ·rw[Array.toList_map,pairwise_map]
   have sr:Srt (fun x y=>lex3 (ts x.1) (ts y.1)) (arrOf st').toList:=q564 fun p q g1 g2=>by
    have:=f3 p q g1 g2
    rw[Nat.zero_add,Nat.zero_add]at this
    exact this
   refine List.Pairwise.imp_of_mem ?_ sr
   intro x y hx hy hxy
   have ex:=(mem_zip_self (p0.mem_iff.mp hx)).1
   have ey:=(mem_zip_self (p0.mem_iff.mp hy)).1
   rw[<- ex,<- ey]
   exact hxy
theorem sorted_t{l:Addr}{vs:List Value}{ts:Value->I3}{Q:VS}(hl:s.heap.IsList l vs.toArray)(hT:∀ v∈vs,TupI s.heap v (ts v))(hz:vs.length<=sizeLine)
  (h:∀ out:Array Value,out.toList.Perm vs->(out.toList.Pairwise fun x y=>lex3 (ts y) (ts x)=false)->Q (.ref (s.heap.objs.size+1)) { s with heap:=sortedAll s.heap vs out }):wpAny (model prog w) A (call (.builtin "sorted") [.ref l]) Q E s:=by
 refine Calls.call_function_entry kind_sorted plain_sorted entry_sorted (args_sorted1 _) ?_
 unfold Builtin.«sorted»
 refine ZC (m:=checkCount "sorted" 1 1 _) (ZM (ZC (collect_list hl (ZC (wpAny_newList ?_ (by show vs.length<=_;exact hz))) hz)))
 have hsz:((s.heap.push (seqObj "list" #[] 0)).update s.heap.objs.size (Obj.mapSeq (· ++ vs.toArray))).objs.size=s.heap.objs.size+1:=by rw[Heap.size_update,size_push']
 have hoL:(((s.heap.push (seqObj "list" #[] 0)).update s.heap.objs.size (Obj.mapSeq (· ++ vs.toArray))).push (seqObj "list" vs.toArray 0)).get? (s.heap.objs.size+1)=some (seqObj "list" vs.toArray 0):=by rw[<- hsz];exact ZU _ rfl
 have hT2:∀ v∈vs,TupI (((s.heap.push (seqObj "list" #[] 0)).update s.heap.objs.size (Obj.mapSeq (· ++ vs.toArray))).push (seqObj "list" vs.toArray 0)) v (ts v):=fun v hv=>(hT v hv).keep fun b o hb hc=>by
  have nb:b≠s.heap.objs.size:=WH (ZW hb)
  exact ZF _ (((Heap.SameBut.update (s.heap.push (seqObj "list" #[] 0)) s.heap.objs.size (Obj.mapSeq (· ++ vs.toArray))).2 b nb).trans (ZF _ hb))
 show wpAny _ _ _ _ _ { s with heap:=((s.heap.push (seqObj "list" #[] 0)).update s.heap.objs.size (Obj.mapSeq (· ++ vs.toArray))).push (seqObj "list" vs.toArray 0) }
 rw[hsz]
 exact ZC (wpAny_holding (wpAny_call_entry slot_list_sort ⟨_,hoL,rfl⟩ entry_list_sort (q515 hoL hT2 hz fun out a1 a2=>⟨_,rfl,ZM ⟨_,rfl,h out a1 a2⟩⟩) (args_list_sort _)))
end
end TS
namespace TS
set_option autoImplicit false
open PySem PySem.W PyProof.Rows List
theorem TupI.inj{h:Heap}{v:Value}{t u:I3}(x:TupI h v t)(y:TupI h v u):t=u:=by
 obtain⟨a,o,n,t1,t2,t3,rfl,ho,_,hd⟩:=x
 obtain⟨b,o',n',u1,u2,u3,e,ho',_,hd'⟩:=y
 cases e
 rw[ho]at ho'
 cases ho'
 rw[hd]at hd'
 have z:=congrArg Array.toList (Data.seq.inj hd').1
 simp only[List.cons.injEq,Value.int.injEq]at z
 exact Prod.ext z.1.1 (Prod.ext z.2.1.1 z.2.2.1.1)
open Classical in
noncomputable def tsOf(h:Heap)(v:Value):I3:=if q:∃ u,TupI h v u then q.choose else(0,0,0)
theorem tsOf_eq{h:Heap}{v:Value}{u:I3}(x:TupI h v u):tsOf h v=u:=by
 unfold tsOf
 have q:∃ u,TupI h v u:=⟨u,x⟩
 rw[dif_pos q]
 exact q.choose_spec.inj x
end TS
namespace L2
open PySem PySem.Spec PyProof.Rows List
variable {X:Cx}
def q68(K:Fg)(H:Hp)(y:V)(u:TS.I3):Prop:=∃ a,y = .ref a/\SqT K H a [.int u.1,.int u.2.1,.int u.2.2]
noncomputable def absR:Value->V
 | .ref a=>.ref a
 | _=>.non
theorem q241{α β γ:Type}{R:β->γ->Prop}{f:α->β}{g:α->γ}:∀(l:List α),(∀ v∈l,R (f v) (g v))->Paired R (l.map f) (l.map g)
 | [],_=>.nil
 | x::l,h=>.cons (h x (WF ..)) (q241 l fun v hv=>h v (ZZ _ hv))
theorem q566{s:Shared}(I:Inv X pins σ H s):∀{ys:List V}{us:List TS.I3}{its:List Value},Paired (q68 X.K H) ys us->Vals ys its ->
  (∀ v∈its,TS.TupI s.heap v (TS.tsOf s.heap v)/\q68 X.K H (absR v) (TS.tsOf s.heap v)/\RelV (absR v) v)/\ys=its.map absR/\us=its.map (TS.tsOf s.heap)
 | _,_,_,.nil,.nil=>⟨fun v hv=>absurd hv (by simp),rfl,rfl⟩
 | _,_,_,.cons (a:=y) (b:=u) ht hp,.cons r rr=>by
  obtain⟨h1,h2,h3⟩:=q566 I hp rr
  obtain⟨a,rfl,hq⟩:=ht
  cases r
  obtain⟨its2,r1,p1,_⟩:=I.tuple hq
  obtain⟨o,ho,hc,n,hd⟩:=id p1
  cases r1 with
  | cons q1 r1=>
   cases r1 with
   | cons q2 r1=>
    cases r1 with
    | cons q3 r1=>
     cases r1
     obtain⟨t1,rfl⟩:=q1
     obtain⟨t2,rfl⟩:=q2
     obtain⟨t3,rfl⟩:=q3
     have tp:TS.TupI s.heap (.ref a) u:=⟨a,o,n,t1,t2,t3,rfl,ho,hc,hd⟩
     have e:=TS.tsOf_eq tp
     refine⟨fun v hv=>?_,by rw[map_cons,<- h2];rfl,by rw[map_cons,<- h3,e]⟩
     rcases List.mem_cons.mp hv with z | z
     ·rw[z,e]
      exact⟨tp,⟨a,rfl,hq⟩,rfl⟩
     ·exact h1 v z
inductive q406(K:Fg)(xs:List V)(H:Hp)(Q:VK):Prop
 |mk(p:Addr)(ys:List V)(us:List TS.I3)(_:xs=[.ref p])(_:SqL K H p ys)(_:Paired (q68 K H) ys us)(_:∀(l:Addr)(zs:List V)(vs:List TS.I3),H l=none->(zs.zip vs).Perm (ys.zip us)->Paired (q68 K H) zs vs->(vs.Pairwise fun x y=>TS.lex3 y x=false)->Q (.ref l) (upd H l (.lst zs)))
theorem q457{K:Fg}(hK:X.K=K):CallR X (.builtin "sorted") (q406 K):=by
 subst hK
 intro pins s σ H xs us Q I r h
 obtain⟨p,ys,ts,rfl,hq,hp,q⟩:=h
 obtain⟨u,rfl,rx⟩:=vals1 r
 cases rx
 obtain⟨its,r',pl,hz⟩:=I.list hq
 have hl:=r'.length
 obtain⟨h1,h2,h3⟩:=q566 I hp r'
 refine TS.sorted_t (ts:=TS.tsOf s.heap) pl.isList (fun v hv=>(h1 v hv).1) ∅ fun out a1 a2=>?_
 obtain⟨e,he⟩:=PyProof.Rows.sortedAll_at s.heap its out
 have hml:out.toList.length=its.length:=a1.length_eq
 have hm:∀ v∈out.toList,v∈its:=fun v hv=>a1.mem_iff.mp hv
 refine⟨.ref (s.heap.objs.size+1),_,I.laid (t':=s.toks) (a:=s.heap.objs.size+1) (o:=.lst (out.toList.map absR)) (fun b ob z=>PyProof.Rows.sortedAll_old z) (Nat.le_succ _) ?_,rfl,q _ (out.toList.map absR) (out.toList.map (TS.tsOf s.heap)) (I.hok.fresh (Nat.le_succ _)) ?_ ?_ ?_⟩
 ·exists by rw[ZN];lia,out.toList,e,?_
  ·have z:=q241 (R:=RelV) (f:=absR) (g:=id) out.toList fun v hv=>(h1 v (hm v hv)).2.2
   rw[map_id]at z
   exact z
  ·rw[he]
 ·rw[h2,h3,zip_map',zip_map']
  exact a1.map _
 ·exact q241 out.toList fun v hv=>(h1 v (hm v hv)).2.1
 ·rw[pairwise_map]
  exact a2
end L2
namespace TS
set_option autoImplicit false
open PySem
abbrev Up(l:List Nat):Prop:=l.Pairwise (·<·)
theorem q567{l:List Nat}(h:Up l){i j:Nat}{x y:Nat}(hx:l[i]? = some x)(hy:l[j]? = some y)(q:i<j):x<y:=by
 obtain⟨a,rfl⟩:=List.getElem?_eq_some_iff.mp hx
 obtain⟨b,rfl⟩:=List.getElem?_eq_some_iff.mp hy
 exact List.pairwise_iff_getElem.mp h i j a b q
theorem q693{xs:Array Nat}{j:Nat}(hu:Up xs.toList):∀(f lo hi:Nat),hi<=xs.size->hi-lo<=f->lo<=hi->(∀ i x,xs[i]? = some x->i<lo->x<j)->(∀ i x,xs[i]? = some x->hi<=i->j<=x) ->
  SetTable.below.go xs j f lo hi<=xs.size/\(∀ i x,xs[i]? = some x->i<SetTable.below.go xs j f lo hi->x<j)/\(∀ i x,xs[i]? = some x->SetTable.below.go xs j f lo hi<=i->j<=x)
 | 0,lo,hi,hz,hf,hlh,h1,h2=>by
  have e:lo=hi:=∅
  subst e
  exact⟨hz,h1,h2⟩
 | f+1,lo,hi,hz,hf,hlh,h1,h2=>by
  unfold SetTable.below.go
  by_cases q:lo<hi
  ·rw[ZJ q]
   dsimp only
   have hm:(lo+hi)/2<xs.size:=∅
   have g:xs[(lo+hi)/2]? = some (xs.getD ((lo+hi)/2) j):=by
    rw[WM hm];simp[Array.getD,hm]
   have gl:xs.toList[(lo+hi)/2]? = some (xs.getD ((lo+hi)/2) j):=by rw[WE];exact g
   by_cases q2:xs.getD ((lo+hi)/2) j<j
   ·rw[ZJ q2]
    refine q693 hu f _ hi hz ∅ ∅ (fun i x hx hi'=>?_) h2
    have hx':xs.toList[i]? = some x:=by rw[WE];exact hx
    rcases Nat.lt_or_ge i ((lo+hi)/2)with z | z
    ·exact Nat.lt_trans (q567 hu hx' gl z) q2
    ·have:i=(lo+hi)/2:=∅
     subst this
     rw[g]at hx;cases hx;exact q2
   ·rw[ZI q2]
    refine q693 hu f lo _ ∅ ∅ ∅ h1 fun i x hx hi'=>?_
    have hx':xs.toList[i]? = some x:=by rw[WE];exact hx
    rcases Nat.lt_or_ge ((lo+hi)/2) i with z | z
    ·exact ZR (Nat.not_lt.mp q2) (Nat.le_of_lt (q567 hu gl hx' z))
    ·have:i=(lo+hi)/2:=∅
     subst this
     rw[g]at hx;cases hx;exact Nat.not_lt.mp q2
  ·rw[ZI q]
   have e:lo=hi:=∅
   subst e
   exact⟨hz,h1,h2⟩
theorem bel{xs:Array Nat}{j:Nat}(hu:Up xs.toList):SetTable.below xs j<=xs.size/\(∀ i x,xs[i]? = some x->i<SetTable.below xs j->x<j)/\(∀ i x,xs[i]? = some x->SetTable.below xs j<=i->j<=x):=by
 refine q693 hu _ _ _ (ZG _) ∅ (WB _) (fun i x _ h=>absurd h (Nat.not_lt_zero _)) fun i x hx h=>?_
 have:=(Array.getElem?_eq_some_iff.mp hx).1
 lia
theorem bel_next{xs:Array Nat}(hu:Up xs.toList){i x:Nat}(hx:xs[i]? = some x):SetTable.below xs (x+1)=i+1:=by
 obtain⟨b1,b2,b3⟩:=bel (j:=x+1) hu
 have hi:=(Array.getElem?_eq_some_iff.mp hx).1
 rcases Nat.lt_or_ge (SetTable.below xs (x+1)) (i+1)with z | z
 ·exact absurd (b3 i x hx ∅) ∅
 ·rcases Nat.lt_or_ge (i+1) (SetTable.below xs (x+1))with z2 | z2
  ·have h1:i+1<xs.size:=∅
   have g:xs[i+1]? = some xs[i+1]:=WM h1
   have l1:=b2 (i+1) _ g z2
   have l2:=q567 hu (i:=i) (j:=i+1) (by rw[WE];exact hx) (by rw[WE];exact g) (Nat.lt_succ_self _)
   lia
  ·lia
theorem bel_zero{xs:Array Nat}(hu:Up xs.toList):SetTable.below xs 0=0:=by
 obtain⟨b1,b2,b3⟩:=bel (j:=0) hu
 rcases Nat.eq_zero_or_pos (SetTable.below xs 0)with z | z
 ·exact z
 ·have h0:0<xs.size:=∅
  exact absurd (b2 0 _ (WM h0) z) (Nat.not_lt_zero _)
theorem up_put{xs:Array Nat}{j:Nat}(hu:Up xs.toList)(hn:xs[SetTable.below xs j]?≠some j):Up (SetTable.insertAt xs (SetTable.below xs j) j).toList:=by
 obtain⟨b1,b2,b3⟩:=bel (j:=j) hu
 rw[SetTable.toList_insertAt]
 have lo:∀ y∈xs.toList.take (SetTable.below xs j),y<j:=fun y hy=>by
  obtain⟨i,hi⟩:=List.mem_iff_getElem?.mp hy
  rw[List.getElem?_take]at hi
  split at hi
  ·rename_i q
   rw[WE]at hi
   exact b2 i y hi q
  ·cases hi
 have hi:∀ y∈xs.toList.drop (SetTable.below xs j),j<y:=fun y hy=>by
  obtain⟨i,hi⟩:=List.mem_iff_getElem?.mp hy
  rw[List.getElem?_drop]at hi
  have hi':xs[SetTable.below xs j+i]? = some y:=by rw[<- WE];exact hi
  have l1:=b3 _ y hi' (Nat.le_add_right _ _)
  rcases Nat.lt_or_ge j y with z | z
  ·exact z
  ·have e:y=j:=∅
   subst e
   cases i with
   | zero=>exact absurd hi' hn
   | succ i=>
    have h0:SetTable.below xs y<xs.size:=by
     have:=(Array.getElem?_eq_some_iff.mp hi').1
     lia
    have g:xs[SetTable.below xs y]? = some xs[SetTable.below xs y]:=WM h0
    have l2:=b3 _ _ g (ZG _)
    have l3:=q567 hu (i:=SetTable.below xs y) (j:=SetTable.below xs y+(i+1)) (by rw[WE];exact g) (by rw[WE];exact hi') ∅
    lia
 refine List.pairwise_append.mpr ⟨hu.sublist (List.take_sublist _ _),List.pairwise_cons.mpr ⟨hi,hu.sublist (List.drop_sublist _ _)⟩,fun a ha b hb=>?_⟩
 rcases List.mem_cons.mp hb with z | z
 ·rw[z];exact lo a ha
 ·exact Nat.lt_trans (lo a ha) (hi b z)
structure GT(b:Bool)(t:SetTable):Prop where
 led:t.led=b
 up:t.plain=true->Up t.place.toList
theorem GT.fresh(b:Bool):GT b (.fresh 0 0 b):=⟨rfl,fun _=>.nil⟩
theorem GT.standIn{b:Bool}{t:SetTable}(h:GT b t)(n:Nat):GT b (t.standIn n):=⟨h.led,fun z=>by cases z⟩
theorem GT.off{b:Bool}{t:SetTable}(h:GT b t):GT b { t with plain:=false }:=⟨h.led,fun z=>by cases z⟩
theorem GT.orStandIn{b:Bool}{t:SetTable}(h:GT b t)(n:Nat):GT b (t.orStandIn n):=by
 unfold SetTable.orStandIn
 split
 ·exact h
 ·exact h.standIn n
theorem q242{t:SetTable}{ha:Nat->Int}{h:Int}:∀(f:Nat)(p:SetTable.Probe)(j:Nat)(d:Option Nat),(∀ x,p.dummy=some x->t.place[SetTable.below t.place x]?≠some x)->SetTable.probe.go t ha h f p=some (.empty j d) ->
  t.place[SetTable.below t.place (d.getD j)]?≠some (d.getD j)
 | 0,_,_,_,_,e=>by simp[SetTable.probe.go]at e
 | f+1,p,j,d,hp,e=>by
  unfold SetTable.probe.go at e
  have adv:∀ q:SetTable.Probe,(t.advance q).dummy=q.dummy:=fun q=>by
   unfold SetTable.advance
   split <;> rfl
  cases hs:t.slot p.j with
  | empty=>
   rw[hs]at e
   cases e
   have hl:t.place[SetTable.below t.place p.j]?≠some p.j:=fun z=>by
    unfold SetTable.slot at hs
    simp[z]at hs
   cases hd:p.dummy with
   | none=>exact hl
   | some x=>exact hp x hd
  | dummy=>
   rw[hs]at e
   refine q242 f _ j d (fun x hx=>?_) e
   rw[adv]at hx
   cases hx
   intro z
   unfold SetTable.slot at hs
   simp[z]at hs
  | live i=>
   rw[hs]at e
   dsimp only at e
   split at e
   ·cases e
   ·refine q242 f _ j d (fun x hx=>?_) e
    rw[adv]at hx
    exact hp x hx
theorem GT.layNew{b:Bool}{t:SetTable}(g:GT b t)(es:Array (Int×Value))(h:Int)(x:Value):GT b (layNew t es h x).2.1:=by
 unfold PySem.layNew
 split
 ·rename_i slot wd e
  dsimp only
  refine GT.orStandIn (t:=(t.put slot).1) ⟨g.led,fun z=>?_⟩ _
  show Up (SetTable.insertAt t.place (SetTable.below t.place slot) slot).toList
  refine up_put (g.up z) ?_
  unfold SetTable.freeSlot at e
  split at e
  ·rename_i j d ep
   cases e
   exact q242 _ _ j d (fun x hx=>by cases hx) ep
  ·cases e
 ·exact g.standIn _
theorem q694:∀(f:Nat->Option Nat)(l:List Nat),Up l->Up ((l.filterMap fun j=>(f j).map (j,·)).map (·.1))
 | _,[],_=>.nil
 | f,j::l,h=>by
  obtain⟨h1,h2⟩:=List.pairwise_cons.mp h
  have ih:=q694 f l h2
  rw[List.filterMap_cons]
  cases hf:f j with
  | none=>exact ih
  | some k=>
   dsimp only [Option.map]
   rw[List.map_cons]
   refine List.pairwise_cons.mpr ⟨fun y hy=>?_,ih⟩
   obtain⟨⟨y1,y2⟩,hq,rfl⟩:=List.mem_map.mp hy
   obtain⟨z,hz,hz'⟩:=List.mem_filterMap.mp hq
   cases hfz:f z with
   | none=>rw[hfz]at hz';cases hz'
   | some k'=>rw[hfz]at hz';cases hz';exact h1 _ hz
theorem GT.relayAll{b:Bool}{t:SetTable}(g:GT b t)(es:Array (Int×Value))(n:Nat):GT b (relayAll t es n).2.1:=by
 unfold PySem.relayAll
 split
 ·rename_i t' order e
  dsimp only
  split
  ·unfold SetTable.relaid SetTable.laid at e
   cases hc:SetTable.layClean (SetTable.sizeAbove n-1) (es.map (·.1)) with
   | none=>rw[hc]at e;cases e
   | some ow=>
    rw[hc]at e
    cases e
    refine⟨g.led,fun _=>?_⟩
    show Up (List.toArray _).toList
    rw[List.toList_toArray]
    exact q694 (fun j=>ow.getD j none) _ List.pairwise_lt_range
  ·exact g.standIn _
 ·exact g.standIn _
end TS
namespace TS
set_option autoImplicit false
open PySem
noncomputable def stD(ks:List Int)(k:Int):List Int:=if ks.any (·==k)then ks else ks++[k]
noncomputable def byT(w:World):Bool:=w.params.followText "set-order"
noncomputable def kOf:Value->Int
 | .int k _=>k
 | _=>0
def AllI(vs:List Value):Prop:=∀ v∈vs,∃ k t,v=Value.int k t
structure SetS(prog:Program)(w:World)(o:Obj)(es:Array (Int×Value))(ep:Nat)(t:SetTable)(ks:List Int):Prop where
 ex:o.ExactSet
 dat:o.data = .set es ep t
 el:ElemsOf (intKind prog w) es.toList
 few:es.size<scanBound
 fit:t.fits es.size=true
 gt:GT (!(byT w)) t
 pm:(es.toList.map fun e=>kOf e.2).Perm ks
 nd:ks.Nodup
def SetI(prog:Program)(w:World)(h:Heap)(a:Addr)(ks:List Int):Prop:=∃ o es ep t,h.get? a=some o/\SetS prog w o es ep t ks
theorem iki(prog:Program)(w:World)(k:Int)(t:Tok):(intKind prog w).is k (.int k t)=true:=by simp[intKind,Value.isInt]
section
variable {prog:Program} {w:World} {A:Around} {E:VS} {s:Shared}
theorem el_int{es:List (Int×Value)}(h:ElemsOf (intKind prog w) es){e:Int×Value}(he:e∈es):∃ t,e.2 = .int (kOf e.2) t:=by
 obtain⟨⟨k,hk,_⟩,_⟩:=h e he
 obtain⟨t,ht⟩:=Value.isInt_shape hk
 exact⟨t,by rw[ht];rfl⟩
theorem is_kOf{es:List (Int×Value)}(h:ElemsOf (intKind prog w) es){e:Int×Value}(he:e∈es)(k:Int):(intKind prog w).is k e.2=decide (k=kOf e.2):=by
 obtain⟨t,ht⟩:=el_int h he
 exact KeyKind.is_eq_decide (knd:=intKind prog w) (k:=kOf e.2) (by rw[ht];exact iki _ _ _ _) k
theorem q369{h:Heap}{a:Addr}{o:Obj}{es es':Array (Int×Value)}{ep:Nat}{t t':SetTable}(ho:h.get? a=some o)(hd:o.data = .set es ep t) :
  (h.update a (Obj.putSet es' t')).get? a=some { o with data:=.set es' (ep+1) t' }:=by
 have z:=Heap.get?_update_self (Obj.putSet es' t') ho (by rw[putSet_of es' t' hd];rfl)
 rwa [putSet_of es' t' hd]at z
theorem q568{g:Bool->Sem Unit}(hg:∀(b:Bool)(s₁:Shared)(Q':Unit->Shared->Prop),Q' () s₁->wpAny (model prog w) A (g b) Q' E s₁){b:Bool}{a:Addr}{o:Obj}{es es1:Array (Int×Value)}{ep:Nat}{t t2:SetTable}
  (ho:s.heap.get? a=some o) (hd:o.data = .set es ep t) (f1:es1.size<scanBound) (f2:t2.fits es1.size=true) (f3:GT b t2) {wd:Bool} {R:Option Bool->Shared->Prop}
  (h:∀ h' es' ep' t',Heap.SameBut a s.heap h'->h'.get? a=some { o with data:=.set es' ep' t' }->es'.toList.Perm es1.toList->t'.fits es'.size=true->GT b t'->R (some true) { s with heap:=h' }) :
  wpAny (model prog w) A (storeSet a es1 t2 >>= fun _=>if(!wd&&t2.tooFull)=true then(g (relayAll t2 es1 (SetTable.grown es1.size)).2.2 >>= fun _=>
   storeSet a (relayAll t2 es1 (SetTable.grown es1.size)).1 (relayAll t2 es1 (SetTable.grown es1.size)).2.1 >>= fun _=>pure (some true))else pure (some true)) R E s:=by
 refine ZC (wpAny_storeSet_of ho hd ?_ (fits_of_scanBound f1))
 have ho1:=q369 (es':=es1) (t':=t2) ho hd
 have sb:=Heap.SameBut.update s.heap a (Obj.putSet es1 t2)
 split
 ·have hp:=relayAll_perm t2 es1 (SetTable.grown es1.size)
  have hf:=relayAll_fits t2 es1 (SetTable.grown es1.size)
  have hG:=f3.relayAll es1 (SetTable.grown es1.size)
  generalize relayAll t2 es1 (SetTable.grown es1.size)=r at hp hf hG ⊢
  obtain⟨es2,t3,gv⟩:=r
  dsimp only at hp hf hG ⊢
  have hsz:es2.size=es1.size:=by rw[<- ZY,hp.length_eq,ZY]
  refine ZC (hg _ _ _ (ZC (wpAny_storeSet_of ho1 rfl ?_ (fits_of_scanBound (by rw[hsz];exact f1)))))
  exact ZM (h _ es2 _ t3 (sb.trans (Heap.SameBut.update _ a _)) (q369 (o:={ o with data:=.set es1 (ep+1) t2 }) ho1 rfl) hp hf hG)
 ·exact ZM (h _ es1 _ t2 sb ho1 (List.Perm.refl _) f2 f3)
theorem set_add{a:Addr}{ks:List Int}{k:Int}{tk:Tok}{Q:Shared->Prop}(hS:SetI prog w s.heap a ks)(hr:ks.length+1<scanBound)
  (h:∀ h',Heap.SameBut a s.heap h'->SetI prog w h' a (stD ks k)->Q { s with heap:=h' }):wpAny (model prog w) A (setAddHashed a (.int k tk) ((intKind prog w).hash k)) (fun _ s'=>Q s') E s:=by
 obtain⟨o,es,ep,t,ho,hs⟩:=hS
 have hkey:(intKind prog w).is k (.int k tk)=true:=iki _ _ _ _
 have hlen:es.size=ks.length:=by rw[<- hs.pm.length_eq,List.length_map,ZY]
 unfold setAddHashed;unfold setAddHashedIn
 refine wpAny_holding (ZC (wpAny_setState_of ho hs.dat hs.fit ?_));dsimp only
 rw[byScan_of (knd:=intKind prog w) rfl hs.few hs.el,ZJ rfl]
 unfold setAddByScan
 refine ZC (ZC (wpAny_rule (ZC (wpAny_setScan_of hkey ho hs.dat hs.fit hs.el ?_))))
 have any_iff:ks.any (·==k)=true↔∃ e∈es.toList,(intKind prog w).is k e.2=true:=by
  rw[List.any_eq_true]
  constructor
  ·rintro ⟨x,hx,e⟩
   obtain⟨e',he',rfl⟩:=List.mem_map.mp (hs.pm.mem_iff.mpr hx)
   exact⟨e',he',by rw[is_kOf hs.el he',ZA (beq_iff_eq.mp e).symm]⟩
  ·rintro ⟨e,he,hk⟩
   rw[is_kOf hs.el he,WA]at hk
   exact⟨k,hs.pm.mem_iff.mp (List.mem_map.mpr ⟨e,he,hk.symm⟩),beq_self_eq_true _⟩
 cases hf:List.findIdx? (fun e=>(intKind prog w).is k e.2) es.toList with
 | some j=>
  obtain⟨hj,hp,_⟩:=List.findIdx?_eq_some_iff_getElem.mp hf
  have hin:=any_iff.mpr ⟨es.toList[j],List.getElem_mem hj,hp⟩
  refine ZM (ZM ?_)
  have z:=h s.heap (Heap.SameBut.refl a s.heap) (by unfold stD;rw[ZJ hin];exact⟨o,es,ep,t,ho,hs⟩)
  cases s
  exact z
 | none=>
  have hout:¬ ks.any (·==k)=true:=fun z=>by
   obtain⟨e,he,hk⟩:=any_iff.mp z
   have:=List.findIdx?_eq_none_iff.mp hf e he
   rw[hk]at this
   cases this
  dsimp only
  have gw:∀(b:Bool){s₁:Shared}{Q':Unit->Shared->Prop},Q' () s₁->wpAny (model prog w) A (match b with | true=>rule "set.scan.the-table-gave-way" | false=>pure ()) Q' E s₁:=fun b s₁ Q' hq=>by cases b <;> first | exact ZM hq | exact wpAny_rule hq
  have p1:=layNew_perm t es ((intKind prog w).hash k) (.int k tk)
  have p2:=layNew_fits t es ((intKind prog w).hash k) (.int k tk)
  have p3:=hs.gt.layNew es ((intKind prog w).hash k) (.int k tk)
  generalize layNew t es ((intKind prog w).hash k) (.int k tk)=L at p1 p2 p3 ⊢
  obtain⟨es1,t1,wd,gv⟩:=L
  dsimp only at p1 p2 p3 ⊢
  rw[Array.toList_push]at p1
  have el1:ElemsOf (intKind prog w) es1.toList:=(hs.el.push hkey rfl).perm p1
  have n1:es1.size=es.size+1:=by rw[<- ZY,p1.length_eq,List.length_append,ZY];rfl
  have fin:∀ h' es' ep' t',Heap.SameBut a s.heap h'->h'.get? a=some { o with data:=.set es' ep' t' }->es'.toList.Perm es1.toList->t'.fits es'.size=true->GT (!(byT w)) t'->Q { s with heap:=h' }:=fun h' es' ep' t' e1 e2 e3 e4 e5=>by
   have n2:es'.size=es1.size:=by rw[<- ZY,e3.length_eq,ZY]
   refine h h' e1 ⟨_,es',ep',t',e2,hs.ex,rfl,el1.perm e3,∅,e4,e5,?_,?_⟩
   ·unfold stD
    rw[ZI hout]
    refine(e3.map _).trans ((p1.map _).trans ?_)
    rw[List.map_append]
    exact hs.pm.append_right _
   ·unfold stD
    rw[ZI hout]
    refine List.nodup_append.mpr ⟨hs.nd,by simp,fun x hx y hy e=>hout ?_⟩
    rw[List.mem_singleton]at hy
    exact List.any_eq_true.mpr ⟨x,hx,by rw[e,hy];exact beq_self_eq_true _⟩
  refine ZC (gw _ ?_)
  split
  ·refine ZC ?_
   rw[hashByValue_scannable 8 (x:=Value.int k tk) rfl]
   refine ZM (q568 ?_ ho hs.dat ∅ ?_ ?_ fun h' es' ep' t' e1 e2 e3 e4 e5=>ZM (fin h' es' ep' t' e1 e2 e3 e4 e5))
   ·intro b s₁ Q' hq;cases b <;> first | exact ZM hq | exact wpAny_rule hq
   ·split
    ·exact p2
    ·exact SetTable.fits_plain_off p2
   ·split
    ·exact p3
    ·exact p3.off
  ·refine ZC (ZM ?_)
   rw[ZJ rfl]
   refine q568 ?_ ho hs.dat ∅ p2 p3 fun h' es' ep' t' e1 e2 e3 e4 e5=>ZM (fin h' es' ep' t' e1 e2 e3 e4 e5)
   intro b s₁ Q' hq;cases b <;> first | exact ZM hq | exact wpAny_rule hq
end
end TS
namespace TS
set_option autoImplicit false
open PySem
theorem q300:Slot "set" "__iter__" "set.__iter__" :=
 .of (owner := "set") (n := "__iter__") (by rw[typeLookup_type,builtinLookup_eq_fast];kernel_rfl) (by decide +kernel) (by decide +kernel) (by decide +kernel)
  (by first | exact .inl (by decide +kernel) | exact .inr (by decide +kernel)) (by rw[isSubtype_type];kernel_rfl)
theorem q458:entryFor table "set.__iter__" = some Builtin.«frozenset.__iter__»:=entryFor_alias (id' := "frozenset.__iter__") (by kernel_rfl) rfl (by decide +kernel) (by kernel_rfl)
theorem owner_s:Manifest.owners.lookup (String.ofList ['t','e','s'].reverse)=some Manifest.sig_set:=by kernel_rfl
theorem q516(a:Value):argsOk "set.__iter__" ⟨[a],[]⟩:=by
 unfold argsOk;rw[signature?_of (id := "set.__iter__") (n:=['_','_','r','e','t','i','_','_']) (o:=['t','e','s']) (by kernel_rfl) owner_s];kernel_rfl
theorem q80:Slot "set_iterator" "__next__" "set_iterator.__next__" :=
 .of (owner := "set_iterator") (n := "__next__") (by rw[typeLookup_type,builtinLookup_eq_fast];kernel_rfl) (by decide +kernel) (by decide +kernel) (by decide +kernel)
  (by first | exact .inl (by decide +kernel) | exact .inr (by decide +kernel)) (by rw[isSubtype_type];kernel_rfl)
theorem q407:entryFor table "set_iterator.__next__" = some Builtin.«set_iterator.__next__»:=entryFor_of_tree (by kernel_rfl)
theorem q569:Manifest.owners.lookup (String.ofList ['r','o','t','a','r','e','t','i','_','t','e','s'].reverse)=some Manifest.sig_set_iterator:=by kernel_rfl
theorem q459(a:Value):argsOk "set_iterator.__next__" ⟨[a],[]⟩:=by
 unfold argsOk;rw[signature?_of (id := "set_iterator.__next__") (n:=['_','_','t','x','e','n','_','_']) (o:=['r','o','t','a','r','e','t','i','_','t','e','s']) (by kernel_rfl) q569];kernel_rfl
theorem q258:Slot "set_iterator" "__iter__" "set_iterator.__iter__" :=
 .of (owner := "set_iterator") (n := "__iter__") (by rw[typeLookup_type,builtinLookup_eq_fast];kernel_rfl) (by decide +kernel) (by decide +kernel) (by decide +kernel)
  (by first | exact .inl (by decide +kernel) | exact .inr (by decide +kernel)) (by rw[isSubtype_type];kernel_rfl)
theorem q408{α:Type}:∀(l:List α)(i:Nat)(h:i<l.length),(l[i]::l.eraseIdx i).Perm l
 | x::l,0,_=>List.Perm.refl _
 | x::l,i+1,h=>by
  show(l[i]'(by simpa using h)::x::l.eraseIdx i).Perm (x::l)
  exact(List.Perm.swap _ _ _).trans (List.Perm.cons _ (q408 l i (by simpa using h)))
theorem q695{α:Type}(nx:Nat->Nat):∀(f k:Nat)(l:List α)(out:Array α),l.length=f->(pickOrder.go nx f k l out).toList.Perm (out.toList++l)
 | 0,_,l,out,h=>by
  have:l=[]:=List.length_eq_zero_iff.mp h
  subst this
  simp[pickOrder.go]
 | f+1,k,l,out,h=>by
  unfold pickOrder.go
  have hlt:nx k%l.length<l.length:=Nat.mod_lt _ ∅
  rw[List.getElem?_eq_getElem hlt]
  dsimp only
  refine(q695 nx f (k+1) _ _ (by rw[List.length_eraseIdx,ZJ hlt,h];rfl)).trans ?_
  rw[Array.toList_push,List.append_assoc]
  exact List.Perm.append_left _ (q408 _ _ hlt)
theorem q696{α:Type}(nx:Nat->Nat)(xs:Array α):(pickOrder nx xs).toList.Perm xs.toList:=by
 have z:=q695 nx xs.size 0 xs.toList #[] (by simp)
 simpa [pickOrder] using z
section
variable {prog:Program} {w:World} {A:Around} {E:VS} {s:Shared}
theorem q460{α:Type}:∀(n:Nat)(xs:List α){s:Shared}{Q:List α->Shared->Prop},xs.length=n->(∀ l d,l.Perm xs->Q l { s with drawn:=d })->wpAny (model prog w) A (drawOrder n xs) Q E s
 | 0,xs,s,Q,h,hq=>by
  have:xs=[]:=List.length_eq_zero_iff.mp h
  subst this
  exact ZM (hq [] s.drawn (List.Perm.refl _))
 | n+1,[],s,Q,h,hq=>by cases h
 | n+1,x::xs,s,Q,h,hq=>by
  unfold drawOrder
  refine ZC (m:=choose Source.order (x::xs).length) (fun Γ p hΓ=>?_)
  show Sem.wp _ Γ (.choose _ _ _) _ _ p s
  rw[Sem.wp_choose]
  exists by simp
  rw[Sem.wp_pure]
  generalize hd:({ s with drawn:=_ }:Shared)=s1
  have hlt:(model prog w).w.draws Source.order (s.drawn.get Source.order)%(x::xs).length<(x::xs).length:=Nat.mod_lt _ (by simp)
  generalize (model prog w).w.draws Source.order (s.drawn.get Source.order)%(x::xs).length=i at hlt
  rw[List.getElem?_eq_getElem hlt]
  dsimp only
  refine ZC (q460 n _ (by rw[List.length_eraseIdx,ZJ hlt,h];rfl) fun l d p=>?_)
  subst hd
  exact ZM (hq _ d ((List.Perm.cons _ p).trans (q408 _ _ hlt)))
theorem q301{α:Type}(hh:A.handled=none){Q:α->Shared->Prop}{E':VS}(h:∀(h':Heap)(e:Addr),(∀ b o,s.heap.get? b=some o->h'.get? b=some o)->(∃ o,h'.get? e=some o/\o.cls = .type "StopIteration")->E' (.ref e) { s with heap:=h' }) :
  wpAny (model prog w) A ((newExc (.type "StopIteration") [] >>= fun e=>raiseNew e):Sem α) Q E' s:=by
 refine ZC ?_
 simp only[newExc,newTuple]
 refine ZC (YF ?_ (by size_fits))
 refine ZC (m:=firstArgMember _ _) (wpAny_of_eq (a:=Value.none) (by first | rfl | (simp only[firstArgMember];rfl)) ?_)
 refine YF ?_ (by size_fits)
 simp only[raiseNew]
 refine ZC (wpAny_handled ?_)
 rw[hh]
 exact ZC (ZM (wpAny_throw (h _ _ (fun b o e=>ZF _ (ZF _ e)) ⟨_,ZU _ rfl,rfl⟩)))
noncomputable abbrev itObj(first:Value)(i:Nat)(S:Addr)(n ep:Nat):Obj:={ cls:=.type "set_iterator", dict:=none,data:=.fields #[first,rawInt i,.ref S,rawInt n,rawInt ep],slots:=#[] }
theorem q517{Q:Bool->Shared->Prop}(h:Q (byT w) s):wpAny (model prog w) A setsByText Q E s:=by
 unfold setsByText
 exact ZC (wpAny_askSetting (ZM h))
variable{S I:Addr}{o:Obj}{es:Array (Int×Value)}{ep:Nat}{t:SetTable}{ks:List Int}
noncomputable def ordN(w:World)(S:Addr)(ep:Nat)(es:Array (Int×Value)):Array (Int×Value):=if byT w then pickOrder (w.params.setOrder S ep) es else es
theorem q203:(ordN w S ep es).toList.Perm es.toList:=by
 unfold ordN
 split
 ·exact q696 _ _
 ·exact List.Perm.refl _
noncomputable def slotN(w:World)(t:SetTable):Nat->Nat
 | 0=>0
 | i+1=>if byT w then 0 else t.place.getD i 0+1
noncomputable def q280(w:World)(es:Array (Int×Value))(t:SetTable):Prop:=byT w=true\/t.plain=true\/es.size<=1
theorem q570{i:Nat}{Q:Option (Value×Nat)->Shared->Prop}(ho:s.heap.get? S=some o)(hs:SetS prog w o es ep t ks)(nd:q280 w es t)(hi:i<=es.size)(h:Q (((ordN w S ep es)[i]?).map fun e=>(e.2,slotN w t (i+1))) s) :
  wpAny (model prog w) A (setNext S (slotN w t i) i ep) Q E s:=by
 unfold setNext
 refine ZC (wpAny_setState_of ho hs.dat hs.fit ?_)
 dsimp only
 refine ZC (q517 ?_)
 by_cases hb:byT w=true
 ·rw[ZJ hb,ZI (by simp)]
  refine ZC ?_
  unfold setWalk
  refine ZC (wpAny_setState_of ho hs.dat hs.fit (ZC (q517 ?_)))
  rw[ZJ hb]
  refine ZC (wpAny_askSetting (ZM (ZM ?_)))
  have e1:ordN w S ep es=pickOrder (w.params.setOrder S ep) es:=ZJ hb
  have e2:slotN w t (i+1)=0:=ZJ hb
  have e3:slotN w t i=0:=by cases i with | zero=>rfl | succ i=>exact ZJ hb
  rw[e1,e2]at h
  rw[e3]
  exact h
 ·rw[ZI hb]
  have e1:ordN w S ep es=es:=ZI hb
  have e2:slotN w t (i+1)=t.place.getD i 0+1:=ZI hb
  have led:t.led=true:=by rw[hs.gt.led];simpa using hb
  have psz:t.place.size=es.size:=by
   have z:=hs.fit
   simp only[SetTable.fits,WL,beq_iff_eq]at z
   exact z.1
  rw[e1,e2]at h
  split
  ·rename_i hd
   have hd':(!t.plain&&decide (es.size > 1))=true:=hd
   rcases nd with z | z | z
   ·exact absurd z hb
   ·rw[z]at hd';cases hd'
   ·rw[ZK ∅,WJ]at hd';cases hd'
  ·refine ZC ?_
   show wpAny _ _ (if(!t.led&&!es.isEmpty)=true then unsupported "set:maker-not-led" else pure ()) _ _ _
   rw[led,ZI (by simp)]
   refine ZM (ZM ?_)
   have hu:Up t.place.toList:=by
    rcases nd with z | z | z
    ·exact absurd z hb
    ·exact hs.gt.up z
    ·match hl:t.place.toList,(show t.place.toList.length<=1 by rw[ZY,psz];exact z) with
     | [],_=>exact .nil
     | [x],_=>exact List.pairwise_singleton _ _
   have bz:∀ j,j<=es.size->SetTable.below t.place (slotN w t j)=j:=fun j hj=>by
    cases j with
    | zero=>exact bel_zero hu
    | succ j=>
     have q:j<t.place.size:=∅
     rw[show slotN w t (j+1)=t.place[j]+1 by rw[show slotN w t (j+1)=t.place.getD j 0+1 from ZI hb];simp[Array.getD,q]]
     exact bel_next hu (WM q)
   by_cases q:i<es.size
   ·rw[bz i ∅,WM q,WM (show i<t.place.size by lia)]
    rw[WM q]at h
    have e3:t.place.getD i 0=t.place[i]'∅:=by simp[Array.getD,show i<t.place.size by lia]
    rw[e3]at h
    exact h
   ·rw[Array.getElem?_eq_none ∅]at h
    rw[bz i hi,Array.getElem?_eq_none ∅]
    exact h
end
end TS
namespace TS
set_option autoImplicit false
open PySem
section
variable {prog:Program} {w:World} {A:Around} {E:VS} {s:Shared} {S I T:Addr} {o:Obj} {es:Array (Int×Value)} {ep:Nat} {t:SetTable} {ks:List Int}
theorem q697{first:Value}{i n:Nat}{Q:VS}(hI:s.heap.get? I=some (itObj first i S n ep))(h:Q (.ref I) s):wpAny (model prog w) A (pyIter (.ref I)) Q E s:=by
 have hT:s.TypeIs (.ref I) "set_iterator" := ⟨_,hI,rfl⟩
 refine wpAny_pyIter_slot hT q258 (wpAny_call_entry (b:=Builtin.«dict_keyiterator.__iter__») q258 hT (entryFor_alias (id' := "dict_keyiterator.__iter__") (by kernel_rfl) rfl (by decide +kernel) (by kernel_rfl)) ?_ ?_)
 ·exact ZM ⟨_,rfl, "set_iterator", _,hT,q80.lookup,h⟩
 ·unfold argsOk;rw[signature?_of (id := "set_iterator.__iter__") (n:=['_','_','r','e','t','i','_','_']) (o:=['r','o','t','a','r','e','t','i','_','t','e','s']) (by kernel_rfl) q569];kernel_rfl
theorem q409{first:Value}{i:Nat}{Q:Option Value->Shared->Prop}(ho:s.heap.get? S=some o)(hs:SetS prog w o es ep t ks)(hI:s.heap.get? I=some (itObj first i S es.size ep))
  (hN:∀ Q':PySem.Fin->Shared->Prop,∀ E':VS,(∀ v s',Q (some v) s'->Q' (.done (.ret v)) s')->(∀ e h',(∀ b u,b≠I->s.heap.get? b=some u->h'.get? b=some u)->(∃ u,h'.get? e=some u/\u.cls = .type "StopIteration")->Q none { s with heap:=h' }->E' (.ref e) { s with heap:=h' }) ->
   wpAny (model prog w) A.in1 (if let .int slot _:=first then(do
    match <- setNext S slot.toNat i ep with
    | some (x,next)=>
     setField (.ref I) 0 (rawInt next)
     setField (.ref I) 1 (rawInt (i+1))
     ret x
    | none=>setField (.ref I) 2 .none;raiseNew (<- newExc (.type "StopIteration") [])) else(do
    let some places <- seqItems? first | unsupported "internal:set_iterator"
    match places[i]? with
    | some (.int place _)=>
     let x <- setNextDrawn S place.toNat ep
     setField (.ref I) 1 (rawInt (i+1))
     ret x
    | some _=>unsupported "internal:set_iterator"
    | none=>setField (.ref I) 0 (rawInt 0);setField (.ref I) 2 .none;raiseNew (<- newExc (.type "StopIteration") []))) Q' E' s):wpAny (model prog w) A (pyNext (.ref I)) Q E s:=by
 have hT:s.TypeIs (.ref I) "set_iterator" := ⟨_,hI,rfl⟩
 unfold pyNext
 refine ZC (wpAny_attempt (wpAny_callSpecial?_slot (name:=Str.ofString "__next__") hT q80
  (wpAny_call_entry q80 hT q407 ?_ (q459 _))))
 show wpAny _ _ (fieldsOf (.ref I) >>= _) _ _ s
 refine ZC (wpAny_fieldsOf hI rfl ?_)
 show wpAny _ _ (setEntries S >>= _) _ _ s
 refine ZC (wpAny_setEntries_of ho hs.dat hs.fit ?_)
 rw[ZI (by simp)]
 refine WW (hN _ _ (fun v s' hq=>⟨_,rfl,ZM hq⟩) fun e h' hk he hq=>?_) (fun _ _ q=>q) fun _ _ q=>q
 obtain⟨u,hu,hc⟩:=he
 exact ZC (wpAny_isInstance (T := "StopIteration") (b:=true) ⟨u,hu,hc⟩ isSubtype_stop (ZM hq))
theorem q56{a:Addr}{h h':Heap}(x:Heap.SameBut a h h'):∀ b u,b≠a->h.get? b=some u->h'.get? b=some u:=fun b u hb e=>(x.2 b hb).trans e
theorem walk_n(hh:A.handled=none)(hne:S≠I)(hs:SetS prog w o es ep t ks)(nd:q280 w es t) :
  Walks prog w A I [I,S] [I] es.size (fun i v=>((ordN w S ep es).toList.map (·.2))[i]? = some v) (fun i h=>h.get? I=some (itObj (rawInt (slotN w t i)) i S es.size ep)/\h.get? S=some o) where
 sub:=fun b hb=>by simp at hb;simp[hb]
 frame:=fun i h h' st hk=>⟨hk I (by simp) _ st.1,hk S (by simp) _ st.2⟩
 item:=fun i s Q E hi st hQ=>by
  have hlt:i<(ordN w S ep es).size:=by
   rw[<- ZY,q203.length_eq,ZY]
   exact hi
  refine q409 st.2 hs st.1 fun Q' E' f1 f2=>?_
  refine ZC (q570 (i:=i) (E:=E') st.2 hs nd (Nat.le_of_lt hi) ?_)
  rw[WM hlt]
  dsimp only [Option.map]
  refine ZC (YK st.1 (by simp) fun h1 g1 k1=>?_)
  refine ZC (YK (s:={ s with heap:=h1 }) g1 (by simp) fun h2 g2 k2=>?_)
  refine ZM (f1 _ _ (hQ _ h2 s.toks ?_ ⟨?_,?_⟩ ?_))
  ·rw[List.getElem?_map,WE,WM hlt]
   rfl
  ·exact g2
  ·exact q56 k2 S _ hne (q56 k1 S _ hne st.2)
  ·exact fun b u hb e=>q56 k2 b u (fun z=>hb (by simp[z])) (q56 k1 b u (fun z=>hb (by simp[z])) e)
 done:=fun s Q E st hQ=>by
  refine q409 st.2 hs st.1 fun Q' E' f1 f2=>?_
  refine ZC (q570 (i:=es.size) (E:=E') st.2 hs nd (ZG _) ?_)
  rw[Array.getElem?_eq_none (by rw[<- ZY,q203.length_eq,ZY];exact ZG _)]
  dsimp only [Option.map]
  refine ZC (YK st.1 (by simp) fun h1 g1 k1=>?_)
  refine q301 (A:=A.in1) (show A.in1.handled=none from hh) fun h' e g he=>?_
  have kk:∀ b u,b≠I->s.heap.get? b=some u->h'.get? b=some u:=fun b u hb z=>g b u (q56 k1 b u hb z)
  exact f2 e h' kk he (hQ h' s.toks fun b u hb z=>kk b u (fun q=>hb (by simp[q])) z)
 self:=fun i s Q E st hQ=>q697 st.1 hQ
theorem walk_d(hh:A.handled=none)(hne:S≠I)(hnt:T≠I){ps:List Nat}{u:Obj}(hs:SetS prog w o es ep t ks)(hp:ps.Perm (List.range es.size))(hu:u.data = .seq (ps.map fun(i:Nat)=>rawInt i).toArray 0) :
  Walks prog w A I [I,S,T] [I] es.size (fun i v=>(ps.filterMap fun p=>(es[p]?).map (·.2))[i]? = some v) (fun i h=>h.get? I=some (itObj (.ref T) i S es.size ep)/\h.get? S=some o/\h.get? T=some u) where
 sub:=fun b hb=>by simp at hb;simp[hb]
 frame:=fun i h h' st hk=>⟨hk I (by simp) _ st.1,hk S (by simp) _ st.2.1,hk T (by simp) _ st.2.2⟩
 item:=fun i s Q E hi st hQ=>by
  have hlt:i<ps.length:=by rw[hp.length_eq,List.length_range];exact hi
  have hin:ps[i]<es.size:=List.mem_range.mp (hp.mem_iff.mp (List.getElem_mem hlt))
  refine q409 st.2.1 hs st.1 fun Q' E' f1 f2=>?_
  refine ZC (wpAny_seqItems st.2.2 hu ?_)
  dsimp only
  have e1:(ps.map fun(i:Nat)=>rawInt i).toArray[i]? = some (rawInt ps[i]):=by simp[hlt]
  rw[e1]
  refine ZC ?_
  unfold setNextDrawn
  refine ZC (wpAny_setState_of st.2.1 hs.dat hs.fit ?_)
  dsimp only
  rw[ZI (by simp)]
  show wpAny _ _ (match es[(ps[i]:Int).toNat]? with | some (_,x)=>pure x | _=>unsupported "internal:set_iterator") _ _ _
  rw[Int.toNat_natCast,WM hin]
  refine ZM (ZC (YK st.1 (by simp) fun h1 g1 k1=>?_))
  refine ZM (f1 _ _ (hQ _ h1 s.toks ?_ ⟨g1,q56 k1 S _ hne st.2.1,q56 k1 T _ hnt st.2.2⟩ fun b v hb e=>q56 k1 b v (fun z=>hb (by simp[z])) e))
  have e2:(ps.filterMap fun p=>(es[p]?).map (·.2))=ps.pmap (fun p h=>(es[p]'h).2) (fun p q=>List.mem_range.mp (hp.mem_iff.mp q)):=by
   clear hu st hlt hin f1 f2 e1 g1 k1 hQ
   have go:∀(l:List Nat)(hl:∀ p∈l,p<es.size),(l.filterMap fun p=>(es[p]?).map (·.2))=l.pmap (fun p h=>(es[p]'h).2) hl:=fun l=>by
    induction l with
    | nil=>intro _;rfl
    | cons p l ih=>
     intro hl
     rw[List.filterMap_cons_some (b:=(es[p]'(hl p (.head _))).2) (by rw[WM (hl p (.head _))];rfl),List.pmap_cons,ih fun q hq=>hl q (.tail _ hq)]
   exact go ps _
  rw[e2,List.getElem?_pmap]
  simp[hlt]
 done:=fun s Q E st hQ=>by
  refine q409 st.2.1 hs st.1 fun Q' E' f1 f2=>?_
  refine ZC (wpAny_seqItems st.2.2 hu ?_)
  dsimp only
  have e1:(ps.map fun(i:Nat)=>rawInt i).toArray[es.size]? = none:=by
   rw[Array.getElem?_eq_none]
   simp[hp.length_eq]
  rw[e1]
  refine ZC (YK st.1 (by simp) fun h1 g1 k1=>?_)
  refine ZC (YK (s:={ s with heap:=h1 }) g1 (by simp) fun h2 g2 k2=>?_)
  refine q301 (A:=A.in1) (show A.in1.handled=none from hh) fun h' e g he=>?_
  have kk:∀ b u,b≠I->s.heap.get? b=some u->h'.get? b=some u:=fun b u hb z=>g b u (q56 k2 b u hb (q56 k1 b u hb z))
  exact f2 e h' kk he (hQ h' s.toks fun b u hb z=>kk b u (fun q=>hb (by simp[q])) z)
 self:=fun i s Q E st hQ=>q697 st.1 hQ
theorem q461{ps:List Nat}(hp:ps.Perm (List.range es.size)):(ps.filterMap fun p=>(es[p]?).map (·.2)).Perm (es.toList.map (·.2)):=by
 refine(hp.filterMap _).trans (List.Perm.of_eq ?_)
 have z:=filterMap_getElem?_range es
 rw[<- z,<- List.filterMap_eq_map,List.filterMap_filterMap]
 congr 1
 funext p
 cases es[p]? <;> rfl
theorem iter_set{Q:VS}(hh:A.handled=none)(ho:s.heap.get? S=some o)(hs:SetS prog w o es ep t ks)
  (h:∀(I:Addr)(fp:List Addr)(vs:List Value)(St:Nat->Heap->Prop)(h':Heap)(d:Drawn),(∀ b u,s.heap.get? b=some u->h'.get? b=some u)->(∀ b∈fp,b=S\/s.heap.objs.size<=b)->s.heap.objs.size<=I ->
   Walks prog w A I fp [I] vs.length (fun i v=>vs[i]? = some v) St->St 0 h'->vs.Perm (es.toList.map (·.2))->Q (.ref I) { s with heap:=h',drawn:=d }):wpAny (model prog w) A (pyIter (.ref S)) Q E s:=by
 have hT:s.TypeIs (.ref S) "set" := ⟨o,ho,hs.ex.1⟩
 have hlt:S<s.heap.objs.size:=ZW ho
 refine wpAny_pyIter_slot hT q300 (wpAny_call_entry q300 hT q458 ?_ (q516 _))
 unfold Builtin.«frozenset.__iter__»
 refine ZC (m:=Builtin.Frozenset.slot0 "__iter__" _) (wpAny_of_eq (a:=S) rfl ?_)
 refine ZC (ZC (wpAny_setEntries_of ho hs.dat hs.fit (ZM ?_)))
 refine ZC ?_
 unfold setDrawn
 refine ZC (wpAny_setState_of ho hs.dat hs.fit (ZC (q517 (ZM ?_))))
 by_cases nd:q280 w es t
 ·rw[ZI ?_]
  ·refine ZC (ZM ?_)
   refine ZC (wpAny_setEpoch_of ho hs.dat hs.fit ?_)
   refine ZC (YF (ZM ⟨_,rfl, "set_iterator", _,⟨_,ZU _ rfl,rfl⟩,q80.lookup,?_⟩))
   have e:((ordN w S ep es).toList.map (·.2)).length=es.size:=by rw[List.length_map,q203.length_eq,ZY]
   have W:=walk_n (A:=A) (I:=s.heap.objs.size) hh (WH hlt) hs nd
   rw[<- e]at W
   exact h _ _ _ _ _ s.drawn (fun b u z=>ZF _ z) (fun b hb=>by
    rcases List.mem_cons.mp hb with z | z
    ·exact .inr (Nat.le_of_eq z.symm)
    ·exact .inl (List.mem_singleton.mp z)) (ZG _) W ⟨by rw[e];exact ZU _ rfl,ZF _ ho⟩ (q203.map _)
  ·show ¬((!(byT w)&&(!t.plain&&decide (es.size > 1)))=true)
   rcases nd with z | z | z
   ·simp[z]
   ·simp[z]
   ·rw[ZK (show ¬ es.size > 1 by lia)];simp
 ·rw[ZJ ?_]
  ·refine ZC (q460 _ _ (by simp) fun ps d hp=>?_)
   refine ZC (wpAny_newTuple ?_ (hsz:=?_))
   rotate_left
   ·rw[List.length_map,hp.length_eq,List.length_range];exact fits_of_scanBound hs.few
   refine ZC (wpAny_setEpoch_of (o:=o) (ZF _ ho) hs.dat hs.fit ?_)
   refine ZC (YF (ZM ⟨_,rfl, "set_iterator", _,⟨_,ZU _ rfl,rfl⟩,q80.lookup,?_⟩))
   have e:(ps.filterMap fun p=>(es[p]?).map (·.2)).length=es.size:=by rw[(q461 hp).length_eq,List.length_map,ZY]
   have W:=walk_d (A:=A) (I:=s.heap.objs.size+1) (T:=s.heap.objs.size) (u:={ cls:=.type "tuple", data:=.seq (ps.map fun(i:Nat)=>rawInt i).toArray }) hh (WH (Nat.lt_succ_of_lt hlt)) (WH (Nat.lt_succ_self _)) hs hp rfl
   rw[<- e]at W
   have hz:(s.heap.push { cls:=.type "tuple", data:=.seq (ps.map fun(i:Nat)=>rawInt i).toArray }).objs.size=s.heap.objs.size+1:=Heap.size_push ..
   refine(congrArg (fun a=>Q (.ref a) _) hz).mpr (h _ _ _ _ _ d (fun b u z=>ZF _ (ZF _ z)) (fun b hb=>by
    rcases List.mem_cons.mp hb with z | z
    ·exact .inr (by rw[z];exact Nat.le_succ _)
    ·rcases List.mem_cons.mp z with z | z
     ·exact .inl z
     ·exact .inr (Nat.le_of_eq (List.mem_singleton.mp z).symm)) (Nat.le_succ _) W ⟨?_,ZF _ (ZF _ ho),ZF _ (ZU _ rfl)⟩ (q461 hp))
   rw[e,<- hz]
   exact ZU _ rfl
  ·show(!(byT w)&&(!t.plain&&decide (es.size > 1)))=true
   unfold q280 at nd
   simp only[not_or,Bool.not_eq_true,Nat.not_le]at nd
   simp[nd]
end
end TS
namespace TS
set_option autoImplicit false
open PySem PyProof.Rows
section
variable {prog:Program} {w:World} {A:Around} {E:VS} {s:Shared}
theorem set_new(a:Value){Q:VS}(h:Q (.ref s.heap.objs.size) { s with heap:=s.heap.push { cls:=.type "set", dict:=none,data:=.set #[] 0 (.fresh 0 0 (!(byT w))) } }) :
  codeAny (model prog w) A (.call (.builtin "set.__new__") ⟨[.type "set", a],[]⟩) (wants Q E) s:=by
 refine codeAny_of_tree ?_;show wpAny _ A.in1 (do checkBuiltinCall "set.__new__" ⟨[.type "set", a],[]⟩;again (.builtin "set.__new__" ⟨[.type "set", a],[]⟩)) _ _ s
 refine ZC (wpAny_of_eq (PySem.F.newCall_set_1 a) (ZM ⟨plainId_quiet PySem.F.plain_set_new _,codeAny_builtin PySem.F.entry_set_new ?_⟩))
 rw[Around.under_plainId PySem.F.plain_set_new _]
 unfold Builtin.«set.__new__»;unfold Builtin.Frozenset.newClass
 have hsub:=sub_set_self
 obtain⟨hp,g,d,tk,os⟩:=s
 dsimp only
 wp_walk
 refine wpAny_askSetting (ZM ?_);dsimp only
 simp only[newObj]
 exact ZC (wpAny_alloc (ZM (ZM h)))
theorem q571{R:Result->Shared->Prop}{I:Addr}{fp wr:List Addr}{G:Array GenState->Array GenState->Prop}{n:Nat}{P:Nat->Value->Prop}{St:Nat->Shared->Prop}(W:WalksS prog w A.in1 I fp wr G n P St){S:Addr}(hSf:S ∉ fp){ns:List Int}(hl:ns.length=n)
  (hv:∀ i v,P i v -> ∃ t,v = .int (ns.getD i 0) t) (hb:n+1<scanBound):∀(k i:Nat)(s:Shared),n-i=k->i<=n->St i s->SetI prog w s.heap S ((ns.take i).foldl stD []) ->
   (∀ s',Moved (S::wr) G s s'->SetI prog w s'.heap S (ns.foldl stD [])->R (.ok (.ret .none)) s')->codeAny (model prog w) A (.builtin "set.update.loop" ⟨[.ref S,.ref I],[]⟩) R s
 | 0,i,s,hk,hi,hst,hS,hR=>by
  have e:i=n:=∅
  refine codeAny_builtin F.entry_set_update_loop ?_
  rw[Around.under_plainId F.plain_set_update_loop _]
  show wpAny _ A.in1 (pyNext (.ref I) >>= _) _ _ s
  refine ZC (W.done s _ _ (e▸hst) fun s' hm=>?_)
  refine ZM (hR s' (hm.mono fun b q=>List.mem_cons_of_mem _ q) ?_)
  rw[e,<- hl,List.take_length]at hS
  obtain⟨o,es,ep,t,ho,hs⟩:=hS
  exact⟨o,es,ep,t,hm.heap S _ (fun z=>hSf (W.sub _ z)) ho,hs⟩
 | k+1,i,s,hk,hi,hst,hS,hR=>by
  have hlt:i<n:=∅
  refine codeAny_builtin F.entry_set_update_loop ?_
  rw[Around.under_plainId F.plain_set_update_loop _]
  show wpAny _ A.in1 (pyNext (.ref I) >>= _) _ _ s
  refine ZC (W.item i s _ _ hlt hst fun v s' hP hst' hm=>?_)
  obtain⟨t,rfl⟩:=hv i v hP
  have hS':SetI prog w s'.heap S ((ns.take i).foldl stD []):=by
   obtain⟨o,es,ep,tb,ho,hs⟩:=hS
   exact⟨o,es,ep,tb,hm.heap S _ (fun z=>hSf (W.sub _ z)) ho,hs⟩
  refine ZC (wpAny_holding ?_)
  unfold setAdd
  refine wpAny_holding (ZC ((intKind prog w).pyHash (k:=ns.getD i 0) (intKind_is _ _ _ _) ?_))
  have hlen:∀(l:List Int)(a:List Int),(l.foldl stD a).length<=a.length+l.length:=fun l=>by
   induction l with
   | nil=>intro a;exact ZG _
   | cons x l ih=>
    intro a
    have z:(stD a x).length<=a.length+1:=by unfold stD;split <;> simp
    have:=ih (stD a x)
    simp only[List.foldl_cons,List.length_cons]
    lia
  have hroom:((ns.take i).foldl stD []).length+1<scanBound:=by
   have z:=hlen (ns.take i) []
   rw[List.length_take]at z
   simp only[List.length_nil]at z
   lia
  refine set_add (s:={ s' with toks:=s'.toks+1 }) hS' hroom fun h' hsb hS2=>?_
  have hS3:SetI prog w h' S ((ns.take (i+1)).foldl stD []):=by
   have hi':i<ns.length:=∅
   rw[List.take_succ,List.foldl_append,List.getElem?_eq_getElem hi']
   rw[show ns.getD i 0=ns[i] by simp[List.getD,List.getElem?_eq_getElem hi']]at hS2
   exact hS2
  refine ZM ⟨plainId_quiet F.plain_set_update_loop _,q571 W hSf hl hv hb k (i+1) _ ∅ hlt (W.frame _ s' _ _ hst' (Nat.le_succ _) fun b q o e=>?_) hS3 fun s'' m2 S2=>?_⟩
  ·rw[hsb.2 b (fun z:b=S=>hSf (z▸q))];exact e
  ·refine hR s'' (Moved.trans W.gtrans ((hm.mono fun b q=>List.mem_cons_of_mem _ q).then_heap (Nat.le_succ _) fun b o q e=>?_) m2) S2
   rw[hsb.2 b (fun z:b=S=>q (by rw[z];exact List.mem_cons_self))];exact e
theorem q750{l:Addr}{items:Array Value}{ns:List Int}{Q:VS}(hh:A.handled=none)(hl:s.heap.IsList l items)(hi:IntsAre items.toList ns)(hb:items.size+1<scanBound)
  (h:∀(h':Heap)(tk:Nat),SetI prog w h' s.heap.objs.size (ns.foldl stD [])->(∀ b o,s.heap.get? b=some o->h'.get? b=some o)->Q (.ref s.heap.objs.size) { s with heap:=h',toks:=tk }):wpAny (model prog w) A (call (.type "set") [.ref l]) Q E s:=by
 obtain⟨c,tl,hmro⟩:=PySem.F.called_set.mro
 have c1:=PySem.F.called_set.made
 have c2:=PySem.F.called_set.sub
 have c3:=PySem.F.called_set.notType
 have c4:=PySem.F.called_set.canCreate
 have c5:=PySem.F.typeCall_set_1 (.ref l)
 refine wpAny_call (codeAny_of_tree ?_);show wpAny _ _ (callAny (.type "set") _) _ _ _
 refine ZM ⟨Code.quiet_builtin _ (by decide +kernel),codeAny_builtin PySem.F.entry_type_call ?_⟩
 rw[Around.under_plain (weight_type_call_type "set" [.ref l] []) rfl]
 repeat (any_goals (first | assumption | wp_step))
 generalize e0:s.heap.push { cls:=.type "set", dict:=none,data:=.set #[] 0 (.fresh 0 0 (!(byT w))) }=h0
 refine codeAny_mono (set_new (.ref l) (E:=E) (Q:=fun v s₁=>v = .ref s.heap.objs.size/\s₁ = { s with heap:=h0 }) ⟨rfl,by rw[e0]⟩) fun r s₁ hr=>?_
 cases r with
 | error e=>exact hr
 | ok fl=>
  cases fl with
  | ret v=>
   obtain⟨rfl,rfl⟩:=hr
   have g0:h0.get? s.heap.objs.size=some { cls:=.type "set", dict:=none,data:=.set #[] 0 (.fresh 0 0 (!(byT w))) }:=by rw[<- e0];exact ZU _ rfl
   have k0:∀ b o,s.heap.get? b=some o->h0.get? b=some o:=fun b o z=>by rw[<- e0];exact ZF _ z
   have n0:h0.objs.size=s.heap.objs.size+1:=by rw[<- e0];exact Heap.size_push ..
   have hT:Shared.TypeIs { s with heap:=h0 } (.ref s.heap.objs.size) "set" := ⟨_,g0,rfl⟩
   have i1:=PySem.F.called_set.init.lookup
   have i2:=PySem.F.called_set.init.bind (.ref s.heap.objs.size)
   repeat (any_goals (first | assumption | wp_step))
   refine codeAny_mono (codeAny_call_builtin (R:=wants (fun r s₂=>r = .none /\ ∃ h' tk,s₂ = { s with heap:=h',toks:=tk }/\SetI prog w h' s.heap.objs.size (ns.foldl stD [])/\(∀ b o,s.heap.get? b=some o->h'.get? b=some o)) E) PySem.F.called_set.init.plain PySem.F.entry_set_init (check_set_init_1 hT ?_)) fun r₂ s₂ hr₂=>?_
   ·obtain⟨ol,hol,hcl,nl,hdl⟩:=hl
    obtain⟨ocls,odict,odata,oslots⟩:=ol
    simp only at hcl hdl
    subst hcl;subst hdl
    have hlS:l<s.heap.objs.size:=ZW hol
    have hol':=k0 _ _ hol
    have q1:=PySem.F.sub_list_set
    have q2:=PySem.F.sub_list_frozenset
    have q3:(Value.type "list" == Value.type "dict")=false:={}
    have hl1:h0.IsList l items:=⟨_,hol',rfl,nl,rfl⟩
    unfold Builtin.«set.__init__»;unfold noKeywords;unfold Builtin.Frozenset.updateFrom
    generalize hPI:pyIter=PI
    wp_walk
    subst hPI
    refine wpAny_pyIter_list hl1 (ZC (wpAny_runValue ?_))
    have hh3:A.in1.in1.in1.handled=none:=by simp[hh]
    have hneI:l≠h0.objs.size:=by rw[n0];exact WH (Nat.lt_succ_of_lt hlS)
    have hSf:s.heap.objs.size ∉ [h0.objs.size,l]:=by
     rw[n0];intro z
     rcases List.mem_cons.mp z with z | z
     ·exact absurd z (WH (Nat.lt_succ_self _))
     ·exact absurd (List.mem_singleton.mp z) (Nat.ne_of_gt hlS)
    refine q571 ((Walks.list hh3 _ l hneI items).toS) hSf (ns:=ns) (by rw[<- IntsAre.length hi,ZY]) (fun i v hv=>IntsAre.int_at hi i v (by rw[WE];exact hv)) hb (items.size-0) 0 _ ∅ (WB _)
     ⟨⟨_,ZU _ rfl,rfl,rfl⟩,(hl1.push _)⟩ ⟨_,#[],0,_,ZF _ g0,⟨rfl,rfl,rfl⟩,rfl,fun e he=>by simp at he,by unfold scanBound;simp,rfl,GT.fresh _,List.Perm.refl _,List.nodup_nil⟩ ?_
    intro s' hm hS'
    obtain⟨h',g',d',tk',os'⟩:=s'
    have eg:g'=s.gens:=hm.gens
    have ed:d'=s.drawn:=hm.drawn
    have eo:os'=s.os:=hm.os
    subst eg;subst ed;subst eo
    refine ZM (ZM ⟨rfl,h',tk',rfl,hS',fun b o z=>?_⟩)
    have hb:=ZW z
    refine hm.heap b o (fun q=>?_) (ZF _ (k0 b o z))
    rcases List.mem_cons.mp q with q | q
    ·exact absurd q (WH hb)
    ·rw[List.mem_singleton,n0]at q
     exact absurd q (WH (Nat.lt_succ_of_lt hb))
   ·cases r₂ with
    | error e=>exact hr₂
    | ok fl₂=>
     cases fl₂ with
     | ret r=>
      obtain⟨rfl,h',tk,rfl,hS',hk'⟩:=hr₂
      repeat (any_goals (first | assumption | wp_step))
      exact h _ _ hS' hk'
     | _=>exact hr₂.elim
  | _=>exact hr.elim
theorem q518{S:Addr}{ks:List Int}{Q:List Value->Shared->Prop}(hh:A.handled=none)(hS:SetI prog w s.heap S ks)
  (h:∀(h':Heap)(tk:Nat)(d:Drawn)(vs:List Value),(∀ b o,s.heap.get? b=some o->h'.get? b=some o)->s.heap.objs.size<=h'.objs.size->(vs.map kOf).Perm ks->AllI vs->Q vs { s with heap:=h',toks:=tk,drawn:=d }):wpAny (model prog w) A (collect (.ref S)) Q E s:=by
 obtain⟨o,es,ep,t,ho,hs⟩:=hS
 have hSlt:S<s.heap.objs.size:=ZW ho
 unfold collect
 refine ZC (wpAny_runValue (codeAny_builtin PySem.F.entry_proto_collect ?_))
 rw[Around.under_plainId PySem.F.plain_proto_collect _]
 show wpAny _ A.in1 (newList [] >>= fun l=>again (.builtin "list.__iadd__" ⟨[l,.ref S],[]⟩)) _ _ s
 refine ZC (YF (ZM ⟨plainId_quiet PySem.F.plain_list_iadd _,codeAny_builtin PySem.F.entry_list_iadd ?_⟩))
 rw[Around.under_plainId PySem.F.plain_list_iadd _]
 generalize e0:s.heap.push { cls:=.type "list", data:=.seq ([]:List Value).toArray }=h0
 have g0:h0.get? s.heap.objs.size=some { cls:=.type "list", data:=.seq ([]:List Value).toArray }:=by rw[<- e0];exact ZU _ rfl
 have k0:∀ b o,s.heap.get? b=some o->h0.get? b=some o:=fun b o z=>by rw[<- e0];exact ZF _ z
 have n0:h0.objs.size=s.heap.objs.size+1:=by rw[<- e0];exact Heap.size_push ..
 have ho0:=k0 _ _ ho
 have h1:Builtin.List.listSameRef (.ref s.heap.objs.size) (.ref S)=false:=by simp[Builtin.List.listSameRef,Nat.ne_of_gt hSlt]
 have hT:Shared.TypeIs { s with heap:=h0 } (.ref S) "set" := ⟨o,ho0,hs.ex.1⟩
 show wpAny _ A.in1 (Builtin.List.listExtendWith (.ref s.heap.objs.size) (.ref S) (.ref s.heap.objs.size)) _ _ _
 unfold Builtin.List.listExtendWith
 refine ZC (wpAny_typeOf hT ?_)
 rw[ZI (by rw[h1];decide)]
 refine ZC (iter_set (A:=A.in1) (show A.in1.handled=none from hh) ho0 hs fun I fp vs St h1 d k1 f1 f2 W st pm=>?_)
 have hT1:Shared.TypeIs { s with heap:=h1,drawn:=d } (.ref S) "set" := ⟨o,k1 _ _ ho0,hs.ex.1⟩
 refine ZC (wpAny_holding ?_)
 unfold Builtin.List.listLengthHint
 refine ZC (wpAny_specialOf hT1 PySem.F.slot_set_len.lookup ?_)
 generalize hid:("set.__len__" : String)=id0
 wp_delta
 rw[show splitId id0=some ("set", "__len__")from by subst hid;decide +kernel]
 subst hid
 refine ZC (wpAny_isInstance (T := "set") (b:=true) hT1 (by rw[isSubtype_type];kernel_rfl) ?_)
 refine wpAny_ite_split (fun z=>absurd z {}) (fun _=>?_)
 refine wpAny_ite_split (fun _=>?_) (fun z=>absurd (by decide +kernel) z)
 refine ZC (wpAny_typeOf hT1 (ZM ?_))
 have hSf:s.heap.objs.size ∉ fp:=fun z=>by
  rcases f1 _ z with q | q
  ·exact absurd q (Nat.ne_of_gt hSlt)
  ·rw[n0]at q
   exact absurd q (Nat.not_succ_le_self _)
 have hn:vs.length<=sizeLine:=by rw[pm.length_eq,List.length_map,ZY];exact fits_of_scanBound hs.few
 have hend:∀(h2:Heap)(c2:Nat),(∀ b o,b≠s.heap.objs.size->h1.get? b=some o->h2.get? b=some o)->h2.get? s.heap.objs.size=some { cls:=.type "list", data:=.seq #[] c2 }->codeAny (model prog w) A (.builtin "list.extend.loop" ⟨[.ref s.heap.objs.size,.ref I,.ref s.heap.objs.size],[]⟩) (fun r s'=>match r with
   | .ok (.ret (.ref a))=>a=s.heap.objs.size /\ ∃ acc c,s'.heap.get? s.heap.objs.size=some { cls:=.type "list", dict:=none,data:=.seq acc c,slots:=#[] }/\Q acc.toList s'
   | _=>False) { s with heap:=h2,drawn:=d }:=by
  intro h2 c2 k2 g2
  refine codeAny_extend_loopS W.toS hn _ hSf _ vs.length 0 _ #[] _ rfl (WB _) (W.frame 0 _ _ st fun b q o z=>k2 b o (fun y=>hSf (y▸q)) z) g2 (ItemsOf.nil _) fun s' acc c hm hS' hacc=>?_
  exists rfl,acc,c,hS'
  have ea:acc.toList=vs:=by
   apply List.ext_getElem?
   intro j
   rcases Nat.lt_or_ge j acc.size with z | z
   ·have:=hacc.2 j _ (WM z)
    rw[this,WE,WM z]
   ·rw[List.getElem?_eq_none (by simpa using z),List.getElem?_eq_none (by rw[<- hacc.1];exact z)]
  obtain⟨h',g',d',tk',os'⟩:=s'
  have eg:g'=s.gens:=hm.gens
  have ed:d'=d:=hm.drawn
  have eo:os'=s.os:=hm.os
  subst eg;subst ed;subst eo
  rw[ea]
  refine h h' tk' d' vs (fun b u z=>hm.heap b u (fun q=>?_) (k2 b u (WH (ZW z)) (k1 b u (k0 b u z)))) (Nat.le_of_lt (ZW hS')) ((pm.map kOf).trans ?_) fun v hv=>?_
  ·have:=ZW z
   rcases List.mem_cons.mp q with q | q
   ·exact absurd q (WH this)
   ·rw[List.mem_singleton]at q
    rw[n0]at f2
    exact absurd q (WH (WC this (Nat.le_of_succ_le f2)))
  ·rw[List.map_map]
   exact hs.pm
  ·obtain⟨e,he,rfl⟩:=List.mem_map.mp (pm.mem_iff.mp hv)
   obtain⟨u,hu⟩:=el_int hs.el he
   exact⟨_,u,hu⟩
 have g1:=k1 _ _ g0
 rw[ZJ {}]
 refine ZC (wpAny_rule (ZC ?_))
 show wpAny _ _ (updateSeq s.heap.objs.size (·.push .none) >>= fun _=>updateSeq s.heap.objs.size (·.pop)) _ _ _
 refine ZC (wpAny_updateSeq g1 rfl ?_)
 have g2:=Heap.get?_update_self (Obj.mapSeq (·.push Value.none)) g1 rfl
 refine wpAny_updateSeq (hz:=by seq_fits) g2 rfl ?_
 have g3:=Heap.get?_update_self (Obj.mapSeq (·.pop)) g2 rfl
 refine ZM ⟨plainId_quiet PySem.F.plain_extend_loop _,codeAny_mono (hend _ _ (fun b o hb z=>(YV _ _ (Ne.symm hb)).trans ((YV _ _ (Ne.symm hb)).trans z)) g3) fun r s' hr=>?_⟩
 match r,hr with
 | .ok (.ret (.ref a)),hr=>
  obtain⟨rfl,acc,c,e1,e2⟩:=hr
  exact ZC (wpAny_load e1 (ZM e2))
end
end TS
namespace TS
set_option autoImplicit false
open PySem PySem.W PyProof.Rows List
section
variable {prog:Program} {w:World} {A:Around} {E:VS} {s:Shared}
theorem q519{κ:SortKind}{P:Value->Prop}{lt:Value->Value->Bool}{a:Addr}{vs:List Value}{n:Nat}{Q:PySem.Fin->Shared->Prop}(ho:s.heap.get? a=some (seqObj "list" vs.toArray n)) (hz:vs.length<=sizeLine)
  (hk:∀ h6:Heap,(∀ b o,b≠a->s.heap.get? b=some o->h6.get? b=some o)->2<=vs.length -> ∀ Q':SortKind->Shared->Prop,Q' κ { s with heap:=h6 }->wpAny (model prog w) A (keyKind' vs.toArray) Q' E { s with heap:=h6 })
  (hg:∀ h6:Heap,(∀ b o,b≠a->s.heap.get? b=some o->h6.get? b=some o)->Good prog w A E κ (fun x=>P x.1) (fun x y=>lt x.1 y.1) { s with heap:=h6 })
  (ht:Tot (fun x=>P x.1) (fun x y=>lt x.1 y.1)) (hP:∀ v∈vs,P v)
  (h:∀ out:Array Value,out.toList.Perm vs->(out.toList.Pairwise fun x y=>lt y x=false)->Q (.done (.ret .none)) { s with heap:=sortedHeap s.heap a vs out }):wpAny (model prog w) A (Builtin.«list.sort» ⟨[.ref a],[]⟩) Q E s:=by
 have hvz:vs.toArray.size=vs.length:=ZX ..
 obtain⟨e1,ho1⟩:∃ e1,(s.heap.update a (Obj.mapSeq fun _=>(#[]:Array Value))).get? a=some (seqObj "list" #[] e1):=⟨_,get?_update_seq ho fun _=>#[]⟩
 rw[list_sort_plain]
 refine ZC (listItems_at ho rfl (ZC (listUpdate_at ho rfl ?_ (by rw[hvz];exact hz) (WB _))))
 refine ZC (seqEpoch_at ho1 rfl (ZC (wpAny_newTuple (ZC (wpAny_newList (wpAny_holding ?_) (WB _))) (by show vs.length<=_;exact hz))))
 obtain⟨h6,e6⟩:∃ h6,h6=((s.heap.update a (Obj.mapSeq fun _=>(#[]:Array Value))).push (seqObj "tuple" vs.toArray 0)).push (seqObj "list" #[] 0):=⟨_,rfl⟩
 have ho6:h6.get? a=some (seqObj "list" #[] e1):=by
  rw[e6]
  exact ZF _ (ZF _ ho1)
 have k6:∀ b o,b≠a->s.heap.get? b=some o->h6.get? b=some o:=fun b o hb z=>by
  rw[e6]
  exact ZF _ (ZF _ (((Heap.SameBut.update s.heap a (Obj.mapSeq fun _=>(#[]:Array Value))).2 b hb).trans z))
 show wpAny (model prog w) A _ Q E { s with heap:=((s.heap.update a (Obj.mapSeq fun _=>(#[]:Array Value))).push (seqObj "tuple" vs.toArray 0)).push (seqObj "list" #[] 0) }
 have hfin:∀ out:Array Value,out.toList.Perm vs->(out.toList.Pairwise fun x y=>lt y x=false)->Q (.done (.ret .none)) { s with heap:=h6.update a (Obj.mapSeq fun _=>out) }:=fun out p1 p2=>by
  rw[e6]
  exact h out p1 p2
 rw[<- e6]
 dsimp only
 by_cases h2:vs.toArray.size<2
 ·rw[ZJ h2,ZJ h2]
  refine ZC (ZM ?_)
  rw[StateT.run_pure]
  refine ZC (ZM ?_)
  dsimp only
  have eo:((arrOf (SortSt.mk' general' (vs.toArray.zip vs.toArray) #[] 7 none)).map (·.2))=vs.toArray:=by
   show(vs.toArray.zip vs.toArray).map (·.2)=vs.toArray
   apply Array.toList_inj.mp
   simp[map_snd_zip]
  rw[eo]
  refine ZC (seqEpoch_at ho6 rfl (ZC (listUpdate_at ho6 rfl ?_ (WB _) (by rw[hvz];exact Nat.le_succ_of_le hz))))
  simp only[bne_self_eq_false,Bool.false_eq_true,if_false]
  refine ZM (hfin vs.toArray (List.Perm.refl _) ?_)
  match vs,h2 with
  | [],_=>exact .nil
  | [x],_=>exact pairwise_singleton _ _
  | x::y::l,h2=>exact absurd h2 (by simp)
 ·rw[ZI h2,ZI h2]
  refine ZC (hk h6 k6 (by rw[<- hvz];exact Nat.not_lt.mp h2) _ ?_)
  have zl:(vs.toArray.zip vs.toArray).toList=vs.zip vs:=by simp
  have pz:∀ x∈(vs.toArray.zip vs.toArray).toList,P x.1:=fun x hx=>by
   rw[zl]at hx
   exact hP _ (mem_zip_self hx).2
  have run:=q456 (prog:=prog) (w:=w) (A:=A) (E:=E) (hg h6 k6) ht (Q:=fun _ st' s'=>s' = { s with heap:=h6 }/\failedOf st'=none/\(arrOf st').Perm (vs.toArray.zip vs.toArray)/\Asc (fun x y=>lt x.1 y.1) (arrOf st') 0 (arrOf st').size)
   (st:=SortSt.mk' κ (vs.toArray.zip vs.toArray) #[] 7 none) rfl rfl rfl pz (by show 1<=(vs.toArray.zip vs.toArray).size;simp;lia) (fun st' f1 f2 f3=>⟨rfl,f1,f2,f3⟩)
  refine ZC (WW run ?_ fun _ _ e=>e)
  rintro ⟨⟨⟩,st'⟩ s' ⟨rfl,f1,f2,f3⟩
  dsimp only
  have p0:=Array.perm_iff_toList_perm.mp f2
  rw[zl]at p0
  have osz:((arrOf st').map (·.2)).size=vs.length:=by
   rw[Array.size_map,<- ZY,p0.length_eq]
   simp
  refine ZC (seqEpoch_at ho6 rfl (ZC (listUpdate_at ho6 rfl ?_ (WB _) (ZR (Nat.le_of_eq osz) (Nat.le_succ_of_le hz)))))
  rw[f1]
  simp only[bne_self_eq_false,Bool.false_eq_true,if_false]
  refine ZM (hfin _ ?_ ?_)
  ·rw[Array.toList_map]
   refine(p0.map _).trans (List.Perm.of_eq ?_)
   exact map_snd_zip (ZG _)
  ·rw[Array.toList_map,pairwise_map]
   have sr:Srt (fun x y=>lt x.1 y.1) (arrOf st').toList:=q564 fun p q g1 g2=>by
    have:=f3 p q g1 g2
    rw[Nat.zero_add,Nat.zero_add]at this
    exact this
   refine List.Pairwise.imp_of_mem ?_ sr
   intro x y hx hy hxy
   have ex:=(mem_zip_self (p0.mem_iff.mp hx)).1
   have ey:=(mem_zip_self (p0.mem_iff.mp hy)).1
   rw[<- ex,<- ey]
   exact hxy
noncomputable def ltI(x y:Value):Bool:=decide (kOf x<kOf y)
theorem good_i:Good prog w A E oneType' (fun x=>∃ k t,x.1=Value.int k t) (fun x y=>ltI x.1 y.1) s:=by
 intro x y st Q hx hy hk hq
 rw[lt'_eq]
 refine ZQ (kasC_get (ZQ (kasC_lift (wpAny_attempt ?_))))
 rw[hk]
 obtain⟨x1,x2⟩:=x
 obtain⟨y1,y2⟩:=y
 obtain⟨k,t,rfl⟩:=hx
 obtain⟨k',t',rfl⟩:=hy
 exact kat_lt_int (E:=_) (ZT hq)
theorem tot_i:Tot (fun x:Keyed=>∃ k t,x.1=Value.int k t) (fun x y=>ltI x.1 y.1):=
 ⟨fun x y z _ _ _ h1 h2=>by unfold ltI at *;rw[YR]at *;lia,fun x y _ _ h=>by unfold ltI at *;rw[WA]at h;rw[YR];lia⟩
theorem q572:∀(vs:List Value),AllI vs->IntsAre vs (vs.map kOf)
 | [],_=>.nil
 | v::vs,h=>by
  obtain⟨k,t,rfl⟩:=h v (.head _)
  exact .cons k t (q572 vs fun u hu=>h u (.tail _ hu))
theorem q751{S:Addr}{ks:List Int}{Q:VS}(hh:A.handled=none)(hS:SetI prog w s.heap S ks)
  (h:∀(hF:Heap)(tk:Nat)(d:Drawn)(l:Addr)(e:Nat)(out:List Value),(∀ b o,s.heap.get? b=some o->hF.get? b=some o)->s.heap.objs.size<=l->out.length<=sizeLine->hF.get? l=some (seqObj "list" out.toArray e)->AllI out->(out.map kOf).Perm ks->(out.map kOf).Pairwise (·<·) ->
   Q (.ref l) { s with heap:=hF,toks:=tk,drawn:=d }):wpAny (model prog w) A (call (.builtin "sorted") [.ref S]) Q E s:=by
 have nd:ks.Nodup:=by obtain⟨_,_,_,_,_,hs⟩:=hS;exact hs.nd
 have kz:ks.length<=sizeLine:=by
  obtain⟨_,es,_,_,_,hs⟩:=hS
  rw[<- hs.pm.length_eq,ZN,ZY]
  exact fits_of_scanBound hs.few
 refine Calls.call_function_entry kind_sorted plain_sorted entry_sorted (args_sorted1 _) ?_
 unfold Builtin.«sorted»
 refine ZC (m:=checkCount "sorted" 1 1 _) (ZM (ZC (q518 (A:=A.in1) (show A.in1.handled=none from hh) hS fun h' tk d vs k1 sz pm ai=>?_)))
 have hz:vs.length<=sizeLine:=by rw[<- ZN (f:=kOf),pm.length_eq];exact kz
 refine ZC (wpAny_newList ?_ hz)
 have hoL:(h'.push (seqObj "list" vs.toArray 0)).get? h'.objs.size=some (seqObj "list" vs.toArray 0):=ZU _ rfl
 show wpAny _ _ _ _ _ { s with heap:=h'.push (seqObj "list" vs.toArray 0),toks:=tk,drawn:=d }
 refine ZC (wpAny_holding (wpAny_call_entry slot_list_sort ⟨_,hoL,rfl⟩ entry_list_sort (q519 (κ:=oneType') (P:=fun v=>∃ k t,v=Value.int k t) (lt:=ltI) hoL hz (fun h6 _ h2 Q' hq=>?_) (fun h6 _=>good_i) tot_i ai fun out a1 a2=>⟨_,rfl,ZM ⟨_,rfl,?_⟩⟩) (args_list_sort _)))
 ·rw[ksk_kind (kz:=vs.map kOf) (by simpa using q572 vs ai) (by simpa using h2)]
  exact ZM hq
 obtain⟨e,he⟩:=sortedHeap_at (h:=h'.push (seqObj "list" vs.toArray 0)) (a:=h'.objs.size) (vs:=vs) (out:=out) hoL
 have po:(out.toList.map kOf).Perm ks:=(a1.map _).trans pm
 refine h _ tk d h'.objs.size e out.toList (fun b o hb=>?_) sz (by rw[a1.length_eq];exact hz) (by rw[Array.toArray_toList];exact he) (fun v hv=>ai v (a1.mem_iff.mp hv)) po ?_
 ·have hlt:=ZW (k1 b o hb)
  rw[sortedHeap_old (WH hlt) (by rw[size_push'];exact Nat.lt_succ_of_lt hlt)]
  exact ZF _ (k1 b o hb)
 ·have le:(out.toList.map kOf).Pairwise (· <= ·):=by
   rw[pairwise_map]
   refine a2.imp fun {x y} q=>?_
   unfold ltI at q
   rw[YR]at q
   lia
  have ne:(out.toList.map kOf).Nodup:=po.nodup_iff.mpr nd
  exact(List.pairwise_and_iff.mpr ⟨le,ne⟩).imp fun {x y} q=>∅
end
end TS
namespace L2
open PySem PySem.Spec PyProof.Rows List
variable {X:Cx}
theorem bt_set:bootBuiltins "set" = some (.type "set"):=by decide +kernel
theorem Inv.draw(I:Inv X pins σ H s)(d:Drawn):Inv X pins σ H { s with drawn:=d }:=
 ⟨I.ok,I.os,I.bare,I.base,I.loc,I.cell,I.free,I.freeC,I.pin,I.hok,I.len⟩
inductive q620(K:Fg)(P:Program)(w:World)(xs:List V)(H:Hp)(Q:VK):Prop
 |mk(p:Addr)(ns:List Int)(_:xs=[.ref p])(_:SqL K H p (ns.map V.int))(_:ns.length<=1000)(_:∀ r,H r=none->Q (.ref r) (upd H r (.ext fun h=>TS.SetI P w h r (ns.foldl TS.stD []))))
theorem q698(hc:X.calm=true){K:Fg}{P:Program}{w:World}(hK:X.K=K)(hP:X.prog=P)(hw:X.w=w):CallR X (.type "set") (q620 K P w):=by
 subst hK;subst hP;subst hw
 intro pins s σ H xs us Q I r h
 obtain⟨p,ns,rfl,hq,hn,q⟩:=h
 obtain⟨u,rfl,rx⟩:=vals1 r
 cases rx
 obtain⟨its,r',pl,hz⟩:=I.list hq
 have hi:=q58 r'
 have hl:its.length=ns.length:=IntsAre.length hi
 refine TS.q750 (I.ok.hd hc) pl.isList (by simpa using hi) (by rw[ZX,hl];unfold scanBound;lia) fun h' tk hS hk=>?_
 refine⟨.ref s.heap.objs.size,_,I.laid (t':=tk) (o:=.ext fun h=>TS.SetI X.prog X.w h s.heap.objs.size (ns.foldl TS.stD [])) hk (ZG _) ?_,rfl,q _ (I.hok.fresh (ZG _))⟩
 obtain⟨o,es,ep,t,ho,hs⟩:=id hS
 exact⟨hS,⟨o,ho⟩,fun h1 h2 ⟨o',es',ep',t',ho',hs'⟩ kp=>⟨o',es',ep',t',kp _ ho',hs'⟩⟩
theorem q573:∀(vs:List Value),TS.AllI vs->Vals ((vs.map TS.kOf).map V.int) vs
 | [],_=>.nil
 | v::vs,h=>by
  obtain⟨k,t,rfl⟩:=h v (.head _)
  exact .cons ⟨t,rfl⟩ (q573 vs fun u hu=>h u (.tail _ hu))
inductive q410(P:Program)(w:World)(xs:List V)(H:Hp)(Q:VK):Prop
 |mk(r:Addr)(ks:List Int)(_:xs=[.ref r])(_:H r=some (.ext fun h=>TS.SetI P w h r ks))(_:∀(l:Addr)(ms:List Int),H l=none->ms.Perm ks->ms.Pairwise (·<·)->Q (.ref l) (upd H l (.lst (ms.map V.int))))
theorem q462(hc:X.calm=true)(hP:X.prog=P)(hw:X.w=w):CallR X (.builtin "sorted") (q410 P w):=by
 subst hP;subst hw
 intro pins s σ H xs us Q I r h
 obtain⟨rv,ks,rfl,hr,q⟩:=h
 obtain⟨u,rfl,rx⟩:=vals1 r
 cases rx
 have hS:TS.SetI X.prog X.w s.heap rv ks:=(I.hok rv _ hr).1
 refine TS.q751 (I.ok.hd hc) hS fun hF tk d l e out kp hl hz hL ha hp ho=>?_
 refine⟨.ref l,_,(I.draw d).laid (t':=tk) (a:=l) (o:=.lst ((out.map TS.kOf).map V.int)) kp hl ?_,rfl,q l (out.map TS.kOf) (I.hok.fresh hl) hp ho⟩
 refine⟨?_,out,e,q573 out ha,hL⟩
 rw[ZN,ZN]
 exact hz
section
variable {E:XK} {k:Nat} {x:Str} {ps:List Str} {sp:Sp} {p pos:Pos} {e:Expr} {es:List Expr} {t:TA}
theorem q699(l:Lv X E)(c:CalX X.prog X.w X.K X.mg X.base k x ps sp)(hr:Room k X.A)(hg:Gl X x)(ha:PA X (e::es) t)(hdb:(x==("__debug__" : Str))=false:=by decide)
  (he:starEach (e::es) X.env=(false,eval e X.env)::starEach es X.env:=by rfl) (hpl:(backTo pos (starEach es X.env)).any (·.1)=false:=by rfl) :
  PE X (.Call (.Name x p) (e::es) [] pos) (tCall sp [] E t):=by
 obtain⟨f,fd,F,B,kp,m⟩:=c.ex
 exact q653 F hr hg m kp B .nil (pass1 l) ha hdb he hpl
end
section
variable {st:Stmt} {t:TS}
inductive tJoin(t:TS)(D:Ends)(σ:St)(H:Hp):Prop
 |mk(R:St->Hp->Prop)(_:t { D with nx:=R } σ H)(_:∀ σ' H',R σ' H'->D.nx σ' H')
theorem q243(h:PS X st t):PS X st (tJoin t):=by
 intro pins s σ H D I ⟨R,h1,h2⟩
 refine thn (h pins s σ H { D with nx:=R } I h1) fun f s1 q=>?_
 cases f with
 | next=>
  obtain⟨σ',H',I',q⟩:=q
  exact⟨σ',H',I',h2 _ _ q⟩
 | ret v=>exact q
 | brk=>exact q
 | cont=>exact q
end
inductive q621(K:Fg)(x:V)(xs:List V)(H:Hp)(Q:VK):Prop
 |mk(a ys v)(_:x = .ref a)(_:xs=[v])(_:SqL K H a ys)(_:flatV v=true)(_:ys.all flatV=true)(_:Q (.int (ys.countP fun y=>eqV y v:Nat)) H)
theorem q700:MtR X "list.count" (q621 X.K):=by
 intro pins s σ H x xs v us Q I rx rv h
 obtain⟨a,ys,y,rfl,rfl,ha,f1,f2,q⟩:=h
 cases rx
 obtain⟨u,rfl,ru⟩:=rv.one
 obtain⟨its,r,p,hz⟩:=I.list ha
 obtain⟨⟨cls,dd,data,sl⟩,ho,hc,n,hd⟩:=id p.isList
 simp only at hc hd
 subst hc hd
 refine call_meets F.slot_list_count ⟨_,ho,rfl⟩ F.entry_list_count (F.args_list_count_2 _ _) (SeqAt.list_countAt a its.toArray n dd sl u (eqU y)) ⟨ho,fun z hz=>q398 ru f1 r f2 z (by simpa using hz),?_⟩
 refine⟨.int (ys.countP fun y'=>eqV y' y:Nat),H,I.tok _,?_,q⟩
 rw[<- q236 r f2]
 exact⟨_,rfl⟩
section
variable {K:Fg}
theorem sl_listK(h:X.K=K):SlR X (rSlL K):=by subst h;exact sl_list
theorem q701(ns:List Int):(ns.map V.int).all flatV=true:=by
 rw[all_eq_true]
 intro x hx
 obtain⟨n,_,rfl⟩:=List.mem_map.mp hx
 rfl
theorem q370(n:Int):∀ ns:List Int,(ns.map V.int).countP (fun y=>eqV y (.int n))=ns.count n
 | []=>rfl
 | m::ns=>by
  rw[map_cons,YT,count_cons,q370 n ns]
  rfl
inductive q622(K:Fg)(x:V)(xs:List V)(H:Hp)(Q:VK):Prop
 |mk(a:Addr)(ns:List Int)(n:Int)(_:x = .ref a)(_:xs=[.int n])(_:SqL K H a (ns.map V.int))(_:Q (.int ((ns.count n:Nat):Int)) H)
theorem q702(h:X.K=K):MtR X "list.count" (q622 K):=by
 subst h
 intro pins s σ H x xs v us Q I rx rv h
 obtain⟨a,ns,n,rfl,rfl,ha,q⟩:=h
 refine q700 pins s σ H _ _ v us Q I rx rv ⟨a,_,_,rfl,rfl,ha,rfl,q701 ns,?_⟩
 rw[q370]
 exact q
theorem szB{n:Nat}(h:n<=100000):n<=sizeLine:=ZR h {}
end
theorem q703:∀{ps qs:List (Int×Int)},ps.length=qs.length->(List.range ps.length).all (fun j=>decide (ps.getD j (0,0)=qs.getD j (0,0)))=decide (ps=qs):=by
 intro ps qs hl
 by_cases c:ps=qs
 ·subst c
  rw[ZA rfl,all_eq_true]
  intro j _
  exact ZA rfl
 ·rw[ZK c,all_eq_false]
  have:∃ j,j<ps.length/\ps.getD j (0,0)≠qs.getD j (0,0):=by
   refine Classical.byContradiction fun z=>c ?_
   refine ext_getElem hl fun j h1 h2=>?_
   have y:=Classical.not_not.mp fun y=>z ⟨j,h1,y⟩
   rw[YO,YO,ZP h1,ZP h2]at y
   exact y
  obtain⟨j,hj,hne⟩:=this
  exact⟨j,List.mem_range.mpr hj,by rw[ZK hne];exact fnt⟩
theorem q704(I:Inv X pins σ H s)(ha:SqL X.K H a xs)(hb:SqL X.K H b ys)(hp:q297 H xs ps)(hq:q297 H ys qs)(A:Around)(hu:A.units+8<cLine) :
  SeqAt.RcAt A s (.ref a) (.ref b) (decide (ps=qs))/\SeqAt.RcNeAt A s (.ref a) (.ref b) (!decide (ps=qs)):=by
 obtain⟨its,r1,p1,_⟩:=I.list ha
 obtain⟨its2,r2,p2,_⟩:=I.list hb
 have l1:=r1.length
 have l2:=r2.length
 have lp:=hp.1
 have lq:=hq.1
 by_cases hl:ps.length=qs.length
 ·have hz:its.toArray.size=its2.toArray.size:=by rw[ZX,ZX];lia
  have hn:its.toArray.size=ps.length:=by rw[ZX];lia
  have el:∀(j:Nat)(h1:j<its.toArray.size)(h2:j<its2.toArray.size),SeqAt.EqAt A.in1 s its.toArray[j] its2.toArray[j] ((fun j=>decide (ps.getD j (0,0)=qs.getD j (0,0))) j):=by
   intro j h1 h2
   have h1':j<xs.length:=by rw[ZX]at h1;lia
   have h2':j<ys.length:=by rw[ZX]at h2;lia
   obtain⟨v1,e1,r1'⟩:=r1.get (i:=j) (x:=xs[j]) (ZP h1')
   obtain⟨v2,e2,r2'⟩:=r2.get (i:=j) (x:=ys[j]) (ZP h2')
   have g1:its.toArray[j]=v1:=by
    have:=List.getElem?_eq_some_iff.mp e1
    simpa using this.2
   have g2:its2.toArray[j]=v2:=by
    have:=List.getElem?_eq_some_iff.mp e2
    simpa using this.2
   rw[g1,g2]
   have gp:ps[j]? = some (ps.getD j (0,0)):=by rw[YO,ZP (show j<ps.length by lia)];rfl
   have gq:qs[j]? = some (qs.getD j (0,0)):=by rw[YO,ZP (show j<qs.length by lia)];rfl
   obtain⟨c1,ec1,hc1⟩:=hp.2 j _ _ (ZP h1') gp
   obtain⟨c2,ec2,hc2⟩:=hq.2 j _ _ (ZP h2') gq
   rw[ec1]at r1'
   rw[ec2]at r2'
   cases r1'
   cases r2'
   show SeqAt.EqAt A.in1 s (.ref c1) (.ref c2) (decide (ps.getD j (0,0)=qs.getD j (0,0)))
   generalize ps.getD j (0,0)=p at *
   generalize qs.getD j (0,0)=q at *
   exact q686 I (SqT.of hc2) (SqT.of hc1) (fun z=>by
    rw[z,hc1]at hc2
    cases q
    cases p
    cases hc2
    rfl) (by show A.units+1+4<cLine;lia)
  have t0:(List.range its.toArray.size).all (fun j=>decide (ps.getD j (0,0)=qs.getD j (0,0)))=decide (ps=qs):=by rw[hn];exact q703 hl
  constructor
  ·rw[<- t0]
   exact SeqAt.RcAt.lists p1.isList p2.isList hz ∅ el
  ·rw[<- t0]
   exact SeqAt.RcNeAt.lists p1.isList p2.isList hz ∅ el
 ·have hne:¬ ps=qs:=fun z=>hl (by rw[z])
  have hz:(its.toArray.size != its2.toArray.size)=true:=by
   rw[ZX,ZX]
   exact bne_iff_ne.mpr ∅
  rw[ZK hne]
  exact⟨SeqAt.RcAt.lists_lengths p1.isList p2.isList hz ∅,SeqAt.RcNeAt.lists_lengths p1.isList p2.isList hz ∅⟩
inductive Rop_eqPs(K:Fg)(x:V)(y:V)(H:Hp)(Q:VK):Prop
 |mk(a b:Addr)(xs ys:List V)(ps qs:List (Int×Int))(_:x = .ref a)(_:y = .ref b)(_:SqL K H a xs)(_:SqL K H b ys)(_:q297 H xs ps)(_:q297 H ys qs)(_:Q (.bl (decide (ps=qs))) H)
theorem op_eqPs(hu:X.A.units+64<cLine):OpR X (compareOp .Eq) (Rop_eqPs X.K):=by
 intro pins s σ H x y v u Q I rx ry h
 obtain⟨a,b,xs,ys,ps,qs,rfl,rfl,ha,hb,hp,hq,q⟩:=h
 cases rx
 cases ry
 exact(q704 I ha hb hp hq X.A ∅).1 _ _ _ _ ⟨.bl _,H,I,rfl,q⟩
theorem Room.m{j k:Nat}(r:Room k A)(h:j<=k:=by decide):Room j A:=r.mono h
theorem fsc{N P:List Str}{sc:Scope}(h1:sc.kind = .function:=by rfl)(h2:sc.isCoroutine=false:=by rfl)(h3:sc.isGenerator=false:=by rfl)(h4:N.Nodup:=by decide +kernel)(h5:N.take P.length=P:=by rfl)(h6:∀ x∈P,sc.names.lookup x=some .local\/sc.names.lookup x=some .cell:=by decide +kernel)(h7:∀ y∈sc.names,y.2 ≠ .free:=by decide +kernel):FnScope N P sc:=⟨h1,h2,h3,h4,h5,h6,h7⟩
theorem Fun.k{P:Program}{w:World}{K:Fg}{mg:Mg}{base:Heap}{x qual:Str}{st:Stmt}{f:Addr}{fd:FuncData}{N ps:List Str}{k:Nat}{sp:Sp}(F:Fun K x qual st f fd)(S:FnScope N ps (q17 st))
  (hbody:∀(cdv:Value)(A:Around)(outer:List Env)(s:Shared)(H:Hp)(vs:List V)(Q:VK)(E:XK),Room k (A.deeper (envOfC qual (q17 st) s.heap.objs.size f cdv))->sp vs H Q E ->
   ∃ t,PSs (cxOf CX0 P w K mg base N qual (q17 st) f cdv A outer s H E).nox (q63 st) t/\t { nx:=fun _ H'=>Q .non H',rt:=Q } (start N vs) H)
  (len:∀ vs H Q E,sp vs H Q E->vs.length=ps.length:=by intro vs H Q E h;first | (cases h;subst_vars;rfl) | ((repeat (first | obtain⟨rfl,_⟩:=h | obtain⟨_,h⟩:=h));rfl)):FnOk P w K mg base CX0 (k+1) f fd ps sp:=F.ok S len hbody
section
variable {pos:Pos}
theorem pst(i:Nat){pos':Pos}(hN:X.N.Nodup)(he:PE X e te)(hi:X.N[i]? = some x:=by rfl)(hx:Loc X.env.scope x:=by first | exact Or.inl rfl | exact Or.inr rfl)(hs:swapsWith e (some (.Name x pos')) pos.line X.env=pure false:=by rfl)(hf:X.fn x=true\/X.env.scope.names.lookup x=some .local:=by first | exact .inl rfl | exact .inr rfl | assumption) :
  PS X (.Assign [.Name x pos'] e pos) (tAsg te (gName i)):=ps_set hN hi hx he hs hf
theorem pix(hr:IxR X r)(ha:PE X a ta)(hb:PE X b tb)(hs:q658 b:=by exact fun _ _=>rfl):PE X (.Subscript a b pos) (tOp r ta tb):=pe_ix hr ha hb hs
theorem pgn(i:Nat)(hN:X.N.Nodup)(hi:X.N[i]? = some x:=by rfl)(hx:Loc X.env.scope x:=by first | exact Or.inl rfl | exact Or.inr rfl)(hf:X.fn x=true\/X.env.scope.names.lookup x=some .local:=by first | exact .inl rfl | exact .inr rfl | assumption):PG X (.Name x pos) (gName i):=q96 hN hi hx hf
theorem pln{p:Pos}(hm:X.mg "len" = none) (ha:PA X (e::es) t) (hg:Gl X "len" := by rfl) (he:starEach (e::es) X.env=(false,eval e X.env)::starEach es X.env:=by rfl) (hpl:(backTo pos (starEach es X.env)).any (·.1)=false:=by rfl) :
  PE X (.Call (.Name "len" p) (e::es) [] pos) (tCB (q125 X.K) t):=q35 q257 hg hm bt_len ha {} {} he hpl
end
theorem cok{x:Str}{N:List Str}(h1:∀ p∈relN scope sc0,(p.2 = .cell\/p.2 = .free)->p.1∈cn:=by decide +kernel)(h2:∀ p∈scope.names,p.2 ≠ .cell:=by decide +kernel)(h3:∀ p∈scope.names,p.2 = .local->scope.names.lookup p.1=some .local:=by decide +kernel)(h4:scope.names.lookup x=some .local:=by decide +kernel)(h5:(relN scope sc0).lookup x=some .local:=by decide +kernel)(h6:(x::N).Nodup:=by decide +kernel)(h7:∀ y∈N,(relN scope sc0).lookup y=some .cell/\sc0.names.lookup y=some .cell/\y∈cn:=by decide +kernel):CompOk scope sc0 x N cn:=⟨h1,h2,h3,h4,h5,h6,h7⟩
theorem mt1{p:List Value->Prop}(h:∀ a,p [a]):∀ us,us.length=1->p us
 | [_],_=>h _
theorem mt2{p:List Value->Prop}(h:∀ a b,p [a,b]):∀ us,us.length=2->p us
 | [_,_],_=>h _ _
theorem mt3{p:List Value->Prop}(h:∀ a b c,p [a,b,c]):∀ us,us.length=3->p us
 | [_,_,_],_=>h _ _ _
theorem mt4{p:List Value->Prop}(h:∀ a b c d,p [a,b,c,d]):∀ us,us.length=4->p us
 | [_,_,_,_],_=>h _ _ _ _
theorem mt5{p:List Value->Prop}(h:∀ a b c d e,p [a,b,c,d,e]):∀ us,us.length=5->p us
 | [_,_,_,_,_],_=>h _ _ _ _ _
def Tps(H0 H:Hp):Prop:=∀ b o,H0 b=some o->H b=some o /\ ∃ xs,o = .tup xs
theorem Tps.no(t:Tps H0 H)(h:H b=none):H0 b=none:=by
 cases e:H0 b with
 | none=>rfl
 | some o=>rw[(t b o e).1]at h;cases h
theorem Tps.nil(H:Hp):Tps (fun _=>none) H:=fun _ _ z=>nomatch z
noncomputable def Lam(K:Fg)(k:Nat)(H:Hp)(f:Addr)(C:List Int->Prop)(φ:List Int->Bool):Prop:=
 ∃(os:List (Addr×Obj)) (H0:Hp),Tps H0 H/\(∀ p∈os,H p.1=some (.frz p.2 (.own p.1)))/\(∃ oc od fd sl,(f,(⟨oc,od,.func fd,sl⟩:Obj))∈os) /\
  ∀(P:Program)(w:World)(mg:Mg)(base:Heap)(A:Around)(outer:List Env)(s:Shared)(us:List Value)(ns:List Int),
   Room k A->Env0 P w K mg base A outer s H0->(∀ p∈os,s.heap.get? p.1=some p.2)->Vals (ns.map V.int) us->C ns ->
    codeAny (model P w) A (.call (.ref f) ⟨us,[]⟩) (CR CX0 outer P w H0 s (fun v _=>v = .bl (φ ns)) E0) s
theorem Lam.same{K:Fg}{k:Nat}{H H':Hp}{f:Addr}{C:List Int->Prop}{φ:List Int->Bool}(L:Lam K k H f C φ)(s:Same H H'):Lam K k H' f C φ:=
 let ⟨os,H0,t,a,b⟩:=L;⟨os,H0,fun b o e=>⟨s _ _ (t b o e).1,(t b o e).2⟩,fun p hp=>s _ _ (a p hp),b⟩
theorem un_none(t:Tps H0 H)(u:Un fs [] H0 H' h h'):Un fs [] H H h h':=
 ⟨fun b o e n hb hx=>u.keep b o e (t.no n) hb hx,fun b o e n hb hx=>u.slot b o e (t.no n) hb hx,fun _ _ _ n _=>n,fun b o e hx=>u.there b o e hx,fun _ _ q=>q,fun _ _ _ q=>q,fun _ ps q=>⟨#[],by rw[q];simp⟩⟩
theorem hok_none(t:Tps H0 H)(ok:HOk P w H h)(ok':HOk P w H' h')(u:Un fs [] H0 H' h h')(frf:∀ b∈fs,H b=none):HOk P w H h':=fun a o e=>by
 cases e0:H0 a with
 | some o'=>
  obtain⟨e1,xs,rfl⟩:=t a o' e0
  rw[e]at e1
  cases e1
  exact ok' a _ (u.tups a xs e0)
 | none=>
  refine(ok a o e).stay (fun b v hb q=>u.keep b v q ?_ (fun z=>?_) (by simp)) (fun _ q=>q) fun _ _ q=>q
  ·rcases hb with rfl | hb
   ·exact e0
   ·cases z:H0 b with
    | none=>rfl
    | some o'=>
     obtain⟨e1,xs,rfl⟩:=t b o' z
     rw[hb]at e1;cases e1
  ·have n:=frf b z
   rcases hb with rfl | hb
   ·rw[n]at e;cases e
   ·rw[n]at hb;cases hb
theorem Env0.sub{P:Program}{w:World}{K:Fg}{mg:Mg}{base:Heap}{A:Around}{outer:List Env}{s:Shared}{H H0:Hp}(e:Env0 P w K mg base A outer s H)(t:Tps H0 H):Env0 P w K mg base A outer s H0:=
 ⟨e.frames,e.mod,fun b o z=>⟨(e.bs b o z).1,t.no (e.bs b o z).2⟩,e.bsz,e.funs,fun b hb=>t.no (e.frf b hb),fun a o z=>by
  obtain⟨e1,xs,rfl⟩:=t a o z
  exact e.hok a _ e1,e.bare⟩
inductive tCallV(K:Fg)(k i:Nat)(t:TA)(σ:St)(H:Hp)(Q:VK):Prop
 |mk(f C φ)(_:σ[i]? = some (some (.ref f)))(_:Lam K k H f C φ)(_:t σ H fun vs H1=>∃ ns:List Int,vs=ns.map V.int/\Lam K k H1 f C φ/\C ns/\Q (.bl (φ ns)) H1)
theorem pe_callV(i:Nat){k:Nat}{p pos:Pos}(hr:Room k X.A)(ha:PA X (e::es) t)(hN:X.N[i]? = some x:=by rfl)
  (hv:Vis X.env.scope x:=by first | exact Or.inl rfl | exact Or.inr (Or.inl rfl) | exact Or.inr (Or.inr rfl)) (hd:(x==("__debug__" : Str))=false:=by decide) (hcd:(x==("__classdict__" : Str))=false:=by decide)
  (he:starEach (e::es) X.env=(false,eval e X.env)::starEach es X.env:=by rfl) (hpl:(backTo pos (starEach es X.env)).any (·.1)=false:=by rfl) :
  PE X (.Call (.Name x p) (e::es) [] pos) (tCallV X.K k i t):=by
 intro pins s σ H Q I h
 obtain⟨f,C,φ,hσ,⟨os0,_,_,hos0,⟨oc,od,fd,sl,hm0⟩,_⟩,h⟩:=h
 refine wpAny_Call_Name_kw (thn (pe_var hN hv hd hcd pins s σ H (fun v H'=>v = .ref f/\H'=H) I ⟨_,hσ,rfl,rfl⟩) fun u s1 ⟨v,H',I',r,e1,e2⟩=>?_)
 subst e1 e2
 cases r
 refine PySem.W.callWith_F ⟨_,_,_,_,(I'.hok _ _ (hos0 _ hm0)).1⟩ (thn (ha pos pins s1 σ H' _ I' h) fun us s2 ⟨vs,H1,I1,r,q⟩=>?_) he hpl
 obtain⟨ns,rfl,⟨os,H0,tp,hos,⟨oc,od,fd,sl,hm⟩,run⟩,hC,q⟩:=q
 exists⟨_,_,_,_,(I1.hok _ _ (hos _ hm)).1⟩
 have e0:=I1.env0
 refine wpAny_call (codeAny_mono (run X.prog X.w X.mg X.base X.A X.stack s2 us ns hr (e0.sub tp) (fun p hp=>(I1.hok _ _ (hos p hp)).1) r hC) fun rr s' hq=>?_)
 cases rr with
 | error e=>exact False.elim hq
 | ok fl=>
  cases fl with
  | ret u=>
   obtain⟨v,H',os',bare,un,hok,rv,qv⟩:=hq
   subst qv
   exact I1.after ⟨_,H1,os',bare,un_none tp un,hok_none tp I1.hok hok un e0.frf,rv,q⟩
  | next=>exact False.elim hq
  | brk=>exact False.elim hq
  | cont=>exact False.elim hq
noncomputable def lamCx(P:Program)(w:World)(K:Fg)(mg:Mg)(base:Heap)(N:List Str)(qual:Str)(scope:Scope)(f:Addr)(cd:Value)(cl:List (Str×Addr))(A:Around)(outer:List Env)(s:Shared)(H0:Hp):Cx where
 prog:=P
 w:=w
 K:=K
 mg:=mg
 base:=base
 A:=A.deeper (PySem.W.envX qual scope s.heap.objs.size f cd cl)
 N:=N
 s₀:=s
 H₀:=H0
 env:=PySem.W.envX qual scope s.heap.objs.size f cd cl
 outer:=outer
 stack:=PySem.W.envX qual scope s.heap.objs.size f cd cl::outer
 ex:=[]
 calm:=true
 fn:=fun _=>false
 pn:=[]
 xe:=fun e s'=>wpAny (model P w) (A.deeper (PySem.W.envX qual scope s.heap.objs.size f cd cl)) (leaving (PySem.W.envX qual scope s.heap.objs.size f cd cl) e) (fun _ _=>False) (fun _ _=>False) s'
def q111(H:Hp):List (Str×Addr)->List V->Prop
 | [],[]=>True
 | (_,c)::cl,v::vs=>(∃ o u,H c=some (.frz o (.own c))/\o.data = .cell (some u)/\RelV v u)/\q111 H cl vs
 | _,_=>False
def q88(h:Heap):List (Str×Addr)->List V->Prop
 | [],[]=>True
 | (_,c)::cl,v::vs=>(∃ u,h.IsCell c (some u)/\RelV v u)/\q88 h cl vs
 | _,_=>False
theorem q88.get{h:Heap}:∀{cl:List (Str×Addr)} {vs:List V},q88 h cl vs -> ∀{i:Nat}{v:V},vs[i]? = some v -> ∃ y c u,cl[i]? = some (y,c)/\h.IsCell c (some u)/\RelV v u
 | [],[],_,i,v,e=>by simp at e
 | (y,c)::cl,v::vs,⟨⟨u,h1,h2⟩,_⟩,0,w,e=>by simp at e;subst e;exact⟨y,c,u,rfl,h1,h2⟩
 | (y,c)::cl,v::vs,⟨_,t⟩,i+1,w,e=>q88.get t (i:=i) (by simpa using e)
theorem q88.len{h:Heap}:∀{cl:List (Str×Addr)} {vs:List V},q88 h cl vs->cl.length=vs.length
 | [],[],_=>rfl
 | _::_,_::_,⟨_,t⟩=>congrArg (· + 1) (q88.len t)
theorem q88.of{h:Heap}:∀{cl:List (Str×Addr)} {vs:List V},q88 h cl vs -> ∀{y:Str}{c:Addr},(y,c)∈cl -> ∃ v,h.IsCell c v
 | (y,c)::cl,v::vs,⟨⟨u,h1,h2⟩,_⟩,_,_,.head _=>⟨_,h1⟩
 | _::_,_::_,⟨_,t⟩,_,_,.tail _ m=>q88.of t m
theorem q88.keeps{h h':Heap}(k:∀ b o,h.get? b=some o->h'.get? b=some o):∀{cl:List (Str×Addr)} {vs:List V},q88 h cl vs->q88 h' cl vs
 | [],[],_=>trivial
 | _::_,_::_,⟨⟨u,h1,h2⟩,t⟩=>⟨⟨u,h1.keeps k,h2⟩,q88.keeps k t⟩
structure LamScope(ps ys:List Str)(sc:Scope):Prop where
 kind:sc.kind = .function
 co:sc.isCoroutine=false
 gen:sc.isGenerator=false
 nocell:∀ x∈sc.names,x.2 ≠ .cell
 nd:(ps++ys).Nodup
 par:∀ x∈ps,sc.names.lookup x=some .local
 fre:∀ x∈ys,sc.names.lookup x=some .free
 has:∀ p∈sc.names,p.2 = .free->p.1∈ys
theorem lsc{ps ys:List Str}{sc:Scope}(h1:sc.kind = .function:=by rfl)(h2:sc.isCoroutine=false:=by rfl)(h3:sc.isGenerator=false:=by rfl)(h4:∀ x∈sc.names,x.2 ≠ .cell:=by decide +kernel)(h5:(ps++ys).Nodup:=by decide +kernel)(h6:∀ x∈ps,sc.names.lookup x=some .local:=by decide +kernel)(h7:∀ x∈ys,sc.names.lookup x=some .free:=by decide +kernel)(h8:∀ p∈sc.names,p.2 = .free->p.1∈ys:=by decide +kernel):LamScope ps ys sc:=⟨h1,h2,h3,h4,h5,h6,h7,h8⟩
theorem q623{ps:List Str}{us:List Value}{i:Nat}{y:Str}{u:Value}(nd:ps.Nodup)(h1:ps[i]? = some y)(h2:us[i]? = some u):(ps.zip us).reverse.lookup y=some u:=by
 have hz:(ps.zip us)[i]? = some (y,u):=by rw[getElem?_zip_eq_some];exact⟨h1,h2⟩
 have hm:(y,u)∈(ps.zip us).reverse:=List.mem_reverse.mpr (WV hz)
 have key:∀(l:List (Str×Value)),(y,u)∈l->(∀ v,(y,v)∈l->v=u)->l.lookup y=some u:=by
  intro l
  induction l with
  | nil=>intro m;cases m
  | cons a l ih=>
   intro m un
   obtain⟨b,v⟩:=a
   by_cases e:y=b
   ·subst e
    rw[lookup_cons_self,un v (WF ..)]
   ·rw[lookup_cons,show(y==b)=false from beq_eq_false_iff_ne.mpr e]
    refine ih ?_ fun v hv=>un v (ZZ _ hv)
    rcases List.mem_cons.mp m with h | h
    ·cases h;exact absurd rfl e
    ·exact h
 refine key _ hm fun v hv=>?_
 obtain⟨j,hj⟩:=mem_iff_getElem?.mp (List.mem_reverse.mp hv)
 rw[getElem?_zip_eq_some]at hj
 have e:i=j:=(getElem?_inj (List.getElem?_eq_some_iff.mp h1).1 nd).mp (h1.trans hj.1.symm)
 subst e
 rw[h2]at hj
 exact(Option.some.inj hj.2).symm
theorem q705{P:Program}{w:World}{K:Fg}{mg:Mg}{base:Heap}{ps ys:List Str}{qual:Str}{scope:Scope}{f:Addr}{cd:Value}{cl:List (Str×Addr)}{A:Around}{outer:List Env}{s:Shared}{h₁:Heap}{tk:Tok}{us:List Value}{vs cv:List V}{H0:Hp}
  (S:LamScope ps ys scope) (hcl:cl.map (·.1)=ys) (hinj:(cl.map (·.2)).Nodup) (hd:A.handled=none) (e0:Env0 P w K mg base A outer s H0) (hcn:∀ y c,(y,c)∈cl->H0 c=none) (hl:vs.length=ps.length) (r:Vals vs us) (hc:q88 h₁ cl cv)
  (hns:h₁.Ns s.heap.objs.size (fun x=>(ps.zip us).reverse.lookup x)) (hk:∀ b o,s.heap.get? b=some o->h₁.get? b=some o) :
  Inv (lamCx P w K mg base (ps++ys) qual scope f cd cl A outer s H0) [] ((vs++cv).map some) H0 { s with heap:=h₁,toks:=tk }:=by
 have noA:∀ b:Addr,b ∉ (lamCx P w K mg base (ps++ys) qual scope f cd cl A outer s H0).ex:=fun b z=>absurd (show b∈([]:List Addr)from z) (by simp)
 have ndY:ys.Nodup:=(List.nodup_append.mp S.nd).2.1
 have ndP:ps.Nodup:=(List.nodup_append.mp S.nd).1
 have lkY:∀{i:Nat}{y:Str}{c:Addr},cl[i]? = some (y,c)->cl.lookup y=some c:=fun {i y c} h=>by
  have key:∀(l:List (Str×Addr)),(l.map (·.1)).Nodup->(y,c)∈l->l.lookup y=some c:=by
   intro l
   induction l with
   | nil=>intro _ m;cases m
   | cons a l ih=>
    intro nd m
    obtain⟨b,d⟩:=a
    rcases List.mem_cons.mp m with h | h
    ·cases h;exact lookup_cons_self
    ·have hne:y≠b:=fun e=>(List.nodup_cons.mp nd).1 (e▸mem_map_of_mem (f:=(·.1)) h)
     rw[lookup_cons,show(y==b)=false from beq_eq_false_iff_ne.mpr hne]
     exact ih (List.nodup_cons.mp nd).2 h
  exact key cl (by rw[hcl];exact ndY) (WV h)
 refine⟨⟨e0.mod,S.kind,rfl,rfl,ZG _,fun y z c h1 h2=>?_,fun y hy=>?_,fun y c z _=>Bool.noConfusion z,fun _=>hd,Around.frames_deeper e0.frames,.inr ⟨rfl,rfl⟩,fun b z=>absurd z (noA b),e0.bs,e0.bsz,fun b _ _=>noA b,fun b z=>absurd z (noA b),e0.funs,e0.frf⟩,
  rfl,e0.bare,Un.kept hk,⟨_,hns,fun i y v h1 h2 h3=>?_⟩,fun y c h=>hc.of (YC h),e0.hok.fresh (ZG _),fun y c h=>hcn y c (YC h),fun p hp=>absurd (show p∈([]:List (Addr×Obj))from hp) (by simp),fun a o z=>(e0.hok a o z).stay (fun b u _ q=>hk b u q) (fun _ q=>q) (fun _ _ q=>q),?_⟩
 ·obtain⟨i,hi⟩:=mem_iff_getElem?.mp (YC h1)
  obtain⟨j,hj⟩:=mem_iff_getElem?.mp (YC h2)
  replace hi:cl[i]? = some (y,c):=hi
  replace hj:cl[j]? = some (z,c):=hj
  have e1:(cl.map (·.2))[i]? = some c:=by rw[WN,hi];rfl
  have e2:(cl.map (·.2))[j]? = some c:=by rw[WN,hj];rfl
  have e:i=j:=(getElem?_inj (List.getElem?_eq_some_iff.mp e1).1 hinj).mp (e1.trans e2.symm)
  subst e
  rw[hi]at hj
  cases hj
  rfl
 ·have hy':scope.names.lookup y=some .cell\/scope.names.lookup y=some .free:=hy
  rcases hy' with hy | hy
  ·exact absurd rfl (S.nocell _ (YC hy))
  ·have hm:=S.has _ (YC hy) rfl
   rw[<- hcl]at hm
   obtain⟨⟨y',c⟩,hm2,rfl⟩:=List.mem_map.mp hm
   obtain⟨i,hi⟩:=mem_iff_getElem?.mp hm2
   exact⟨c,lkY hi⟩
 ·have h1':(ps++ys)[i]? = some y:=h1
  rw[WN]at h2
  obtain⟨v',hv',e⟩:=Option.map_eq_some_iff.mp h2
  cases e
  by_cases hi:i<ps.length
  ·rw[YS hi]at h1'
   rw[YS ∅]at hv'
   obtain⟨u,hu,rv⟩:=r.get hv'
   exact⟨u,rv,.inl ⟨S.par y (WV h1'),q623 ndP h1' hu⟩⟩
  ·rw[YN ∅]at h1' hv'
   rw[hl]at hv'
   obtain⟨y',c,u,hy,hcell,rv⟩:=hc.get hv'
   have e:ys[i-ps.length]? = some y':=by rw[<- hcl,WN,hy];rfl
   rw[h1']at e
   cases e
   exact⟨u,rv,.inr ⟨.inr (S.fre y (WV h1')),c,lkY hy,hcell⟩⟩
 ·show _=(ps++ys).length
  have:=hc.len
  have:=congrArg List.length hcl
  rw[ZN]at this
  rw[ZN,ZV,ZV]
  lia
theorem q111.os:∀{cl:List (Str×Addr)} {vs:List V},q111 H cl vs -> ∃ os:List (Addr×Obj),(∀ p∈os,H p.1=some (.frz p.2 (.own p.1))) /\ ∀ h:Heap,(∀ p∈os,h.get? p.1=some p.2)->q88 h cl vs
 | [],[],_=>⟨[],(fun _ z=>nomatch z),fun _ _=>trivial⟩
 | (_,c)::_,_::_,⟨⟨o,u,h1,h2,h3⟩,t⟩=>by
  obtain⟨os,a,b⟩:=q111.os t
  refine⟨(c,o)::os,fun p hp=>?_,fun h hh=>⟨⟨u,⟨o,hh _ (WF ..),h2⟩,h3⟩,b h fun p hp=>hh p (ZZ _ hp)⟩⟩
  rcases List.mem_cons.mp hp with rfl | hp
  ·exact h1
  ·exact a p hp
theorem Tps.cells(t:Tps H0 H):∀{cl:List (Str×Addr)} {vs:List V},q111 H cl vs -> ∀ y c,(y,c)∈cl->H0 c=none
 | (_,c)::cl,v::vs,⟨⟨o,u,h1,_⟩,r⟩,y,c',hm=>by
  rcases List.mem_cons.mp hm with h | h
  ·cases h
   cases e:H0 c with
   | none=>rfl
   | some o'=>
    obtain⟨e1,xs,rfl⟩:=t c o' e
    rw[h1]at e1;cases e1
  ·exact Tps.cells t r y c' h
theorem q706{K:Fg}{k:Nat}{H:Hp}{f c:Addr}{oc:Obj}{name qual:Str}{params:Arguments}{body:Expr}{scope:Scope}{cl:List (Str×Addr)}{pm ctv:Value}{ps ys:List Str}{cv:List V}{C:List Int->Prop}{φ:List Int->Bool}{vs:Array Value}{tq:Tok}
  (H0:Hp) (tp:Tps H0 H) (S:LamScope ps ys scope) (hcl:cl.map (·.1)=ys) (hinj:(cl.map (·.2)).Nodup) (hf:H f=some (.frz (PySem.W.kla_obj name qual params body scope cl pm c ctv) (.own f)))
  (hc:H c=some (.frz oc (.own c))) (hd:oc.data = .fields vs) (hv:vs[1]? = some (.str qual tq)) (hcells:q111 H cl cv)
  (hb:∀ us:List Value,us.length=ps.length->bindArgs (PySem.W.kla_fn name qual params body scope cl pm (.ref c) ctv) ⟨us,[]⟩=pure (ps.zip us)) (hlen:∀ ns,C ns->ns.length=ps.length)
  (hbody:∀(P:Program)(w:World)(mg:Mg)(base:Heap)(A:Around)(outer:List Env)(s:Shared),∃ t,PE (lamCx P w K mg base (ps++ys) qual scope f (.ref c) cl A outer s H0) body t /\ ∀ ns,C ns->t ((ns.map V.int++cv).map some) H0 (fun v _=>v = .bl (φ ns))) :
  Lam K (k+1) H f C φ:=by
 obtain⟨os,a,b⟩:=hcells.os
 have hcn:=tp.cells hcells
 refine⟨(f,PySem.W.kla_obj name qual params body scope cl pm c ctv)::(c,oc)::os,H0,tp,fun p hp=>?_,⟨_,_,_,_,WF ..⟩,fun P w mg base A outer s us ns hr e0 hos r hC=>?_⟩
 ·rcases List.mem_cons.mp hp with rfl | hp
  ·exact hf
  ·rcases List.mem_cons.mp hp with rfl | hp
   ·exact hc
   ·exact a p hp
 have gf:=hos _ (WF ..)
 have gc:=hos _ (ZZ _ (WF ..))
 have hl:(ns.map V.int).length=ps.length:=by rw[ZN];exact hlen ns hC
 have lim:s.heap.NoLimit:=e0.mod.nolimit.keeps fun b o e=>(e0.bs b o e).1
 refine PySem.W.kla_callFunE hr.depth gf rfl S.co S.gen rfl ⟨c,oc,vs,tq,rfl,gc,hd,hv⟩ ?_
 show wpAny _ _ (bindArgs (PySem.W.kla_fn name qual params body scope cl pm (.ref c) ctv) ⟨us,[]⟩) _ _ s
 rw[hb us (by rw[<- r.length];exact hl)]
 refine ZM (wpAny_newFunctionEnv S.nocell (fun y hy=>S.par y.1 (of_mem_zip hy).1) (fun h₁ hns hsb=>?_) S.kind)
 have hk:∀ b o,s.heap.get? b=some o->h₁.get? b=some o:=fun b o e=>hsb.extBut b o (WH (ZW e)) (ZF _ e)
 exists lim.keeps hk
 obtain⟨t,ht,hq⟩:=hbody P w mg base A outer s
 show codeAny _ _ (.expr body (PySem.W.envX qual scope s.heap.objs.size f (.ref c) cl)) _ _
 refine PySem.W.kla_codeExpr (WW (ht [] _ _ _ _ (q705 S hcl hinj hr.hd e0 hcn hl r ((b s.heap fun p hp=>hos p (ZZ _ (ZZ _ hp))).keeps hk) hns hk) (hq ns hC)) (fun u s' h=>?_) fun e s' h=>h)
 obtain⟨v,H',I',r',q'⟩:=h
 exact⟨v,H',I'.os,I'.bare,I'.base,I'.hok,r',q'⟩
theorem q707{K:Fg}{k:Nat}{H:Hp}{f c:Addr}{oc:Obj}{name qual:Str}{params:Arguments}{body:List Stmt}{scope:Scope}{cl:List (Str×Addr)}{doc pm ctv:Value}{ps ys:List Str}{cv:List V}{C:List Int->Prop}{φ:List Int->Bool}{vs:Array Value}{tq:Tok}
  (H0:Hp) (tp:Tps H0 H) (S:LamScope ps ys scope) (hcl:cl.map (·.1)=ys) (hinj:(cl.map (·.2)).Nodup) (hf:H f=some (.frz (PySem.W.fnMade name qual params body scope cl doc pm c ctv) (.own f)))
  (hc:H c=some (.frz oc (.own c))) (hd:oc.data = .fields vs) (hv:vs[1]? = some (.str qual tq)) (hcells:q111 H cl cv)
  (hb:∀ us:List Value,us.length=ps.length->bindArgs (PySem.W.fnX name qual params body scope cl .none .none doc pm none (.ref c) ctv) ⟨us,[]⟩=pure (ps.zip us)) (hlen:∀ ns,C ns->ns.length=ps.length)
  (hbody:∀(P:Program)(w:World)(mg:Mg)(base:Heap)(A:Around)(outer:List Env)(s:Shared),∃ t,PSs (lamCx P w K mg base (ps++ys) qual scope f (.ref c) cl A outer s H0) body t /\ ∀ ns,C ns->t { nx:=fun _ _=>False,rt:=fun v _=>v = .bl (φ ns) } ((ns.map V.int++cv).map some) H0) :
  Lam K (k+1) H f C φ:=by
 obtain⟨os,a,b⟩:=hcells.os
 have hcn:=tp.cells hcells
 refine⟨(f,PySem.W.fnMade name qual params body scope cl doc pm c ctv)::(c,oc)::os,H0,tp,fun p hp=>?_,⟨_,_,_,_,WF ..⟩,fun P w mg base A outer s us ns hr e0 hos r hC=>?_⟩
 ·rcases List.mem_cons.mp hp with rfl | hp
  ·exact hf
  ·rcases List.mem_cons.mp hp with rfl | hp
   ·exact hc
   ·exact a p hp
 have gf:=hos _ (WF ..)
 have gc:=hos _ (ZZ _ (WF ..))
 have hl:(ns.map V.int).length=ps.length:=by rw[ZN];exact hlen ns hC
 have lim:s.heap.NoLimit:=e0.mod.nolimit.keeps fun b o e=>(e0.bs b o e).1
 refine codeAny_call_function hr.depth gf rfl S.co S.gen rfl ⟨c,oc,vs,tq,rfl,gc,hd,hv⟩ ?_
 show wpAny _ _ (bindArgs (PySem.W.fnX name qual params body scope cl .none .none doc pm none (.ref c) ctv) ⟨us,[]⟩) _ _ s
 rw[hb us (by rw[<- r.length];exact hl)]
 refine ZM (wpAny_newFunctionEnv S.nocell (fun y hy=>S.par y.1 (of_mem_zip hy).1) (fun h₁ hns hsb=>?_) S.kind)
 have hk:∀ b o,s.heap.get? b=some o->h₁.get? b=some o:=fun b o e=>hsb.extBut b o (WH (ZW e)) (ZF _ e)
 exists lim.keeps hk
 obtain⟨t,ht,hq⟩:=hbody P w mg base A outer s
 show codeAny _ _ (.func body (PySem.W.envX qual scope s.heap.objs.size f (.ref c) cl)) _ _
 refine codeAny_func (WW (ht [] _ _ _ _ (q705 S hcl hinj hr.hd e0 hcn hl r ((b s.heap fun p hp=>hos p (ZZ _ (ZZ _ hp))).keeps hk) hns hk) (hq ns hC)) (fun fl s' h=>?_) fun e s' h=>h)
 cases fl with
 | ret u=>
  obtain⟨v,σ',H',I',r',q'⟩:=h
  exact⟨v,H',I'.os,I'.bare,I'.base,I'.hok,r',q'⟩
 | next=>obtain⟨_,_,_,q⟩:=h;exact False.elim q
 | brk=>obtain⟨_,_,_,q⟩:=h;exact False.elim q
 | cont=>obtain⟨_,_,_,q⟩:=h;exact False.elim q
def Tab(H:Hp)(T:Addr)(pos:Pos)(qual:Str):Prop:=
 ∃ ps,H T=some (.tbl ps)/\TriplesOk ps.toList/\(codeAmong pos ps.toList=none \/ ∃ c oc vs tq,codeAmong pos ps.toList=some (.ref c)/\H c=some (.frz oc (.own c))/\oc.data = .fields vs/\vs[1]? = some (.str qual tq))
theorem Tab.same(x:Tab H T pos qual)(s:Same H H'):Tab H' T pos qual:=by
 obtain⟨ps,h1,h2,h3⟩:=x
 exists ps,s _ _ h1,h2
 rcases h3 with h | ⟨c,oc,vs,tq,a,b,d⟩
 ·exact .inl h
 ·exact .inr ⟨c,oc,vs,tq,a,s _ _ b,d⟩
theorem q143{a b:Int}:∀{l:List Value},TriplesOk l->TriplesOk (l++[.int a t,.int b u,v])
 | [],_=>trivial
 | .int _ _ :: .int _ _::_::rest,h=>q143 (l:=rest) h
theorem Inv.tabbed{s:Shared}{h':Heap}{tk:Tok}{c f:Addr}{more:Array Value}{oc fo:Obj}(I:Inv X pins σ H s)(hT:H T=some (.tbl ps))
  (hx:∀ b o,b≠T->s.heap.get? b=some o->h'.get? b=some o) (gT:h'.get? T=some { cls:=.none,data:=.fields (ps++more) }) (gc:h'.get? c=some oc) (gf:h'.get? f=some fo) (hc:s.heap.objs.size<=c) (hcf:c<f) :
  Inv X pins σ (upd (upd (upd H T (.tbl (ps++more))) c (.frz oc (.own c))) f (.frz fo (.own f))) { s with heap:=h',toks:=tk }:=by
 have nc:H c=none:=I.hok.fresh hc
 have nf:H f=none:=I.hok.fresh (ZR hc (Nat.le_of_lt hcf))
 have old:∀{b:Addr}{o:HO},H b=some o->b≠T->upd (upd (upd H T (.tbl (ps++more))) c (.frz oc (.own c))) f (.frz fo (.own f)) b=some o:=fun {b o} e n=>by
  rw[q27 (q24 e nf),q27 (q24 e nc),q27 n];exact e
 have atT:upd (upd (upd H T (.tbl (ps++more))) c (.frz oc (.own c))) f (.frz fo (.own f)) T=some (.tbl (ps++more)):=by
  rw[q27 (q24 hT nf),q27 (q24 hT nc),q13]
 have nT:∀{b:Addr}{o:HO},H b=some o->(∀ qs,o ≠ .tbl qs)->b≠T:=fun e n z=>by subst z;rw[hT]at e;cases e;exact n _ rfl
 have kept:∀ b o,s.heap.get? b=some o->H b=none->h'.get? b=some o:=fun b o e n=>hx b o (fun z=>by subst z;rw[hT]at n;cases n) e
 refine I.call' (ch:=[]) rfl ⟨fun b o e n _ _=>kept b o e n,fun b o e n _ _=>⟨o.slots,kept b o e n⟩,fun b o e n _=>?_,fun b o e _=>?_,fun b xs e=>old e (nT e (by intro _ z;cases z)),fun b o u e=>old e (nT e (by intro _ z;cases z)),fun b qs e=>?_⟩ (fun a o e=>?_) I.bare fun b z=>absurd z (by simp)
 ·have hb:=ZW e
  rw[q27 (WH (Nat.lt_trans (WC hb hc) hcf)),q27 (WH (WC hb hc)),q27 fun z=>by subst z;rw[hT]at n;cases n]
  exact n
 ·by_cases hb:b=T
  ·subst hb;exact⟨_,gT⟩
  ·exact⟨o,hx b o hb e⟩
 ·by_cases hb:b=T
  ·subst hb
   rw[hT]at e
   cases e
   exact⟨more,atT⟩
  ·exact⟨#[],by rw[old e hb];simp⟩
 ·by_cases h1:a=f
  ·subst h1
   rw[q13]at e
   cases e
   exact⟨gf,_,gf⟩
  ·rw[q27 h1]at e
   by_cases h2:a=c
   ·subst h2
    rw[q13]at e
    cases e
    exact⟨gc,_,gc⟩
   ·rw[q27 h2]at e
    by_cases h3:a=T
    ·subst h3
     rw[q13]at e
     cases e
     exact gT
    ·rw[q27 h3]at e
     refine(I.hok a o e).stay (fun b u hb q=>hx b u ?_ q) (fun b q=>old q (nT q (by intro _ z;cases z))) fun b xs q=>old q (nT q (by intro _ z;cases z))
     rcases hb with rfl | hb
     ·exact h3
     ·exact nT hb (by intro _ z;cases z)
def BMain(mg:Mg)(base:Heap):Prop:=∃ bm ob,mg "__builtins__" = some (.ref bm)/\bm≠builtinsNs/\base.get? bm=some ob/\ob.cls = .type "module" /\ ob.dict=some builtinsNs/\ob.data = .plain
def tLam(T:Addr)(pos:Pos)(qual:Str)(params:Arguments)(body:Expr)(scope:Scope)(cl:List (Str×Addr)):TE:=fun _ H Q=>Tab H T pos qual /\ ∀ f c oc vs tq pm ctv H1,H f=none->H1 f=some (.frz (PySem.W.kla_obj "<lambda>" qual params body scope cl pm c ctv) (.own f)) ->
 H1 c=some (.frz oc (.own c))->oc.data = .fields vs->vs[1]? = some (.str qual tq)->Tab H1 T pos qual->(∀ b o,b≠T->H b=some o->H1 b=some o)->Q (.ref f) H1
theorem q708{X:Cx}(hcode:X.env.code = .ref c)(hC:PySem.W.codeHdIn X.K c T=true)(hb:BMain X.mg X.base)(hcl:closureFor scope X.env=pure cl)(hq:X.env.qual ++ "<lambda>" = qual) (hdef:defaultsOf params X.env=([],[])) :
  PE X (.Lambda params body scope pos) (tLam T pos qual params body scope cl):=by
 intro pins s σ H Q I h
 obtain⟨⟨ps,hT,ht,hcase⟩,h⟩:=h
 subst hq
 have gP:s.heap.get? T=some (PySem.W.tabObj ps):=I.hok T _ hT
 have hg:s.heap.Ns mainGlobals X.mg:=I.mod.glob.keeps I.bk
 obtain⟨bm,ob,b1,b2,b3,b4,b5,b6⟩:=hb
 have hbT:bm≠T:=fun z=>by
  have:=(I.bs bm ob b3).2
  rw[z,hT]at this;cases this
 have hgT:mainGlobals≠T:=fun z=>by
  obtain⟨o,es,ep,e,hd,_⟩:=hg
  rw[z,gP]at e;cases e;cases hd
 have hbG:bm≠mainGlobals:=fun z=>by
  obtain⟨o,es,ep,e,hd,_⟩:=hg
  have e3:=I.bk bm ob b3
  rw[z,e]at e3;cases e3;rw[hd]at b6;cases b6
 have CH:=PySem.W.codeHd_of_K I.kIn hC
 have BA:s.heap.BuiltinsAt X.mg T:=⟨bm,ob,b1,b2,hbG,hbT,I.bk _ _ b3,b4,b5,b6⟩
 refine PySem.W.kla_eval hdef ?_
 rcases hcase with hn | ⟨c1,oc,vs,tq,hf,hc1,hd,hv⟩
 ·refine PySem.W.kla_makeFunction hcl I.ok.glob hg hcode CH gP ht hn hgT BA fun c' ctv h' tk hx hge hlt hrec htb=>?_
  obtain⟨c2,oc,vs,tq,e2,hoc,hd,hv⟩:=hrec
  cases e2
  have I':=I.tabbed (tk:=tk) (h':=h'.push (PySem.W.kla_obj "<lambda>" (X.env.qual ++ "<lambda>") params body scope cl ((X.mg "__name__").getD .none) c' ctv)) hT (fun b o hb e=>ZF _ (hx b o hb e)) (ZF _ htb) (ZF _ hoc) (ZU _ rfl) hge hlt
  have nc:H c'=none:=I.hok.fresh hge
  have nf:H h'.objs.size=none:=I.hok.fresh (ZR hge (Nat.le_of_lt hlt))
  have hcf:c'≠h'.objs.size:=WH hlt
  refine⟨.ref _,_,I',rfl,h _ c' oc vs tq _ ctv _ nf q13 (by rw[q27 hcf,q13]) hd hv ⟨_,by rw[q27 (q24 hT nf),q27 (q24 hT nc),q13],?_,.inr ⟨c',oc,vs,tq,?_,by rw[q27 hcf,q13],hd,hv⟩⟩ fun b o hb e=>by rw[q27 (q24 e nf),q27 (q24 e nc),q27 hb];exact e⟩
  ·rw[WK]
   exact q143 ht
  ·rw[WK]
   exact codeAmong_snoc _ ht hn
 ·refine PySem.W.kla_makeFunctionHit hcl I.ok.glob hg hcode CH gP ht hf BA fun ctv h' tk hk hsz=>?_
  have nf:H h'.objs.size=none:=I.hok.fresh hsz
  have I':=I.laid (t':=tk) (h':=h'.push (PySem.W.kla_obj "<lambda>" (X.env.qual ++ "<lambda>") params body scope cl ((X.mg "__name__").getD .none) c1 ctv)) (o:=.frz (PySem.W.kla_obj "<lambda>" (X.env.qual ++ "<lambda>") params body scope cl ((X.mg "__name__").getD .none) c1 ctv) (.own h'.objs.size)) (fun b u e=>ZF _ (hk b u e)) hsz ⟨ZU _ rfl,_,ZU _ rfl⟩
  have s1:=q15 nf (.frz (PySem.W.kla_obj "<lambda>" (X.env.qual ++ "<lambda>") params body scope cl ((X.mg "__name__").getD .none) c1 ctv) (.own h'.objs.size))
  exact⟨.ref _,_,I',rfl,h _ c1 oc vs tq _ ctv _ nf q13 (s1 _ _ hc1) hd hv (Tab.same ⟨ps,hT,ht,.inr ⟨c1,oc,vs,tq,hf,hc1,hd,hv⟩⟩ s1) fun b o _ e=>s1 _ _ e⟩
def tNest(T:Addr)(pos:Pos)(name qual:Str)(params:Arguments)(body:List Stmt)(scope:Scope)(cl:List (Str×Addr))(i:Nat):TS:=fun D σ H=>Tab H T pos qual /\ ∀ f c oc vs tq doc pm ctv H1,H f=none->H1 f=some (.frz (PySem.W.fnMade name qual params body scope cl doc pm c ctv) (.own f)) ->
 H1 c=some (.frz oc (.own c))->oc.data = .fields vs->vs[1]? = some (.str qual tq)->Tab H1 T pos qual->(∀ b o,b≠T->H b=some o->H1 b=some o)->D.nx (σ.set i (some (.ref f))) H1
theorem q709{X:Cx}{params:Arguments}{i:Nat}(hcode:X.env.code = .ref c)(hC:PySem.W.codeHdIn X.K c T=true)(hb:BMain X.mg X.base)(hcl:closureFor scope X.env=pure cl)(hq:qualnameIn X.env name name=qual)
  (hd0:params.defaults=[]) (hk0:params.kw_defaults=[]) (han:annTrees params none X.env=[]) (hN:X.N.Nodup) (hi:X.N[i]? = some name) (hx:Loc X.env.scope name) (hf:X.fn name=true\/X.env.scope.names.lookup name=some .local) :
  PS X (.FunctionDef name params body [] none [] scope none name pos) (tNest T pos name qual params body scope cl i):=by
 intro pins s σ H D I h
 obtain⟨⟨ps,hT,ht,hcase⟩,h⟩:=h
 subst hq
 have gP:s.heap.get? T=some (PySem.W.tabObj ps):=I.hok T _ hT
 have hg:s.heap.Ns mainGlobals X.mg:=I.mod.glob.keeps I.bk
 obtain⟨bm,ob,b1,b2,b3,b4,b5,b6⟩:=hb
 have hbT:bm≠T:=fun z=>by
  have:=(I.bs bm ob b3).2
  rw[z,hT]at this;cases this
 have hgT:mainGlobals≠T:=fun z=>by
  obtain⟨o,es,ep,e,hd,_⟩:=hg
  rw[z,gP]at e;cases e;cases hd
 have hbG:bm≠mainGlobals:=fun z=>by
  obtain⟨o,es,ep,e,hd,_⟩:=hg
  have e3:=I.bk bm ob b3
  rw[z,e]at e3;cases e3;rw[hd]at b6;cases b6
 have CH:=PySem.W.codeHd_of_K I.kIn hC
 have BA:s.heap.BuiltinsAt X.mg T:=⟨bm,ob,b1,b2,hbG,hbT,I.bk _ _ b3,b4,b5,b6⟩
 refine PySem.W.nestDef_K hd0 hk0 han ?_
 rcases hcase with hn | ⟨c1,oc,vs,tq,hf1,hc1,hd,hv⟩
 ·refine PySem.W.makeFunction_K hcl I.ok.glob hg hcode CH gP ht hn hgT BA fun c' ctv doc h' tk hx' hge hlt hrec htb=>?_
  obtain⟨c2,oc,vs,tq,e2,hoc,hd,hv⟩:=hrec
  cases e2
  have I':=I.tabbed (tk:=tk) (h':=h'.push (PySem.W.fnMade name (qualnameIn X.env name name) params body scope cl doc ((X.mg "__name__").getD .none) c' ctv)) hT (fun b o hb e=>ZF _ (hx' b o hb e)) (ZF _ htb) (ZF _ hoc) (ZU _ rfl) hge hlt
  have nc:H c'=none:=I.hok.fresh hge
  have nf:H h'.objs.size=none:=I.hok.fresh (ZR hge (Nat.le_of_lt hlt))
  have hcf:c'≠h'.objs.size:=WH hlt
  refine q199 I' hN hi hx (v:=.ref h'.objs.size) rfl (fun s' I2=>⟨_,_,I2,h _ c' oc vs tq doc _ ctv _ nf q13 (by rw[q27 hcf,q13]) hd hv ⟨_,by rw[q27 (q24 hT nf),q27 (q24 hT nc),q13],?_,.inr ⟨c',oc,vs,tq,?_,by rw[q27 hcf,q13],hd,hv⟩⟩ fun b o hb e=>by rw[q27 (q24 e nf),q27 (q24 e nc),q27 hb];exact e⟩) hf
  ·rw[WK]
   exact q143 ht
  ·rw[WK]
   exact codeAmong_snoc _ ht hn
 ·refine PySem.W.makeFunction_hit hcl I.ok.glob hg hcode CH gP ht hf1 BA fun ctv doc h' tk hk hsz=>?_
  have nf:H h'.objs.size=none:=I.hok.fresh hsz
  have I':=I.laid (t':=tk) (h':=h'.push (PySem.W.fnMade name (qualnameIn X.env name name) params body scope cl doc ((X.mg "__name__").getD .none) c1 ctv)) (o:=.frz (PySem.W.fnMade name (qualnameIn X.env name name) params body scope cl doc ((X.mg "__name__").getD .none) c1 ctv) (.own h'.objs.size)) (fun b u e=>ZF _ (hk b u e)) hsz ⟨ZU _ rfl,_,ZU _ rfl⟩
  have s1:=q15 nf (.frz (PySem.W.fnMade name (qualnameIn X.env name name) params body scope cl doc ((X.mg "__name__").getD .none) c1 ctv) (.own h'.objs.size))
  exact q199 I' hN hi hx (v:=.ref h'.objs.size) rfl (fun s' I2=>⟨_,_,I2,h _ c1 oc vs tq doc _ ctv _ nf q13 (s1 _ _ hc1) hd hv (Tab.same ⟨ps,hT,ht,.inr ⟨c1,oc,vs,tq,hf1,hc1,hd,hv⟩⟩ s1) fun b o _ e=>s1 _ _ e⟩) hf
noncomputable def CapOk(X:Cx):List (Str×Addr)->List Nat->Prop
 | [],[]=>True
 | (y,c)::cl,i::is=>(X.N[i]? = some y/\X.env.scope.names.lookup y=some .cell/\X.fn y=true/\X.env.cells.lookup y=some c)/\CapOk X cl is
 | _,_=>False
theorem CapOk.mem{X:Cx}:∀{cl:List (Str×Addr)} {is:List Nat},CapOk X cl is -> ∀{c:Addr},c∈cl.map (·.2) -> ∃ y,X.fn y=true/\X.env.cells.lookup y=some c
 | (y,c)::_,_::_,⟨⟨_,_,h1,h2⟩,_⟩,_,.head _=>⟨y,h1,h2⟩
 | _::_,_::_,⟨_,t⟩,_,.tail _ m=>CapOk.mem t m
def Back(H1 H' H3:Hp):Prop:=∀ b o,H' b=some o->(H1 b≠none \/ ∀ ob u,o ≠ .frz ob u)->H3 b=some o
noncomputable def froz(h:Heap)(cs:List Addr)(H:Hp):Hp:=fun b=>if b∈cs then(h.get? b).map fun o=>.frz o (.own b)else H b
noncomputable def tCallC(sp:Sp)(cl:List (Str×Addr))(is:List Nat)(E:XK)(t:TA):TE:=fun σ H Q=>t σ H fun vs H1=>∃ cv:List V,(is.map fun i=>σ[i]?)=cv.map (fun v=>some (some v)) /\ ∀ H2,Same H1 H2->q111 H2 cl cv->sp vs H2 (fun v H'=>∀ H3,Back H1 H' H3->Q v H3) E
theorem q463{X:Cx}{k:Nat}{p pos:Pos}(c:Cal X.prog X.w X.K X.mg X.base k x ps sp)(hr:Room k X.A)(hg:Gl X x)(hcap:CapOk X cl is)(ha:PA X (e::es) t)(hdb:(x==("__debug__" : Str))=false:=by decide)
  (he:starEach (e::es) X.env=(false,eval e X.env)::starEach es X.env:=by rfl) (hpl:(backTo pos (starEach es X.env)).any (·.1)=false:=by rfl) :
  PE X (.Call (.Name x p) (e::es) [] pos) (tCallC sp cl is E0 t):=by
 obtain⟨f,fd,F,B,kp,m⟩:=c.ex
 intro pins s σ H Q I h
 refine wpAny_Call_Name_kw (q232 I hg m ?_ hdb)
 refine PySem.W.callWith_K (h₀:=X.base) I.ok.mod.kin kp (thn (ha pos pins s σ H _ I h) fun us s1 ⟨vs,H1,I1,r,q⟩=>⟨I1.kIn,?_⟩) he hpl
 obtain⟨cv,hcv,q⟩:=q
 have isC:∀ b∈cl.map (·.2),∃ y,X.fn y=true/\X.env.cells.lookup y=some b:=fun b hb=>hcap.mem hb
 have ncs:∀{b:Addr}{o:HO},H1 b=some o->b ∉ cl.map (·.2):=fun {b o} e hb=>by
  obtain⟨y,_,hy⟩:=isC b hb
  rw[I1.freeC y b hy]at e;cases e
 have oldF:∀{b:Addr}{o:Obj},X.s₀.heap.get? b=some o->b ∉ cl.map (·.2):=fun {b o} e hb=>by
  obtain⟨y,h1,hy⟩:=isC b hb
  exact absurd (WC (ZW e) (I1.ok.cab y b h1 hy)) (Nat.lt_irrefl _)
 have cellO:∀ b∈cl.map (·.2),∃ o,s1.heap.get? b=some o:=fun b hb=>by
  obtain⟨y,_,hy⟩:=isC b hb
  obtain⟨v,o,ho,_⟩:=I1.cell y b hy
  exact⟨o,ho⟩
 have inC:∀{b:Addr},b∈cl.map (·.2) -> ∀{o:Obj},s1.heap.get? b=some o->froz s1.heap (cl.map (·.2)) H1 b=some (.frz o (.own b)):=fun {b} hb {o} e=>by
  unfold froz;rw[ZJ hb,e];rfl
 have outC:∀{b:Addr},b ∉ cl.map (·.2)->froz s1.heap (cl.map (·.2)) H1 b=H1 b:=fun hb=>by unfold froz;rw[ZI hb]
 have sm:Same H1 (froz s1.heap (cl.map (·.2)) H1):=fun b o e=>by rw[outC (ncs e)];exact e
 have frC:∀ b∈frs X.stack,b ∉ cl.map (·.2):=fun b hb=>by
  rcases List.mem_cons.mp (I1.stkSub b hb)with z | hb
  ·intro hc
   obtain⟨y,_,hy⟩:=isC b hc
   exact I1.cne y b hy z
  ·obtain⟨_,o,ho,_⟩:=I1.ok.funs.mem hb
   exact oldF ho
 have cells:q111 (froz s1.heap (cl.map (·.2)) H1) cl cv:=by
  obtain⟨m,hn,hl⟩:=I1.loc
  have key:∀(cl':List (Str×Addr)) (is':List Nat) (cv':List V),CapOk X cl' is'->(is'.map fun i=>σ[i]?)=cv'.map (fun v=>some (some v))->(∀ b∈cl'.map (·.2),b∈cl.map (·.2))->q111 (froz s1.heap (cl.map (·.2)) H1) cl' cv':=by
   intro cl'
   induction cl' with
   | nil=>
    intro is' cv' h1 h2 _
    cases is' with
    | nil=>cases cv' with
     | nil=>trivial
     | cons v cv'=>cases h2
    | cons i is'=>exact h1.elim
   | cons a cl' ih=>
    intro is' cv' h1 h2 h3
    obtain⟨y,c⟩:=a
    cases is' with
    | nil=>exact h1.elim
    | cons i is'=>
     cases cv' with
     | nil=>cases h2
     | cons v cv'=>
      obtain⟨⟨e1,e2,_,e4⟩,t⟩:=h1
      have h2':=List.cons.inj h2
      obtain⟨u,rv,l⟩:=hl i y v e1 h2'.1 (.inr (.inl e2))
      refine⟨?_,ih is' cv' t h2'.2 fun b hb=>h3 b (ZZ _ hb)⟩
      rcases l with ⟨hk,_⟩ | ⟨_,c',hc',o,ho,hd⟩
      ·have hk':X.env.scope.names.lookup y=some .local:=hk
       rw[e2]at hk';cases hk'
      ·rw[e4]at hc'
       cases hc'
       exact⟨o,u,inC (h3 c (WF ..)) ho,hd,rv⟩
  exact key cl is cv hcap hcv fun _ h=>h
 have e1:=I1.env0
 have e0:Env0 X.prog X.w X.K X.mg X.base X.A X.stack s1 (froz s1.heap (cl.map (·.2)) H1):=by
  refine⟨e1.frames,e1.mod,fun b o z=>⟨(e1.bs b o z).1,?_⟩,e1.bsz,e1.funs,fun b hb=>?_,fun a o z=>?_,e1.bare⟩
  ·rw[outC (oldF (I1.ok.bs b o z).1)];exact(e1.bs b o z).2
  ·rw[outC (frC b hb)];exact e1.frf b hb
  ·by_cases ha:a∈cl.map (·.2)
   ·obtain⟨ob,ho⟩:=cellO a ha
    rw[inC ha ho]at z
    cases z
    exact⟨ho,_,ho⟩
   ·rw[outC ha]at z
    exact(I1.hok a o z).stay (fun _ _ _ q=>q) (fun b q=>sm _ _ q) fun b xs q=>sm _ _ q
 have hl:us.length=ps.length:=by rw[<- r.length];exact F.len _ _ _ _ (q _ sm cells)
 refine wpAny_call (codeAny_mono (F.run X.A X.stack s1 _ ⟨us,[]⟩ us vs _ E0 hr e0 (by have:=B s1 us I1.kIn (by rw[append_nil];exact hl);rw[append_nil]at this;exact this) r (q _ sm cells)) fun rr s' hq=>?_)
 cases rr with
 | error e=>exact False.elim hq
 | ok fl=>
  cases fl with
  | next=>exact False.elim hq
  | brk=>exact False.elim hq
  | cont=>exact False.elim hq
  | ret u=>
   obtain⟨v,H',os',bare,un,hok,rv,qv⟩:=hq
   have fz:∀{b:Addr},b∈cl.map (·.2) -> ∃ o,s1.heap.get? b=some o/\H' b=some (.frz o (.own b))/\s'.heap.get? b=some o:=fun {b} hb=>by
    obtain⟨o,ho⟩:=cellO b hb
    have z:=un.frzs b o _ (inC hb ho)
    exact⟨o,ho,z,(hok b _ z).1⟩
   obtain⟨H3,hH3⟩:∃ H3:Hp,H3=fun b=>if b∈cl.map (·.2)then none else H' b:=⟨_,rfl⟩
   have h3in:∀{b:Addr},b∈cl.map (·.2)->H3 b=none:=fun hb=>by rw[hH3];exact ZJ hb
   have h3out:∀{b:Addr},b ∉ cl.map (·.2)->H3 b=H' b:=fun hb=>by rw[hH3];exact ZI hb
   have bk:Back H1 H' H3:=fun b o e z=>by
    have hb:b ∉ cl.map (·.2):=fun hb=>by
     rcases z with z | z
     ·obtain⟨y,_,hy⟩:=isC b hb
      exact z (I1.freeC y b hy)
     ·obtain⟨ob,_,h2,_⟩:=fz hb
      rw[e]at h2;cases h2
      exact z _ _ rfl
    rw[h3out hb];exact e
   have nz:∀{b:Addr}{o:HO},H' b=some o->(∀ ob u,o ≠ .frz ob u)->H3 b=some o:=fun e n=>bk _ _ e (.inr n)
   refine⟨v,H3,I1.call' (ch:=[]) os' ⟨fun b o e n hb hx=>?_,fun b o e n hb hx=>?_,fun b o e n hx=>?_,fun b o e hx=>un.there b o e hx,fun b xs e=>?_,fun b o u e=>?_,fun b qs e=>?_⟩ (fun a o e=>?_) bare (fun b z=>absurd z (by simp)),rv,qv H3 bk⟩
   ·by_cases hc:b∈cl.map (·.2)
    ·obtain⟨o',h1,_,h2⟩:=fz hc
     rw[e]at h1;cases h1
     exact h2
    ·exact un.keep b o e (by rw[outC hc];exact n) hb hx
   ·exact un.slot b o e (by rw[outC (frC b hb)];exact n) hb hx
   ·by_cases hc:b∈cl.map (·.2)
    ·exact h3in hc
    ·rw[h3out hc];exact un.free b o e (by rw[outC hc];exact n) hx
   ·rw[h3out (ncs e)];exact un.tups b xs (sm _ _ e)
   ·rw[h3out (ncs e)];exact un.frzs b o u (sm _ _ e)
   ·obtain⟨more,z⟩:=un.tbls b qs (sm _ _ e)
    exact⟨more,by rw[h3out (ncs e)];exact z⟩
   ·by_cases hc:a∈cl.map (·.2)
    ·rw[h3in hc]at e;cases e
    ·rw[h3out hc]at e
     exact(hok a o e).stay (fun _ _ _ q=>q) (fun b q=>nz q (by intro _ _ z;cases z)) fun b xs q=>nz q (by intro _ _ z;cases z)
structure DefL(K:Fg)(mg:Mg)(x:Str)(st:Stmt)(ps:List Str)(c T:Addr):Prop where
 ex:∃(f:Addr) (oc:Value) (od an:Option Addr) (kV doc pm ct:Value) (osl:Array (Option Value)),K.lookup f=some ⟨oc,od,.func (PySem.W.fnOf x x (q126 st) (q63 st) (q17 st) .none kV doc pm an (.ref c) ct),osl⟩/\PySem.W.codeIn K (.ref c) x=true/\PySem.W.keepIn K (.ref f)=true /\
  (∀ us:List Value,us.length=ps.length->bindArgs (PySem.W.fnOf x x (q126 st) (q63 st) (q17 st) .none kV doc pm an (.ref c) ct) ⟨us,[]⟩=pure (ps.zip us))/\mg x=some (.ref f)
 hd:PySem.W.codeHdIn K c T=true
theorem q754{K:Fg}{h:Heap}{mg:Mg}{x:Str}{st:Stmt}{ps:List Str}{f c T:Addr}{oc:Value}{od an:Option Addr}{osl:Array (Option Value)}{kV doc pm ct:Value}
  (KX:K.In h) (G:h.Ns mainGlobals mg) (a:PySem.W.nsIn K mainGlobals x=some (some (.ref f)))
  (l:K.lookup f=some ⟨oc,od,.func (PySem.W.fnOf x x (q126 st) (q63 st) (q17 st) .none kV doc pm an (.ref c) ct),osl⟩)
  (cc:PySem.W.codeIn K (.ref c) x=true) (k:PySem.W.keepIn K (.ref f)=true) (hd:PySem.W.codeHdIn K c T=true)
  (b:∀(kV doc pm:Value)(an:Option Addr)(cdv ct:Value)(us:List Value),us.length=ps.length->bindArgs (PySem.W.fnOf x x (q126 st) (q63 st) (q17 st) .none kV doc pm an cdv ct) ⟨us,[]⟩=pure (ps.zip us)) :
  DefL K mg x st ps c T:=⟨⟨f,oc,od,an,kV,doc,pm,ct,osl,l,cc,k,b kV doc pm an (.ref c) ct,PySem.W.mg_of KX G a⟩,hd⟩
theorem DefL.cal{P:Program}{w:World}{K:Fg}{mg:Mg}{base:Heap}{k:Nat}{x:Str}{st:Stmt}{N ps:List Str}{c T:Addr}{sp:Sp}(d:DefL K mg x st ps c T)(S:FnScope N ps (q17 st))(len:∀ vs H Q E,sp vs H Q E->vs.length=ps.length)
  (hbody:∀(f:Addr)(A:Around)(outer:List Env)(s:Shared)(H:Hp)(vs:List V)(Q:VK)(E:XK),Room k (A.deeper (envOfC x (q17 st) s.heap.objs.size f (.ref c)))->sp vs H Q E ->
   ∃ t,PSs (cxOf CX0 P w K mg base N x (q17 st) f (.ref c) A outer s H E).nox (q63 st) t/\t { nx:=fun _ H'=>Q .non H',rt:=Q } (start N vs) H):Cal P w K mg base (k+1) x ps sp:=by
 obtain⟨f,oc,od,an,kV,doc,pm,ct,osl,lk,hcd,kp,hb,hm⟩:=d.ex
 refine⟨f,_,fn_of lk hcd S len fun A outer s H vs Q E hr hsp=>?_,.all hb,kp,hm⟩
 obtain⟨t,h,q⟩:=hbody f A outer s H vs Q E hr hsp
 exact⟨t,h.nox,q⟩
def q464(K:Fg)(ts:List Addr):Sp:=fun vs H Q _=>∃(a:Addr)(ns:List Int),vs=[.ref a]/\SqL K H a (ns.map V.int)/\ns.length<=63/\(∀ T∈ts,H T=some (.tbl #[]))/\(∀ b ys,H b≠some (.lst ys)) /\ ∀ H',Q (.bl true) H'
theorem q710{P:Program}{w:World}{K:Fg}{k:Nat}{fa:Addr}{fd:FuncData}{s₁:Shared}{vs:List Value}{ns:List Int}{ts:List (Addr×Addr)}
  (KX:K.In s₁.heap) (hns:s₁.heap.Ns mainGlobals mg) (hb:s₁.heap.Ns builtinsNs mb) (hbb:∀ x:Str,x ≠ "__name__" -> mb x=bootBuiltins x) (hlim:s₁.heap.NoLimit) (hbm:BMain mg s₁.heap) (hg:s₁.gens = #[])
  (ha:s₁.heap.get? a=some { cls:=.type "list", data:=.seq vs.toArray }) (hi:IntsAre vs ns) (hl:ns.length<=63) (hr:Room k callerA)
  (hts:∀ q∈ts,PySem.W.codeHdIn K q.1 q.2=true/\K.lookup q.2=none) (hT:∀ T∈ts.map (·.2),s₁.heap.get? T=some (PySem.W.tabObj #[]))
  (F:∀ base:Heap,K.In base->base.Ns mainGlobals mg->BMain mg base->FnOk P w K mg base CX0 k fa fd [x] (q464 K (ts.map (·.2)))) (hbind:∀(s:Shared)(u:Value),BindsTo s fd ⟨[u],[]⟩ [(x,u)]) :
  codeAny (model P w) callerA (.call (.ref fa) ⟨[.ref a],[]⟩) (fun r s'=>r = .ok (.ret (.bool true))/\OldK s₁.heap s'.heap/\s'.os=s₁.os/\AllBare s'.gens) s₁:=by
 have rv:=q293 hi
 have lenV:=hi.length
 have hl':ns.length<=sizeLine:=ZR hl {}
 have naT:a ∉ ts.map (·.2):=fun z=>by
  have:=hT a z
  rw[ha]at this;cases this
 have core:∀ H:Hp,SqL K H a (ns.map V.int)->HOk P w H s₁.heap->(∀ T∈ts.map (·.2),H T=some (.tbl #[]))->(∀ b u,H b=some u->b∈ts.map (·.2)\/(b=a/\K.lookup a=none /\ ∃ o v,u = .frz o v)) ->
   codeAny (model P w) callerA (.call (.ref fa) ⟨[.ref a],[]⟩) (fun r s'=>r = .ok (.ret (.bool true))/\OldK s₁.heap s'.heap/\s'.os=s₁.os/\AllBare s'.gens) s₁:=by
  intro H hS hok hHT hA
  have base_of:∀{b:Addr}{o:Obj},s₁.heap.get? b=some o->H b=none->(hidT s₁.heap H).get? b=some o:=fun e n=>hidT_get e n
  have free:∀{b:Addr}{o:Obj},s₁.heap.get? b=some o->(∀ ys n,o.data ≠ .seq ys n)->(∀ ys,o.data ≠ .fields ys)->H b=none:=fun {b o} e d1 d2=>by
   cases q:H b with
   | none=>rfl
   | some u=>
    rcases hA b u q with z | ⟨z,_⟩
    ·have:=hT b z
     rw[e]at this;cases this
     exact absurd rfl (d2 _)
    ·subst z
     rw[ha]at e;cases e
     exact absurd rfl (d1 _ _)
  have nsK:∀{b:Addr}{m:Mg},s₁.heap.Ns b m->(hidT s₁.heap H).Ns b m:=fun {b m} ⟨o,es,ep,e,d,r⟩=>⟨o,es,ep,base_of e (free e (by rw[d];intro _ _ z;cases z) (by rw[d];intro _ z;cases z)),d,r⟩
  have hKb:K.In (hidT s₁.heap H):=fun b o e=>base_of (KX b o e) (by
   cases q:H b with
   | none=>rfl
   | some u=>
    rcases hA b u q with z | ⟨z,h2,_⟩
    ·obtain⟨⟨c,T⟩,hq,rfl⟩:=List.mem_map.mp z
     rw[(hts _ hq).2]at e;cases e
    ·subst z
     rw[h2]at e;cases e)
  have hM:Mod K mg (hidT s₁.heap H):=⟨hKb,nsK hns,⟨mb,nsK hb,hbb⟩,let ⟨mc,h1,h2⟩:=hlim;⟨mc,nsK h1,h2⟩⟩
  have hBM:BMain mg (hidT s₁.heap H):=by
   obtain⟨bm,ob,b1,b2,b3,b4,b5,b6⟩:=hbm
   exact⟨bm,ob,b1,b2,base_of b3 (free b3 (by rw[b6];intro _ _ z;cases z) (by rw[b6];intro _ z;cases z)),b4,b5,b6⟩
  have e0:Env0 P w K mg (hidT s₁.heap H) callerA [] s₁ H:=⟨rfl,hM,fun b o e=>of_hidT e,Nat.le_of_eq (q641 _ _),trivial,fun b hb=>absurd (show b∈([]:List Addr)from hb) (by simp),hok,.of_eq hg⟩
  refine codeAny_mono ((F _ hKb (nsK hns) hBM).run callerA [] s₁ H ⟨[.ref a],[]⟩ [.ref a] [.ref a] (fun v _=>v = .bl true) (fun _ _ _=>False) hr e0 (hbind s₁ (.ref a)) (.cons rfl .nil) ⟨a,ns,rfl,hS,hl,hHT,fun b ys e=>(hA b _ e).elim (fun z=>by rw[hHT b z]at e;cases e) (fun⟨_,_,_,_,z⟩=>nomatch z),fun _=>rfl⟩) fun r s' h=>?_
  cases r with
  | error e=>exact False.elim h
  | ok fl=>
   cases fl with
   | next=>exact False.elim h
   | brk=>exact False.elim h
   | cont=>exact False.elim h
   | ret u=>
    obtain⟨v,H',os,bare,un,hok',r',q⟩:=h
    have q':v = .bl true:=q
    subst q'
    obtain rfl:u=Value.bool true:=r'
    have tab:∀ b∈ts.map (·.2),∃ ps,s'.heap.get? b=some (PySem.W.tabObj ps):=fun b hb=>by
     obtain⟨more,z⟩:=un.tbls b _ (hHT b hb)
     exact⟨_,hok' b _ z⟩
    have keep:∀ b o,b ∉ ts.map (·.2)->s₁.heap.get? b=some o->s'.heap.get? b=some o:=fun b o hb e=>by
     cases q:H b with
     | none=>exact un.keep b o e q (by intro z;exact absurd (show b∈([]:List Addr)from z) (by simp)) (by simp)
     | some u=>
      rcases hA b u q with z | ⟨_,_,ob,v,rfl⟩
      ·exact absurd z hb
      ·obtain⟨e1,_⟩:=hok b _ q
       obtain⟨e2,_⟩:=hok' b _ (un.frzs b ob _ q)
       rw[e]at e1;cases e1
       exact e2
    refine⟨rfl,⟨fun b o e=>?_,fun b o e=>?_⟩,os,bare⟩
    ·by_cases hb:b∈ts.map (·.2)
     ·obtain⟨ps,hP⟩:=tab b hb
      have e2:=hT b hb
      rw[e]at e2
      cases e2
      obtain⟨⟨c,T⟩,hq,rfl⟩:=List.mem_map.mp hb
      exact .inr (.inl ⟨((PySem.W.codeHd_of_K KX (hts _ hq).1).tab (hT _ hb)).isCodeTable,rfl,#[],ps,rfl,by rw[Array.empty_append];exact hP⟩)
     ·exact .inl (keep b o hb e)
    ·by_cases hb:b∈ts.map (·.2)
     ·obtain⟨ps,hP⟩:=tab b hb
      exact⟨_,hP⟩
     ·exact⟨o,keep b o hb e⟩
 have tabOk:∀{H:Hp}{T:Addr},T∈ts.map (·.2)->ObjOk P w H s₁.heap T (.tbl #[]):=fun h=>hT _ h
 cases hk:K.lookup a with
 | some o=>
  have e:=KX a o hk
  rw[ha]at e
  cases e
  refine core (fun b=>if b∈ts.map (·.2)then some (.tbl #[])else none) (.inr ⟨_,vs.toArray,_,hk,rfl,rfl,rfl,by rw[ZX,lenV];exact hl',by simpa using rv⟩) (fun b u z=>?_) (fun T h=>ZJ h) fun b u z=>?_
  ·by_cases hb:b∈ts.map (·.2)
   ·have z':=(ZJ hb).symm.trans z
    cases z'
    exact tabOk hb
   ·have z':=(ZI hb).symm.trans z
    cases z'
  ·by_cases hb:b∈ts.map (·.2)
   ·exact .inl hb
   ·have z':=(ZI hb).symm.trans z
    cases z'
 | none=>
  refine core (fun b=>if b=a then some (.frz { cls:=.type "list", data:=.seq vs.toArray } (.lst (ns.map V.int)))else if b∈ts.map (·.2)then some (.tbl #[])else none) (.inl (.inr ⟨{ cls:=.type "list", data:=.seq vs.toArray },ZJ rfl⟩)) (fun b u z=>?_) (fun T h=>?_) fun b u z=>?_
  ·by_cases hb:b=a
   ·have z':=(ZJ hb).symm.trans z
    cases z'
    subst hb
    exact⟨ha,by rw[ZN];exact hl',vs,_,rv,ha⟩
   ·have z':=(ZI hb).symm.trans z
    by_cases ht:b∈ts.map (·.2)
    ·have z2:=(ZJ ht).symm.trans z'
     cases z2
     exact tabOk ht
    ·have z2:=(ZI ht).symm.trans z'
     cases z2
  ·have hne:¬ T=a:=fun z=>naT (z▸h)
   show(if T=a then _ else if T∈ts.map (·.2)then some (HO.tbl #[])else none)=_
   rw[ZI hne]
   exact ZJ h
  ·by_cases hb:b=a
   ·have z':=(ZJ hb).symm.trans z
    cases z'
    exact .inr ⟨hb,hk,_,_,rfl⟩
   ·have z':=(ZI hb).symm.trans z
    by_cases ht:b∈ts.map (·.2)
    ·exact .inl ht
    ·have z2:=(ZI ht).symm.trans z'
     cases z2
theorem walkT{l:PySem.W.OpenLaw}{k:Nat}{q:Program}{loose:List Str}{XP:(Mg)->Heap->Prop}{YP:World->Heap->Prop}{d:DefRec}{K:Params->Fg}(ts:List (Addr×Addr))(hr:Room k callerA)(hn:l.most=some 63)(hdf:d.params.defaults=[])
  (hY:∀(w:World)(h:Heap),YP w h->(K w.params).In h) (hYT:∀(w:World)(h:Heap),YP w h -> ∀ T∈ts.map (·.2),h.get? T=some (PySem.W.tabObj #[]))
  (F:∀(w:World)(mg:Mg)(fa:Addr)(h:Heap),(K w.params).In h->h.Ns mainGlobals mg->mg d.name=some (.ref fa)->(∀ q∈ts,PySem.W.codeHdIn (K w.params) q.1 q.2=true/\(K w.params).lookup q.2=none) /\
   ∃ fd:FuncData,(∀(s:Shared)(u:Value),BindsTo s fd ⟨[u],[]⟩ [("_law_script", u)]) /\ ∀ base:Heap,(K w.params).In base->base.Ns mainGlobals mg->BMain mg base->FnOk l.prog w (K w.params) mg base CX0 k fa fd ["_law_script"] (q464 (K w.params) (ts.map (·.2)))) :
  PySem.W.WalkO q loose XP YP l.row.toRowW d [] (fun f vs=>PySem.call f vs):=by
 refine Att.q749 hn hdf fun w s₀ s₁ mg mb fa o pm cd doc a vs ns G Y ho hd hcd hmg hobj hints hlen hg=>?_
 have KX:=hY w _ Y
 obtain⟨hts,fd,hb,hF⟩:=F w mg fa _ KX G.T.g hmg
 obtain⟨bm,ob,b1,b2,b3,b4,b5,b6⟩:=G.T.bmain
 exact q710 KX G.T.g G.T.b G.T.builtins G.T.nolimit ⟨bm,ob,b1,b2,b3,b4,b5,b6⟩ hg hobj hints hlen hr hts (hYT w _ Y) hF hb
theorem law_mkT{P:Program}{w:World}{K:Fg}{mg:Mg}{k:Nat}{st:Stmt}{fa:Addr}{ts:List Addr}(d:Def K mg "law" st ["_law_script"])
  (F:∀(base:Heap)(f:Addr)(fd:FuncData),BMain mg base->Fun K "law" "law" st f fd->FnOk P w K mg base CX0 k f fd ["_law_script"] (q464 K ts)) (hmg:mg "law" = some (.ref fa)) :
  ∃ fd:FuncData,(∀(s:Shared)(u:Value),BindsTo s fd ⟨[u],[]⟩ [("_law_script", u)]) /\ ∀ base:Heap,K.In base->base.Ns mainGlobals mg->BMain mg base->FnOk P w K mg base CX0 k fa fd ["_law_script"] (q464 K ts):=by
 obtain⟨f,fd,h1,h2,h3⟩:=d.ex
 have e:=hmg.symm.trans h3
 cases e
 exact⟨fd,fun s u=>.of_eq (h2 [u] rfl),fun base _ _ bm=>F base _ _ bm h1⟩
theorem DefL.calx{P:Program}{w:World}{K:Fg}{mg:Mg}{base:Heap}{k:Nat}{x:Str}{st:Stmt}{N ps:List Str}{c T:Addr}{sp:Sp}(d:DefL K mg x st ps c T)(S:FnScope N ps (q17 st))(len:∀ vs H Q E,sp vs H Q E->vs.length=ps.length)
  (hbody:∀(f:Addr)(A:Around)(outer:List Env)(s:Shared)(H:Hp)(vs:List V)(Q:VK)(E:XK),Room k (A.deeper (envOfC x (q17 st) s.heap.objs.size f (.ref c)))->sp vs H Q E ->
   ∃ t,PSs (cxOf (CX1 P w) P w K mg base N x (q17 st) f (.ref c) A outer s H E) (q63 st) t/\t { nx:=fun _ H'=>Q .non H',rt:=Q } (start N vs) H):CalX P w K mg base (k+1) x ps sp:=by
 obtain⟨f,oc,od,an,kV,doc,pm,ct,osl,lk,hcd,kp,hb,hm⟩:=d.ex
 exact⟨f,_,fn_of lk hcd S len fun A outer s H vs Q E hr hsp=>hbody f A outer s H vs Q E hr hsp,.all hb,kp,hm⟩
end L2
namespace My
local macro_rules|`(tactic|ac_rfl)=>`(tactic|with_unfolding_all rfl)
local macro_rules(kind:=Lean.Parser.Term.tuple)|`(())=>`(by rfl)
open PySem L2 List
abbrev pn0:List Str:=["_law_bounds_here", "_law_gathering_here", "_law_ask_here"]
abbrev pn1:List Str:=["bounds", "gathering", "number"]
abbrev pn2:List Str:=["_law_pen", "_law_bounds_here", "_law_greatest"]
abbrev pn3:List Str:=["_law_bounds_here", "_law_gathering_here", "_law_paper", "_law_ask_here"]
abbrev pn4:List Str:=["_law_pen", "_law_bounds_here", "_law_gathering_here", "_law_worths"]
abbrev pn5:List Str:=["_law_low", "_law_levels", "_law_worths", "_law_paper"]
abbrev pn6:List Str:=["bounds", "gathering", "paper", "number", "many"]
abbrev pn7:List Str:=["bounds", "gathering", "paper", "number", "told"]
abbrev pn8:List Str:=["bounds", "gathering", "paper", "worth", "many"]
abbrev pn9:List Str:=["bounds", "gathering", "paper", "part", "told"]
abbrev pn10:List Str:=["_law_pen", "_law_bounds_here", "_law_worths"]
abbrev pn11:List Str:=["bounds", "gathering"]
abbrev pn12:List Str:=["bounds", "gathering", "paper", "k", "worth"]
abbrev pn13:List Str:=["_law_low", "_law_levels", "_law_row_here"]
abbrev pn14:List Str:=["least", "many", "parts", "part", "floor"]
abbrev pn15:List Str:=["bounds", "gathering", "k"]
abbrev pn16:List Str:=["bounds", "number"]
abbrev pn17:List Str:=["gathering", "way"]
abbrev pn18:List Str:=["least", "many", "parts", "must_split"]
abbrev pn19:List Str:=["bounds", "gathering", "must_split"]
noncomputable def top(i:Nat):Stmt:=PySem.Challenge.pw_manyleast_k39_told_papers_split_no_more.main.body.getD i (.Pass ⟨0,0,0,0⟩)
noncomputable abbrev q371:Stmt:=top 9
noncomputable abbrev q204:Stmt:=top 10
noncomputable abbrev q574:Stmt:=top 11
noncomputable abbrev q711:Stmt:=top 12
noncomputable abbrev q465:Stmt:=top 13
noncomputable abbrev q575:Stmt:=top 14
noncomputable abbrev q712:Stmt:=top 16
noncomputable abbrev q372:Stmt:=top 17
noncomputable abbrev q466:Stmt:=top 19
noncomputable abbrev q467:Stmt:=top 20
noncomputable abbrev q468:Stmt:=top 21
noncomputable abbrev q302:Stmt:=top 23
noncomputable abbrev q411:Stmt:=top 24
noncomputable abbrev s_led:Stmt:=top 25
noncomputable abbrev q205:Stmt:=top 26
noncomputable abbrev q576:Stmt:=top 27
noncomputable abbrev q303:Stmt:=top 29
noncomputable abbrev q259:Stmt:=top 30
noncomputable abbrev q304:Stmt:=top 31
noncomputable abbrev q206:Stmt:=top 32
noncomputable abbrev q713:Stmt:=top 33
noncomputable abbrev q305:Stmt:=top 35
noncomputable abbrev s_most:Stmt:=top 36
noncomputable abbrev q144:Stmt:=top 37
noncomputable abbrev q469:Stmt:=top 39
noncomputable abbrev q207:Stmt:=top 40
noncomputable abbrev q208:Stmt:=top 42
noncomputable abbrev q209:Stmt:=top 43
noncomputable abbrev q260:Stmt:=top 44
noncomputable abbrev q210:Stmt:=top 45
noncomputable abbrev q373:Stmt:=top 46
noncomputable abbrev q261:Stmt:=top 47
noncomputable abbrev q262:Stmt:=top 48
noncomputable abbrev q714:Stmt:=top 50
noncomputable abbrev q470:Stmt:=top 51
noncomputable abbrev q306:Stmt:=top 52
noncomputable abbrev q374:Stmt:=top 53
noncomputable abbrev q167:Stmt:=top 54
noncomputable abbrev q211:Stmt:=top 55
noncomputable abbrev q212:Stmt:=top 56
noncomputable abbrev q213:Stmt:=top 57
noncomputable abbrev q128:Stmt:=top 58
noncomputable abbrev q263:Stmt:=top 59
noncomputable abbrev q214:Stmt:=top 60
noncomputable abbrev q160:Stmt:=top 61
noncomputable abbrev q307:Stmt:=top 63
noncomputable abbrev q308:Stmt:=top 64
noncomputable abbrev q215:Stmt:=top 65
noncomputable abbrev q244:Stmt:=top 66
noncomputable abbrev q99:Stmt:=top 67
noncomputable abbrev q39:Stmt:=top 68
noncomputable abbrev q129:Stmt:=top 69
noncomputable abbrev q107:Stmt:=top 70
noncomputable abbrev q193:Stmt:=top 71
noncomputable abbrev q168:Stmt:=top 72
noncomputable abbrev q309:Stmt:=top 73
noncomputable abbrev q264:Stmt:=top 74
noncomputable abbrev q169:Stmt:=top 75
noncomputable abbrev q72:Stmt:=top 76
noncomputable abbrev q310:Stmt:=top 77
noncomputable abbrev s_law:Stmt:=top 78
theorem q520:FnScope ["thing"] ["thing"] (q17 q371):=fsc
theorem q335:FnScope ["levels", "many", "level"] ["levels"] (q17 q204):=fsc
theorem q715:FnScope ["bounds"] ["bounds"] (q17 q574):=fsc
theorem sc_where:FnScope pn16 pn16 (q17 q711):=fsc
theorem q624:FnScope ["bounds", "way", "least", "many", "turn"] ["bounds", "way"] (q17 q465):=fsc
theorem q716:FnScope (pn16.append ["least", "many", "way", "level"]) pn16 (q17 q575):=fsc
theorem sc_ahead:FnScope ["marks", "mark", "place"] ["marks", "mark", "place"] (q17 q712):=fsc
theorem q521:FnScope ["marks", "mark", "number", "left", "place", "other"] ["marks", "mark", "number"] (q17 q372):=fsc
theorem q625:FnScope ["thing", "word"] ["thing", "word"] (q17 q466):=fsc
theorem q626:FnScope ["tree", "mark"] ["tree", "mark"] (q17 q467):=fsc
theorem q627:FnScope ["tree"] ["tree"] (q17 q468):=fsc
theorem q628:FnScope ["gathering"] ["gathering"] (q17 q302):=fsc
theorem q717:FnScope ["gathering"] ["gathering"] (q17 q411):=fsc
theorem sc_led:FnScope pn17 pn17 (q17 s_led):=fsc
theorem q336:FnScope ["stretch", "way", "part", "start", "end", "turn", "half"] ["stretch", "way"] (q17 q205):=fsc
theorem q718:FnScope ["tree", "way", "place", "inner"] ["tree", "way", "place"] (q17 q576):=fsc
theorem q471:FnScope (pn15.append ["way", "alike"]) pn15 (q17 q303):=fsc
theorem q412:FnScope ["levels", "gathering", "k", "way", "parts", "left", "level", "lower", "turn"] ["levels", "gathering", "k"] (q17 q259):=fsc
theorem q472:FnScope ["gathering", "way", "number", "parts", "left", "j"] ["gathering", "way", "number"] (q17 q304):=fsc
theorem q337:FnScope (pn17.append ["many", "parts", "turn"]) pn17 (q17 q206):=fsc
theorem sc_below:FnScope (pn1.append ["side"]) pn1 (q17 q713):=fsc
theorem q473:FnScope pn11 pn11 (q17 q305):=fsc
theorem sc_most:FnScope (pn11.append ["best", "counted"]) pn11 (q17 s_most):=fsc
theorem q276:FnScope (pn14.append ["things", "half", "lower", "upper"]) pn14 (q17 q144):=fsc
theorem q629:FnScope (pn1.append ["k"]) pn1 (q17 q469):=fsc
theorem q338:FnScope (pn15.append ["way"]) pn15 (q17 q207):=fsc
theorem q339:FnScope pn1 pn1 (q17 q208):=fsc
theorem q340:FnScope (pn15.append ["worth"]) pn15 (q17 q209):=fsc
theorem q413:FnScope (pn11.append ["found", "worth", "many", "must_split"]) pn11 (q17 q260):=fsc
theorem q341:FnScope ["bounds", "gathering", "part", "whole"] ["bounds", "gathering", "part"] (q17 q210):=fsc
theorem q522:FnScope (pn1.append ["found", "must_split"]) pn1 (q17 q373):=fsc
theorem q414:FnScope pn19 pn19 (q17 q261):=fsc
theorem q415:FnScope (pn18.append ["things", "half", "lower", "upper"]) pn18 (q17 q262):=fsc
theorem sc_keeps:FnScope ["levels", "gathering", "paper"] ["levels", "gathering", "paper"] (q17 q714):=fsc
theorem q630:FnScope ["levels", "parts", "thing", "turn"] ["levels", "parts", "thing"] (q17 q470):=fsc
theorem q474:FnScope ["thing"] ["thing"] (q17 q306):=fsc
theorem q523:FnScope ["thing"] ["thing"] (q17 q374):=fsc
theorem q311:FnScope ["bounds", "paper"] ["bounds", "paper"] (q17 q167):=fsc
theorem q342:FnScope ["least", "many", "paper", "half"] ["least", "many", "paper"] (q17 q211):=fsc
theorem q343:FnScope ["closed", "worth", "least", "greatest", "many"] ["closed", "worth"] (q17 q212):=fsc
theorem q344:FnScope (pn6.append ["together", "least", "greatest", "things"]) pn6 (q17 q213):=fsc
theorem q345:FnScope (pn12.append ["closed", "alike", "lesser"]) pn12 (q17 q128):=fsc
theorem q416:FnScope (pn8.append ["closed", "least", "greatest", "things"]) pn8 (q17 q263):=fsc
theorem q346:FnScope (pn9.append ["found", "least", "greatest", "things"]) pn9 (q17 q214):=fsc
theorem q524:FnScope (pn7.append ["closed", "above", "worth"]) pn7 (q17 q160):=fsc
theorem q475:FnScope ["_law_script", "_law_k", "_law_number"] ["_law_script", "_law_k"] (q17 q307):=fsc
theorem q476:FnScope ["_law_pen", "_law_size", "_law_found", "_law_cell_here", "_law_number"] ["_law_pen", "_law_size"] (q17 q308):=fsc
theorem q347:FnScope ["_law_pen", "_law_levels", "_law_way"] ["_law_pen"] (q17 q215):=fsc
theorem q525:FnScope (pn2.append ["_law_size", "_law_many", "_law_way", "_law_few", "_law_row_here", "_law_k"]) pn2 (q17 q244):=fsc
theorem q477:FnScope (pn13.append ["_law_half", "_law_marks", "_law_lower"]) pn13 (q17 q99):=fsc
theorem q245:FnScope (pn2.append ["_law_rows", "_law_trees", "_law_gathering_here", "_law_things", "_law_j", "_law_at", "_law_start", "_law_end"]) pn2 (q17 q39):=fsc
theorem q348:FnScope ["_law_worths"] ["_law_worths"] (q17 q129):=fsc
theorem q417:FnScope (pn5.append ["_law_half"]) pn5 (q17 q107):=fsc
theorem q478:FnScope ["_law_paper", "_law_found", "_law_mark"] ["_law_paper"] (q17 q193):=fsc
theorem q312:FnScope ["_law_paper", "_law_way"] ["_law_paper", "_law_way"] (q17 q168):=fsc
theorem q479:FnScope (pn0.append ["_law_word", "_law_number", "_law_told_here"]) pn0 (q17 q309):=fsc
theorem q418:FnScope (pn3.append ["_law_word", "_law_number", "_law_told_here"]) pn3 (q17 q264):=fsc
theorem q313:FnScope (pn0.append ["_law_marks", "e"]) pn0 (q17 q169):=fsc
theorem q526:FnScope (pn10.append ["_law_counts_here", "_law_way", "_law_number", "_law_k", "_law_greatest", "_law_part"]) pn10 (q17 q72):=fsc
theorem q480:FnScope (pn4.append ["_law_ask_here", "_law_paper", "_law_ways_here", "_law_k", "_law_way"]) pn4 (q17 q310):=fsc
theorem sc_law:FnScope ["_law_script", "_law_pen", "_law_bounds_here", "_law_gathering_here", "_law_things", "_law_worths", "_law_turn", "_law_k"] ["_law_script"] (q17 s_law):=fsc
structure Bz(K:Fg)(mg:Mg)(base:Heap)(uA uB uI uF uC uE uD:Addr):Prop where
 all_:mg "all" = none
 bool_:mg "bool" = none
 enumerate_:mg "enumerate" = none
 int_:mg "int" = none
 isinstance_:mg "isinstance" = none
 len_:mg "len" = none
 max_:mg "max" = none
 min_:mg "min" = none
 range_:mg "range" = none
 set_:mg "set" = none
 sorted_:mg "sorted" = none
 str_:mg "str" = none
 sum_:mg "sum" = none
 tuple_:mg "tuple" = none
 m_LeastError:mg "LeastError" = some (.ref uA)
 m_Beyond:mg "Beyond" = some (.ref uB)
 m_NoBounds:mg "NoBounds" = some (.ref uI)
 m_NoRow:mg "NoRow" = some (.ref uF)
 m_NoSuch:mg "NoSuch" = some (.ref uC)
 m_NoText:mg "NoText" = some (.ref uE)
 m_TooMany:mg "TooMany" = some (.ref uD)
 own_NoSuch:PySem.W.excIn K uC bmVE "ValueError.__new__" = true
 ecl:ECls K uC
 exm:PySem.W.exmOne K (.ref uC) (.ref uA)=some true
 kA:PySem.W.kitOne K (.ref uC) (.ref uC)=some true
 kB:PySem.W.kitOne K (.ref uC) (.type "ValueError")=some true
 kC:PySem.W.kitAny K (.ref uC) [.ref uB,.ref uI,.ref uF,.ref uE,.ref uD]=some false
 d_is_whole:Def K mg "is_whole" q371 ["thing"]
 d_many_worths:Def K mg "many_worths" q204 ["levels"]
 d_top_of:Def K mg "top_of" q574 ["bounds"]
 d_where:Def K mg "where" q711 pn16
 d_span_of:Def K mg "span_of" q465 ["bounds", "way"]
 d_way_of:Def K mg "way_of" q575 pn16
 d_ahead:Def K mg "ahead" q712 ["marks", "mark", "place"]
 d_place_of:Def K mg "place_of" q372 ["marks", "mark", "number"]
 d_is_word:Def K mg "is_word" q466 ["thing", "word"]
 d_half_of:Def K mg "half_of" q467 ["tree", "mark"]
 d_size_of:Def K mg "size_of" q468 ["tree"]
 d_many_in:Def K mg "many_in" q302 ["gathering"]
 d_filled:Def K mg "filled" q411 ["gathering"]
 d_led:Def K mg "led" s_led pn17
 d_led_stretch:Def K mg "led_stretch" q205 ["stretch", "way"]
 d_lifted:Def K mg "lifted" q576 ["tree", "way", "place"]
 d_nth_least:Def K mg "nth_least" q303 pn15
 d_way_of_nth:Def K mg "way_of_nth" q259 ["levels", "gathering", "k"]
 d_nth_alike:Def K mg "nth_alike" q304 ["gathering", "way", "number"]
 d_many_lesser:Def K mg "many_lesser" q206 pn17
 d_below:Def K mg "below" q713 pn1
 d_worths_in:Def K mg "worths_in" q305 pn11
 d_most:Def K mg "most" s_most pn11
 d_counted_above:Def K mg "counted_above" q144 pn14
 d_next_up:Def K mg "next_up" q469 pn1
 d_counted_nth:Def K mg "counted_nth" q207 pn15
 d_paper_below:DefL K mg "paper_below" q208 ["bounds", "gathering", "number"] 288 284
 d_paper_least:DefL K mg "paper_least" q209 ["bounds", "gathering", "k"] 295 291
 d_paper_most:DefL K mg "paper_most" q260 ["bounds", "gathering"] 302 298
 d_paper_often:DefL K mg "paper_often" q210 ["bounds", "gathering", "part"] 309 305
 d_paper_up:DefL K mg "paper_up" q373 ["bounds", "gathering", "number"] 316 312
 d_told_paper:Def K mg "told_paper" q261 pn19
 d_paper_from:Def K mg "paper_from" q262 pn18
 d_keeps:Def K mg "keeps" q714 ["levels", "gathering", "paper"]
 d_is_kept:Def K mg "is_kept" q470 ["levels", "parts", "thing"]
 d_is_closed:Def K mg "is_closed" q306 ["thing"]
 d_is_split:Def K mg "is_split" q374 ["thing"]
 d_closed_parts:Def K mg "closed_parts" q167 ["bounds", "paper"]
 d_closed_from:Def K mg "closed_from" q211 ["least", "many", "paper"]
 d_many_closed:Def K mg "many_closed" q212 ["closed", "worth"]
 d_shows_below:Def K mg "shows_below" q213 pn6
 d_shows_least:Def K mg "shows_least" q128 pn12
 d_shows_most:Def K mg "shows_most" q263 pn8
 d_shows_often:Def K mg "shows_often" q214 pn9
 d_shows_up:Def K mg "shows_up" q160 pn7
 d__law_cell:Def K mg "_law_cell" q307 ["_law_script", "_law_k"]
 d__law_take:Def K mg "_law_take" q308 ["_law_pen", "_law_size"]
 d__law_bounds:Def K mg "_law_bounds" q215 ["_law_pen"]
 d__law_row:Def K mg "_law_row" q244 pn2
 d__law_tree:Def K mg "_law_tree" q99 pn13
 d__law_gathering:Def K mg "_law_gathering" q39 pn2
 d__law_counts:Def K mg "_law_counts" q129 ["_law_worths"]
 d__law_right:Def K mg "_law_right" q107 pn5
 d__law_ways:Def K mg "_law_ways" q193 ["_law_paper"]
 d__law_without:Def K mg "_law_without" q168 ["_law_paper", "_law_way"]
 d__law_told:Def K mg "_law_told" q309 pn0
 d__law_shown:Def K mg "_law_shown" q264 pn3
 d__law_refused:Def K mg "_law_refused" q169 pn0
 d__law_ask:Def K mg "_law_ask" q72 pn10
 d__law_good:Def K mg "_law_good" q310 pn4
 bmn:BMain mg base
variable{uA uB uI uF uC uE uD:Addr}
def Scr(K:Fg)(H:Hp)(a:Addr)(xs:List V):Prop:=
 (∃ o,H a=some (.frz o (.lst xs))) \/
  ∃(o:Obj)(its:Array Value)(n:Nat),K.lookup a=some o/\o.cls = .type "list" /\ o.dict=none/\o.data = .seq its n/\its.size<=sizeLine/\Vals xs its.toList
theorem Scr.sq(h:Scr K H a xs):SqL K H a xs:=by
 rcases h with h | h
 ·exact .inl (.inr h)
 ·exact .inr h
theorem Scr.same(h:Scr K H a xs)(s:Same H H'):Scr K H' a xs:=by
 rcases h with ⟨o,h⟩ | h
 ·exact .inl ⟨o,s _ _ h⟩
 ·exact .inr h
theorem Scr.set(h:Scr K H a xs)(e:H p=some (.lst ys)):Scr K (upd H p o) a xs:=by
 rcases h with ⟨ob,h⟩ | h
 ·exact .inl ⟨ob,by rw[q27 (ne_of h e (by intro z;cases z))];exact h⟩
 ·exact .inr h
def Pen(K:Fg)(H:Hp)(pen:Addr)(n:Int):Prop:=∃(a:Addr)(ns:List Int)(c r:Int),H pen=some (.lst [.ref a,.int c,.int r])/\Scr K H a (ns.map V.int)/\ns.length<=63/\0<=c/\c<=n/\0<=r
theorem Pen.same{n:Int}(p:Pen K H pen n)(s:Same H H'):Pen K H' pen n:=by
 obtain⟨a,ns,c,r,h1,h2,h3⟩:=p
 exact⟨a,ns,c,r,s _ _ h1,h2.same s,h3⟩
theorem Pen.new{n:Int}(p:Pen K H pen n)(h:H q=none)(o:HO):Pen K (upd H q o) pen n:=p.same (q15 h o)
theorem Pen.le{n m:Int}(p:Pen K H pen n)(h:n<=m):Pen K H pen m:=by
 obtain⟨a,ns,c,r,h1,h2,h3,h4,h5,h6⟩:=p
 exact⟨a,ns,c,r,h1,h2,h3,h4,∅,h6⟩
theorem Pen.at{n:Int}(p:Pen K H pen n):∃ xs,H pen=some (.lst xs):=by
 obtain⟨a,ns,c,r,h1,_⟩:=p
 exact⟨_,h1⟩
theorem Pen.ne{n:Int}(p:Pen K H pen n)(h:H b=some (.tup xs)):b≠pen:=by
 obtain⟨ys,e⟩:=p.at
 exact ne_of h e (by intro z;cases z)
theorem Pen.fresh{n:Int}(p:Pen K H pen n)(h:H b=none):b≠pen:=by
 obtain⟨ys,e⟩:=p.at
 exact fun z=>by rw[z,e]at h;cases h
theorem Pen.other{n:Int}(p:Pen K H pen n)(hq:q≠pen)(e:H q=some (.lst ys))(o:HO):Pen K (upd H q o) pen n:=by
 obtain⟨a,ns,c,r,h1,h2,h3⟩:=p
 exact⟨a,ns,c,r,by rw[q27 (Ne.symm hq)];exact h1,h2.set e,h3⟩
theorem Pen.put{ns:List Int}{c r n:Int}(h1:H pen=some (.lst xs))(h2:Scr K H a (ns.map V.int))(h4:ns.length<=63)(h5:0<=c)(h6:c<=n)(h7:0<=r) :
  Pen K (upd H pen (.lst [.ref a,.int c,.int r])) pen n:=⟨a,ns,c,r,q13,h2.set h1,h4,h5,h6,h7⟩
inductive q265(K:Fg)(vs:List V)(H:Hp)(Q:VK)(E:XK):Prop
 |mk(a:Addr)(ns:List Int)(k:Int)(_:vs=[.ref a,.int k])(_:SqL K H a (ns.map V.int))(_:ns.length<=63)(_:0<=k)(_:k<1000000000)(_:∀ n:Int,Q (.int n) H)
inductive q266(K:Fg)(vs:List V)(H:Hp)(Q:VK)(E:XK):Prop
 |mk(pen:Addr)(size n:Int)(_:vs=[.ref pen,.int size])(_:Pen K H pen n)(_:n<100000000)(_:0<size)(_:size<10^60)(_:∀(v:Int)(H':Hp),Keep pen H H'->Pen K H' pen (n+1)->0<=v->v<size->Q (.int v) H')
variable {P:Program} {w:World} {K:Fg} {mg:Mg} {base:Heap}
abbrev Bz.C(_:Bz K mg base uA uB uI uF uC uE uD)(P:Program)(w:World):=Cal P w K mg base
variable (z:Bz K mg base uA uB uI uF uC uE uD)
theorem q481:z.C P w 1 "_law_cell" ["_law_script", "_law_k"] (q265 K):=by
 have sc:=q475
 refine z.d__law_cell.cal fun f fd F=>F.k sc fun _ _ _ s H _ Q _ hr h=>?_
 obtain⟨a,ns,k,rfl,hS,h63,h0,hk,q⟩:=h
 refine⟨_,(q11 (ps_if (q18 op_lt (pv 1) (pln z.len_ (q10 (pv 0) q12)) (q20 _))
 (q16 (q19 (pix q31 (pv 0) (pv 1))))
 q21)
 (q11 (pst 2 sc.nd (pe_op q29 (pe_op q105 q14 (pv 1)) q14))
 (q11 (ps_if (q18 op_gt (pln z.len_ (q10 (pv 0) q12)) q14 (q20 _))
 (q16 (pst 2 sc.nd (pe_op q29 (pv 2) (pe_op q105 (pe_op q134 (pix q31 (pv 0) (pe_op q134 (pe_op q29 (pe_op q105 q14 (pv 1)) q14) (pln z.len_ (q10 (pv 0) q12)))) q14) q14))))
 q21)
 (q16 (q19 (pe_op q134 (pe_op q105 (pv 2) (pv 2)) q14)))))),?_⟩
 have hl:(ns.map V.int).length=ns.length:=ZN _
 exists _,rfl,_,rfl,a,_,rfl,.inl hS,_,_,rfl,rfl,_,rfl
 refine ite2 (fun c=>?_) (fun c=>?_)
 ·have c':k<(((ns.map V.int).length:Nat):Int):=ZH c
  rw[hl]at c'
  obtain⟨v,_,hv⟩:=q76 h0 c'
  exact⟨_,rfl,_,rfl,a,_,_,_,rfl,rfl,hS,hv,q v⟩
 ·exists _,rfl,_,_,rfl,rfl,.inl ⟨{},{}⟩,_,_,rfl,rfl
  exists _,rfl,a,_,rfl,.inl hS,_,_,rfl,rfl,_,rfl
  refine ite2 (fun c2=>?_) (fun c2=>?_)
  ·have c2':(0:Int)<(((ns.map V.int).length:Nat):Int):=ZH c2
   have m0:0<=(7*k+3)%(((ns.map V.int).length:Nat):Int):=YH _ ∅
   have m1:(7*k+3)%(((ns.map V.int).length:Nat):Int)<(((ns.map V.int).length:Nat):Int):=YB _ c2'
   obtain⟨v,_,hv⟩:=q76 (l:=ns) m0 (by rw[hl]at m1 ⊢;exact m1)
   have b0:0<=v%2147483629:=YH _ {}
   have b1:v%2147483629<2147483629:=YB _ {}
   exists _,rfl,_,rfl,_,rfl,_,_,rfl,rfl,.inl ⟨{},{}⟩,_,_,rfl,rfl,_,rfl,a,_,rfl,.inl hS,_,_,rfl,rfl,c2',a,_,_,_,rfl,rfl,hS,hv,_,_,rfl,rfl,(by show(0:Int)<2147483629;decide),_,_,rfl,rfl,.inr ⟨{},{}⟩,_,_,rfl,rfl
   exact⟨_,rfl,_,rfl,_,_,rfl,rfl,.inl ⟨∅,∅⟩,_,_,rfl,rfl,(by show(0:Int)<2147483587;decide),q _⟩
  ·exact⟨_,rfl,_,rfl,_,_,rfl,rfl,.inl ⟨∅,∅⟩,_,_,rfl,rfl,(by show(0:Int)<2147483587;decide),q _⟩
theorem q23:z.C P w 2 "_law_take" ["_law_pen", "_law_size"] (q266 K):=by
 have sc:=q476
 refine z.d__law_take.cal fun f fd F=>F.k sc fun _ _ _ s H _ Q _ hr h=>?_
 obtain⟨pen,size,n,rfl,⟨a,ns,c,r,hp,hS,h63,c0,cn,r0⟩,hn,s0,s1,q⟩:=h
 refine⟨_,(q11 (ps_if (q18 op_gt (pix q31 (pv 0) q14) q14 (q20 _))
 (q11 (pst 2 sc.nd (pe_op q134 (pix q31 (pv 0) q14) (pv 1)))
 (q11 (q363 (pe_op q89 (pix q31 (pv 0) q14) (pv 1)) (q642 (pv 0) q14 set_list))
 (q16 (q19 (pv 2)))))
 q21)
 (q11 (pst 3 sc.nd (pe_fn (q481 z) hr.m () (q10 (pix q31 (pv 0) q14) (q10 (pix q31 (pv 0) q14) q12))))
 (q11 (q363 (pe_op q29 (pix q31 (pv 0) q14) q14) (q642 (pv 0) q14 set_list))
 (q11 (ps_if (q18 op_ge (pv 3) (pe_op q290 q14 q14) (q20 _))
 (q11 (q363 (pe_op q89 (pv 3) (pv 1)) (q642 (pv 0) q14 set_list))
 (q16 (q19 (pe_op q134 (pv 3) (pv 1)))))
 q21)
 (q11 (pst 4 sc.nd (pe_op q134 (pe_op q105 (pe_op q29 (pe_op q29 (pe_op q134 (pv 3) q14) (pe_op q105 q14 (pix q31 (pv 0) q14))) q14) q14) q14))
 (q11 (pst 4 sc.nd (pe_op q134 (pe_op q105 (pe_op q29 (pv 4) (pix q31 (pv 0) q14)) (pe_op q29 (pe_op q134 (pv 4) q14) q14)) q14))
 (q11 (ps_if (q18 op_gt (pv 1) (pe_op q290 q14 q14) (q20 _))
 (q16 (q19 (pe_op q134 (pe_op q290 (pe_op q89 (pv 4) q14) q14) (pv 1))))
 q21)
 (q16 (q19 (pe_op q134 (pe_op q89 (pv 4) q14) (pv 1))))))))))),?_⟩
 exists _,rfl,pen,_,_,_,rfl,rfl,SqL.of hp,rfl,_,_,rfl,rfl,_,rfl
 refine ite2 (fun c1=>?_) (fun c1=>?_)
 ·have c1':(0:Int)<r:=ZH c1
  exists _,rfl,pen,_,_,_,rfl,rfl,SqL.of hp,rfl,_,rfl,_,_,rfl,rfl,s0
  exists _,rfl,pen,_,_,_,rfl,rfl,SqL.of hp,rfl,_,rfl,_,_,rfl,rfl,⟨s0,s1⟩,_,rfl,pen,_,_,2,rfl,rfl,hp,rfl,_,rfl
  exact q _ _ (Keep.set pen H _) (Pen.put hp hS h63 c0 ∅ (Int.ediv_nonneg r0 (Int.le_of_lt s0))) (YH _ ∅) (YB _ s0)
 ·refine⟨_,rfl,pen,_,_,_,rfl,rfl,SqL.of hp,rfl,_,rfl,pen,_,_,_,rfl,rfl,SqL.of hp,rfl,a,ns,c,rfl,hS.sq,h63,c0,∅,fun cell=>?_⟩
  exists _,rfl,pen,_,_,_,rfl,rfl,SqL.of hp,rfl,_,_,rfl,rfl,_,rfl,pen,_,_,1,rfl,rfl,hp,rfl
  have hS1:Scr K (upd H pen (.lst [.ref a,.int (c+1),.int r])) a (ns.map V.int):=hS.set hp
  have k1:Keep pen H (upd H pen (.lst [.ref a,.int (c+1),.int r])):=Keep.set pen H _
  exists _,rfl,_,_,rfl,rfl,⟨{},{},{}⟩,_,_,rfl,rfl,_,rfl
  refine ite2 (fun c2=>?_) (fun c2=>?_)
  ·have c2':(10:Int)^18<=cell:=ZH c2
   exists _,rfl,_,rfl,_,_,rfl,rfl,⟨s0,s1⟩,_,rfl,pen,_,_,2,rfl,rfl,q13,rfl,_,rfl,_,rfl,_,_,rfl,rfl,s0
   exact q _ _ (k1.trans (Keep.set pen _ _)) (Pen.put q13 hS1 h63 ∅ ∅ (Int.ediv_nonneg ∅ (Int.le_of_lt s0))) (YH _ ∅) (YB _ s0)
  ·have P1:Pen K (upd H pen (.lst [.ref a,.int (c+1),.int r])) pen (n+1):=Pen.put hp hS h63 ∅ ∅ r0
   exists _,rfl,_,_,rfl,rfl,(by show(0:Int)<2147483629;decide),_,rfl,pen,_,_,_,rfl,rfl,SqL.of q13,rfl,_,_,rfl,rfl,.inl ⟨{},{}⟩,_,_,rfl,rfl,_,_,rfl,rfl,_,_,rfl,rfl,.inr ⟨{},{}⟩,_,_,rfl,rfl,(by show(0:Int)<2147483647;decide)
   generalize hx:((cell%2147483629+7919*(c+1)+1)*48271%2147483647)=x1
   have g0:0<=x1%65521:=YH _ {}
   have g1:x1%65521<65521:=YB _ {}
   exists _,rfl,_,rfl,pen,_,_,_,rfl,rfl,SqL.of q13,rfl,_,_,rfl,rfl,_,rfl,_,_,rfl,rfl,(by show(0:Int)<65521;decide),_,_,rfl,rfl,_,_,rfl,rfl,.inr ⟨∅,∅⟩,_,_,rfl,rfl,(by show(0:Int)<2147483629;decide)
   generalize hy:((x1+(c+1))*(x1%65521+3)%2147483629)=x2
   have b0:0<=x2:=by rw[<- hy];exact YH _ {}
   have b1:x2<2147483629:=by rw[<- hy];exact YB _ {}
   exists _,rfl,_,_,rfl,rfl,⟨{},{},{}⟩,_,_,rfl,rfl,_,rfl
   refine ite2 (fun _=>?_) (fun _=>?_)
   ·exists _,rfl,_,_,rfl,rfl,⟨{},{}⟩,_,_,rfl,rfl,⟨{},{},∅⟩,_,rfl,_,_,rfl,rfl,s0
    exact q _ _ k1 P1 (YH _ ∅) (YB _ s0)
   ·exists _,rfl,_,_,rfl,rfl,⟨{},{}⟩,_,rfl,_,_,rfl,rfl,s0
    exact q _ _ k1 P1 (YH _ ∅) (YB _ s0)
inductive q170(u0:Fg)(vs:List V)(H:Hp)(Q:VK)(E:XK):Prop
 |mk(L:Nat)(_:vs=[.int (L:Int)])(_:L<=40)(_:Q (.int (2^L)) H)
inductive q482(K:Fg)(vs:List V)(H:Hp)(Q:VK)(E:XK):Prop
 |mk(b:Addr)(low:Int)(L:Nat)(_:vs=[.ref b])(_:SqT K H b [.int low,.int (L:Int)])(_:L<=40)(_:Q (.int (low+2^L-1)) H)
theorem q47:z.C P w 1 "many_worths" ["levels"] (q170 K):=by
 have sc:=q335
 refine z.d_many_worths.cal fun f fd F=>F.k sc fun _ _ _ s H _ Q _ hr h=>?_
 obtain⟨L,rfl,hL,q⟩:=h
 refine⟨_,(q11 (pst 1 sc.nd q14)
 (q11 (q60 PassesOwn.never rfl (q59 rfl z.range_ (q10 (pv 0) q12)) (pgn 2 sc.nd)
 (q16 (pst 1 sc.nd (pe_op q105 (pv 1) q14))))
 (q16 (q19 (pv 1))))),?_⟩
 refine⟨_,rfl,(L:Int),rfl,∅,∅,q78 (n:=L) (fun i σ H2=>∃ v:Option V,σ=[some (.int (L:Int)),some (.int (2^i)),v]/\H2=H) ⟨none,rfl,rfl⟩ ?_ ?_⟩
 ·rintro i σ H2 hi ⟨v,rfl,rfl⟩
  exists _,rfl,_,_,rfl,rfl,.inr ⟨{},{}⟩
  exact⟨_,by rw[YJ];rfl,rfl⟩
 ·rintro σ H2 ⟨v,rfl,rfl⟩
  exact⟨_,rfl,q⟩
theorem q719:z.C P w 2 "top_of" ["bounds"] (q482 K):=by
 have sc:=q715
 refine z.d_top_of.cal fun f fd F=>F.k sc fun _ _ _ s H _ Q _ hr h=>?_
 obtain⟨b,low,L,rfl,hb,hL,q⟩:=h
 exists _,(q16 (q19 (pe_op q54 (pe_op q29 (pix q26 (pv 0) q14) (pe_fn (q47 z) hr.m () (q10 (pix q26 (pv 0) q14) q12))) q14)))
 exact⟨_,rfl,b,_,_,_,rfl,rfl,hb,rfl,_,rfl,b,_,_,_,rfl,rfl,hb,rfl,L,rfl,hL,_,_,rfl,rfl,_,_,rfl,rfl,q⟩
inductive q171(K:Fg)(vs:List V)(H:Hp)(Q:VK)(E:XK):Prop
 |mk(pen:Addr)(n:Int)(_:vs=[.ref pen])(_:Pen K H pen n)(_:n<10000000)(_:∀(b:Addr)(low:Int)(L:Nat)(H':Hp),Keep pen H H'->Pen K H' pen (n+4)->H' b=some (.tup [.int low,.int (L:Int)]) -> -(10^40)<low->low<10^40->L<=40->Q (.ref b) H')
theorem q349:z.C P w 3 "_law_bounds" ["_law_pen"] (q171 K):=by
 have sc:=q347
 refine z.d__law_bounds.cal fun f fd F=>F.k sc fun _ _ _ s H _ Q _ hr h=>?_
 obtain⟨pen,n,rfl,P0,hn,q⟩:=h
 refine⟨_,(q11 (pst 1 sc.nd (pix q31 (q42 (q10 (pe_fn (q23 z) hr.m () (q10 (pv 0) (q10 q14 q12))) (q10 q14 (q10 q14 (q10 q14 (q10 q14 (q10 q14 (q10 q14 (q10 q14 q12))))))))) (pe_fn (q23 z) hr.m () (q10 (pv 0) (q10 q14 q12)))))
 (q11 (pst 2 sc.nd (pe_fn (q23 z) hr.m () (q10 (pv 0) (q10 q14 q12))))
 (q11 (ps_if (q18 op_eq (pv 2) q14 (q20 _))
 (q16 (q19 (q30 (q10 (pe_op q29 (pe_op q54 (pe_fn (q23 z) hr.m () (q10 (pv 0) (q10 (pe_op q54 (pe_op q105 q14 (pe_op q290 q14 q14)) q14) q12))) (pe_op q290 q14 q14)) q14) (q10 (pv 1) q12)))))
 q21)
 (q11 (ps_if (q18 op_eq (pv 2) q14 (q20 _))
 (q16 (q19 (q30 (q10 q14 (q10 (pv 1) q12)))))
 q21)
 (q16 (q19 (q30 (q10 (pe_op q54 (pe_fn (q23 z) hr.m () (q10 (pv 0) (q10 q14 q12))) q14) (q10 (pv 1) q12))))))))),?_⟩
 refine⟨_,rfl,pen,41,n,rfl,P0,∅,{},{},fun v1 H1 k1 P1 a1 b1=>⟨szb rfl,fun p hp=>?_⟩⟩
 refine⟨_,rfl,pen,8,n+1,rfl,P1.new hp _,∅,{},{},fun v2 H2 k2 P2 a2 b2=>?_⟩
 obtain⟨L',hm,hv⟩:=q76 (l:=[v1,0,1,2,3,4,5,8]) a2 b2
 have hL:0<=L'/\L'<=40:=by
  simp only[mem_cons,not_mem_nil,or_false]at hm
  lia
 obtain⟨L,rfl⟩:=Int.eq_ofNat_of_zero_le hL.1
 have hL2:L<=40:=∅
 exists p,_,_,_,rfl,rfl,SqL.of (k2 _ _ (P1.fresh hp) q13),hv
 refine⟨_,rfl,pen,4,n+1+1,rfl,P2,∅,{},{},fun v3 H3 k3 P3 a3 b3=>?_⟩
 have k03:Keep pen H H3:=k1.trans ((Keep.new hp _).trans (k2.trans k3))
 exists _,rfl,rfl,_,rfl
 refine ite2 (fun _=>?_) (fun _=>?_)
 ·refine⟨_,rfl,_,_,rfl,rfl,⟨{},{},{}⟩,_,_,rfl,rfl,.inl ⟨{},{}⟩,_,_,rfl,rfl,pen,_,n+1+1+1,rfl,P3,∅,{},{},fun v4 H4 k4 P4 a4 b4=>?_⟩
  refine⟨_,_,rfl,rfl,⟨{},{},{}⟩,_,_,rfl,rfl,_,_,rfl,rfl,_,rfl,szb rfl,fun b hb=>?_⟩
  refine q b _ L _ (k03.trans (k4.trans (Keep.new hb _))) ((P4.new hb _).le ∅) q13 ?_ ?_ hL2
  ·show -(10^40)<v4-(10:Int)^40+1
   lia
  ·show v4-(10:Int)^40+1<10^40
   have b4':v4<2*(10:Int)^40-1:=b4
   lia
 ·exists _,rfl,rfl,_,rfl
  refine ite2 (fun _=>?_) (fun _=>?_)
  ·refine⟨_,rfl,szb rfl,fun b hb=>?_⟩
   exact q b _ L _ (k03.trans (Keep.new hb _)) ((P3.new hb _).le ∅) q13 {} {} hL2
  ·refine⟨_,rfl,pen,99,n+1+1+1,rfl,P3,∅,{},{},fun v4 H4 k4 P4 a4 b4=>?_⟩
   refine⟨_,_,rfl,rfl,_,rfl,szb rfl,fun b hb=>?_⟩
   exact q b _ L _ (k03.trans (k4.trans (Keep.new hb _))) ((P4.new hb _).le ∅) q13 ∅ ∅ hL2
noncomputable def q483(low:Int)(L:Nat)(n:Int):Str:=if n<low then "below" else if low+2^L-1<n then "above" else "within"
inductive q577(K:Fg)(vs:List V)(H:Hp)(Q:VK)(E:XK):Prop
 |mk(b:Addr)(low n:Int)(L:Nat)(_:vs=[.ref b,.int n])(_:SqT K H b [.int low,.int (L:Int)])(_:L<=40)(_:Q (.str (q483 low L n)) H)
theorem q578:z.C P w 3 "where" pn16 (q577 K):=by
 have sc:=sc_where
 refine z.d_where.cal fun f fd F=>F.k sc fun _ _ _ s H _ Q _ hr h=>?_
 obtain⟨b,low,n,L,rfl,hb,hL,q⟩:=h
 refine⟨_,(q11 (ps_if (q18 op_lt (pv 1) (pix q26 (pv 0) q14) (q20 _))
 (q16 (q19 q34))
 q21)
 (q11 (ps_if (q18 op_gt (pv 1) (pe_fn (q719 z) hr.m () (q10 (pv 0) q12)) (q20 _))
 (q16 (q19 q34))
 q21)
 (q16 (q19 q34)))),?_⟩
 unfold q483 at q
 exists _,rfl,_,rfl,b,_,_,_,rfl,rfl,hb,rfl,_,_,rfl,rfl,_,rfl
 refine ite2 (fun c=>?_) (fun c=>?_)
 ·rw[ZJ (ZH c)]at q
  exact q
 ·rw[ZI (fun z=>c (ZA z))]at q
  exists _,rfl,_,rfl,b,low,L,rfl,hb,hL,_,_,rfl,rfl,_,rfl
  refine ite2 (fun c=>?_) (fun c=>?_)
  ·rw[ZJ (ZH c)]at q
   exact q
  ·rw[ZI (fun z=>c (ZA z))]at q
   exact q
def Wths(low:Int)(L:Nat)(ns:List Int):Prop:=∀ x∈ns,low<=x/\x<low+2^L
theorem Wths.snoc{low:Int}{L:Nat}{y:Int}(h:Wths low L ns)(h0:low<=y)(h1:y<low+2^L):Wths low L (ns++[y]):=fun x hx=>by
 rcases List.mem_append.mp hx with h' | h'
 ·exact h x h'
 ·cases List.mem_singleton.mp h'
  exact⟨h0,h1⟩
inductive q314(K:Fg)(vs:List V)(H:Hp)(Q:VK)(E:XK):Prop
 |mk(pen b:Addr)(n g low:Int)(L:Nat)(_:vs=[.ref pen,.ref b,.int g])(_:Pen K H pen n)(_:n<10000000)(_:H b=some (.tup [.int low,.int (L:Int)]))(_:L<=40)(_:0<=g)(_:g<=60)(_:∀(r:Addr)(ns:List Int)(H':Hp),Keep pen H H'->Pen K H' pen (n+80)->H' r=some (.lst (ns.map V.int))->H r=none->ns.length<=60->Wths low L ns->Q (.ref r) H')
theorem q527:z.C P w 3 "_law_row" pn2 (q314 K):=by
 have sc:=q525
 refine z.d__law_row.cal fun f fd F=>F.k sc fun _ _ _ s H _ Q _ hr h=>?_
 obtain⟨pen,b,n,g,low,L,rfl,P0,hn,hb,hL,g0,g1,q⟩:=h
 refine⟨_,(q11 (pst 3 sc.nd (pe_op q544 q14 (pix q26 (pv 1) q14)))
 (q11 (pst 4 sc.nd (pe_fn (q23 z) hr.m () (q10 (pv 0) (q10 q14 q12))))
 (q11 (ps_if (q18 op_eq (pe_fn (q23 z) hr.m () (q10 (pv 0) (q10 q14 q12))) q14 (q20 _))
 (q16 (pst 4 sc.nd (pe_fn (q23 z) hr.m () (q10 (pv 0) (q10 (pe_op q29 (pv 2) q14) q12)))))
 q21)
 (q11 (pst 5 sc.nd (pe_fn (q23 z) hr.m () (q10 (pv 0) (q10 q14 q12))))
 (q11 (q235 (i:=6) (cl:=[("_law_size", s.heap.objs.size+1+1),("_law_pen", s.heap.objs.size+1+0)]) (cn:=["_law_size", "_law_pen"]) (N:=["_law_pen", "_law_size"]) (fr:=[0,3]) (sc0:=q17 q244) sc.nd rfl (Or.inl rfl) rfl (q59 rfl z.range_ (q10 (pe_op q29 q14 (pe_fn (q23 z) hr.m () (q10 (pv 0) (q10 q14 q12)))) q12)) (fun C s₂ H₂ fp=>(pe_fn (q23 z) hr.m () (q10 (pv 1) (q10 (pv 2) q12)))) (by ac_rfl) ⟨by ac_rfl,by ac_rfl,trivial⟩ rfl rfl rfl cok rfl (by ac_rfl) (.inl rfl))
 (q11 (pst 7 sc.nd (q42 q12))
 (q11 (q60 PassesOwn.never rfl (q59 rfl z.range_ (q10 (pv 4) q12)) (pgn 8 sc.nd)
 (q16 (ps_if (q18 op_eq (pv 5) q14 (q20 _))
 (q16 (q137 (pe_bm YA YL YM q62 (pv 7) (q10 (pe_op q29 (pix q26 (pv 1) q14) (pe_fn (q23 z) hr.m () (q10 (pv 0) (q10 (pv 3) q12)))) q12))))
 (q16 (ps_if (q18 op_eq (pv 5) q14 (q20 _))
 (q16 (q137 (pe_bm YA YL YM q62 (pv 7) (q10 (pe_op q29 (pix q26 (pv 1) q14) (pe_op q134 (pe_op q29 (pix q31 (pv 6) q14) (pe_fn (q23 z) hr.m () (q10 (pv 0) (q10 q14 q12)))) (pv 3))) q12))))
 (q16 (q137 (pe_bm YA YL YM q62 (pv 7) (q10 (pe_op q29 (pix q26 (pv 1) q14) (pix q31 (pv 6) (pe_fn (q23 z) hr.m () (q10 (pv 0) (q10 (pln z.len_ (q10 (pv 6) q12)) q12))))) q12)))))))))
 (q11 (ps_if (q18 op_eq (pv 5) q14 (q20 _))
 (q16 (pst 7 sc.nd (q35 q454 () z.sorted_ q294 (q10 (pv 7) q12))))
 q21)
 (q16 (q19 (pv 7))))))))))),?_⟩
 have hp:=p2pos L
 have hq:=p2le hL
 exists _,rfl,b,_,_,_,rfl,rfl,SqT.of hb,rfl,_,_,rfl,rfl,⟨∅,∅,{}⟩
 dsimp only
 rw[q553]
 refine⟨_,rfl,pen,13,n,rfl,P0,∅,{},{},fun mv H1 k1 P1 m0 m1=>?_⟩
 refine⟨_,rfl,pen,8,n+1,rfl,P1,∅,{},{},fun v2 H2 k2 P2 a2 b2=>⟨rfl,_,rfl,?_⟩⟩
 have PP:Pen K H2 pen (n+3):=P2.le ∅
 have kk:Keep pen H H2:=k1.trans k2
 have mm:mv<=60:=∅
 refine ite2 (fun _=>?_) (fun _=>?_)
 ·refine⟨_,rfl,_,rfl,_,_,rfl,rfl,pen,_,n+1+1,rfl,P2,∅,∅,∅,fun mv H3 k3 P3 m0 m1=>?_⟩
  have PP:Pen K H3 pen (n+3):=P3.le ∅
  have kk:Keep pen H H3:=kk.trans k3
  have mm:mv<=60:=∅
  refine⟨_,rfl,pen,4,_,rfl,PP,∅,{},{},fun wv H4 k4 P4 w0 w1=>?_⟩
  refine⟨_,rfl,pen,4,_,rfl,P4,∅,{},{},fun c H5 k5 P5 c0 c1=>⟨_,_,rfl,rfl,1+c,rfl,∅,∅,fun D hD=>?_⟩⟩
  have hpl:∃ xs,H5 pen=some (.lst xs):=P5.at
  have k05:Keep pen H H5:=kk.trans (k4.trans k5)
  have hD0:H D=none:=by obtain⟨xs,e⟩:=hpl;exact k05.free hD e
  have hbp:b≠pen:=P0.ne hb
  refine q158 (n:=(1+c).toNat) (sz ∅) (fun j ys H6=>∃ fs:List Int,ys=fs.map V.int/\fs.length=j/\(∀ x∈fs,0<=x/\x<(2:Int)^L)/\H6 D=some (.lst ys)/\Keep pen H H6/\Pen K H6 pen (n+5+j))
   ⟨[],rfl,rfl,fun x hx=>absurd hx (by simp),q13,k05.own hD0,(P5.new hD _).le ∅⟩ (fun j ys H6 ⟨fs,e1,e2,_,e3,_⟩=>⟨e3,by rw[e1,ZN];exact e2⟩) ?_ ?_
  ·rintro j ys H6 hj ⟨fs,e1,e2,e4,e3,k6,P6⟩
   refine⟨_,rfl,_,rfl,pen,_,_,rfl,P6,∅,hp,∅,fun u3 H7 k7 P7 z0 z1=>?_⟩
   have e3':H7 D=some (.lst ys):=k7 _ _ (P5.fresh hD) e3
   refine⟨e3',fs++[u3],by rw[WQ,e1] <;> rfl,by rw[ZV,e2] <;> rfl,fun x hx=>?_,q13,(k6.trans k7).own hD0,(P7.other (P5.fresh hD) e3' _).le ∅⟩
   rcases List.mem_append.mp hx with h' | h'
   ·exact e4 x h'
   ·cases List.mem_singleton.mp h'
    exact⟨z0,z1⟩
  ·rintro ys H6 ⟨fs,e1,e2,e4,e3,k6,P6⟩
   rw[e1]at e3
   refine⟨szb rfl,fun r hr=>?_⟩
   have hr0:H r=none:=by
    obtain⟨xs,e⟩:=P6.at
    exact k6.free hr e
   have hrD:D≠r:=q24 e3 hr
   have P7:Pen K (upd H6 r (.lst [])) pen (n+10):=(P6.new hr _).le ∅
   have hfs:0<fs.length:=∅
   refine⟨_,rfl,mv,rfl,∅,∅,q78 (n:=mv.toNat) (fun i σ H8=>∃(ns:List Int)(v8:Option V),σ=[some (.ref pen),some (.ref b),some (.int g),some (.int (2^L)),some (.int mv),some (.int wv),some (.ref D),some (.ref r),v8]/\H8 r=some (.lst (ns.map V.int))/\ns.length=i/\Wths low L ns /\
    H8 D=some (.lst (fs.map V.int))/\Keep pen H H8/\Pen K H8 pen (n+10+i)) ⟨[],none,rfl,q13,rfl,fun x hx=>absurd hx (by simp),(by rw[q27 hrD];exact e3),k6.own hr0,P7.le ∅⟩ ?_ ?_⟩
   ·rintro i σ H8 hi ⟨ns,v8,rfl,hr8,hl8,hw8,hD8,k8,P8⟩
    have hb8:H8 b=some (.tup [.int low,.int (L:Int)]):=k8 _ _ hbp hb
    have hpr:r≠pen:=fun z=>by
     obtain⟨xs,e⟩:=P6.at
     rw[z,e]at hr
     cases hr
    have fin:∀(y:Int)(H9:Hp),low<=y->y<low+2^L->Keep pen H8 H9->Pen K H9 pen (n+10+i+1)->H9 r=some (.lst (ns.map V.int))/\(ns.map V.int).length<sizeLine /\
      ∃(ns':List Int)(v8':Option V),[some (V.ref pen),some (.ref b),some (.int g),some (.int (2^L)),some (.int mv),some (.int wv),some (.ref D),some (.ref r),some (.int (0+(i:Int)))]=[some (V.ref pen),some (.ref b),some (.int g),some (.int (2^L)),some (.int mv),some (.int wv),some (.ref D),some (.ref r),v8']/\(upd H9 r (.lst (ns.map V.int++[.int y]))) r=some (.lst (ns'.map V.int))/\ns'.length=i+1/\Wths low L ns' /\
       (upd H9 r (.lst (ns.map V.int++[.int y]))) D=some (.lst (fs.map V.int))/\Keep pen H (upd H9 r (.lst (ns.map V.int++[.int y])))/\Pen K (upd H9 r (.lst (ns.map V.int++[.int y]))) pen (n+10+((i+1:Nat):Int)):=by
     intro y H9 y0 y1 k9 P9
     have hr9:=k9 _ _ hpr hr8
     have hD9:=k9 _ _ (P5.fresh hD) hD8
     refine⟨hr9,by rw[ZN,hl8];exact q79 ∅,ns++[y],_,rfl,?_,by rw[ZV,hl8] <;> rfl,hw8.snoc y0 y1,by rw[q27 hrD];exact hD9,(k8.trans k9).own hr0,(P9.other hpr hr9 _).le ∅⟩
     rw[q13,WQ]
     rfl
    exists _,rfl,rfl,_,rfl
    refine ite2 (fun _=>?_) (fun _=>?_)
    ·refine⟨_,rfl,.inl ⟨rfl,_,SqL.of hr8⟩,_,rfl,b,_,_,_,rfl,rfl,SqT.of hb8,rfl,_,rfl,_,rfl,pen,_,_,rfl,P8,∅,hp,∅,fun u H9 k9 P9 z0 z1=>⟨_,_,rfl,rfl,?_⟩⟩
     obtain⟨f1,f2,f3⟩:=fin (low+u) H9 ∅ ∅ k9 P9
     exact⟨r,_,_,rfl,rfl,f1,f2,f3⟩
    ·exists _,rfl,rfl,_,rfl
     refine ite2 (fun _=>?_) (fun _=>?_)
     ·obtain⟨f0,hm,hv⟩:=q76 (l:=fs) (i:=0) ∅ ∅
      refine⟨_,rfl,.inl ⟨rfl,_,SqL.of hr8⟩,_,rfl,b,_,_,_,rfl,rfl,SqT.of hb8,rfl,_,rfl,D,_,_,_,rfl,rfl,SqL.of hD8,hv,_,rfl,pen,5,_,rfl,P8,∅,{},{},fun u H9 k9 P9 z0 z1=>⟨_,_,rfl,rfl,_,rfl,_,_,rfl,rfl,hp,_,_,rfl,rfl,?_⟩⟩
      have b0:0<=(f0+u)%(2:Int)^L:=YH _ ∅
      have b1:(f0+u)%(2:Int)^L<2^L:=YB _ hp
      obtain⟨f1,f2,f3⟩:=fin (low+(f0+u)%(2:Int)^L) H9 ∅ ∅ k9 P9
      exact⟨r,_,_,rfl,rfl,f1,f2,f3⟩
     ·refine⟨_,rfl,.inl ⟨rfl,_,SqL.of hr8⟩,_,rfl,b,_,_,_,rfl,rfl,SqT.of hb8,rfl,_,rfl,_,rfl,_,rfl,D,_,rfl,.inl (SqL.of hD8),pen,_,_,rfl,P8,∅,by rw[ZN];lia,by rw[ZN];lia,fun u H9 k9 P9 z0 z1=>?_⟩
      rw[ZN]at z1
      obtain⟨fv,hm,hv⟩:=q76 (l:=fs) (i:=u) z0 z1
      obtain⟨y0,y1⟩:=e4 fv hm
      obtain⟨f1,f2,f3⟩:=fin (low+fv) H9 ∅ ∅ k9 P9
      exact⟨D,_,_,_,rfl,rfl,SqL.of (k9 _ _ (P5.fresh hD) hD8),hv,_,_,rfl,rfl,r,_,_,rfl,rfl,f1,f2,f3⟩
   ·rintro σ H8 ⟨ns,v8,rfl,hr8,hl8,hw8,hD8,k8,P8⟩
    have hln:ns.length<=60:=∅
    exists _,rfl,rfl,_,rfl
    refine ite2 (fun _=>?_) (fun _=>?_)
    ·refine⟨_,rfl,r,ns,rfl,SqL.of hr8,∅,fun l ms hl pm _=>⟨_,rfl,?_⟩⟩
     have hl0:H l=none:=by
      obtain⟨xs,e⟩:=P8.at
      exact k8.free hl e
     exact q l ms _ (k8.own hl0) ((P8.new hl _).le ∅) q13 hl0 (by rw[pm.length_eq];exact hln) (fun x hx=>hw8 x (pm.mem_iff.mp hx))
    ·exact⟨_,rfl,q r ns _ k8 (P8.le ∅) hr8 hr0 hln hw8⟩
 ·
  refine⟨_,rfl,pen,4,_,rfl,PP,∅,{},{},fun wv H4 k4 P4 w0 w1=>?_⟩
  refine⟨_,rfl,pen,4,_,rfl,P4,∅,{},{},fun c H5 k5 P5 c0 c1=>⟨_,_,rfl,rfl,1+c,rfl,∅,∅,fun D hD=>?_⟩⟩
  have hpl:∃ xs,H5 pen=some (.lst xs):=P5.at
  have k05:Keep pen H H5:=kk.trans (k4.trans k5)
  have hD0:H D=none:=by obtain⟨xs,e⟩:=hpl;exact k05.free hD e
  have hbp:b≠pen:=P0.ne hb
  refine q158 (n:=(1+c).toNat) (sz ∅) (fun j ys H6=>∃ fs:List Int,ys=fs.map V.int/\fs.length=j/\(∀ x∈fs,0<=x/\x<(2:Int)^L)/\H6 D=some (.lst ys)/\Keep pen H H6/\Pen K H6 pen (n+5+j))
   ⟨[],rfl,rfl,fun x hx=>absurd hx (by simp),q13,k05.own hD0,(P5.new hD _).le ∅⟩ (fun j ys H6 ⟨fs,e1,e2,_,e3,_⟩=>⟨e3,by rw[e1,ZN];exact e2⟩) ?_ ?_
  ·rintro j ys H6 hj ⟨fs,e1,e2,e4,e3,k6,P6⟩
   refine⟨_,rfl,_,rfl,pen,_,_,rfl,P6,∅,hp,∅,fun u3 H7 k7 P7 z0 z1=>?_⟩
   have e3':H7 D=some (.lst ys):=k7 _ _ (P5.fresh hD) e3
   refine⟨e3',fs++[u3],by rw[WQ,e1] <;> rfl,by rw[ZV,e2] <;> rfl,fun x hx=>?_,q13,(k6.trans k7).own hD0,(P7.other (P5.fresh hD) e3' _).le ∅⟩
   rcases List.mem_append.mp hx with h' | h'
   ·exact e4 x h'
   ·cases List.mem_singleton.mp h'
    exact⟨z0,z1⟩
  ·rintro ys H6 ⟨fs,e1,e2,e4,e3,k6,P6⟩
   rw[e1]at e3
   refine⟨szb rfl,fun r hr=>?_⟩
   have hr0:H r=none:=by
    obtain⟨xs,e⟩:=P6.at
    exact k6.free hr e
   have hrD:D≠r:=q24 e3 hr
   have P7:Pen K (upd H6 r (.lst [])) pen (n+10):=(P6.new hr _).le ∅
   have hfs:0<fs.length:=∅
   refine⟨_,rfl,mv,rfl,∅,∅,q78 (n:=mv.toNat) (fun i σ H8=>∃(ns:List Int)(v8:Option V),σ=[some (.ref pen),some (.ref b),some (.int g),some (.int (2^L)),some (.int mv),some (.int wv),some (.ref D),some (.ref r),v8]/\H8 r=some (.lst (ns.map V.int))/\ns.length=i/\Wths low L ns /\
    H8 D=some (.lst (fs.map V.int))/\Keep pen H H8/\Pen K H8 pen (n+10+i)) ⟨[],none,rfl,q13,rfl,fun x hx=>absurd hx (by simp),(by rw[q27 hrD];exact e3),k6.own hr0,P7.le ∅⟩ ?_ ?_⟩
   ·rintro i σ H8 hi ⟨ns,v8,rfl,hr8,hl8,hw8,hD8,k8,P8⟩
    have hb8:H8 b=some (.tup [.int low,.int (L:Int)]):=k8 _ _ hbp hb
    have hpr:r≠pen:=fun z=>by
     obtain⟨xs,e⟩:=P6.at
     rw[z,e]at hr
     cases hr
    have fin:∀(y:Int)(H9:Hp),low<=y->y<low+2^L->Keep pen H8 H9->Pen K H9 pen (n+10+i+1)->H9 r=some (.lst (ns.map V.int))/\(ns.map V.int).length<sizeLine /\
      ∃(ns':List Int)(v8':Option V),[some (V.ref pen),some (.ref b),some (.int g),some (.int (2^L)),some (.int mv),some (.int wv),some (.ref D),some (.ref r),some (.int (0+(i:Int)))]=[some (V.ref pen),some (.ref b),some (.int g),some (.int (2^L)),some (.int mv),some (.int wv),some (.ref D),some (.ref r),v8']/\(upd H9 r (.lst (ns.map V.int++[.int y]))) r=some (.lst (ns'.map V.int))/\ns'.length=i+1/\Wths low L ns' /\
       (upd H9 r (.lst (ns.map V.int++[.int y]))) D=some (.lst (fs.map V.int))/\Keep pen H (upd H9 r (.lst (ns.map V.int++[.int y])))/\Pen K (upd H9 r (.lst (ns.map V.int++[.int y]))) pen (n+10+((i+1:Nat):Int)):=by
     intro y H9 y0 y1 k9 P9
     have hr9:=k9 _ _ hpr hr8
     have hD9:=k9 _ _ (P5.fresh hD) hD8
     refine⟨hr9,by rw[ZN,hl8];exact q79 ∅,ns++[y],_,rfl,?_,by rw[ZV,hl8] <;> rfl,hw8.snoc y0 y1,by rw[q27 hrD];exact hD9,(k8.trans k9).own hr0,(P9.other hpr hr9 _).le ∅⟩
     rw[q13,WQ]
     rfl
    exists _,rfl,rfl,_,rfl
    refine ite2 (fun _=>?_) (fun _=>?_)
    ·refine⟨_,rfl,.inl ⟨rfl,_,SqL.of hr8⟩,_,rfl,b,_,_,_,rfl,rfl,SqT.of hb8,rfl,_,rfl,_,rfl,pen,_,_,rfl,P8,∅,hp,∅,fun u H9 k9 P9 z0 z1=>⟨_,_,rfl,rfl,?_⟩⟩
     obtain⟨f1,f2,f3⟩:=fin (low+u) H9 ∅ ∅ k9 P9
     exact⟨r,_,_,rfl,rfl,f1,f2,f3⟩
    ·exists _,rfl,rfl,_,rfl
     refine ite2 (fun _=>?_) (fun _=>?_)
     ·obtain⟨f0,hm,hv⟩:=q76 (l:=fs) (i:=0) ∅ ∅
      refine⟨_,rfl,.inl ⟨rfl,_,SqL.of hr8⟩,_,rfl,b,_,_,_,rfl,rfl,SqT.of hb8,rfl,_,rfl,D,_,_,_,rfl,rfl,SqL.of hD8,hv,_,rfl,pen,5,_,rfl,P8,∅,{},{},fun u H9 k9 P9 z0 z1=>⟨_,_,rfl,rfl,_,rfl,_,_,rfl,rfl,hp,_,_,rfl,rfl,?_⟩⟩
      have b0:0<=(f0+u)%(2:Int)^L:=YH _ ∅
      have b1:(f0+u)%(2:Int)^L<2^L:=YB _ hp
      obtain⟨f1,f2,f3⟩:=fin (low+(f0+u)%(2:Int)^L) H9 ∅ ∅ k9 P9
      exact⟨r,_,_,rfl,rfl,f1,f2,f3⟩
     ·refine⟨_,rfl,.inl ⟨rfl,_,SqL.of hr8⟩,_,rfl,b,_,_,_,rfl,rfl,SqT.of hb8,rfl,_,rfl,_,rfl,_,rfl,D,_,rfl,.inl (SqL.of hD8),pen,_,_,rfl,P8,∅,by rw[ZN];lia,by rw[ZN];lia,fun u H9 k9 P9 z0 z1=>?_⟩
      rw[ZN]at z1
      obtain⟨fv,hm,hv⟩:=q76 (l:=fs) (i:=u) z0 z1
      obtain⟨y0,y1⟩:=e4 fv hm
      obtain⟨f1,f2,f3⟩:=fin (low+fv) H9 ∅ ∅ k9 P9
      exact⟨D,_,_,_,rfl,rfl,SqL.of (k9 _ _ (P5.fresh hD) hD8),hv,_,_,rfl,rfl,r,_,_,rfl,rfl,f1,f2,f3⟩
   ·rintro σ H8 ⟨ns,v8,rfl,hr8,hl8,hw8,hD8,k8,P8⟩
    have hln:ns.length<=60:=∅
    exists _,rfl,rfl,_,rfl
    refine ite2 (fun _=>?_) (fun _=>?_)
    ·refine⟨_,rfl,r,ns,rfl,SqL.of hr8,∅,fun l ms hl pm _=>⟨_,rfl,?_⟩⟩
     have hl0:H l=none:=by
      obtain⟨xs,e⟩:=P8.at
      exact k8.free hl e
     exact q l ms _ (k8.own hl0) ((P8.new hl _).le ∅) q13 hl0 (by rw[pm.length_eq];exact hln) (fun x hx=>hw8 x (pm.mem_iff.mp hx))
    ·exact⟨_,rfl,q r ns _ k8 (P8.le ∅) hr8 hr0 hln hw8⟩
noncomputable def grow(low:Int):Nat->List Int->Tr
 | 0,ns=>if ns=[]then .non else .many ns.length
 | e+1,ns=>if ns=[]then .non else .part (ns.map fun n=>if n<low+2^e then 0 else 1) (grow low e (ns.filter fun n=>decide (n<low+2^e))) (grow (low+2^e) e (ns.filter fun n=>decide (low+2^e<=n)))
theorem q579(low:Int)(e:Nat):grow low e [] = .non:=by cases e <;> rfl
theorem q315{low:Int}{ns:List Int}(h:ns≠[]):grow low 0 ns = .many ns.length:=by unfold grow;rw[ZI h]
theorem q216{low:Int}{e:Nat}{ns:List Int}(h:ns≠[]):grow low (e+1) ns = .part (ns.map fun n=>if n<low+2^e then 0 else 1) (grow low e (ns.filter fun n=>decide (n<low+2^e))) (grow (low+2^e) e (ns.filter fun n=>decide (low+2^e<=n))):=by
 rw[grow,ZI h]
def Tr.fit(b:Nat):Tr->Prop
 | .non=>True
 | .many _=>True
 | .part ms l r=>ms.length<=b/\Tr.fit b l/\Tr.fit b r
abbrev q484:Nat:=0
abbrev q267:Nat:=40
inductive q130(K:Fg)(e:Nat)(vs:List V)(H:Hp)(Q:VK)(E:XK):Prop
 |mk(low:Int)(a:Addr)(ns:List Int)(_:vs=[.int low,.int (e:Int),.ref a])(_:SqL K H a (ns.map V.int))(_:ns.length<=1000)(_:∀(H':Hp)(v:V),Same H H'->q55 H' v (grow low e ns)->Q v H')
def q485(K:Fg):Sp:=fun vs H Q E=>∃ e,e<=q267/\q130 K e vs H Q E
theorem q486:z.C P w 41 "_law_tree" pn13 (q485 K):=by
 have sc:=q477
 refine z.d__law_tree.recur (k:=q484) (sp:=q130 K) q267 fun e hen c__law_tree f fd F=>F.k sc fun _ _ _ s H _ Q _ hr h=>?_
 obtain⟨least,a,ns,rfl,ha,hl,q⟩:=h
 refine⟨_,(q11 (ps_if (q18 (op_eqL hr.units) (pv 2) (q42 q12) (q20 _))
 (q16 (q19 q95))
 q21)
 (q11 (ps_if (q18 op_eq (pv 1) q14 (q20 _))
 (q16 (q19 (q30 (q10 q34 (q10 (pln z.len_ (q10 (pv 2) q12)) q12)))))
 q21)
 (q11 (pst 3 sc.nd (pe_op q29 (pv 0) (pe_op q544 q14 (pe_op q54 (pv 1) q14))))
 (q11 (pst 4 sc.nd (q138 q190 () z.tuple_ q157 (q10 (q140 (cl:=[("_law_half", s.heap.objs.size+1+0)]) (cn:=["_law_half"]) (N:=["_law_half"]) (fr:=[3]) (sc0:=q17 q99) rfl (q32 (pv 2)) (fun C s₂ H₂ fp=>(q138 q650 () z.int_ bt_int (q10 (q41 op_ge (pv 0) (pv 1) (q20 _)) q12))) (by ac_rfl) ⟨by ac_rfl,trivial⟩ rfl rfl rfl cok rfl) q12)))
 (q11 (pst 5 sc.nd (pe_fn c__law_tree (hr.mono (ZG _)) () (q10 (pv 0) (q10 (pe_op q54 (pv 1) q14) (q10 (q64 (cl:=[("_law_half", s.heap.objs.size+1+0)]) (cn:=["_law_half"]) (N:=["_law_half"]) (fr:=[3]) (sc0:=q17 q99) rfl (q32 (pv 2)) (fun C s₂ H₂ fp=>(pv 0)) (fun C s₂ H₂ fp=>(q18 op_lt (pv 0) (pv 1) (q20 _))) (by ac_rfl) ⟨by ac_rfl,trivial⟩ rfl rfl rfl cok rfl) q12)))))
 (q16 (q19 (q30 (q10 q34 (q10 (pv 4) (q10 (pv 5) (q10 (pe_fn c__law_tree (hr.mono (ZG _)) () (q10 (pv 3) (q10 (pe_op q54 (pv 1) q14) (q10 (q64 (cl:=[("_law_half", s.heap.objs.size+1+0)]) (cn:=["_law_half"]) (N:=["_law_half"]) (fr:=[3]) (sc0:=q17 q99) rfl (q32 (pv 2)) (fun C s₂ H₂ fp=>(pv 0)) (fun C s₂ H₂ fp=>(q18 op_ge (pv 0) (pv 1) (q20 _))) (by ac_rfl) ⟨by ac_rfl,trivial⟩ rfl rfl rfl cok rfl) q12)))) q12)))))))))))),?_⟩
 have hz:ns.length<=sizeLine:=sz hl
 refine⟨_,rfl,szb rfl,fun p0 hp0=>?_⟩
 have s0:=q15 hp0 (.lst [])
 exists a,p0,ns,[],rfl,rfl,s0.seq ha,SqL.of q13,_,rfl
 have ha:=s0.seq ha
 refine ite2 (fun c=>?_) (fun c=>?_)
 ·have e0:ns=[]:=ZH c
  subst e0
  exact q _ .non s0 (by rw[q579];rfl)
 ·have hne:ns≠[]:=fun z=>c (ZA z)
  generalize hH0:upd H p0 (.lst [])=H0 at *
  exists _,rfl,rfl,_,rfl
  refine ite2 (fun c2=>?_) (fun c2=>?_)
  ·have e0':((e:Nat):Int)=0:=V.int.inj (ZH c2)
   have e0:e=0:=∅
   subst e0
   refine⟨_,rfl,a,_,rfl,.inl ha,szb rfl,fun p hp=>q _ _ (s0.trans (q15 hp _)) ?_⟩
   rw[q315 hne]
   exists p,rfl
   rw[q13,ZN]
  ·cases e with
   | zero=>exact absurd (ZA rfl) c2
   | succ e=>
    have hen':e+1<=40:=hen
    have ee:(((e+1:Nat):Int)-1)=(e:Int):=∅
    exists _,rfl,_,rfl,_,_,rfl,rfl,_,_,rfl,rfl,⟨∅,∅,{}⟩,_,_,rfl,rfl
    dsimp only
    rw[ee,q553]
    refine⟨_,rfl,a,rfl,⟨_,ha⟩,fun D hD=>?_⟩
    refine q682 (g:=fun n=>.int (if n<least+2^e then 0 else 1)) ha hD hz (fun n _ H1 Q1 _ q1=>?_) ?_
    ·refine⟨_,rfl,_,rfl,_,_,rfl,rfl,.inr ⟨_,rfl,?_⟩⟩
     by_cases c3:n<least+2^e
     ·rw[ZJ c3]at q1
      rw[ZI (by intro z;have:=ZH z;lia)]
      exact q1
     ·rw[ZI c3]at q1
      rw[ZJ (ZA ∅)]
      exact q1
    have s1:=q15 hD (.lst (ns.map fun n=>V.int (if n<least+2^e then 0 else 1)))
    refine⟨D,_,rfl,SqL.of q13,fun m H2 s2 hm=>?_⟩
    have s02:Same H0 H2:=s1.trans s2
    have hm':TupF H2 m ((ns.map fun n=>if n<least+2^e then(0:Int)else 1).map V.int):=by rw[map_map];exact hm
    refine⟨_,rfl,_,rfl,_,_,rfl,rfl,_,rfl,a,rfl,⟨_,s02.seq ha⟩,fun D2 hD2=>?_⟩
    refine q98 (p:=fun n=>decide (n<least+2^e)) (g:=V.int) (s02.seq ha) hD2 hz (fun n _ H1 Q1 _ q1=>⟨_,rfl,_,rfl,_,_,rfl,rfl,_,rfl,q1⟩) (fun n _ _ H1 Q1 _ q1=>⟨_,rfl,q1⟩) ?_
    refine⟨least,D2,_,congrArg (fun t=>[V.int least,V.int t,V.ref D2]) ee,SqL.of q13,ZR (YE _ _) hl,fun H3 lo s3 hlo=>?_⟩
    have s03:Same H0 H3:=s02.trans ((q15 hD2 _).trans s3)
    refine⟨_,rfl,_,rfl,_,rfl,_,rfl,_,_,rfl,rfl,_,rfl,a,rfl,⟨_,s03.seq ha⟩,fun D3 hD3=>?_⟩
    refine q98 (p:=fun n=>decide (least+2^e<=n)) (g:=V.int) (s03.seq ha) hD3 hz (fun n _ H1 Q1 _ q1=>⟨_,rfl,_,rfl,_,_,rfl,rfl,_,rfl,q1⟩) (fun n _ _ H1 Q1 _ q1=>⟨_,rfl,q1⟩) ?_
    refine⟨least+2^e,D3,_,congrArg (fun t=>[V.int (least+2^e),V.int t,V.ref D3]) ee,SqL.of q13,ZR (YE _ _) hl,fun H4 hi s4 hhi=>?_⟩
    have s34:Same H3 H4:=(q15 hD3 _).trans s4
    refine⟨szb rfl,fun p hp=>q _ _ (s0.trans (s03.trans (s34.trans (q15 hp _)))) ?_⟩
    rw[q216 hne]
    have sp:=q15 hp (.tup [.str "part", .ref m,lo,hi])
    have s24:Same H2 H4:=(q15 hD2 _).trans (s3.trans s34)
    exact⟨p,m,lo,hi,rfl,q13,(hm'.same s24).same sp,(hlo.same s34).same sp,hhi.same sp⟩
noncomputable def trSize:Tr->Int
 | .non=>0
 | .many n=>n
 | .part ms _ _=>ms.length
noncomputable def trHalf:Tr->Int->Tr
 | .part _ l r,mk=>if mk=0 then l else r
 | _,_=>.non
inductive q375(u0:Fg)(vs:List V)(H:Hp)(Q:VK)(E:XK):Prop
 |mk(v:V)(t:Tr)(_:vs=[v])(_:q55 H v t)(_:Q (.int (trSize t)) H)
theorem q631:z.C P w 1 "size_of" ["tree"] (q375 K):=by
 have sc:=q627
 refine z.d_size_of.cal fun f fd F=>F.k sc fun _ _ _ s H _ Q _ hr h=>?_
 obtain⟨v,t,rfl,ht,q⟩:=h
 refine⟨_,(q11 (ps_if (q18 q291 (pv 0) q95 (q20 _))
 (q16 (q19 q14))
 q21)
 (q11 (ps_if (q18 op_eq (pix q26 (pv 0) q14) q34 (q20 _))
 (q16 (q19 (pix q26 (pv 0) q14)))
 q21)
 (q16 (q19 (pln z.len_ (q10 (pix q26 (pv 0) q14) q12)))))),?_⟩
 exists _,rfl,rfl,_,rfl
 cases t with
 | non=>
  cases ht
  exact ite2 (fun c=>q) (fun c=>absurd (ZA rfl) c)
 | many n=>
  obtain⟨a,rfl,ha⟩:=ht
  refine ite2 (fun c=>absurd (ZH c) (by intro z;cases z)) (fun c=>?_)
  exists _,rfl,a,_,_,_,rfl,rfl,SqT.of ha,rfl,rfl,_,rfl
  refine ite2 (fun c=>?_) (fun c=>absurd (ZA rfl) c)
  exact⟨_,rfl,a,_,_,_,rfl,rfl,SqT.of ha,rfl,q⟩
 | part ms l r=>
  obtain⟨a,m,x,y,rfl,ha,hm,hl,hr'⟩:=ht
  refine ite2 (fun c=>absurd (ZH c) (by intro z;cases z)) (fun c=>?_)
  exists _,rfl,a,_,_,_,rfl,rfl,SqT.of ha,rfl,rfl,_,rfl
  refine ite2 (fun c=>absurd (ZH c) {}) (fun c=>?_)
  exists _,rfl,a,_,_,_,rfl,rfl,SqT.of ha,rfl,m,_,rfl,.inr hm.sq
  rw[ZN]
  exact q
inductive q376(u0:Fg)(vs:List V)(H:Hp)(Q:VK)(E:XK):Prop
 |mk(v:V)(t:Tr)(mk:Int)(_:vs=[v,.int mk])(_:q55 H v t)(_:(mk=0\/mk=1))(_:∀ u,q55 H u (trHalf t mk)->Q u H)
theorem q377:z.C P w 1 "half_of" ["tree", "mark"] (q376 K):=by
 have sc:=q626
 refine z.d_half_of.cal fun f fd F=>F.k sc fun _ _ _ s H _ Q _ hr h=>?_
 obtain⟨v,t,mk,rfl,ht,hmk,q⟩:=h
 refine⟨_,(q11 (ps_if (PW.pt (pw_or (q18 q291 (pv 0) q95 (q20 _)) (q115 (q18 op_eq (pix q26 (pv 0) q14) q34 (q20 _)))))
 (q16 (q19 q95))
 q21)
 (q16 (q19 (pix q26 (pv 0) (pe_op q29 q14 (pv 1)))))),?_⟩
 exists _,rfl,rfl,_,rfl
 cases t with
 | non=>
  cases ht
  exact ite2 (fun c=>q .non rfl) (fun c=>absurd (ZA rfl) c)
 | many n=>
  obtain⟨a,rfl,ha⟩:=ht
  refine ite2 (fun c=>absurd (ZH c) (by intro z;cases z)) (fun c=>?_)
  exists _,rfl,a,_,_,_,rfl,rfl,SqT.of ha,rfl,rfl,_,rfl
  exact ite2 (fun c=>q .non rfl) (fun c=>absurd (ZA rfl) c)
 | part ms l r=>
  obtain⟨a,m,x,y,rfl,ha,hm,hl,hr'⟩:=ht
  refine ite2 (fun c=>absurd (ZH c) (by intro z;cases z)) (fun c=>?_)
  exists _,rfl,a,_,_,_,rfl,rfl,SqT.of ha,rfl,rfl,_,rfl
  refine ite2 (fun c=>absurd (ZH c) {}) (fun c=>?_)
  exists _,rfl,_,rfl,_,_,rfl,rfl
  rcases hmk with rfl | rfl
  ·exact⟨a,_,_,_,rfl,rfl,SqT.of ha,rfl,q x hl⟩
  ·exact⟨a,_,_,_,rfl,rfl,SqT.of ha,rfl,q y hr'⟩
noncomputable def idxs(p:Int->Bool):List Int->List Nat
 | []=>[]
 | o::os=>if p o=true then 0::(idxs p os).map (· + 1) else(idxs p os).map (· + 1)
theorem q487:∀(os:List Int)(k:Nat),(∀ o∈os,p o=(q o&&r (f o)))->(idxs p os)[k]? = ((idxs r ((os.filter q).map f))[k]?).bind fun j=>(idxs q os)[j]?
 | [],k,_=>by simp[idxs]
 | o::os,k,h=>by
  have h0:=h o (WF ..)
  have ih:=fun k=>q487 (p:=p) (q:=q) (r:=r) (f:=f) os k fun x hx=>h x (ZZ _ hx)
  cases hq:q o with
  | false=>
   have hp:p o=false:=by rw[h0,hq];rfl
   simp only[idxs,hp,hq,YI,Bool.false_eq_true,if_false,WN,ih]
   cases(idxs r ((os.filter q).map f))[k]? <;> simp
  | true=>
   cases hr:r (f o) with
   | false=>
    have hp:p o=false:=by rw[h0,hq,hr];rfl
    simp only[idxs,hp,hq,hr,YI,Bool.false_eq_true,if_false,if_true,map_cons,WN,ih]
    cases(idxs r ((os.filter q).map f))[k]? <;> simp
   | true=>
    have hp:p o=true:=by rw[h0,hq,hr];rfl
    cases k with
    | zero=>simp[idxs,hp,hq,hr,YI]
    | succ k=>
     simp only[idxs,hp,hq,hr,YI,if_true,map_cons,getElem?_cons_succ,WN,ih]
     cases(idxs r ((os.filter q).map f))[k]? <;> simp
theorem q488:∀(os:List Int),idxs (fun _=>true) os=List.range os.length
 | []=>rfl
 | o::os=>by
  rw[idxs,ZJ rfl,q488 os,WZ,range_succ_eq_map]
noncomputable def inW:Nat->Int->List Int->Bool
 | _,_,[]=>true
 | 0,_,_::_=>false
 | e+1,o,w::ws=>(o/2^e==w)&&inW e (o%2^e) ws
noncomputable def mk0(e:Nat)(o:Int):Int:=if o<2^e then 0 else 1
noncomputable def halfO(e:Nat)(w:Int)(os:List Int):List Int:=(os.filter fun o=>mk0 e o==w).map fun o=>o%2^e
theorem q720{e:Nat}{o:Int}(h0:0<=o)(h1:o<2^(e+1)):o/2^e=mk0 e o:=by
 have hp:(0:Int)<2^e:=Int.pow_pos {}
 have hs:(2:Int)^(e+1)=2^e+2^e:=by rw[YJ];lia
 unfold mk0
 split
 ·exact Int.ediv_eq_zero_of_lt h0 (by assumption)
 ·have e1:o=(o-2^e)+1*2^e:=∅
  rw[e1,Int.add_mul_ediv_right _ _ ∅,Int.ediv_eq_zero_of_lt ∅ ∅]
  rfl
noncomputable def spots(L:Nat)(os ws:List Int):List Nat:=idxs (fun o=>inW L o ws) os
theorem q632{e:Nat}{os ws:List Int}{w:Int}(h:∀ o∈os,0<=o/\o<(2:Int)^(e+1))(k:Nat) :
  (spots (e+1) os (w::ws))[k]? = ((spots e (halfO e w os) ws)[k]?).bind fun j=>(idxs (fun o=>mk0 e o==w) os)[j]?:=by
 unfold spots halfO
 refine q487 os k fun o ho=>?_
 obtain⟨h0,h1⟩:=h o ho
 show((o/2^e==w)&&inW e (o%2^e) ws)=_
 rw[q720 h0 h1]
noncomputable def plc(mk:Int):List Int->Int->Nat->Option Nat
 | [],_,_=>none
 | m::r,l,i=>if m=mk then(if l=0 then some i else plc mk r (l-1) (i+1))else plc mk r l (i+1)
theorem q419{w:Int}{f:Int->Int}:∀(os:List Int)(j i:Nat),plc w (os.map f) (j:Int) i=((idxs (fun o=>f o==w) os)[j]?).map (· + i)
 | [],j,i=>by simp[plc,idxs]
 | o::os,j,i=>by
  rw[map_cons,plc,idxs]
  by_cases c:f o=w
  ·rw[ZJ c,ZJ (beq_iff_eq.mpr c)]
   cases j with
   | zero=>simp
   | succ j=>
    rw[ZI ∅,show(((j+1:Nat):Int)-1)=(j:Int) by lia,q419 os j (i+1),getElem?_cons_succ,WN,Option.map_map]
    congr 1
    funext x
    show x+(i+1)=(x+1)+i
    lia
  ·rw[ZI c,ZI (by rw[beq_iff_eq];exact c),q419 os j (i+1),WN,Option.map_map]
   congr 1
   funext x
   show x+(i+1)=(x+1)+i
   lia
def InO(L:Nat)(os:List Int):Prop:=∀ o∈os,0<=o/\o<(2:Int)^L
noncomputable def growO:Nat->List Int->Tr
 | 0,os=>if os=[]then .non else .many os.length
 | e+1,os=>if os=[]then .non else .part (os.map (mk0 e)) (growO e (os.filter fun o=>decide (o<2^e))) (growO e ((os.filter fun o=>decide ((2:Int)^e<=o)).map fun o=>o-2^e))
theorem q119(e:Nat):growO e [] = .non:=by cases e <;> rfl
theorem q378{os:List Int}(h:os≠[]):growO 0 os = .many os.length:=by unfold growO;rw[ZI h]
theorem q93{e:Nat}{os:List Int}(h:os≠[]):growO (e+1) os = .part (os.map (mk0 e)) (growO e (os.filter fun o=>decide (o<2^e))) (growO e ((os.filter fun o=>decide ((2:Int)^e<=o)).map fun o=>o-2^e)):=by
 rw[growO,ZI h]
theorem q721{e:Nat}{os:List Int}(h:InO (e+1) os):halfO e 0 os=os.filter fun o=>decide (o<2^e):=by
 unfold halfO
 have e1:(os.filter fun o=>mk0 e o==0)=os.filter fun o=>decide (o<2^e):=filter_congr fun o _=>by
  unfold mk0
  by_cases c:o<2^e
  ·rw[ZJ c,ZA c];rfl
  ·rw[ZI c,ZK c];rfl
 rw[e1]
 have e2:∀ o∈(os.filter fun o=>decide (o<(2:Int)^e)),o%2^e=o:=fun o ho=>by
  obtain⟨h1,h2⟩:=List.mem_filter.mp ho
  exact Int.emod_eq_of_lt (h o h1).1 (ZH h2)
 rw[YZ e2,map_id']
theorem q722{e:Nat}{os:List Int}(h:InO (e+1) os):halfO e 1 os=(os.filter fun o=>decide ((2:Int)^e<=o)).map fun o=>o-2^e:=by
 unfold halfO
 have e1:(os.filter fun o=>mk0 e o==1)=os.filter fun o=>decide ((2:Int)^e<=o):=filter_congr fun o _=>by
  unfold mk0
  by_cases c:o<2^e
  ·rw[ZJ c,ZK ∅];rfl
  ·rw[ZI c,ZA ∅];rfl
 rw[e1]
 refine YZ fun o ho=>?_
 obtain⟨h1,h2⟩:=List.mem_filter.mp ho
 have h3:(2:Int)^e<=o:=ZH h2
 have h4:=(h o h1).2
 have hs:(2:Int)^(e+1)=2^e+2^e:=by rw[YJ];lia
 have e3:o=(o-2^e)+2^e:=∅
 have e4:o%2^e=(o-2^e)%2^e:=by rw[e3,Int.add_emod_right];congr 1;lia
 rw[e4]
 exact Int.emod_eq_of_lt ∅ ∅
theorem q45{e:Nat}{os:List Int}{w:Int}:InO e (halfO e w os):=fun o ho=>by
 obtain⟨x,_,rfl⟩:=List.mem_map.mp ho
 have hp:(0:Int)<2^e:=Int.pow_pos {}
 exact⟨YH _ ∅,YB _ hp⟩
theorem q120{e:Nat}{os:List Int}{w:Int}:(halfO e w os).length<=os.length:=by
 unfold halfO
 rw[ZN]
 exact YE _ _
theorem q379{e:Nat}{os:List Int}{w:Int}(h:InO (e+1) os)(hw:w=0\/w=1):trHalf (growO (e+1) os) w=growO e (halfO e w os):=by
 by_cases hn:os=[]
 ·subst hn
  rw[q119]
  show Tr.non=growO e ([]:List Int)
  rw[q119]
 ·rw[q93 hn]
  rcases hw with rfl | rfl
  ·rw[q721 h];rfl
  ·rw[q722 h];rfl
theorem q633(e:Nat)(os:List Int):trSize (growO e os)=os.length:=by
 by_cases h:os=[]
 ·rw[h,q119];rfl
 ·cases e with
  | zero=>rw[q378 h];rfl
  | succ e=>
   rw[q93 h]
   show((List.map _ os).length:Int)=_
   rw[ZN]
theorem q723{L:Nat}:spots L [] ws=[]:=rfl
theorem q528{L:Nat}{os:List Int}:spots L os []=List.range os.length:=by
 unfold spots
 have e:(fun o=>inW L o [])=fun _=>true:=by
  funext o
  cases L <;> rfl
 rw[e,q488]
theorem q634{e:Nat}{os ws:List Int}{w:Int}(h:InO (e+1) os)(k:Nat) :
  (spots (e+1) os (w::ws))[k]? = ((spots e (halfO e w os) ws)[k]?).bind fun j=>plc w (os.map (mk0 e)) (j:Int) 0:=by
 rw[q632 h]
 congr 1
 funext j
 rw[q419]
 simp
noncomputable def B01(l:List Int):Prop:=∀ m∈l,m=0\/m=1
theorem q489{l:List Int}{i:Nat}{m:Int}(h:l[i]? = some m):l.drop i=m::l.drop (i+1):=by
 obtain⟨h1,h2⟩:=List.getElem?_eq_some_iff.mp h
 rw[drop_eq_getElem_cons h1,h2]
theorem plc_cons{mk m l:Int}{i:Nat}:plc mk (m::r) l i=if m=mk then(if l=0 then some i else plc mk r (l-1) (i+1))else plc mk r l (i+1):=rfl
theorem cut_take(ms:List Int)(k:Nat):cutV (ms.map V.int) none (some (k:Int))=(ms.take k).map V.int:=by
 unfold cutV
 rw[HT.q753,HT.q752,drop_zero,Nat.sub_zero,map_take]
 by_cases h:k<=(ms.map V.int).length
 ·rw[YY h]
 ·rw[Nat.min_eq_right ∅,YD,WT ∅]
inductive q316(K:Fg)(vs:List V)(H:Hp)(Q:VK)(E:XK):Prop
 |mk(t:Addr)(ms:List Int)(mk num:Int)(p:Nat)(_:vs=[.ref t,.int mk,.int num])(_:SqT K H t (ms.map V.int))(_:plc mk ms num 0=some p)(_:∀ H',Same H H'->Q (.int (p:Nat)) H')
theorem q529:z.C P w 1 "place_of" ["marks", "mark", "number"] (q316 K):=by
 have sc:=q521
 refine z.d_place_of.cal fun f fd F=>F.k sc fun _ _ _ s H _ Q _ hr h=>?_
 obtain⟨t,ms,mk,num,p0,rfl,ht,hp0,q⟩:=h
 refine⟨_,(q11 (pst 3 sc.nd (pv 2))
 (q11 (q60 PassesOwn.never rfl (pi_enum rfl z.enumerate_ (q10 (pv 0) q12)) (q200 rfl (q28 (pgn 4 sc.nd) (q28 (pgn 5 sc.nd) q97)))
 (q16 (ps_if (q18 op_eq (pv 5) (pv 1) (q20 _))
 (q11 (ps_if (q18 op_eq (pv 3) q14 (q20 _))
 (q16 (q19 (pv 4)))
 q21)
 (q16 (pst 3 sc.nd (pe_op q54 (pv 3) q14))))
 q21)))
 (q16 q395))),?_⟩
 refine⟨_,rfl,_,rfl,t,rfl,⟨_,ht⟩,for_enum (xs:=ms.map V.int) (fun i σ H2=>∃(L:Int)(v u:Option V),σ=[some (.ref t),some (.int mk),some (.int num),some (.int L),v,u]/\Same H H2/\plc mk (ms.drop i) L i=some p0)
  ⟨num,none,none,rfl,Same.refl H,hp0⟩ (fun i σ H2 _ ⟨_,_,_,_,s2,_⟩=>s2.seqT ht) ?_ ?_⟩
 ·rintro i x σ H2 p hx ⟨L,v,u,rfl,s2,hp⟩ hpn
  obtain⟨m,gm,rfl⟩:∃ m,ms[i]? = some m/\V.int m=x:=by
   rw[WN]at hx
   cases e:ms[i]? with
   | none=>rw[e]at hx;cases hx
   | some m=>rw[e]at hx;exact⟨m,rfl,Option.some.inj hx⟩
  have s3:Same H (upd H2 p (.tup [.int (i:Nat),.int m])):=s2.trans (q15 hpn _)
  rw[q489 gm,plc_cons]at hp
  exists p,_,rfl,SqT.of q13,rfl,_,_,rfl,_,_,rfl,rfl
  exists _,rfl,_,rfl,rfl,_,rfl
  refine ite2 (fun c=>?_) (fun c=>?_)
  ·have c':m=mk:=V.int.inj (ZH c)
   rw[ZJ c']at hp
   exists _,rfl,rfl,_,rfl
   refine ite2 (fun c2=>?_) (fun c2=>?_)
   ·have c2':L=0:=V.int.inj (ZH c2)
    rw[ZJ c2']at hp
    cases hp
    exact⟨_,rfl,q _ s3⟩
   ·have c2':¬ L=0:=fun z=>c2 (by rw[z];exact ZA rfl)
    rw[ZI c2']at hp
    exact⟨_,rfl,_,_,rfl,rfl,_,_,_,rfl,s3,hp⟩
  ·have c':¬ m=mk:=fun z=>c (by rw[z];exact ZA rfl)
   rw[ZI c']at hp
   exact⟨_,_,_,rfl,s3,hp⟩
 ·rintro σ H2 ⟨L,v,u,rfl,s2,hp⟩
  rw[ZN,drop_length]at hp
  cases hp
theorem all_flat(ms:List Int):(ms.map V.int).all flatV=true:=by
 rw[all_eq_true]
 intro x hx
 obtain⟨i,_,rfl⟩:=List.mem_map.mp hx
 rfl
theorem q724(ms:List Int)(m:Int):(ms.map V.int).countP (fun y=>eqV y (.int m))=ms.count m:=by
 rw[countP_map,count_eq_countP]
 rfl
inductive q580(u0:Fg)(vs:List V)(H:Hp)(Q:VK)(E:XK):Prop
 |mk(t:Addr)(ms:List Int)(mk:Int)(pl:Nat)(_:vs=[.ref t,.int mk,.int (pl:Int)])(_:TupF H t (ms.map V.int))(_:∀ H',Same H H'->Q (.int ((ms.take pl).count mk:Nat)) H')
theorem q581:z.C P w 1 "ahead" ["marks", "mark", "place"] (q580 K):=by
 have sc:=sc_ahead
 refine z.d_ahead.cal fun f fd F=>F.k sc fun _ _ _ s H _ Q _ hr h=>?_
 obtain⟨t,ms,mk,pl,rfl,ht,q⟩:=h
 exists _,(q16 (q19 (pe_bmF PySem.F.plainAttrs_tuple PySem.F.slot_tuple_count PySem.F.type_tuple_count q665 (q124 q664 (pv 0) q187 (q188 (q35 (q648 rfl) () z.max_ bt_max (q10 (pv 2) (q10 q14 q12))))) (q10 (pv 1) q12))))
 have e1:(if(0:Int) > (pl:Int) then(0:Int) else(pl:Int))=(pl:Int):=ZI ∅
 refine⟨_,rfl,_,rfl,_,_,rfl,_,rfl,t,_,rfl,ht,fun p H1 s1 h1=>?_⟩
 rw[e1,cut_take]at h1
 obtain⟨o,ho,hc,hd⟩:=id h1
 exists⟨p,o,_,rfl,ho,hc,hd⟩,_,rfl,p,_,_,rfl,rfl,h1.sq,rfl,all_flat _
 rw[q724]
 exact q H1 s1
abbrev G3:=List Int×Nat×Nat
noncomputable def GoodS(L:Nat)(g:G3):Prop:=InO L g.1/\g.2.1<=g.2.2/\g.2.2<=g.1.length/\g.1.length<=300
noncomputable def led1(e:Nat)(w:Int)(g:G3):G3:=(halfO e w g.1,((g.1.map (mk0 e)).take g.2.1).count w,((g.1.map (mk0 e)).take g.2.2).count w)
noncomputable def ledS:Nat->List Int->G3->G3
 | _,[],g=>g
 | 0,_::_,g=>g
 | e+1,w::ws,g=>ledS e ws (led1 e w g)
theorem q53(L:Nat)(g:G3):ledS L [] g=g:=by cases L <;> rfl
theorem q65(e:Nat)(w:Int)(ws:List Int)(g:G3):ledS (e+1) (w::ws) g=ledS e ws (led1 e w g):=rfl
theorem q281(e:Nat)(w:Int)(os:List Int):(os.map (mk0 e)).count w=(halfO e w os).length:=by
 unfold halfO
 rw[ZN,count_eq_countP,countP_map,countP_eq_length_filter]
 rfl
theorem q100{e:Nat}{w:Int}(h:GoodS (e+1) g):GoodS e (led1 e w g):=by
 obtain⟨h1,h2,h3,h4⟩:=h
 refine⟨q45,?_,?_,ZR q120 h4⟩
 ·exact(take_sublist_take_left h2).count_le w
 ·show((g.1.map (mk0 e)).take g.2.2).count w<=(halfO e w g.1).length
  rw[<- q281]
  exact(take_sublist _ _).count_le w
theorem q490{e:Nat}{w:Int}{g:G3}(h:halfO e w g.1=[]):led1 e w g=([],0,0):=by
 have z:∀ k,((g.1.map (mk0 e)).take k).count w=0:=fun k=>by
  have h1:=(take_sublist k (g.1.map (mk0 e))).count_le w
  rw[q281,h,length_nil]at h1
  lia
 unfold led1
 rw[h,z,z]
theorem q582:∀(e:Nat)(ws:List Int),ledS e ws ([],0,0)=([],0,0)
 | e,[]=>q53 e _
 | 0,_::_=>rfl
 | e+1,w::ws=>by
  rw[q65,q490 (e:=e) (w:=w) (g:=([],0,0)) rfl]
  exact q582 e ws
noncomputable def manyG(gs:List G3):Int:=(gs.map fun g=>(g.2.2:Int)-g.2.1).sum
theorem cnt01{e:Nat}(os:List Int)(k:Nat):((os.map (mk0 e)).take k).count 0+((os.map (mk0 e)).take k).count 1=min k os.length:=by
 have z:∀ l:List Int,(l.map (mk0 e)).count 0+(l.map (mk0 e)).count 1=l.length:=fun l=>by
  induction l with
  | nil=>rfl
  | cons x l ih=>
   rw[map_cons,count_cons,count_cons,WZ]
   unfold mk0 at ih ⊢
   by_cases c:x<2^e
   ·simp only[c,if_true]at ih ⊢
    simp
    lia
   ·simp only[c,if_false]at ih ⊢
    simp
    lia
 rw[<- map_take,z,length_take]
theorem q380{p q:Int->Bool}:∀{os:List Int},(∀ o∈os,p o=q o)->idxs p os=idxs q os
 | [],_=>rfl
 | o::os,h=>by
  rw[idxs,idxs,h o (WF ..),q380 fun x hx=>h x (ZZ _ hx)]
noncomputable def StrAt(H:Hp)(L:Nat)(v:V)(g:G3):Prop:=∃ t u,v = .ref t/\H t=some (.tup [u,.int (g.2.1:Int),.int (g.2.2:Int)])/\q55 H u (growO L g.1)
noncomputable def GatAt(H:Hp)(L:Nat)(xs:List V)(gs:List G3):Prop:=xs.length=gs.length /\ ∀(j:Nat)(x:V)(g:G3),xs[j]? = some x->gs[j]? = some g->StrAt H L x g
theorem StrAt.tk{L:Nat}(h:StrAt H L v g)(k:TKeep H H'):StrAt H' L v g:=by
 obtain⟨t,u,e,h1,h2⟩:=h
 exact⟨t,u,e,(k _ _).1 h1,h2.tk k⟩
theorem GatAt.tk{L:Nat}(h:GatAt H L xs gs)(k:TKeep H H'):GatAt H' L xs gs:=⟨h.1,fun j x g h1 h2=>(h.2 j x g h1 h2).tk k⟩
theorem GatAt.same{L:Nat}(h:GatAt H L xs gs)(s:Same H H'):GatAt H' L xs gs:=h.tk (.same s)
theorem GatAt.nil(H:Hp)(L:Nat):GatAt H L [] []:=⟨rfl,fun j x g h1 _=>by simp at h1⟩
theorem q91{α:Type}{l:List α}{x y:α}{j:Nat}(h:(l++[x])[j]? = some y):(j<l.length/\l[j]? = some y)\/(j=l.length/\y=x):=by
 by_cases hj:j<l.length
 ·rw[YS hj]at h
  exact .inl ⟨hj,h⟩
 ·have hlt:j<(l++[x]).length:=(List.getElem?_eq_some_iff.mp h).1
  rw[ZV,length_singleton]at hlt
  have e:j=l.length:=∅
  subst e
  rw[YN (ZG _),Nat.sub_self]at h
  exact .inr ⟨rfl,(Option.some.inj h).symm⟩
theorem GatAt.snoc{L:Nat}(h:GatAt H L xs gs)(hx:StrAt H L x g):GatAt H L (xs++[x]) (gs++[g]):=by
 refine⟨by rw[ZV,ZV,h.1] <;> rfl,fun j y k h1 h2=>?_⟩
 have hl:=h.1
 rcases q91 h1 with ⟨a1,a2⟩ | ⟨a1,a2⟩
 ·rcases q91 h2 with ⟨b1,b2⟩ | ⟨b1,b2⟩
  ·exact h.2 j y k a2 b2
  ·lia
 ·rcases q91 h2 with ⟨b1,b2⟩ | ⟨b1,b2⟩
  ·lia
  ·rw[a2,b2];exact hx
theorem Same.own(k:Same H H')(hr:H r=none):Same H (upd H' r o):=fun c u z=>by
 rw[q27 (q24 z hr)]
 exact k c u z
theorem q725{H:Hp}{e:Nat}{os:List Int}(h:q55 H .non (growO e os)):os=[]:=by
 apply Classical.byContradiction
 intro hn
 cases e with
 | zero=>
  rw[q378 hn]at h
  obtain⟨a,z,_⟩:=h
  cases z
 | succ e=>
  rw[q93 hn]at h
  obtain⟨a,m,x,y,z,_⟩:=h
  cases z
noncomputable def q350(K:Fg):Sp:=fun vs H Q _=>∃(v:V)(wy:Addr)(L:Nat)(ws:List Int)(g:G3),vs=[v,.ref wy]/\StrAt H L v g/\GoodS L g/\SqT K H wy (ws.map V.int)/\ws.length<=L/\B01 ws /\
 ∀(H':Hp)(v':V),Same H H'->StrAt H' (L-ws.length) v' (ledS L ws g)->Q v' H'
inductive sp_led(K:Fg)(vs:List V)(H:Hp)(Q:VK)(E:XK):Prop
 |mk(ga wy:Addr)(xs:List V)(L:Nat)(ws:List Int)(gs:List G3)(_:vs=[.ref ga,.ref wy])(_:SqL K H ga xs)(_:GatAt H L xs gs)(_:(∀ g∈gs,GoodS L g))(_:gs.length<=1000)(_:SqT K H wy (ws.map V.int))(_:ws.length<=L)(_:B01 ws)(_:∀(H':Hp)(D:Addr)(ys:List V),Same H H'->H' D=some (.lst ys)->H D=none->GatAt H' (L-ws.length) ys (gs.map (ledS L ws))->Q (.ref D) H')
inductive q381(K:Fg)(vs:List V)(H:Hp)(Q:VK)(E:XK):Prop
 |mk(ga:Addr)(xs:List V)(L:Nat)(gs:List G3)(_:vs=[.ref ga])(_:SqL K H ga xs)(_:GatAt H L xs gs)(_:gs.length<=1000)(_:∀ H',Same H H'->Q (.int (manyG gs)) H')
theorem q38:z.C P w 1 "many_in" ["gathering"] (q381 K):=by
 have sc:=q628
 refine z.d_many_in.cal fun f fd F=>F.k sc fun _ _ _ s H _ Q _ hr h=>?_
 obtain⟨ga,xs,L,gs,rfl,hga,hg,hl,q⟩:=h
 exists _,(q16 (q19 (q35 (q455 rfl) () z.sum_ bt_sum (q10 (q140 (cl:=[]) (cn:=[]) (N:=[]) (fr:=[]) (sc0:=q17 q302) rfl (q32 (pv 0)) (fun C s₂ H₂ fp=>(pe_op q54 (pix (q69 (K:=K) rfl) (pv 0) q14) (pix (q69 (K:=K) rfl) (pv 0) q14))) (by ac_rfl) trivial rfl rfl rfl cok rfl) q12))))
 have hxl:=hg.1
 refine⟨_,rfl,ga,rfl,⟨_,hga⟩,fun D hD=>?_⟩
 refine q70 (xs:=xs) (sz ∅) (fun i ys H2=>ys=(gs.take i).map (fun g=>V.int ((g.2.2:Int)-g.2.1))/\i<=gs.length/\H2=upd H D (.lst ys)) ⟨by simp,WB _,rfl⟩ (fun i ys H2 ⟨_,_,e⟩=>by rw[e];exact(q15 hD _).seq hga)
  (fun i ys H2 ⟨e1,e2,e3⟩=>⟨by rw[e3];exact q13,by rw[e1,ZN,length_take];lia⟩) ?_ ?_
 ·rintro i x ys H2 hx ⟨e1,e2,rfl⟩
  have hi:i<gs.length:=by rw[<- hxl];exact(List.getElem?_eq_some_iff.mp hx).1
  have gi:gs[i]? = some gs[i]:=ZP hi
  generalize gs[i]=g at gi
  obtain⟨t,u,rfl,ht,_⟩:=hg.2 i x g hx gi
  have ht':SqT K (upd H D (.lst ys)) t [u,.int (g.2.1:Int),.int (g.2.2:Int)]:=SqT.of (q15 hD _ _ _ ht)
  refine⟨_,rfl,t,_,_,_,rfl,rfl,ht',rfl,_,rfl,t,_,_,_,rfl,rfl,ht',rfl,_,_,rfl,rfl,q13,?_,∅,by rw[q84]⟩
  rw[WU,gi,WQ,<- e1]
  rfl
 ·rintro ys H2 ⟨e1,e2,rfl⟩
  rw[hxl,YD]at e1
  refine⟨D,gs.map (fun(g:G3)=>(g.2.2:Int)-(g.2.1:Int)),rfl,SqL.of ?_,q _ (q15 hD _)⟩
  rw[q13,e1,map_map]
  rfl
theorem q351:z.C P w 2 "led_stretch" ["stretch", "way"] (q350 K):=by
 have sc:=q336
 refine z.d_led_stretch.cal fun f fd F=>F.k sc fun _ _ _ s H _ Q _ hr h=>?_
 obtain⟨v,wy,L,ws,g,rfl,⟨t,u,rfl,ht,hu⟩,hgood,hw,hwl,h01,q⟩:=h
 refine⟨_,(q11 (pst 2 sc.nd (pix q26 (pv 0) q14))
 (q11 (pst 3 sc.nd (pix q26 (pv 0) q14))
 (q11 (pst 4 sc.nd (pix q26 (pv 0) q14))
 (q11 (q60 PassesOwn.never rfl (q438 (pv 1)) (pgn 5 sc.nd)
 (q11 (pst 6 sc.nd (pe_fn (q377 z) hr.m () (q10 (pv 2) (q10 (pv 5) q12))))
 (q11 (ps_if (q18 q291 (pv 6) q95 (q20 _))
 (q16 (q19 (q30 (q10 q95 (q10 q14 (q10 q14 q12))))))
 q21)
 (q11 (pst 3 sc.nd (pe_fn (q581 z) hr.m () (q10 (pix q26 (pv 2) q14) (q10 (pv 5) (q10 (pv 3) q12)))))
 (q11 (pst 4 sc.nd (pe_fn (q581 z) hr.m () (q10 (pix q26 (pv 2) q14) (q10 (pv 5) (q10 (pv 4) q12)))))
 (q16 (pst 2 sc.nd (pv 6))))))))
 (q16 (q19 (q30 (q10 (pv 2) (q10 (pv 3) (q10 (pv 4) q12)))))))))),?_⟩
 have htt:SqT K H t [u,.int (g.2.1:Int),.int (g.2.2:Int)]:=SqT.of ht
 exists _,rfl,t,_,_,_,rfl,rfl,htt,rfl,_,rfl,t,_,_,_,rfl,rfl,htt,rfl,_,rfl,t,_,_,_,rfl,rfl,htt,rfl
 refine⟨_,rfl,wy,rfl,⟨_,hw⟩,q289 (K:=K) (a:=wy) (xs:=ws.map V.int) (fun i σ H2=>∃(u':V)(g':G3)(v5 v6:Option V),σ=[some (.ref t),some (.ref wy),some u',some (.int (g'.2.1:Int)),some (.int (g'.2.2:Int)),v5,v6]/\Same H H2/\q55 H2 u' (growO (L-i) g'.1)/\GoodS (L-i) g'/\i<=ws.length/\ledS L ws g=ledS (L-i) (ws.drop i) g')
  ⟨u,g,none,none,rfl,Same.refl H,hu,hgood,WB _,rfl⟩ (fun i σ H2 _ ⟨_,_,_,_,_,s2,_⟩=>s2.seqT hw) ?_ ?_⟩
 ·rintro i x σ H2 hi ⟨u',g',v5,v6,rfl,s2,hu',hg',hil,hled⟩
  obtain⟨wv,hwv,rfl⟩:∃ t,ws[i]? = some t/\x = .int t:=by
   rw[WN]at hi
   cases e:ws[i]? with
   | none=>rw[e]at hi;cases hi
   | some m=>rw[e]at hi;exact⟨m,rfl,(Option.some.inj hi).symm⟩
  have hil2:i<ws.length:=(List.getElem?_eq_some_iff.mp hwv).1
  have hw01:=h01 wv (WV hwv)
  obtain⟨e,he⟩:∃ e,L-i=e+1:=⟨L-i-1,∅⟩
  have he2:L-(i+1)=e:=∅
  have hdr:ws.drop i=wv::ws.drop (i+1):=by
   obtain⟨h1,h2⟩:=List.getElem?_eq_some_iff.mp hwv
   rw[drop_eq_getElem_cons h1,h2]
  rw[he]at hu' hg' hled
  rw[hdr,q65]at hled
  refine⟨_,rfl,_,rfl,u',_,wv,rfl,hu',hw01,fun u2 hu2=>?_⟩
  rw[q379 hg'.1 hw01]at hu2
  exists _,rfl,rfl,_,rfl
  refine ite2 (fun c=>?_) (fun c=>?_)
  ·have c':u2 = .non:=ZH c
   subst c'
   have h0:=q725 hu2
   rw[q490 h0,q582]at hled
   refine⟨szb rfl,fun p hp=>q _ _ (s2.trans (q15 hp _)) ?_⟩
   rw[hled]
   exact⟨p,.non,rfl,q13,by rw[q119];rfl⟩
  ·have hne:g'.1≠[]:=fun z=>c (by
    rw[z]at hu2
    have e0:halfO e wv []=[]:=rfl
    rw[e0,q119]at hu2
    exact ZA hu2)
   have hu3:=hu'
   rw[q93 hne]at hu3
   obtain⟨a,m,x1,y1,rfl,ha,hm,_,_⟩:=hu3
   refine⟨_,rfl,a,_,_,_,rfl,rfl,SqT.of ha,rfl,_,rfl,_,rfl,m,g'.1.map (mk0 e),wv,g'.2.1,rfl,hm,fun H3 s3=>?_⟩
   refine⟨_,rfl,a,_,_,_,rfl,rfl,SqT.of (s3 _ _ ha),rfl,_,rfl,_,rfl,m,g'.1.map (mk0 e),wv,g'.2.2,rfl,hm.same s3,fun H4 s4=>?_⟩
   exists _,rfl,u2,led1 e wv g',_,_,rfl,s2.trans (s3.trans s4),?_,?_,∅
   ·rw[he2];exact(hu2.same s3).same s4
   ·rw[he2];exact q100 hg'
   ·rw[he2];exact hled
 ·rintro σ H2 ⟨u',g',v5,v6,rfl,s2,hu',hg',hil,hled⟩
  rw[ZN]at hu' hled
  rw[drop_length,q53]at hled
  refine⟨_,rfl,_,rfl,_,rfl,szb rfl,fun p hp=>q _ _ (s2.trans (q15 hp _)) ?_⟩
  rw[hled]
  exact⟨p,u',rfl,q13,hu'.same (q15 hp _)⟩
theorem q145:z.C P w 3 "led" pn17 (sp_led K):=by
 have sc:=sc_led
 refine z.d_led.cal fun f fd F=>F.k sc fun _ _ _ s H _ Q _ hr h=>?_
 obtain⟨ga,wy,xs,L,ws,gs,rfl,hga,hg,hgood,hl,hw,hwl,h01,q⟩:=h
 exists _,(q16 (q19 (q140 (cl:=[("way", s.heap.objs.size+1+0)]) (cn:=["way"]) (N:=["way"]) (fr:=[1]) (sc0:=q17 s_led) rfl (q32 (pv 0)) (fun C s₂ H₂ fp=>(pe_fn (q351 z) hr.m () (q10 (pv 0) (q10 (pv 1) q12)))) (by ac_rfl) ⟨by ac_rfl,trivial⟩ rfl rfl rfl cok rfl)))
 have hxl:=hg.1
 refine⟨_,rfl,ga,rfl,⟨_,hga⟩,fun D hD=>?_⟩
 refine q70 (xs:=xs) (sz ∅) (fun i ys H2=>H2 D=some (.lst ys)/\ys.length=i/\Same H H2/\GatAt H2 (L-ws.length) ys ((gs.take i).map (ledS L ws))) ⟨q13,rfl,q15 hD _,by simp only[take_zero,map_nil];exact GatAt.nil _ _⟩ (fun i ys H2 ⟨_,_,e,_⟩=>e.seq hga)
  (fun i ys H2 ⟨e1,e2,_,_⟩=>⟨e1,e2⟩) ?_ ?_
 ·rintro i x ys H2 hx ⟨e1,e2,s2,hg2⟩
  have hi:i<gs.length:=by rw[<- hxl];exact(List.getElem?_eq_some_iff.mp hx).1
  have gi:gs[i]? = some gs[i]:=ZP hi
  generalize gs[i]=g at gi
  refine⟨_,rfl,_,rfl,x,wy,L,ws,g,rfl,(hg.2 i x g hx gi).tk (.same s2),hgood g (WV gi),s2.seqT hw,hwl,h01,fun H3 v' s3 hv'=>?_⟩
  have e3:=s3 _ _ e1
  have tk:TKeep H3 (upd H3 D (.lst (ys++[v']))):=TKeep.set e3
  exists e3,q13,by rw[ZV,e2] <;> rfl,Same.own (s2.trans s3) hD
  rw[WU,gi,WQ]
  exact((hg2.same s3).tk tk).snoc (hv'.tk tk)
 ·rintro ys H2 ⟨e1,e2,s2,hg2⟩
  rw[hxl,YD]at hg2
  exact q H2 D ys s2 e1 hD hg2
theorem q246{q:Int->Bool}:∀(os:List Int)(s:Nat),(os.filter q).take ((os.take s).countP q)=(os.take s).filter q
 | [],s=>by simp
 | x::os,0=>by simp
 | x::os,s+1=>by
  rw[take_succ_cons,YT,YI,YI]
  by_cases c:q x=true
  ·rw[ZJ c,ZJ c,ZJ c,take_succ_cons,q246 os s]
  ·rw[ZI c,ZI c,ZI c,Nat.add_zero]
   exact q246 os s
theorem q247{e:Nat}{w:Int}(os:List Int)(s:Nat):(halfO e w os).take (((os.map (mk0 e)).take s).count w)=halfO e w (os.take s):=by
 unfold halfO
 rw[<- map_take,<- map_take,count_eq_countP,countP_map]
 congr 1
 exact q246 os s
theorem q73{e:Nat}{w:Int}(os:List Int):(halfO e w os).countP p=os.countP fun o=>(mk0 e o==w)&&p (o%2^e):=by
 unfold halfO
 rw[countP_map,countP_filter]
 congr 1
 funext o
 show(p (o%2^e)&&(mk0 e o==w))=_
 rw[Bool.and_comm]
theorem q282{e:Nat}{o w:Int}(h:0<=o/\o<(2:Int)^(e+1)):inW (e+1) o (w::ws)=((mk0 e o==w)&&inW e (o%2^e) ws):=by
 show((o/2^e==w)&&inW e (o%2^e) ws)=_
 rw[q720 h.1 h.2]
noncomputable def selO(L:Nat)(os ws:List Int):List Int:=(os.filter fun o=>inW L o ws).map fun o=>o%2^(L-ws.length)
theorem mod_pow{a b:Nat}{o:Int}(h:a<=b):(o%2^b)%2^a=o%2^a:=by
 refine Int.emod_emod_of_dvd o ?_
 exact⟨2^(b-a),by rw[<- Int.pow_add];congr 1;lia⟩
theorem q583:∀(L:Nat)(ws os:List Int)(s t:Nat),ws.length<=L->InO L os ->
  ledS L ws (os,s,t)=(selO L os ws,(os.take s).countP (fun o=>inW L o ws),(os.take t).countP (fun o=>inW L o ws))\/(os.length<s\/os.length<t)
 | L,[],os,s,t,_,hin=>by
  by_cases hs:os.length<s
  ·exact .inr (.inl hs)
  ·by_cases ht:os.length<t
   ·exact .inr (.inr ht)
   ·refine .inl ?_
    rw[q53]
    have e:(fun o=>inW L o [])=fun _=>true:=by
     funext o
     cases L <;> rfl
    unfold selO
    rw[e]
    have c1:∀ l:List Int,l.countP (fun _=>true)=l.length:=fun l=>by simp
    have c2:(os.filter fun _=>true)=os:=by simp
    rw[c1,c1,c2,length_take,length_take,YY ∅,YY ∅]
    have c3:os.map (fun o=>o%2^(L-([]:List Int).length))=os:=by
     have:∀ o∈os,o%2^(L-([]:List Int).length)=id o:=fun o ho=>Int.emod_eq_of_lt (hin o ho).1 (hin o ho).2
     rw[YZ this,map_id]
    rw[c3]
 | 0,_::_,_,_,_,h,_=>absurd h (Nat.not_succ_le_zero _)
 | e+1,w::ws,os,s,t,h,hin=>by
  by_cases hs:os.length<s
  ·exact .inr (.inl hs)
  ·by_cases ht:os.length<t
   ·exact .inr (.inr ht)
   ·refine .inl ?_
    have hl:ws.length<=e:=by rw[WZ]at h;lia
    rw[q65]
    have hc:∀ k,((os.map (mk0 e)).take k).count w<=(halfO e w os).length:=fun k=>by
     rw[<- q281]
     exact(take_sublist _ _).count_le w
    have ih:=q583 e ws (halfO e w os) (((os.map (mk0 e)).take s).count w) (((os.map (mk0 e)).take t).count w) hl q45
    rcases ih with ih | ih | ih
    ·show ledS e ws (halfO e w os,_,_)=_
     rw[ih,q247,q247,q73,q73]
     have hcong:∀ l:List Int,(∀ o∈l,o∈os)->l.countP (fun o=>(mk0 e o==w)&&inW e (o%2^e) ws)=l.countP fun o=>inW (e+1) o (w::ws):=fun l hl=>by
      refine countP_congr fun o ho=>?_
      rw[q282 (hin o (hl o ho))]
     rw[hcong _ fun o ho=>mem_of_mem_take ho,hcong _ fun o ho=>mem_of_mem_take ho]
     have hsel:selO e (halfO e w os) ws=selO (e+1) os (w::ws):=by
      unfold selO halfO
      rw[filter_map,filter_filter,map_map,WZ,Nat.add_sub_add_right]
      have f1:(os.filter fun a=>((fun o=>inW e o ws)∘fun o=>o%2^e) a&&(mk0 e a==w))=os.filter fun o=>inW (e+1) o (w::ws):=filter_congr fun o ho=>by
       rw[q282 (hin o ho),Bool.and_comm]
       rfl
      rw[f1]
      refine YZ fun o _=>?_
      exact mod_pow ∅
     rw[hsel]
    ·have:=hc s;lia
    ·have:=hc t;lia
theorem q491:∀(os:List Int),(idxs p os).map (fun i=>(os[i]?).getD 0)=os.filter p
 | []=>rfl
 | o::os=>by
  rw[idxs,YI]
  have e:((idxs p os).map (· + 1)).map (fun i=>((o::os)[i]?).getD 0)=os.filter p:=by
   rw[map_map,<- q491 os]
   refine YZ fun i _=>?_
   simp
  by_cases c:p o=true
  ·rw[ZJ c,ZJ c,map_cons,e]
   rfl
  ·rw[ZI c,ZI c,e]
theorem q420(os:List Int){a b:Nat}(h:a<=b):(os.take a).countP q<=(os.take b).countP q:=by
 have e:os.take a=(os.take b).take a:=by rw[take_take,YY h]
 rw[e]
 exact(take_sublist a (os.take b)).countP_le
theorem cnt_step{os:List Int}{i:Nat}{o:Int}(h:os[i]? = some o)(hq:q o=true):(os.take (i+1)).countP q=(os.take i).countP q+1:=by
 rw[WU,h,countP_append]
 simp[hq]
theorem q421:∀(os:List Int)(j i:Nat),(idxs q os)[j]? = some i -> ∃ o,os[i]? = some o/\q o=true/\(os.take i).countP q=j
 | [],j,i,h=>by simp[idxs]at h
 | o::os,j,i,h=>by
  rw[idxs]at h
  by_cases c:q o=true
  ·rw[ZJ c]at h
   cases j with
   | zero=>
    have:i=0:=by simpa using h.symm
    subst this
    exact⟨o,rfl,c,rfl⟩
   | succ j=>
    have h':((idxs q os).map (· + 1))[j]? = some i:=by simpa using h
    rw[WN]at h'
    cases e:(idxs q os)[j]? with
    | none=>rw[e]at h';cases h'
    | some i'=>
     rw[e]at h'
     have:i=i'+1:=(Option.some.inj h').symm
     subst this
     obtain⟨o',h1,h2,h3⟩:=q421 os j i' e
     exact⟨o',by simpa using h1,h2,by rw[take_succ_cons,YT,h3,ZJ c]⟩
  ·rw[ZI c]at h
   have h':((idxs q os).map (· + 1))[j]? = some i:=by simpa using h
   rw[WN]at h'
   cases e:(idxs q os)[j]? with
   | none=>rw[e]at h';cases h'
   | some i'=>
    rw[e]at h'
    have:i=i'+1:=(Option.some.inj h').symm
    subst this
    obtain⟨o',h1,h2,h3⟩:=q421 os j i' e
    exact⟨o',by simpa using h1,h2,by rw[take_succ_cons,YT,h3,ZI c] <;> rfl⟩
theorem q146{e:Nat}{o w:Int}(h0:0<=o)(h1:o<2^(e+1))(hw:mk0 e o=w):o%2^e+w*2^e=o:=by
 have d:=q720 h0 h1
 rw[hw]at d
 have:=Int.emod_add_mul_ediv o (2^e)
 rw[d,Int.mul_comm]at this
 exact this
theorem mk0b(e:Nat)(o:Int):mk0 e o=0\/mk0 e o=1:=by
 unfold mk0
 by_cases h:o<2^e
 ·exact .inl (ZJ h)
 ·exact .inr (ZI h)
noncomputable def sel(g:G3):List Int:=(g.1.take g.2.2).drop g.2.1
noncomputable def Wh(gs:List G3):List Int:=gs.flatMap sel
theorem sel_len{L:Nat}{g:G3}(h:GoodS L g):((sel g).length:Int)=(g.2.2:Int)-g.2.1:=by
 obtain⟨_,h1,h2,_⟩:=h
 unfold sel
 rw[length_drop,length_take,YY h2]
 lia
theorem q101{L:Nat}:∀{gs:List G3},(∀ g∈gs,GoodS L g)->manyG gs=((Wh gs).length:Nat)
 | [],_=>rfl
 | g::gs,h=>by
  have ih:=q101 (gs:=gs) fun x hx=>h x (ZZ _ hx)
  have hg:=sel_len (h g WF)
  unfold manyG at ih ⊢
  unfold Wh at ih ⊢
  rw[map_cons,sum_cons,ih,flatMap_cons,ZV]
  lia
theorem q492{e:Nat}{w:Int}(a b:List Int):halfO e w (a++b)=halfO e w a++halfO e w b:=by
 unfold halfO
 rw[filter_append,WQ]
theorem q147{e:Nat}{w:Int}(os:List Int):(os.map (mk0 e)).count w=(halfO e w os).length:=q281 e w os
theorem sel_led1{e:Nat}{w:Int}(h:GoodS (e+1) g):sel (led1 e w g)=halfO e w (sel g):=by
 obtain⟨_,h1,h2,_⟩:=h
 show((halfO e w g.1).take (((g.1.map (mk0 e)).take g.2.2).count w)).drop (((g.1.map (mk0 e)).take g.2.1).count w)=_
 rw[q247]
 have e1:g.1.take g.2.2=g.1.take g.2.1++sel g:=by
  unfold sel
  have:=(take_append_drop g.2.1 (g.1.take g.2.2)).symm
  rw[take_take,YY h1]at this
  exact this
 rw[e1,q492]
 have e2:((g.1.map (mk0 e)).take g.2.1).count w=(halfO e w (g.1.take g.2.1)).length:=by
  rw[<- map_take]
  exact q147 _
 rw[e2,drop_left]
theorem W_led{e:Nat}{w:Int}:∀{gs:List G3},(∀ g∈gs,GoodS (e+1) g)->Wh (gs.map (led1 e w))=halfO e w (Wh gs)
 | [],_=>rfl
 | g::gs,h=>by
  have ih:=W_led (w:=w) (gs:=gs) fun x hx=>h x (ZZ _ hx)
  unfold Wh at ih ⊢
  rw[map_cons,flatMap_cons,flatMap_cons,q492,ih,sel_led1 (h g WF)]
noncomputable def fillG(gs:List G3):List G3:=gs.filter fun g=>decide (g.2.1<g.2.2)
theorem q102:∀{gs:List G3},Wh (fillG gs)=Wh gs
 | []=>rfl
 | g::gs=>by
  have ih:=q102 (gs:=gs)
  unfold fillG Wh at ih ⊢
  rw[YI]
  by_cases c:g.2.1<g.2.2
  ·rw[ZJ (ZA c),flatMap_cons,flatMap_cons,ih]
  ·rw[ZI (by simpa using c),ih,flatMap_cons]
   have:sel g=[]:=by
    unfold sel
    rw[drop_eq_nil_iff,length_take]
    lia
   rw[this,nil_append]
theorem q81{L:Nat}(h:∀ g∈gs,GoodS L g):∀ g∈fillG gs,GoodS L g:=fun g hg=>h g (List.mem_filter.mp hg).1
theorem W_in{L:Nat}(h:∀ g∈gs,GoodS L g):InO L (Wh gs):=fun o ho=>by
 obtain⟨g,hg,ho⟩:=List.mem_flatMap.mp ho
 exact(h g hg).1 o (mem_of_mem_take (mem_of_mem_drop ho))
theorem W_app(a b:List G3):Wh (a++b)=Wh a++Wh b:=flatMap_append
abbrev P2:=Int×Int
noncomputable def caF(part floor:Int):Nat->Int->List Int->List P2
 | 0,least,ws=>if(ws.length:Int)*part<=floor then[] else[(least,(ws.length:Int))]
 | e+1,least,ws=>if(ws.length:Int)*part<=floor then[]else caF part floor e least (halfO e 0 ws)++caF part floor e (least+2^e) (halfO e 1 ws)
theorem ca_le{part floor:Int}:∀(e:Nat)(least:Int)(ws:List Int),∀ p∈caF part floor e least ws,p.2<=(ws.length:Int)
 | 0,least,ws,p,hp=>by
  unfold caF at hp
  by_cases c:(ws.length:Int)*part<=floor
  ·rw[ZJ c]at hp;cases hp
  ·rw[ZI c]at hp;rw[List.mem_singleton.mp hp];exact Int.le_refl _
 | e+1,least,ws,p,hp=>by
  unfold caF at hp
  by_cases c:(ws.length:Int)*part<=floor
  ·rw[ZJ c]at hp;cases hp
  ·rw[ZI c]at hp
   have l0:=q120 (e:=e) (os:=ws) (w:=0)
   have l1:=q120 (e:=e) (os:=ws) (w:=1)
   rcases List.mem_append.mp hp with hp | hp
   ·have:=ca_le e _ _ p hp;lia
   ·have:=ca_le e _ _ p hp;lia
theorem q726{part floor:Int}(hp:1<=part)(hf:0<=floor):∀(e:Nat)(least:Int)(ws:List Int),caF part floor e least ws=(caF 1 0 e least ws).filter fun p=>decide (floor<p.2*part):=by
 have mono:∀{a b:Int},a<=b->a*part<=b*part:=fun h=>Int.mul_le_mul_of_nonneg_right h ∅
 have q196:∀(e:Nat)(least:Int)(ws:List Int),(ws.length:Int)*part<=floor->(caF 1 0 e least ws).filter (fun p=>decide (floor<p.2*part))=[]:=fun e least ws c=>by
  rw[filter_eq_nil_iff]
  intro p h
  have:=mono (ca_le e least ws p h)
  simp
  lia
 have pos:∀{n:Nat},¬(n:Int)*part<=floor -> ¬(n:Int)*1<=0:=fun {n} c z=>c (by
  have:n=0:=∅
  rw[this]
  simp
  exact hf)
 intro e
 induction e with
 | zero=>
  intro least ws
  by_cases c:(ws.length:Int)*part<=floor
  ·rw[q196 0 least ws c]
   unfold caF
   rw[ZJ c]
  ·unfold caF
   rw[ZI c,ZI (pos c),YI,ZJ (ZA (by show floor<(ws.length:Int)*part;lia)),filter_nil]
 | succ e ih=>
  intro least ws
  by_cases c:(ws.length:Int)*part<=floor
  ·rw[q196 (e+1) least ws c]
   unfold caF
   rw[ZJ c]
  ·unfold caF
   rw[ZI c,ZI (pos c),filter_append,ih,ih]
theorem q94{e:Nat}{w x:Int}{ws:List Int}(h:InO (e+1) ws)(hw:w=0\/w=1)(h0:0<=x)(h1:x<2^e):(halfO e w ws).count x=ws.count (x+w*2^e):=by
 rw[count_eq_countP,count_eq_countP,q73]
 refine countP_congr fun o ho=>?_
 have hin:=h o ho
 have hp:=p2pos e
 rw[WL,beq_iff_eq,beq_iff_eq,beq_iff_eq]
 constructor
 ·rintro ⟨a,b⟩
  rw[<- b]
  exact(q146 hin.1 hin.2 a).symm
 ·intro a
  have e2:(2:Int)^(e+1)=2*2^e:=by rw[YJ];lia
  have hm:mk0 e o=w:=by
   unfold mk0
   rcases hw with rfl | rfl
   ·rw[ZJ ∅]
   ·rw[ZI ∅]
  exists hm
  have:=q146 hin.1 hin.2 hm
  lia
theorem q493:∀(e:Nat)(least:Int)(ws:List Int),InO e ws -> ∀(w m:Int),(w,m)∈caF 1 0 e least ws↔(m=(ws.count (w-least):Nat)/\0<m)
 | 0,least,ws,hin,w,m=>by
  have hz:∀ x∈ws,x=0:=fun x hx=>by
   have:=hin x hx
   simp at this
   lia
  unfold caF
  by_cases c:(ws.length:Int)*1<=0
  ·rw[ZJ c]
   have:ws=[]:=eq_nil_of_length_eq_zero ∅
   subst this
   simp
   lia
  ·rw[ZI c,mem_singleton]
   have call:ws.count 0=ws.length:=List.count_eq_length.mpr fun b hb=>(hz b hb).symm
   constructor
   ·intro z
    cases z
    rw[Int.sub_self,call]
    exact⟨rfl,∅⟩
   ·rintro ⟨h1,h2⟩
    have:(w-least)∈ws:=List.count_pos_iff.mp ∅
    have z:=hz _ this
    rw[z,call]at h1
    have:w=least:=∅
    rw[this,h1]
 | e+1,least,ws,hin,w,m=>by
  have hp:=p2pos e
  have e2:(2:Int)^(e+1)=2*2^e:=by rw[YJ];lia
  unfold caF
  by_cases c:(ws.length:Int)*1<=0
  ·rw[ZJ c]
   have:ws=[]:=eq_nil_of_length_eq_zero ∅
   subst this
   simp
   lia
  ·rw[ZI c,mem_append,q493 e _ _ q45,q493 e _ _ q45]
   have rng:∀{x:Int}{us:List Int},InO e us->0<us.count x->0<=x/\x<2^e:=fun h h0=>h _ (List.count_pos_iff.mp h0)
   constructor
   ·rintro (⟨h1,h2⟩ | ⟨h1,h2⟩)
    ·have r:=rng q45 (show 0<(halfO e 0 ws).count (w-least) by lia)
     rw[q94 hin (.inl rfl) r.1 r.2]at h1
     have:w-least+0*2^e=w-least:=∅
     rw[this]at h1
     exact⟨h1,h2⟩
    ·have r:=rng q45 (show 0<(halfO e 1 ws).count (w-(least+2^e)) by lia)
     rw[q94 hin (.inr rfl) r.1 r.2]at h1
     have:w-(least+2^e)+1*2^e=w-least:=∅
     rw[this]at h1
     exact⟨h1,h2⟩
   ·rintro ⟨h1,h2⟩
    have r:=hin _ (List.count_pos_iff.mp (show 0<ws.count (w-least) by lia))
    by_cases d:w-least<2^e
    ·refine .inl ⟨?_,h2⟩
     rw[q94 hin (.inl rfl) r.1 d]
     have:w-least+0*2^e=w-least:=∅
     rw[this]
     exact h1
    ·refine .inr ⟨?_,h2⟩
     rw[q94 hin (.inr rfl) ∅ ∅]
     have:w-(least+2^e)+1*2^e=w-least:=∅
     rw[this]
     exact h1
theorem q494{e:Nat}{least:Int}{ws:List Int}(hin:InO e ws){p:P2}(h:p∈caF 1 0 e least ws):least<=p.1/\p.1<least+2^e/\0<p.2/\p.2=(ws.count (p.1-least):Nat):=by
 obtain⟨h1,h2⟩:=(q493 e least ws hin p.1 p.2).mp h
 have r:=hin _ (List.count_pos_iff.mp (show 0<ws.count (p.1-least) by lia))
 exact⟨∅,∅,h2,h1⟩
theorem q422:∀(e:Nat)(least:Int)(ws:List Int),InO e ws->(caF 1 0 e least ws).Pairwise fun p q=>p.1<q.1
 | 0,least,ws,_=>by
  unfold caF
  by_cases c:(ws.length:Int)*1<=0
  ·rw[ZJ c];exact .nil
  ·rw[ZI c];simp
 | e+1,least,ws,hin=>by
  unfold caF
  by_cases c:(ws.length:Int)*1<=0
  ·rw[ZJ c];exact .nil
  ·rw[ZI c,pairwise_append]
   refine⟨q422 e _ _ q45,q422 e _ _ q45,fun p hp q hq=>?_⟩
   have:=q494 q45 hp
   have:=q494 q45 hq
   lia
theorem q217{e:Nat}(ws:List Int):(halfO e 0 ws).length+(halfO e 1 ws).length=ws.length:=by
 have:=cnt01 (e:=e) ws ws.length
 rw[Nat.min_self,WT (by simp),q147,q147]at this
 exact this
noncomputable def sumM(ps:List P2):Int:=(ps.map fun p=>p.2).sum
theorem q727:∀(e:Nat)(least:Int)(ws:List Int),sumM (caF 1 0 e least ws)=(ws.length:Int)
 | 0,least,ws=>by
  unfold caF
  by_cases c:(ws.length:Int)*1<=0
  ·rw[ZJ c];show(0:Int)=_;lia
  ·rw[ZI c];show(ws.length:Int)+0=_;lia
 | e+1,least,ws=>by
  unfold caF
  by_cases c:(ws.length:Int)*1<=0
  ·rw[ZJ c];show(0:Int)=_;lia
  ·rw[ZI c]
   have h1:=q727 e least (halfO e 0 ws)
   have h2:=q727 e (least+2^e) (halfO e 1 ws)
   have h3:=q217 (e:=e) ws
   unfold sumM at h1 h2 ⊢
   rw[WQ,sum_append,h1,h2]
   lia
noncomputable def bstep(b:Option P2)(p:P2):Option P2:=match b with
 | none=>some p
 | some q=>if p.2 > q.2 then some p else some q
noncomputable def bst(ps:List P2):Option P2:=ps.foldl bstep none
theorem q530:∀(ps:List P2)(q:P2),∃ r,ps.foldl bstep (some q)=some r/\(r=q\/r∈ps)/\q.2<=r.2/\(∀ p∈ps,p.2<=r.2)/\(((q::ps).filter fun p=>decide (p.2=r.2)).head? = some r)
 | [],q=>⟨q,rfl,.inl rfl,Int.le_refl _,(fun p hp=>nomatch hp),by simp⟩
 | x::ps,q=>by
  rw[foldl_cons]
  by_cases c:x.2 > q.2
  ·have e:bstep (some q) x=some x:=by show(if _ then _ else _)=_;rw[ZJ c]
   rw[e]
   obtain⟨r,h1,h2,h3,h4,h5⟩:=q530 ps x
   exists r,h1,.inr ?_,∅,fun p hp=>?_
   ·rcases h2 with rfl | h2
    ·exact WF
    ·exact ZZ _ h2
   ·rcases List.mem_cons.mp hp with rfl | hp
    ·exact h3
    ·exact h4 p hp
   ·rw[YI,ZI (by simp;lia)]
    exact h5
  ·have e:bstep (some q) x=some q:=by show(if _ then _ else _)=_;rw[ZI c]
   rw[e]
   obtain⟨r,h1,h2,h3,h4,h5⟩:=q530 ps q
   exists r,h1,?_,h3,fun p hp=>?_
   ·rcases h2 with rfl | h2
    ·exact .inl rfl
    ·exact .inr (ZZ _ h2)
   ·rcases List.mem_cons.mp hp with rfl | hp
    ·lia
    ·exact h4 p hp
   ·rw[YI]at h5 ⊢
    by_cases d:q.2=r.2
    ·rw[ZJ (ZA d)]at h5 ⊢
     exact h5
    ·rw[ZI (by simpa using d)]at h5 ⊢
     rw[YI,ZI (by simp;lia)]
     exact h5
theorem q584{ps:List P2}(h:ps≠[]):∃ r,bst ps=some r/\r∈ps/\(∀ p∈ps,p.2<=r.2)/\((ps.filter fun p=>decide (p.2=r.2)).head? = some r):=by
 cases ps with
 | nil=>exact absurd rfl h
 | cons q ps=>
  obtain⟨r,h1,h2,h3,h4,h5⟩:=q530 ps q
  refine⟨r,h1,?_,fun p hp=>?_,h5⟩
  ·rcases h2 with rfl | h2
   ·exact WF
   ·exact ZZ _ h2
  ·rcases List.mem_cons.mp hp with rfl | hp
   ·exact h3
   ·exact h4 p hp
theorem few{part W:Int}(hp:1<=part)(hW:0<=W):∀(ps:List P2),(∀ p∈ps,W<p.2*part)->((ps.length:Int)*(W+1)<=sumM ps*part)
 | [],_=>by simp[sumM]
 | p::ps,h=>by
  have ih:=few hp hW ps fun q hq=>h q (ZZ _ hq)
  have h0:=h p WF
  unfold sumM at ih ⊢
  rw[map_cons,sum_cons,WZ,Int.add_mul]
  have:((ps.length+1:Nat):Int)*(W+1)=(ps.length:Int)*(W+1)+(W+1):=by
   rw[Int.natCast_add,Int.add_mul];simp
  rw[this]
  lia
noncomputable def stS(p:Int×Int)(t:Int):Int×Int:=(if t=1 then p.1+p.2/2 else p.1,p.2/2)
noncomputable def spanS(low:Int)(L:Nat)(ws:List Int):Int×Int:=ws.foldl stS (low,2^L)
theorem q585(e:Nat):(2:Int)^(e+1)/2=2^e:=by rw[YJ];lia
theorem q728{α:Type}{l:List α}{i:Nat}{x:α}(h:l[i]? = some x):l.take (i+1)=l.take i++[x]:=by rw[WU,h];rfl
theorem ints_get{ws:List Int}{i:Nat}(h:(ws.map V.int)[i]? = some x):∃ t,ws[i]? = some t/\x = .int t:=by
 rw[WN]at h
 cases e:ws[i]? with
 | none=>rw[e]at h;cases h
 | some t=>rw[e]at h;exact⟨t,rfl,(Option.some.inj h).symm⟩
theorem q495{α β:Type}{f:β->α->β}{b:β}{l:List α}{i:Nat}{x:α}(h:l[i]? = some x):(l.take (i+1)).foldl f b=f ((l.take i).foldl f b) x:=by
 rw[q728 h,foldl_append];rfl
inductive q382(K:Fg)(vs:List V)(H:Hp)(Q:VK)(E:XK):Prop
 |mk(b wy:Addr)(low:Int)(L:Nat)(ws:List Int)(_:vs=[.ref b,.ref wy])(_:SqT K H b [.int low,.int (L:Int)])(_:L<=40)(_:SqT K H wy (ws.map V.int))(_:∀ p,H p=none->Q (.ref p) (upd H p (.tup [.int (spanS low L ws).1,.int ((spanS low L ws).1+(spanS low L ws).2-1)])))
theorem q383:z.C P w 2 "span_of" ["bounds", "way"] (q382 K):=by
 have sc:=q624
 refine z.d_span_of.cal fun f fd F=>F.k sc fun _ _ _ s H _ Q _ hr h=>?_
 obtain⟨b,wy,low,L,ws,rfl,hb,hL,hw,q⟩:=h
 refine⟨_,(q11 (pst 2 sc.nd (pix q26 (pv 0) q14))
 (q11 (pst 3 sc.nd (pe_fn (q47 z) hr.m () (q10 (pix q26 (pv 0) q14) q12)))
 (q11 (q60 PassesOwn.never rfl (q438 (pv 1)) (pgn 4 sc.nd)
 (q11 (pst 3 sc.nd (pe_op q89 (pv 3) q14))
 (q16 (ps_if (q18 op_eq (pv 4) q14 (q20 _))
 (q16 (pst 2 sc.nd (pe_op q29 (pv 2) (pv 3))))
 q21))))
 (q16 (q19 (q30 (q10 (pv 2) (q10 (pe_op q54 (pe_op q29 (pv 2) (pv 3)) q14) q12)))))))),?_⟩
 exists _,rfl,b,_,_,_,rfl,rfl,hb,rfl,_,rfl,b,_,_,_,rfl,rfl,hb,rfl,L,rfl,hL
 refine⟨_,rfl,wy,rfl,⟨_,hw⟩,q289 (K:=K) (a:=wy) (xs:=ws.map V.int) (fun i σ H2=>∃ v:Option V,σ=[some (.ref b),some (.ref wy),some (.int ((ws.take i).foldl stS (low,2^L)).1),some (.int ((ws.take i).foldl stS (low,2^L)).2),v]/\H2=H)
  ⟨none,rfl,rfl⟩ (fun i σ H2 _ ⟨_,_,e⟩=>by rw[e];exact hw) ?_ ?_⟩
 ·rintro i x σ H2 hi ⟨v,rfl,rfl⟩
  obtain⟨t,ht,rfl⟩:=ints_get hi
  exists _,rfl,_,_,rfl,rfl,⟨{},{}⟩
  exists _,rfl,rfl,_,rfl
  refine ite2 (fun c=>?_) (fun c=>?_)
  ·have c':t=1:=V.int.inj (ZH c)
   refine⟨_,rfl,_,rfl,_,_,rfl,rfl,some (.int t),?_,rfl⟩
   rw[q495 ht]
   unfold stS
   rw[ZJ c']
   rfl
  ·have c':¬ t=1:=fun z=>c (by rw[z];exact ZA rfl)
   refine⟨some (.int t),?_,rfl⟩
   rw[q495 ht]
   unfold stS
   rw[ZI c']
   rfl
 ·rintro σ H2 ⟨v,rfl,rfl⟩
  refine⟨_,rfl,_,rfl,_,rfl,_,_,rfl,rfl,_,_,rfl,rfl,szb rfl,fun p hp=>?_⟩
  have e:ws.take (ws.map V.int).length=ws:=by rw[ZN];exact YD
  have q':=q p hp
  unfold spanS at q'
  rw[<- e]at q'
  exact q'
theorem q496(s:Same H H1)(hD:H D=none)(o:HO):Same H (upd H1 D o):=fun b u q=>by rw[q27 (q24 q hD)];exact s b u q
def AllAt{α:Type}(R:Hp->V->α->Prop)(H:Hp)(xs:List V)(ps:List α):Prop:=xs.length=ps.length /\ ∀(j:Nat)(x:V)(p:α),xs[j]? = some x->ps[j]? = some p->R H x p
section
variable {α:Type} {R:Hp->V->α->Prop} {H H':Hp} {xs ys:List V} {ps qs:List α}
theorem AllAt.imp(h:AllAt R H xs ps)(f:∀ x p,R H x p->R H' x p):AllAt R H' xs ps:=⟨h.1,fun j x p h1 h2=>f x p (h.2 j x p h1 h2)⟩
theorem AllAt.nil:AllAt R H [] []:=⟨rfl,fun j x p h1 _=>by simp at h1⟩
theorem AllAt.get(h:AllAt R H xs ps){j:Nat}(hx:xs[j]? = some x):∃ p,ps[j]? = some p/\R H x p:=by
 have hj:j<ps.length:=by rw[<- h.1];exact(List.getElem?_eq_some_iff.mp hx).1
 exact⟨ps[j],ZP hj,h.2 j x ps[j] hx (ZP hj)⟩
theorem AllAt.app(h:AllAt R H xs ps)(k:AllAt R H ys qs):AllAt R H (xs++ys) (ps++qs):=by
 refine⟨by rw[ZV,ZV,h.1,k.1],fun j y p h1 h2=>?_⟩
 by_cases c:j<xs.length
 ·rw[YS c]at h1
  rw[YS (by rw[<- h.1];exact c)]at h2
  exact h.2 j y p h1 h2
 ·rw[YN ∅]at h1
  rw[YN (by rw[<- h.1];lia),<- h.1]at h2
  exact k.2 _ y p h1 h2
end
def PsR(H:Hp)(v:V)(p:P2):Prop:=∃ a,v = .ref a/\H a=some (.tup [.int p.1,.int p.2])
theorem PsR.tk(k:TKeep H H')(h:PsR H v p):PsR H' v p:=by
 obtain⟨a,e,h1⟩:=h
 exact⟨a,e,(k _ _).1 h1⟩
theorem ps_tk(h:AllAt PsR H xs ps)(k:TKeep H H'):AllAt PsR H' xs ps:=h.imp fun _ _ z=>z.tk k
theorem q729(h:AllAt PsR H xs ps)(s:Same H H'):AllAt PsR H' xs ps:=ps_tk h (.same s)
theorem ca_len{part floor:Int}(hp:1<=part)(hf:0<=floor){e:Nat}{least:Int}{ws:List Int}(hin:InO e ws):(caF part floor e least ws).length<=ws.length:=by
 rw[q726 hp hf]
 refine ZR (YE _ _) ?_
 have h:=few (part:=1) (W:=0) {} {} (caF 1 0 e least ws) (fun p hp=>by have:=(q494 hin hp).2.2.1;lia)
 rw[q727]at h
 lia
inductive q497(K:Fg)(vs:List V)(H:Hp)(Q:VK)(E:XK):Prop
 |mk(ga:Addr)(xs:List V)(L:Nat)(gs:List G3)(_:vs=[.ref ga])(_:SqL K H ga xs)(_:GatAt H L xs gs)(_:gs.length<=1000)(_:∀(H':Hp)(D:Addr)(ys:List V),Same H H'->H' D=some (.lst ys)->H D=none->GatAt H' L ys (fillG gs)->Q (.ref D) H')
theorem q82:z.C P w 1 "filled" ["gathering"] (q497 K):=by
 have sc:=q717
 refine z.d_filled.cal fun f fd F=>F.k sc fun _ _ _ s H _ Q _ hr h=>?_
 obtain⟨ga,xs,L,gs,rfl,hga,hg,hl,q⟩:=h
 exists _,(q16 (q19 (q64 (cl:=[]) (cn:=[]) (N:=[]) (fr:=[]) (sc0:=q17 q411) rfl (q32 (pv 0)) (fun C s₂ H₂ fp=>(pv 0)) (fun C s₂ H₂ fp=>(q18 op_lt (pix (q69 (K:=K) rfl) (pv 0) q14) (pix (q69 (K:=K) rfl) (pv 0) q14) (q20 _))) (by ac_rfl) trivial rfl rfl rfl cok rfl)))
 have hxl:=hg.1
 refine⟨_,rfl,ga,rfl,⟨_,hga⟩,fun D hD=>?_⟩
 refine q141 (K:=K) (xs:=xs) (sz ∅) (fun i ys H2=>H2=upd H D (.lst ys)/\ys.length<=i/\GatAt H L ys (fillG (gs.take i))) ⟨rfl,ZG _,GatAt.nil _ _⟩ (fun i ys H2 ⟨e,_⟩=>by rw[e];exact(q15 hD _).seq hga)
  (fun i ys H2 ⟨e,e2,_⟩=>⟨by rw[e];exact q13,e2⟩) ?_ ?_
 ·rintro i x ys H2 hx ⟨rfl,e2,e3⟩
  have hi:i<gs.length:=by rw[<- hxl];exact(List.getElem?_eq_some_iff.mp hx).1
  have gi:gs[i]? = some gs[i]:=ZP hi
  generalize gs[i]=g at gi
  have hsx:=hg.2 i x g hx gi
  obtain⟨t,u,rfl,ht,hu⟩:=hsx
  have ht':SqT K (upd H D (.lst ys)) t [u,.int (g.2.1:Int),.int (g.2.2:Int)]:=SqT.of (q15 hD _ _ _ ht)
  exists _,rfl,t,_,_,_,rfl,rfl,ht',rfl,_,rfl,t,_,_,_,rfl,rfl,ht',rfl,_,_,rfl,rfl,_,rfl
  have et:fillG (gs.take (i+1))=fillG (gs.take i)++fillG [g]:=by
   unfold fillG
   rw[WU,gi,filter_append]
   rfl
  refine ite2 (fun c=>?_) (fun c=>?_)
  ·have c':=ZH c
   have ef:fillG [g]=[g]:=by
    unfold fillG
    rw[YI,ZJ (ZA ∅)]
    rfl
   exists _,rfl,q13,by rw[q84],by rw[ZV];simp;lia
   rw[et,ef]
   exact e3.snoc ⟨t,u,rfl,ht,hu⟩
  ·have c':¬(g.2.1:Int)<g.2.2:=fun z=>c (ZA z)
   have ef:fillG [g]=[]:=by
    unfold fillG
    rw[YI,ZI (by simp;lia)]
    rfl
   exists _,∅,rfl,∅,rfl,∅
   rw[et,ef,append_nil]
   exact e3
 ·rintro ys H2 ⟨rfl,e2,e3⟩
  rw[hxl,YD]at e3
  exact q _ D ys (q15 hD _) q13 hD (e3.same (q15 hD _))
noncomputable def wayW:Nat->Int->List Int
 | 0,_=>[]
 | e+1,o=>if o<2^e then 0::wayW e o else 1::wayW e (o-2^e)
theorem q148{e:Nat}{o:Int}(h:o<2^e):wayW (e+1) o=0::wayW e o:=by
 show(if o<2^e then _ else _)=_
 rw[ZJ h]
theorem q149{e:Nat}{o:Int}(h:¬ o<2^e):wayW (e+1) o=1::wayW e (o-2^e):=by
 show(if o<2^e then _ else _)=_
 rw[ZI h]
theorem pow2(e:Nat):(2:Int)^(e+1)=2^e+2^e:=by rw[YJ];lia
theorem q161:∀(e:Nat)(o:Int),(wayW e o).length=e
 | 0,_=>rfl
 | e+1,o=>by
  by_cases h:o<2^e
  ·rw[q148 h,WZ,q161 e]
  ·rw[q149 h,WZ,q161 e]
theorem q248:∀(e:Nat)(o:Int),∀ m∈wayW e o,m=0\/m=1
 | 0,_,m,hm=>by cases hm
 | e+1,o,m,hm=>by
  by_cases h:o<2^e
  ·rw[q148 h]at hm
   rcases List.mem_cons.mp hm with z | z
   ·exact .inl z
   ·exact q248 e _ m z
  ·rw[q149 h]at hm
   rcases List.mem_cons.mp hm with z | z
   ·exact .inr z
   ·exact q248 e _ m z
theorem where_in{low n:Int}{L:Nat}:q483 low L n = "within" ↔ (low<=n/\n<=low+2^L-1):=by
 unfold q483
 by_cases h:n<low
 ·rw[ZJ h]
  exact⟨fun z=>absurd z {},fun z=>∅⟩
 ·rw[ZI h]
  by_cases h2:low+2^L-1<n
  ·rw[ZJ h2]
   exact⟨fun z=>absurd z {},fun z=>∅⟩
  ·rw[ZI h2]
   exact⟨fun _=>∅,fun _=>rfl⟩
noncomputable def mlF:Nat->List Int->List Int->Int
 | _,[],_=>0
 | 0,_::_,_=>0
 | e+1,w::ws,us=>(if w=1 then((halfO e 0 us).length:Int)else 0)+mlF e ws (halfO e w us)
theorem q730:∀(e:Nat)(o:Int)(us:List Int),0<=o->o<2^e->InO e us->mlF e (wayW e o) us=(us.countP fun x=>decide (x<o):Nat)
 | 0,o,us,h0,h1,hin=>by
  have:us.countP (fun x=>decide (x<o))=0:=List.countP_eq_zero.mpr fun x hx=>by
   have:=hin x hx
   simp at *
   lia
  rw[this]
  rfl
 | e+1,o,us,h0,h1,hin=>by
  have p:=pow2 e
  have hp:=p2pos e
  by_cases c:o<2^e
  ·rw[q148 c,mlF,ZI {},q730 e o _ h0 c q45,q73,Int.zero_add]
   congr 1
   refine countP_congr fun x hx=>?_
   have hx':=hin x hx
   rw[WL,beq_iff_eq,WA,WA]
   constructor
   ·rintro ⟨a,b⟩
    have:=q146 hx'.1 hx'.2 a
    lia
   ·intro a
    have hm:mk0 e x=0:=by unfold mk0;rw[ZJ ∅]
    have:=q146 hx'.1 hx'.2 hm
    exact⟨hm,∅⟩
  ·rw[q149 c,mlF,ZJ rfl,q730 e (o-2^e) _ ∅ ∅ q45,q73]
   have l0:(halfO e 0 us).length=us.countP fun x=>mk0 e x==0:=by
    unfold halfO
    rw[ZN,countP_eq_length_filter]
   rw[l0]
   have key:∀ us:List Int,(∀ x∈us,0<=x/\x<(2:Int)^(e+1))->(us.countP fun x=>mk0 e x==0)+(us.countP fun x=>(mk0 e x==1)&&decide (x%2^e<o-2^e))=us.countP fun x=>decide (x<o):=by
    intro us
    induction us with
    | nil=>intro _;rfl
    | cons x us ih=>
     intro h
     have ih':=ih fun y hy=>h y (ZZ _ hy)
     have hx':=h x WF
     rw[YT,YT,YT,<- ih']
     rcases mk0b e x with m | m
     ·have hxl:x<2^e:=by
       unfold mk0 at m
       by_cases z:x<2^e
       ·exact z
       ·rw[ZI z]at m;lia
      rw[m]
      simp[show x<o by lia]
      lia
     ·have:=q146 hx'.1 hx'.2 m
      have hxg:¬ x<2^e:=by
       unfold mk0 at m
       intro z
       rw[ZJ z]at m;lia
      rw[m]
      by_cases z:x<o
      ·have z2:x%2^e<o-2^e:=∅
       simp[z,z2]
       lia
      ·have z2:¬ x%2^e<o-2^e:=∅
       simp[z,z2]
   have:=key us hin
   lia
inductive q498(K:Fg)(vs:List V)(H:Hp)(Q:VK)(E:XK):Prop
 |mk(b:Addr)(low num:Int)(L:Nat)(_:vs=[.ref b,.int num])(_:SqT K H b [.int low,.int (L:Int)])(_:L<=40)(_:(low<=num/\num<=low+2^L-1))(_:∀ t H',Same H H'->TupF H' t ((wayW L (num-low)).map V.int)->Q (.ref t) H')
inductive q172(K:Fg)(vs:List V)(H:Hp)(Q:VK)(E:XK):Prop
 |mk(ga wy:Addr)(xs:List V)(L:Nat)(o:Int)(gs:List G3)(_:vs=[.ref ga,.ref wy])(_:SqL K H ga xs)(_:GatAt H L xs gs)(_:(∀ g∈gs,GoodS L g))(_:gs.length<=100)(_:SqT K H wy ((wayW L o).map V.int))(_:0<=o)(_:o<2^L)(_:∀ H',Same H H'->Q (.int ((Wh gs).countP fun x=>decide (x<o):Nat)) H')
inductive q586(K:Fg)(vs:List V)(H:Hp)(Q:VK)(E:XK):Prop
 |mk(b ga:Addr)(xs:List V)(low num:Int)(L:Nat)(gs:List G3)(_:vs=[.ref b,.ref ga,.int num])(_:SqT K H b [.int low,.int (L:Int)])(_:L<=40)(_:SqL K H ga xs)(_:GatAt H L xs gs)(_:(∀ g∈gs,GoodS L g))(_:gs.length<=100)(_:∀ H',Same H H'->Q (.int ((Wh gs).countP fun x=>decide (x<num-low):Nat)) H')
theorem q731:z.C P w 4 "way_of" pn16 (q498 K):=by
 have sc:=q716
 refine z.d_way_of.cal fun f fd F=>F.k sc fun _ _ _ s H _ Q _ hr h=>?_
 obtain⟨b,low,num,L,rfl,hb,hL,c',q⟩:=h
 refine⟨_,(q11 (ps_if (q18 op_ne (pe_fn (q578 z) hr.m () (q10 (pv 0) (q10 (pv 1) q12))) q34 (q20 _))
 (q16 q395)
 q21)
 (q11 (pst 2 sc.nd (pix q26 (pv 0) q14))
 (q11 (pst 3 sc.nd (pe_fn (q47 z) hr.m () (q10 (pix q26 (pv 0) q14) q12)))
 (q11 (pst 4 sc.nd (q42 q12))
 (q11 (q60 PassesOwn.never rfl (q59 rfl z.range_ (q10 (pix q26 (pv 0) q14) q12)) (pgn 5 sc.nd)
 (q11 (pst 3 sc.nd (pe_op q89 (pv 3) q14))
 (q16 (ps_if (q18 op_lt (pv 1) (pe_op q29 (pv 2) (pv 3)) (q20 _))
 (q16 (q137 (pe_bm YA YL YM q62 (pv 4) (q10 q14 q12))))
 (q11 (q137 (pe_bm YA YL YM q62 (pv 4) (q10 q14 q12)))
 (q16 (pst 2 sc.nd (pe_op q29 (pv 2) (pv 3)))))))))
 (q16 (q19 (q138 q190 () z.tuple_ q157 (q10 (pv 4) q12))))))))),?_⟩
 exists _,rfl,_,rfl,b,low,num,L,rfl,hb,hL,rfl,_,rfl
 refine ite2 (fun c=>?_) (fun c=>?_)
 ·rw[where_in.mpr c',ZA rfl]at c
  cases c
 ·skip
  refine⟨_,rfl,b,_,_,_,rfl,rfl,hb,rfl,_,rfl,b,_,_,_,rfl,rfl,hb,rfl,L,rfl,hL,szb rfl,fun wy hwy=>?_⟩
  have hb2:∀ o,SqT K (upd H wy o) b [.int low,.int (L:Int)]:=fun o=>(q15 hwy o).seqT hb
  refine⟨_,rfl,b,_,_,_,rfl,rfl,hb2 _,rfl,(L:Int),rfl,∅,∅,q78 (n:=L) (fun i σ H2=>∃(le:Int)(ws:List Int)(v:Option V),σ=[some (.ref b),some (.int num),some (.int le),some (.int (2^(L-i))),some (.ref wy),v] /\
   H2=upd H wy (.lst (ws.map V.int))/\ws.length=i/\0<=num-le/\num-le<2^(L-i)/\wayW L (num-low)=ws++wayW (L-i) (num-le)) ⟨low,[],none,rfl,rfl,rfl,∅,by show num-low<2^L;lia,rfl⟩ ?_ ?_⟩
  ·rintro i σ H2 hi ⟨le,ws,v,rfl,rfl,hl,h0,h1,hw⟩
   obtain⟨e,he⟩:∃ e,L-i=e+1:=⟨L-i-1,∅⟩
   have he2:L-(i+1)=e:=∅
   have p:=pow2 e
   have ph:=q585 e
   rw[he]at h1 hw ⊢
   exists _,rfl,_,_,rfl,rfl,⟨{},{}⟩
   exists _,rfl,_,rfl,_,rfl,_,_,rfl,rfl,_,_,rfl,rfl,_,rfl
   rw[ph,he2]
   refine ite2 (fun c=>?_) (fun c=>?_)
   ·have c2:num<le+2^e:=ZH c
    rw[q148 (show num-le<2^e by lia)]at hw
    exists _,rfl,.inl ⟨rfl,_,SqL.of q13⟩,wy,_,_,rfl,rfl,q13,?_
    ·rw[ZN];exact Nat.lt_of_le_of_lt (show ws.length<=1000 by lia) (q79 (ZG _))
    ·exact⟨le,ws++[0],some (.int (0+(i:Int))),rfl,by rw[q84,WQ] <;> rfl,by rw[ZV,hl] <;> rfl,h0,∅,by rw[hw,YW] <;> rfl⟩
   ·have c2:¬ num<le+2^e:=fun z=>c (ZA z)
    rw[q149 (show ¬ num-le<2^e by lia)]at hw
    exists _,rfl,.inl ⟨rfl,_,SqL.of q13⟩,wy,_,_,rfl,rfl,q13,?_
    ·rw[ZN];exact Nat.lt_of_le_of_lt (show ws.length<=1000 by lia) (q79 (ZG _))
    ·exists _,rfl,_,rfl,_,_,rfl,rfl,le+2^e,ws++[1],some (.int (0+(i:Int))),rfl,by rw[q84,WQ] <;> rfl,by rw[ZV,hl] <;> rfl,∅,∅
     have e2:num-(le+2^e)=num-le-2^e:=∅
     rw[hw,e2,YW]
     rfl
  ·rintro σ H2 ⟨le,ws,v,rfl,rfl,hl,h0,h1,hw⟩
   rw[Nat.sub_self]at hw
   have hw2:wayW L (num-low)=ws:=by rw[hw];exact append_nil ws
   refine⟨_,rfl,wy,_,rfl,SqL.of q13,fun t H' s' ht=>?_⟩
   exact q t _ ((q15 hwy _).trans s') (by rw[hw2];exact ht)
theorem q173:z.C P w 4 "many_lesser" pn17 (q172 K):=by
 have sc:=q337
 refine z.d_many_lesser.cal fun f fd F=>F.k sc fun _ _ _ s H _ Q _ hr h=>?_
 obtain⟨ga,wy,xs,L,o,gs,rfl,hga,hg,hgd,hl,hwy,h0,h1,q⟩:=h
 refine⟨_,(q11 (pst 2 sc.nd q14)
 (q11 (pst 3 sc.nd (pv 0))
 (q11 (q60 PassesOwn.never rfl (q438 (pv 1)) (pgn 4 sc.nd)
 (q11 (ps_if (q18 op_eq (pv 4) q14 (q20 _))
 (q16 (pst 2 sc.nd (pe_op q29 (pv 2) (pe_fn (q38 z) hr.m () (q10 (pe_fn (q145 z) hr.m () (q10 (pv 3) (q10 (q30 (q10 q14 q12)) q12))) q12)))))
 q21)
 (q16 (pst 3 sc.nd (pe_fn (q145 z) hr.m () (q10 (pv 3) (q10 (q30 (q10 (pv 4) q12)) q12)))))))
 (q16 (q19 (pv 2)))))),?_⟩
 rw[<- q730 L o (Wh gs) h0 h1 (W_in hgd)]at q
 have hwl:=q161 L o
 have hw01:=q248 L o
 generalize wayW L o=ws at *
 exists _,rfl
 refine⟨_,rfl,wy,rfl,⟨_,hwy⟩,q289 (K:=K) (a:=wy) (xs:=ws.map V.int) (fun i σ H2=>∃(m:Int)(pa:Addr)(zs:List V)(gs':List G3)(v4:Option V),σ=[some (.ref ga),some (.ref wy),some (.int m),some (.ref pa),v4]/\Same H H2/\SqL K H2 pa zs/\GatAt H2 (L-i) zs gs'/\(∀ g∈gs',GoodS (L-i) g)/\gs'.length<=100/\i<=ws.length/\mlF L ws (Wh gs)=m+mlF (L-i) (ws.drop i) (Wh gs'))
  ⟨0,ga,xs,gs,none,rfl,Same.refl H,hga,hg,hgd,hl,WB _,by rw[drop_zero,Int.zero_add];rfl⟩ (fun i σ H2 _ ⟨_,_,_,_,_,_,s2,_⟩=>s2.seqT hwy) ?_ ?_⟩
 ·rintro i x σ H2 hi ⟨m,pa,zs,gs',v4,rfl,s2,hpa,hg',hgd',hl',hil,hm⟩
  obtain⟨wv,hwv,rfl⟩:∃ t,ws[i]? = some t/\x = .int t:=by
   rw[WN]at hi
   cases e:ws[i]? with
   | none=>rw[e]at hi;cases hi
   | some m=>rw[e]at hi;exact⟨m,rfl,(Option.some.inj hi).symm⟩
  have hil2:i<ws.length:=(List.getElem?_eq_some_iff.mp hwv).1
  have hv01:=hw01 wv (WV hwv)
  obtain⟨e,he⟩:∃ e,L-i=e+1:=⟨L-i-1,∅⟩
  have he2:L-(i+1)=e:=∅
  rw[he]at hg' hgd' hm
  rw[q489 hwv,mlF]at hm
  have el:∀ w:Int,gs'.map (ledS (e+1) [w])=gs'.map (led1 e w):=fun w=>YZ fun g _=>by rw[q65,q53]
  have good1:∀ w,∀ g∈gs'.map (led1 e w),GoodS e g:=fun w g hg=>by
   obtain⟨g',hg',rfl⟩:=List.mem_map.mp hg
   exact q100 (hgd' g' hg')
  have step:∀(H3:Hp),Same H2 H3 -> ∀(m':Int),mlF L ws (Wh gs)=m'+mlF e (ws.drop (i+1)) (halfO e wv (Wh gs'))->True:=fun _ _ _ _=>trivial
  exists _,rfl,rfl,_,rfl
  rcases hv01 with rfl | rfl
  ·refine ite2 (fun c=>absurd (V.int.inj (ZH c)) {}) (fun _=>?_)
   rw[ZI {},Int.zero_add]at hm
   refine⟨_,rfl,_,rfl,szb rfl,fun w1 hw1=>?_⟩
   have s3:=q15 hw1 (.tup [V.int 0])
   have hw1':upd H2 w1 (.tup [V.int 0]) w1=some (.tup [V.int 0]):=q13
   generalize upd H2 w1 (.tup [V.int 0])=H3 at *
   refine⟨pa,w1,zs,e+1,[0],gs',rfl,s3.seq hpa,hg'.same s3,hgd',∅,SqT.of hw1',by simp,(fun x hx=>by rw[List.mem_singleton.mp hx];exact .inl rfl),fun H4 D4 z4 s4 hD4 hD4n hg4=>?_⟩
   rw[el]at hg4
   exact⟨m,D4,z4,_,_,rfl,s2.trans (s3.trans s4),SqL.of hD4,by rw[he2];exact hg4,by rw[he2];exact good1 0,by rw[ZN];exact hl',∅,by rw[he2,W_led hgd'];exact hm⟩
  ·refine ite2 (fun _=>?_) (fun c=>absurd (ZA rfl) c)
   rw[ZJ rfl]at hm
   refine⟨_,rfl,_,rfl,szb rfl,fun w0 hw0=>?_⟩
   have s3:=q15 hw0 (.tup [V.int 0])
   have hw0':upd H2 w0 (.tup [V.int 0]) w0=some (.tup [V.int 0]):=q13
   generalize upd H2 w0 (.tup [V.int 0])=H3 at *
   refine⟨pa,w0,zs,e+1,[0],gs',rfl,s3.seq hpa,hg'.same s3,hgd',∅,SqT.of hw0',by simp,(fun x hx=>by rw[List.mem_singleton.mp hx];exact .inl rfl),fun H4 D4 z4 s4 hD4 hD4n hg4=>?_⟩
   rw[el]at hg4
   refine⟨D4,z4,e,_,rfl,SqL.of hD4,hg4,by rw[ZN];lia,fun H5 s5=>⟨_,_,rfl,rfl,?_⟩⟩
   have s25:=(s3.trans s4).trans s5
   refine⟨_,rfl,_,rfl,szb rfl,fun w1 hw1=>?_⟩
   have s6:=q15 hw1 (.tup [V.int 1])
   have hw1':upd H5 w1 (.tup [V.int 1]) w1=some (.tup [V.int 1]):=q13
   generalize upd H5 w1 (.tup [V.int 1])=H6 at *
   have s26:=s25.trans s6
   refine⟨pa,w1,zs,e+1,[1],gs',rfl,s26.seq hpa,hg'.same s26,hgd',∅,SqT.of hw1',by simp,(fun x hx=>by rw[List.mem_singleton.mp hx];exact .inr rfl),fun H7 D7 z7 s7 hD7 hD7n hg7=>?_⟩
   rw[el]at hg7
   exists _,D7,z7,_,_,rfl,s2.trans (s26.trans s7),SqL.of hD7,by rw[he2];exact hg7,by rw[he2];exact good1 1,by rw[ZN];exact hl',∅
   rw[he2,W_led hgd',q101 (good1 0),W_led hgd',hm]
   lia
 ·rintro σ H2 ⟨m,pa,zs,gs',v4,rfl,s2,hpa,hg',hgd',hl',hil,hm⟩
  rw[ZN,drop_length]at hm
  have e0:mlF (L-ws.length) [] (Wh gs')=0:=by cases L-ws.length <;> rfl
  rw[e0,Int.add_zero]at hm
  rw[hm]at q
  exact⟨_,rfl,q H2 s2⟩
theorem ok_below:z.C P w 5 "below" pn1 (q586 K):=by
 have sc:=sc_below
 refine z.d_below.cal fun f fd F=>F.k sc fun _ _ _ s H _ Q _ hr h=>?_
 obtain⟨b,ga,xs,low,num,L,gs,rfl,hb,hL,hga,hg,hgd,hl,q⟩:=h
 refine⟨_,(q11 (pst 3 sc.nd (pe_fn (q578 z) hr.m () (q10 (pv 0) (q10 (pv 2) q12))))
 (q11 (ps_if (q18 op_eq (pv 3) q34 (q20 _))
 (q16 (q19 q14))
 q21)
 (q11 (ps_if (q18 op_eq (pv 3) q34 (q20 _))
 (q16 (q19 (pe_fn (q38 z) hr.m () (q10 (pv 1) q12))))
 q21)
 (q16 (q19 (pe_fn (q173 z) hr.m () (q10 (pv 1) (q10 (pe_fn (q731 z) hr.m () (q10 (pv 0) (q10 (pv 2) q12))) q12)))))))),?_⟩
 have hin:=W_in hgd
 have hp:=p2pos L
 exists _,rfl,_,rfl,b,low,num,L,rfl,hb,hL
 unfold q483
 by_cases c1:num<low
 ·rw[ZJ c1]
  refine⟨_,rfl,rfl,_,rfl,ite2 (fun _=>?_) (fun c=>absurd (ZA rfl) c)⟩
  have e0:(Wh gs).countP (fun x=>decide (x<num-low))=0:=List.countP_eq_zero.mpr fun x hx=>by
   have:=hin x hx
   simp
   lia
  rw[e0]at q
  exact q H (Same.refl H)
 rw[ZI c1]
 by_cases c2:low+2^L-1<num
 ·rw[ZJ c2]
  refine⟨_,rfl,rfl,_,rfl,ite2 (fun c=>absurd (ZH c) {}) (fun _=>?_)⟩
  refine⟨_,rfl,rfl,_,rfl,ite2 (fun _=>?_) (fun c=>absurd (ZA rfl) c)⟩
  have e0:(Wh gs).countP (fun x=>decide (x<num-low))=(Wh gs).length:=List.countP_eq_length.mpr fun x hx=>by
   have:=hin x hx
   exact ZA ∅
  rw[e0]at q
  refine⟨_,rfl,ga,xs,L,gs,rfl,hga,hg,∅,fun H1 s1=>?_⟩
  rw[q101 hgd]
  exact q H1 s1
 rw[ZI c2]
 refine⟨_,rfl,rfl,_,rfl,ite2 (fun c=>absurd (ZH c) {}) (fun _=>?_)⟩
 refine⟨_,rfl,rfl,_,rfl,ite2 (fun c=>absurd (ZH c) {}) (fun _=>?_)⟩
 refine⟨_,rfl,_,rfl,_,rfl,b,low,num,L,rfl,hb,hL,⟨∅,∅⟩,fun t H1 s1 ht=>?_⟩
 exact⟨ga,t,xs,L,num-low,gs,rfl,s1.seq hga,hg.same s1,hgd,hl,ht.sq,∅,∅,fun H2 s2=>q H2 (s1.trans s2)⟩
theorem q283:∀(e:Nat)(l o:Int),0<=o->o<2^e->(wayW e o).foldl stS (l,2^e)=(l+o,1)
 | 0,l,o,h0,h1=>by
  have e1:o=0:=by
   have z:(2:Int)^0=1:=rfl
   lia
  rw[e1,Int.add_zero]
  rfl
 | e+1,l,o,h0,h1=>by
  have p:=pow2 e
  have q:=q585 e
  by_cases h:o<2^e
  ·rw[q148 h,foldl_cons]
   have z:stS (l,2^(e+1)) 0=(l,2^e):=by unfold stS;rw[ZI {}];simp only[q]
   rw[z]
   exact q283 e l o h0 h
  ·rw[q149 h,foldl_cons]
   have z:stS (l,2^(e+1)) 1=(l+2^e,2^e):=by unfold stS;rw[ZJ rfl];simp only[q]
   rw[z,q283 e (l+2^e) (o-2^e) ∅ ∅]
   congr 1
   lia
noncomputable def kth:Nat->List Int->Nat->Int
 | 0,_,_=>0
 | e+1,us,k=>if k<(halfO e 0 us).length then kth e (halfO e 0 us) k else 2^e+kth e (halfO e 1 us) (k-(halfO e 0 us).length)
theorem q732{e:Nat}{k:Nat}(h:k<(halfO e 0 us).length):kth (e+1) us k=kth e (halfO e 0 us) k:=by rw[kth,ZJ h]
theorem q733{e:Nat}{k:Nat}(h:¬ k<(halfO e 0 us).length):kth (e+1) us k=2^e+kth e (halfO e 1 us) (k-(halfO e 0 us).length):=by rw[kth,ZI h]
theorem q131:∀(e:Nat)(us:List Int)(k:Nat),0<=kth e us k/\kth e us k<2^e
 | 0,us,k=>⟨Int.le_refl _,(by decide:(0:Int)<2^0)⟩
 | e+1,us,k=>by
  have hp:=pow2 e
  have h2:=p2pos e
  by_cases c:k<(halfO e 0 us).length
  ·rw[q732 c]
   have:=q131 e (halfO e 0 us) k
   lia
  ·rw[q733 c]
   have:=q131 e (halfO e 1 us) (k-(halfO e 0 us).length)
   lia
theorem wayW_lo{e:Nat}{k:Nat}(h:k<(halfO e 0 us).length):wayW (e+1) (kth (e+1) us k)=0::wayW e (kth e (halfO e 0 us) k):=by
 rw[q732 h]
 exact q148 (q131 e _ k).2
theorem wayW_hi{e:Nat}{k:Nat}(h:¬ k<(halfO e 0 us).length):wayW (e+1) (kth (e+1) us k)=1::wayW e (kth e (halfO e 1 us) (k-(halfO e 0 us).length)):=by
 rw[q733 h,q149 (by have:=(q131 e (halfO e 1 us) (k-(halfO e 0 us).length)).1;lia)]
 have:2^e+kth e (halfO e 1 us) (k-(halfO e 0 us).length)-2^e=kth e (halfO e 1 us) (k-(halfO e 0 us).length):=∅
 rw[this]
theorem q162{e:Nat}{us:List Int}(hin:InO (e+1) us)(o:Int):(o<=2^e->us.countP (fun x=>decide (x<o))=(halfO e 0 us).countP (fun x=>decide (x<o))) /\
  (2^e<=o->us.countP (fun x=>decide (x<o))=(halfO e 0 us).length+(halfO e 1 us).countP (fun x=>decide (x<o-2^e))):=by
 have l0:(halfO e 0 us).length=us.countP fun x=>mk0 e x==0:=by
  unfold halfO
  rw[ZN,countP_eq_length_filter]
 rw[l0,q73,q73]
 clear l0
 induction us with
 | nil=>exact⟨fun _=>rfl,fun _=>rfl⟩
 | cons x us ih=>
  obtain⟨i1,i2⟩:=ih fun y hy=>hin y (ZZ _ hy)
  have hx:=hin x WF
  rw[YT,YT,YT,YT]
  rcases mk0b e x with m | m
  ·have hm:=q146 hx.1 hx.2 m
   have hxl:x<2^e:=by
    unfold mk0 at m
    by_cases z:x<2^e
    ·exact z
    ·rw[ZI z]at m;lia
   have e1:x%2^e=x:=∅
   rw[m,e1]
   refine⟨fun h=>?_,fun h=>?_⟩
   ·rw[i1 h];simp
   ·rw[i2 h]
    have:x<o:=∅
    simp[this]
    lia
  ·have hm:=q146 hx.1 hx.2 m
   have hxg:¬ x<2^e:=by
    unfold mk0 at m
    intro z
    rw[ZJ z]at m;lia
   rw[m]
   refine⟨fun h=>?_,fun h=>?_⟩
   ·rw[i1 h]
    have:¬ x<o:=∅
    simp[this]
   ·rw[i2 h]
    by_cases z:x<o
    ·have z2:x%2^e<o-2^e:=∅
     simp[z,z2]
     lia
    ·have z2:¬ x%2^e<o-2^e:=∅
     simp[z,z2]
noncomputable abbrev ltC(us:List Int)(o:Int):Nat:=us.countP fun x=>decide (x<o)
theorem q317:∀(e:Nat)(us:List Int)(k:Nat),InO e us->k<us.length->ltC us (kth e us k)<=k/\k<ltC us (kth e us k+1)
 | 0,us,k,hin,hk=>by
  have h0:us.countP (fun x=>decide (x<(0:Int)))=0:=List.countP_eq_zero.mpr fun x hx=>by have:=hin x hx;simp;lia
  have h1:us.countP (fun x=>decide (x<(0:Int)+1))=us.length:=List.countP_eq_length.mpr fun x hx=>by have:=hin x hx;simp at this;exact ZA ∅
  show us.countP (fun x=>decide (x<(0:Int)))<=k/\k<us.countP (fun x=>decide (x<(0:Int)+1))
  lia
 | e+1,us,k,hin,hk=>by
  have hs:=q217 (e:=e) us
  by_cases c:k<(halfO e 0 us).length
  ·rw[q732 c]
   have r:=q131 e (halfO e 0 us) k
   obtain⟨i1,i2⟩:=q317 e (halfO e 0 us) k q45 c
   have e1:=(q162 hin (kth e (halfO e 0 us) k)).1 ∅
   have e2:=(q162 hin (kth e (halfO e 0 us) k+1)).1 ∅
   unfold ltC at *
   rw[e1,e2]
   exact⟨i1,i2⟩
  ·rw[q733 c]
   have r:=q131 e (halfO e 1 us) (k-(halfO e 0 us).length)
   obtain⟨i1,i2⟩:=q317 e (halfO e 1 us) (k-(halfO e 0 us).length) q45 ∅
   have e1:=(q162 hin (2^e+kth e (halfO e 1 us) (k-(halfO e 0 us).length))).2 ∅
   have e2:=(q162 hin (2^e+kth e (halfO e 1 us) (k-(halfO e 0 us).length)+1)).2 ∅
   unfold ltC at *
   rw[e1,e2]
   have a1:2^e+kth e (halfO e 1 us) (k-(halfO e 0 us).length)-2^e=kth e (halfO e 1 us) (k-(halfO e 0 us).length):=∅
   have a2:2^e+kth e (halfO e 1 us) (k-(halfO e 0 us).length)+1-2^e=kth e (halfO e 1 us) (k-(halfO e 0 us).length)+1:=∅
   rw[a1,a2]
   lia
theorem q284{a b:Int}(h:a<=b):ltC us a<=ltC us b:=countP_mono_left fun x _ hx=>ZA (by have:=ZH hx;lia)
theorem q423(us:List Int)(o:Int):ltC us (o+1)=ltC us o+us.count o:=by
 unfold ltC
 rw[count_eq_countP]
 induction us with
 | nil=>rfl
 | cons x us ih=>
  rw[YT,YT,YT,ih]
  by_cases c1:x<o
  ·have c2:x<o+1:=∅
   have c3:¬ x=o:=∅
   simp only[ZA c1,ZA c2,if_true,show(x==o)=false from beq_eq_false_iff_ne.mpr c3]
   simp
   lia
  ·by_cases c3:x=o
   ·have c2:x<o+1:=∅
    simp only[ZK c1,ZA c2,show(x==o)=true from beq_iff_eq.mpr c3]
    simp
    lia
   ·have c2:¬ x<o+1:=∅
    simp[c1,c2,c3]
theorem q285:∀(L:Nat)(o:Int)(gs:List G3),0<=o->o<2^L->(∀ g∈gs,GoodS L g)->manyG (gs.map (ledS L (wayW L o)))=((Wh gs).count o:Nat)
 | 0,o,gs,h0,h1,hg=>by
  have e0:gs.map (ledS 0 (wayW 0 o))=gs:=by
   have:∀ g∈gs,ledS 0 (wayW 0 o) g=id g:=fun g _=>q53 0 g
   rw[YZ this,map_id]
  rw[e0,q101 hg]
  have ho:o=0:=by have:(2:Int)^0=1:=rfl;lia
  have hin:=W_in hg
  rw[ho,List.count_eq_length.mpr fun b hb=>by have:=hin b hb;simp at this;lia]
 | e+1,o,gs,h0,h1,hg=>by
  have hp:=pow2 e
  have good1:∀ w,∀ g∈gs.map (led1 e w),GoodS e g:=fun w g hg'=>by
   obtain⟨g',hg2,rfl⟩:=List.mem_map.mp hg'
   exact q100 (hg g' hg2)
  have em:∀(w:Int)(ws:List Int),gs.map (ledS (e+1) (w::ws))=(gs.map (led1 e w)).map (ledS e ws):=fun w ws=>by
   rw[map_map]
   exact YZ fun g _=>q65 e w ws g
  by_cases c:o<2^e
  ·rw[q148 c,em,q285 e o _ h0 c (good1 0),W_led hg,q94 (W_in hg) (.inl rfl) h0 c]
   have:o+0*2^e=o:=∅
   rw[this]
  ·rw[q149 c,em,q285 e (o-2^e) _ ∅ ∅ (good1 1),W_led hg,q94 (W_in hg) (.inr rfl) ∅ ∅]
   have:o-2^e+1*2^e=o:=∅
   rw[this]
noncomputable def stp(L:Nat)(low:Int)(us:List Int):List P2:=caF 1 0 L low us
theorem q635{ss:List P2}(hs:ss.Pairwise fun p q=>p.1<q.1){p:P2}(hp:p∈ss)(hf:f p=true)(hl:∀ q∈ss,f q=true->p.1<=q.1):ss.find? f=some p:=by
 induction ss with
 | nil=>cases hp
 | cons x ss ih=>
  rw[find?_cons]
  cases hx:f x with
  | true=>
   rcases List.mem_cons.mp hp with rfl | hp'
   ·rfl
   ·have h1:=(List.pairwise_cons.mp hs).1 p hp'
    have h2:=hl x WF hx
    lia
  | false=>
   rcases List.mem_cons.mp hp with rfl | hp'
   ·rw[hf]at hx;cases hx
   ·exact ih (List.pairwise_cons.mp hs).2 hp' fun q hq=>hl q (ZZ _ hq)
theorem ltC_le(us:List Int)(o:Int):ltC us o<=us.length:=countP_le_length
theorem up_find{L:Nat}{low num:Int}{us:List Int}(hin:InO L us) :
  (ltC us (num+1-low)=us.length->(stp L low us).find? (fun q=>decide (num<q.1))=none) /\
  (ltC us (num+1-low)≠us.length->(stp L low us).find? (fun q=>decide (num<q.1))=some ((low+kth L us (ltC us (num+1-low)),((us.count (kth L us (ltC us (num+1-low))):Nat):Int)):P2)):=by
 have hle:=ltC_le us (num+1-low)
 constructor
 ·intro h
  rw[find?_eq_none]
  intro q hq hf
  have r:=q494 hin hq
  have hm:q.1-low∈us:=List.count_pos_iff.mp ∅
  have:=List.countP_eq_length.mp h _ hm
  have:=ZH this
  have:=ZH hf
  lia
 ·intro h
  have hk:ltC us (num+1-low)<us.length:=∅
  obtain⟨c1,c2⟩:=q317 L us _ hin hk
  have r:=q131 L us (ltC us (num+1-low))
  generalize hko:kth L us (ltC us (num+1-low))=o at *
  have hge:num+1-low<=o:=by
   apply Classical.byContradiction
   intro c
   have:=q284 (us:=us) (show o+1<=num+1-low by lia)
   lia
  rw[q423]at c2
  have hcnt:0<us.count o:=by
   have:=q284 (us:=us) hge
   lia
  refine q635 (f:=fun q=>decide (num<q.1)) (q422 L low us hin) ((q493 L low us hin _ _).mpr ⟨by rw[show low+o-low=o by lia],∅⟩) (ZA (by show num<low+o;lia)) (fun q hq hf=>?_)
  show low+o<=q.1
  have rq:=q494 hin hq
  have hf':=ZH hf
  apply Classical.byContradiction
  intro c
  have h1:=q284 (us:=us) (show num+1-low<=q.1-low by lia)
  have h2:=q284 (us:=us) (show q.1-low+1<=o by lia)
  rw[q423]at h2
  have:0<us.count (q.1-low):=∅
  lia
abbrev q218:Nat:=1
abbrev q499:Nat:=40
inductive q249(u0:Fg)(e:Nat)(vs:List V)(H:Hp)(Q:VK)(E:XK):Prop
 |mk(v:V)(wy:Addr)(k i:Nat)(L:Nat)(os ws:List Int)(_:vs=[v,.ref wy,.int (k:Int)])(_:q55 H v (growO L os))(_:TupF H wy (ws.map V.int))(_:ws.length=e)(_:e<=L)(_:B01 ws)(_:InO L os)(_:(spots L os ws)[k]? = some i)(_:∀ H',Same H H'->Q (.int (i:Int)) H')
def q734(K:Fg):Sp:=fun vs H Q E=>∃ e,e<=q499/\q249 K e vs H Q E
theorem cut_tail(w:Int)(ws:List Int):cutV ((w::ws).map V.int) (some 1) none=ws.map V.int:=by
 unfold cutV
 have e1:HT.sIx ((w::ws).map V.int).length 0 (some 1)=1:=by
  rw[ZN,WZ]
  simp[HT.sIx]
  try lia
 rw[e1,HT.q752,map_cons,drop_succ_cons,drop_zero,WZ,Nat.add_sub_cancel]
 exact YD
inductive q219(K:Fg)(vs:List V)(H:Hp)(Q:VK)(E:XK):Prop
 |mk(ga:Addr)(xs:List V)(L k:Nat)(gs:List G3)(_:vs=[.int (L:Int),.ref ga,.int (k:Int)])(_:L<=40)(_:H ga=some (.lst xs))(_:GatAt H L xs gs)(_:(∀ g∈gs,GoodS L g))(_:gs.length<=100)(_:(Wh gs).length<=900)(_:k<(Wh gs).length)(_:∀ t H',Same H H'->TupF H' t ((wayW L (kth L (Wh gs) k)).map V.int)->Q (.ref t) H')
inductive q174(K:Fg)(vs:List V)(H:Hp)(Q:VK)(E:XK):Prop
 |mk(b ga:Addr)(xs:List V)(low:Int)(L k:Nat)(gs:List G3)(_:vs=[.ref b,.ref ga,.int (k:Int)])(_:SqT K H b [.int low,.int (L:Int)])(_:L<=40)(_:H ga=some (.lst xs))(_:GatAt H L xs gs)(_:(∀ g∈gs,GoodS L g))(_:gs.length<=100)(_:(Wh gs).length<=900)(_:k<(Wh gs).length)(_:∀ v H',Same H H'->PsR H' v (low+kth L (Wh gs) k,(((Wh gs).count (kth L (Wh gs) k):Nat):Int))->Q v H')
def NxV(H:Hp)(v:V):Option P2->Prop
 | none=>v = .non
 | some p=>PsR H v p
inductive q384(K:Fg)(vs:List V)(H:Hp)(Q:VK)(E:XK):Prop
 |mk(b ga:Addr)(xs:List V)(low num:Int)(L:Nat)(gs:List G3)(_:vs=[.ref b,.ref ga,.int num])(_:SqT K H b [.int low,.int (L:Int)])(_:L<=40)(_:H ga=some (.lst xs))(_:GatAt H L xs gs)(_:(∀ g∈gs,GoodS L g))(_:gs.length<=100)(_:(Wh gs).length<=900)(_:∀ v H',Same H H'->NxV H' v ((stp L low (Wh gs)).find? fun q=>decide (num<q.1))->Q v H')
theorem q735:z.C P w 42 "lifted" ["tree", "way", "place"] (q734 K):=by
 have sc:=q718
 refine z.d_lifted.recur (k:=q218) (sp:=q249 K) q499 fun e hen c_lifted f fd F=>F.k sc fun _ _ _ s H _ Q _ hr h=>?_
 obtain⟨v,wy,k,i,L,os,ws,rfl,ht,hw,hwl,heL,h01,hin,hi,q⟩:=h
 refine⟨_,(q11 (ps_if (q18 op_eq (pln z.len_ (q10 (pv 1) q12)) q14 (q20 _))
 (q11 (ps_if (PW.pt (pw_or (q18 op_lt (pv 2) q14 (q20 _)) (q115 (q18 op_ge (pv 2) (pe_fn (q631 z) (hr.mono (ZR (by decide:1<=q218) (WP _ _))) () (q10 (pv 0) q12)) (q20 _)))))
 (q16 q395)
 q21)
 (q16 (q19 (pv 2))))
 q21)
 (q11 (pst 3 sc.nd (pe_fn c_lifted (hr.mono (ZG _)) () (q10 (pe_fn (q377 z) (hr.mono (ZR (by decide:1<=q218) (WP _ _))) () (q10 (pv 0) (q10 (pix q26 (pv 1) q14) q12))) (q10 (q124 q664 (pv 1) (q188 q14) q187) (q10 (pv 2) q12)))))
 (q16 (q19 (pe_fn (q529 z) (hr.mono (ZR (by decide:1<=q218) (WP _ _))) () (q10 (pix q26 (pv 0) q14) (q10 (pix q26 (pv 1) q14) (q10 (pv 3) q12)))))))),?_⟩
 exists _,rfl,wy,_,rfl,.inr hw.sq,rfl,_,rfl
 cases ws with
 | nil=>
  refine ite2 (fun _=>?_) (fun c=>absurd (ZA rfl) c)
  rw[q528]at hi
  have hk:k<os.length:=by
   have:=(List.getElem?_eq_some_iff.mp hi).1
   rwa [length_range]at this
  rw[getElem?_range hk]at hi
  cases hi
  exists _,rfl,_,_,rfl,rfl,_,rfl
  refine ite2 (fun c=>absurd (ZH c) ∅) (fun _=>?_)
  exists _,rfl,_,rfl,v,_,rfl,ht,_,_,rfl,rfl,_,rfl
  rw[q633]
  refine ite2 (fun c=>absurd (ZH c) ∅) (fun _=>?_)
  exact⟨_,rfl,q H (Same.refl H)⟩
 | cons w0 ws=>
  refine ite2 (fun c=>?_) (fun _=>?_)
  ·exfalso
   have:=V.int.inj (ZH c)
   rw[ZN,WZ]at this
   lia
  obtain⟨e',rfl⟩:∃ e',e=e'+1:=⟨ws.length,by rw[<- hwl];rfl⟩
  obtain⟨L',rfl⟩:∃ L',L=L'+1:=⟨L-1,∅⟩
  have hw0:w0=0\/w0=1:=h01 w0 (WF ..)
  have h01':B01 ws:=fun m hm=>h01 m (ZZ _ hm)
  have hwl':ws.length=e':=by rw[WZ]at hwl;lia
  have h0at:atI ((w0::ws).map V.int) 0=some (.int w0):=by
   show atI _ ((0:Nat):Int)=_
   exact q61 rfl
  have hdn:=q634 (w:=w0) (ws:=ws) hin k
  rw[hi]at hdn
  cases hi2:(spots L' (halfO L' w0 os) ws)[k]? with
  | none=>rw[hi2,Option.bind_none]at hdn;cases hdn
  | some i2=>
   rw[hi2,Option.bind_some]at hdn
   refine⟨_,rfl,_,rfl,wy,_,_,_,rfl,rfl,hw.sq,h0at,v,_,w0,rfl,ht,hw0,fun u hu=>?_⟩
   rw[q379 hin hw0]at hu
   refine⟨_,rfl,1,rfl,wy,_,rfl,hw,fun w2 H1 s1 hw2=>⟨_,rfl,?_⟩⟩
   rw[cut_tail]at hw2
   refine⟨u,w2,k,i2,L',halfO L' w0 os,ws,rfl,hu.same s1,hw2,hwl',∅,h01',q45,hi2,fun H2 s2=>?_⟩
   have s02:=s1.trans s2
   have hne:os≠[]:=fun z=>by
    rw[z]at hi2
    have e0:halfO L' w0 []=[]:=rfl
    rw[e0,q723]at hi2
    simp at hi2
   have ht2:=ht.same s02
   rw[q93 hne]at ht2
   obtain⟨a,m,x,y,rfl,ha,hm,_,_⟩:=ht2
   exact⟨_,rfl,a,_,_,_,rfl,rfl,SqT.of ha,rfl,_,rfl,wy,_,_,_,rfl,rfl,(hw.same s02).sq,h0at,_,rfl,m,os.map (mk0 L'),w0,(i2:Int),i,rfl,hm.sq,hdn.symm,fun H3 s3=>q H3 (s02.trans s3)⟩
theorem q220:z.C P w 4 "way_of_nth" ["levels", "gathering", "k"] (q219 K):=by
 have sc:=q412
 refine z.d_way_of_nth.cal fun f fd F=>F.k sc fun _ _ _ s H _ Q _ hr h=>?_
 obtain⟨ga,xs,L,k,gs,rfl,hL,hga,hg,hgd,hl,hw9,hk,q⟩:=h
 refine⟨_,(q11 (pst 3 sc.nd (q42 q12))
 (q11 (pst 4 sc.nd (pv 1))
 (q11 (pst 5 sc.nd (pv 2))
 (q11 (q60 PassesOwn.never rfl (q59 rfl z.range_ (q10 (pv 0) q12)) (pgn 6 sc.nd)
 (q11 (pst 7 sc.nd (pe_fn (q38 z) hr.m () (q10 (pe_fn (q145 z) hr.m () (q10 (pv 4) (q10 (q30 (q10 q14 q12)) q12))) q12)))
 (q11 (pst 8 sc.nd (pe_ifExp (q18 op_lt (pv 5) (pv 7) (q20 _)) q14 q14))
 (q11 (pst 5 sc.nd (pe_op q54 (pv 5) (pe_op q105 (pv 8) (pv 7))))
 (q11 (pst 4 sc.nd (pe_fn (q145 z) hr.m () (q10 (pv 4) (q10 (q30 (q10 (pv 8) q12)) q12))))
 (q16 (q137 (pe_bm YA YL YM q62 (pv 3) (q10 (pv 8) q12)))))))))
 (q16 (q19 (q138 q190 () z.tuple_ q157 (q10 (pv 3) q12)))))))),?_⟩
 refine⟨szb rfl,fun wl hwl=>?_⟩
 have s1:=q15 hwl (.lst [])
 have hwl1:=@q13 H wl (.lst [])
 generalize upd H wl (.lst [])=H1 at *
 have hgw:ga≠wl:=fun z=>by rw[z,hwl]at hga;cases hga
 refine⟨_,rfl,_,rfl,_,rfl,(L:Int),rfl,∅,∅,q78 (n:=L) (fun i σ H2=>∃(pa:Addr)(zs:List V)(gs':List G3)(k':Nat)(ws:List Int)(v6 v7 v8:Option V),σ=[some (.int (L:Int)),some (.ref ga),some (.int (k:Int)),some (.ref wl),some (.ref pa),some (.int (k':Int)),v6,v7,v8]/\Same H H2/\H2 wl=some (.lst (ws.map V.int))/\ws.length=i/\H2 pa=some (.lst zs)/\GatAt H2 (L-i) zs gs'/\(∀ g∈gs',GoodS (L-i) g)/\gs'.length<=100/\(Wh gs').length<=900/\k'<(Wh gs').length/\pa≠wl /\
   wayW L (kth L (Wh gs) k)=ws++wayW (L-i) (kth (L-i) (Wh gs') k')) ⟨ga,xs,gs,k,[],none,none,none,rfl,s1,hwl1,rfl,s1 _ _ hga,hg.same s1,hgd,hl,hw9,hk,hgw,rfl⟩ ?_ ?_⟩
 ·rintro i σ H2 hi ⟨pa,zs,gs',k',ws,v6,v7,v8,rfl,s2,hwl2,hwsl,hpa,hg',hgd',hl',hw9',hk',hpw,hway⟩
  obtain⟨e,he⟩:∃ e,L-i=e+1:=⟨L-i-1,∅⟩
  have he2:L-(i+1)=e:=∅
  rw[he]at hg' hgd' hway
  have el:∀ w:Int,gs'.map (ledS (e+1) [w])=gs'.map (led1 e w):=fun w=>YZ fun g _=>by rw[q65,q53]
  have good1:∀ w,∀ g∈gs'.map (led1 e w),GoodS e g:=fun w g hg=>by
   obtain⟨g',hg',rfl⟩:=List.mem_map.mp hg
   exact q100 (hgd' g' hg')
  have hsum:=q217 (e:=e) (Wh gs')
  have lenH:∀ w:Int,(halfO e w (Wh gs')).length<=900:=fun w=>ZR q120 hw9'
  refine⟨_,rfl,szb rfl,fun w0 hw0=>?_⟩
  have s3:=q15 hw0 (.tup [V.int 0])
  have hw0':upd H2 w0 (.tup [V.int 0]) w0=some (.tup [V.int 0]):=q13
  generalize upd H2 w0 (.tup [V.int 0])=H3 at *
  refine⟨pa,w0,zs,e+1,[0],gs',rfl,SqL.of (s3 _ _ hpa),hg'.same s3,hgd',∅,SqT.of hw0',by simp,(fun x hx=>by rw[List.mem_singleton.mp hx];exact .inl rfl),fun H4 D4 z4 s4 hD4 hD4n hg4=>?_⟩
  rw[el]at hg4
  refine⟨D4,z4,e,_,rfl,SqL.of hD4,hg4,by rw[ZN];lia,fun H5 s5=>?_⟩
  rw[q101 (good1 0),W_led hgd']
  have s25:=(s3.trans s4).trans s5
  exists _,rfl,_,rfl,_,_,rfl,rfl,_,rfl
  refine ite2 (fun c=>?_) (fun c=>?_)
  ·have c':k'<(halfO e 0 (Wh gs')).length:=by have:=ZH c;lia
   rw[wayW_lo c']at hway
   exists _,rfl,_,rfl,_,rfl,_,_,rfl,rfl,.inl ⟨{},{}⟩,_,_,rfl,rfl
   refine⟨_,rfl,_,rfl,szb rfl,fun w1 hw1=>?_⟩
   have s6:=q15 hw1 (.tup [V.int 0])
   have hw1':upd H5 w1 (.tup [V.int 0]) w1=some (.tup [V.int 0]):=q13
   generalize upd H5 w1 (.tup [V.int 0])=H6 at *
   have s26:=s25.trans s6
   refine⟨pa,w1,zs,e+1,[0],gs',rfl,SqL.of (s26 _ _ hpa),hg'.same s26,hgd',∅,SqT.of hw1',by simp,(fun x hx=>by rw[List.mem_singleton.mp hx];exact .inl rfl),fun H7 D7 z7 s7 hD7 hD7n hg7=>?_⟩
   rw[el]at hg7
   have s27:=s26.trans s7
   have hwl7:=s27 _ _ hwl2
   have hD7w:D7≠wl:=fun z=>by rw[z,s26 _ _ hwl2]at hD7n;cases hD7n
   exists _,rfl,.inl ⟨rfl,_,SqL.of hwl7⟩,_,rfl,wl,_,_,rfl,rfl,hwl7,by rw[ZN];exact q79 ∅
   have tk:TKeep H7 (upd H7 wl (.lst (ws.map V.int++[V.int 0]))):=.set hwl7
   exists D7,z7,gs'.map (led1 e 0),k',ws++[0],some (V.int (0+(i:Int))),some (V.int ((halfO e 0 (Wh gs')).length:Nat)),some (V.int 0),?_,q496 (s2.trans s27) hwl _,by rw[q13,WQ];rfl,by rw[ZV,hwsl];rfl,by rw[q27 hD7w];exact hD7,by rw[he2];exact hg7.tk tk,by rw[he2];exact good1 0,by rw[ZN];exact hl',by rw[W_led hgd'];exact lenH 0,by rw[W_led hgd'];exact c',hD7w
   ·have:(k':Int)-0*((halfO e 0 (Wh gs')).length:Nat)=(k':Int):=∅
    exact congrArg (fun q:Int=>[some (V.int (L:Int)),some (V.ref ga),some (V.int (k:Int)),some (V.ref wl),some (V.ref D7),some (V.int q),some (V.int (0+(i:Int))),some (V.int ((halfO e 0 (Wh gs')).length:Nat)),some (V.int 0)]) this
   ·rw[hway,he2,W_led hgd',YW];rfl
  ·have c':¬ k'<(halfO e 0 (Wh gs')).length:=fun z=>c (ZA ∅)
   rw[wayW_hi c']at hway
   exists _,rfl,_,rfl,_,rfl,_,_,rfl,rfl,.inl ⟨{},{}⟩,_,_,rfl,rfl
   refine⟨_,rfl,_,rfl,szb rfl,fun w1 hw1=>?_⟩
   have s6:=q15 hw1 (.tup [V.int 1])
   have hw1':upd H5 w1 (.tup [V.int 1]) w1=some (.tup [V.int 1]):=q13
   generalize upd H5 w1 (.tup [V.int 1])=H6 at *
   have s26:=s25.trans s6
   refine⟨pa,w1,zs,e+1,[1],gs',rfl,SqL.of (s26 _ _ hpa),hg'.same s26,hgd',∅,SqT.of hw1',by simp,(fun x hx=>by rw[List.mem_singleton.mp hx];exact .inr rfl),fun H7 D7 z7 s7 hD7 hD7n hg7=>?_⟩
   rw[el]at hg7
   have s27:=s26.trans s7
   have hwl7:=s27 _ _ hwl2
   have hD7w:D7≠wl:=fun z=>by rw[z,s26 _ _ hwl2]at hD7n;cases hD7n
   exists _,rfl,.inl ⟨rfl,_,SqL.of hwl7⟩,_,rfl,wl,_,_,rfl,rfl,hwl7,by rw[ZN];exact q79 ∅
   have tk:TKeep H7 (upd H7 wl (.lst (ws.map V.int++[V.int 1]))):=.set hwl7
   exists D7,z7,gs'.map (led1 e 1),k'-(halfO e 0 (Wh gs')).length,ws++[1],some (V.int (0+(i:Int))),some (V.int ((halfO e 0 (Wh gs')).length:Nat)),some (V.int 1),?_,q496 (s2.trans s27) hwl _,by rw[q13,WQ];rfl,by rw[ZV,hwsl];rfl,by rw[q27 hD7w];exact hD7,by rw[he2];exact hg7.tk tk,by rw[he2];exact good1 1,by rw[ZN];exact hl',by rw[W_led hgd'];exact lenH 1,by rw[W_led hgd'];lia,hD7w
   ·have:(k':Int)-1*((halfO e 0 (Wh gs')).length:Nat)=((k'-(halfO e 0 (Wh gs')).length:Nat):Int):=∅
    exact congrArg (fun q:Int=>[some (V.int (L:Int)),some (V.ref ga),some (V.int (k:Int)),some (V.ref wl),some (V.ref D7),some (V.int q),some (V.int (0+(i:Int))),some (V.int ((halfO e 0 (Wh gs')).length:Nat)),some (V.int 1)]) this
   ·rw[hway,he2,W_led hgd',YW];rfl
 ·rintro σ H2 ⟨pa,zs,gs',k',ws,v6,v7,v8,rfl,s2,hwl2,hwsl,hpa,hg',hgd',hl',hw9',hk',hpw,hway⟩
  rw[Nat.sub_self]at hway
  have hw2:wayW L (kth L (Wh gs) k)=ws:=by rw[hway];exact append_nil ws
  rw[hw2]at q
  exact⟨_,rfl,wl,_,rfl,SqL.of hwl2,fun t H' s' ht=>q t H' (s2.trans s') ht⟩
theorem q352:z.C P w 5 "counted_nth" pn15 (q174 K):=by
 have sc:=q338
 refine z.d_counted_nth.cal fun f fd F=>F.k sc fun _ _ _ s H _ Q _ hr h=>?_
 obtain⟨b,ga,xs,low,L,k,gs,rfl,hb,hL,hga,hg,hgd,hl,hw9,hk,q⟩:=h
 refine⟨_,(q11 (pst 3 sc.nd (pe_fn (q220 z) hr.m () (q10 (pix q26 (pv 0) q14) (q10 (pv 1) (q10 (pv 2) q12)))))
 (q16 (q19 (q30 (q10 (pix q26 (pe_fn (q383 z) hr.m () (q10 (pv 0) (q10 (pv 3) q12))) q14) (q10 (pe_fn (q38 z) hr.m () (q10 (pe_fn (q145 z) hr.m () (q10 (pv 1) (q10 (pv 3) q12))) q12)) q12)))))),?_⟩
 have r:=q131 L (Wh gs) k
 refine⟨_,rfl,b,_,_,_,rfl,rfl,hb,rfl,_,rfl,_,rfl,ga,xs,L,k,gs,rfl,hL,hga,hg,hgd,hl,hw9,hk,fun t H1 s1 ht=>?_⟩
 generalize kth L (Wh gs) k=o at *
 refine⟨_,rfl,_,rfl,b,t,low,L,wayW L o,rfl,s1.seqT hb,hL,ht.sq,fun p hp=>?_⟩
 have hsp:spanS low L (wayW L o)=(low+o,1):=q283 L low o r.1 r.2
 rw[hsp]
 have s2:=q15 hp (.tup [V.int (low+o),.int (low+o+1-1)])
 have hp2:=@q13 H1 p (.tup [V.int (low+o),.int (low+o+1-1)])
 dsimp only
 generalize upd H1 p (.tup [V.int (low+o),.int (low+o+1-1)])=H2 at *
 have s02:=s1.trans s2
 exists p,_,_,_,rfl,rfl,SqT.of hp2,rfl
 refine⟨_,rfl,_,rfl,ga,t,xs,L,wayW L o,gs,rfl,SqL.of (s02 _ _ hga),hg.same s02,hgd,∅,(ht.same s2).sq,by rw[q161];exact ZG _,q248 L o,fun H3 D3 z3 s3 hD3 _ hg3=>?_⟩
 refine⟨D3,z3,_,_,rfl,SqL.of hD3,hg3,by rw[ZN];lia,fun H4 s4=>?_⟩
 rw[q285 L o gs r.1 r.2 hgd]
 exact⟨szb rfl,fun v hv=>q _ _ (((s02.trans s3).trans s4).trans (q15 hv _)) ⟨v,rfl,q13⟩⟩
theorem q636:z.C P w 6 "next_up" pn1 (q384 K):=by
 have sc:=q629
 refine z.d_next_up.cal fun f fd F=>F.k sc fun _ _ _ s H _ Q _ hr h=>?_
 obtain⟨b,ga,xs,low,num,L,gs,rfl,hb,hL,hga,hg,hgd,hl,hw9,q⟩:=h
 refine⟨_,(q11 (pst 3 sc.nd (pe_fn (ok_below z) hr.m () (q10 (pv 0) (q10 (pv 1) (q10 (pe_op q29 (pv 2) q14) q12)))))
 (q11 (ps_if (q18 op_eq (pv 3) (pe_fn (q38 z) hr.m () (q10 (pv 1) q12)) (q20 _))
 (q16 (q19 q95))
 q21)
 (q16 (q19 (pe_fn (q352 z) hr.m () (q10 (pv 0) (q10 (pv 1) (q10 (pv 3) q12)))))))),?_⟩
 obtain⟨u1,u2⟩:=up_find (L:=L) (low:=low) (num:=num) (W_in hgd)
 have hle:=ltC_le (Wh gs) (num+1-low)
 refine⟨_,rfl,_,rfl,_,rfl,_,_,rfl,rfl,b,ga,xs,low,num+1,L,gs,rfl,hb,hL,SqL.of hga,hg,hgd,hl,fun H1 s1=>?_⟩
 change ∀ v H',Same H H'->NxV H' v _->Q v H' at q
 refine⟨_,rfl,_,rfl,ga,xs,L,gs,rfl,SqL.of (s1 _ _ hga),hg.same s1,∅,fun H2 s2=>?_⟩
 rw[q101 hgd]
 exists rfl,_,rfl
 by_cases c:ltC (Wh gs) (num+1-low)=(Wh gs).length
 ·rw[u1 c]at q
  refine ite2 (fun _=>q .non H2 (s1.trans s2) rfl) (fun c2=>absurd (ZA (by show V.int ((ltC (Wh gs) (num+1-low):Nat):Int)=_;rw[c])) c2)
 ·rw[u2 c]at q
  refine ite2 (fun c2=>absurd (by have:=V.int.inj (ZH c2);unfold ltC;lia) c) (fun _=>?_)
  have s02:=s1.trans s2
  exact⟨_,rfl,_,rfl,_,rfl,b,ga,xs,low,L,ltC (Wh gs) (num+1-low),gs,rfl,s02.seqT hb,hL,s02 _ _ hga,hg.same s02,hgd,hl,hw9,∅,fun v H3 s3 hv=>q v H3 (s02.trans s3) hv⟩
theorem q531:∀(L:Nat)(o x:Int),0<=o->o<2^L->0<=x->x<2^L->inW L x (wayW L o)=decide (x=o)
 | 0,o,x,h0,h1,h2,h3=>by
  have:(2:Int)^0=1:=rfl
  rw[ZA ∅]
  rfl
 | e+1,o,x,h0,h1,h2,h3=>by
  have p:=pow2 e
  have hp:=p2pos e
  by_cases c:o<2^e
  ·rw[q148 c,q282 ⟨h2,h3⟩]
   rcases mk0b e x with m | m
   ·have mm:=q146 h2 h3 m
    have r0:=YH x (show(2:Int)^e≠0 by lia)
    have r1:=YB x hp
    rw[m,q531 e o (x%2^e) h0 c r0 r1]
    have:x%2^e=x:=∅
    rw[this]
    rfl
   ·have mm:=q146 h2 h3 m
    have r0:=YH x (show(2:Int)^e≠0 by lia)
    rw[m,ZK ∅]
    rfl
  ·rw[q149 c,q282 ⟨h2,h3⟩]
   have r0:=YH x (show(2:Int)^e≠0 by lia)
   have r1:=YB x hp
   rcases mk0b e x with m | m
   ·have mm:=q146 h2 h3 m
    rw[m,ZK ∅]
    rfl
   ·have mm:=q146 h2 h3 m
    rw[m,q531 e (o-2^e) (x%2^e) ∅ ∅ r0 r1]
    by_cases z:x=o
    ·rw[ZA z,ZA ∅]
     rfl
    ·rw[ZK z,ZK ∅]
     rfl
theorem C_sel2{os:List Int}{s t:Nat}(h:s<=t):(os.take s).countP q+(sel (os,s,t)).countP q=(os.take t).countP q:=by
 have e:os.take t=os.take s++sel (os,s,t):=by
  unfold sel
  have:=(take_append_drop s (os.take t)).symm
  rw[take_take,YY h]at this
  exact this
 rw[e,countP_append]
theorem q736(g:G3):Wh [g]=sel g:=by unfold Wh;rw[flatMap_cons,flatMap_nil,append_nil]
theorem cnt_q(us:List Int)(o:Int):us.count o=us.countP fun x=>decide (x=o):=by
 rw[count_eq_countP]
 refine countP_congr fun x _=>?_
 rw[beq_iff_eq,WA]
theorem lift_at{L:Nat}{g:G3}{o:Int}{left:Nat}(hg:GoodS L g)(h0:0<=o)(h1:o<2^L)(hl:left<(sel g).count o) :
  ∃ i,(spots L g.1 (wayW L o))[(ledS L (wayW L o) g).2.1+left]? = some i/\g.2.1<=i/\i<g.2.2/\g.1[i]? = some o/\(sel (g.1,g.2.1,i)).count o=left:=by
 obtain⟨os,s,t⟩:=g
 obtain⟨hin,hst,htl,_⟩:=hg
 change s<=t at hst
 change t<=os.length at htl
 have hq:∀ x∈os,inW L x (wayW L o)=decide (x=o):=fun x hx=>q531 L o x h0 h1 (hin x hx).1 (hin x hx).2
 have hs:spots L os (wayW L o)=idxs (fun x=>decide (x=o)) os:=q380 hq
 have hcc:∀ k,(os.take k).countP (fun x=>inW L x (wayW L o))=(os.take k).countP fun x=>decide (x=o):=fun k=>countP_congr fun x hx=>by rw[hq x (mem_of_mem_take hx)]
 have hled:(ledS L (wayW L o) (os,s,t)).2.1=(os.take s).countP fun x=>decide (x=o):=by
  rcases q583 L (wayW L o) os s t (by rw[q161];exact ZG _) hin with e | e | e
  ·rw[e];exact hcc s
  ·lia
  ·lia
 rw[cnt_q]at hl
 have c1:=C_sel2 (q:=fun x=>decide (x=o)) (os:=os) hst
 have c2:=q420 (q:=fun x=>decide (x=o)) os htl
 rw[WT (ZG os.length)]at c2
 have hlen:(idxs (fun x=>decide (x=o)) os).length=os.countP fun x=>decide (x=o):=by
  have:=congrArg List.length (q491 (p:=fun x=>decide (x=o)) os)
  rw[ZN]at this
  rw[this,countP_eq_length_filter]
 have hk:(os.take s).countP (fun x=>decide (x=o))+left<(idxs (fun x=>decide (x=o)) os).length:=∅
 obtain⟨i,hi⟩:∃ i,(idxs (fun x=>decide (x=o)) os)[(os.take s).countP (fun x=>decide (x=o))+left]? = some i:=⟨_,ZP hk⟩
 obtain⟨o',k1,k2,k3⟩:=q421 os _ i hi
 have eo:o'=o:=ZH k2
 subst eo
 have hsi:s<=i:=by
  apply Classical.byContradiction
  intro c
  have m:=q420 (q:=fun x=>decide (x=o')) os (show i+1<=s by lia)
  rw[cnt_step k1 k2]at m
  lia
 have hit:i<t:=by
  apply Classical.byContradiction
  intro c
  have m:=q420 (q:=fun x=>decide (x=o')) os (show t<=i by lia)
  lia
 exists i,?_,hsi,hit,k1
 ·show(spots L os (wayW L o'))[(ledS L (wayW L o') (os,s,t)).2.1+left]? = some i
  rw[hs,hled]
  exact hi
 ·show(sel (os,s,i)).count o'=left
  rw[cnt_q]
  have c3:=C_sel2 (q:=fun x=>decide (x=o')) (os:=os) hsi
  lia
noncomputable def Thing(gs:List G3)(o:Int)(num j pl:Nat):Prop:=∃ g,gs[j]? = some g/\g.2.1<=pl/\pl<g.2.2/\g.1[pl]? = some o/\num=(Wh (gs.take j++[(g.1,g.2.1,pl)])).count o
theorem Wh_take{gs:List G3}{j:Nat}(h:gs[j]? = some g):Wh (gs.take (j+1))=Wh (gs.take j)++sel g:=by
 rw[WU,h]
 show Wh (gs.take j++[g])=_
 rw[W_app,q736]
theorem q737{L:Nat}(h:StrAt H L v g):GatAt H L [v] [g]:=(GatAt.nil H L).snoc h
inductive q268(u0:Fg)(vs:List V)(H:Hp)(Q:VK)(E:XK):Prop
 |mk(ga wy:Addr)(xs:List V)(L num:Nat)(o:Int)(gs:List G3)(_:vs=[.ref ga,.ref wy,.int (num:Int)])(_:L<=40)(_:H ga=some (.lst xs))(_:GatAt H L xs gs)(_:(∀ g∈gs,GoodS L g))(_:gs.length<=100)(_:TupF H wy ((wayW L o).map V.int))(_:0<=o)(_:o<2^L)(_:num<(Wh gs).count o)(_:∀(p:Addr)(j pl:Nat)(H':Hp),Same H H'->H' p=some (.tup [.int (j:Int),.int (pl:Int)])->Thing gs o num j pl->Q (.ref p) H')
noncomputable def muJ(n:Nat):St->Nat:=fun σ=>match σ[5]? with
 | some (some (V.int m))=>n-m.toNat
 | _=>0
theorem q500:z.C P w 43 "nth_alike" ["gathering", "way", "number"] (q268 K):=by
 have sc:=q472
 refine z.d_nth_alike.cal fun f fd F=>F.k sc fun _ _ _ s H _ Q _ hr h=>?_
 obtain⟨ga,wy,xs,L,num,o,gs,rfl,hL,hga,hg,hgd,hl,hwy,h0,h1,hnum,q⟩:=h
 refine⟨_,(q11 (pst 3 sc.nd (pe_fn (q145 z) hr.m () (q10 (pv 0) (q10 (pv 1) q12))))
 (q11 (pst 4 sc.nd (pv 2))
 (q11 (pst 5 sc.nd q14)
 (q11 (ps_while PassesOwn.never (q18 op_ge (pv 4) (pe_fn (q38 z) hr.m () (q10 (q42 (q10 (pix q31 (pv 3) (pv 5)) q12)) q12)) (q20 _))
 (q11 (pst 4 sc.nd (pe_op q54 (pv 4) (pe_fn (q38 z) hr.m () (q10 (q42 (q10 (pix q31 (pv 3) (pv 5)) q12)) q12))))
 (q16 (pst 5 sc.nd (pe_op q29 (pv 5) q14)))))
 (q16 (q19 (q30 (q10 (pv 5) (q10 (pe_fn (q735 z) hr.m () (q10 (pix q26 (pix q31 (pv 0) (pv 5)) q14) (q10 (pv 1) (q10 (pe_op q29 (pix q26 (pix q31 (pv 3) (pv 5)) q14) (pv 4)) q12)))) q12))))))))),?_⟩
 have hwl:=q161 L o
 refine⟨_,rfl,_,rfl,ga,wy,xs,L,wayW L o,gs,rfl,SqL.of hga,hg,hgd,∅,hwy.sq,∅,q248 L o,fun H1 D zs s1 hD _ hg1=>?_⟩
 rw[hwl,Nat.sub_self]at hg1
 have one:∀ g∈gs,manyG [ledS L (wayW L o) g]=((sel g).count o:Nat):=fun g hgm=>by
  have:=q285 L o [g] h0 h1 (fun x hx=>by rw[List.mem_singleton.mp hx];exact hgd g hgm)
  rw[q736]at this
  exact this
 have hjlt:∀(j left:Nat),left+(Wh (gs.take j)).count o=num->j<gs.length:=fun j left e=>by
  apply Classical.byContradiction
  intro c
  rw[WT ∅]at e
  lia
 exists _,rfl
 have at1:∀ j:Nat,j<gs.length -> ∃ g z t t' u u',gs[j]? = some g/\zs[j]? = some z/\z=V.ref t'/\H1 t'=some (.tup [u',.int ((ledS L (wayW L o) g).2.1:Int),.int ((ledS L (wayW L o) g).2.2:Int)])/\StrAt H1 0 z (ledS L (wayW L o) g)/\xs[j]? = some (V.ref t)/\H t=some (.tup [u,.int (g.2.1:Int),.int (g.2.2:Int)])/\q55 H u (growO L g.1):=by
  intro j hj
  have gj:gs[j]? = some gs[j]:=ZP hj
  have hjz:j<zs.length:=by rw[hg1.1,ZN];exact hj
  have hjx:j<xs.length:=by rw[hg.1];exact hj
  have gz:=ZP hjz
  have gx:=ZP hjx
  have hstr:=hg1.2 j _ _ gz (by rw[WN,gj];rfl)
  obtain⟨t',u',e1,e2,e3⟩:=id hstr
  obtain⟨t,u,f1,f2,f3⟩:=hg.2 j _ _ gx gj
  rw[f1]at gx
  exact⟨_,_,t,t',u,u',gj,gz,e1,e2,hstr,gx,f2,f3⟩
 refine while_by (fun σ H2=>∃(left j:Nat),σ=[some (.ref ga),some (.ref wy),some (.int (num:Int)),some (.ref D),some (.int (left:Int)),some (.int (j:Int))]/\Same H1 H2/\left+(Wh (gs.take j)).count o=num) (fun σ _=>muJ gs.length σ)
  ⟨num,0,rfl,Same.refl _,rfl⟩ ?_ ?_
 ·rintro σ H2 ⟨left,j,rfl,s2,hinv⟩
  have hj:=hjlt j left hinv
  obtain⟨g,z,t,t',u,u',gj,gz,e1,e2,hstr,gx,f2,f3⟩:=at1 j hj
  have hgm:=WV gj
  have hwt:=Wh_take gj
  refine⟨_,rfl,_,rfl,_,rfl,D,_,_,_,rfl,rfl,SqL.of (s2 _ _ hD),q61 gz,szb rfl,fun l1 hl1=>?_⟩
  have s3:=q15 hl1 (.lst [z])
  have hl1':upd H2 l1 (.lst [z]) l1=some (.lst [z]):=q13
  generalize upd H2 l1 (.lst [z])=H3 at *
  have s13:=s2.trans s3
  refine⟨l1,[z],0,[ledS L (wayW L o) g],rfl,SqL.of hl1',q737 (hstr.tk (.same s13)),by simp,fun H4 s4=>?_⟩
  rw[one g hgm]
  exists _,_,rfl,rfl,_,rfl
  have s14:=s13.trans s4
  refine ite2 (fun c=>?_) (fun c=>?_)
  ·have c':(sel g).count o<=left:=by have:=ZH c;lia
   refine⟨_,rfl,_,rfl,_,rfl,D,_,_,_,rfl,rfl,SqL.of (s14 _ _ hD),q61 gz,szb rfl,fun l2 hl2=>?_⟩
   have s5:=q15 hl2 (.lst [z])
   have hl2':upd H4 l2 (.lst [z]) l2=some (.lst [z]):=q13
   generalize upd H4 l2 (.lst [z])=H5 at *
   have s15:=s14.trans s5
   refine⟨l2,[z],0,[ledS L (wayW L o) g],rfl,SqL.of hl2',q737 (hstr.tk (.same s15)),by simp,fun H6 s6=>?_⟩
   rw[one g hgm]
   exists _,_,rfl,rfl,_,rfl,_,_,rfl,rfl,⟨left-(sel g).count o,j+1,?_,s15.trans s6,?_⟩
   ·have a1:(left:Int)-((sel g).count o:Nat)=((left-(sel g).count o:Nat):Int):=∅
    have a2:(j:Int)+1=((j+1:Nat):Int):=∅
    show[some (V.ref ga),some (V.ref wy),some (V.int (num:Int)),some (V.ref D),some (V.int ((left:Int)-((sel g).count o:Nat))),some (V.int ((j:Int)+1))]=_
    rw[a1,a2]
   ·rw[hwt,count_append];lia
   ·show gs.length-((j:Int)+1).toNat<gs.length-((j:Int)).toNat
    lia
  ·have c':left<(sel g).count o:=by
    apply Classical.byContradiction
    intro z2
    exact c (ZA ∅)
   obtain⟨i,k1,k2,k3,k4,k5⟩:=lift_at (hgd g hgm) h0 h1 c'
   have s04:=s1.trans s14
   exists _,rfl,_,rfl,_,rfl,ga,_,_,_,rfl,rfl,SqL.of (s04 _ _ hga),q61 gx,t,_,_,_,rfl,rfl,SqT.of (s04 _ _ f2),rfl,_,rfl,_,rfl,_,rfl,D,_,_,_,rfl,rfl,SqL.of (s14 _ _ hD),q61 gz
   rw[e1]
   exists t',_,_,_,rfl,rfl,SqT.of (s14 _ _ e2),rfl,_,rfl,_,_,rfl,rfl
   refine⟨L,hL,u,wy,(ledS L (wayW L o) g).2.1+left,i,L,g.1,wayW L o,?_,f3.same s04,hwy.same s04,hwl,ZG _,q248 L o,(hgd g hgm).1,k1,fun H5 s5=>⟨szb rfl,fun p hp=>?_⟩⟩
   ·exact congrArg (fun q:Int=>[u,V.ref wy,V.int q]) (show((ledS L (wayW L o) g).2.1:Int)+(left:Int)=(((ledS L (wayW L o) g).2.1+left:Nat):Int) by lia)
   refine q p j i _ ((s04.trans s5).trans (q15 hp _)) q13 ⟨g,gj,k2,k3,k4,?_⟩
   rw[W_app,q736,count_append,k5]
   lia
 ·rintro σ H2 Q1 Q2 hq ⟨_,e0,_,e1,_,e2,a,us,i,v,f1,f2,f3,f4,g0,g⟩
  refine⟨_,e0,_,e1,_,e2,a,us,i,v,f1,f2,f3,f4,g0,fun p hp=>?_⟩
  obtain⟨ga',xs',L',gs',h1,h2,h3,h4,h5⟩:=g p hp
  refine⟨ga',xs',L',gs',h1,h2,h3,h4,fun H' s'=>?_⟩
  obtain⟨i',j',w1,w2,k,w3,w4⟩:=h5 H' s'
  exact⟨i',j',w1,w2,k,w3,hq _ _ w4⟩
inductive q221(K:Fg)(cN:Addr)(vs:List V)(H:Hp)(Q:VK)(E:XK):Prop
 |mk(b ga:Addr)(xs:List V)(low:Int)(L:Nat)(k:Int)(gs:List G3)(_:vs=[.ref b,.ref ga,.int k])(_:SqT K H b [.int low,.int (L:Int)])(_:L<=40)(_:H ga=some (.lst xs))(_:GatAt H L xs gs)(_:(∀ g∈gs,GoodS L g))(_:gs.length<=100)(_:(Wh gs).length<=900)(_:(∀(kn:Nat),k=(kn:Int)->kn<(Wh gs).length -> ∀(p:Addr)(j pl:Nat)(H':Hp),Same H H'->H' p=some (.tup [.int (low+kth L (Wh gs) kn),.int (j:Int),.int (pl:Int)])->Thing gs (kth L (Wh gs) kn) (kn-ltC (Wh gs) (kth L (Wh gs) kn)) j pl->Q (.ref p) H'))(_:(∀ H',Same H H'->(k<0\/((Wh gs).length:Nat)<=k)->E (.ref cN) none H'))
theorem q424(z:Bz K mg base uA uB uI uF uC uE uD):CalX P w K mg base 44 "nth_least" ["bounds", "gathering", "k"] (q221 K uC):=by
 have sc:=q471
 refine z.d_nth_least.calx fun f fd F=>F.okx sc (fun vs H Q E h=>?_) (fun _ _ _ s H _ Q _ hr h=>?_)
 ·obtain⟨b,ga,xs,low,L,k,gs,rfl,_⟩:=h
  rfl
 obtain⟨b,ga,xs,low,L,k,gs,rfl,hb,hL,hga,hg,hgd,hl,hw9,q,qE⟩:=h
 refine⟨_,(q11 (ps_if (PW.pt (pw_or (q18 op_lt (pv 2) q14 (q20 _)) (q115 (q18 op_ge (pv 2) (pe_fn (q38 z) hr.m () (q10 (pv 1) q12)) (q20 _)))))
 (q16 (q452 lv_of z.m_NoSuch z.own_NoSuch () (q10 q34 q12)))
 q21)
 (q11 (pst 3 sc.nd (pe_fn (q220 z) hr.m () (q10 (pix q26 (pv 0) q14) (q10 (pv 1) (q10 (pv 2) q12)))))
 (q11 (pst 4 sc.nd (pe_op q54 (pv 2) (pe_fn (q173 z) hr.m () (q10 (pv 1) (q10 (pv 3) q12)))))
 (q16 (q19 (pe_op q399 (q30 (q10 (pix q26 (pe_fn (q383 z) hr.m () (q10 (pv 0) (q10 (pv 3) q12))) q14) q12)) (pe_fn (q500 z) hr.m () (q10 (pv 1) (q10 (pv 3) (q10 (pv 4) q12)))))))))),?_⟩
 exists _,rfl,_,_,rfl,rfl,_,rfl
 by_cases c0:k<0
 ·refine ite2 (fun _=>?_) (fun c=>absurd (ZA c0) c)
  exact⟨szb rfl,qE _ (Same.refl H) (.inl c0)⟩
 refine ite2 (fun c=>absurd (ZH c) c0) (fun _=>?_)
 refine⟨_,rfl,_,rfl,ga,xs,L,gs,rfl,SqL.of hga,hg,∅,fun H1 s1=>?_⟩
 rw[q101 hgd]
 exists _,_,rfl,rfl,_,rfl
 by_cases c1:(((Wh gs).length:Nat):Int)<=k
 ·refine ite2 (fun _=>?_) (fun c=>absurd (ZA c1) c)
  exact⟨szb rfl,qE _ s1 (.inr c1)⟩
 refine ite2 (fun c=>absurd (ZH c) c1) (fun _=>?_)
 obtain⟨k,rfl⟩:∃ k':Nat,k=(k':Int):=⟨k.toNat,∅⟩
 have hk:k<(Wh gs).length:=∅
 have q:=q k rfl hk
 have r:=q131 L (Wh gs) k
 obtain⟨c1,c2⟩:=q317 L (Wh gs) k (W_in hgd) hk
 rw[q423]at c2
 refine⟨_,rfl,b,_,_,_,rfl,rfl,s1.seqT hb,rfl,_,rfl,_,rfl,ga,xs,L,k,gs,rfl,hL,s1 _ _ hga,hg.same s1,hgd,hl,hw9,hk,fun t H2 s2 ht=>?_⟩
 have s02:=s1.trans s2
 generalize kth L (Wh gs) k=o at *
 refine⟨_,rfl,_,rfl,_,rfl,ga,t,xs,L,o,gs,rfl,SqL.of (s02 _ _ hga),hg.same s02,hgd,hl,ht.sq,r.1,r.2,fun H3 s3=>⟨_,_,rfl,rfl,?_⟩⟩
 have s03:=s02.trans s3
 refine⟨_,rfl,_,rfl,b,t,low,L,wayW L o,rfl,s03.seqT hb,hL,(ht.same s3).sq,fun p hp=>?_⟩
 have hsp:spanS low L (wayW L o)=(low+o,1):=q283 L low o r.1 r.2
 rw[hsp]
 have s4:=q15 hp (.tup [V.int (low+o),.int (low+o+1-1)])
 have hp4:=@q13 H3 p (.tup [V.int (low+o),.int (low+o+1-1)])
 dsimp only
 generalize upd H3 p (.tup [V.int (low+o),.int (low+o+1-1)])=H4 at *
 refine⟨p,_,_,_,rfl,rfl,SqT.of hp4,rfl,szb rfl,fun p1 hp1=>?_⟩
 have s5:=q15 hp1 (.tup [V.int (low+o)])
 have hp5:=@q13 H4 p1 (.tup [V.int (low+o)])
 generalize upd H4 p1 (.tup [V.int (low+o)])=H5 at *
 have s05:=(s03.trans s4).trans s5
 refine⟨_,rfl,_,rfl,_,rfl,ga,t,xs,L,k-ltC (Wh gs) o,o,gs,?_,hL,s05 _ _ hga,hg.same s05,hgd,hl,(((ht.same s3).same s4).same s5),r.1,r.2,∅,fun p2 j pl H6 s6 hp2 hth=>?_⟩
 ·exact congrArg (fun q:Int=>[V.ref ga,V.ref t,V.int q]) (show(k:Int)-((ltC (Wh gs) o:Nat):Int)=((k-ltC (Wh gs) o:Nat):Int) by lia)
 refine⟨p1,p2,_,_,rfl,rfl,SqT.of (s6 _ _ hp5),SqT.of hp2,szb rfl,fun p3 H7 s7 _ h3=>?_⟩
 exact q p3 j pl H7 ((s05.trans s6).trans s7) (h3 (s6 _ _ hp5) hp2) hth
abbrev q40:Nat:=3
abbrev q136:Nat:=40
inductive q74(K:Fg)(e:Nat)(vs:List V)(H:Hp)(Q:VK)(E:XK):Prop
 |mk(least part floor:Int)(pa:Addr)(xs:List V)(gs:List G3)(_:vs=[.int least,.int (2^e),.ref pa,.int part,.int floor])(_:SqL K H pa xs)(_:GatAt H e xs gs)(_:(∀ g∈gs,GoodS e g))(_:gs.length<=100)(_:(Wh gs).length<=900)(_:1<=part)(_:0<=floor)(_:∀(H':Hp)(D:Addr)(ys:List V),Same H H'->H' D=some (.lst ys)->H D=none->AllAt PsR H' ys (caF part floor e least (Wh gs))->Q (.ref D) H')
def q277(K:Fg):Sp:=fun vs H Q E=>∃ e,e<=q136/\q74 K e vs H Q E
inductive q269(K:Fg)(vs:List V)(H:Hp)(Q:VK)(E:XK):Prop
 |mk(b ga:Addr)(xs:List V)(low:Int)(L:Nat)(gs:List G3)(_:vs=[.ref b,.ref ga])(_:SqT K H b [.int low,.int (L:Int)])(_:L<=40)(_:SqL K H ga xs)(_:GatAt H L xs gs)(_:(∀ g∈gs,GoodS L g))(_:gs.length<=100)(_:(Wh gs).length<=900)(_:∀(H':Hp)(D:Addr)(ys:List V),Same H H'->H' D=some (.lst ys)->H D=none->AllAt PsR H' ys (caF 1 0 L low (Wh gs))->Q (.ref D) H')
def BstV(H:Hp)(v:V):Option P2->Prop
 | none=>v = .non
 | some p=>PsR H v p
inductive q738(K:Fg)(vs:List V)(H:Hp)(Q:VK)(E:XK):Prop
 |mk(b ga:Addr)(xs:List V)(low:Int)(L:Nat)(gs:List G3)(_:vs=[.ref b,.ref ga])(_:SqT K H b [.int low,.int (L:Int)])(_:L<=40)(_:SqL K H ga xs)(_:GatAt H L xs gs)(_:(∀ g∈gs,GoodS L g))(_:gs.length<=100)(_:(Wh gs).length<=900)(_:∀(H':Hp)(v:V),Same H H'->BstV H' v (bst (caF 1 0 L low (Wh gs)))->Q v H')
theorem q278:z.C P w 44 "counted_above" pn14 (q277 K):=by
 have sc:=q276
 refine z.d_counted_above.recur (k:=q40) (sp:=q74 K) q136 fun e hen c_counted_above f fd F=>F.k sc fun _ _ _ s H _ Q _ hr h=>?_
 obtain⟨least,part,floor,pa,xs,gs,rfl,hpa,hg,hgd,hl,hw,hp1,hf0,q⟩:=h
 refine⟨_,(q11 (pst 5 sc.nd (pe_fn (q38 z) (hr.mono (ZR (by decide:1<=q40) (WP _ _))) () (q10 (pv 2) q12)))
 (q11 (ps_if (q18 op_le (pe_op q105 (pv 5) (pv 3)) (pv 4) (q20 _))
 (q16 (q19 (q42 q12)))
 q21)
 (q11 (ps_if (q18 op_eq (pv 1) q14 (q20 _))
 (q16 (q19 (q42 (q10 (q30 (q10 (pv 0) (q10 (pv 5) q12))) q12))))
 q21)
 (q11 (pst 6 sc.nd (pe_op q89 (pv 1) q14))
 (q11 (pst 7 sc.nd (pe_fn c_counted_above (hr.mono (ZG _)) () (q10 (pv 0) (q10 (pv 6) (q10 (pe_fn (q82 z) (hr.mono (ZR (by decide:1<=q40) (WP _ _))) () (q10 (pe_fn (q145 z) (hr.mono (ZR (by decide:3<=q40) (WP _ _))) () (q10 (pv 2) (q10 (q30 (q10 q14 q12)) q12))) q12)) (q10 (pv 3) (q10 (pv 4) q12)))))))
 (q11 (pst 8 sc.nd (pe_fn c_counted_above (hr.mono (ZG _)) () (q10 (pe_op q29 (pv 0) (pv 6)) (q10 (pv 6) (q10 (pe_fn (q82 z) (hr.mono (ZR (by decide:1<=q40) (WP _ _))) () (q10 (pe_fn (q145 z) (hr.mono (ZR (by decide:3<=q40) (WP _ _))) () (q10 (pv 2) (q10 (q30 (q10 q14 q12)) q12))) q12)) (q10 (pv 3) (q10 (pv 4) q12)))))))
 (q16 (q19 (pe_op q446 (pv 7) (pv 8)))))))))),?_⟩
 have hin:=W_in hgd
 have hcl:=ca_len (part:=part) (floor:=floor) (least:=least) hp1 hf0 hin
 refine⟨_,rfl,pa,xs,e,gs,rfl,hpa,hg,∅,fun H1 s1=>?_⟩
 rw[q101 hgd]
 exists _,rfl,_,rfl,_,_,rfl,rfl,.inl ⟨∅,∅⟩,_,rfl,_,_,rfl,rfl,_,rfl
 refine ite2 (fun c=>?_) (fun c=>?_)
 ·have c':=ZH c
  have e0:caF part floor e least (Wh gs)=[]:=by
   cases e <;> (unfold caF;rw[ZJ c'])
  rw[e0]at q
  exact⟨szb rfl,fun D hD=>q _ D [] (s1.trans (q15 hD _)) q13 (s1.free hD) AllAt.nil⟩
 have c':¬((Wh gs).length:Int)*part<=floor:=fun z=>c (ZA z)
 exists _,rfl,rfl,_,rfl
 cases e with
 | zero=>
  refine ite2 (fun _=>?_) (fun c=>absurd (ZA rfl) c)
  have e0:caF part floor 0 least (Wh gs)=[(least,(((Wh gs).length:Nat):Int))]:=by unfold caF;rw[ZI c']
  rw[e0]at q
  refine⟨_,rfl,_,rfl,szb rfl,fun t ht=>⟨szb rfl,fun D hD=>?_⟩⟩
  have s2:=q15 ht (.tup [.int least,.int ((Wh gs).length:Nat)])
  have s3:=q15 hD (.lst [.ref t])
  refine q _ D [.ref t] ((s1.trans s2).trans s3) q13 ((s1.trans s2).free hD) ⟨rfl,fun j x p h1 h2=>?_⟩
  match j,h1,h2 with
  | 0,h1,h2=>cases h1;cases h2;exact⟨t,rfl,s3 _ _ q13⟩
  | j+1,h1,h2=>simp at h1
 | succ e=>
  have hp2:=p2pos e
  have e2:(2:Int)^(e+1)=2*2^e:=by rw[YJ];lia
  refine ite2 (fun c=>absurd (V.int.inj (ZH c)) ∅) (fun _=>?_)
  have hh:(2:Int)^(e+1)/2=2^e:=by rw[YJ];exact Int.mul_ediv_cancel _ {}
  exists _,rfl,_,_,rfl,rfl,⟨{},{}⟩
  dsimp only
  rw[hh]
  have e0:caF part floor (e+1) least (Wh gs)=caF part floor e least (halfO e 0 (Wh gs))++caF part floor e (least+2^e) (halfO e 1 (Wh gs)):=by rw[caF,ZI c']
  rw[e0]at q hcl
  have good1:∀ w,∀ g∈gs.map (led1 e w),GoodS e g:=fun w g hg=>by
   obtain⟨g',hg',rfl⟩:=List.mem_map.mp hg
   exact q100 (hgd g' hg')
  have el:∀ w:Int,gs.map (ledS (e+1) [w])=gs.map (led1 e w):=fun w=>YZ fun g _=>by rw[q65,q53]
  have e1l:e+1 - [(0:Int)].length=e:=rfl
  have lenH:∀ w:Int,(halfO e w (Wh gs)).length<=900:=fun w=>ZR q120 hw
  refine⟨_,rfl,_,rfl,_,rfl,szb rfl,fun w0 hw0=>?_⟩
  have s2:=q15 hw0 (.tup [V.int 0])
  have hw0':upd H1 w0 (.tup [V.int 0]) w0=some (.tup [V.int 0]):=q13
  generalize upd H1 w0 (.tup [V.int 0])=H2 at *
  have s02:=s1.trans s2
  refine⟨pa,w0,xs,e+1,[0],gs,rfl,s02.seq hpa,hg.same s02,hgd,∅,SqT.of hw0',by simp,(fun x hx=>by rw[List.mem_singleton.mp hx];exact .inl rfl),fun H3 D3 z3 s3 hD3 hD3n hg3=>?_⟩
  rw[el]at hg3
  have hg3':GatAt H3 e z3 (gs.map (led1 e 0)):=hg3
  refine⟨D3,z3,e,_,rfl,SqL.of hD3,hg3',by rw[ZN];lia,fun H4 D4 z4 s4 hD4 hD4n hg4=>?_⟩
  refine⟨_,rfl,_,rfl,least,part,floor,D4,z4,fillG (gs.map (led1 e 0)),rfl,SqL.of hD4,hg4,q81 (good1 0),?_,by rw[q102,W_led hgd];exact lenH 0,hp1,hf0,fun H5 D5 z5 s5 hD5 hD5n hp5=>?_⟩
  ·exact ZR (YE _ _) (by rw[ZN];exact hl)
  rw[q102,W_led hgd]at hp5
  have s05:=((s02.trans s3).trans s4).trans s5
  refine⟨_,rfl,_,rfl,_,_,rfl,rfl,_,rfl,_,rfl,szb rfl,fun w1 hw1=>?_⟩
  have s6:=q15 hw1 (.tup [V.int 1])
  have hw1':upd H5 w1 (.tup [V.int 1]) w1=some (.tup [V.int 1]):=q13
  generalize upd H5 w1 (.tup [V.int 1])=H6 at *
  have s06:=s05.trans s6
  refine⟨pa,w1,xs,e+1,[1],gs,rfl,s06.seq hpa,hg.same s06,hgd,∅,SqT.of hw1',by simp,(fun x hx=>by rw[List.mem_singleton.mp hx];exact .inr rfl),fun H7 D7 z7 s7 hD7 hD7n hg7=>?_⟩
  rw[el]at hg7
  have hg7':GatAt H7 e z7 (gs.map (led1 e 1)):=hg7
  refine⟨D7,z7,e,_,rfl,SqL.of hD7,hg7',by rw[ZN];lia,fun H8 D8 z8 s8 hD8 hD8n hg8=>?_⟩
  refine⟨_,rfl,_,rfl,least+2^e,part,floor,D8,z8,fillG (gs.map (led1 e 1)),rfl,SqL.of hD8,hg8,q81 (good1 1),?_,by rw[q102,W_led hgd];exact lenH 1,hp1,hf0,fun H9 D9 z9 s9 hD9 hD9n hp9=>?_⟩
  ·exact ZR (YE _ _) (by rw[ZN];exact hl)
  rw[q102,W_led hgd]at hp9
  have s59:=((s6.trans s7).trans s8).trans s9
  have hD59:=s59 _ _ hD5
  have hp59:=q729 hp5 s59
  refine⟨_,rfl,_,rfl,D5,D9,z5,z9,rfl,rfl,hD59,hD9,sz (by rw[hp5.1,hp9.1,<- ZV];lia),fun D hD=>?_⟩
  exact q _ D _ ((s05.trans s59).trans (q15 hD _)) q13 ((s05.trans s59).free hD) (q729 (hp59.app hp9) (q15 hD _))
theorem q501:z.C P w 45 "worths_in" pn11 (q269 K):=by
 have sc:=q473
 refine z.d_worths_in.cal fun f fd F=>F.k sc fun _ _ _ s H _ Q _ hr h=>?_
 obtain⟨b,ga,xs,low,L,gs,rfl,hb,hL,hga,hg,hgd,hl,hw,q⟩:=h
 exists _,(q16 (q19 (pe_fn (q278 z) hr.m () (q10 (pix q26 (pv 0) q14) (q10 (pe_fn (q47 z) hr.m () (q10 (pix q26 (pv 0) q14) q12)) (q10 (pe_fn (q82 z) hr.m () (q10 (pv 1) q12)) (q10 q14 (q10 q14 q12))))))))
 refine⟨_,rfl,b,_,_,_,rfl,rfl,hb,rfl,_,rfl,b,_,_,_,rfl,rfl,hb,rfl,L,rfl,hL,_,rfl,ga,xs,L,gs,rfl,hga,hg,∅,fun H1 D1 z1 s1 hD1 hD1n hg1=>?_⟩
 refine⟨L,hL,low,1,0,D1,z1,fillG gs,rfl,SqL.of hD1,hg1,q81 hgd,ZR (YE _ _) hl,by rw[q102];exact hw,{},{},fun H2 D2 z2 s2 hD2 hD2n hp2=>?_⟩
 rw[q102]at hp2
 exact q H2 D2 z2 (s1.trans s2) hD2 (s1.free hD2n) hp2
theorem ok_most:z.C P w 46 "most" pn11 (q738 K):=by
 have sc:=sc_most
 refine z.d_most.cal fun f fd F=>F.k sc fun _ _ _ s H _ Q _ hr h=>?_
 obtain⟨b,ga,xs,low,L,gs,rfl,hb,hL,hga,hg,hgd,hl,hw,q⟩:=h
 refine⟨_,(q11 (pst 2 sc.nd q95)
 (q11 (q60 PassesOwn.never rfl (q32 (pe_fn (q501 z) hr.m () (q10 (pv 0) (q10 (pv 1) q12)))) (pgn 3 sc.nd)
 (q16 (ps_if (PW.pt (pw_or (q18 q291 (pv 2) q95 (q20 _)) (q115 (q18 op_gt (pix q26 (pv 3) q14) (pix q26 (pv 2) q14) (q20 _)))))
 (q16 (pst 2 sc.nd (pv 3)))
 q21)))
 (q16 (q19 (pv 2))))),?_⟩
 refine⟨_,rfl,_,rfl,b,ga,xs,low,L,gs,rfl,hb,hL,hga,hg,hgd,hl,hw,fun H1 D1 z1 s1 hD1 hD1n hp1=>?_⟩
 generalize caF 1 0 L low (Wh gs)=ps at *
 refine⟨D1,rfl,⟨_,SqL.of hD1⟩,q156 (K:=K) (a:=D1) (xs:=z1) (fun j σ H2=>∃(bv:V)(v3:Option V),σ=[some (.ref b),some (.ref ga),some bv,v3]/\H2=H1/\BstV H1 bv ((ps.take j).foldl bstep none)) ⟨.non,none,rfl,rfl,rfl⟩ (fun j σ H2 _ ⟨_,_,_,e,_⟩=>by rw[e];exact SqL.of hD1) ?_ ?_⟩
 ·rintro j x σ H2 hx ⟨bv,v3,rfl,rfl,hbv⟩
  obtain⟨p,gp,hpx⟩:=hp1.get hx
  have et:(ps.take (j+1)).foldl bstep none=bstep ((ps.take j).foldl bstep none) p:=by
   rw[WU,gp,foldl_append]
   rfl
  generalize (ps.take j).foldl bstep none=bo at *
  exists _,rfl,rfl,_,rfl
  cases bo with
  | none=>
   cases(show bv = .non from hbv)
   refine ite2 (fun _=>?_) (fun c=>absurd rfl c)
   exists _,rfl,x,_,rfl,rfl
   rw[et]
   exact hpx
  | some q0=>
   obtain⟨ab,rfl,hab⟩:=hbv
   obtain⟨ap,rfl,hap⟩:=hpx
   refine ite2 (fun c=>absurd (ZH c) (by intro z;cases z)) (fun _=>?_)
   exists _,rfl,ap,_,_,_,rfl,rfl,SqT.of hap,rfl,_,rfl,ab,_,_,_,rfl,rfl,SqT.of hab,rfl,_,_,rfl,rfl,_,rfl
   refine ite2 (fun c=>?_) (fun c=>?_)
   ·exists _,rfl,_,_,rfl,rfl
    rw[et]
    show BstV H2 _ (if p.2 > q0.2 then some p else some q0)
    rw[ZJ (ZH c)]
    exact⟨ap,rfl,hap⟩
   ·exists _,_,rfl,rfl
    rw[et]
    show BstV H2 _ (if p.2 > q0.2 then some p else some q0)
    rw[ZI (fun z=>c (ZA z))]
    exact⟨ab,rfl,hab⟩
 ·rintro σ H2 ⟨bv,v3,rfl,rfl,hbv⟩
  rw[hp1.1,YD]at hbv
  exact⟨_,rfl,q _ bv s1 hbv⟩
noncomputable abbrev offs(low:Int)(ns:List Int):List Int:=ns.map fun n=>n-low
theorem q532{low:Int}{e:Nat}(h:Wths low e ns):InO e (offs low ns):=fun o ho=>by
 obtain⟨n,hn,rfl⟩:=List.mem_map.mp ho
 have:=h n hn
 lia
theorem q533{low:Int}{e:Nat}{ns:List Int}(h:Wths low (e+1) ns):halfO e 0 (offs low ns)=offs low (ns.filter fun n=>decide (n<low+2^e)):=by
 rw[q721 (q532 h)]
 unfold offs
 rw[filter_map]
 congr 1
 refine filter_congr fun n _=>?_
 show decide (n-low<2^e)=decide (n<low+2^e)
 by_cases c:n<low+2^e
 ·rw[ZA c,ZA ∅]
 ·rw[ZK c,ZK ∅]
theorem q534{low:Int}{e:Nat}{ns:List Int}(h:Wths low (e+1) ns):halfO e 1 (offs low ns)=offs (low+2^e) (ns.filter fun n=>decide (low+2^e<=n)):=by
 rw[q722 (q532 h)]
 unfold offs
 rw[filter_map,map_map]
 have e1:((fun o=>decide ((2:Int)^e<=o))∘fun n=>n-low)=fun n=>decide (low+2^e<=n):=by
  funext n
  show decide ((2:Int)^e<=n-low)=decide (low+2^e<=n)
  by_cases c:low+2^e<=n
  ·rw[ZA c,ZA ∅]
  ·rw[ZK c,ZK ∅]
 rw[e1]
 refine YZ fun n _=>?_
 show n-low-2^e=n-(low+2^e)
 lia
theorem Wths.loH{low:Int}{e:Nat}{ns:List Int}(h:Wths low (e+1) ns):Wths low e (ns.filter fun n=>decide (n<low+2^e)):=fun n hn=>by
 have h1:=List.mem_filter.mp hn
 have h2:=h n h1.1
 have h3:=ZH h1.2
 lia
theorem Wths.hiH{low:Int}{e:Nat}{ns:List Int}(h:Wths low (e+1) ns):Wths (low+2^e) e (ns.filter fun n=>decide (low+2^e<=n)):=fun n hn=>by
 have h1:=List.mem_filter.mp hn
 have h2:=h n h1.1
 have h3:=ZH h1.2
 have h4:(2:Int)^(e+1)=2^e+2^e:=by rw[YJ];lia
 lia
inductive Pp where
 | all (n:Int)
 | split (n:Int) (l r:Pp)
def PpAt(H:Hp):V->Pp->Prop
 | v,.all n=>∃ a,v = .ref a/\H a=some (.tup [.str "all", .int n])
 | v,.split n l r=>∃ a x y,v = .ref a/\H a=some (.tup [.str "split", .int n,x,y])/\PpAt H x l/\PpAt H y r
theorem PpAt.tk{H H':Hp}(k:TKeep H H'):∀{p:Pp}{v:V},PpAt H v p->PpAt H' v p
 | .all _,_,⟨a,e,h⟩=>⟨a,e,(k _ _).1 h⟩
 | .split _ _ _,_,⟨a,x,y,e,h,h1,h2⟩=>⟨a,x,y,e,(k _ _).1 h,h1.tk k,h2.tk k⟩
noncomputable def q43:Nat->List Int->Pp->Prop
 | _,us,.all n=>n=(us.length:Int)
 | 0,_,.split _ _ _=>False
 | e+1,us,.split n l r=>n=(us.length:Int)/\q43 e (halfO e 0 us) l/\q43 e (halfO e 1 us) r
noncomputable def Pp.leaves:Pp->Nat
 | .all _=>1
 | .split _ l r=>Pp.leaves l+Pp.leaves r
noncomputable def papF(φ:Int->Int->Int->Bool):Nat->Int->List Int->Pp
 | 0,_,us=>.all us.length
 | e+1,least,us=>if φ least (least+2^(e+1)-1) us.length=true then .split us.length (papF φ e least (halfO e 0 us)) (papF φ e (least+2^e) (halfO e 1 us))else .all us.length
noncomputable def dpP:Pp->Nat
 | .all _=>0
 | .split _ l r=>max (dpP l) (dpP r)+1
theorem q739:∀(e:Nat)(least:Int)(us:List Int),dpP (papF φ e least us)<=e
 | 0,_,_=>ZG _
 | e+1,least,us=>by
  unfold papF
  split
  ·show max _ _+1<=e+1
   have:=q739 (φ:=φ) e least (halfO e 0 us)
   have:=q739 (φ:=φ) e (least+2^e) (halfO e 1 us)
   lia
  ·exact WB _
theorem PpAt.tp{H H':Hp}(k:∀ b xs,H b=some (.tup xs)->H' b=some (.tup xs)):∀{p:Pp}{v:V},PpAt H v p->PpAt H' v p
 | .all _,_,⟨a,e,h⟩=>⟨a,e,k _ _ h⟩
 | .split _ _ _,_,⟨a,x,y,e,h,h1,h2⟩=>⟨a,x,y,e,k _ _ h,PpAt.tp k h1,PpAt.tp k h2⟩
theorem PpAt.same(h:PpAt H v p)(s:Same H H'):PpAt H' v p:=PpAt.tk (.same s) h
theorem q535:∀{p:Pp}{x y:V},PpAt H x p->PpAt H y p->Alk K H (dpP p+2) x y
 | .all n,x,y,⟨a,ea,ha⟩,⟨b,eb,hb⟩=>by
  subst ea eb
  refine .tup (SqT.of ha) (SqT.of hb) rfl fun j x y h1 h2=>?_
  match j,h1,h2 with
  | 0,h1,h2=>cases h1;cases h2;exact .flat rfl
  | 1,h1,h2=>cases h1;cases h2;exact .flat rfl
 | .split n l r,x,y,⟨a,x1,y1,ea,ha,hl,hr⟩,⟨b,x2,y2,eb,hb,hl',hr'⟩=>by
  subst ea eb
  have hd:dpP (.split n l r)=max (dpP l) (dpP r)+1:=rfl
  rw[hd]
  refine .tup (SqT.of ha) (SqT.of hb) rfl fun j x y h1 h2=>?_
  match j,h1,h2 with
  | 0,h1,h2=>cases h1;cases h2;exact .flat rfl
  | 1,h1,h2=>cases h1;cases h2;exact .flat rfl
  | 2,h1,h2=>cases h1;cases h2;exact(q535 hl hl').up ∅
  | 3,h1,h2=>cases h1;cases h2;exact(q535 hr hr').up ∅
noncomputable def clP:Pp->Bool
 | .all _=>true
 | .split _ _ _=>false
theorem q250:PySem.W.kitOne K (.type "tuple") (.type "tuple")=some true:=by kernel_rfl
inductive q318(u0:Fg)(vs:List V)(H:Hp)(Q:VK)(E:XK):Prop
 |mk(n:Int)(_:vs=[.int n])(_:Q (.bl true) H)
inductive q385(u0:Fg)(vs:List V)(H:Hp)(Q:VK)(E:XK):Prop
 |mk(a b:Str)(_:vs=[.str a,.str b])(_:Q (.bl (decide (a=b))) H)
inductive q270(u0:Fg)(vs:List V)(H:Hp)(Q:VK)(E:XK):Prop
 |mk(v:V)(p:Pp)(_:vs=[v])(_:PpAt H v p)(_:Q (.bl (clP p)) H)
inductive q319(u0:Fg)(vs:List V)(H:Hp)(Q:VK)(E:XK):Prop
 |mk(v:V)(p:Pp)(_:vs=[v])(_:PpAt H v p)(_:Q (.bl (!clP p)) H)
abbrev q75:Nat:=3
abbrev q386:Nat:=40
inductive q194(u0:Fg)(e:Nat)(vs:List V)(H:Hp)(Q:VK)(E:XK):Prop
 |mk(pa:Addr)(v:V)(p:Pp)(xs:List V)(gs:List G3)(_:vs=[.int (e:Int),.ref pa,v])(_:H pa=some (.lst xs))(_:GatAt H e xs gs)(_:(∀ g∈gs,GoodS e g))(_:gs.length<=100)(_:PpAt H v p)(_:q43 e (Wh gs) p)(_:∀ H',Same H H'->Q (.bl true) H')
def q637(K:Fg):Sp:=fun vs H Q E=>∃ e,e<=q386/\q194 K e vs H Q E
inductive q587(u0:Fg)(vs:List V)(H:Hp)(Q:VK)(E:XK):Prop
 |mk(ga:Addr)(v:V)(p:Pp)(L:Nat)(xs:List V)(gs:List G3)(_:vs=[.int (L:Int),.ref ga,v])(_:L<=40)(_:H ga=some (.lst xs))(_:GatAt H L xs gs)(_:(∀ g∈gs,GoodS L g))(_:gs.length<=100)(_:PpAt H v p)(_:q43 L (Wh gs) p)(_:∀ H',Same H H'->Q (.bl true) H')
abbrev q46:Nat:=3
abbrev q222:Nat:=40
noncomputable def f3(ψ:List Int->Bool):Int->Int->Int->Bool:=fun a b c=>ψ [a,b,c]
inductive q112(K:Fg)(e:Nat)(vs:List V)(H:Hp)(Q:VK)(E:XK):Prop
 |mk(least:Int)(pa f:Addr)(xs:List V)(gs:List G3)(C:List Int->Prop)(ψ:List Int->Bool)(_:vs=[.int least,.int (2^e),.ref pa,.ref f])(_:SqL K H pa xs)(_:GatAt H e xs gs)(_:(∀ g∈gs,GoodS e g))(_:gs.length<=100)(_:(Wh gs).length<=900)(_:Lam K 2 H f C ψ)(_:(∀ a b c:Int,0<=c->c<=1000->C [a,b,c]))(_:∀(H':Hp)(v:V),Same H H'->PpAt H' v (papF (f3 ψ) e least (Wh gs))->Q v H')
def q425(K:Fg):Sp:=fun vs H Q E=>∃ e,e<=q222/\q112 K e vs H Q E
inductive q223(K:Fg)(vs:List V)(H:Hp)(Q:VK)(E:XK):Prop
 |mk(b ga f:Addr)(xs:List V)(low:Int)(L:Nat)(gs:List G3)(C:List Int->Prop)(ψ:List Int->Bool)(_:vs=[.ref b,.ref ga,.ref f])(_:SqT K H b [.int low,.int (L:Int)])(_:L<=40)(_:SqL K H ga xs)(_:GatAt H L xs gs)(_:(∀ g∈gs,GoodS L g))(_:gs.length<=100)(_:(Wh gs).length<=900)(_:Lam K 2 H f C ψ)(_:(∀ a b c:Int,0<=c->c<=1000->C [a,b,c]))(_:∀(H':Hp)(v:V),Same H H'->PpAt H' v (papF (f3 ψ) L low (Wh gs))->Q v H')
theorem q320:z.C P w 1 "is_whole" ["thing"] (q318 K):=by
 have sc:=q520
 refine z.d_is_whole.cal fun f fd F=>F.k sc fun _ _ _ s H _ Q _ hr h=>?_
 obtain⟨n,rfl,q⟩:=h
 exists _,(q16 (q19 (q166 (q35 q127 () z.isinstance_ q36 (q10 (pv 0) (q10 (q185 (v:=.ty "int") (u:=.type "int") () z.int_ bt_int rfl) q12))) (q256 (pe_not (q35 q127 () z.isinstance_ q36 (q10 (pv 0) (q10 (q185 (v:=.ty "bool") (u:=.type "bool") () z.bool_ q662 rfl) q12))))))))
 exists _,rfl,_,_,_,_,rfl,.int _,q509,_,rfl
 refine ite2 (fun _=>?_) (fun c=>absurd rfl c)
 exact⟨_,rfl,_,_,_,_,rfl,.int _,q139,_,rfl,q⟩
theorem q387:z.C P w 1 "is_word" ["thing", "word"] (q385 K):=by
 have sc:=q625
 refine z.d_is_word.cal fun f fd F=>F.k sc fun _ _ _ s H _ Q _ hr h=>?_
 obtain⟨a,b,rfl,q⟩:=h
 exists _,(q16 (q19 (q166 (q35 q127 () z.isinstance_ q36 (q10 (pv 0) (q10 (q185 (v:=.ty "str") (u:=.type "str") () z.str_ bt_str rfl) q12))) (q256 (q41 op_eq (pv 0) (pv 1) (q20 _))))))
 exists _,rfl,_,_,_,_,rfl,.str _,q510,_,rfl
 refine ite2 (fun _=>?_) (fun c=>absurd rfl c)
 exists _,rfl,_,rfl,rfl
 have e:decide (V.str a=V.str b)=decide (a=b):=by
  by_cases h:a=b
  ·rw[h];simp
  ·rw[ZK h,ZK (fun z=>h (V.str.inj z))]
 rw[e]
 exact q
theorem q271:z.C P w 2 "is_closed" ["thing"] (q270 K):=by
 have sc:=q474
 refine z.d_is_closed.cal fun f fd F=>F.k sc fun _ _ _ s H _ Q _ hr h=>?_
 obtain⟨v,p,rfl,hv,q⟩:=h
 exists _,(q16 (q19 (q166 (q35 q127 () z.isinstance_ q36 (q10 (pv 0) (q10 (q185 (v:=.ty "tuple") (u:=.type "tuple") () z.tuple_ q157 rfl) q12))) (q166 (q41 op_eq (pln z.len_ (q10 (pv 0) q12)) q14 (q20 _)) (q166 (pe_fn (q387 z) hr.m () (q10 (pix q26 (pv 0) q14) (q10 q34 q12))) (q256 (pe_fn (q320 z) hr.m () (q10 (pix q26 (pv 0) q14) q12))))))))
 cases p with
 | all n=>
  obtain⟨a,rfl,h⟩:=hv
  exists _,rfl,_,_,_,_,rfl,.tup h,q250,_,rfl
  refine ite2 (fun _=>?_) (fun c=>absurd rfl c)
  exists _,rfl,a,_,rfl,.inr (SqT.of h),rfl,_,rfl
  refine ite2 (fun _=>?_) (fun c=>absurd (ZA rfl) c)
  exists _,rfl,a,_,_,_,rfl,rfl,SqT.of h,rfl,_,_,rfl,_,rfl
  refine ite2 (fun _=>?_) (fun c=>absurd (ZA rfl) c)
  exact⟨_,rfl,a,_,_,_,rfl,rfl,SqT.of h,rfl,_,rfl,q⟩
 | split n l r=>
  obtain⟨a,x,y,rfl,h,_,_⟩:=hv
  exists _,rfl,_,_,_,_,rfl,.tup h,q250,_,rfl
  refine ite2 (fun _=>?_) (fun c=>absurd rfl c)
  exists _,rfl,a,_,rfl,.inr (SqT.of h),rfl,_,rfl
  exact ite2 (fun c=>absurd (V.int.inj (ZH c)) (show ¬(4:Int)=2 by decide)) (fun _=>q)
theorem q536:z.C P w 2 "is_split" ["thing"] (q319 K):=by
 have sc:=q523
 refine z.d_is_split.cal fun f fd F=>F.k sc fun _ _ _ s H _ Q _ hr h=>?_
 obtain⟨v,p,rfl,hv,q⟩:=h
 exists _,(q16 (q19 (q166 (q35 q127 () z.isinstance_ q36 (q10 (pv 0) (q10 (q185 (v:=.ty "tuple") (u:=.type "tuple") () z.tuple_ q157 rfl) q12))) (q166 (q41 op_eq (pln z.len_ (q10 (pv 0) q12)) q14 (q20 _)) (q166 (pe_fn (q387 z) hr.m () (q10 (pix q26 (pv 0) q14) (q10 q34 q12))) (q256 (pe_fn (q320 z) hr.m () (q10 (pix q26 (pv 0) q14) q12))))))))
 cases p with
 | all n=>
  obtain⟨a,rfl,h⟩:=hv
  exists _,rfl,_,_,_,_,rfl,.tup h,q250,_,rfl
  refine ite2 (fun _=>?_) (fun c=>absurd rfl c)
  exists _,rfl,a,_,rfl,.inr (SqT.of h),rfl,_,rfl
  exact ite2 (fun c=>absurd (V.int.inj (ZH c)) (show ¬(2:Int)=4 by decide)) (fun _=>q)
 | split n l r=>
  obtain⟨a,x,y,rfl,h,_,_⟩:=hv
  exists _,rfl,_,_,_,_,rfl,.tup h,q250,_,rfl
  refine ite2 (fun _=>?_) (fun c=>absurd rfl c)
  exists _,rfl,a,_,rfl,.inr (SqT.of h),rfl,_,rfl
  refine ite2 (fun _=>?_) (fun c=>absurd (ZA rfl) c)
  exists _,rfl,a,_,_,_,rfl,rfl,SqT.of h,rfl,_,_,rfl,_,rfl
  refine ite2 (fun _=>?_) (fun c=>absurd (ZA rfl) c)
  exact⟨_,rfl,a,_,_,_,rfl,rfl,SqT.of h,rfl,_,rfl,q⟩
theorem q638:z.C P w 44 "is_kept" ["levels", "parts", "thing"] (q637 K):=by
 have sc:=q630
 refine z.d_is_kept.recur (k:=q75) (sp:=q194 K) q386 fun e hen c_is_kept f fd F=>F.k sc fun _ _ _ s H _ Q _ hr h=>?_
 obtain⟨pa,v,p,xs,gs,rfl,hpa,hg,hgd,hgl,hv,hk,q⟩:=h
 refine⟨_,(q11 (ps_if (q87 (pe_fn (q271 z) (hr.mono (ZR (by decide:2<=q75) (WP _ _))) () (q10 (pv 2) q12)))
 (q16 (q19 (q41 op_eq (pix q26 (pv 2) q14) (pe_fn (q38 z) (hr.mono (ZR (by decide:1<=q75) (WP _ _))) () (q10 (pv 1) q12)) (q20 _))))
 q21)
 (q11 (ps_if (PW.pt (pw_or (q18 op_eq (pv 0) q14 (q20 _)) (pw_or (q116 (q87 (pe_fn (q536 z) (hr.mono (ZR (by decide:2<=q75) (WP _ _))) () (q10 (pv 2) q12)))) (q115 (q18 op_ne (pix q26 (pv 2) q14) (pe_fn (q38 z) (hr.mono (ZR (by decide:1<=q75) (WP _ _))) () (q10 (pv 1) q12)) (q20 _))))))
 (q16 (q19 pe_bl))
 q21)
 (q11 (q60 PassesOwn.never rfl (q438 (q30 (q10 q14 (q10 q14 q12)))) (pgn 3 sc.nd)
 (q16 (ps_if (q116 (q87 (pe_fn c_is_kept (hr.mono (ZG _)) () (q10 (pe_op q54 (pv 0) q14) (q10 (pe_fn (q82 z) (hr.mono (ZR (by decide:1<=q75) (WP _ _))) () (q10 (pe_fn (q145 z) (hr.mono (ZR (by decide:3<=q75) (WP _ _))) () (q10 (pv 1) (q10 (q30 (q10 (pv 3) q12)) q12))) q12)) (q10 (pix q26 (pv 2) (pe_op q29 q14 (pv 3))) q12))))))
 (q16 (q19 pe_bl))
 q21)))
 (q16 (q19 pe_bl))))),?_⟩
 have hm:manyG gs=((Wh gs).length:Nat):=q101 hgd
 exists _,rfl,v,p,rfl,hv,_,rfl
 cases p with
 | all n=>
  refine ite2 (fun _=>?_) (fun c=>absurd rfl c)
  obtain⟨a,rfl,h⟩:=hv
  have hk':n=((Wh gs).length:Nat):=by cases e <;> exact hk
  subst hk'
  refine⟨_,rfl,a,_,_,_,rfl,rfl,SqT.of h,rfl,_,rfl,pa,xs,e,gs,rfl,SqL.of hpa,hg,∅,fun H' s'=>⟨rfl,?_⟩⟩
  rw[hm,ZA rfl]
  exact q H' s'
 | split n l r=>
  refine ite2 (fun c=>absurd c fnt) (fun _=>?_)
  exists _,rfl,rfl,_,rfl
  cases e with
  | zero=>exact hk.elim
  | succ e=>
   obtain⟨hn,hl,hr2⟩:=hk
   refine ite2 (fun c=>absurd (V.int.inj (ZH c)) ∅) (fun _=>?_)
   exists _,rfl,v,_,rfl,hv,_,rfl
   refine ite2 (fun c=>absurd c fnt) (fun _=>?_)
   obtain⟨a,x,y,rfl,h,h1,h2⟩:=hv
   subst hn
   refine⟨_,rfl,a,_,_,_,rfl,rfl,SqT.of h,rfl,_,rfl,pa,xs,e+1,gs,rfl,SqL.of hpa,hg,∅,fun H1 s1=>⟨rfl,_,rfl,?_⟩⟩
   rw[hm,ZA rfl]
   refine ite2 (fun z=>absurd z {}) (fun _=>?_)
   refine⟨szb rfl,fun tp htp=>?_⟩
   have s2:=q15 htp (.tup [V.int 0,.int 1])
   have e2:=@q13 H1 tp (.tup [V.int 0,.int 1])
   have s02:=s1.trans s2
   generalize upd H1 tp (.tup [V.int 0,.int 1])=H2 at *
   refine⟨tp,rfl,⟨_,SqT.of e2⟩,q289 (K:=K) (a:=tp) (xs:=[V.int 0,.int 1]) (fun i σ G=>∃(w3:Option V),σ=[some (.int ((e+1:Nat):Int)),some (.ref pa),some (.ref a),w3]/\Same H2 G)
    ⟨_,rfl,Same.refl _⟩ (fun i σ G _ ⟨_,_,s⟩=>SqT.of (s _ _ e2)) ?_ ?_⟩
   ·rintro i y' σ G hi ⟨w3,rfl,sG⟩
    obtain⟨mk,vv,xx,rfl,hmk,hat,hxx,hkk⟩:∃(mk:Int)(vv:V)(xx:Pp),y' = .int mk/\(mk=0\/mk=1)/\atI [V.str "split", V.int ((Wh gs).length:Nat),x,y] (2+mk)=some vv/\PpAt H vv xx/\q43 e (halfO e mk (Wh gs)) xx:=by
     match i,hi with
     | 0,hi=>cases hi;exact⟨0,x,_,rfl,.inl rfl,rfl,h1,hl⟩
     | 1,hi=>cases hi;exact⟨1,y,_,rfl,.inr rfl,rfl,h2,hr2⟩
    have sHG:=s02.trans sG
    refine⟨_,rfl,_,_,rfl,rfl,_,rfl,_,rfl,szb rfl,fun w0 hw0=>?_⟩
    have t1:=q15 hw0 (.tup [V.int mk])
    have ew0:upd G w0 (.tup [V.int mk]) w0=some (.tup ([mk].map V.int)):=q13
    generalize upd G w0 (.tup [V.int mk])=G1 at *
    have s1':=sHG.trans t1
    refine⟨pa,w0,xs,e+1,[mk],gs,rfl,SqL.of (s1' _ _ hpa),hg.same s1',hgd,∅,SqT.of ew0,by simp,fun m hm=>by rw[List.mem_singleton.mp hm];exact hmk,fun G2 D2 ys t2 hD2 _ hg2=>?_⟩
    have eled:gs.map (ledS (e+1) [mk])=gs.map (led1 e mk):=YZ fun g _=>by rw[q65,q53]
    rw[eled]at hg2
    refine⟨D2,ys,_,_,rfl,SqL.of hD2,hg2,by rw[ZN];lia,fun G3' D3 y3 t3 hD3 _ hg3=>?_⟩
    have hg3':GatAt G3' e y3 (fillG (gs.map (led1 e mk))):=hg3
    have s13:=s1'.trans (t2.trans t3)
    exists _,rfl,_,rfl,_,_,rfl,rfl,a,_,_,_,rfl,rfl,SqT.of (s13 _ _ h),hat
    have ee:(((e+1:Nat):Int)-1)=(e:Int):=∅
    refine⟨D3,vv,xx,y3,fillG (gs.map (led1 e mk)),congrArg (fun t=>[V.int t,V.ref D3,vv]) ee,hD3,hg3',q81 (fun g hg'=>?_),?_,hxx.same s13,?_,fun G4 t4=>⟨_,rfl,iteF ⟨_,rfl,sG.trans (t1.trans (t2.trans (t3.trans t4)))⟩⟩⟩
    ·obtain⟨g0,hg0,rfl⟩:=List.mem_map.mp hg'
     exact q100 (hgd g0 hg0)
    ·exact ZR (YE _ _) (by rw[ZN];exact hgl)
    ·rw[q102,W_led hgd]
     exact hkk
   ·rintro σ G ⟨w3,rfl,sG⟩
    exact q G (s02.trans sG)
theorem q224:z.C P w 45 "keeps" ["levels", "gathering", "paper"] (q587 K):=by
 have sc:=sc_keeps
 refine z.d_keeps.cal fun f fd F=>F.k sc fun _ _ _ s H _ Q _ hr h=>?_
 obtain⟨ga,v,p,L,xs,gs,rfl,hL,hga,hg,hgd,hl,hv,hk,q⟩:=h
 exists _,(q16 (q19 (pe_fn (q638 z) hr.m () (q10 (pv 0) (q10 (pe_fn (q82 z) hr.m () (q10 (pv 1) q12)) (q10 (pv 2) q12))))))
 refine⟨_,rfl,_,rfl,ga,xs,L,gs,rfl,SqL.of hga,hg,∅,fun H1 D1 z1 s1 hD1 _ hg1=>?_⟩
 exact⟨_,rfl,L,hL,D1,v,p,z1,fillG gs,rfl,hD1,hg1,q81 hgd,ZR (YE _ _) hl,hv.same s1,by rw[q102];exact hk,fun H2 s2=>q H2 (s1.trans s2)⟩
theorem q426:z.C P w 44 "paper_from" pn18 (q425 K):=by
 have sc:=q415
 refine z.d_paper_from.recur (k:=q46) (sp:=q112 K) q222 fun e hen c_paper_from f fd F=>F.k sc fun _ _ _ s H _ Q _ hr h=>?_
 obtain⟨least,pa,fa,xs,gs,C,ψ,rfl,hpa,hg,hgd,hl,hw,hf,hC,q⟩:=h
 refine⟨_,(q11 (pst 4 sc.nd (pe_fn (q38 z) (hr.mono (ZR (by decide:1<=q46) (WP _ _))) () (q10 (pv 2) q12)))
 (q11 (ps_if (PW.pt (pw_or (q18 op_eq (pv 1) q14 (q20 _)) (q115 (q116 (q87 (pe_callV (k:=2) 3 (hr.mono (ZR (by decide:2<=q46) (WP _ _))) (q10 (pv 0) (q10 (pe_op q54 (pe_op q29 (pv 0) (pv 1)) q14) (q10 (pv 4) q12)))))))))
 (q16 (q19 (q30 (q10 q34 (q10 (pv 4) q12)))))
 q21)
 (q11 (pst 5 sc.nd (pe_op q89 (pv 1) q14))
 (q11 (pst 6 sc.nd (pe_fn c_paper_from (hr.mono (ZG _)) () (q10 (pv 0) (q10 (pv 5) (q10 (pe_fn (q82 z) (hr.mono (ZR (by decide:1<=q46) (WP _ _))) () (q10 (pe_fn (q145 z) (hr.mono (ZR (by decide:3<=q46) (WP _ _))) () (q10 (pv 2) (q10 (q30 (q10 q14 q12)) q12))) q12)) (q10 (pv 3) q12))))))
 (q11 (pst 7 sc.nd (pe_fn c_paper_from (hr.mono (ZG _)) () (q10 (pe_op q29 (pv 0) (pv 5)) (q10 (pv 5) (q10 (pe_fn (q82 z) (hr.mono (ZR (by decide:1<=q46) (WP _ _))) () (q10 (pe_fn (q145 z) (hr.mono (ZR (by decide:3<=q46) (WP _ _))) () (q10 (pv 2) (q10 (q30 (q10 q14 q12)) q12))) q12)) (q10 (pv 3) q12))))))
 (q16 (q19 (q30 (q10 q34 (q10 (pv 4) (q10 (pv 6) (q10 (pv 7) q12)))))))))))),?_⟩
 refine⟨_,rfl,pa,xs,e,gs,rfl,hpa,hg,∅,fun H1 s1=>?_⟩
 rw[q101 hgd]
 exists _,rfl,rfl,_,rfl
 cases e with
 | zero=>
  refine ite2 (fun _=>?_) (fun c=>absurd (ZA rfl) c)
  refine ite2 (fun _=>?_) (fun c=>absurd rfl c)
  exact⟨_,rfl,szb rfl,fun t ht=>q _ _ (s1.trans (q15 ht _)) ⟨t,rfl,q13⟩⟩
 | succ e=>
  have hp2:=p2pos e
  have e2:(2:Int)^(e+1)=2*2^e:=by rw[YJ];lia
  refine ite2 (fun c=>absurd (V.int.inj (ZH c)) ∅) (fun _=>?_)
  have hf1:=hf.same s1
  exists fa,C,ψ,rfl,hf1,_,rfl,_,rfl,_,rfl,_,_,rfl,rfl,_,_,rfl,rfl,_,rfl,[least,least+2^(e+1)-1,((Wh gs).length:Nat)],rfl,hf1,hC _ _ _ ∅ ∅,_,rfl
  cases hφ:ψ [least,least+2^(e+1)-1,((Wh gs).length:Nat)] with
  | false=>
   refine ite2 (fun _=>?_) (fun c=>absurd rfl c)
   have e0:papF (f3 ψ) (e+1) least (Wh gs) = .all ((Wh gs).length:Nat):=by
    unfold papF
    rw[ZI (by show ¬ ψ _=true;rw[hφ];exact fnt)]
   rw[e0]at q
   exact⟨_,rfl,szb rfl,fun t ht=>q _ _ (s1.trans (q15 ht _)) ⟨t,rfl,q13⟩⟩
  | true=>
   refine ite2 (fun c=>absurd c {}) (fun _=>?_)
   have e0:papF (f3 ψ) (e+1) least (Wh gs) = .split ((Wh gs).length:Nat) (papF (f3 ψ) e least (halfO e 0 (Wh gs))) (papF (f3 ψ) e (least+2^e) (halfO e 1 (Wh gs))):=by
    rw[papF,ZJ (show f3 ψ least (least+2^(e+1)-1) ((Wh gs).length:Nat)=true from hφ)]
   rw[e0]at q
   have hh:(2:Int)^(e+1)/2=2^e:=by rw[YJ];exact Int.mul_ediv_cancel _ {}
   exists _,rfl,_,_,rfl,rfl,⟨{},{}⟩
   dsimp only
   rw[hh]
   have good1:∀ w,∀ g∈gs.map (led1 e w),GoodS e g:=fun w g hg=>by
    obtain⟨g',hg',rfl⟩:=List.mem_map.mp hg
    exact q100 (hgd g' hg')
   have el:∀ w:Int,gs.map (ledS (e+1) [w])=gs.map (led1 e w):=fun w=>YZ fun g _=>by rw[q65,q53]
   have lenH:∀ w:Int,(halfO e w (Wh gs)).length<=900:=fun w=>ZR q120 hw
   have fl:∀ w,(fillG (gs.map (led1 e w))).length<=100:=fun w=>ZR (YE _ _) (by rw[ZN];exact hl)
   refine⟨_,rfl,_,rfl,_,rfl,szb rfl,fun w0 hw0=>?_⟩
   have s2:=q15 hw0 (.tup [V.int 0])
   have hw0':upd H1 w0 (.tup [V.int 0]) w0=some (.tup [V.int 0]):=q13
   generalize upd H1 w0 (.tup [V.int 0])=H2 at *
   have s02:=s1.trans s2
   refine⟨pa,w0,xs,e+1,[0],gs,rfl,s02.seq hpa,hg.same s02,hgd,∅,SqT.of hw0',by simp,(fun x hx=>by rw[List.mem_singleton.mp hx];exact .inl rfl),fun H3 D3 z3 s3 hD3 hD3n hg3=>?_⟩
   rw[el]at hg3
   have hg3':GatAt H3 e z3 (gs.map (led1 e 0)):=hg3
   refine⟨D3,z3,e,_,rfl,SqL.of hD3,hg3',by rw[ZN];lia,fun H4 D4 z4 s4 hD4 hD4n hg4=>?_⟩
   have s04:=(s02.trans s3).trans s4
   refine⟨_,rfl,least,D4,fa,z4,fillG (gs.map (led1 e 0)),C,ψ,rfl,SqL.of hD4,hg4,q81 (good1 0),fl 0,by rw[q102,W_led hgd];exact lenH 0,hf.same s04,hC,fun H5 v5 s5 hp5=>?_⟩
   rw[q102,W_led hgd]at hp5
   have s05:=s04.trans s5
   refine⟨_,rfl,_,rfl,_,_,rfl,rfl,_,rfl,_,rfl,szb rfl,fun w1 hw1=>?_⟩
   have s6:=q15 hw1 (.tup [V.int 1])
   have hw1':upd H5 w1 (.tup [V.int 1]) w1=some (.tup [V.int 1]):=q13
   generalize upd H5 w1 (.tup [V.int 1])=H6 at *
   have s06:=s05.trans s6
   refine⟨pa,w1,xs,e+1,[1],gs,rfl,s06.seq hpa,hg.same s06,hgd,∅,SqT.of hw1',by simp,(fun x hx=>by rw[List.mem_singleton.mp hx];exact .inr rfl),fun H7 D7 z7 s7 hD7 hD7n hg7=>?_⟩
   rw[el]at hg7
   have hg7':GatAt H7 e z7 (gs.map (led1 e 1)):=hg7
   refine⟨D7,z7,e,_,rfl,SqL.of hD7,hg7',by rw[ZN];lia,fun H8 D8 z8 s8 hD8 hD8n hg8=>?_⟩
   have s58:=(s6.trans s7).trans s8
   refine⟨_,rfl,least+2^e,D8,fa,z8,fillG (gs.map (led1 e 1)),C,ψ,rfl,SqL.of hD8,hg8,q81 (good1 1),fl 1,by rw[q102,W_led hgd];exact lenH 1,hf.same (s05.trans s58),hC,fun H9 v9 s9 hp9=>?_⟩
   rw[q102,W_led hgd]at hp9
   have s59:=s58.trans s9
   refine⟨_,rfl,_,rfl,_,rfl,szb rfl,fun t ht=>?_⟩
   have s10:=q15 ht (.tup [V.str "split", .int ((Wh gs).length:Nat),v5,v9])
   exact q _ _ ((s05.trans s59).trans s10) ⟨t,v5,v9,rfl,q13,hp5.same (s59.trans s10),hp9.same s10⟩
theorem q66:z.C P w 45 "told_paper" pn19 (q223 K):=by
 have sc:=q414
 refine z.d_told_paper.cal fun f fd F=>F.k sc fun _ _ _ s H _ Q _ hr h=>?_
 obtain⟨b,ga,fa,xs,low,L,gs,C,ψ,rfl,hb,hL,hga,hg,hgd,hl,hw,hf,hC,q⟩:=h
 exists _,(q16 (q19 (pe_fn (q426 z) hr.m () (q10 (pix q26 (pv 0) q14) (q10 (pe_fn (q47 z) hr.m () (q10 (pix q26 (pv 0) q14) q12)) (q10 (pe_fn (q82 z) hr.m () (q10 (pv 1) q12)) (q10 (pv 2) q12)))))))
 refine⟨_,rfl,b,_,_,_,rfl,rfl,hb,rfl,_,rfl,b,_,_,_,rfl,rfl,hb,rfl,L,rfl,hL,_,rfl,ga,xs,L,gs,rfl,hga,hg,∅,fun H1 D1 z1 s1 hD1 hD1n hg1=>?_⟩
 refine⟨_,rfl,L,hL,low,D1,fa,z1,fillG gs,C,ψ,rfl,SqL.of hD1,hg1,q81 hgd,ZR (YE _ _) hl,by rw[q102];exact hw,hf.same s1,hC,fun H2 v2 s2 hp2=>?_⟩
 rw[q102]at hp2
 exact q H2 v2 (s1.trans s2) hp2
def RwAt(H:Hp)(av:List Addr)(low:Int)(L:Nat)(ys:List V)(nss:LL):Prop:=ys.length=nss.length /\ ∀(j:Nat)(y:V)(ns:List Int),ys[j]? = some y->nss[j]? = some ns -> ∃ r,y = .ref r/\r ∉ av/\H r=some (.lst (ns.map V.int))/\ns.length<=60/\Wths low L ns
theorem RwAt.up{low:Int}{L:Nat}(h:RwAt H av low L ys nss)(k:∀ c o,c ∉ av->H c=some o->H' c=some o)(ha:∀ c xs,H c=some (.lst xs)->c ∉ av->c ∉ av'):RwAt H' av' low L ys nss:=
 ⟨h.1,fun j y ns h1 h2=>by
  obtain⟨r,e,hr,z1,z2⟩:=h.2 j y ns h1 h2
  exact⟨r,e,ha r _ z1 hr,k r _ hr z1,z2⟩⟩
noncomputable def TrAt(H:Hp)(low:Int)(L:Nat)(ys:List V)(nss:LL):Prop:=ys.length=nss.length /\ ∀(j:Nat)(y:V)(ns:List Int),ys[j]? = some y->nss[j]? = some ns->q55 H y (grow low L ns)
theorem RwAt.snoc{low:Int}{L:Nat}{ns:List Int}(h:RwAt H av low L ys nss)(ha:r ∉ av)(hr:H r=some (.lst (ns.map V.int)))(hl:ns.length<=60)(hw:Wths low L ns):RwAt H av low L (ys++[.ref r]) (nss++[ns]):=by
 refine⟨by rw[ZV,ZV,h.1];rfl,fun j y ms h1 h2=>?_⟩
 rcases q91 h1 with ⟨hj,h1⟩ | ⟨hj,rfl⟩
 ·rcases q91 h2 with ⟨_,h2⟩ | ⟨hj2,_⟩
  ·exact h.2 j y ms h1 h2
  ·rw[<- h.1]at hj2;lia
 ·rcases q91 h2 with ⟨hj2,h2⟩ | ⟨_,rfl⟩
  ·rw[<- h.1]at hj2;lia
  ·exact⟨r,rfl,ha,hr,hl,hw⟩
theorem TrAt.snoc{low:Int}{L:Nat}(h:TrAt H low L ys nss)(hr:q55 H y0 (grow low L ns)):TrAt H low L (ys++[y0]) (nss++[ns]):=by
 refine⟨by rw[ZV,ZV,h.1];rfl,fun j y ms h1 h2=>?_⟩
 rcases q91 h1 with ⟨hj,h1⟩ | ⟨hj,rfl⟩
 ·rcases q91 h2 with ⟨_,h2⟩ | ⟨hj2,_⟩
  ·exact h.2 j y ms h1 h2
  ·rw[<- h.1]at hj2;lia
 ·rcases q91 h2 with ⟨hj2,h2⟩ | ⟨_,rfl⟩
  ·rw[<- h.1]at hj2;lia
  ·exact hr
theorem TrAt.tk{low:Int}{L:Nat}(h:TrAt H low L ys nss)(k:TKeep H H'):TrAt H' low L ys nss:=⟨h.1,fun j y ns h1 h2=>(h.2 j y ns h1 h2).tk k⟩
theorem q163(d:Int):∀(e:Nat)(low:Int)(ns:List Int),grow (low+d) e (ns.map fun n=>n+d)=grow low e ns
 | 0,low,ns=>by
  by_cases h:ns=[]
  ·rw[h];rfl
  ·rw[q315 h,q315 (by simpa using h),ZN]
 | e+1,low,ns=>by
  by_cases h:ns=[]
  ·rw[h];rfl
  ·have h2:(ns.map fun n=>n+d)≠[]:=by simpa using h
   rw[q216 h,q216 h2,filter_map,filter_map,map_map]
   have e1:((fun n=>if n<low+d+2^e then(0:Int)else 1)∘fun n=>n+d)=fun n=>if n<low+2^e then(0:Int)else 1:=by
    funext n
    show(if n+d<low+d+2^e then(0:Int)else 1)=if n<low+2^e then 0 else 1
    by_cases c:n<low+2^e
    ·rw[ZJ c,ZJ ∅]
    ·rw[ZI c,ZI ∅]
   have e2:((fun n=>decide (n<low+d+2^e))∘fun n=>n+d)=fun n=>decide (n<low+2^e):=by
    funext n
    show decide (n+d<low+d+2^e)=decide (n<low+2^e)
    by_cases c:n<low+2^e
    ·rw[ZA c,ZA ∅]
    ·rw[ZK c,ZK ∅]
   have e3:((fun n=>decide (low+d+2^e<=n))∘fun n=>n+d)=fun n=>decide (low+2^e<=n):=by
    funext n
    show decide (low+d+2^e<=n+d)=decide (low+2^e<=n)
    by_cases c:low+2^e<=n
    ·rw[ZA c,ZA ∅]
    ·rw[ZK c,ZK ∅]
   rw[e1,e2,e3,q163 d e low,show low+d+2^e=low+2^e+d by lia,q163 d e (low+2^e)]
theorem q251:∀(e:Nat)(os:List Int),growO e os=grow 0 e os
 | 0,os=>rfl
 | e+1,os=>by
  by_cases h:os=[]
  ·rw[h,q119,q579]
  ·rw[q93 h,q216 h,q251 e,q251 e]
   have z:(0:Int)+2^e=2^e:=Int.zero_add _
   rw[z]
   have e2:=q163 (2^e) e 0 ((os.filter fun o=>decide ((2:Int)^e<=o)).map fun o=>o-2^e)
   rw[map_map,z]at e2
   have e3:((os.filter fun o=>decide ((2:Int)^e<=o)).map ((fun n=>n+2^e)∘fun o=>o-2^e))=os.filter fun o=>decide ((2:Int)^e<=o):=by
    rw[show((fun n:Int=>n+2^e)∘fun o=>o-2^e)=id from funext fun o=>by show o-2^e+2^e=o;lia,map_id]
   rw[e3]at e2
   rw[<- e2]
   rfl
theorem grow_off(low:Int)(e:Nat)(ns:List Int):grow low e ns=growO e (offs low ns):=by
 rw[q251,<- q163 low e 0,map_map,Int.zero_add]
 congr 1
 rw[show((fun n:Int=>n+low)∘fun n=>n-low)=id from funext fun o=>by show o-low+low=o;lia,map_id]
noncomputable def thS(low:Int)(j:Nat)(g:G3):List TS.I3:=(List.range (g.2.2-g.2.1)).map fun i=>(low+(g.1[g.2.1+i]?).getD 0,(j:Int),((g.2.1+i:Nat):Int))
noncomputable def thG(low:Int):Nat->List G3->List TS.I3
 | _,[]=>[]
 | j,g::gs=>thS low j g++thG low (j+1) gs
theorem q588(low:Int):∀(j:Nat)(gs:List G3)(g:G3),thG low j (gs++[g])=thG low j gs++thS low (j+gs.length) g
 | j,[],g=>by simp[thG]
 | j,x::gs,g=>by
  show thS low j x++thG low (j+1) (gs++[g])=thS low j x++thG low (j+1) gs++thS low (j+(gs.length+1)) g
  rw[q588 low (j+1) gs g,YW,show j+1+gs.length=j+(gs.length+1) by lia]
theorem thS_fst{L:Nat}{low:Int}{j:Nat}(h:GoodS L g):(thS low j g).map (·.1)=(sel g).map fun o=>low+o:=by
 obtain⟨_,h1,h2,_⟩:=h
 unfold thS sel
 rw[map_map]
 apply ext_getElem?
 intro i
 rw[WN,WN,getElem?_drop]
 by_cases c:i<g.2.2-g.2.1
 ·rw[getElem?_range c,getElem?_take_of_lt ∅,ZP (by lia:g.2.1+i<g.1.length)]
  show some (low+(g.1[g.2.1+i]?).getD 0)=_
  rw[ZP (by lia:g.2.1+i<g.1.length)]
  rfl
 ·rw[getElem?_eq_none (by rw[length_range];lia),getElem?_eq_none (by rw[length_take];lia)]
  rfl
theorem q740{L:Nat}{low:Int}:∀(j:Nat)(gs:List G3),(∀ g∈gs,GoodS L g)->(thG low j gs).map (·.1)=(Wh gs).map fun o=>low+o
 | _,[],_=>rfl
 | j,g::gs,h=>by
  have ih:=q740 (low:=low) (j+1) gs fun x hx=>h x (ZZ _ hx)
  show(thS low j g++thG low (j+1) gs).map (·.1)=_
  unfold Wh at ih ⊢
  rw[WQ,ih,thS_fst (h g WF),flatMap_cons,WQ]
theorem thS_len(low:Int)(j:Nat)(g:G3):(thS low j g).length=g.2.2-g.2.1:=by unfold thS;rw[ZN,length_range]
theorem q589(k:TKeep H H')(h:q68 K H y u):q68 K H' y u:=by
 obtain⟨a,e,h⟩:=h
 rcases h with (h | ⟨o,h⟩) | h
 ·exact⟨a,e,.inl (.inl ((k _ _).1 h))⟩
 ·exact⟨a,e,.inl (.inr ⟨o,(k _ _).2 o h⟩)⟩
 ·exact⟨a,e,.inr h⟩
theorem q195(k:TKeep H H')(h:Paired (q68 K H) ys us):Paired (q68 K H') ys us:=L2.Paired.mapP h fun _ _ z=>q589 k z
theorem q77{α β:Type}{R:α->β->Prop}:∀{a:List α}{b:List β}{c:List α}{d:List β},Paired R a b->Paired R c d->Paired R (a++c) (b++d)
 | _,_,_,_,.nil,h=>h
 | _,_,_,_,.cons r t,h=>.cons r (q77 t h)
inductive q121(K:Fg)(vs:List V)(H:Hp)(Q:VK)(E:XK):Prop
 |mk(pen b:Addr)(n g low:Int)(L:Nat)(_:vs=[.ref pen,.ref b,.int g])(_:Pen K H pen n)(_:n<1000000)(_:H b=some (.tup [.int low,.int (L:Int)]))(_:L<=40)(_:0<=g)(_:g<=60)(_:∀(p ga th:Addr)(xs zs:List V)(gs:List G3)(us:List TS.I3)(H':Hp),Keep pen H H'->Pen K H' pen (n+300)->H' p=some (.tup [.ref ga,.ref th])->H' ga=some (.lst xs)->H ga=none->GatAt H' L xs gs->(∀ g∈gs,GoodS L g)->gs.length<=8 ->
   H' th=some (.lst zs)->H th=none->Paired (q68 K H') zs us->us.Perm (thG low 0 gs)->(us.Pairwise fun x y=>TS.lex3 y x=false)->us.length<=500->Q (.ref p) H'):q121 K vs H Q E
theorem q252:z.C P w 44 "_law_gathering" pn2 (q121 K):=by
 have sc:=q245
 refine z.d__law_gathering.cal fun f fd F=>F.k sc fun _ _ _ s H _ Q _ hr h=>?_
 obtain⟨pen,b,n,g,low,L,rfl,P0,hn,hb,hL,g0,g1,q⟩:=h
 refine⟨_,(q11 (pst 3 sc.nd (q140 (cl:=[("_law_pen", s.heap.objs.size+1+0),("_law_greatest", s.heap.objs.size+1+2),("_law_bounds_here", s.heap.objs.size+1+1)]) (cn:=["_law_pen", "_law_greatest", "_law_bounds_here"]) (N:=["_law_bounds_here", "_law_greatest", "_law_pen"]) (fr:=[1,2,0]) (sc0:=q17 q39) rfl (q59 rfl z.range_ (q10 (pe_op q29 q14 (pe_fn (q23 z) hr.m () (q10 (pv 0) (q10 q14 q12)))) q12)) (fun C s₂ H₂ fp=>(pe_fn (q527 z) hr.m () (q10 (pv 3) (q10 (pv 1) (q10 (pv 2) q12))))) (by ac_rfl) ⟨by ac_rfl,by ac_rfl,by ac_rfl,trivial⟩ rfl rfl rfl cok rfl))
 (q11 (q243 (ps_if (q18 op_gt (pix q26 (pv 1) q14) q14 (q20 _))
 (q16 (pst 3 sc.nd (q140 (cl:=[]) (cn:=[]) (N:=[]) (fr:=[]) (sc0:=q17 q39) rfl (q32 (pv 3)) (fun C s₂ H₂ fp=>(q124 (sl_listK (K:=K) rfl) (pv 0) q187 (q188 q14))) (by ac_rfl) trivial rfl rfl rfl cok rfl)))
 q21))
 (q11 (q235 (i:=4) (cl:=[("_law_bounds_here", s.heap.objs.size+1+1)]) (cn:=["_law_bounds_here"]) (N:=["_law_bounds_here"]) (fr:=[1]) (sc0:=q17 q39) sc.nd rfl (Or.inl rfl) rfl (q32 (pv 3)) (fun C s₂ H₂ fp=>(pe_fn (q486 z) hr.m () (q10 (pix (q69 (K:=K) rfl) (pv 1) q14) (q10 (pix (q69 (K:=K) rfl) (pv 1) q14) (q10 (pv 0) q12))))) (by ac_rfl) ⟨by ac_rfl,trivial⟩ rfl rfl rfl cok rfl (by ac_rfl) (.inl rfl))
 (q11 (pst 5 sc.nd (q42 q12))
 (q11 (pst 6 sc.nd (q42 q12))
 (q11 (q60 PassesOwn.never rfl (q59 rfl z.range_ (q10 (pix q31 (q42 (q10 q14 (q10 q14 (q10 q14 (q10 q14 q12))))) (pe_fn (q23 z) hr.m () (q10 (pv 0) (q10 q14 q12)))) q12)) (pgn 7 sc.nd)
 (q11 (pst 8 sc.nd (pe_fn (q23 z) hr.m () (q10 (pv 0) (q10 (pln z.len_ (q10 (pv 3) q12)) q12))))
 (q11 (pst 9 sc.nd (pe_fn (q23 z) hr.m () (q10 (pv 0) (q10 (pe_op q29 (pln z.len_ (q10 (pix q31 (pv 3) (pv 8)) q12)) q14) q12))))
 (q11 (pst 10 sc.nd (pe_op q29 (pv 9) (pe_fn (q23 z) hr.m () (q10 (pv 0) (q10 (pe_op q54 (pe_op q29 (pln z.len_ (q10 (pix q31 (pv 3) (pv 8)) q12)) q14) (pv 9)) q12)))))
 (q11 (q243 (ps_if (q18 op_eq (pe_fn (q23 z) hr.m () (q10 (pv 0) (q10 q14 q12))) q14 (q20 _))
 (q11 (pst 9 sc.nd q14)
 (q16 (pst 10 sc.nd (pln z.len_ (q10 (pix q31 (pv 3) (pv 8)) q12)))))
 q21))
 (q11 (q137 (pe_bm YA YL YM q62 (pv 5) (q10 (q30 (q10 (pix q31 (pv 4) (pv 8)) (q10 (pv 9) (q10 (pv 10) q12)))) q12)))
 (q16 (pst 6 sc.nd (pe_op q446 (pv 6) (q140 (cl:=[("_law_rows", s.heap.objs.size+1+3),("_law_j", s.heap.objs.size+1+4),("_law_at", s.heap.objs.size+1+5)]) (cn:=["_law_rows", "_law_j", "_law_at"]) (N:=["_law_at", "_law_j", "_law_rows"]) (fr:=[8,7,3]) (sc0:=q17 q39) rfl (q644 rfl z.range_ (q10 (pv 9) (q10 (pv 10) q12))) (fun C s₂ H₂ fp=>(q30 (q10 (pix (q552 (K:=K) rfl) (pix (q552 (K:=K) rfl) (pv 3) (pv 1)) (pv 0)) (q10 (pv 2) (q10 (pv 0) q12))))) (by ac_rfl) ⟨by ac_rfl,by ac_rfl,by ac_rfl,trivial⟩ rfl rfl rfl cok rfl))))))))))
 (q16 (q19 (q30 (q10 (pv 5) (q10 (q35 (q457 (K:=K) rfl) () z.sorted_ q294 (q10 (pv 6) q12)) q12))))))))))),?_⟩
 have hbp:b≠pen:=P0.ne hb
 refine⟨_,rfl,pen,2,n,rfl,P0,∅,{},{},fun c H1 k1 P1 c0 c1=>⟨_,_,rfl,rfl,1+c,rfl,∅,∅,fun R hR=>?_⟩⟩
 have hRp:R≠pen:=P1.fresh hR
 refine q158 (n:=(1+c).toNat) (sz ∅) (fun j ys H2=>∃ nss:LL,nss.length=j/\H2 R=some (.lst ys)/\Keep pen H1 H2/\Pen K H2 pen (n+1+80*j)/\RwAt H2 [R,pen] low L ys nss)
  ⟨[],rfl,q13,Keep.new hR _,(P1.new hR _).le ∅,⟨rfl,fun j y ns h=>by simp at h⟩⟩ (fun j ys H2 ⟨nss,e1,e2,_,_,e3⟩=>⟨e2,by rw[e3.1,e1]⟩) ?_ ?_
 ·rintro j ys H2 hj ⟨nss,e1,e2,k2,P2,e3⟩
  have hb2:=(k1.trans k2) _ _ hbp hb
  refine⟨_,rfl,_,rfl,_,rfl,pen,b,_,g,low,L,rfl,P2,∅,hb2,hL,g0,g1,fun r ns H3 k3 P3 hr3 hr2 hl hw=>?_⟩
  have hrR:r≠R:=fun z=>by rw[z,e2]at hr2;cases hr2
  have hrp:r≠pen:=P2.fresh hr2
  have e2':=k3 _ _ hRp e2
  exists e2',nss++[ns],by rw[ZV,e1];rfl,q13,(k2.trans k3).own hR,(P3.other hRp e2' _).le ∅
  have z:RwAt H3 [R,pen] low L ys nss:=e3.up (fun c o hc h=>k3 _ _ (fun z=>hc (by simp[z])) h) (fun c _ _ h=>h)
  refine RwAt.snoc (z.up (fun c o hc h=>?_) (fun c _ _ h=>h)) (by simp[hrR,hrp]) ?_ hl hw
  ·rw[q27 (fun z=>hc (by simp[z]))]
   exact h
  ·rw[q27 hrR]
   exact hr3
 ·rintro ys H2 ⟨nss,e1,e2,k2,P2,e3⟩
  have hb2:=(k1.trans k2) _ _ hbp hb
  have hnl:nss.length<=2:=∅
  have hn1:1<=nss.length:=∅
  have hyl:=e3.1
  clear P1
  have cut5:∀ ns:List Int,cutV (ns.map V.int) none (some 5)=(ns.take 5).map V.int:=fun ns=>by
   show List.take (HT.sIx (ns.map V.int).length (ns.map V.int).length (some ((5:Nat):Int))-0) (List.drop 0 (ns.map V.int))=_
   rw[HT.q753,drop_zero,Nat.sub_zero,map_take,ZN]
   by_cases c:5<=ns.length
   ·rw[YY c]
   ·rw[Nat.min_eq_right ∅,WT (by rw[ZN];exact ZG _),WT (by rw[ZN];lia)]
  exists fun σ G=>∃(R:Addr)(ys:List V)(nss':LL),σ=[some (.ref pen),some (.ref b),some (.int g),some (.ref R),none,none,none,none,none,none,none]/\G R=some (.lst ys)/\R≠pen/\Keep pen H G/\Pen K G pen (n+170)/\RwAt G [R,pen] low L ys nss'/\nss'.length=nss.length,?_
  ·refine⟨_,rfl,b,_,_,_,rfl,rfl,SqT.of hb2,rfl,_,_,rfl,rfl,_,rfl,ite2 (fun _=>?_) (fun _=>⟨R,ys,nss,rfl,e2,hRp,k1.trans k2,P2.le ∅,e3,rfl⟩)⟩
   refine⟨_,rfl,R,rfl,⟨_,SqL.of e2⟩,fun R2 hR2=>?_⟩
   have hR2p:R2≠pen:=P2.fresh hR2
   refine q70 (xs:=ys) (sz ∅) (fun j zs H3=>H3 R2=some (.lst zs)/\Same H2 H3/\zs.length=j/\RwAt H3 [R2,pen] low L zs ((nss.take j).map (List.take 5))) ⟨q13,q15 hR2 _,rfl,⟨by simp,fun j y ns h=>by simp at h⟩⟩ (fun j zs H3 ⟨_,s3,_⟩=>SqL.of (s3 _ _ e2)) (fun j zs H3 ⟨a1,_,a3,_⟩=>⟨a1,a3⟩) ?_ ?_
   ·rintro j y zs H3 hy ⟨a1,s3,a3,a4⟩
    have hj:j<nss.length:=by rw[<- hyl];exact(List.getElem?_eq_some_iff.mp hy).1
    have gj:nss[j]? = some nss[j]:=ZP hj
    obtain⟨r,rfl,_,hr,hl,hw⟩:=e3.2 j y _ hy gj
    generalize nss[j]=ns at *
    refine⟨_,rfl,_,rfl,r,_,rfl,SqL.of (s3 _ _ hr),fun p hp=>?_⟩
    rw[cut5]
    have t:=q15 hp (.lst ((ns.take 5).map V.int))
    have a1':=t _ _ a1
    have hpR:p≠R2:=fun z=>by rw[z,a1]at hp;cases hp
    have hpp:p≠pen:=(P2.same s3).fresh hp
    exists a1',q13,Same.own (s3.trans t) hR2,by rw[ZV,a3];rfl
    rw[show List.take (j+1) nss=List.take j nss++[ns] by rw[WU,gj];rfl,WQ]
    refine RwAt.snoc (RwAt.up a4 (fun c o hc h=>?_) (fun c _ _ h=>h)) (by simp[hpR,hpp]) ?_ ?_ ?_
    ·rw[q27 (fun z=>hc (by simp[z]))]
     exact t _ _ h
    ·rw[q27 hpR]
     exact q13
    ·exact ZR (length_take_le' _ _) hl
    ·exact fun x hx=>hw x (mem_of_mem_take hx)
   ·rintro zs H3 ⟨a1,s3,a3,a4⟩
    rw[hyl,YD]at a4
    exact⟨R2,zs,_,rfl,a1,hR2p,(k1.trans k2).trans (.same s3),(P2.same s3).le ∅,a4,by rw[ZN]⟩
  rintro σ H2 ⟨R,ys,nss',rfl,e2,hRp,k12,P2,e3,hnn⟩
  rw[<- hnn]at hnl hn1
  clear hnn
  have hb2:=k12 _ _ hbp hb
  have hyl:=e3.1
  generalize nss'=nss at *
  refine⟨_,rfl,R,rfl,⟨_,SqL.of e2⟩,fun T hT=>?_⟩
  have hTp:T≠pen:=P2.fresh hT
  refine q70 (xs:=ys) (sz ∅) (fun j ts H3=>H3 T=some (.lst ts)/\Same H2 H3/\ts.length=j/\TrAt H3 low L ts (nss.take j)) ⟨q13,q15 hT _,rfl,⟨by simp,fun j y ns h=>by simp at h⟩⟩ (fun j ts H3 ⟨_,s3,_⟩=>SqL.of (s3 _ _ e2)) (fun j ts H3 ⟨a1,_,a3,_⟩=>⟨a1,a3⟩) ?_ ?_
  ·rintro j y ts H3 hy ⟨a1,s3,a3,a4⟩
   have hj:j<nss.length:=by rw[<- hyl];exact(List.getElem?_eq_some_iff.mp hy).1
   have gj:nss[j]? = some nss[j]:=ZP hj
   obtain⟨r,rfl,_,hr,hl,hw⟩:=e3.2 j y _ hy gj
   generalize nss[j]=ns at *
   have hb3:=s3 _ _ hb2
   refine⟨_,rfl,b,_,_,_,rfl,rfl,SqT.of hb3,rfl,_,rfl,b,_,_,_,rfl,rfl,SqT.of hb3,rfl,_,rfl,L,hL,low,r,ns,rfl,SqL.of (s3 _ _ hr),∅,fun H4 v s4 hv=>?_⟩
   have a1':=s4 _ _ a1
   exists a1',q13,Same.own (s3.trans s4) hT,by rw[ZV,a3];rfl
   have tk:TKeep H4 (upd H4 T (.lst (ts++[v]))):=TKeep.set a1'
   rw[WU,gj]
   exact((a4.tk (.same s4)).tk tk).snoc (hv.tk tk)
  ·rintro ts H3 ⟨a1,s3,a3,a4⟩
   rw[hyl,YD]at a4
   have hb3:=s3 _ _ hb2
   have hR3:=s3 _ _ e2
   have rw3:RwAt H3 [R,pen] low L ys nss:=e3.up (fun c o _ h=>s3 _ _ h) (fun c _ _ h=>h)
   have P3:=P2.same s3
   have k03:Keep pen H H3:=k12.trans (.same s3)
   clear P2
   refine⟨szb rfl,fun ga hga=>⟨szb rfl,fun t0 ht0=>?_⟩⟩
   have s4:=q15 hga (.lst [])
   have s5:=q15 ht0 (.lst [])
   have hga4:=@q13 H3 ga (.lst [])
   have hga5:=s5 _ _ hga4
   have ht05:upd (upd H3 ga (.lst [])) t0 (.lst []) t0=some (.lst []):=q13
   have htga:t0≠ga:=fun z=>by rw[z,hga4]at ht0;cases ht0
   have s45:=s4.trans s5
   have hga0:H ga=none:=by obtain⟨xs,e⟩:=P3.at;exact k03.free hga e
   have hgap:ga≠pen:=P3.fresh hga
   have ht0p:t0≠pen:=(P3.same s4).fresh ht0
   have hRga:R≠ga:=q24 hR3 hga
   have hTga:T≠ga:=q24 a1 hga
   have rw4:RwAt H3 [ga,pen] low L ys nss:=rw3.up (fun c o _ h=>h) (fun c xs h hc=>by
    have:c≠ga:=q24 h hga
    simp only[mem_cons,not_mem_nil,or_false,not_or]at hc ⊢
    exact⟨this,hc.2⟩)
   generalize upd (upd H3 ga (.lst [])) t0 (.lst [])=H5 at *
   have P5:=P3.same s45
   refine⟨szb rfl,fun l4 hl4=>?_⟩
   have s6:=q15 hl4 (.lst [V.int 1,.int 2,.int 3,.int 8])
   have e6:upd H5 l4 (.lst [V.int 1,.int 2,.int 3,.int 8]) l4=some (.lst ([(1:Int),2,3,8].map V.int)):=q13
   generalize upd H5 l4 (.lst [V.int 1,.int 2,.int 3,.int 8])=H6 at *
   have P6:=P5.same s6
   have hl4p:l4≠pen:=P5.fresh hl4
   refine⟨_,rfl,pen,4,_,rfl,P6,∅,{},{},fun v H7 k7 P7 v0 v1=>?_⟩
   obtain⟨cnt,hcnt,hat⟩:=q76 (l:=[1,2,3,8]) v0 v1
   have hc8:1<=cnt/\cnt<=8:=by
    simp only[mem_cons,not_mem_nil,or_false]at hcnt
    lia
   have k57:Keep pen H3 H7:=(Keep.same (s45.trans s6)).trans k7
   have rw7:RwAt H7 [ga,pen] low L ys nss:=rw4.up (fun c o hc h=>k57 _ _ (fun z=>hc (by simp[z])) h) (fun c _ _ h=>h)
   have tr7:TrAt H7 low L ts nss:=a4.tk (by obtain⟨xs,e⟩:=P3.at;exact .keep k57 e)
   have hR7:=k57 _ _ hRp hR3
   have hT7:=k57 _ _ hTp a1
   have hga7:=k7 _ _ hgap (s6 _ _ hga5)
   have ht07:=k7 _ _ ht0p (s6 _ _ ht05)
   have k07:=k03.trans k57
   exists l4,_,_,_,rfl,rfl,SqL.of (k7 _ _ hl4p e6),hat,cnt,rfl,∅,∅
   refine q78 (n:=cnt.toNat) (fun i σ G=>∃(xs zs:List V)(gs:List G3)(tl:Addr)(w7 w8 w9 w10:Option V),σ=[some (.ref pen),some (.ref b),some (.int g),some (.ref R),some (.ref T),some (.ref ga),some (.ref tl),w7,w8,w9,w10]/\(∀ c o,c≠pen->c≠ga->H7 c=some o->G c=some o)/\Pen K G pen (n+200+10*i) /\
     G ga=some (.lst xs)/\GatAt G L xs gs/\(∀ g∈gs,GoodS L g)/\gs.length=i/\G tl=some (.lst zs)/\tl≠pen/\tl≠ga/\Paired (q68 K G) zs (thG low 0 gs)/\zs.length<=60*i)
    ⟨[],[],[],t0,none,none,none,none,rfl,fun c o _ _ h=>h,P7.le ∅,hga7,GatAt.nil _ _,fun g hg=>absurd hg (by simp),rfl,ht07,ht0p,htga,.nil,WB _⟩ ?_ ?_
   ·rintro i σ G hi ⟨xs,zs,gs,tl,w7,w8,w9,w10,rfl,KP,PG,hgaG,hgt,hgd,hgl,htl,htlp,htlg,htr,hzl⟩
    have hRG:=KP _ _ hRp hRga hR7
    refine⟨_,rfl,_,rfl,R,_,rfl,.inl (SqL.of hRG),pen,_,_,rfl,PG,∅,∅,∅,fun at' G1 k1' P1' a0 a1'=>?_⟩
    obtain⟨ai,rfl⟩:=Int.eq_ofNat_of_zero_le a0
    have hai:ai<ys.length:=∅
    have hai2:ai<nss.length:=∅
    have gy:ys[ai]? = some ys[ai]:=ZP hai
    have gn:nss[ai]? = some nss[ai]:=ZP hai2
    have gt:ts[ai]? = some ts[ai]:=ZP ∅
    obtain⟨r,hyr,hrav,hr7,hrl,hrw⟩:=rw7.2 ai _ _ gy gn
    have htree7:=tr7.2 ai _ _ gt gn
    rw[hyr]at gy
    generalize nss[ai]=ns at *
    generalize ts[ai]=tv at *
    have hrp:r≠pen:=fun z=>hrav (by simp[z])
    have hrg:r≠ga:=fun z=>hrav (by simp[z])
    have atR:atI ys (ai:Int)=some (.ref r):=q61 gy
    have atT:atI ts (ai:Int)=some tv:=q61 gt
    have hml:(ns.map V.int).length=ns.length:=ZN _
    have hR1:=k1' _ _ hRp hRG
    have hr1:=k1' _ _ hrp (KP _ _ hrp hrg hr7)
    refine⟨_,rfl,_,rfl,_,rfl,R,_,_,_,rfl,rfl,SqL.of hR1,atR,r,_,rfl,.inl (SqL.of hr1),_,_,rfl,rfl,pen,_,_,rfl,P1',∅,∅,∅,fun st' G2 k2' P2' b0 b1=>?_⟩
    obtain⟨st,rfl⟩:=Int.eq_ofNat_of_zero_le b0
    have hR2:=k2' _ _ hRp hR1
    have hr2:=k2' _ _ hrp hr1
    refine⟨_,rfl,_,rfl,_,rfl,_,rfl,R,_,_,_,rfl,rfl,SqL.of hR2,atR,r,_,rfl,.inl (SqL.of hr2),_,_,rfl,rfl,_,rfl,_,_,rfl,rfl,pen,_,_,rfl,P2',∅,∅,∅,fun en' G3' k3' P3' d0 d1=>⟨_,_,rfl,rfl,?_⟩⟩
    obtain⟨ed,rfl⟩:=Int.eq_ofNat_of_zero_le d0
    have k13:=k1'.trans (k2'.trans k3')
    exists fun σ G4=>∃(st en:Nat),σ=[some (.ref pen),some (.ref b),some (.int g),some (.ref R),some (.ref T),some (.ref ga),some (.ref tl),some (.int (0+(i:Int))),some (.int (ai:Int)),some (.int (st:Int)),some (.int (en:Int))]/\st<=en/\en<=ns.length/\Keep pen G G4/\Pen K G4 pen (n+200+10*i+4),?_
    ·refine⟨_,rfl,pen,3,_,rfl,P3',∅,{},{},fun v4 G4 k4' P4' _ _=>⟨rfl,_,rfl,ite2 (fun _=>?_) (fun _=>?_)⟩⟩
     ·refine⟨_,rfl,_,rfl,R,_,_,_,rfl,rfl,SqL.of (k4' _ _ hRp (k3' _ _ hRp hR2)),atR,r,_,rfl,.inl (SqL.of (k4' _ _ hrp (k3' _ _ hrp hr2))),0,ns.length,?_,WB _,ZG _,k13.trans k4',P4'.le ∅⟩
      rw[hml]
      rfl
     ·refine⟨st,st+ed,?_,∅,∅,k13.trans k4',P4'.le ∅⟩
      rw[show(((st+ed:Nat):Int))=(st:Int)+(ed:Int) by lia]
      rfl
    ·rintro σ G4 ⟨st,en,rfl,hse,hel,k4,P4⟩
     have KP4:∀ c o,c≠pen->c≠ga->H7 c=some o->G4 c=some o:=fun c o h1 h2 h=>k4 _ _ h1 (KP _ _ h1 h2 h)
     have hgaG4:=k4 _ _ hgap hgaG
     have htl4:=k4 _ _ htlp htl
     have tk4:TKeep G G4:=by obtain⟨xs,e⟩:=PG.at;exact .keep k4 e
     have tk7:TKeep H7 G4:=by
      obtain⟨xs',e⟩:=P7.at
      exact fun c xs=>⟨fun h=>KP4 _ _ (ne_of h e (by intro z;cases z)) (ne_of h hga7 (by intro z;cases z)) h,fun o h=>KP4 _ _ (ne_of h e (by intro z;cases z)) (ne_of h hga7 (by intro z;cases z)) h⟩
     refine⟨_,rfl,.inl ⟨rfl,_,SqL.of hgaG4⟩,_,rfl,_,rfl,T,_,_,_,rfl,rfl,SqL.of (KP4 _ _ hTp hTga hT7),atT,_,rfl,_,rfl,szb rfl,fun tp htp=>?_⟩
     have t5:=q15 htp (.tup [tv,.int (st:Int),.int (en:Int)])
     have etp:=@q13 G4 tp (.tup [tv,.int (st:Int),.int (en:Int)])
     generalize upd G4 tp (.tup [tv,.int (st:Int),.int (en:Int)])=G5 at *
     have hgaG5:=t5 _ _ hgaG4
     have hxl:xs.length=gs.length:=hgt.1
     exists ga,_,_,rfl,rfl,hgaG5,q79 ∅
     have tk6:TKeep G5 (upd G5 ga (.lst (xs++[.ref tp]))):=TKeep.set hgaG5
     have ne6:∀{c:Addr}{o:HO},c≠ga->G5 c=some o->upd G5 ga (.lst (xs++[.ref tp])) c=some o:=fun hc h=>by rw[q27 hc];exact h
     have hga6:=@q13 G5 ga (.lst (xs++[.ref tp]))
     have P6':Pen K (upd G5 ga (.lst (xs++[.ref tp]))) pen (n+200+10*i+4):=(P4.same t5).other hgap hgaG5 _
     have KP6:∀ c o,c≠pen->c≠ga->H7 c=some o->upd G5 ga (.lst (xs++[.ref tp])) c=some o:=fun c o h1 h2 h=>ne6 h2 (t5 _ _ (KP4 _ _ h1 h2 h))
     have htl6:=ne6 htlg (t5 _ _ htl4)
     have etp6:=(tk6 _ _).1 etp
     generalize upd G5 ga (.lst (xs++[.ref tp]))=G6 at *
     have tkG6:TKeep G G6:=tk4.trans ((TKeep.same t5).trans tk6)
     have gt6:GatAt G6 L (xs++[.ref tp]) (gs++[(offs low ns,st,en)]):=(hgt.tk tkG6).snoc ⟨tp,tv,rfl,etp6,by
      show q55 G6 tv (growO L (offs low ns))
      rw[<- grow_off]
      exact htree7.tk (tk7.trans ((TKeep.same t5).trans tk6))⟩
     have good6:GoodS L (offs low ns,st,en):=⟨q532 hrw,hse,by show en<=(offs low ns).length;rw[ZN];exact hel,by show(offs low ns).length<=300;rw[ZN];lia⟩
     have hR6:=KP6 _ _ hRp hRga hR7
     have hr6:=KP6 _ _ hrp hrg hr7
     refine⟨_,rfl,_,rfl,_,rfl,(st:Int),(en:Int),rfl,⟨∅,∅,∅,∅⟩,fun D hD=>?_⟩
     have hDp:D≠pen:=P6'.fresh hD
     have hDga:D≠ga:=fun z=>by rw[z,hga6]at hD;cases hD
     have het:((en:Int)-(st:Int)).toNat=en-st:=∅
     have hths:thS low gs.length (offs low ns,st,en)=(List.range (en-st)).map fun k=>(low+((offs low ns)[st+k]?).getD 0,(gs.length:Int),((st+k:Nat):Int)):=rfl
     refine q158 (n:=((en:Int)-(st:Int)).toNat) (by rw[sizeLine_eq];lia) (fun k vs H8=>H8 D=some (.lst vs)/\vs.length=k/\Same G6 H8/\Paired (q68 K H8) vs ((thS low gs.length (offs low ns,st,en)).take k)) ⟨q13,rfl,q15 hD _,.nil⟩ (fun k vs H8 ⟨a1,a2,_,_⟩=>⟨a1,a2⟩) ?_ ?_
     ·rintro k vs H8 hk ⟨a1,a2,s8,a4⟩
      have hk':st+k<ns.length:=∅
      have gk:ns[st+k]? = some ns[st+k]:=ZP hk'
      have atk:atI (ns.map V.int) ((st:Int)+(k:Int))=some (.int ns[st+k]):=by
       rw[show(st:Int)+(k:Int)=((st+k:Nat):Int) by lia]
       exact q61 (by rw[WN,gk] <;> rfl)
      have gth:(thS low gs.length (offs low ns,st,en))[k]? = some (ns[st+k],(gs.length:Int),((st+k:Nat):Int)):=by
       rw[hths,WN,getElem?_range ∅]
       show some (low+((offs low ns)[st+k]?).getD 0,(gs.length:Int),((st+k:Nat):Int))=_
       rw[WN,gk]
       show some (low+(ns[st+k]-low),(gs.length:Int),((st+k:Nat):Int))=_
       rw[show low+(ns[st+k]-low)=ns[st+k] by lia]
      generalize ns[st+k]=nv at *
      refine⟨_,rfl,_,rfl,R,_,_,_,rfl,rfl,SqL.of (s8 _ _ hR6),atR,_,rfl,r,_,_,_,rfl,rfl,SqL.of (s8 _ _ hr6),atk,_,rfl,_,rfl,szb rfl,fun p hp=>?_⟩
      have t9:=q15 hp (.tup [V.int nv,.int (0+(i:Int)),.int ((st:Int)+(k:Int))])
      have ep:=@q13 H8 p (.tup [V.int nv,.int (0+(i:Int)),.int ((st:Int)+(k:Int))])
      have a1':=t9 _ _ a1
      have a4':=q195 (.same t9) a4
      have s89:=s8.trans t9
      generalize upd H8 p (.tup [V.int nv,.int (0+(i:Int)),.int ((st:Int)+(k:Int))])=H9 at *
      exists a1',q13,by rw[ZV,a2];rfl,Same.own s89 hD
      have tk:TKeep H9 (upd H9 D (.lst (vs++[V.ref p]))):=TKeep.set a1'
      rw[WU,gth]
      refine q77 (q195 tk a4') (.cons ⟨p,rfl,SqT.of ?_⟩ .nil)
      show upd H9 D (.lst (vs++[V.ref p])) p=some (.tup [V.int nv,.int (gs.length:Int),.int ((st+k:Nat):Int)])
      rw[(tk _ _).1 ep,show 0+(i:Int)=(gs.length:Int) by lia,show(st:Int)+(k:Int)=((st+k:Nat):Int) by lia]
     ·rintro vs H8 ⟨a1,a2,s8,a4⟩
      rw[het]at a2 a4
      rw[WT (by rw[thS_len];exact ZG _)]at a4
      have htl8:=s8 _ _ htl6
      refine⟨tl,D,zs,vs,rfl,rfl,htl8,a1,by rw[sizeLine_eq];lia,fun t9 ht9=>?_⟩
      have s9:=q15 ht9 (.lst (zs++vs))
      have s69:=s8.trans s9
      refine⟨_,zs++vs,gs++[(offs low ns,st,en)],t9,_,_,_,_,rfl,fun c o h1 h2 h=>s69 _ _ (KP6 _ _ h1 h2 h),(P6'.same s69).le ∅,s69 _ _ hga6,gt6.same s69,fun g hg=>?_,by rw[ZV,hgl];rfl,q13,(P6'.same s8).fresh ht9,(fun z=>by rw[z,s8 _ _ hga6]at ht9;cases ht9),?_,by rw[ZV];lia⟩
      ·rcases List.mem_append.mp hg with h | h
       ·exact hgd g h
       ·rw[List.mem_singleton.mp h];exact good6
      ·rw[q588,Nat.zero_add]
       exact q77 (q195 (tkG6.trans (.same s69)) htr) (q195 (.same s9) a4)
   ·rintro σ G ⟨xs,zs,gs,tl,w7,w8,w9,w10,rfl,KP,PG,hgaG,hgt,hgd,hgl,htl,htlp,htlg,htr,hzl⟩
    refine⟨_,rfl,_,rfl,tl,zs,thG low 0 gs,rfl,SqL.of htl,htr,fun l zs' us hl hpm hpr hso=>⟨szb rfl,fun p hp=>?_⟩⟩
    have s1:=q15 hl (.lst zs')
    have hl1:=@q13 G l (.lst zs')
    have s2:=q15 hp (.tup [V.ref ga,.ref l])
    have s12:=s1.trans s2
    have hus:us.Perm (thG low 0 gs):=by
     have z:=hpm.map Prod.snd
     rw[map_snd_zip (by rw[Paired.length hpr];exact ZG _),map_snd_zip (by rw[Paired.length htr];exact ZG _)]at z
     exact z
    have kHG:Keep pen H G:=fun c o hc h=>KP c o hc (fun z=>by rw[z,hga0]at h;cases h) (k07 c o hc h)
    have hlH:H l=none:=by obtain⟨ws,e⟩:=PG.at;exact kHG.free hl e
    refine q p ga l xs zs' gs us _ (kHG.trans (.same s12)) ((PG.same s12).le ∅) q13 (s12 _ _ hgaG) hga0 (hgt.same s12) hgd ∅ (s2 _ _ hl1) hlH (q195 (.same s12) hpr) hus hso ?_
    rw[hus.length_eq,<- Paired.length htr]
    lia
theorem dec_int(n m:Int):decide (V.int n=V.int m)=decide (n=m):=by
 by_cases c:n=m
 ·rw[c,ZA rfl,ZA rfl]
 ·rw[ZK c,ZK (fun z=>c (V.int.inj z))]
noncomputable def q25:Nat->Int->Pp->List TS.I3
 | e,low,.all n=>[(low,low+2^e-1,n)]
 | 0,_,.split _ _ _=>[]
 | e+1,low,.split _ l r=>q25 e low l++q25 e (low+2^e) r
def fitP:Nat->Pp->Prop
 | _,.all _=>True
 | 0,.split _ _ _=>False
 | e+1,.split _ l r=>fitP e l/\fitP e r
theorem q57:∀{e:Nat}{us:List Int}{p:Pp},q43 e us p->fitP e p
 | e,_,.all _,_=>by cases e <;> trivial
 | 0,_,.split _ _ _,h=>h.elim
 | e+1,_,.split _ l r,h=>⟨q57 h.2.1,q57 h.2.2⟩
theorem q50:∀(e:Nat)(low:Int)(p:Pp),(q25 e low p).length<=p.leaves
 | e,_,.all _=>by cases e <;> exact ZG _
 | 0,_,.split _ _ _=>WB _
 | e+1,low,.split _ l r=>by
  show(q25 e low l++q25 e (low+2^e) r).length<=l.leaves+r.leaves
  rw[ZV]
  exact Nat.add_le_add (q50 e _ l) (q50 e _ r)
theorem q122(e:Nat)(low n:Int):q25 e low (.all n)=[(low,low+2^e-1,n)]:=by cases e <;> rfl
abbrev q175:Nat:=2
abbrev q176:Nat:=40
inductive q103(K:Fg)(e:Nat)(vs:List V)(H:Hp)(Q:VK)(E:XK):Prop
 |mk(v:V)(p:Pp)(low:Int)(_:vs=[.int low,.int (2^e),v])(_:PpAt H v p)(_:fitP e p)(_:p.leaves<=100000)(_:∀(D:Addr)(zs:List V)(H':Hp),Same H H'->H D=none->H' D=some (.lst zs)->Paired (q68 K H') zs (q25 e low p)->Q (.ref D) H')
def q353(K:Fg):Sp:=fun vs H Q E=>∃ e,e<=q176/\q103 K e vs H Q E
inductive q150(K:Fg)(vs:List V)(H:Hp)(Q:VK)(E:XK):Prop
 |mk(b:Addr)(v:V)(p:Pp)(low:Int)(L:Nat)(_:vs=[.ref b,v])(_:SqT K H b [.int low,.int (L:Int)])(_:L<=40)(_:PpAt H v p)(_:fitP L p)(_:p.leaves<=100000)(_:∀(D:Addr)(zs:List V)(H':Hp),Same H H'->H D=none->H' D=some (.lst zs)->Paired (q68 K H') zs (q25 L low p)->Q (.ref D) H')
theorem q196(s:Same H H')(h:H' c=none):H c=none:=by
 cases z:H c with
 | none=>rfl
 | some o=>rw[s _ _ z]at h;cases h
theorem q354:z.C P w 43 "closed_from" ["least", "many", "paper"] (q353 K):=by
 have sc:=q342
 refine z.d_closed_from.recur (k:=q175) (sp:=q103 K) q176 fun e hen c_closed_from f fd F=>F.k sc fun _ _ _ s H _ Q _ hr h=>?_
 obtain⟨v,p,low,rfl,hp,hf,hlv,q⟩:=h
 refine⟨_,(q11 (ps_if (q87 (pe_fn (q271 z) (hr.mono (ZR (by decide:2<=q175) (WP _ _))) () (q10 (pv 2) q12)))
 (q16 (q19 (q42 (q10 (q30 (q10 (pv 0) (q10 (pe_op q54 (pe_op q29 (pv 0) (pv 1)) q14) (q10 (pix q26 (pv 2) q14) q12)))) q12))))
 q21)
 (q11 (pst 3 sc.nd (pe_op q89 (pv 1) q14))
 (q16 (q19 (pe_op q446 (pe_fn c_closed_from (hr.mono (ZG _)) () (q10 (pv 0) (q10 (pv 3) (q10 (pix q26 (pv 2) q14) q12)))) (pe_fn c_closed_from (hr.mono (ZG _)) () (q10 (pe_op q29 (pv 0) (pv 3)) (q10 (pv 3) (q10 (pix q26 (pv 2) q14) q12))))))))),?_⟩
 exists _,rfl,v,p,rfl,hp,_,rfl
 cases p with
 | all n=>
  refine ite2 (fun _=>?_) nr
  obtain⟨a,rfl,ha⟩:=id hp
  refine⟨_,rfl,_,rfl,_,rfl,_,_,rfl,rfl,_,_,rfl,rfl,_,rfl,a,_,_,_,rfl,rfl,SqT.of ha,rfl,szb rfl,fun t ht=>⟨szb rfl,fun D hD=>?_⟩⟩
  have s1:=q15 ht (.tup [V.int low,.int (low+2^e-1),.int n])
  have et:=@q13 H t (.tup [V.int low,.int (low+2^e-1),.int n])
  have s2:=q15 hD (.lst [V.ref t])
  refine q D [.ref t] _ (s1.trans s2) (q196 s1 hD) q13 ?_
  rw[q122]
  exact .cons ⟨t,rfl,SqT.of (s2 _ _ et)⟩ .nil
 | split n l r=>
  refine ite2 nf (fun _=>?_)
  obtain⟨a,x,y,rfl,ha,hx,hy⟩:=id hp
  cases e with
  | zero=>exact hf.elim
  | succ e=>
   have hlv':l.leaves+r.leaves<=100000:=hlv
   have e2:(2:Int)^(e+1)/2=2^e:=by rw[YJ];lia
   exists _,rfl,_,_,rfl,rfl,⟨{},{}⟩
   dsimp only
   rw[e2]
   refine⟨_,rfl,_,rfl,_,rfl,a,_,_,_,rfl,rfl,SqT.of ha,rfl,x,l,low,rfl,hx,hf.1,∅,fun D1 z1 H1 s1 hD1n hD1 hz1=>?_⟩
   refine⟨_,rfl,_,rfl,_,_,rfl,rfl,_,rfl,_,rfl,a,_,_,_,rfl,rfl,SqT.of (s1 _ _ ha),rfl,y,r,low+2^e,rfl,hy.tk (.same s1),hf.2,∅,fun D2 z2 H2 s2 hD2n hD2 hz2=>?_⟩
   have l1:=Paired.length hz1
   have l2:=Paired.length hz2
   have c1:=q50 e low l
   have c2:=q50 e (low+2^e) r
   refine⟨D1,D2,z1,z2,rfl,rfl,s2 _ _ hD1,hD2,szB ∅,fun D hD=>?_⟩
   have s3:=q15 hD (.lst (z1++z2))
   have s13:=s1.trans (s2.trans s3)
   refine q D (z1++z2) _ s13 (q196 (s1.trans s2) hD) q13 ?_
   exact q77 (q195 (.same (s2.trans s3)) hz1) (q195 (.same s3) hz2)
theorem q51:z.C P w 44 "closed_parts" ["bounds", "paper"] (q150 K):=by
 have sc:=q311
 refine z.d_closed_parts.cal fun f fd F=>F.k sc fun _ _ _ s H _ Q _ hr h=>?_
 obtain⟨b,v,p,low,L,rfl,hb,hL,hp,hf,hlv,q⟩:=h
 exists _,(q16 (q19 (pe_fn (q354 z) hr.m () (q10 (pix q26 (pv 0) q14) (q10 (pe_fn (q47 z) hr.m () (q10 (pix q26 (pv 0) q14) q12)) (q10 (pv 1) q12))))))
 exact⟨_,rfl,b,_,_,_,rfl,rfl,hb,rfl,_,rfl,b,_,_,_,rfl,rfl,hb,rfl,L,rfl,hL,_,rfl,L,hL,v,p,low,rfl,hp,hf,hlv,q⟩
noncomputable def badC(num:Int)(c:TS.I3):Bool:=decide (0<c.2.2)&&(decide (c.1<num)&&decide (num<=c.2.1))
noncomputable def sumB(num:Int)(cs:List TS.I3):Int:=(cs.map fun c=>if c.2.1<num then c.2.2 else 0).sum
noncomputable def dueF(cs:List TS.I3)(num many:Int):Bool:=!(cs.any (badC num))&&decide (sumB num cs=many)
theorem q502{num:Int}{cs:List TS.I3}{j:Nat}{c:TS.I3}(h:cs[j]? = some c):sumB num (cs.take (j+1))=sumB num (cs.take j)+if c.2.1<num then c.2.2 else 0:=by
 unfold sumB
 rw[WU,h,WQ,sum_append]
 simp
theorem any_next{num:Int}{cs:List TS.I3}{j:Nat}(h:cs[j]? = some c):(cs.take (j+1)).any (badC num)=((cs.take j).any (badC num)||badC num c):=by
 rw[WU,h,any_append]
 simp
theorem due_bad{num many:Int}{j:Nat}(h:cs[j]? = some c)(hb:badC num c=true):dueF cs num many=false:=by
 unfold dueF
 rw[List.any_eq_true.mpr ⟨c,WV h,hb⟩]
 rfl
theorem q590{num many:Int}{cs:List TS.I3}(h:cs.any (badC num)=false):dueF cs num many=decide (sumB num cs=many):=by
 unfold dueF
 rw[h]
 rfl
theorem q108{α β:Type}{R:α->β->Prop}:∀{l:List α}{m:List β},Paired R l m -> ∀{i:Nat}{x:α},l[i]? = some x -> ∃ y,m[i]? = some y/\R x y
 | _,_,.nil,_,_,h=>by simp at h
 | _,_,.cons r _,0,_,h=>by cases h;exact⟨_,rfl,r⟩
 | _,_,.cons _ t,i+1,_,h=>q108 t (i:=i) (by simpa using h)
noncomputable def hitC(w:Int)(c:TS.I3):Bool:=decide (c.1=w)&&decide (c.2.1=w)
noncomputable def q33(w:Int):List TS.I3->Option Int
 | []=>none
 | c::cs=>if hitC w c=true then some c.2.2 else q33 w cs
def Chain:Int->List TS.I3->Int->Prop
 | lo,[],hi=>lo=hi
 | lo,c::cs,hi=>c.1=lo/\lo<=c.2.1/\Chain (c.2.1+1) cs hi
theorem Chain.app:∀{a b c:Int}{xs ys:List TS.I3},Chain a xs b->Chain b ys c->Chain a (xs++ys) c
 | _,_,_,[],_,h,k=>by cases h;exact k
 | _,_,_,_::_,_,h,k=>⟨h.1,h.2.1,Chain.app h.2.2 k⟩
theorem q83:∀{e:Nat}{low:Int}{p:Pp},fitP e p->Chain low (q25 e low p) (low+2^e)
 | e,low,.all n,_=>by
  rw[q122]
  have:=p2pos e
  exact⟨rfl,by show low<=low+2^e-1;lia,by show low+2^e-1+1=low+2^e;lia⟩
 | 0,_,.split _ _ _,h=>h.elim
 | e+1,low,.split n l r,h=>by
  have h1:=q83 (low:=low) h.1
  have h2:=q83 (low:=low+2^e) h.2
  have h4:(2:Int)^(e+1)=2^e+2^e:=by rw[YJ];lia
  rw[h4,<- Int.add_assoc]
  exact h1.app h2
theorem q197{w:Int}:∀{lo hi:Int}{cs:List TS.I3},Chain lo cs hi->w<lo->sumB w cs=0/\sumB (w+1) cs=0/\cs.any (badC w)=false/\cs.any (badC (w+1))=false/\q33 w cs=none
 | _,_,[],_,_=>⟨rfl,rfl,rfl,rfl,rfl⟩
 | lo,_,c::cs,h,hw=>by
  have i:=q197 (w:=w) h.2.2 (by have:=h.2.1;lia)
  have h1:=h.1
  have h2:=h.2.1
  have e1:sumB w (c::cs)=(if c.2.1<w then c.2.2 else 0)+sumB w cs:=rfl
  have e2:sumB (w+1) (c::cs)=(if c.2.1<w+1 then c.2.2 else 0)+sumB (w+1) cs:=rfl
  have e3:(c::cs).any (badC w)=(badC w c||cs.any (badC w)):=rfl
  have e4:(c::cs).any (badC (w+1))=(badC (w+1) c||cs.any (badC (w+1))):=rfl
  have b1:badC w c=false:=by
   show(decide (0<c.2.2)&&(decide (c.1<w)&&decide (w<=c.2.1)))=false
   rw[ZK (show ¬ c.1<w by lia),WR,WJ]
  have b2:badC (w+1) c=false:=by
   show(decide (0<c.2.2)&&(decide (c.1<w+1)&&decide (w+1<=c.2.1)))=false
   rw[ZK (show ¬ c.1<w+1 by lia),WR,WJ]
  have b3:hitC w c=false:=by
   show(decide (c.1=w)&&decide (c.2.1=w))=false
   rw[ZK (show ¬ c.1=w by lia),WR]
  have e5:q33 w (c::cs)=if hitC w c=true then some c.2.2 else q33 w cs:=rfl
  rw[e1,e2,e3,e4,e5,b1,b2,b3,ZI (show ¬ c.2.1<w by lia),ZI (show ¬ c.2.1<w+1 by lia),i.1,i.2.1,i.2.2.1,i.2.2.2.1,i.2.2.2.2]
  exact⟨rfl,rfl,rfl,rfl,ZI fnt⟩
theorem chain_ge{w a:Int}:∀{lo hi:Int}{cs:List TS.I3},Chain lo cs hi->q33 w cs=some a->lo<=w:=fun {lo hi cs} h ha=>by
 by_cases c:w<lo
 ·rw[(q197 h c).2.2.2.2]at ha
  cases ha
 ·lia
theorem q741{w:Int}{c:TS.I3}(h:hitC w c=true):c.1=w/\c.2.1=w:=by
 have h':(decide (c.1=w)&&decide (c.2.1=w))=true:=h
 rw[WL]at h'
 exact⟨ZH h'.1,ZH h'.2⟩
theorem q321{w a:Int}:∀{lo hi:Int}{cs:List TS.I3},Chain lo cs hi->q33 w cs=some a->cs.any (badC w)=false/\cs.any (badC (w+1))=false/\sumB (w+1) cs=sumB w cs+a
 | _,_,[],_,h=>by cases h
 | lo,_,c::cs,h,ha=>by
  have e1:sumB w (c::cs)=(if c.2.1<w then c.2.2 else 0)+sumB w cs:=rfl
  have e2:sumB (w+1) (c::cs)=(if c.2.1<w+1 then c.2.2 else 0)+sumB (w+1) cs:=rfl
  have e3:(c::cs).any (badC w)=(badC w c||cs.any (badC w)):=rfl
  have e4:(c::cs).any (badC (w+1))=(badC (w+1) c||cs.any (badC (w+1))):=rfl
  have e5:q33 w (c::cs)=if hitC w c=true then some c.2.2 else q33 w cs:=rfl
  rw[e5]at ha
  by_cases hc:hitC w c=true
  ·rw[ZJ hc]at ha
   cases ha
   obtain⟨g1,g2⟩:=q741 hc
   have i:=q197 (w:=w) h.2.2 ∅
   have b1:badC w c=false:=by
    show(decide (0<c.2.2)&&(decide (c.1<w)&&decide (w<=c.2.1)))=false
    rw[ZK (show ¬ c.1<w by lia),WR,WJ]
   have b2:badC (w+1) c=false:=by
    show(decide (0<c.2.2)&&(decide (c.1<w+1)&&decide (w+1<=c.2.1)))=false
    rw[ZK (show ¬ w+1<=c.2.1 by lia),WJ,WJ]
   rw[e1,e2,e3,e4,b1,b2,ZI (show ¬ c.2.1<w by lia),ZJ (show c.2.1<w+1 by lia),i.1,i.2.1,i.2.2.1,i.2.2.2.1]
   exact⟨rfl,rfl,∅⟩
  ·rw[ZI hc]at ha
   have g:=chain_ge h.2.2 ha
   have i:=q321 h.2.2 ha
   have b1:badC w c=false:=by
    show(decide (0<c.2.2)&&(decide (c.1<w)&&decide (w<=c.2.1)))=false
    rw[ZK (show ¬ w<=c.2.1 by lia),WJ,WJ]
   have b2:badC (w+1) c=false:=by
    show(decide (0<c.2.2)&&(decide (c.1<w+1)&&decide (w+1<=c.2.1)))=false
    rw[ZK (show ¬ w+1<=c.2.1 by lia),WJ,WJ]
   rw[e1,e2,e3,e4,b1,b2,ZJ (show c.2.1<w by lia),ZJ (show c.2.1<w+1 by lia),i.1,i.2.1,i.2.2]
   exact⟨rfl,rfl,∅⟩
theorem q742{α:Type}{cs:List α}{j:Nat}{c:α}(h:cs[j]? = some c):cs.drop j=c::cs.drop (j+1):=by
 obtain⟨hl,e⟩:=List.getElem?_eq_some_iff.mp h
 rw[drop_eq_getElem_cons hl,e]
theorem q503(w:Int):∀ cs:List TS.I3,((cs.filter fun c=>decide (c.2.1<w)).map fun c=>c.2.2).sum=sumB w cs
 | []=>rfl
 | c::cs=>by
  have e1:sumB w (c::cs)=(if c.2.1<w then c.2.2 else 0)+sumB w cs:=rfl
  rw[e1,<- q503 w cs]
  by_cases h:c.2.1<w
  ·rw[ZJ h,filter_cons_of_pos (by exact ZA h)]
   rfl
  ·rw[ZI h,filter_cons_of_neg (by rw[ZK h];exact fnt),Int.zero_add]
noncomputable def optI:Option Int->V
 | none=>.non
 | some a=>.int a
inductive q177(K:Fg)(vs:List V)(H:Hp)(Q:VK)(E:XK):Prop
 |mk(cl:Addr)(zs:List V)(cs:List TS.I3)(w:Int)(_:vs=[.ref cl,.int w])(_:H cl=some (.lst zs))(_:Paired (q68 K H) zs cs)(_:cs.length<=100000)(_:∀ H',Same H H'->Q (optI (q33 w cs)) H')
theorem q113:z.C P w 1 "many_closed" ["closed", "worth"] (q177 K):=by
 have sc:=q343
 refine z.d_many_closed.cal fun f fd F=>F.k sc fun _ _ _ s H _ Q _ hr h=>?_
 obtain⟨cl,zs,cs,wo,rfl,hD,hz,hcl,q⟩:=h
 refine⟨_,(q11 (q60 PassesOwn.never rfl (q32 (pv 0)) (q200 rfl (q28 (pgn 2 sc.nd) (q28 (pgn 3 sc.nd) (q28 (pgn 4 sc.nd) q97))))
 (q16 (ps_if (PW.pt (q288 (q18 op_eq (pv 2) (pv 1) (q20 _)) (q186 (q18 op_eq (pv 3) (pv 1) (q20 _)))))
 (q16 (q19 (pv 4)))
 q21)))
 (q16 (q19 q95))),?_⟩
 refine⟨_,rfl,cl,rfl,⟨_,SqL.of hD⟩,q156 (K:=K) (a:=cl) (xs:=zs) (fun j σ G=>∃ w2 w3 w4:Option V,σ=[some (.ref cl),some (.int wo),w2,w3,w4]/\Same H G/\q33 wo cs=q33 wo (cs.drop j)) ⟨_,_,_,rfl,Same.refl _,rfl⟩ (fun j σ G _ ⟨_,_,_,_,s,_⟩=>SqL.of (s _ _ hD)) ?_ ?_⟩
 ·rintro j z σ G hj ⟨w2,w3,w4,rfl,sG,hal⟩
  obtain⟨c,gc,t,rfl,ht⟩:=q108 hz hj
  rw[q742 gc]at hal
  have hbe:q33 wo (c::cs.drop (j+1))=if(decide (c.1=wo)&&decide (c.2.1=wo))=true then some c.2.2 else q33 wo (cs.drop (j+1)):=rfl
  rw[hbe]at hal
  exists t,_,rfl,sG.seqT ht,rfl,_,_,rfl,_,_,rfl,_,_,rfl,rfl
  exists _,rfl,_,rfl,rfl,_,rfl
  rw[dec_int]
  by_cases c1:c.1=wo
  ·refine ite2 (fun _=>?_) (na c1)
   exists _,rfl,_,rfl,rfl,_,rfl
   rw[dec_int]
   by_cases c2:c.2.1=wo
   ·refine ite2 (fun _=>?_) (na c2)
    rw[ZA c1,ZA c2]at hal
    have z:=q _ sG
    rw[hal]at z
    exact⟨_,rfl,z⟩
   ·refine ite2 (ny c2) (fun _=>?_)
    rw[ZK c2,WJ]at hal
    exact⟨some (.int c.1),some (.int c.2.1),some (.int c.2.2),rfl,sG,hal⟩
  ·refine ite2 (ny c1) (fun _=>?_)
   rw[ZK c1,WR]at hal
   exact ite2 nf (fun _=>⟨some (.int c.1),some (.int c.2.1),some (.int c.2.2),rfl,sG,hal⟩)
 ·rintro σ G ⟨w2,w3,w4,rfl,sG,hal⟩
  rw[Paired.length hz,drop_length]at hal
  have z:=q _ sG
  rw[hal]at z
  exact z
inductive q178(K:Fg)(vs:List V)(H:Hp)(Q:VK)(E:XK):Prop
 |mk(b ga:Addr)(v:V)(p:Pp)(low num many:Int)(L:Nat)(xs:List V)(gs:List G3)(_:vs=[.ref b,.ref ga,v,.int num,.int many])(_:SqT K H b [.int low,.int (L:Int)])(_:L<=40)(_:H ga=some (.lst xs))(_:GatAt H L xs gs)(_:(∀ g∈gs,GoodS L g))(_:gs.length<=100)(_:PpAt H v p)(_:q43 L (Wh gs) p)(_:p.leaves<=100000)(_:∀ H',Same H H'->Q (.bl (dueF (q25 L low p) num many)) H')
theorem q355:z.C P w 46 "shows_below" pn6 (q178 K):=by
 have sc:=q344
 refine z.d_shows_below.cal fun f fd F=>F.k sc fun _ _ _ s H _ Q _ hr h=>?_
 obtain⟨b,ga,v,p,low,num,many,L,xs,gs,rfl,hb,hL,hga,hg,hgd,hgl,hp,hk,hlv,q⟩:=h
 refine⟨_,(q11 (ps_if (q116 (q87 (pe_fn (q224 z) hr.m () (q10 (pix q26 (pv 0) q14) (q10 (pv 1) (q10 (pv 2) q12))))))
 (q16 (q19 pe_bl))
 q21)
 (q11 (pst 5 sc.nd q14)
 (q11 (q60 PassesOwn.never rfl (q32 (pe_fn (q51 z) hr.m () (q10 (pv 0) (q10 (pv 2) q12)))) (q200 rfl (q28 (pgn 6 sc.nd) (q28 (pgn 7 sc.nd) (q28 (pgn 8 sc.nd) q97))))
 (q11 (q243 (ps_if (PW.pt (q288 (q18 op_gt (pv 8) q14 (q20 _)) (q186 (pt_chain op_lt op_le (pv 6) (pv 3) (pv 7)))))
 (q16 (q19 pe_bl))
 q21))
 (q16 (ps_if (q18 op_lt (pv 7) (pv 3) (q20 _))
 (q16 (pst 5 sc.nd (pe_op q29 (pv 5) (pv 8))))
 q21))))
 (q16 (q19 (q41 op_eq (pv 5) (pv 4) (q20 _))))))),?_⟩
 refine⟨_,rfl,b,_,_,_,rfl,rfl,hb,rfl,_,rfl,_,rfl,ga,v,p,L,xs,gs,rfl,hL,hga,hg,hgd,hgl,hp,hk,fun H1 s1=>⟨_,rfl,?_⟩⟩
 have hf:=q57 hk
 refine iteF ?_
 refine⟨_,rfl,_,rfl,b,v,p,low,L,rfl,s1.seqT hb,hL,hp.tk (.same s1),hf,hlv,fun D zs H2 s2 _ hD hz=>?_⟩
 have s12:=s1.trans s2
 generalize q25 L low p=cs at *
 refine⟨D,rfl,⟨_,SqL.of hD⟩,q156 (K:=K) (a:=D) (xs:=zs) (fun j σ G=>∃ w6 w7 w8:Option V,σ=[some (.ref b),some (.ref ga),some v,some (.int num),some (.int many),some (.int (sumB num (cs.take j))),w6,w7,w8]/\Same H2 G/\(cs.take j).any (badC num)=false) ⟨_,_,_,rfl,Same.refl _,rfl⟩ (fun j σ G _ ⟨_,_,_,_,s,_⟩=>SqL.of (s _ _ hD)) ?_ ?_⟩
 ·rintro j z σ G hj ⟨w6,w7,w8,rfl,sG,hnb⟩
  obtain⟨c,gc,t,rfl,ht⟩:=q108 hz hj
  exists t,_,rfl,sG.seqT ht,rfl,_,_,rfl,_,_,rfl,_,_,rfl,rfl
  have hbe:badC num c=(decide (0<c.2.2)&&(decide (c.1<num)&&decide (num<=c.2.1))):=rfl
  exists fun σ G'=>σ=[some (.ref b),some (.ref ga),some v,some (.int num),some (.int many),some (.int (sumB num (cs.take j))),some (.int c.1),some (.int c.2.1),some (.int c.2.2)]/\G'=G/\badC num c=false,?_
  ·exists _,rfl,_,_,rfl,rfl,_,rfl
   by_cases c1:0<c.2.2
   ·refine ite2 (fun _=>?_) (na c1)
    exists _,rfl,_,rfl,_,_,rfl,rfl,_,rfl
    by_cases c2:c.1<num
    ·refine ite2 (fun _=>?_) (na c2)
     exists _,rfl,_,_,rfl,rfl,_,rfl
     by_cases c3:num<=c.2.1
     ·refine ite2 (fun _=>?_) (na c3)
      have z:=q _ (s12.trans sG)
      rw[due_bad gc (by rw[hbe,ZA c1,ZA c2,ZA c3];rfl)]at z
      exact z
     ·refine ite2 (ny c3) (fun _=>⟨rfl,rfl,by rw[hbe,ZK c3,WJ,WJ]⟩)
    ·refine ite2 (ny c2) (fun _=>?_)
     exact⟨_,rfl,ite2 nf (fun _=>⟨rfl,rfl,by rw[hbe,ZK c2,WR,WJ]⟩)⟩
   ·refine ite2 (ny c1) (fun _=>?_)
    exact ite2 nf (fun _=>⟨rfl,rfl,by rw[hbe,ZK c1,WR]⟩)
  ·rintro σ G' ⟨rfl,rfl,hbc⟩
   have hnb':(cs.take (j+1)).any (badC num)=false:=by rw[any_next gc,hnb,hbc];rfl
   refine⟨_,rfl,_,rfl,_,_,rfl,rfl,_,rfl,ite2 (fun c4=>?_) (fun c4=>?_)⟩
   ·have c4':=ZH c4
    refine⟨_,rfl,_,rfl,_,_,rfl,rfl,some (.int c.1),some (.int c.2.1),some (.int c.2.2),?_,sG,hnb'⟩
    rw[q502 gc,ZJ c4']
    rfl
   ·have c4':¬ c.2.1<num:=fun z=>c4 (ZA z)
    refine⟨some (.int c.1),some (.int c.2.1),some (.int c.2.2),?_,sG,hnb'⟩
    rw[q502 gc,ZI c4',Int.add_zero]
 ·rintro σ G ⟨w6,w7,w8,rfl,sG,hnb⟩
  rw[Paired.length hz,YD]at hnb ⊢
  exists _,rfl,_,rfl,rfl
  rw[dec_int,<- q590 hnb]
  exact q _ (s12.trans sG)
noncomputable def q322(k w:Int)(cs:List TS.I3):Bool:=match q33 w cs with
 | none=>false
 | some a=>decide (sumB w cs<=k)&&decide (k<sumB w cs+a)
inductive q179(K:Fg)(vs:List V)(H:Hp)(Q:VK)(E:XK):Prop
 |mk(b ga:Addr)(v:V)(p:Pp)(low k w:Int)(L:Nat)(xs:List V)(gs:List G3)(_:vs=[.ref b,.ref ga,v,.int k,.int w])(_:SqT K H b [.int low,.int (L:Int)])(_:L<=40)(_:H ga=some (.lst xs))(_:GatAt H L xs gs)(_:(∀ g∈gs,GoodS L g))(_:gs.length<=100)(_:PpAt H v p)(_:q43 L (Wh gs) p)(_:p.leaves<=100000)(_:∀ H',Same H H'->Q (.bl (q322 k w (q25 L low p))) H')
theorem q356:z.C P w 46 "shows_least" pn12 (q179 K):=by
 have sc:=q345
 refine z.d_shows_least.cal fun f fd F=>F.k sc fun _ _ _ s H _ Q _ hr h=>?_
 obtain⟨b,ga,v,p,low,k,wo,L,xs,gs,rfl,hb,hL,hga,hg,hgd,hgl,hp,hk,hlv,q⟩:=h
 refine⟨_,(q11 (ps_if (q116 (q87 (pe_fn (q224 z) hr.m () (q10 (pix q26 (pv 0) q14) (q10 (pv 1) (q10 (pv 2) q12))))))
 (q16 (q19 pe_bl))
 q21)
 (q11 (pst 5 sc.nd (pe_fn (q51 z) hr.m () (q10 (pv 0) (q10 (pv 2) q12))))
 (q11 (pst 6 sc.nd (pe_fn (q113 z) hr.m () (q10 (pv 5) (q10 (pv 4) q12))))
 (q11 (pst 7 sc.nd (q35 (q455 rfl) () z.sum_ bt_sum (q10 (q405 (x := "least") (cl:=[("worth", s.heap.objs.size+1+0)]) (cn:=["worth"]) (TN:=["greatest", "things"]) (N:=["worth"]) (fr:=[4]) (sc0:=q17 q128) rfl (q32 (pv 5)) (fun C s₂ H₂ fp=>(pv 2)) (fun C s₂ H₂ fp=>q663 (q18 op_lt (pv 1) (pv 3) (q20 _))) (fun C s₂ H₂ fp=>(q513 (K:=K) (n:=3) rfl rfl (q28 (q96 (i:=0) (show(["least", "greatest", "things", "worth"]:List Str).Nodup by decide +kernel) rfl (Or.inl rfl)) (q28 (q96 (i:=1) (show(["least", "greatest", "things", "worth"]:List Str).Nodup by decide +kernel) rfl (Or.inl rfl)) (q28 (q96 (i:=2) (show(["least", "greatest", "things", "worth"]:List Str).Nodup by decide +kernel) rfl (Or.inl rfl)) q97))))) (by ac_rfl) ⟨by ac_rfl,trivial⟩ rfl rfl rfl ⟨by decide +kernel,by decide +kernel,by decide +kernel,by decide +kernel⟩ rfl) q12)))
 (q16 (q19 (q166 (q41 op_notN (pv 6) q95 (q20 _)) (q256 (q396 op_le op_lt (pv 7) (pv 3) (pe_op q29 (pv 7) (pv 6))))))))))),?_⟩
 refine⟨_,rfl,b,_,_,_,rfl,rfl,hb,rfl,_,rfl,_,rfl,ga,v,p,L,xs,gs,rfl,hL,hga,hg,hgd,hgl,hp,hk,fun H1 s1=>⟨_,rfl,?_⟩⟩
 have hf:=q57 hk
 refine iteF ?_
 refine⟨_,rfl,_,rfl,b,v,p,low,L,rfl,s1.seqT hb,hL,hp.tk (.same s1),hf,hlv,fun D zs H2 s2 _ hD hz=>?_⟩
 have s12:=s1.trans s2
 have hcl9:=ZR (q50 L low p) hlv
 generalize q25 L low p=cs at *
 have hzl:zs.length=cs.length:=Paired.length hz
 refine⟨_,rfl,_,rfl,D,zs,cs,wo,rfl,hD,hz,hcl9,fun H3 s3=>?_⟩
 have hD3:=s3 _ _ hD
 refine⟨_,rfl,D,rfl,⟨_,SqL.of hD3⟩,fun l4 hl4=>?_⟩
 refine q237 (xs:=zs) (szB ∅) (fun j ys H4=>H4=upd H3 l4 (.lst ys)/\ys.length<=j/\ys=(((cs.take j).filter fun c=>decide (c.2.1<wo)).map fun c=>c.2.2).map V.int) ⟨rfl,ZG _,rfl⟩ (fun j ys H4 ⟨e,_⟩=>by rw[e];exact SqL.of (q15 hl4 _ _ _ hD3)) (fun j ys H4 ⟨e,h2,_⟩=>⟨by rw[e];exact q13,h2⟩) ?_ ?_
 ·rintro j z ys H4 hzj ⟨rfl,e2,e3⟩
  obtain⟨c,gc,ta,rfl,hta⟩:=q108 hz hzj
  intro vs3 hvs3
  match vs3,hvs3 with
  | [x0,x1,x2],_=>
   exists ta,_,rfl,(s3.trans (q15 hl4 _)).seqT hta,rfl,_,_,rfl,_,_,rfl,_,_,rfl,rfl,⟨[_,_,_],rfl,rfl⟩
   refine⟨_,rfl,_,rfl,_,_,rfl,rfl,_,rfl,ite2 (fun c4=>?_) (fun c4=>?_)⟩
   ·exists _,rfl,q13,by rw[q84],by rw[ZV];exact Nat.succ_le_succ e2
    rw[WU,gc,filter_append,WQ,WQ,<- e3]
    show _=ys++List.map V.int (List.map (fun c=>c.2.2) (List.filter (fun c=>decide (c.2.1<wo)) [c]))
    rw[filter_cons_of_pos (by exact c4)]
    rfl
   ·exists rfl,Nat.le_succ_of_le e2
    rw[WU,gc,filter_append,WQ,WQ,<- e3]
    show _=ys++List.map V.int (List.map (fun c=>c.2.2) (List.filter (fun c=>decide (c.2.1<wo)) [c]))
    rw[filter_cons_of_neg (by exact c4)]
    exact(append_nil _).symm
 ·rintro ys H4 ⟨rfl,e2,rfl⟩
  rw[hzl,YD]
  have s4:=q15 hl4 (.lst (((cs.filter fun c=>decide (c.2.1<wo)).map fun c=>c.2.2).map V.int))
  have e4:=@q13 H3 l4 (.lst (((cs.filter fun c=>decide (c.2.1<wo)).map fun c=>c.2.2).map V.int))
  exists l4,_,rfl,SqL.of e4
  rw[q503]
  generalize upd H3 l4 (.lst (((cs.filter fun c=>decide (c.2.1<wo)).map fun c=>c.2.2).map V.int))=H4 at *
  have fin:=q H4 (s12.trans (s3.trans s4))
  unfold q322 at fin
  cases ha:q33 wo cs with
  | none=>
   rw[ha]at fin
   exists _,rfl,rfl,_,rfl
   exact iteF fin
  | some al=>
   rw[ha]at fin
   replace fin:Q (.bl (decide (sumB wo cs<=k)&&decide (k<sumB wo cs+al))) H4:=fin
   refine⟨_,rfl,rfl,_,rfl,iteT ?_⟩
   exists _,rfl,_,rfl,_,_,rfl,rfl,_,rfl
   by_cases c3:sumB wo cs<=k
   ·refine ite2 (fun _=>?_) (na c3)
    rw[ZA c3,Bool.true_and]at fin
    exact⟨_,rfl,_,rfl,_,_,rfl,rfl,_,_,rfl,rfl,fin⟩
   ·refine ite2 (ny c3) (fun _=>?_)
    rw[ZK c3,WR]at fin
    exact fin
noncomputable def Pp.m:Pp->Int
 | .all n=>n
 | .split n _ _=>n
theorem q323{e:Nat}{us:List Int}{p:Pp}(h:q43 e us p):p.m=(us.length:Int):=by
 cases p with
 | all n=>cases e <;> exact h
 | split n l r=>
  cases e with
  | zero=>exact h.elim
  | succ e=>exact h.1
theorem PpAt.t1{p:Pp}(h:PpAt H v p):∃ a vs,v = .ref a/\SqT K H a vs/\atI vs 1=some (.int p.m):=by
 cases p with
 | all n=>obtain⟨a,e,h⟩:=h;exact⟨a,_,e,SqT.of h,rfl⟩
 | split n l r=>obtain⟨a,x,y,e,h,_,_⟩:=h;exact⟨a,_,e,SqT.of h,rfl⟩
theorem q743{w:Int}:∀(ns a:List Int),w∈ns.foldl TS.stD a↔w∈a\/w∈ns
 | [],a=>by simp
 | n::ns,a=>by
  rw[foldl_cons,q743 ns]
  have e:w∈TS.stD a n↔w∈a\/w=n:=by
   unfold TS.stD
   split
   ·rename_i h
    obtain⟨x,hx,e⟩:=List.any_eq_true.mp h
    cases beq_iff_eq.mp e
    exact⟨.inl,fun z=>z.elim id fun z=>by rw[z];exact hx⟩
   ·rw[mem_append,mem_singleton]
  rw[e,mem_cons,or_assoc]
theorem q744:∀(l a:List Int),(l.foldl TS.stD a).length<=a.length+l.length
 | [],a=>ZG _
 | x::l,a=>by
  have z:(TS.stD a x).length<=a.length+1:=by unfold TS.stD;split <;> simp
  have:=q744 l (TS.stD a x)
  rw[foldl_cons,WZ]
  lia
noncomputable def withM(ws ms:List Int):List P2:=ms.map fun w=>(w,((ws.count w:Nat):Int))
def PrR(H:Hp)(v:V)(p:P2):Prop:=∃ a,v = .ref a/\H a=some (.tup [.int p.1,.int p.2])
theorem PrR.tk(k:TKeep H H')(h:PrR H v p):PrR H' v p:=by
 obtain⟨a,e,h⟩:=h
 exact⟨a,e,(k _ _).1 h⟩
inductive q180(K:Fg)(vs:List V)(H:Hp)(Q:VK)(E:XK):Prop
 |mk(wl:Addr)(ws:List Int)(_:vs=[.ref wl])(_:H wl=some (.lst (ws.map V.int)))(_:ws.length<=1000)(_:∀(D:Addr)(zs:List V)(ms:List Int)(H':Hp),Same H H'->H D=none->H' D=some (.lst zs)->(∀ x,x∈ms↔x∈ws)->ms.Pairwise (·<·)->Paired (PrR H') zs (withM ws ms)->ms.length<=1000->Q (.ref D) H')
theorem q357:z.C P w 1 "_law_counts" ["_law_worths"] (q180 K):=by
 have sc:=q348
 refine z.d__law_counts.cal fun f fd F=>F.k sc fun _ _ _ s H _ Q _ hr h=>?_
 obtain⟨wl,ws,rfl,hwl,hl,q⟩:=h
 exists _,(q16 (q19 (q140 (cl:=[("_law_worths", s.heap.objs.size+1+0)]) (cn:=["_law_worths"]) (N:=["_law_worths"]) (fr:=[0]) (sc0:=q17 q129) rfl (q32 (q35 (q462 rfl (P:=P) (w:=w) rfl rfl) () z.sorted_ q294 (q10 (q138 (q698 rfl (K:=K) (P:=P) (w:=w) rfl rfl rfl) () z.set_ bt_set (q10 (pv 0) q12)) q12))) (fun C s₂ H₂ fp=>(q30 (q10 (pv 0) (q10 (pe_bmK (K:=K) rfl YA PySem.F.slot_list_count PySem.F.type_list_count (q702 (K:=K) rfl) (pv 1) (q10 (pv 0) q12)) q12)))) (by ac_rfl) ⟨by ac_rfl,trivial⟩ rfl rfl rfl cok rfl)))
 refine⟨_,rfl,wl,ws,rfl,SqL.of hwl,hl,fun r hr0=>?_⟩
 refine⟨r,_,rfl,q13,fun l ms hl0 hp hs=>?_⟩
 have s2:=q15 hr0 (.ext fun h=>TS.SetI P w h r (ws.foldl TS.stD []))
 have s3:=q15 hl0 (.lst (ms.map V.int))
 have hmm:∀ x,x∈ms↔x∈ws:=fun x=>by
  rw[hp.mem_iff,q743]
  simp
 have hml:ms.length<=1000:=by
  have h1:=hp.length_eq
  have h2:=q744 ws []
  rw[length_nil]at h2
  lia
 have hfl:upd (upd H r (.ext fun h=>TS.SetI P w h r (ws.foldl TS.stD []))) l (.lst (ms.map V.int)) l=some (.lst (ms.map V.int)):=q13
 have s03:=s2.trans s3
 generalize upd (upd H r (.ext fun h=>TS.SetI P w h r (ws.foldl TS.stD []))) l (.lst (ms.map V.int))=H3 at *
 have hmv:(ms.map V.int).length=ms.length:=ZN _
 refine⟨l,rfl,⟨_,SqL.of hfl⟩,fun D hD=>?_⟩
 refine q70 (xs:=ms.map V.int) (sz ∅) (fun j ys G=>G D=some (.lst ys)/\Same H3 G/\ys.length=j/\Paired (PrR G) ys (withM ws (ms.take j))) ⟨q13,q15 hD _,rfl,.nil⟩ (fun j ys G ⟨_,s,_⟩=>SqL.of (s _ _ hfl)) (fun j ys G ⟨a1,_,a3,_⟩=>⟨a1,a3⟩) ?_ ?_
 ·rintro j x ys G hj ⟨a1,sG,a3,a4⟩
  obtain⟨y,hy,rfl⟩:∃ y,ms[j]? = some y/\x = .int y:=by
   rw[WN]at hj
   cases e:ms[j]? with
   | none=>rw[e]at hj;cases hj
   | some y=>rw[e]at hj;exact⟨y,rfl,(Option.some.inj hj).symm⟩
  have hwlG:=(s03.trans sG) _ _ hwl
  refine⟨_,rfl,_,rfl,.inl ⟨rfl,_,SqL.of hwlG⟩,_,rfl,wl,ws,y,rfl,rfl,SqL.of hwlG,szb rfl,fun p hp'=>?_⟩
  have t:=q15 hp' (.tup [V.int y,.int ((ws.count y:Nat):Int)])
  have a1':=t _ _ a1
  have tk:TKeep (upd G p (.tup [V.int y,.int ((ws.count y:Nat):Int)])) (upd (upd G p (.tup [V.int y,.int ((ws.count y:Nat):Int)])) D (.lst (ys++[.ref p]))):=TKeep.set a1'
  exists a1',q13,Same.own (sG.trans t) hD,by rw[ZV,a3];rfl
  rw[WU,hy]
  unfold withM
  rw[WQ]
  refine q77 (L2.Paired.mapP a4 fun _ _ z=>(z.tk (.same t)).tk tk) (.cons ⟨p,rfl,(tk _ _).1 q13⟩ .nil)
 ·rintro ys G ⟨a1,sG,a3,a4⟩
  rw[hmv,YD]at a4
  have hD0:H D=none:=by
   cases z:H D with
   | none=>rfl
   | some o=>rw[s03 _ _ z]at hD;cases hD
  exact q D ys ms G (s03.trans sG) hD0 a1 hmm hs a4 hml
noncomputable def cntI(ns:List Int)(a b:Int):Nat:=ns.countP fun n=>decide (a<=n)&&decide (n<=b)
theorem q388{a b:Int}{ns:List Int}(h:∀ n∈ns,a<=n->n<=b->q n=true):cntI (ns.filter q) a b=cntI ns a b:=by
 unfold cntI
 rw[countP_filter]
 refine countP_congr fun n hn=>?_
 constructor
 ·intro z
  rw[WL]at z
  exact z.1
 ·intro z
  rw[WL]
  exists z
  rw[WL]at z
  exact h n hn (ZH z.1) (ZH z.2)
theorem q109:∀{e:Nat}{low:Int}{ns:List Int}{p:Pp},Wths low e ns->q43 e (offs low ns) p -> ∀ c∈q25 e low p,c.2.2=(cntI ns c.1 c.2.1:Int)/\low<=c.1/\c.2.1<low+2^e
 | e,low,ns,.all n,hw,hd,c,hc=>by
  have hn:n=(ns.length:Int):=by
   have:=q323 hd
   rw[ZN]at this
   exact this
  rw[q122]at hc
  rw[List.mem_singleton.mp hc]
  refine⟨?_,Int.le_refl _,by show low+2^e-1<low+2^e;lia⟩
  show n=(cntI ns low (low+2^e-1):Int)
  unfold cntI
  rw[List.countP_eq_length.mpr fun x hx=>by
   have:=hw x hx
   rw[ZA (show low<=x by lia),ZA (show x<=low+2^e-1 by lia)]
   rfl]
  exact hn
 | 0,_,_,.split _ _ _,_,hd,_,_=>hd.elim
 | e+1,low,ns,.split n l r,hw,hd,c,hc=>by
  have h4:(2:Int)^(e+1)=2^e+2^e:=by rw[YJ];lia
  have hp:=p2pos e
  have h1:=hd.2.1
  have h2:=hd.2.2
  rw[q533 hw]at h1
  rw[q534 hw]at h2
  have hc':c∈q25 e low l++q25 e (low+2^e) r:=hc
  rcases List.mem_append.mp hc' with hc' | hc'
  ·obtain⟨i1,i2,i3⟩:=q109 hw.loH h1 c hc'
   refine⟨?_,i2,∅⟩
   rw[i1,q388 fun n _ _ z=>ZA ∅]
  ·obtain⟨i1,i2,i3⟩:=q109 hw.hiH h2 c hc'
   refine⟨?_,∅,∅⟩
   rw[i1,q388 fun n _ z _=>ZA ∅]
theorem q198{n:Int}:∀{lo hi:Int}{cs:List TS.I3},Chain lo cs hi->lo<=n->n<hi -> ∃ c∈cs,c.1<=n/\n<=c.2.1
 | lo,hi,[],h,h1,h2=>by
  have:lo=hi:=h
  lia
 | lo,hi,c::cs,h,h1,h2=>by
  have e1:=h.1
  by_cases k:n<=c.2.1
  ·exact⟨c,WF,∅,k⟩
  ·obtain⟨c',hc',z⟩:=q198 h.2.2 ∅ h2
   exact⟨c',ZZ _ hc',z⟩
theorem cnt_ge{ns:List Int}{a b x:Int}(h1:a<=x)(h2:x<=b):ns.count x<=cntI ns a b:=by
 rw[count_eq_countP]
 refine countP_mono_left fun n _ z=>?_
 have:n=x:=by simpa using z
 rw[this,ZA h1,ZA h2]
 rfl
theorem q427{ns:List Int}{x:Int}:cntI ns x x=ns.count x:=by
 unfold cntI
 rw[count_eq_countP]
 refine countP_congr fun n _=>?_
 rw[WL,decide_eq_true_iff,decide_eq_true_iff,beq_iff_eq]
 lia
theorem q324{w a:Int}:∀{cs:List TS.I3},q33 w cs=some a -> ∃ c∈cs,c.1=w/\c.2.1=w/\c.2.2=a
 | [],h=>by cases h
 | c::cs,h=>by
  have e5:q33 w (c::cs)=if hitC w c=true then some c.2.2 else q33 w cs:=rfl
  rw[e5]at h
  by_cases hc:hitC w c=true
  ·rw[ZJ hc]at h
   cases h
   exact⟨c,WF,(q741 hc).1,(q741 hc).2,rfl⟩
  ·rw[ZI hc]at h
   obtain⟨c',hc',z⟩:=q324 h
   exact⟨c',ZZ _ hc',z⟩
def OptR(H:Hp)(v:V):Option P2->Prop
 | none=>v = .non
 | some p=>PrR H v p
theorem OptR.tk{H H':Hp}(k:TKeep H H'){v:V}:∀{o:Option P2},OptR H v o->OptR H' v o
 | none,h=>h
 | some _,h=>PrR.tk k h
noncomputable def overC(w m:Int)(c:TS.I3):Bool:=decide (m<c.2.2)||(decide (c.2.2=m)&&decide (c.2.1<w))
noncomputable def mostF(w m:Int)(cs:List TS.I3):Bool:=decide (0<m)&&(decide (q33 w cs=some m)&&!(cs.any (overC w m)))
inductive q225(K:Fg)(vs:List V)(H:Hp)(Q:VK)(E:XK):Prop
 |mk(b ga:Addr)(v:V)(p:Pp)(low w m:Int)(L:Nat)(xs:List V)(gs:List G3)(_:vs=[.ref b,.ref ga,v,.int w,.int m])(_:SqT K H b [.int low,.int (L:Int)])(_:L<=40)(_:H ga=some (.lst xs))(_:GatAt H L xs gs)(_:(∀ g∈gs,GoodS L g))(_:gs.length<=100)(_:PpAt H v p)(_:q43 L (Wh gs) p)(_:p.leaves<=100000)(_:∀ H',Same H H'->Q (.bl (mostF w m (q25 L low p))) H')
theorem q428:z.C P w 46 "shows_most" pn8 (q225 K):=by
 have sc:=q416
 refine z.d_shows_most.cal fun f fd F=>F.k sc fun _ _ _ s H _ Q _ hr h=>?_
 obtain⟨b,ga,v,p,low,wo,m,L,xs,gs,rfl,hb,hL,hga,hg,hgd,hgl,hp,hk,hlv,q⟩:=h
 refine⟨_,(q11 (ps_if (PW.pt (pw_or (q18 op_le (pv 4) q14 (q20 _)) (q115 (q116 (q87 (pe_fn (q224 z) hr.m () (q10 (pix q26 (pv 0) q14) (q10 (pv 1) (q10 (pv 2) q12)))))))))
 (q16 (q19 pe_bl))
 q21)
 (q11 (pst 5 sc.nd (pe_fn (q51 z) hr.m () (q10 (pv 0) (q10 (pv 2) q12))))
 (q11 (ps_if (q18 op_ne (pe_fn (q113 z) hr.m () (q10 (pv 5) (q10 (pv 3) q12))) (pv 4) (q20 _))
 (q16 (q19 pe_bl))
 q21)
 (q11 (q60 PassesOwn.never rfl (q32 (pv 5)) (q200 rfl (q28 (pgn 6 sc.nd) (q28 (pgn 7 sc.nd) (q28 (pgn 8 sc.nd) q97))))
 (q16 (ps_if (PW.pt (pw_or (q18 op_gt (pv 8) (pv 4) (q20 _)) (q115 (PW.pt (q288 (q18 op_eq (pv 8) (pv 4) (q20 _)) (q186 (q18 op_lt (pv 7) (pv 3) (q20 _))))))))
 (q16 (q19 pe_bl))
 q21)))
 (q16 (q19 pe_bl)))))),?_⟩
 exists _,rfl,_,_,rfl,rfl,_,rfl
 by_cases c:m<=0
 ·refine ite2 (fun _=>?_) (na c)
  refine ite2 (fun _=>?_) nr
  have z:=q H (Same.refl _)
  unfold mostF at z
  rw[ZK (show ¬ 0<m by lia),WR]at z
  exact z
 refine ite2 (ny c) (fun _=>?_)
 refine⟨_,rfl,b,_,_,_,rfl,rfl,hb,rfl,_,rfl,_,rfl,ga,v,p,L,xs,gs,rfl,hL,hga,hg,hgd,hgl,hp,hk,fun H1 s1=>⟨_,rfl,?_⟩⟩
 have hf:=q57 hk
 refine iteF ?_
 refine⟨_,rfl,_,rfl,b,v,p,low,L,rfl,s1.seqT hb,hL,hp.tk (.same s1),hf,hlv,fun D zs H2 s2 _ hD hz=>?_⟩
 have s12:=s1.trans s2
 have hcl9:=ZR (q50 L low p) hlv
 generalize q25 L low p=cs at *
 have em:mostF wo m cs=(decide (q33 wo cs=some m)&&!(cs.any (overC wo m))):=by
  unfold mostF
  rw[ZA (show 0<m by lia),Bool.true_and]
 refine⟨_,rfl,_,rfl,D,zs,cs,wo,rfl,hD,hz,hcl9,fun H3 s3=>?_⟩
 have hD3:=s3 _ _ hD
 have s13:=s12.trans s3
 exists _,rfl
 by_cases ha:q33 wo cs=some m
 ·rw[ha,ZA rfl,Bool.true_and]at em
  rw[ha]
  exists rfl,_,rfl
  refine ite2 (fun z=>absurd z (by rw[show optI (some m)=V.int m from rfl,ZA (show V.int m=V.int m from rfl)];exact fnt)) (fun _=>?_)
  refine⟨_,rfl,D,rfl,⟨_,SqL.of hD3⟩,q156 (K:=K) (a:=D) (xs:=zs) (fun j σ G=>∃ w6 w7 w8:Option V,σ=[some (.ref b),some (.ref ga),some v,some (.int wo),some (.int m),some (.ref D),w6,w7,w8]/\Same H3 G/\(cs.take j).any (overC wo m)=false) ⟨_,_,_,rfl,Same.refl _,rfl⟩ (fun j σ G _ ⟨_,_,_,_,s,_⟩=>SqL.of (s _ _ hD3)) ?_ ?_⟩
  ·rintro j z σ G hj ⟨w6,w7,w8,rfl,sG,hnb⟩
   obtain⟨c',gc,t,rfl,ht⟩:=q108 hz hj
   exists t,_,rfl,(s3.trans sG).seqT ht,rfl,_,_,rfl,_,_,rfl,_,_,rfl,rfl
   have hbe:overC wo m c'=(decide (m<c'.2.2)||(decide (c'.2.2=m)&&decide (c'.2.1<wo))):=rfl
   have out:overC wo m c'=true->Q (.bl false) G:=fun e=>by
    have z:=q G (s13.trans sG)
    rw[em,List.any_eq_true.mpr ⟨c',WV gc,e⟩]at z
    exact z
   have go:overC wo m c'=false -> ∃ w6 w7 w8:Option V,[some (V.ref b),some (.ref ga),some v,some (.int wo),some (.int m),some (.ref D),some (.int c'.1),some (.int c'.2.1),some (.int c'.2.2)]=[some (V.ref b),some (.ref ga),some v,some (.int wo),some (.int m),some (.ref D),w6,w7,w8]/\Same H3 G/\(cs.take (j+1)).any (overC wo m)=false:=fun e=>⟨_,_,_,rfl,sG,by
    rw[WU,gc,any_append,hnb]
    show(false||(overC wo m c'||false))=false
    rw[e]
    rfl⟩
   exists _,rfl,_,rfl,_,_,rfl,rfl,_,rfl
   by_cases c1:m<c'.2.2
   ·refine ite2 (fun _=>?_) (na c1)
    refine ite2 (fun _=>?_) nr
    exact out (by rw[hbe,ZA c1,Bool.true_or])
   ·refine ite2 (ny c1) (fun _=>?_)
    exists _,rfl,_,rfl,rfl,_,rfl
    rw[dec_int]
    by_cases c2:c'.2.2=m
    ·refine ite2 (fun _=>?_) (na c2)
     exists _,rfl,_,rfl,_,_,rfl,rfl,_,rfl
     by_cases c3:c'.2.1<wo
     ·refine ite2 (fun _=>?_) (na c3)
      exact out (by rw[hbe,ZA c2,ZA c3,Bool.and_self,Bool.or_true])
     ·refine ite2 (ny c3) (fun _=>?_)
      exact go (by rw[hbe,ZK c1,ZK c3,WJ,Bool.or_false])
    ·refine ite2 (ny c2) (fun _=>?_)
     refine ite2 nf (fun _=>?_)
     exact go (by rw[hbe,ZK c1,ZK c2,WR,Bool.or_false])
  ·rintro σ G ⟨w6,w7,w8,rfl,sG,hnb⟩
   rw[Paired.length hz,YD]at hnb
   have z:=q G (s13.trans sG)
   rw[em,hnb]at z
   exact z
 ·rw[ZK ha,WR]at em
  have fin:=q H3 s13
  rw[em]at fin
  cases hal:q33 wo cs with
  | none=>
   exists rfl,_,rfl
   exact ite2 (fun _=>fin) nr
  | some a=>
   exists rfl,_,rfl
   have hne:¬ V.int a=V.int m:=fun z=>ha (by rw[hal,V.int.inj z])
   exact ite2 (fun _=>fin) (fun z=>absurd (by rw[show optI (some a)=V.int a from rfl,ZK hne];rfl) z)
noncomputable def oftF(part tot:Int):List TS.I3->Option (List P2)
 | []=>some []
 | c::cs=>if tot<c.2.2*part then(if c.1<c.2.1 then none else(oftF part tot cs).map fun l=>(c.1,c.2.2)::l)else oftF part tot cs
noncomputable def ansF(o:Option (List P2))(told:List P2):Bool:=match o with
 | none=>false
 | some ps=>decide (ps=told)
theorem q591(h:Paired (PrR H) xs ps):q297 H xs ps:=by
 refine⟨Paired.length h,fun j x q hx hq=>?_⟩
 obtain⟨y,e,r⟩:=q108 h hx
 rw[hq]at e
 cases e
 exact r
theorem q745:∀{a b:List P2},a.Pairwise (fun p q=>p.1<q.1)->b.Pairwise (fun p q=>p.1<q.1)->(∀ p,p∈a↔p∈b)->a=b
 | [],[],_,_,_=>rfl
 | [],y::b,_,_,h=>absurd ((h y).mpr WF) (by simp)
 | x::a,[],_,_,h=>absurd ((h x).mp WF) (by simp)
 | x::a,y::b,ha,hb,h=>by
  have ha':=List.pairwise_cons.mp ha
  have hb':=List.pairwise_cons.mp hb
  have e:x=y:=by
   rcases List.mem_cons.mp ((h x).mp WF)with z | z
   ·exact z
   ·rcases List.mem_cons.mp ((h y).mpr WF)with z2 | z2
    ·exact z2.symm
    ·have h1:=hb'.1 x z
     have h2:=ha'.1 y z2
     lia
  subst e
  congr 1
  refine q745 ha'.2 hb'.2 fun p=>?_
  constructor
  ·intro hp
   rcases List.mem_cons.mp ((h p).mp (ZZ _ hp))with z | z
   ·have:=ha'.1 p hp
    rw[z]at this
    lia
   ·exact z
  ·intro hp
   rcases List.mem_cons.mp ((h p).mpr (ZZ _ hp))with z | z
   ·have:=hb'.1 p hp
    rw[z]at this
    lia
   ·exact z
inductive q181(K:Fg)(vs:List V)(H:Hp)(Q:VK)(E:XK):Prop
 |mk(b ga tl:Addr)(v:V)(p:Pp)(low part:Int)(ts:List V)(told:List P2)(L:Nat)(xs:List V)(gs:List G3)(_:vs=[.ref b,.ref ga,v,.int part,.ref tl])(_:H tl=some (.lst ts))(_:Paired (PrR H) ts told)(_:SqT K H b [.int low,.int (L:Int)])(_:L<=40)(_:H ga=some (.lst xs))(_:GatAt H L xs gs)(_:(∀ g∈gs,GoodS L g))(_:gs.length<=100)(_:PpAt H v p)(_:q43 L (Wh gs) p)(_:p.leaves<=90000)(_:(∀ c∈q25 L low p,0<=c.2.2/\c.2.2<=1000))(_:∀ H',Same H H'->Q (.bl (ansF (oftF part p.m (q25 L low p)) told)) H')
theorem q358:z.C P w 46 "shows_often" pn9 (q181 K):=by
 have sc:=q346
 refine z.d_shows_often.cal fun f fd F=>F.k sc fun _ _ _ s H _ Q _ hr h=>?_
 obtain⟨b,ga,tl,v,p,low,part,ts,told,L,xs,gs,rfl,htl,hts,hb,hL,hga,hg,hgd,hgl,hp,hk,hlv,hcs,q⟩:=h
 refine⟨_,(q11 (ps_if (q116 (q87 (pe_fn (q224 z) hr.m () (q10 (pix q26 (pv 0) q14) (q10 (pv 1) (q10 (pv 2) q12))))))
 (q16 (q19 pe_bl))
 q21)
 (q11 (pst 5 sc.nd (q42 q12))
 (q11 (q60 PassesOwn.never rfl (q32 (pe_fn (q51 z) hr.m () (q10 (pv 0) (q10 (pv 2) q12)))) (q200 rfl (q28 (pgn 6 sc.nd) (q28 (pgn 7 sc.nd) (q28 (pgn 8 sc.nd) q97))))
 (q16 (ps_if (q18 op_gt (pe_op q105 (pv 8) (pv 3)) (pix q26 (pv 2) q14) (q20 _))
 (q11 (ps_if (q18 op_lt (pv 6) (pv 7) (q20 _))
 (q16 (q19 pe_bl))
 q21)
 (q16 (q137 (pe_bm YA YL YM q62 (pv 5) (q10 (q30 (q10 (pv 6) (q10 (pv 8) q12))) q12)))))
 q21)))
 (q16 (q19 (q41 (op_eqPs hr.units) (pv 5) (pv 4) (q20 _))))))),?_⟩
 refine⟨_,rfl,b,_,_,_,rfl,rfl,hb,rfl,_,rfl,_,rfl,ga,v,p,L,xs,gs,rfl,hL,hga,hg,hgd,hgl,hp,hk,fun H1 s1=>⟨_,rfl,?_⟩⟩
 have hf:=q57 hk
 refine iteF ?_
 refine⟨szb rfl,fun D0 hD0=>?_⟩
 have s2:=q15 hD0 (.lst [])
 have e2:=@q13 H1 D0 (.lst [])
 generalize upd H1 D0 (.lst [])=H2 at *
 have s02:=s1.trans s2
 refine⟨_,rfl,_,rfl,b,v,p,low,L,rfl,s02.seqT hb,hL,hp.tk (.same s02),hf,∅,fun D zs H3 s3 hDn hD hz=>?_⟩
 have e3:=s3 _ _ e2
 have hDD:D≠D0:=fun z=>by rw[z,e2]at hDn;cases hDn
 have back:∀ G,Keep D0 H3 G->Same H G:=fun G k c o h=>k c o (fun z=>by have h1:=s1 _ _ h;rw[z,hD0]at h1;cases h1) (s3 _ _ (s02 _ _ h))
 have hcn:=ZR (q50 L low p) hlv
 generalize q25 L low p=cs at *
 refine⟨D,rfl,⟨_,SqL.of hD⟩,q156 (K:=K) (a:=D) (xs:=zs) (fun j σ G=>∃(acc:List P2)(fs:List V)(w5 w6 w7:Option V),σ=[some (.ref b),some (.ref ga),some v,some (.int part),some (.ref tl),some (.ref D0),w5,w6,w7]/\Keep D0 H3 G/\G D0=some (.lst fs)/\Paired (PrR G) fs acc/\fs.length<=j/\oftF part p.m cs=(oftF part p.m (cs.drop j)).map fun l=>acc++l) ⟨[],[],_,_,_,rfl,Keep.refl _ _,e3,.nil,ZG _,by show oftF part p.m cs=(oftF part p.m cs).map fun l=>l;cases oftF part p.m cs <;> rfl⟩ (fun j σ G _ ⟨_,_,_,_,_,_,k,_⟩=>SqL.of (k _ _ hDD hD)) ?_ ?_⟩
 ·rintro j z σ G hj ⟨acc,fs,w5,w6,w7,rfl,kG,hG0,hfs,hfl,hof⟩
  have tkG:TKeep H3 G:=.keep kG e3
  obtain⟨c,gc,t,rfl,ht⟩:=q108 hz hj
  have hcb:=hcs c (WV gc)
  have hjl:j<cs.length:=(List.getElem?_eq_some_iff.mp gc).1
  obtain⟨t',et',htG⟩:=q589 (K:=K) tkG ⟨t,rfl,ht⟩
  cases et'
  obtain⟨ap,vsp,ev,hpa,hat1⟩:=(hp.tk (.same (back G kG))).t1 (K:=K)
  subst ev
  rw[q742 gc]at hof
  have hbe:oftF part p.m (c::cs.drop (j+1))=if p.m<c.2.2*part then(if c.1<c.2.1 then none else(oftF part p.m (cs.drop (j+1))).map fun l=>(c.1,c.2.2)::l)else oftF part p.m (cs.drop (j+1)):=rfl
  rw[hbe]at hof
  exists t,_,rfl,htG,rfl,_,_,rfl,_,_,rfl,_,_,rfl,rfl
  refine⟨_,rfl,_,rfl,_,_,rfl,rfl,.inl ⟨∅,∅⟩,_,rfl,ap,vsp,_,_,rfl,rfl,hpa,hat1,_,_,rfl,rfl,_,rfl,ite2 (fun k=>?_) (fun k=>?_)⟩
  ·rw[ZJ (ZH k)]at hof
   refine⟨_,rfl,_,rfl,_,_,rfl,rfl,_,rfl,ite2 (fun k2=>?_) (fun k2=>?_)⟩
   ·rw[ZJ (ZH k2)]at hof
    have fin:=q G (back G kG)
    rw[hof]at fin
    exact fin
   ·rw[ZI fun z=>k2 (ZA z)]at hof
    refine⟨_,rfl,.inl ⟨rfl,_,SqL.of hG0⟩,_,rfl,_,rfl,szb rfl,fun a ha=>?_⟩
    have t2:=q15 ha (.tup [V.int c.1,.int c.2.2])
    have e2':upd G a (.tup [V.int c.1,.int c.2.2]) a=some (.tup [V.int c.1,.int c.2.2]):=q13
    generalize upd G a (.tup [V.int c.1,.int c.2.2])=G2 at *
    have hG2:=t2 _ _ hG0
    have tk3:TKeep G2 (upd G2 D0 (.lst (fs++[.ref a]))):=TKeep.set hG2
    exists D0,fs,.ref a,rfl,rfl,hG2,Nat.lt_of_le_of_lt hfl (WC hjl (szB ∅))
    exists acc++[(c.1,c.2.2)],fs++[.ref a],_,_,_,rfl,fun c' o' n h=>by rw[q27 n];exact t2 _ _ (kG _ _ n h),q13,q77 (L2.Paired.mapP hfs fun _ _ z=>(z.tk (.same t2)).tk tk3) (.cons ⟨a,rfl,(tk3 _ _).1 e2'⟩ .nil),by rw[ZV];exact Nat.succ_le_succ hfl
    rw[hof]
    cases oftF part p.m (cs.drop (j+1)) with
    | none=>rfl
    | some l=>show some (acc++((c.1,c.2.2)::l))=some (acc++[(c.1,c.2.2)]++l);rw[YW];rfl
  ·rw[ZI fun z=>k (ZA z)]at hof
   exact⟨acc,fs,_,_,_,rfl,kG,hG0,hfs,Nat.le_succ_of_le hfl,hof⟩
 ·rintro σ G ⟨acc,fs,w5,w6,w7,rfl,kG,hG0,hfs,hfl,hof⟩
  rw[Paired.length hz,drop_length]at hof
  have sb:=back G kG
  exists _,rfl,_,rfl,D0,tl,fs,ts,acc,told,rfl,rfl,SqL.of hG0,SqL.of (sb _ _ htl),q591 hfs,q591 (L2.Paired.mapP hts fun _ _ z=>z.tk (.same sb))
  have fin:=q G sb
  rw[hof]at fin
  replace fin:Q (.bl (decide (acc++[]=told))) G:=fin
  rw[append_nil]at fin
  exact fin
noncomputable def abvC(n:Int)(c:TS.I3):Bool:=decide (0<c.2.2)&&decide (n<c.2.1)
noncomputable def upF(n:Int)(cs:List TS.I3):Option P2->Bool
 | none=>!(cs.any (abvC n))
 | some q=>decide (n<q.1)&&(decide (0<q.2)&&(decide (q33 q.1 cs=some q.2)&&!(cs.any fun c=>abvC n c&&decide (c.1<q.1))))
inductive q325(K:Fg)(vs:List V)(H:Hp)(Q:VK)(E:XK):Prop
 |mk(b ga:Addr)(v tv:V)(p:Pp)(low n:Int)(told:Option P2)(L:Nat)(xs:List V)(gs:List G3)(_:vs=[.ref b,.ref ga,v,.int n,tv])(_:OptR H tv told)(_:SqT K H b [.int low,.int (L:Int)])(_:L<=40)(_:H ga=some (.lst xs))(_:GatAt H L xs gs)(_:(∀ g∈gs,GoodS L g))(_:gs.length<=100)(_:PpAt H v p)(_:q43 L (Wh gs) p)(_:p.leaves<=100000)(_:∀ H',Same H H'->Q (.bl (upF n (q25 L low p) told)) H')
theorem q537:z.C P w 46 "shows_up" pn7 (q325 K):=by
 have sc:=q524
 refine z.d_shows_up.cal fun f fd F=>F.k sc fun _ _ _ s H _ Q _ hr h=>?_
 obtain⟨b,ga,v,tv,p,low,n,told,L,xs,gs,rfl,ht0,hb,hL,hga,hg,hgd,hgl,hp,hk,hlv,q⟩:=h
 refine⟨_,(q11 (ps_if (q116 (q87 (pe_fn (q224 z) hr.m () (q10 (pix q26 (pv 0) q14) (q10 (pv 1) (q10 (pv 2) q12))))))
 (q16 (q19 pe_bl))
 q21)
 (q11 (pst 5 sc.nd (pe_fn (q51 z) hr.m () (q10 (pv 0) (q10 (pv 2) q12))))
 (q11 (q453 (i:=6) (cl:=[("number", s.heap.objs.size+1+0)]) (cn:=["number"]) (N:=["number"]) (fr:=[3]) (sc0:=q17 q160) sc.nd rfl (Or.inl rfl) rfl (q32 (pv 5)) (fun C s₂ H₂ fp=>(pv 0)) (fun C s₂ H₂ fp=>(PW.pt (q288 (q18 op_gt (pix (q69 (K:=K) rfl) (pv 0) q14) q14 (q20 _)) (q186 (q18 op_gt (pix (q69 (K:=K) rfl) (pv 0) q14) (pv 1) (q20 _)))))) (by ac_rfl) ⟨by ac_rfl,trivial⟩ rfl rfl rfl cok rfl (by ac_rfl) (.inl rfl))
 (q11 (ps_if (q18 q291 (pv 4) q95 (q20 _))
 (q16 (q19 (q41 op_eq (pln z.len_ (q10 (pv 6) q12)) q14 (q20 _))))
 q21)
 (q11 (pst 7 sc.nd (pix q26 (pv 4) q14))
 (q11 (ps_if (PW.pt (pw_or (q18 op_le (pv 7) (pv 3) (q20 _)) (pw_or (q18 op_le (pix q26 (pv 4) q14) q14 (q20 _)) (q115 (q18 op_ne (pe_fn (q113 z) hr.m () (q10 (pv 5) (q10 (pv 7) q12))) (pix q26 (pv 4) q14) (q20 _))))))
 (q16 (q19 pe_bl))
 q21)
 (q16 (q19 (q35 (call_all rfl) () z.all_ bt_all (q10 (q405 (x := "least") (cl:=[("worth", s.heap.objs.size+1+1)]) (cn:=["worth"]) (TN:=["greatest", "things"]) (N:=["worth"]) (fr:=[7]) (sc0:=q17 q160) rfl (q32 (pv 6)) (fun C s₂ H₂ fp=>(q41 op_ge (pv 0) (pv 3) (q20 _))) (fun C s₂ H₂ fp=>q511) (fun C s₂ H₂ fp=>(q513 (K:=K) (n:=3) rfl rfl (q28 (q96 (i:=0) (show(["least", "greatest", "things", "worth"]:List Str).Nodup by decide +kernel) rfl (Or.inl rfl)) (q28 (q96 (i:=1) (show(["least", "greatest", "things", "worth"]:List Str).Nodup by decide +kernel) rfl (Or.inl rfl)) (q28 (q96 (i:=2) (show(["least", "greatest", "things", "worth"]:List Str).Nodup by decide +kernel) rfl (Or.inl rfl)) q97))))) (by ac_rfl) ⟨by ac_rfl,trivial⟩ rfl rfl rfl ⟨by decide +kernel,by decide +kernel,by decide +kernel,by decide +kernel⟩ rfl) q12)))))))))),?_⟩
 refine⟨_,rfl,b,_,_,_,rfl,rfl,hb,rfl,_,rfl,_,rfl,ga,v,p,L,xs,gs,rfl,hL,hga,hg,hgd,hgl,hp,hk,fun H1 s1=>⟨_,rfl,?_⟩⟩
 have hf:=q57 hk
 refine iteF ?_
 refine⟨_,rfl,_,rfl,b,v,p,low,L,rfl,s1.seqT hb,hL,hp.tk (.same s1),hf,hlv,fun D zs H2 s2 _ hD hz=>?_⟩
 have s12:=s1.trans s2
 have hcl9:=ZR (q50 L low p) hlv
 generalize q25 L low p=cs at *
 have hzl:zs.length=cs.length:=Paired.length hz
 refine⟨_,rfl,D,rfl,⟨_,SqL.of hD⟩,fun D3 hD3=>?_⟩
 refine q141 (K:=K) (xs:=zs) (szB ∅) (fun i ys G=>G=upd H2 D3 (.lst ys)/\ys.length<=i/\Paired (q68 K H2) ys ((cs.take i).filter (abvC n))) ⟨rfl,ZG _,.nil⟩ (fun i ys G ⟨e,_⟩=>by rw[e];exact SqL.of (q15 hD3 _ _ _ hD)) (fun i ys G ⟨e,e2,_⟩=>⟨by rw[e];exact q13,e2⟩) ?_ ?_
 ·rintro i z ys G hzi ⟨rfl,e2,e3⟩
  obtain⟨c,gc,t,rfl,ht⟩:=q108 hz hzi
  have hlt:=(List.getElem?_eq_some_iff.mp hzi).1
  have ht':=(q15 hD3 (.lst ys)).seqT ht
  have et:(cs.take (i+1)).filter (abvC n)=(cs.take i).filter (abvC n)++[c].filter (abvC n):=by rw[WU,gc,filter_append];rfl
  have hbe:abvC n c=(decide (0<c.2.2)&&decide (n<c.2.1)):=rfl
  have no:abvC n c=false->Paired (q68 K H2) ys ((cs.take (i+1)).filter (abvC n)):=fun e=>by
   rw[et,filter_cons_of_neg (by rw[e];exact fnt),filter_nil,append_nil]
   exact e3
  exists _,rfl,t,_,_,_,rfl,rfl,ht',rfl,_,_,rfl,rfl,_,rfl
  by_cases c1:0<c.2.2
  ·refine ite2 (fun _=>?_) (na c1)
   exists _,rfl,t,_,_,_,rfl,rfl,ht',rfl,_,rfl,_,_,rfl,rfl,_,rfl
   by_cases c2:n<c.2.1
   ·refine ite2 (fun _=>?_) (na c2)
    exists _,rfl,q13,by rw[q84],by rw[ZV];exact Nat.succ_le_succ e2
    rw[et,filter_cons_of_pos (by rw[hbe,ZA c1,ZA c2];rfl)]
    exact q77 e3 (.cons ⟨t,rfl,ht⟩ .nil)
   ·refine ite2 (ny c2) (fun _=>?_)
    exact⟨_,∅,rfl,∅,rfl,Nat.le_succ_of_le e2,no (by rw[hbe,ZK c2,WJ])⟩
  ·refine ite2 (ny c1) (fun _=>?_)
   refine ite2 nf (fun _=>?_)
   exact⟨_,∅,rfl,∅,rfl,Nat.le_succ_of_le e2,no (by rw[hbe,ZK c1,WR])⟩
 rintro ys G ⟨rfl,e2,e3⟩
 rw[hzl,YD]at e3
 have s3:=q15 hD3 (.lst ys)
 have eD3:=@q13 H2 D3 (.lst ys)
 generalize upd H2 D3 (.lst ys)=H3 at *
 have s13:=s12.trans s3
 have hyl:ys.length=(cs.filter (abvC n)).length:=Paired.length e3
 cases told with
 | none=>
  cases(show tv = .non from ht0)
  refine⟨_,rfl,rfl,_,rfl,iteT ?_⟩
  exists _,rfl,D3,_,rfl,.inl (SqL.of eD3),rfl
  rw[dec_int]
  have fin:=q H3 s13
  have e:upF n cs none=decide ((ys.length:Int)=0):=by
   show(!(cs.any (abvC n)))=_
   rw[hyl]
   cases z:cs.any (abvC n) with
   | true=>
    obtain⟨c,hc,hab⟩:=List.any_eq_true.mp z
    have:0<(cs.filter (abvC n)).length:=List.length_pos_iff.mpr fun y=>by
     have:=List.mem_filter.mpr ⟨hc,hab⟩
     rw[y]at this
     cases this
    rw[ZK ∅]
    rfl
   | false=>
    have:cs.filter (abvC n)=[]:=List.filter_eq_nil_iff.mpr fun c hc y=>by
     rw[List.any_eq_true.mpr ⟨c,hc,y⟩]at z
     cases z
    rw[this]
    rfl
  rw[e]at fin
  exact fin
 | some r=>
  obtain⟨a0,rfl,ha0⟩:PrR H tv r:=ht0
  have ha3:=s13 _ _ ha0
  refine⟨_,rfl,rfl,_,rfl,iteF ?_⟩
  exists _,rfl,a0,_,_,_,rfl,rfl,SqT.of ha3,rfl
  have eU:upF n cs (some r)=(decide (n<r.1)&&(decide (0<r.2)&&(decide (q33 r.1 cs=some r.2)&&!(cs.any fun c=>abvC n c&&decide (c.1<r.1))))):=rfl
  have fin3:=q H3 s13
  exists _,rfl,_,rfl,_,_,rfl,rfl,_,rfl
  by_cases c1:r.1<=n
  ·refine ite2 (fun _=>?_) (na c1)
   refine ite2 (fun _=>?_) nr
   rw[eU,ZK (show ¬ n<r.1 by lia),WR]at fin3
   exact fin3
  refine ite2 (ny c1) (fun _=>?_)
  exists _,rfl,a0,_,_,_,rfl,rfl,SqT.of ha3,rfl,_,_,rfl,rfl,_,rfl
  by_cases c2:r.2<=0
  ·refine ite2 (fun _=>?_) (na c2)
   refine ite2 (fun _=>?_) nr
   rw[eU,ZK (show ¬ 0<r.2 by lia),WR,WJ]at fin3
   exact fin3
  refine ite2 (ny c2) (fun _=>?_)
  rw[ZA (show n<r.1 by lia),ZA (show 0<r.2 by lia),Bool.true_and,Bool.true_and]at eU
  have hz3:Paired (q68 K H3) zs cs:=L2.Paired.mapP hz fun _ _ z=>q589 (.same s3) z
  refine⟨_,rfl,_,rfl,D,zs,cs,r.1,rfl,s3 _ _ hD,hz3,hcl9,fun H4 s4=>?_⟩
  have s14:=s13.trans s4
  have ha4:=s14 _ _ ha0
  exists _,rfl,a0,_,_,_,rfl,rfl,SqT.of ha4,rfl
  by_cases ha:q33 r.1 cs=some r.2
  ·rw[ha,ZA rfl,Bool.true_and]at eU
   rw[ha]
   exists rfl,_,rfl
   refine ite2 (fun z=>absurd z (by rw[show optI (some r.2)=V.int r.2 from rfl,ZA (show V.int r.2=V.int r.2 from rfl)];exact fnt)) (fun _=>?_)
   have eD4:=s4 _ _ eD3
   have e34:Paired (q68 K H4) ys (cs.filter (abvC n)):=L2.Paired.mapP e3 fun _ _ z=>q589 (.same (s3.trans s4)) z
   refine⟨_,rfl,D3,rfl,⟨_,SqL.of eD4⟩,fun D5 hD5=>?_⟩
   refine q237 (xs:=ys) (szB ∅) (fun j us G=>G=upd H4 D5 (.lst us)/\us.length<=j/\us=(((cs.filter (abvC n)).take j).map fun c=>decide (r.1<=c.1)).map V.bl) ⟨rfl,ZG _,rfl⟩ (fun j us G ⟨e,_⟩=>by rw[e];exact SqL.of (q15 hD5 _ _ _ eD4)) (fun j us G ⟨e,h2,_⟩=>⟨by rw[e];exact q13,h2⟩) ?_ ?_
   ·rintro j z us G hzj ⟨rfl,e2',e3'⟩
    obtain⟨c,gc,ta,rfl,hta⟩:=q108 e34 hzj
    intro vs3 hvs3
    match vs3,hvs3 with
    | [x0,x1,x2],_=>
     refine⟨ta,_,rfl,(q15 hD5 _).seqT hta,rfl,_,_,rfl,_,_,rfl,_,_,rfl,rfl,⟨[_,_,_],rfl,rfl⟩,iteT ?_⟩
     exists _,rfl,_,rfl,_,_,rfl,rfl,q13,by rw[q84],by rw[ZV];exact Nat.succ_le_succ e2'
     rw[WU,gc,WQ,WQ,<- e3']
     rfl
   ·rintro us G ⟨rfl,e2',rfl⟩
    rw[hyl,YD]
    have s5:=q15 hD5 (.lst (((cs.filter (abvC n)).map fun c=>decide (r.1<=c.1)).map V.bl))
    exists D5,_,rfl,SqL.of q13
    have fin:=q _ (s14.trans s5)
    have ee:(((cs.filter (abvC n)).map fun c=>decide (r.1<=c.1)).all id) = !(cs.any fun c=>abvC n c&&decide (c.1<r.1)):=by
     cases z:cs.any fun c=>abvC n c&&decide (c.1<r.1) with
     | true=>
      obtain⟨c,hc,hab⟩:=List.any_eq_true.mp z
      rw[WL]at hab
      show _=false
      rw[all_eq_false]
      exact⟨_,List.mem_map.mpr ⟨c,List.mem_filter.mpr ⟨hc,hab.1⟩,rfl⟩,by
       have:=ZH hab.2
       show ¬ decide (r.1<=c.1)=true
       rw[ZK ∅]
       exact fnt⟩
     | false=>
      show _=true
      rw[all_eq_true]
      intro y hy
      obtain⟨c,hc,rfl⟩:=List.mem_map.mp hy
      obtain⟨hc1,hc2⟩:=List.mem_filter.mp hc
      by_cases y2:r.1<=c.1
      ·exact ZA y2
      ·rw[List.any_eq_true.mpr ⟨c,hc1,by rw[hc2,ZA (show c.1<r.1 by lia)];rfl⟩]at z
       cases z
    rw[eU,<- ee]at fin
    exact fin
  ·rw[ZK ha,WR]at eU
   have fin:=q H4 s14
   rw[eU]at fin
   cases hal:q33 r.1 cs with
   | none=>
    exists rfl,_,rfl
    exact ite2 (fun _=>fin) nr
   | some al=>
    exists rfl,_,rfl
    have hne:¬ V.int al=V.int r.2:=fun z=>ha (by rw[hal,V.int.inj z])
    exact ite2 (fun _=>fin) (fun z=>absurd (by rw[show optI (some al)=V.int al from rfl,ZK hne];rfl) z)
noncomputable def tbQ:List (Addr×Pos×Str):=[(284,⟨178,41,178,114⟩, "paper_below.<locals>.<lambda>"),(291,⟨181,41,181,99⟩, "paper_least.<locals>.<lambda>"),(298,⟨189,4,194,19⟩, "paper_most.<locals>.must_split"),(305,⟨198,41,198,94⟩, "paper_often.<locals>.<lambda>"),(312,⟨202,4,205,49⟩, "paper_up.<locals>.must_split")]
noncomputable def Tbs(H:Hp):Prop:=∀ q∈tbQ,Tab H q.1 q.2.1 q.2.2
def KpT(H H':Hp):Prop:=∀ a o,(∀ ps,o ≠ .tbl ps)->H a=some o->H' a=some o
theorem Tbs.same(t:Tbs H)(s:Same H H'):Tbs H':=fun q hq=>(t q hq).same s
theorem KpT.of(s:Same H H'):KpT H H':=fun a o _ e=>s a o e
theorem KpT.trans(a:KpT H H1)(b:KpT H1 H2):KpT H H2:=fun c o n e=>b c o n (a c o n e)
theorem KpT.tk(k:KpT H H'):TKeep H H':=fun _ _=>⟨fun h=>k _ _ (by intro _ z;cases z) h,fun _ h=>k _ _ (by intro _ z;cases z) h⟩
theorem KpT.l(k:KpT H H')(h:H a=some (.lst xs)):H' a=some (.lst xs):=k _ _ (by intro _ z;cases z) h
theorem KpT.t(k:KpT H H')(h:H a=some (.tup xs)):H' a=some (.tup xs):=k _ _ (by intro _ z;cases z) h
theorem tb_one:∀ q∈tbQ,∀ q'∈tbQ,q.1=q'.1->q=q':=by decide +kernel
theorem Tbs.step{q0:Addr×Pos×Str}(h0:q0∈tbQ)(t:Tbs H)(kp:∀ b o,b≠q0.1->H b=some o->H1 b=some o)(h1:Tab H1 q0.1 q0.2.1 q0.2.2)(s:Same H1 H3):KpT H H3/\Tbs H3:=by
 obtain⟨ps0,e0,_⟩:=t q0 h0
 have k1:∀ a o,(∀ ps,o ≠ .tbl ps)->H a=some o->H1 a=some o:=fun a o n e=>kp a o (fun z=>by
  subst z
  rw[e0]at e;cases e;exact n _ rfl) e
 refine⟨fun a o n e=>s _ _ (k1 a o n e),fun q hq=>?_⟩
 by_cases c:q.1=q0.1
 ·rw[tb_one q hq q0 h0 c]
  exact h1.same s
 ·obtain⟨ps,e,h2,h3⟩:=t q hq
  refine Tab.same ⟨ps,kp _ _ c e,h2,?_⟩ s
  rcases h3 with h | ⟨c',oc,vs,tq,a,b,d⟩
  ·exact .inl h
  ·exact .inr ⟨c',oc,vs,tq,a,k1 _ _ (by intro _ z;cases z) b,d⟩
noncomputable def psB(num:Int):List Int->Bool
 | [a,b,c]=>decide (0<c)&&(decide (a<num)&&decide (num<=b))
 | _=>false
noncomputable def psL(wo:Int):List Int->Bool
 | [a,b,_]=>decide (a<=wo)&&decide (wo<=b)
 | _=>false
noncomputable def psM(wo m:Int):List Int->Bool
 | [a,b,c]=>if b<wo then decide (m<=c)else if wo<a then decide (m<c)else true
 | _=>false
noncomputable def psO(part W:Int):List Int->Bool
 | [_,_,c]=>decide (W<c*part)
 | _=>false
noncomputable def psU(n:Int)(f:Option P2):List Int->Bool
 | [a,b,c]=>if c=0\/b<=n then false else match f with
  | none=>true
  | some q=>decide (a<=q.1)
 | _=>false
structure Gth(K:Fg)(H:Hp)(b ga:Addr)(xs:List V)(low:Int)(L:Nat)(gs:List G3):Prop where
 b:H b=some (.tup [.int low,.int (L:Int)])
 le:L<=40
 g:H ga=some (.lst xs)
 at_:GatAt H L xs gs
 gd:∀ g∈gs,GoodS L g
 ln:gs.length<=100
 few:(Wh gs).length<=900
 tb:Tbs H
theorem Gth.kp{K:Fg}{H H':Hp}{b ga:Addr}{xs:List V}{low:Int}{L:Nat}{gs:List G3}(g:Gth K H b ga xs low L gs)(k:KpT H H')(t:Tbs H'):Gth K H' b ga xs low L gs:=⟨k.t g.b,g.le,k.l g.g,g.at_.tk k.tk,g.gd,g.ln,g.few,t⟩
noncomputable def ToldP(low:Int)(L:Nat)(gs:List G3)(ψ:List Int->Bool)(H:Hp)(Q:VK):Prop:=∀(H':Hp)(v:V),KpT H H'->Tbs H'->PpAt H' v (papF (f3 ψ) L low (Wh gs))->Q v H'
inductive q182(K:Fg)(vs:List V)(H:Hp)(Q:VK)(E:XK):Prop
 |mk(b ga:Addr)(xs:List V)(low num:Int)(L:Nat)(gs:List G3)(_:vs=[.ref b,.ref ga,.int num])(_:Gth K H b ga xs low L gs)(_:ToldP low L gs (psB num) H Q)
inductive q183(K:Fg)(vs:List V)(H:Hp)(Q:VK)(E:XK):Prop
 |mk(b ga:Addr)(xs:List V)(low part:Int)(L:Nat)(gs:List G3)(_:vs=[.ref b,.ref ga,.int part])(_:Gth K H b ga xs low L gs)(_:0<=part)(_:part<=1000)(_:ToldP low L gs (psO part ((Wh gs).length:Nat)) H Q)
inductive q326(K:Fg)(vs:List V)(H:Hp)(Q:VK)(E:XK):Prop
 |mk(b ga:Addr)(xs:List V)(low num:Int)(L:Nat)(gs:List G3)(_:vs=[.ref b,.ref ga,.int num])(_:Gth K H b ga xs low L gs)(_:ToldP low L gs (psU num ((stp L low (Wh gs)).find? fun q=>decide (num<q.1))) H Q)
inductive q151(K:Fg)(cN:Addr)(vs:List V)(H:Hp)(Q:VK)(E:XK):Prop
 |mk(b ga:Addr)(xs:List V)(low k:Int)(L:Nat)(gs:List G3)(_:vs=[.ref b,.ref ga,.int k])(_:Gth K H b ga xs low L gs)(_:(∀ kn:Nat,k=(kn:Int)->kn<(Wh gs).length->ToldP low L gs (psL (low+kth L (Wh gs) kn)) H Q))(_:(∀ H',Same H H'->(k<0\/((Wh gs).length:Nat)<=k)->E (.ref cN) none H'))
inductive q184(K:Fg)(cN:Addr)(vs:List V)(H:Hp)(Q:VK)(E:XK):Prop
 |mk(b ga:Addr)(xs:List V)(low:Int)(L:Nat)(gs:List G3)(_:vs=[.ref b,.ref ga])(_:Gth K H b ga xs low L gs)(_:(∀ wo m,bst (caF 1 0 L low (Wh gs))=some (wo,m)->ToldP low L gs (psM wo m) H Q))(_:(∀ H',Same H H'->bst (caF 1 0 L low (Wh gs))=none->E (.ref cN) none H'))
theorem q359:z.C P w 47 "paper_below" pn1 (q182 K):=by
 have sc:=q339
 refine z.d_paper_below.cal sc (fun vs H Q E h=>?_) (fun f A outer s H vs Q E hr h=>?_)
 ·obtain⟨b,ga,xs,low,num,L,gs,rfl,_⟩:=h
  rfl
 obtain⟨b,ga,xs,low,num,L,gs,rfl,g,q⟩:=h
 exists _,(q16 (q19 (q463 (cl:=[("number", s.heap.objs.size+1)]) (is:=[2]) (q66 z) hr.m () ⟨⟨rfl,rfl,rfl,rfl⟩,trivial⟩ (q10 (pv 0) (q10 (pv 1) (q10 (q708 rfl z.d_paper_below.hd z.bmn rfl rfl rfl) q12))))))
 refine⟨_,rfl,_,rfl,g.tb _ (.head _),fun fa c oc vs tq pm ctv H1 hfn hf hc hd hv hT1 kp=>⟨[.int num],rfl,fun H2 s2 hcells=>?_⟩⟩
 have k1:=(g.tb.step (.head _) kp hT1 (Same.refl _))
 have g2:=(g.kp k1.1 k1.2).kp (.of s2) (k1.2.same s2)
 refine⟨b,ga,fa,xs,low,L,gs,fun ns=>∃ a b c:Int,ns=[a,b,c],psB num,rfl,SqT.of g2.b,g2.le,SqL.of g2.g,g2.at_,g2.gd,g2.ln,g2.few,q706 _ (.nil _) (ps:=["least", "greatest", "things"]) (ys:=["number"]) lsc rfl (by simp) (s2 _ _ hf) (s2 _ _ hc) hd hv hcells (mt3 fun _ _ _=>rfl) (fun ns ⟨a,b,c,e⟩=>by rw[e];rfl) ?_,fun a b c _ _=>⟨a,b,c,rfl⟩,fun H' v s' hp H3 bk=>?_⟩
 ·intro P w mg base A outer s
  exists _,q166 (q41 op_gt (pv 2) q14 (q20 _)) (q256 (q396 op_lt op_le (pv 0) (pv 3) (pv 1)))
  rintro ns ⟨a,b,c,rfl⟩
  exists _,rfl,_,_,rfl,rfl,_,rfl
  refine ite2 (fun h=>?_) (fun h=>?_)
  ·exists _,rfl,_,rfl,_,_,rfl,rfl,_,rfl
   refine ite2 (fun h'=>⟨_,rfl,_,_,rfl,rfl,?_⟩) (fun h'=>?_)
   ·show V.bl _=V.bl (decide (0<c)&&(decide (a<num)&&decide (num<=b)))
    rw[show decide (0<c)=true from h,show decide (a<num)=true from h',Bool.true_and,Bool.true_and]
   ·show V.bl _=V.bl (decide (0<c)&&(decide (a<num)&&decide (num<=b)))
    rw[show decide (a<num)=false from Bool.eq_false_iff.mpr h',WR,WJ]
  ·show V.bl _=V.bl (decide (0<c)&&(decide (a<num)&&decide (num<=b)))
   rw[show decide (0<c)=false from Bool.eq_false_iff.mpr h,WR]
 ·have s13:Same H1 H3:=fun b o e=>bk _ _ (s' _ _ (s2 _ _ e)) (.inl (by rw[e];simp))
  have k3:=g.tb.step (.head _) kp hT1 s13
  exact q H3 v k3.1 k3.2 (hp.tp fun b xs e=>bk _ _ e (.inr (by intro _ _ z;cases z)))
theorem q360:z.C P w 47 "paper_often" ["bounds", "gathering", "part"] (q183 K):=by
 have sc:=q341
 refine z.d_paper_often.cal sc (fun vs H Q E h=>?_) (fun f A outer s H vs Q E hr h=>?_)
 ·obtain⟨b,ga,xs,low,part,L,gs,rfl,_⟩:=h
  rfl
 obtain⟨b,ga,xs,low,part,L,gs,rfl,g,p0,p1,q⟩:=h
 refine⟨_,(q11 (pst 3 sc.nd (pe_fn (q38 z) hr.m () (q10 (pv 1) q12)))
 (q16 (q19 (q463 (cl:=[("whole", s.heap.objs.size+2),("part", s.heap.objs.size+1)]) (is:=[3,2]) (q66 z) hr.m () ⟨⟨rfl,rfl,rfl,rfl⟩,⟨rfl,rfl,rfl,rfl⟩,trivial⟩ (q10 (pv 0) (q10 (pv 1) (q10 (q708 rfl z.d_paper_often.hd z.bmn rfl rfl rfl) q12))))))),?_⟩
 refine⟨_,rfl,ga,xs,L,gs,rfl,SqL.of g.g,g.at_,ZR g.ln {},fun H0 s0=>?_⟩
 have hm:(305,⟨198,41,198,94⟩,("paper_often.<locals>.<lambda>" : Str))∈tbQ:=by decide +kernel
 have g0:=g.kp (.of s0) (g.tb.same s0)
 rw[q101 g.gd]
 refine⟨_,rfl,_,rfl,g0.tb _ hm,fun fa c oc vs tq pm ctv H1 hfn hf hc hd hv hT1 kp=>⟨[.int ((Wh gs).length:Nat),.int part],rfl,fun H2 s2 hcells=>?_⟩⟩
 have k1:=(g0.tb.step hm kp hT1 (Same.refl _))
 have g2:=(g0.kp k1.1 k1.2).kp (.of s2) (k1.2.same s2)
 refine⟨b,ga,fa,xs,low,L,gs,fun ns=>∃ a b c:Int,ns=[a,b,c]/\0<=c/\c<=1000,psO part ((Wh gs).length:Nat),rfl,SqT.of g2.b,g2.le,SqL.of g2.g,g2.at_,g2.gd,g2.ln,g2.few,q706 _ (.nil _) (ps:=["least", "greatest", "things"]) (ys:=["whole", "part"]) lsc rfl (by simp) (s2 _ _ hf) (s2 _ _ hc) hd hv hcells (mt3 fun _ _ _=>rfl) (fun ns ⟨a,b,c,e,_⟩=>by rw[e];rfl) ?_,fun a b c h0 h1=>⟨a,b,c,rfl,h0,h1⟩,fun H' v s' hp H3 bk=>?_⟩
 ·intro P w mg base A outer s
  exists _,q41 op_gt (pe_op q105 (pv 2) (pv 4)) (pv 3) (q20 _)
  rintro ns ⟨a,b,c,rfl,c0,c1⟩
  exact⟨_,rfl,_,rfl,_,_,rfl,rfl,.inl ⟨∅,∅⟩,_,rfl,_,_,rfl,rfl,rfl⟩
 ·have s13:Same H1 H3:=fun b o e=>bk _ _ (s' _ _ (s2 _ _ e)) (.inl (by rw[e];simp))
  have k3:=g0.tb.step hm kp hT1 s13
  exact q H3 v ((KpT.of s0).trans k3.1) k3.2 (hp.tp fun b xs e=>bk _ _ e (.inr (by intro _ _ z;cases z)))
theorem q327(z:Bz K mg base uA uB uI uF uC uE uD):CalX P w K mg base 47 "paper_least" ["bounds", "gathering", "k"] (q151 K uC):=by
 have sc:=q340
 refine z.d_paper_least.calx sc (fun vs H Q E h=>?_) (fun f A outer s H vs Q E hr h=>?_)
 ·obtain⟨b,ga,xs,low,k,L,gs,rfl,_⟩:=h
  rfl
 obtain⟨b,ga,xs,low,k,L,gs,rfl,g,q,qE⟩:=h
 refine⟨_,(q11 (pst 3 sc.nd (pix q26 (q699 lv_of (q424 z) hr.m () (q10 (pv 0) (q10 (pv 1) (q10 (pv 2) q12)))) q14))
 (q16 (q19 (q463 (cl:=[("worth", s.heap.objs.size+1)]) (is:=[3]) (q66 z) hr.m () ⟨⟨rfl,rfl,rfl,rfl⟩,trivial⟩ (q10 (pv 0) (q10 (pv 1) (q10 (q708 rfl z.d_paper_least.hd z.bmn rfl rfl rfl) q12))))))),?_⟩
 refine⟨_,rfl,_,rfl,_,rfl,b,ga,xs,low,L,k,gs,rfl,SqT.of g.b,g.le,g.g,g.at_,g.gd,g.ln,g.few,fun kn ek hk pa j pl H0 s0 hpa _=>?_,fun H' s' z=>qE H' s' z⟩
 have hm:(291,⟨181,41,181,99⟩,("paper_least.<locals>.<lambda>" : Str))∈tbQ:=by decide +kernel
 have g0:=g.kp (.of s0) (g.tb.same s0)
 refine⟨pa,_,_,_,rfl,rfl,SqT.of hpa,rfl,_,rfl,_,rfl,g0.tb _ hm,fun fa c oc vs tq pm ctv H1 hfn hf hc hd hv hT1 kp=>⟨[.int (low+kth L (Wh gs) kn)],rfl,fun H2 s2 hcells=>?_⟩⟩
 have k1:=(g0.tb.step hm kp hT1 (Same.refl _))
 have g2:=(g0.kp k1.1 k1.2).kp (.of s2) (k1.2.same s2)
 refine⟨b,ga,fa,xs,low,L,gs,fun ns=>∃ a b c:Int,ns=[a,b,c],psL (low+kth L (Wh gs) kn),rfl,SqT.of g2.b,g2.le,SqL.of g2.g,g2.at_,g2.gd,g2.ln,g2.few,q706 _ (.nil _) (ps:=["least", "greatest", "things"]) (ys:=["worth"]) lsc rfl (by simp) (s2 _ _ hf) (s2 _ _ hc) hd hv hcells (mt3 fun _ _ _=>rfl) (fun ns ⟨a,b,c,e⟩=>by rw[e];rfl) ?_,fun a b c h0 h1=>⟨a,b,c,rfl⟩,fun H' v s' hp H3 bk=>?_⟩
 ·intro P w mg base A outer s
  exists _,q396 op_le op_le (pv 0) (pv 3) (pv 1)
  rintro ns ⟨a,b,c,rfl⟩
  generalize low+kth L (Wh gs) kn=wo at *
  exists _,rfl,_,rfl,_,_,rfl,rfl,_,rfl
  refine ite2 (fun h=>⟨_,rfl,_,_,rfl,rfl,?_⟩) (fun h=>?_)
  ·show V.bl _=V.bl (decide (a<=wo)&&decide (wo<=b))
   rw[show decide (a<=wo)=true from h,Bool.true_and]
  ·show V.bl _=V.bl (decide (a<=wo)&&decide (wo<=b))
   rw[show decide (a<=wo)=false from Bool.eq_false_iff.mpr h,WR]
 ·have s13:Same H1 H3:=fun b o e=>bk _ _ (s' _ _ (s2 _ _ e)) (.inl (by rw[e];simp))
  have k3:=g0.tb.step hm kp hT1 s13
  exact q kn ek hk H3 v ((KpT.of s0).trans k3.1) k3.2 (hp.tp fun b xs e=>bk _ _ e (.inr (by intro _ _ z;cases z)))
theorem q361(z:Bz K mg base uA uB uI uF uC uE uD):CalX P w K mg base 47 "paper_most" ["bounds", "gathering"] (q184 K uC):=by
 have sc:=q413
 refine z.d_paper_most.calx sc (fun vs H Q E h=>?_) (fun f A outer s H vs Q E hr h=>?_)
 ·obtain⟨b,ga,xs,low,L,gs,rfl,_⟩:=h
  rfl
 obtain⟨b,ga,xs,low,L,gs,rfl,g,q,qE⟩:=h
 refine⟨_,(q11 (pst 2 sc.nd (pe_fn (ok_most z) hr.m () (q10 (pv 0) (q10 (pv 1) q12))))
 (q11 (ps_if (q18 q291 (pv 2) q95 (q20 _))
 (q16 (q452 lv_of z.m_NoSuch z.own_NoSuch () (q10 q34 q12)))
 q21)
 (q11 (pst 3 sc.nd (pix q26 (pv 2) q14))
 (q11 (pst 4 sc.nd (pix q26 (pv 2) q14))
 (q11 (q709 (i:=5) rfl z.d_paper_most.hd z.bmn rfl rfl rfl rfl rfl sc.nd rfl (Or.inl rfl) (.inr rfl))
 (q16 (q19 (q463 (cl:=[("worth", s.heap.objs.size+2),("many", s.heap.objs.size+1)]) (is:=[3,4]) (q66 z) hr.m () ⟨⟨rfl,rfl,rfl,rfl⟩,⟨rfl,rfl,rfl,rfl⟩,trivial⟩ (q10 (pv 0) (q10 (pv 1) (q10 (pv 5) q12))))))))))),?_⟩
 refine⟨_,rfl,_,rfl,b,ga,xs,low,L,gs,rfl,SqT.of g.b,g.le,SqL.of g.g,g.at_,g.gd,g.ln,g.few,fun H0 v0 s0 hv0=>?_⟩
 cases hbs:bst (caF 1 0 L low (Wh gs)) with
 | none=>
  rw[hbs]at hv0
  cases(show v0 = .non from hv0)
  refine⟨_,rfl,rfl,_,rfl,iteT ?_⟩
  exact⟨szb rfl,qE _ s0 hbs⟩
 | some p=>
  rw[hbs]at hv0
  obtain⟨a0,rfl,ha0⟩:PsR H0 v0 p:=hv0
  obtain⟨wo,m⟩:=p
  refine⟨_,rfl,rfl,_,rfl,iteF ?_⟩
  have hm:(298,⟨189,4,194,19⟩,("paper_most.<locals>.must_split" : Str))∈tbQ:=by decide +kernel
  have g0:=g.kp (.of s0) (g.tb.same s0)
  exists _,rfl,a0,_,_,_,rfl,rfl,SqT.of ha0,rfl
  exists _,rfl,a0,_,_,_,rfl,rfl,SqT.of ha0,rfl
  refine⟨g0.tb _ hm,fun fa c oc vs tq doc pm ctv H1 hfn hf hc hd hv hT1 kp=>?_⟩
  have k1:=(g0.tb.step hm kp hT1 (Same.refl _))
  refine⟨_,rfl,_,rfl,_,rfl,[.int wo,.int m],rfl,fun H2 s2 hcells=>?_⟩
  have g2:=(g0.kp k1.1 k1.2).kp (.of s2) (k1.2.same s2)
  refine⟨b,ga,fa,xs,low,L,gs,fun ns=>∃ a b c:Int,ns=[a,b,c],psM wo m,rfl,SqT.of g2.b,g2.le,SqL.of g2.g,g2.at_,g2.gd,g2.ln,g2.few,q707 _ (.nil _) (ps:=["least", "greatest", "things"]) (ys:=["worth", "many"]) lsc rfl (by simp) (s2 _ _ hf) (s2 _ _ hc) hd hv hcells (mt3 fun _ _ _=>rfl) (fun ns ⟨a,b,c,e⟩=>by rw[e];rfl) ?_,fun a b c h0 h1=>⟨a,b,c,rfl⟩,fun H' v s' hp H3 bk=>?_⟩
  ·intro P w mg base A outer s
   exists _,q11 (ps_if (q18 op_lt (pv 1) (pv 3) (q20 _)) (q16 (q19 (q41 op_ge (pv 2) (pv 4) (q20 _)))) q21) (q11 (ps_if (q18 op_gt (pv 0) (pv 3) (q20 _)) (q16 (q19 (q41 op_gt (pv 2) (pv 4) (q20 _)))) q21) (q16 (q19 pe_bl)))
   rintro ns ⟨a,b,c,rfl⟩
   refine⟨_,rfl,_,rfl,_,_,rfl,rfl,_,rfl,ite2 (fun h=>?_) (fun h=>?_)⟩
   ·exists _,rfl,_,rfl,_,_,rfl,rfl
    show V.bl _=V.bl (if b<wo then decide (m<=c)else _)
    rw[ZJ (ZH h)]
   refine⟨_,rfl,_,rfl,_,_,rfl,rfl,_,rfl,ite2 (fun h'=>?_) (fun h'=>?_)⟩
   ·exists _,rfl,_,rfl,_,_,rfl,rfl
    show V.bl _=V.bl (if b<wo then _ else if wo<a then _ else true)
    rw[ZI fun z=>h (ZA z),ZJ (ZH h')]
   ·show V.bl _=V.bl (if b<wo then _ else if wo<a then _ else true)
    rw[ZI fun z=>h (ZA z),ZI fun z=>h' (ZA z)]
  ·have s13:Same H1 H3:=fun b o e=>bk _ _ (s' _ _ (s2 _ _ e)) (.inl (by rw[e];simp))
   have k3:=g0.tb.step hm kp hT1 s13
   exact q wo m hbs H3 v ((KpT.of s0).trans k3.1) k3.2 (hp.tp fun b xs e=>bk _ _ e (.inr (by intro _ _ z;cases z)))
theorem q538:z.C P w 47 "paper_up" pn1 (q326 K):=by
 have sc:=q522
 refine z.d_paper_up.cal sc (fun vs H Q E h=>?_) (fun f A outer s H vs Q E hr h=>?_)
 ·obtain⟨b,ga,xs,low,num,L,gs,rfl,_⟩:=h
  rfl
 obtain⟨b,ga,xs,low,num,L,gs,rfl,g,q⟩:=h
 refine⟨_,(q11 (pst 3 sc.nd (pe_fn (q636 z) hr.m () (q10 (pv 0) (q10 (pv 1) (q10 (pv 2) q12)))))
 (q11 (q709 (i:=4) rfl z.d_paper_up.hd z.bmn rfl rfl rfl rfl rfl sc.nd rfl (Or.inl rfl) (.inr rfl))
 (q16 (q19 (q463 (cl:=[("number", s.heap.objs.size+1),("found", s.heap.objs.size+2)]) (is:=[2,3]) (q66 z) hr.m () ⟨⟨rfl,rfl,rfl,rfl⟩,⟨rfl,rfl,rfl,rfl⟩,trivial⟩ (q10 (pv 0) (q10 (pv 1) (q10 (pv 4) q12)))))))),?_⟩
 refine⟨_,rfl,_,rfl,_,rfl,b,ga,xs,low,num,L,gs,rfl,SqT.of g.b,g.le,g.g,g.at_,g.gd,g.ln,g.few,fun v0 H0 s0 hv0=>?_⟩
 have hm:(312,⟨202,4,205,49⟩,("paper_up.<locals>.must_split" : Str))∈tbQ:=by decide +kernel
 have g0:=g.kp (.of s0) (g.tb.same s0)
 generalize (stp L low (Wh gs)).find? (fun q=>decide (num<q.1))=fo at *
 refine⟨g0.tb _ hm,fun fa c oc vs tq doc pm ctv H1 hfn hf hc hd hv hT1 kp=>?_⟩
 have k1:=(g0.tb.step hm kp hT1 (Same.refl _))
 refine⟨_,rfl,_,rfl,_,rfl,[.int num,v0],rfl,fun H2 s2 hcells=>?_⟩
 have g2:=(g0.kp k1.1 k1.2).kp (.of s2) (k1.2.same s2)
 obtain⟨H9,tp,hfo⟩:∃ H9:Hp,Tps H9 H2/\NxV H9 v0 fo:=by
  cases fo with
  | none=>exact⟨_,.nil _,hv0⟩
  | some p=>
   obtain⟨a0,rfl,ha0⟩:PsR H0 v0 p:=hv0
   refine⟨fun x=>if x=a0 then some (.tup [.int p.1,.int p.2])else none,fun x o e=>?_,a0,rfl,ZJ rfl⟩
   by_cases c:x=a0
   ·have e':=(ZJ c).symm.trans e
    cases e'
    rw[c]
    exact⟨s2 _ _ (k1.1.t ha0),_,rfl⟩
   ·cases(ZI c).symm.trans e
 refine⟨b,ga,fa,xs,low,L,gs,fun ns=>∃ a b c:Int,ns=[a,b,c],psU num fo,rfl,SqT.of g2.b,g2.le,SqL.of g2.g,g2.at_,g2.gd,g2.ln,g2.few,q707 H9 tp (ps:=["least", "greatest", "things"]) (ys:=["number", "found"]) lsc rfl (by simp) (s2 _ _ hf) (s2 _ _ hc) hd hv hcells (mt3 fun _ _ _=>rfl) (fun ns ⟨a,b,c,e⟩=>by rw[e];rfl) ?_,fun a b c h0 h1=>⟨a,b,c,rfl⟩,fun H' v s' hp H3 bk=>?_⟩
 ·intro P w mg base A outer s
  exists _,q11 (ps_if (PW.pt (pw_or (q18 op_eq (pv 2) q14 (q20 _)) (q115 (q18 op_le (pv 1) (pv 3) (q20 _))))) (q16 (q19 pe_bl)) q21) (q16 (q19 (pe_or (q41 q291 (pv 4) q95 (q20 _)) (q256 (q41 op_le (pv 0) (pe_ix (q69 (K:=K) rfl) (pv 4) q14 (fun _ _=>rfl)) (q20 _))))))
  rintro ns ⟨a,b,c',rfl⟩
  refine⟨_,rfl,rfl,_,rfl,ite2 (fun h=>?_) (fun h=>?_)⟩
  ·refine ite2 (fun _=>?_) nr
   show V.bl _=V.bl (if c'=0\/b<=num then false else _)
   rw[ZJ (.inl (V.int.inj (ZH h)))]
  ·have h0:¬ c'=0:=fun z=>h (ZA (congrArg V.int z))
   refine⟨_,rfl,_,rfl,_,_,rfl,rfl,_,rfl,ite2 (fun h'=>?_) (fun h'=>?_)⟩
   ·show V.bl _=V.bl (if c'=0\/b<=num then false else _)
    rw[ZJ (.inr (ZH h'))]
   ·have e:∀ x:Bool,(if c'=0\/b<=num then false else x)=x:=fun x=>ZI fun z=>z.elim h0 fun z=>h' (ZA z)
    cases fo with
    | none=>
     cases(show v0 = .non from hfo)
     refine⟨_,rfl,rfl,_,rfl,iteT ?_⟩
     show V.bl _=V.bl (if c'=0\/b<=num then false else true)
     rw[e]
    | some p=>
     obtain⟨a0,rfl,ha0⟩:PsR H9 v0 p:=hfo
     refine⟨_,rfl,rfl,_,rfl,iteF ?_⟩
     exists _,rfl,_,rfl,a0,_,_,_,rfl,rfl,SqT.of ha0,rfl,_,_,rfl,rfl
     show V.bl _=V.bl (if c'=0\/b<=num then false else decide (a<=p.1))
     rw[e]
 ·have s13:Same H1 H3:=fun b o e=>bk _ _ (s' _ _ (s2 _ _ e)) (.inl (by rw[e];simp))
  have k3:=g0.tb.step hm kp hT1 s13
  exact q H3 v ((KpT.of s0).trans k3.1) k3.2 (hp.tp fun b xs e=>bk _ _ e (.inr (by intro _ _ z;cases z)))
theorem q389{e:Nat}{w:Int}{us:List Int}(h:us.Perm vs):(halfO e w us).Perm (halfO e w vs):=(h.filter _).map _
theorem q746{L:Nat}{low:Int}{us:List TS.I3}(hgd:∀ g∈gs,GoodS L g)(h:us.Perm (thG low 0 gs)):(offs low (us.map (·.1))).Perm (Wh gs)/\Wths low L (us.map (·.1)):=by
 have h1:(us.map (·.1)).Perm ((Wh gs).map fun o=>low+o):=by
  rw[<- q740 0 gs hgd]
  exact h.map _
 refine⟨?_,fun n hn=>?_⟩
 ·have h2:((us.map (·.1)).map fun n=>n-low).Perm (((Wh gs).map fun o=>low+o).map fun n=>n-low):=h1.map _
  have e:(((Wh gs).map fun o=>low+o).map fun n=>n-low)=Wh gs:=by
   rw[map_map,show((fun n:Int=>n-low)∘fun o=>low+o)=id from funext fun o=>by show low+o-low=o;lia,map_id]
  rw[e]at h2
  exact h2
 ·obtain⟨o,ho,rfl⟩:=List.mem_map.mp (h1.mem_iff.mp hn)
  have:=W_in hgd o ho
  lia
theorem q504(q:Int->Bool)(m:Int):∀ ns:List Int,(ns.filter q).length=((ns.filter fun n=>decide (n<m)).filter q).length+((ns.filter fun n=>decide (m<=n)).filter q).length
 | []=>rfl
 | n::ns=>by
  have ih:=q504 q m ns
  by_cases c:n<m
  ·have c2:¬ m<=n:=∅
   rw[YI (p:=fun n=>decide (n<m)),ZJ (ZA c),YI (p:=fun n=>decide (m<=n)),ZI (by rw[ZK c2];exact fnt)]
   by_cases c3:q n=true
   ·rw[filter_cons_of_pos c3,filter_cons_of_pos c3,WZ,WZ]
    lia
   ·rw[filter_cons_of_neg c3,filter_cons_of_neg c3]
    exact ih
  ·have c2:m<=n:=∅
   rw[YI (p:=fun n=>decide (n<m)),ZI (by rw[ZK c];exact fnt),YI (p:=fun n=>decide (m<=n)),ZJ (ZA c2)]
   by_cases c3:q n=true
   ·rw[filter_cons_of_pos c3,filter_cons_of_pos c3,WZ,WZ]
    lia
   ·rw[filter_cons_of_neg c3,filter_cons_of_neg c3]
    exact ih
theorem q132{num:Int}:∀{e:Nat}{low:Int}{ns:List Int}{p:Pp},Wths low e ns->q43 e (offs low ns) p->(q25 e low p).any (badC num)=false->sumB num (q25 e low p)=((ns.filter fun n=>decide (n<num)).length:Int)
 | e,low,ns,.all n,hw,hd,hb=>by
  have hn:n=(ns.length:Int):=by
   have:=q323 hd
   rw[ZN]at this
   exact this
  have hp:=p2pos e
  rw[q122]at hb ⊢
  have hb':badC num (low,low+2^e-1,n)=false:=by
   have:(badC num (low,low+2^e-1,n)||false)=false:=hb
   rwa [Bool.or_false]at this
  have es:sumB num [(low,low+2^e-1,n)]=(if low+2^e-1<num then n else 0)+0:=rfl
  rw[es,Int.add_zero]
  by_cases c1:low+2^e-1<num
  ·rw[ZJ c1,List.filter_eq_self.mpr fun x hx=>ZA (by have:=hw x hx;lia)]
   exact hn
  ·rw[ZI c1]
   by_cases c2:low<num
   ·have c3:¬ 0<n:=fun z=>by
     have:badC num (low,low+2^e-1,n)=true:=by
      show(decide (0<n)&&(decide (low<num)&&decide (num<=low+2^e-1)))=true
      rw[ZA z,ZA c2,ZA ∅]
      rfl
     rw[hb']at this
     cases this
    have:ns=[]:=eq_nil_of_length_eq_zero ∅
    rw[this]
    rfl
   ·rw[List.filter_eq_nil_iff.mpr fun x hx z=>by have:=hw x hx;have:=ZH z;lia]
    rfl
 | 0,_,_,.split _ _ _,_,hd,_=>hd.elim
 | e+1,low,ns,.split n l r,hw,hd,hb=>by
  have hb':(q25 e low l++q25 e (low+2^e) r).any (badC num)=false:=hb
  rw[any_append,Bool.or_eq_false_iff]at hb'
  have h1:=hd.2.1
  have h2:=hd.2.2
  rw[q533 hw]at h1
  rw[q534 hw]at h2
  have i1:=q132 hw.loH h1 hb'.1
  have i2:=q132 hw.hiH h2 hb'.2
  show sumB num (q25 e low l++q25 e (low+2^e) r)=_
  have es:sumB num (q25 e low l++q25 e (low+2^e) r)=sumB num (q25 e low l)+sumB num (q25 e (low+2^e) r):=by
   unfold sumB
   rw[WQ,sum_append]
  rw[es,i1,i2,q504 (fun n=>decide (n<num)) (low+2^e) ns]
  lia
theorem q328{part tot:Int}:∀{lo hi:Int}{cs:List TS.I3}{ps:List P2},Chain lo cs hi->oftF part tot cs=some ps->ps.Pairwise (fun p q=>p.1<q.1)/\(∀ p∈ps,lo<=p.1) /\ ∀ p,p∈ps↔∃ c∈cs,c.1=p.1/\c.2.1=p.1/\c.2.2=p.2/\tot<c.2.2*part
 | _,_,[],ps,_,h=>by
  cases h
  exact⟨.nil,fun p hp=>absurd hp (by simp),fun p=>⟨fun z=>absurd z (by simp),fun⟨c,hc,_⟩=>absurd hc (by simp)⟩⟩
 | lo,_,c::cs,ps,hc,h=>by
  have e0:oftF part tot (c::cs)=if tot<c.2.2*part then(if c.1<c.2.1 then none else(oftF part tot cs).map fun l=>(c.1,c.2.2)::l)else oftF part tot cs:=rfl
  rw[e0]at h
  have h1:=hc.1
  have h2:=hc.2.1
  by_cases k:tot<c.2.2*part
  ·rw[ZJ k]at h
   by_cases k2:c.1<c.2.1
   ·rw[ZJ k2]at h;cases h
   ·rw[ZI k2]at h
    cases ho:oftF part tot cs with
    | none=>rw[ho]at h;cases h
    | some qs=>
     rw[ho]at h
     cases h
     obtain⟨i1,i2,i3⟩:=q328 hc.2.2 ho
     refine⟨List.pairwise_cons.mpr ⟨fun p hp=>?_,i1⟩,fun p hp=>?_,fun p=>?_⟩
     ·have:=i2 p hp
      show c.1<p.1
      lia
     ·rcases List.mem_cons.mp hp with z | z
      ·rw[z];show lo<=c.1;lia
      ·have:=i2 p z;lia
     ·constructor
      ·intro hp
       rcases List.mem_cons.mp hp with z | z
       ·rw[z]
        exact⟨c,WF,rfl,by show c.2.1=c.1;lia,rfl,k⟩
       ·obtain⟨c',hc',z'⟩:=(i3 p).mp z
        exact⟨c',ZZ _ hc',z'⟩
      ·rintro ⟨c',hc',z1,z2,z3,z4⟩
       rcases List.mem_cons.mp hc' with z | z
       ·subst z
        exact List.mem_cons.mpr (.inl (Prod.ext z1.symm z3.symm))
       ·exact ZZ _ ((i3 p).mpr ⟨c',z,z1,z2,z3,z4⟩)
  ·rw[ZI k]at h
   obtain⟨i1,i2,i3⟩:=q328 hc.2.2 h
   refine⟨i1,fun p hp=>by have:=i2 p hp;lia,fun p=>?_⟩
   rw[i3 p]
   constructor
   ·rintro ⟨c',hc',z⟩
    exact⟨c',ZZ _ hc',z⟩
   ·rintro ⟨c',hc',z1,z2,z3,z4⟩
    rcases List.mem_cons.mp hc' with z | z
    ·subst z;exact absurd z4 k
    ·exact⟨c',z,z1,z2,z3,z4⟩
theorem q286{part tot:Int}:∀{cs:List TS.I3},oftF part tot cs≠none -> ∀ c∈cs,tot<c.2.2*part -> ¬ c.1<c.2.1
 | [],_,c,hc,_=>absurd hc (by simp)
 | d::cs,h,c,hc,hk=>by
  have e0:oftF part tot (d::cs)=if tot<d.2.2*part then(if d.1<d.2.1 then none else(oftF part tot cs).map fun l=>(d.1,d.2.2)::l)else oftF part tot cs:=rfl
  rw[e0]at h
  by_cases k:tot<d.2.2*part
  ·rw[ZJ k]at h
   by_cases k2:d.1<d.2.1
   ·rw[ZJ k2]at h;exact absurd rfl h
   ·rw[ZI k2]at h
    rcases List.mem_cons.mp hc with z | z
    ·rw[z];exact k2
    ·exact q286 (fun y=>h (by rw[y];rfl)) c z hk
  ·rw[ZI k]at h
   rcases List.mem_cons.mp hc with z | z
   ·rw[z]at hk;exact absurd hk k
   ·exact q286 h c z hk
theorem q539{e:Nat}{low part tot:Int}{ms:List Int}(hw:Wths low e ws)(hd:q43 e (offs low ws) p)(hm:∀ x,x∈ms↔x∈ws)(hs:ms.Pairwise (·<·))(hp1:1<=part)(ht0:0<=tot)(h:ansF (oftF part tot (q25 e low p)) told=true):told=(withM ws ms).filter fun q=>decide (tot<q.2*part):=by
 have hch:=q83 (low:=low) (q57 hd)
 cases ho:oftF part tot (q25 e low p) with
 | none=>rw[ho]at h;cases h
 | some ps=>
  rw[ho]at h
  have hpt:ps=told:=ZH h
  subst hpt
  obtain⟨i1,_,i3⟩:=q328 hch ho
  have hno:=q286 (part:=part) (tot:=tot) (cs:=q25 e low p) (by rw[ho];exact fun z=>by cases z)
  refine q745 i1 ?_ fun q=>?_
  ·refine List.Pairwise.filter _ ?_
   unfold withM
   rw[pairwise_map]
   exact hs
  ·rw[i3 q,mem_filter]
   constructor
   ·rintro ⟨c,hc,c1,c2,c3,c4⟩
    have pc:=(q109 hw hd c hc).1
    rw[c1,c2,q427]at pc
    have hpos:0<c.2.2:=by
     refine Classical.byContradiction fun z=>?_
     have:c.2.2*part<=0*part:=Int.mul_le_mul_of_nonneg_right ∅ ∅
     lia
    exists List.mem_map.mpr ⟨q.1,(hm _).mpr (List.count_pos_iff.mp ∅),Prod.ext rfl (by show((ws.count q.1:Nat):Int)=q.2;lia)⟩
    rw[<- c3]
    exact ZA c4
   ·rintro ⟨hq,hk⟩
    obtain⟨x,hx,rfl⟩:=List.mem_map.mp hq
    have hk':=ZH hk
    have hxw:=(hm x).mp hx
    obtain⟨d,hdm,d1,d2⟩:=q198 hch (hw x hxw).1 (hw x hxw).2
    have pd:=(q109 hw hd d hdm).1
    have pg:=cnt_ge (ns:=ws) d1 d2
    have hle:((ws.count x:Nat):Int)*part<=d.2.2*part:=Int.mul_le_mul_of_nonneg_right ∅ ∅
    have hkd:tot<d.2.2*part:=by
     have hk2:tot<((ws.count x:Nat):Int)*part:=hk'
     lia
    have hn:=hno d hdm hkd
    have e1:d.1=x:=∅
    have e2:d.2.1=x:=∅
    rw[e1,e2,q427]at pd
    exact⟨d,hdm,e1,e2,pd,hkd⟩
theorem cnt_onP{ws us:List Int}{low n:Int}(h:ws.Perm (us.map fun o=>low+o)):ws.count n=us.count (n-low):=by
 rw[h.count_eq,count_eq_countP,countP_map,count_eq_countP]
 refine countP_congr fun o _=>?_
 show(low+o==n)=true↔(o==n-low)=true
 rw[beq_iff_eq,beq_iff_eq]
 lia
theorem withM_ca{L:Nat}{low:Int}{us ws ms:List Int}(hin:InO L us)(hws:ws.Perm (us.map fun o=>low+o))(hm:∀ w,w∈ms↔w∈ws)(hs:ms.Pairwise (·<·)):withM ws ms=caF 1 0 L low us:=by
 refine q745 ?_ (q422 L low us hin) fun⟨x,m⟩=>?_
 ·unfold withM
  rw[pairwise_map]
  exact hs
 ·rw[q493 L low us hin x m,<- cnt_onP hws]
  unfold withM
  rw[mem_map]
  constructor
  ·rintro ⟨y,hy,e⟩
   have hc:=List.count_pos_iff.mpr ((hm y).mp hy)
   cases e
   exact⟨rfl,∅⟩
  ·rintro ⟨rfl,h⟩
   exact⟨x,(hm x).mpr (List.count_pos_iff.mp ∅),rfl⟩
theorem q747{x:Int}:∀{W:List Int}{k:Nat},W.Pairwise (· <= ·)->W.countP (fun y=>decide (y<x))<=k->k<W.countP (fun y=>decide (y<x+1))->W[k]? = some x
 | [],k,_,_,h2=>absurd h2 (by simp)
 | a::W,k,hs,h1,h2=>by
  obtain⟨ha,hs'⟩:=List.pairwise_cons.mp hs
  rw[YT]at h1 h2
  by_cases c1:a<x
  ·rw[ZJ (ZA c1)]at h1
   rw[ZJ (ZA ∅)]at h2
   cases k with
   | zero=>lia
   | succ k=>rw[getElem?_cons_succ];exact q747 hs' ∅ ∅
  ·rw[ZI (fun z=>c1 (ZH z))]at h1
   have z0:W.countP (fun y=>decide (y<x))=0:=List.countP_eq_zero.mpr fun y hy z=>by
    have:=ha y hy
    have:=ZH z
    lia
   by_cases c2:a<x+1
   ·rw[ZJ (ZA c2)]at h2
    cases k with
    | zero=>rw[getElem?_cons_zero];congr 1;lia
    | succ k=>rw[getElem?_cons_succ];exact q747 hs' ∅ ∅
   ·rw[ZI (fun z=>c2 (ZH z))]at h2
    have z1:W.countP (fun y=>decide (y<x+1))=0:=List.countP_eq_zero.mpr fun y hy z=>by
     have:=ha y hy
     have:=ZH z
     lia
    lia
inductive Qs where
 | below (n a:Int)
 | least (k:Nat) (wo:Int)
 | most (wo m:Int)
 | often (part:Int) (ps:List P2)
 | up (n:Int) (o:Option P2)
noncomputable def Qs.psi(len:Int):Qs->List Int->Bool
 | .below n _=>psB n
 | .least _ wo=>psL wo
 | .most wo m=>psM wo m
 | .often part _=>psO part len
 | .up n o=>psU n o
noncomputable def Qs.sh(len:Int):Qs->List TS.I3->Bool
 | .below n a,cs=>dueF cs n a
 | .least k wo,cs=>q322 k wo cs
 | .most wo m,cs=>mostF wo m cs
 | .often part ps,cs=>ansF (oftF part len cs) ps
 | .up n o,cs=>upF n cs o
noncomputable def Qs.ok(ws ms:List Int):Qs->Prop
 | .below n a=>a=((ws.filter fun x=>decide (x<n)).length:Int)
 | .least k wo=>(ws.filter fun x=>decide (x<wo)).length<=k/\k<(ws.filter fun x=>decide (x<wo)).length+ws.count wo
 | .most wo m=>0<m/\m=(ws.count wo:Int)/\(∀ x,(ws.count x:Int)<=m) /\ ∀ x,x<wo->(ws.count x:Int)<m
 | .often part ps=>1<=part/\ps=(withM ws ms).filter fun q=>decide ((ws.length:Int)<q.2*part)
 | .up n none=>∀ x∈ws,x<=n
 | .up n (some q)=>n<q.1/\0<q.2/\q.2=(ws.count q.1:Int) /\ ∀ x∈ws,n<x->q.1<=x
theorem q639{wo:Int}(h:∀ c∈cs,¬(c.1=wo/\c.2.1=wo)):q33 wo cs=none:=by
 cases e:q33 wo cs with
 | none=>rfl
 | some a=>
  obtain⟨c,hc,h1,h2,_⟩:=q324 e
  exact absurd ⟨h1,h2⟩ (h c hc)
theorem q390{wo:Int}:∀{cs:List TS.I3}{c:TS.I3},c∈cs->c.1=wo->c.2.1=wo -> ∃ a,q33 wo cs=some a
 | d::cs,c,hc,h1,h2=>by
  have e5:q33 wo (d::cs)=if hitC wo d=true then some d.2.2 else q33 wo cs:=rfl
  rw[e5]
  by_cases hd:hitC wo d=true
  ·rw[ZJ hd];exact⟨_,rfl⟩
  ·rw[ZI hd]
   rcases List.mem_cons.mp hc with z | z
   ·refine absurd ?_ hd
    rw[<- z]
    show(decide (c.1=wo)&&decide (c.2.1=wo))=true
    rw[ZA h1,ZA h2]
    rfl
   ·exact q390 z h1 h2
theorem q429{lo hi:Int}:∀{cs:List TS.I3}{lo:Int},Chain lo cs hi -> ∀ c∈cs,lo<=c.1/\c.1<=c.2.1
 | d::cs,lo,h,c,hc=>by
  have h1:=h.1
  have h2:=h.2.1
  rcases List.mem_cons.mp hc with z | z
  ·rw[z];lia
  ·have:=q429 (lo:=lo) h.2.2 c z
   lia
theorem q391{hi x:Int}:∀{cs:List TS.I3}{lo:Int},Chain lo cs hi -> ∀ c∈cs,∀ d∈cs,c.1<=x->x<=c.2.1->d.1<=x->x<=d.2.1->c=d
 | e::cs,lo,h,c,hc,d,hd,c1,c2,d1,d2=>by
  rcases List.mem_cons.mp hc with z | z
  ·rcases List.mem_cons.mp hd with y | y
   ·rw[z,y]
   ·have:=q429 (lo:=lo) h.2.2 d y
    rw[z]at c2
    lia
  ·rcases List.mem_cons.mp hd with y | y
   ·have:=q429 (lo:=lo) h.2.2 c z
    rw[y]at d2
    lia
   ·exact q391 h.2.2 c z d y c1 c2 d1 d2
theorem filt_cnt(ws:List Int)(n:Int):(ws.filter fun x=>decide (x<n)).length=ws.countP fun x=>decide (x<n):=List.countP_eq_length_filter.symm
section
variable {L:Nat} {low:Int} {ws ms:List Int} {p:Pp} (hw:Wths low L ws) (hd:q43 L (offs low ws) p)
include hw hd
theorem q329{c:TS.I3}{wo:Int}(hc:c∈q25 L low p)(h1:c.1=wo)(h2:c.2.1=wo):q33 wo (q25 L low p)=some (ws.count wo:Int):=by
 obtain⟨a,ha⟩:=q390 hc h1 h2
 obtain⟨d,hdm,d1,d2,d3⟩:=q324 ha
 have:=(q109 hw hd d hdm).1
 rw[d1,d2,q427,d3]at this
 rw[ha,this]
theorem q540{q:Qs}(hm:∀ x,x∈ms↔x∈ws)(hs:ms.Pairwise (·<·))(hq:q.ok ws ms)(hn:∀ c∈q25 L low p,c.1=c.2.1\/q.psi ws.length [c.1,c.2.1,c.2.2]=false):q.sh ws.length (q25 L low p)=true:=by
 have hch:=q83 (low:=low) (q57 hd)
 have hpc:=q109 hw hd
 have one:∀ c∈q25 L low p,c.1=c.2.1->c.2.2=(ws.count c.1:Int):=fun c hc e=>by
  have:=(hpc c hc).1
  rw[<- e,q427]at this
  exact this
 have cov:∀ x,0<ws.count x -> ∃ c∈q25 L low p,c.1<=x/\x<=c.2.1:=fun x hx=>by
  have:=hw x (List.count_pos_iff.mp hx)
  exact q198 hch this.1 this.2
 cases q with
 | below n a=>
  have nb:(q25 L low p).any (badC n)=false:=List.any_eq_false.mpr fun c hc z=>by
   have z':(decide (0<c.2.2)&&(decide (c.1<n)&&decide (n<=c.2.1)))=true:=z
   rcases hn c hc with e | e
   ·rw[WL,WL]at z'
    have:=ZH z'.2.1
    have:=ZH z'.2.2
    lia
   ·exact absurd (z'.symm.trans e) {}
  show dueF _ n a=true
  rw[q590 nb,q132 hw hd nb]
  exact ZA hq.symm
 | least k wo=>
  obtain⟨h1,h2⟩:=hq
  obtain⟨c,hc,c1,c2⟩:=cov wo ∅
  have e:c.1=c.2.1:=(hn c hc).resolve_right fun z=>by
   have z':(decide (c.1<=wo)&&decide (wo<=c.2.1))=false:=z
   rw[ZA c1,ZA c2]at z'
   cases z'
  have ha:=q329 hw hd hc (wo:=wo) ∅ ∅
  have nb:=(q321 hch ha).1
  show q322 k wo _=true
  unfold q322
  rw[ha,q132 hw hd nb]
  show(decide _&&decide _)=true
  rw[ZA ∅,ZA ∅]
  rfl
 | most wo m=>
  obtain⟨h0,h1,h2,h3⟩:=hq
  obtain⟨c,hc,c1,c2⟩:=cov wo ∅
  have e:c.1=c.2.1:=(hn c hc).resolve_right fun z=>by
   have z':(if c.2.1<wo then decide (m<=c.2.2)else if wo<c.1 then decide (m<c.2.2)else true)=false:=z
   rw[ZI ∅,ZI ∅]at z'
   cases z'
  have ha:=q329 hw hd hc (wo:=wo) ∅ ∅
  have no:(q25 L low p).any (overC wo m)=false:=List.any_eq_false.mpr fun d hdm z=>by
   have z':(decide (m<d.2.2)||(decide (d.2.2=m)&&decide (d.2.1<wo)))=true:=z
   rw[Bool.or_eq_true,WL,WA,WA,WA]at z'
   rcases hn d hdm with e | e
   ·have:=one d hdm e
    have:=h2 d.1
    have:=h3 d.1
    lia
   ·have e':(if d.2.1<wo then decide (m<=d.2.2)else if wo<d.1 then decide (m<d.2.2)else true)=false:=e
    by_cases k1:d.2.1<wo
    ·rw[ZJ k1,YR]at e'
     lia
    ·rw[ZI k1]at e'
     by_cases k2:wo<d.1
     ·rw[ZJ k2,YR]at e'
      lia
     ·rw[ZI k2]at e'
      cases e'
  show mostF wo m _=true
  unfold mostF
  rw[ha,<- h1,no,ZA h0,ZA rfl]
  rfl
 | often part ps=>
  obtain⟨h1,h2⟩:=hq
  have ex:∀ cs:List TS.I3,(∀ c∈cs,(ws.length:Int)<c.2.2*part -> ¬ c.1<c.2.1) -> ∃ l,oftF part ws.length cs=some l:=by
   intro cs
   induction cs with
   | nil=>exact fun _=>⟨_,rfl⟩
   | cons d cs ih=>
    intro h
    obtain⟨l,hl⟩:=ih fun c hc=>h c (ZZ _ hc)
    have e0:oftF part ws.length (d::cs)=if(ws.length:Int)<d.2.2*part then(if d.1<d.2.1 then none else(oftF part ws.length cs).map fun l=>(d.1,d.2.2)::l)else oftF part ws.length cs:=rfl
    rw[e0,hl]
    by_cases k:(ws.length:Int)<d.2.2*part
    ·rw[ZJ k,ZI (h d WF k)];exact⟨_,rfl⟩
    ·rw[ZI k];exact⟨_,rfl⟩
  obtain⟨l,hl⟩:=ex (q25 L low p) fun c hc k z=>by
   rcases hn c hc with e | e
   ·lia
   ·have e':decide ((ws.length:Int)<c.2.2*part)=false:=e
    rw[ZA k]at e'
    cases e'
  have hp:=q539 (part:=part) (tot:=ws.length) (told:=l) hw hd hm hs h1 ∅ (by rw[hl];exact ZA rfl)
  show ansF (oftF part ws.length _) ps=true
  rw[hl,h2,hp]
  exact ZA rfl
 | up n o=>
  cases o with
  | none=>
   have hq':∀ x∈ws,x<=n:=hq
   show(!((q25 L low p).any (abvC n)))=true
   rw[List.any_eq_false.mpr fun c hc z=>?_]
   ·rfl
   have z':(decide (0<c.2.2)&&decide (n<c.2.1))=true:=z
   rw[WL,WA,WA]at z'
   rcases hn c hc with e | e
   ·have h1:=one c hc e
    have:=hq' c.1 (List.count_pos_iff.mp ∅)
    lia
   ·have e':(if c.2.2=0\/c.2.1<=n then false else true)=false:=e
    rw[ZI ∅]at e'
    cases e'
  | some r=>
   obtain⟨h1,h2,h3,h4⟩:n<r.1/\0<r.2/\r.2=(ws.count r.1:Int) /\ ∀ x∈ws,n<x->r.1<=x:=hq
   obtain⟨c,hc,c1,c2⟩:=cov r.1 ∅
   have cg:=cnt_ge (ns:=ws) c1 c2
   have cc:=(hpc c hc).1
   have e:c.1=c.2.1:=(hn c hc).resolve_right fun z=>by
    have z':(if c.2.2=0\/c.2.1<=n then false else decide (c.1<=r.1))=false:=z
    rw[ZI ∅,ZA c1]at z'
    cases z'
   have ha:=q329 hw hd hc (wo:=r.1) ∅ ∅
   have no:((q25 L low p).any fun c=>abvC n c&&decide (c.1<r.1))=false:=List.any_eq_false.mpr fun d hdm z=>by
    have z':((decide (0<d.2.2)&&decide (n<d.2.1))&&decide (d.1<r.1))=true:=z
    rw[WL,WL,WA,WA,WA]at z'
    rcases hn d hdm with e | e
    ·have h5:=one d hdm e
     have:=h4 d.1 (List.count_pos_iff.mp ∅) ∅
     lia
    ·have e':(if d.2.2=0\/d.2.1<=n then false else decide (d.1<=r.1))=false:=e
     rw[ZI ∅,ZA ∅]at e'
     cases e'
   show(decide (n<r.1)&&(decide (0<r.2)&&(decide (q33 r.1 _=some r.2)&&!(_))))=true
   rw[no,ha,<- h3,ZA h1,ZA h2,ZA rfl]
   rfl
theorem shows_no{q:Qs}{c:TS.I3}(hc:c∈q25 L low p)(hl:c.1<c.2.1)(hp:q.psi ws.length [c.1,c.2.1,c.2.2]=true)(hq:q.ok ws ms):q.sh ws.length (q25 L low p)=false:=by
 have hch:=q83 (low:=low) (q57 hd)
 have al:∀ wo,c.1<=wo->wo<=c.2.1->q33 wo (q25 L low p)=none:=fun wo h1 h2=>q639 fun d hdm ⟨d1,d2⟩=>by
  have:=q391 (x:=wo) hch c hc d hdm h1 h2 ∅ ∅
  rw[this]at hl
  lia
 cases q with
 | below n a=>
  show dueF _ n a=false
  unfold dueF
  rw[List.any_eq_true.mpr ⟨c,hc,hp⟩]
  rfl
 | least k wo=>
  have hp':(decide (c.1<=wo)&&decide (wo<=c.2.1))=true:=hp
  rw[WL,WA,WA]at hp'
  show q322 k wo _=false
  unfold q322
  rw[al wo hp'.1 hp'.2]
 | most wo m=>
  have hp':(if c.2.1<wo then decide (m<=c.2.2)else if wo<c.1 then decide (m<c.2.2)else true)=true:=hp
  show mostF wo m _=false
  unfold mostF
  have ov:overC wo m c=true->(decide (0<m)&&(decide (q33 wo (q25 L low p)=some m)&&!((q25 L low p).any (overC wo m))))=false:=fun z=>by
   rw[List.any_eq_true.mpr ⟨c,hc,z⟩,Bool.not_true,WJ,WJ]
  by_cases k1:c.2.1<wo
  ·rw[ZJ k1,WA]at hp'
   refine ov ?_
   show(decide (m<c.2.2)||(decide (c.2.2=m)&&decide (c.2.1<wo)))=true
   rw[ZA k1,Bool.and_true,Bool.or_eq_true,WA,WA]
   lia
  ·rw[ZI k1]at hp'
   by_cases k2:wo<c.1
   ·rw[ZJ k2,WA]at hp'
    refine ov ?_
    show(decide (m<c.2.2)||(decide (c.2.2=m)&&decide (c.2.1<wo)))=true
    rw[ZA hp',Bool.true_or]
   ·rw[al wo ∅ ∅,ZK (show ¬(none:Option Int)=some m by intro z;cases z),WR,WJ]
 | often part ps=>
  have hp':(ws.length:Int)<c.2.2*part:=ZH hp
  show ansF (oftF part ws.length _) ps=false
  cases e:oftF part ws.length (q25 L low p) with
  | none=>rfl
  | some l=>exact absurd hl (q286 (by rw[e];intro z;cases z) c hc hp')
 | up n o=>
  cases o with
  | none=>
   have hp':(if c.2.2=0\/c.2.1<=n then false else true)=true:=hp
   have hc0:=(q109 hw hd c hc).1
   show(!((q25 L low p).any (abvC n)))=false
   rw[List.any_eq_true.mpr ⟨c,hc,?_⟩]
   ·rfl
   show(decide (0<c.2.2)&&decide (n<c.2.1))=true
   by_cases k:c.2.2=0\/c.2.1<=n
   ·rw[ZJ k]at hp';cases hp'
   ·rw[ZA ∅,ZA ∅];rfl
  | some r=>
   have hp':(if c.2.2=0\/c.2.1<=n then false else decide (c.1<=r.1))=true:=hp
   have hc0:=(q109 hw hd c hc).1
   obtain⟨h1,h2,h3,h4⟩:n<r.1/\0<r.2/\r.2=(ws.count r.1:Int) /\ ∀ x∈ws,n<x->r.1<=x:=hq
   by_cases k:c.2.2=0\/c.2.1<=n
   ·rw[ZJ k]at hp';cases hp'
   rw[ZI k,WA]at hp'
   show(decide (n<r.1)&&(decide (0<r.2)&&(decide (q33 r.1 _=some r.2)&&!(_))))=false
   by_cases k2:c.1=r.1
   ·rw[al r.1 ∅ ∅,ZK (show ¬(none:Option Int)=some r.2 by intro z;cases z),WR,WJ,WJ]
   ·rw[List.any_eq_true.mpr ⟨c,hc,?_⟩,Bool.not_true,WJ,WJ,WJ]
    show((decide (0<c.2.2)&&decide (n<c.2.1))&&decide (c.1<r.1))=true
    rw[ZA ∅,ZA ∅,ZA ∅]
    rfl
end
theorem q226{φ:Int->Int->Int->Bool}:∀(e:Nat)(low:Int)(us:List Int),q43 e us (papF φ e low us)
 | 0,_,_=>rfl
 | e+1,low,us=>by
  unfold papF
  split
  ·exact⟨rfl,q226 e _ _,q226 e _ _⟩
  ·rfl
theorem q123:∀{e:Nat}{us vs:List Int}{p:Pp},us.Perm vs->q43 e us p->q43 e vs p
 | 0,us,vs,.all n,h,d=>by
  show n=_
  rw[<- h.length_eq]
  exact d
 | e+1,us,vs,.all n,h,d=>by
  show n=_
  rw[<- h.length_eq]
  exact d
 | 0,_,_,.split _ _ _,_,d=>d.elim
 | e+1,us,vs,.split n l r,h,d=>⟨by rw[<- h.length_eq];exact d.1,q123 (q389 h) d.2.1,q123 (q389 h) d.2.2⟩
theorem q330:∀(e:Nat)(low:Int)(us:List Int),∀ c∈q25 e low (papF φ e low us),c.1=c.2.1\/φ c.1 c.2.1 c.2.2=false
 | 0,low,us,c,hc=>by
  have e:c=(low,low+2^0-1,(us.length:Int)):=List.mem_singleton.mp hc
  rw[e]
  exact .inl (by show low=low+2^0-1;lia)
 | e+1,low,us,c,hc=>by
  unfold papF at hc
  split at hc
  ·rcases List.mem_append.mp (show c∈q25 e low _++q25 e (low+2^e) _ from hc)with h | h
   ·exact q330 e low _ c h
   ·exact q330 e _ _ c h
  ·rename_i k
   have e:c=(low,low+2^(e+1)-1,(us.length:Int)):=List.mem_singleton.mp hc
   rw[e]
   exact .inr (Bool.eq_false_iff.mpr k)
noncomputable def waysP:Pp->LL
 | .all _=>[]
 | .split _ l r=>[[]]++(waysP l).map (fun x=>0::x)++(waysP r).map fun x=>1::x
noncomputable def q104:Pp->List Int->Pp
 | p,[]=>.all p.m
 | .all n,_::_=>.all n
 | .split n l r,m::x=>if m=0 then .split n (q104 l x) r else .split n l (q104 r x)
theorem q430{n:Int}:q104 (.split n l r) (0::x) = .split n (q104 l x) r:=by
 show(if(0:Int)=0 then _ else _)=_
 exact ZJ rfl
theorem q431{n:Int}:q104 (.split n l r) (1::x) = .split n l (q104 r x):=by
 show(if(1:Int)=0 then _ else _)=_
 exact ZI {}
theorem q164:∀{e:Nat}{us:List Int}{p:Pp}{x:List Int},x∈waysP p->q43 e us p->q43 e us (q104 p x)
 | 0,us,.split n l r,x,_,d=>d.elim
 | e+1,us,.split n l r,x,hx,d=>by
  rcases List.mem_append.mp hx with hx | hx
  ·rcases List.mem_append.mp hx with hx | hx
   ·rw[List.mem_singleton.mp hx]
    exact d.1
   ·obtain⟨y,hy,rfl⟩:=List.mem_map.mp hx
    rw[q430]
    exact⟨d.1,q164 hy d.2.1,d.2.2⟩
  ·obtain⟨y,hy,rfl⟩:=List.mem_map.mp hx
   rw[q431]
   exact⟨d.1,d.2.1,q164 hy d.2.2⟩
theorem q253:∀(e:Nat)(low:Int)(us x:List Int),x∈waysP (papF φ e low us) -> ∃ c∈q25 e low (q104 (papF φ e low us) x),c.1<c.2.1/\φ c.1 c.2.1 c.2.2=true
 | 0,low,us,x,hx=>by cases hx
 | e+1,low,us,x,hx=>by
  unfold papF at hx ⊢
  split at hx
  ·rename_i k
   rw[ZJ k]
   have hp:=p2pos e
   have h2:=pow2 e
   rcases List.mem_append.mp hx with hx | hx
   ·rcases List.mem_append.mp hx with hx | hx
    ·rw[List.mem_singleton.mp hx]
     exact⟨(low,low+2^(e+1)-1,(us.length:Int)),List.mem_singleton.mpr rfl,by show low<low+2^(e+1)-1;rw[YJ];lia,k⟩
    ·obtain⟨y,hy,rfl⟩:=List.mem_map.mp hx
     obtain⟨c,hc,z⟩:=q253 e low _ y hy
     rw[q430]
     exact⟨c,mem_append_left _ hc,z⟩
   ·obtain⟨y,hy,rfl⟩:=List.mem_map.mp hx
    obtain⟨c,hc,z⟩:=q253 e _ _ y hy
    rw[q431]
    exact⟨c,WX _ hc,z⟩
  ·cases hx
theorem q152:∀{p:Pp}{x:List Int},(q104 p x).leaves<=p.leaves
 | .all n,[]=>ZG _
 | .all n,_::_=>ZG _
 | .split n l r,[]=>by
  have h1:∀ p:Pp,0<p.leaves:=fun p=>by
   induction p with
   | all n=>exact Nat.one_pos
   | split n l r i _=>exact WC i (Nat.le_add_right _ _)
  exact h1 _
 | .split n l r,m::x=>by
  show(if m=0 then Pp.split n (q104 l x) r else .split n l (q104 r x)).leaves<=l.leaves+r.leaves
  split
  ·exact Nat.add_le_add_right q152 _
  ·exact Nat.add_le_add_left q152 _
noncomputable def gI(low:Int)(e:Nat)(g:Int):Nat:=if low<=g/\g<low+2^e then 1 else 0
theorem gI_half(low:Int)(e:Nat)(g:Int):gI low e g+gI (low+2^e) e g<=gI low (e+1) g:=by
 have h2:(2:Int)^(e+1)=2^e+2^e:=by rw[YJ];lia
 have hp:=p2pos e
 unfold gI
 split <;> split <;> split <;> lia
theorem q254(g:Int)(h:∀ a b c:Int,φ a b c=true->c≠0\/(a<=g/\g<=b)):∀(e:Nat)(low:Int)(us:List Int),(papF φ e low us).leaves<=e*(us.length+gI low e g)+1
 | 0,low,us=>by
  show 1<=_
  lia
 | e+1,low,us=>by
  unfold papF
  split
  ·rename_i k
   have i0:=q254 g h e low (halfO e 0 us)
   have i1:=q254 g h e (low+2^e) (halfO e 1 us)
   have hs:=q217 (e:=e) us
   have hg:=gI_half low e g
   have h1:1<=us.length+gI low (e+1) g:=by
    rcases h _ _ _ k with z | z
    ·lia
    ·have:gI low (e+1) g=1:=ZJ ∅
     lia
   show(papF φ e low (halfO e 0 us)).leaves+(papF φ e (low+2^e) (halfO e 1 us)).leaves<=_
   have m1:e*((halfO e 0 us).length+gI low e g)+e*((halfO e 1 us).length+gI (low+2^e) e g)<=e*(us.length+gI low (e+1) g):=by
    rw[<- Nat.mul_add]
    exact Nat.mul_le_mul_left _ ∅
   have m2:(e+1)*(us.length+gI low (e+1) g)=e*(us.length+gI low (e+1) g)+(us.length+gI low (e+1) g):=Nat.succ_mul ..
   lia
  ·show 1<=_
   lia
noncomputable def Qs.g:Qs->Int
 | .least _ wo=>wo
 | .most wo _=>wo
 | _=>0
theorem Qs.lv{q:Qs}(h:q.ok ws ms)(len:Int)(hl:0<=len):∀ a b c:Int,f3 (q.psi len) a b c=true->c≠0\/(a<=q.g/\q.g<=b):=fun a b c k=>by
 cases q with
 | below n x=>
  have k':(decide (0<c)&&(decide (a<n)&&decide (n<=b)))=true:=k
  rw[WL,WA]at k'
  exact .inl ∅
 | least k' wo=>
  have k':(decide (a<=wo)&&decide (wo<=b))=true:=k
  rw[WL,WA,WA]at k'
  exact .inr k'
 | most wo m=>
  have k':(if b<wo then decide (m<=c)else if wo<a then decide (m<c)else true)=true:=k
  have h0:=h.1
  by_cases c1:b<wo
  ·rw[ZJ c1,WA]at k'
   exact .inl ∅
  ·rw[ZI c1]at k'
   by_cases c2:wo<a
   ·rw[ZJ c2,WA]at k'
    exact .inl ∅
   ·exact .inr ⟨by show a<=wo;lia,by show wo<=b;lia⟩
 | often part ps=>
  have k':len<c*part:=ZH k
  refine .inl fun z=>?_
  rw[z,Int.zero_mul]at k'
  lia
 | up n o=>
  refine .inl fun z=>?_
  have k':(if c=0\/b<=n then false else _)=true:=k
  rw[ZJ (.inl z)]at k'
  cases k'
noncomputable def Qs.pap(low:Int)(L:Nat)(us:List Int)(q:Qs):Pp:=papF (f3 (q.psi us.length)) L low us
section
variable {L:Nat} {low:Int} {us ws ms:List Int} {q:Qs} (hw:Wths low L ws) (hp:(offs low ws).Perm us) (hL:L<=40) (h9:us.length<=900) (hm:∀ x,x∈ms↔x∈ws) (hs:ms.Pairwise (·<·)) (hq:q.ok ws ms)
include hw hp hL h9 hm hs hq
theorem told_lv:(q.pap low L us).leaves<=90000:=by
 have h1:=q254 q.g (q.lv hq us.length ∅) L low us
 have h2:gI low L q.g<=1:=by unfold gI;split <;> lia
 have h3:L*(us.length+gI low L q.g)<=40*901:=Nat.mul_le_mul hL ∅
 unfold Qs.pap
 lia
theorem told_yes:q.sh us.length (q25 L low (q.pap low L us))=true:=by
 have hl:us.length=ws.length:=by rw[<- hp.length_eq,ZN]
 have hd:q43 L (offs low ws) (q.pap low L us):=q123 hp.symm (q226 L low us)
 have:=q540 hw hd hm hs hq (fun c hc=>by rw[<- hl];exact q330 L low us c hc)
 rw[hl]
 exact this
theorem told_no(hx:x∈waysP (q.pap low L us)):q.sh us.length (q25 L low (q104 (q.pap low L us) x))=false:=by
 have hl:us.length=ws.length:=by rw[<- hp.length_eq,ZN]
 have hd:q43 L (offs low ws) (q104 (q.pap low L us) x):=q123 hp.symm (q164 hx (q226 L low us))
 obtain⟨c,hc,h1,h2⟩:=q253 L low us x hx
 rw[hl]
 exact shows_no hw hd hc h1 (by rw[<- hl];exact h2) hq
end
abbrev q432:Nat:=0
abbrev q227:Nat:=40
inductive q114(u0:Fg)(e:Nat)(vs:List V)(H:Hp)(Q:VK)(E:XK):Prop
 |mk(wl:Addr)(low:Int)(ws:List Int)(v:V)(p:Pp)(_:vs=[.int low,.int (e:Int),.ref wl,v])(_:H wl=some (.lst (ws.map V.int)))(_:ws.length<=1000)(_:Wths low e ws)(_:PpAt H v p)(_:q43 e (offs low ws) p)(_:∀ H',Same H H'->Q (.bl true) H')
def q433(K:Fg):Sp:=fun vs H Q E=>∃ e,e<=q227/\q114 K e vs H Q E
def WyAt(K:Fg)(H:Hp)(v:V)(x:List Int):Prop:=∃ a,v = .ref a/\SqT K H a (x.map V.int)
theorem WyAt.same(s:Same H H')(h:WyAt K H v x):WyAt K H' v x:=by
 obtain⟨a,e,h⟩:=h
 exact⟨a,e,s.seqT h⟩
theorem WyAt.put(e:H D=some (.lst ys))(h:WyAt K H v x):WyAt K (upd H D (.lst zs)) v x:=by
 obtain⟨a,ea,h⟩:=h
 exists a,ea
 have k:=Keep.set D H (.lst zs)
 rcases h with (h | ⟨o,h⟩) | h
 ·exact .inl (.inl (k _ _ (ne_of h e (by intro z;cases z)) h))
 ·exact .inl (.inr ⟨o,k _ _ (ne_of h e (by intro z;cases z)) h⟩)
 ·exact .inr h
theorem q165:∀ p:Pp,(waysP p).length+1=p.leaves
 | .all _=>rfl
 | .split n l r=>by
  show(_++_++_:LL).length+1=l.leaves+r.leaves
  rw[ZV,ZV,ZN,ZN,<- q165 l,<- q165 r]
  show 1+_+_+1=_
  lia
theorem q434:∀{p:Pp},∀ x∈waysP p,x.length<dpP p
 | .split n l r,x,hx=>by
  show _<max (dpP l) (dpP r)+1
  rcases List.mem_append.mp hx with hx | hx
  ·rcases List.mem_append.mp hx with hx | hx
   ·rw[List.mem_singleton.mp hx]
    exact Nat.succ_pos _
   ·obtain⟨y,hy,rfl⟩:=List.mem_map.mp hx
    have:=q434 y hy
    rw[WZ]
    lia
  ·obtain⟨y,hy,rfl⟩:=List.mem_map.mp hx
   have:=q434 y hy
   rw[WZ]
   lia
abbrev q505:Nat:=0
abbrev q272:Nat:=40
inductive q133(K:Fg)(e:Nat)(vs:List V)(H:Hp)(Q:VK)(E:XK):Prop
 |mk(v:V)(p:Pp)(_:vs=[v])(_:PpAt H v p)(_:dpP p<=e)(_:p.leaves<=90000)(_:∀(D:Addr)(zs:List V)(H':Hp),Same H H'->H D=none->H' D=some (.lst zs)->Paired (WyAt K H') zs (waysP p)->Q (.ref D) H')
def q506(K:Fg):Sp:=fun vs H Q E=>∃ e,e<=q272/\q133 K e vs H Q E
noncomputable abbrev q331:Nat:=0
abbrev q153:Nat:=40
inductive q86(K:Fg)(e:Nat)(vs:List V)(H:Hp)(Q:VK)(E:XK):Prop
 |mk(v:V)(p:Pp)(wa:Addr)(x:List Int)(_:vs=[v,.ref wa])(_:PpAt H v p)(_:SqT K H wa (x.map V.int))(_:x∈waysP p)(_:dpP p<=e)(_:∀(H':Hp)(u:V),Same H H'->PpAt H' u (q104 p x)->Q u H')
def q332(K:Fg):Sp:=fun vs H Q E=>∃ e,e<=q153/\q86 K e vs H Q E
theorem cut1(v:V)(xs:List V):cutV (v::xs) (some 1) none=xs:=by
 unfold cutV
 rw[show(some (1:Int))=some ((1:Nat):Int)from rfl,HT.q753,HT.q752,WZ,YY ∅]
 exact WT (by rw[length_drop,WZ];exact ZG _)
theorem q435:z.C P w 41 "_law_right" pn5 (q433 K):=by
 have sc:=q417
 refine z.d__law_right.recur (k:=q432) (sp:=q114 K) q227 fun e hen c__law_right f fd F=>F.k sc fun _ _ _ s H _ Q _ hr h=>?_
 obtain⟨wl,low,ws,v,p,rfl,hwl,hl,hw,hp,hd,q⟩:=h
 refine⟨_,(q11 (ps_if (PW.pt (pw_or (q116 (q87 (q35 q127 () z.isinstance_ q36 (q10 (pv 3) (q10 (q185 (v:=.ty "tuple") (u:=.type "tuple") () z.tuple_ q157 rfl) q12))))) (pw_or (q87 (q35 q127 () z.isinstance_ q36 (q10 (pix q26 (pv 3) q14) (q10 (q185 (v:=.ty "bool") (u:=.type "bool") () z.bool_ q662 rfl) q12)))) (q115 (q18 op_ne (pix q26 (pv 3) q14) (pln z.len_ (q10 (pv 2) q12)) (q20 _))))))
 (q16 (q19 pe_bl))
 q21)
 (q11 (ps_if (q18 op_eq (pix q26 (pv 3) q14) q34 (q20 _))
 (q16 (q19 (q41 op_eq (pln z.len_ (q10 (pv 3) q12)) q14 (q20 _))))
 q21)
 (q11 (ps_if (PW.pt (pw_or (q18 op_ne (pix q26 (pv 3) q14) q34 (q20 _)) (pw_or (q18 op_ne (pln z.len_ (q10 (pv 3) q12)) q14 (q20 _)) (q115 (q18 op_eq (pv 1) q14 (q20 _))))))
 (q16 (q19 pe_bl))
 q21)
 (q11 (pst 4 sc.nd (pe_op q29 (pv 0) (pe_op q544 q14 (pe_op q54 (pv 1) q14))))
 (q11 (ps_if (q116 (q87 (pe_fn c__law_right (hr.mono (ZG _)) () (q10 (pv 0) (q10 (pe_op q54 (pv 1) q14) (q10 (q64 (cl:=[("_law_half", s.heap.objs.size+1+0)]) (cn:=["_law_half"]) (N:=["_law_half"]) (fr:=[4]) (sc0:=q17 q107) rfl (q32 (pv 2)) (fun C s₂ H₂ fp=>(pv 0)) (fun C s₂ H₂ fp=>(q18 op_lt (pv 0) (pv 1) (q20 _))) (by ac_rfl) ⟨by ac_rfl,trivial⟩ rfl rfl rfl cok rfl) (q10 (pix q26 (pv 3) q14) q12)))))))
 (q16 (q19 pe_bl))
 q21)
 (q16 (q19 (pe_fn c__law_right (hr.mono (ZG _)) () (q10 (pv 4) (q10 (pe_op q54 (pv 1) q14) (q10 (q64 (cl:=[("_law_half", s.heap.objs.size+1+0)]) (cn:=["_law_half"]) (N:=["_law_half"]) (fr:=[4]) (sc0:=q17 q107) rfl (q32 (pv 2)) (fun C s₂ H₂ fp=>(pv 0)) (fun C s₂ H₂ fp=>(q18 op_ge (pv 0) (pv 1) (q20 _))) (by ac_rfl) ⟨by ac_rfl,trivial⟩ rfl rfl rfl cok rfl) (q10 (pix q26 (pv 3) q14) q12)))))))))))),?_⟩
 have hml:(ws.map V.int).length=ws.length:=ZN _
 have hm:p.m=(ws.length:Int):=by rw[q323 hd,ZN]
 have hen':e<=40:=hen
 cases p with
 | all n=>
  obtain⟨a,rfl,h⟩:=hp
  have hm':n=(((ws.map V.int).length:Nat):Int):=by rw[hml];exact hm
  refine⟨_,rfl,_,_,_,_,rfl,.tup h,q250,_,rfl,iteF ?_⟩
  refine⟨_,rfl,a,_,_,_,rfl,rfl,SqT.of h,rfl,_,_,_,_,rfl,.int _,q139,_,rfl,iteF ?_⟩
  exists _,rfl,a,_,_,_,rfl,rfl,SqT.of h,rfl,_,rfl,wl,_,rfl,.inl (SqL.of hwl),rfl,_,rfl
  refine ite2 (fun z=>absurd z (by rw[ZA (congrArg V.int hm')];exact fnt)) (fun _=>?_)
  refine⟨_,rfl,a,_,_,_,rfl,rfl,SqT.of h,rfl,rfl,_,rfl,ite2 (fun _=>?_) (na rfl)⟩
  exact⟨_,rfl,a,_,rfl,.inr (SqT.of h),rfl,q H (Same.refl H)⟩
 | split n l r=>
  obtain⟨a,x,y,rfl,h,hx,hy⟩:=hp
  have hm':n=(((ws.map V.int).length:Nat):Int):=by rw[hml];exact hm
  refine⟨_,rfl,_,_,_,_,rfl,.tup h,q250,_,rfl,iteF ?_⟩
  refine⟨_,rfl,a,_,_,_,rfl,rfl,SqT.of h,rfl,_,_,_,_,rfl,.int _,q139,_,rfl,iteF ?_⟩
  exists _,rfl,a,_,_,_,rfl,rfl,SqT.of h,rfl,_,rfl,wl,_,rfl,.inl (SqL.of hwl),rfl,_,rfl
  refine ite2 (fun z=>absurd z (by rw[ZA (congrArg V.int hm')];exact fnt)) (fun _=>?_)
  refine⟨_,rfl,a,_,_,_,rfl,rfl,SqT.of h,rfl,rfl,_,rfl,ite2 (fun z=>absurd (ZH z) (by intro z;injection z with z;exact absurd z {})) (fun _=>?_)⟩
  cases e with
  | zero=>exact hd.elim
  | succ e=>
   have ee:(((e+1:Nat):Int)-1)=(e:Int):=∅
   refine⟨_,rfl,a,_,_,_,rfl,rfl,SqT.of h,rfl,rfl,_,rfl,ite2 (fun z=>absurd z (by rw[ZA rfl];exact fnt)) (fun _=>?_)⟩
   refine⟨_,rfl,a,_,rfl,.inr (SqT.of h),rfl,_,rfl,ite2 (fun z=>absurd (show(!decide (V.int 4=V.int 4))=true from z) {}) (fun _=>?_)⟩
   refine⟨_,rfl,rfl,_,rfl,ite2 (fun z=>absurd (V.int.inj (ZH z)) ∅) (fun _=>?_)⟩
   exists _,rfl,_,rfl,_,_,rfl,rfl,_,_,rfl,rfl,⟨∅,∅,{}⟩,_,_,rfl,rfl
   dsimp only
   rw[ee,q553]
   obtain⟨_,dl,dr⟩:=hd
   rw[q533 hw]at dl
   rw[q534 hw]at dr
   refine⟨_,rfl,_,rfl,_,_,rfl,rfl,_,rfl,wl,rfl,⟨_,SqL.of hwl⟩,fun D2 hD2=>?_⟩
   refine q98 (p:=fun n=>decide (n<low+2^e)) (g:=V.int) (SqL.of hwl) hD2 (sz hl) (fun n _ H1 Q1 _ q1=>⟨_,rfl,_,rfl,_,_,rfl,rfl,_,rfl,q1⟩) (fun n _ _ H1 Q1 _ q1=>⟨_,rfl,q1⟩) ?_
   have t2:=q15 hD2 (.lst ((ws.filter fun n=>decide (n<low+2^e)).map V.int))
   have eD2:=@q13 H D2 (.lst ((ws.filter fun n=>decide (n<low+2^e)).map V.int))
   generalize upd H D2 (.lst ((ws.filter fun n=>decide (n<low+2^e)).map V.int))=H2 at *
   refine⟨_,rfl,a,_,_,_,rfl,rfl,SqT.of (t2 _ _ h),rfl,D2,low,_,x,l,congrArg (fun t=>[V.int low,V.int t,V.ref D2,x]) ee,eD2,ZR (YE _ _) hl,hw.loH,hx.same t2,dl,fun H3 s3=>⟨_,rfl,iteF ?_⟩⟩
   have s03:=t2.trans s3
   have hwl3:=s03 _ _ hwl
   refine⟨_,rfl,_,rfl,_,_,rfl,rfl,_,rfl,wl,rfl,⟨_,SqL.of hwl3⟩,fun D5 hD5=>?_⟩
   refine q98 (p:=fun n=>decide (low+2^e<=n)) (g:=V.int) (SqL.of hwl3) hD5 (sz hl) (fun n _ H1 Q1 _ q1=>⟨_,rfl,_,rfl,_,_,rfl,rfl,_,rfl,q1⟩) (fun n _ _ H1 Q1 _ q1=>⟨_,rfl,q1⟩) ?_
   have t5:=q15 hD5 (.lst ((ws.filter fun n=>decide (low+2^e<=n)).map V.int))
   have eD5:=@q13 H3 D5 (.lst ((ws.filter fun n=>decide (low+2^e<=n)).map V.int))
   generalize upd H3 D5 (.lst ((ws.filter fun n=>decide (low+2^e<=n)).map V.int))=H5 at *
   have s05:=s03.trans t5
   exact⟨_,rfl,a,_,_,_,rfl,rfl,SqT.of (s05 _ _ h),rfl,D5,low+2^e,_,y,r,congrArg (fun t=>[V.int (low+2^e),V.int t,V.ref D5,y]) ee,eD5,ZR (YE _ _) hl,hw.hiH,hy.same s05,dr,fun H6 s6=>q H6 (s05.trans s6)⟩
theorem q507:z.C P w 41 "_law_ways" ["_law_paper"] (q506 K):=by
 have sc:=q478
 refine z.d__law_ways.recur (k:=q505) (sp:=q133 K) q272 fun e hen c__law_ways f fd F=>F.k sc fun _ _ _ s H _ Q _ hr h=>?_
 obtain⟨v,p,rfl,hp,hdp,hlv,q⟩:=h
 refine⟨_,(q11 (ps_if (q18 op_eq (pix q26 (pv 0) q14) q34 (q20 _))
 (q16 (q19 (q42 q12)))
 q21)
 (q11 (pst 1 sc.nd (q42 (q10 (q30 q12) q12)))
 (q11 (q60 PassesOwn.never rfl (q438 (q30 (q10 q14 (q10 q14 q12)))) (pgn 2 sc.nd)
 (q16 (pst 1 sc.nd (pe_op q446 (pv 1) (q140 (cl:=[("_law_mark", s.heap.objs.size+1+0)]) (cn:=["_law_mark"]) (N:=["_law_mark"]) (fr:=[2]) (sc0:=q17 q193) rfl (q32 (pe_fn c__law_ways (hr.mono (ZG _)) () (q10 (pix q26 (pv 0) (pe_op q29 q14 (pv 2))) q12))) (fun C s₂ H₂ fp=>(pe_op (op_catUK (K:=K) rfl) (q30 (q10 (pv 1) q12)) (pv 0))) (by ac_rfl) ⟨by ac_rfl,trivial⟩ rfl rfl rfl cok rfl)))))
 (q16 (q19 (pv 1)))))),?_⟩
 have hen':e<=40:=hen
 cases p with
 | all n=>
  obtain⟨a,rfl,h⟩:=hp
  refine⟨_,rfl,a,_,_,_,rfl,rfl,SqT.of h,rfl,rfl,_,rfl,ite2 (fun _=>?_) (na rfl)⟩
  exact⟨szb rfl,fun D hD=>q D [] _ (q15 hD _) hD q13 .nil⟩
 | split n l r=>
  obtain⟨a,x,y,rfl,h,hx,hy⟩:=hp
  refine⟨_,rfl,a,_,_,_,rfl,rfl,SqT.of h,rfl,rfl,_,rfl,ite2 (fun z=>absurd (ZH z) (by intro z;injection z with z;exact absurd z {})) (fun _=>?_)⟩
  have hdp':max (dpP l) (dpP r)+1<=e:=hdp
  have hlv':l.leaves+r.leaves<=90000:=hlv
  have wl:=q165 l
  have wr:=q165 r
  obtain⟨e,rfl⟩:∃ e',e=e'+1:=⟨e-1,∅⟩
  refine⟨szb rfl,fun t0 ht0=>⟨szb rfl,fun D0 hD0=>?_⟩⟩
  have s0:=q15 ht0 (.tup [])
  have e0:=@q13 H t0 (.tup [])
  generalize upd H t0 (.tup [])=H0 at *
  have s1:=q15 hD0 (.lst [V.ref t0])
  have e1:=@q13 H0 D0 (.lst [V.ref t0])
  have s01:=s0.trans s1
  have hnD:H D0=none:=q196 s0 hD0
  have ew:WyAt K (upd H0 D0 (.lst [V.ref t0])) (.ref t0) []:=⟨t0,rfl,SqT.of (s1 _ _ e0)⟩
  generalize upd H0 D0 (.lst [V.ref t0])=H1 at *
  refine⟨szb rfl,fun tp htp=>?_⟩
  have s2:=q15 htp (.tup [V.int 0,.int 1])
  have e2:=@q13 H1 tp (.tup [V.int 0,.int 1])
  have s02:=s01.trans s2
  have hD2:=s2 _ _ e1
  have ew2:=ew.same s2
  generalize upd H1 tp (.tup [V.int 0,.int 1])=H2 at *
  refine⟨tp,rfl,⟨_,SqT.of e2⟩,q289 (K:=K) (a:=tp) (xs:=[V.int 0,.int 1]) (fun i σ G=>∃(D:Addr)(zs:List V)(w2:Option V),σ=[some (.ref a),some (.ref D),w2]/\Same H2 G/\G D=some (.lst zs)/\H D=none/\Paired (WyAt K G) zs ([[]]++([(waysP l).map fun x=>0::x,(waysP r).map fun x=>1::x].take i).flatten))
   ⟨D0,_,_,rfl,Same.refl _,hD2,hnD,.cons ew2 .nil⟩ (fun i σ G _ ⟨_,_,_,_,s,_⟩=>SqT.of (s _ _ e2)) ?_ ?_⟩
  ·rintro i y' σ G hi ⟨D,zs,w2,rfl,sG,hDG,hnG,hzs⟩
   obtain⟨mk,vv,xx,rfl,hat,hxx,hfl,hlv2,hdp2,hcn⟩:∃(mk:Int)(vv:V)(xx:Pp),y' = .int mk/\atI [V.str "split", V.int n,x,y] (2+mk)=some vv/\PpAt H vv xx/\[(waysP l).map fun x=>0::x,(waysP r).map fun x=>1::x][i]? = some ((waysP xx).map fun x=>mk::x)/\xx.leaves<=90000/\dpP xx<=e/\(([(waysP l).map fun x=>0::x,(waysP r).map fun x=>1::x].take i).flatten:LL).length+(waysP xx).length<=(waysP l).length+(waysP r).length:=by
    match i,hi with
    | 0,hi=>cases hi;exact⟨0,x,_,rfl,rfl,hx,rfl,∅,∅,by show 0+_<=_;lia⟩
    | 1,hi=>cases hi;exact⟨1,y,_,rfl,rfl,hy,rfl,∅,∅,by show List.length (_++[])+_<=_;rw[append_nil,ZN];exact ZG _⟩
   have sHG:=s02.trans sG
   refine⟨_,rfl,_,rfl,_,rfl,_,_,rfl,rfl,a,_,_,_,rfl,rfl,SqT.of (sHG _ _ h),hat,vv,xx,rfl,hxx.same sHG,hdp2,hlv2,fun E ys G1 t1 hE0 hE hys=>?_⟩
   have hyl:=Paired.length hys
   have wxx:=q165 xx
   refine⟨E,rfl,⟨_,SqL.of hE⟩,fun Dc hDc=>?_⟩
   refine q70 (K:=K) (xs:=ys) (szB ∅) (fun j out G2=>G2 Dc=some (.lst out)/\Same G1 G2/\out.length=j/\Paired (WyAt K G2) out (((waysP xx).map fun x=>mk::x).take j)) ⟨q13,q15 hDc _,rfl,.nil⟩ (fun j out G2 ⟨_,s,_⟩=>SqL.of (s _ _ hE)) (fun j out G2 ⟨a1,_,a3,_⟩=>⟨a1,a3⟩) ?_ ?_
   ·rintro j z out G2 hj ⟨a1,sG2,a3,a4⟩
    obtain⟨wy,gwy,wa,rfl,hwa⟩:=q108 hys hj
    have hwl:=q434 wy (WV gwy)
    refine⟨_,rfl,szb rfl,fun t3 ht3=>?_⟩
    have s3:=q15 ht3 (.tup [V.int mk])
    have e3:=@q13 G2 t3 (.tup [V.int mk])
    have a1':=s3 _ _ a1
    have a4':Paired (WyAt K (upd G2 t3 (.tup [V.int mk]))) out _:=L2.Paired.mapP a4 fun _ _ z=>z.same s3
    generalize upd G2 t3 (.tup [V.int mk])=G3' at *
    refine⟨_,rfl,t3,wa,_,_,rfl,rfl,SqT.of e3,(sG2.trans s3).seqT hwa,sz (by rw[ZN];show 1+_<=_;lia),fun p4 G4 s4 hp4 _=>?_⟩
    have a1'':=s4 _ _ a1'
    exists a1'',q13,Same.own ((sG2.trans s3).trans s4) hDc,by rw[ZV,a3];rfl
    rw[WU,WN,gwy]
    exact q77 (L2.Paired.mapP a4' fun _ _ z=>(z.same s4).put a1'') (.cons (WyAt.put a1'' ⟨p4,rfl,hp4⟩) .nil)
   ·rintro out G2 ⟨a1,sG2,a3,a4⟩
    have el:ys.length=((waysP xx).map fun x=>mk::x).length:=by rw[hyl,ZN]
    rw[el,YD]at a4
    have hDG2:=sG2 _ _ (t1 _ _ hDG)
    have hzl:=Paired.length hzs
    have hzb:zs.length+out.length<=100000:=by
     rw[ZV]at hzl
     have h1:([[]]:LL).length=1:=rfl
     rw[a3,hyl]
     lia
    refine⟨D,Dc,zs,out,rfl,rfl,hDG2,a1,szB hzb,fun D9 hD9=>?_⟩
    have s9:=q15 hD9 (.lst (zs++out))
    exists D9,_,_,rfl,sG.trans ((t1.trans sG2).trans s9),q13,q196 (sHG.trans (t1.trans sG2)) hD9
    rw[WU,hfl,flatten_append,<- YW]
    refine q77 (L2.Paired.mapP hzs fun _ _ z=>((z.same t1).same sG2).same s9) ?_
    show Paired _ _ (((waysP xx).map fun x=>mk::x)++[])
    rw[append_nil]
    exact L2.Paired.mapP a4 fun _ _ z=>z.same s9
  ·rintro σ G ⟨D,zs,w2,rfl,sG,hDG,hnG,hzs⟩
   refine⟨_,rfl,q D zs G (s02.trans sG) hnG hDG ?_⟩
   have e3:([[]]++([(waysP l).map fun x=>0::x,(waysP r).map fun x=>1::x].take [V.int 0,.int 1].length).flatten:LL)=waysP (.split n l r):=by
    show[[]]++(_++(_++[]))=[[]]++_++_
    rw[append_nil,YW]
   rw[e3]at hzs
   exact hzs
theorem q333:z.C P w 41 "_law_without" ["_law_paper", "_law_way"] (q332 K):=by
 have sc:=q312
 refine z.d__law_without.recur (k:=q331) (sp:=q86 K) q153 fun e hen c__law_without f fd F=>F.k sc fun _ _ _ s H _ Q _ hr h=>?_
 obtain⟨v,p,wa,x,rfl,hp,hwa,hx,hdp,q⟩:=h
 refine⟨_,(q11 (ps_if (q18 (q684 hr.units0) (pv 1) (q30 q12) (q20 _))
 (q16 (q19 (q30 (q10 q34 (q10 (pix q26 (pv 0) q14) q12)))))
 q21)
 (q11 (ps_if (q18 op_eq (pix q26 (pv 1) q14) q14 (q20 _))
 (q16 (q19 (pe_op q399 (q124 q548 (pv 0) q187 (q188 q14)) (q30 (q10 (pe_fn c__law_without (hr.mono (ZG _)) () (q10 (pix q26 (pv 0) q14) (q10 (q124 q548 (pv 1) (q188 q14) q187) q12))) (q10 (pix q26 (pv 0) q14) q12))))))
 q21)
 (q16 (q19 (pe_op q399 (q124 q548 (pv 0) q187 (q188 q14)) (q30 (q10 (pe_fn c__law_without (hr.mono (ZG _)) () (q10 (pix q26 (pv 0) q14) (q10 (q124 q548 (pv 1) (q188 q14) q187) q12))) q12))))))),?_⟩
 have hen':e<=40:=hen
 cases p with
 | all n=>cases hx
 | split n l r=>
  obtain⟨a,u,y,rfl,h,hu,hy⟩:=hp
  have hdp':max (dpP l) (dpP r)+1<=e:=hdp
  obtain⟨e,rfl⟩:∃ e',e=e'+1:=⟨e-1,∅⟩
  have hwl:=q434 x hx
  refine⟨_,rfl,szb rfl,fun t0 ht0=>?_⟩
  have s0:=q15 ht0 (.tup [])
  have e0:=@q13 H t0 (.tup [])
  generalize upd H t0 (.tup [])=H0 at *
  exists wa,t0,_,rfl,rfl,s0.seqT hwa,SqT.of e0,_,rfl
  rcases List.mem_append.mp hx with hx | hx
  ·rcases List.mem_append.mp hx with hx | hx
   ·cases List.mem_singleton.mp hx
    refine ite2 (fun _=>?_) nr
    refine⟨_,rfl,a,_,_,_,rfl,rfl,SqT.of (s0 _ _ h),rfl,szb rfl,fun t ht=>?_⟩
    exact q _ _ (s0.trans (q15 ht _)) ⟨t,rfl,q13⟩
   ·obtain⟨x',hx',rfl⟩:=List.mem_map.mp hx
    rw[q430]at q
    refine ite2 nf (fun _=>?_)
    refine⟨_,rfl,wa,_,_,_,rfl,rfl,s0.seqT hwa,q61 (j:=0) rfl,rfl,_,rfl,ite2 (fun _=>?_) (na rfl)⟩
    refine⟨_,rfl,_,rfl,a,_,rfl,SqT.of (s0 _ _ h),(fun z=>absurd z.2 (show ¬ HT.sIx 4 4 (some 2)=4 by decide)),fun b1 hb1=>?_⟩
    have s1:=q15 hb1 (.tup (cutV [V.str "split", .int n,u,y] none (some 2)))
    have e1:upd H0 b1 (.tup (cutV [V.str "split", .int n,u,y] none (some 2))) b1=some (.tup [V.str "split", .int n]):=q13
    generalize upd H0 b1 (.tup (cutV [V.str "split", .int n,u,y] none (some 2)))=H1 at *
    have s01:=s0.trans s1
    refine⟨_,rfl,a,_,_,_,rfl,rfl,SqT.of (s01 _ _ h),rfl,_,rfl,_,rfl,wa,_,rfl,s01.seqT hwa,(fun z=>absurd z.1 (by show ¬ HT.sIx (x'.map V.int).length.succ 0 (some 1)=0;rw[show(some (1:Int))=some ((1:Nat):Int)from rfl,HT.q753];lia)),fun b2 hb2=>?_⟩
    have ec:cutV ((0::x').map V.int) (some 1) none=x'.map V.int:=cut1 _ _
    rw[ec]
    have s2:=q15 hb2 (.tup (x'.map V.int))
    have e2:=@q13 H1 b2 (.tup (x'.map V.int))
    generalize upd H1 b2 (.tup (x'.map V.int))=H2 at *
    have s02:=s01.trans s2
    refine⟨u,l,b2,x',rfl,hu.same s02,SqT.of e2,hx',∅,fun H3 u' s3 hu'=>?_⟩
    have s03:=s02.trans s3
    refine⟨_,rfl,a,_,_,_,rfl,rfl,SqT.of (s03 _ _ h),rfl,szb rfl,fun b4 hb4=>?_⟩
    have s4:=q15 hb4 (.tup [u',y])
    have e4:=@q13 H3 b4 (.tup [u',y])
    generalize upd H3 b4 (.tup [u',y])=H4 at *
    refine⟨b1,b4,_,_,rfl,rfl,SqT.of (((s2.trans s3).trans s4) _ _ e1),SqT.of e4,szb rfl,fun b5 H5 s5 _ h5=>?_⟩
    exact q H5 _ ((s03.trans s4).trans s5) ⟨b5,u',y,rfl,h5 (((s2.trans s3).trans s4) _ _ e1) e4,hu'.same (s4.trans s5),hy.same ((s03.trans s4).trans s5)⟩
  ·obtain⟨x',hx',rfl⟩:=List.mem_map.mp hx
   rw[q431]at q
   refine ite2 nf (fun _=>?_)
   refine⟨_,rfl,wa,_,_,_,rfl,rfl,s0.seqT hwa,q61 (j:=0) rfl,rfl,_,rfl,ite2 (fun z=>absurd (V.int.inj (ZH z)) {}) (fun _=>?_)⟩
   refine⟨_,rfl,_,rfl,a,_,rfl,SqT.of (s0 _ _ h),(fun z=>absurd z.2 (show ¬ HT.sIx 4 4 (some 3)=4 by decide)),fun b1 hb1=>?_⟩
   have s1:=q15 hb1 (.tup (cutV [V.str "split", .int n,u,y] none (some 3)))
   have e1:upd H0 b1 (.tup (cutV [V.str "split", .int n,u,y] none (some 3))) b1=some (.tup [V.str "split", .int n,u]):=q13
   generalize upd H0 b1 (.tup (cutV [V.str "split", .int n,u,y] none (some 3)))=H1 at *
   have s01:=s0.trans s1
   refine⟨_,rfl,a,_,_,_,rfl,rfl,SqT.of (s01 _ _ h),rfl,_,rfl,_,rfl,wa,_,rfl,s01.seqT hwa,(fun z=>absurd z.1 (by show ¬ HT.sIx (x'.map V.int).length.succ 0 (some 1)=0;rw[show(some (1:Int))=some ((1:Nat):Int)from rfl,HT.q753];lia)),fun b2 hb2=>?_⟩
   have ec:cutV ((1::x').map V.int) (some 1) none=x'.map V.int:=cut1 _ _
   rw[ec]
   have s2:=q15 hb2 (.tup (x'.map V.int))
   have e2:=@q13 H1 b2 (.tup (x'.map V.int))
   generalize upd H1 b2 (.tup (x'.map V.int))=H2 at *
   have s02:=s01.trans s2
   refine⟨y,r,b2,x',rfl,hy.same s02,SqT.of e2,hx',∅,fun H3 u' s3 hu'=>?_⟩
   have s03:=s02.trans s3
   refine⟨szb rfl,fun b4 hb4=>?_⟩
   have s4:=q15 hb4 (.tup [u'])
   have e4:=@q13 H3 b4 (.tup [u'])
   generalize upd H3 b4 (.tup [u'])=H4 at *
   refine⟨b1,b4,_,_,rfl,rfl,SqT.of (((s2.trans s3).trans s4) _ _ e1),SqT.of e4,szb rfl,fun b5 H5 s5 _ h5=>?_⟩
   exact q H5 _ ((s03.trans s4).trans s5) ⟨b5,u,u',rfl,h5 (((s2.trans s3).trans s4) _ _ e1) e4,hu.same ((s03.trans s4).trans s5),hu'.same (s4.trans s5)⟩
noncomputable def Qs.wd:Qs->Str
 | .below _ _ => "below"
 | .least _ _ => "least"
 | .most _ _ => "most"
 | .often _ _ => "often"
 | .up _ _ => "up"
noncomputable def Qs.nm:Qs->Int
 | .below n _=>n
 | .least k _=>(k:Int)
 | .most _ _=>0
 | .often part _=>part
 | .up n _=>n
noncomputable def TvAt(av:List Addr)(H:Hp)(tv:V):Qs->Prop
 | .below _ a=>tv = .int a
 | .least _ wo=>tv = .int wo
 | .most wo m=>PrR H tv (wo,m)
 | .often _ ps=>∃ D ts,tv = .ref D/\H D=some (.lst ts)/\Paired (PrR H) ts ps/\D ∉ av
 | .up _ o=>OptR H tv o
noncomputable def AskAt(av:List Addr)(H:Hp)(aa:Addr)(q:Qs):Prop:=∃ tv,H aa=some (.tup [.str q.wd,.int q.nm,tv])/\TvAt av H tv q
theorem AskAt.keep(h:AskAt av H aa q)(k:TKeep H H')(kl:∀ a xs,a ∉ av->H a=some (.lst xs)->H' a=some (.lst xs)):AskAt av H' aa q:=by
 obtain⟨tv,e,h⟩:=h
 exists tv,(k _ _).1 e
 cases q with
 | below n a=>exact h
 | least k wo=>exact h
 | most wo m=>exact PrR.tk k h
 | often part ps=>
  obtain⟨D,ts,e1,e2,e3,e4⟩:=h
  exact⟨D,ts,e1,kl _ _ e4 e2,L2.Paired.mapP e3 fun _ _ z=>z.tk k,e4⟩
 | up n o=>exact OptR.tk k h
theorem AskAt.same(h:AskAt av H aa q)(s:Same H H'):AskAt av H' aa q:=h.keep (.same s) fun a xs _ e=>s _ _ e
theorem AskAt.add(h:AskAt av H aa q)(n:H D=none):AskAt (D::av) H aa q:=by
 obtain⟨tv,e,h⟩:=h
 exists tv,e
 cases q with
 | often part ps=>
  obtain⟨D',ts,e1,e2,e3,e4⟩:=h
  refine⟨D',ts,e1,e2,e3,fun z=>?_⟩
  rcases List.mem_cons.mp z with z | z
  ·rw[z,n]at e2;cases e2
  ·exact e4 z
 | below n a=>exact h
 | least k wo=>exact h
 | most wo m=>exact h
 | up n o=>exact h
theorem AskAt.kp(h:AskAt av H aa q)(k:KpT H H'):AskAt av H' aa q:=h.keep k.tk fun a xs _ e=>k.l e
inductive TolW(low:Int)(L:Nat)(us:List Int):Str->Int->(List Int->Bool)->Prop
 | below (n:Int):TolW low L us "below" n (psB n)
 | least (k:Nat) (h:k<us.length):TolW low L us "least" (k:Int) (psL (low+kth L us k))
 | most (n wo m:Int) (h:bst (caF 1 0 L low us)=some (wo,m)):TolW low L us "most" n (psM wo m)
 | often (n:Int) (h0:0<=n) (h1:n<=1000):TolW low L us "often" n (psO n (us.length:Nat))
 | up (n:Int):TolW low L us "up" n (psU n ((stp L low us).find? fun q=>decide (n<q.1)))
inductive NoW(low:Int)(L:Nat)(us:List Int):Str->Int->Prop
 | least (n:Int) (h:n<0\/(us.length:Nat)<=n):NoW low L us "least" n
 | most (n:Int) (h:bst (caF 1 0 L low us)=none):NoW low L us "most" n
inductive q228(K:Fg)(cN:Addr)(vs:List V)(H:Hp)(Q:VK)(E:XK):Prop
 |mk(b ga aa:Addr)(xs:List V)(low n:Int)(L:Nat)(gs:List G3)(wd:Str)(tv:V)(_:vs=[.ref b,.ref ga,.ref aa])(_:H aa=some (.tup [.str wd,.int n,tv]))(_:Gth K H b ga xs low L gs)(_:((∃ ψ,TolW low L (Wh gs) wd n ψ/\ToldP low L gs ψ H Q)\/(NoW low L (Wh gs) wd n /\ ∀ H',Same H H'->E (.ref cN) none H')))
inductive q273(K:Fg)(vs:List V)(H:Hp)(Q:VK)(E:XK):Prop
 |mk(b ga aa:Addr)(xs:List V)(low n:Int)(L:Nat)(gs:List G3)(wd:Str)(tv:V)(ψ:List Int->Bool)(_:vs=[.ref b,.ref ga,.ref aa])(_:H aa=some (.tup [.str wd,.int n,tv]))(_:Gth K H b ga xs low L gs)(_:TolW low L (Wh gs) wd n ψ)(_:ToldP low L gs ψ H Q)
inductive q229(K:Fg)(vs:List V)(H:Hp)(Q:VK)(E:XK):Prop
 |mk(b ga aa:Addr)(av:List Addr)(xs:List V)(low:Int)(L:Nat)(gs:List G3)(q:Qs)(v:V)(p:Pp)(_:vs=[.ref b,.ref ga,v,.ref aa])(_:AskAt av H aa q)(_:Gth K H b ga xs low L gs)(_:PpAt H v p)(_:q43 L (Wh gs) p)(_:p.leaves<=90000)(_:∀ H',Same H H'->Q (.bl (q.sh (Wh gs).length (q25 L low p))) H')
inductive q154(K:Fg)(vs:List V)(H:Hp)(Q:VK)(E:XK):Prop
 |mk(b ga aa:Addr)(xs:List V)(low n:Int)(L:Nat)(gs:List G3)(wd:Str)(tv:V)(_:vs=[.ref b,.ref ga,.ref aa])(_:H aa=some (.tup [.str wd,.int n,tv]))(_:Gth K H b ga xs low L gs)(_:NoW low L (Wh gs) wd n)(_:∀ H',Same H H'->Q (.bl true) H')
theorem wdn(h:a≠b):decide (V.str a=V.str b)=false:=ZK fun z=>h (V.str.inj z)
theorem q436:∀{e:Nat}{low:Int}{us:List Int}{p:Pp},q43 e us p -> ∀ c∈q25 e low p,0<=c.2.2/\c.2.2<=(us.length:Int)
 | e,low,us,.all n,d,c,hc=>by
  rw[q122]at hc
  have hn:=q323 d
  rw[List.mem_singleton.mp hc]
  show 0<=n/\n<=_
  have:n=(us.length:Int):=hn
  lia
 | e+1,low,us,.split n l r,d,c,hc=>by
  have hs:=q217 (e:=e) us
  rcases List.mem_append.mp (show c∈q25 e low l++q25 e (low+2^e) r from hc)with h | h
  ·have:=q436 d.2.1 c h
   lia
  ·have:=q436 d.2.2 c h
   lia
theorem q230(z:Bz K mg base uA uB uI uF uC uE uD):CalX P w K mg base 48 "_law_told" ["_law_bounds_here", "_law_gathering_here", "_law_ask_here"] (q228 K uC):=by
 have sc:=q479
 refine z.d__law_told.calx fun f fd F=>F.okx sc (fun vs H Q E h=>?_) (fun _ _ _ s H _ Q _ hr h=>?_)
 ·obtain⟨b,ga,aa,xs,low,n,L,gs,wd,tv,rfl,_⟩:=h
  rfl
 obtain⟨b,ga,aa,xs,low,n,L,gs,wd,tv,rfl,ha,g,hq⟩:=h
 refine⟨_,(q11 (q363 (pv 2) (q200 rfl (q28 (pgn 3 sc.nd) (q28 (pgn 4 sc.nd) (q28 (pgn 5 sc.nd) q97)))))
 (q11 (ps_if (q18 op_eq (pv 3) q34 (q20 _))
 (q16 (q19 (pe_fn (q359 z) hr.m () (q10 (pv 0) (q10 (pv 1) (q10 (pv 4) q12))))))
 q21)
 (q11 (ps_if (q18 op_eq (pv 3) q34 (q20 _))
 (q16 (q19 (q699 lv_of (q327 z) hr.m () (q10 (pv 0) (q10 (pv 1) (q10 (pv 4) q12))))))
 q21)
 (q11 (ps_if (q18 op_eq (pv 3) q34 (q20 _))
 (q16 (q19 (q699 lv_of (q361 z) hr.m () (q10 (pv 0) (q10 (pv 1) q12)))))
 q21)
 (q11 (ps_if (q18 op_eq (pv 3) q34 (q20 _))
 (q16 (q19 (pe_fn (q360 z) hr.m () (q10 (pv 0) (q10 (pv 1) (q10 (pv 4) q12))))))
 q21)
 (q16 (q19 (pe_fn (q538 z) hr.m () (q10 (pv 0) (q10 (pv 1) (q10 (pv 4) q12))))))))))),?_⟩
 exists _,rfl,aa,_,rfl,SqT.of ha,rfl,_,_,rfl,_,_,rfl,_,_,rfl,rfl
 exists _,rfl,rfl,_,rfl
 rcases hq with ⟨ψ,tw,q⟩ | ⟨nw,qE⟩
 ·cases tw with
  | below n=>exact ite2 (fun _=>⟨_,rfl,_,rfl,_,rfl,b,ga,xs,low,n,L,gs,rfl,g,q⟩) (na rfl)
  | least k hk=>
   rw[wdn (by decide +kernel)]
   refine iteF ⟨_,rfl,rfl,_,rfl,ite2 (fun _=>?_) (na rfl)⟩
   exact⟨_,rfl,_,rfl,_,rfl,b,ga,xs,low,_,L,gs,rfl,g,fun kn ek hkn=>by cases Int.ofNat.inj ek;exact q,fun H' s' z=>absurd z ∅⟩
  | most n wo m hb=>
   rw[wdn (by decide +kernel)]
   refine iteF ⟨_,rfl,rfl,_,rfl,?_⟩
   rw[wdn (by decide +kernel)]
   refine iteF ⟨_,rfl,rfl,_,rfl,ite2 (fun _=>?_) (na rfl)⟩
   exact⟨_,rfl,_,rfl,b,ga,xs,low,L,gs,rfl,g,fun wo' m' e=>by rw[hb]at e;cases e;exact q,fun H' s' e=>by rw[hb]at e;cases e⟩
  | often n h0 h1=>
   rw[wdn (by decide +kernel)]
   refine iteF ⟨_,rfl,rfl,_,rfl,?_⟩
   rw[wdn (by decide +kernel)]
   refine iteF ⟨_,rfl,rfl,_,rfl,?_⟩
   rw[wdn (by decide +kernel)]
   refine iteF ⟨_,rfl,rfl,_,rfl,ite2 (fun _=>?_) (na rfl)⟩
   exact⟨_,rfl,_,rfl,_,rfl,b,ga,xs,low,_,L,gs,rfl,g,h0,h1,q⟩
  | up n=>
   rw[wdn (by decide +kernel)]
   refine iteF ⟨_,rfl,rfl,_,rfl,?_⟩
   rw[wdn (by decide +kernel)]
   refine iteF ⟨_,rfl,rfl,_,rfl,?_⟩
   rw[wdn (by decide +kernel)]
   refine iteF ⟨_,rfl,rfl,_,rfl,?_⟩
   rw[wdn (by decide +kernel)]
   refine iteF ?_
   exact⟨_,rfl,_,rfl,_,rfl,b,ga,xs,low,_,L,gs,rfl,g,q⟩
 ·cases nw with
  | least n hn=>
   rw[wdn (by decide +kernel)]
   refine iteF ⟨_,rfl,rfl,_,rfl,ite2 (fun _=>?_) (na rfl)⟩
   exact⟨_,rfl,_,rfl,_,rfl,b,ga,xs,low,_,L,gs,rfl,g,fun kn ek hkn=>absurd hn ∅,fun H' s' _=>qE H' s'⟩
  | most n hb=>
   rw[wdn (by decide +kernel)]
   refine iteF ⟨_,rfl,rfl,_,rfl,?_⟩
   rw[wdn (by decide +kernel)]
   refine iteF ⟨_,rfl,rfl,_,rfl,ite2 (fun _=>?_) (na rfl)⟩
   exact⟨_,rfl,_,rfl,b,ga,xs,low,L,gs,rfl,g,fun wo' m' e=>(by rw[hb]at e;cases e),fun H' s' _=>qE H' s'⟩
theorem q274:z.C P w 48 "_law_told" pn0 (q273 K):=
 (q230 z).cal fun vs H Q E ⟨b,ga,aa,xs,low,n,L,gs,wd,tv,ψ,e,h1,h2,h3,h4⟩=>⟨b,ga,aa,xs,low,n,L,gs,wd,tv,e,h1,h2,.inl ⟨ψ,h3,h4⟩⟩
theorem q231:z.C P w 48 "_law_shown" pn3 (q229 K):=by
 have sc:=q418
 refine z.d__law_shown.cal fun f fd F=>F.k sc fun _ _ _ s H _ Q _ hr h=>?_
 obtain⟨b,ga,aa,av,xs,low,L,gs,qs,v,p,rfl,⟨tv,ha,ht⟩,g,hp,hd,hlv,q⟩:=h
 refine⟨_,(q11 (q363 (pv 3) (q200 rfl (q28 (pgn 4 sc.nd) (q28 (pgn 5 sc.nd) (q28 (pgn 6 sc.nd) q97)))))
 (q11 (ps_if (q18 op_eq (pv 4) q34 (q20 _))
 (q16 (q19 (pe_fn (q355 z) hr.m () (q10 (pv 0) (q10 (pv 1) (q10 (pv 2) (q10 (pv 5) (q10 (pv 6) q12))))))))
 q21)
 (q11 (ps_if (q18 op_eq (pv 4) q34 (q20 _))
 (q16 (q19 (pe_fn (q356 z) hr.m () (q10 (pv 0) (q10 (pv 1) (q10 (pv 2) (q10 (pv 5) (q10 (pv 6) q12))))))))
 q21)
 (q11 (ps_if (q18 op_eq (pv 4) q34 (q20 _))
 (q16 (q19 (pe_fn (q428 z) hr.m () (q10 (pv 0) (q10 (pv 1) (q10 (pv 2) (q10 (pix q26 (pv 6) q14) (q10 (pix q26 (pv 6) q14) q12))))))))
 q21)
 (q11 (ps_if (q18 op_eq (pv 4) q34 (q20 _))
 (q16 (q19 (pe_fn (q358 z) hr.m () (q10 (pv 0) (q10 (pv 1) (q10 (pv 2) (q10 (pv 5) (q10 (pv 6) q12))))))))
 q21)
 (q16 (q19 (pe_fn (q537 z) hr.m () (q10 (pv 0) (q10 (pv 1) (q10 (pv 2) (q10 (pv 5) (q10 (pv 6) q12))))))))))))),?_⟩
 obtain⟨wd,ewd⟩:∃ x,qs.wd=x:=⟨_,rfl⟩
 rw[ewd]at ha
 exists _,rfl,aa,_,rfl,SqT.of ha,rfl,_,_,rfl,_,_,rfl,_,_,rfl,rfl
 exists _,rfl,rfl,_,rfl
 cases qs with
 | below n a=>
  cases(show("below" : Str)=wd from ewd)
  cases(show tv = .int a from ht)
  exact ite2 (fun _=>⟨_,rfl,_,rfl,_,rfl,_,rfl,_,rfl,b,ga,v,p,low,n,a,L,xs,gs,rfl,SqT.of g.b,g.le,g.g,g.at_,g.gd,g.ln,hp,hd,∅,q⟩) (na rfl)
 | least k wo=>
  cases(show("least" : Str)=wd from ewd)
  cases(show tv = .int wo from ht)
  rw[wdn (by decide +kernel)]
  refine iteF ⟨_,rfl,rfl,_,rfl,ite2 (fun _=>?_) (na rfl)⟩
  exact⟨_,rfl,_,rfl,_,rfl,_,rfl,_,rfl,b,ga,v,p,low,_,wo,L,xs,gs,rfl,SqT.of g.b,g.le,g.g,g.at_,g.gd,g.ln,hp,hd,∅,q⟩
 | most wo m=>
  cases(show("most" : Str)=wd from ewd)
  obtain⟨a0,rfl,ha0⟩:PrR H tv (wo,m):=ht
  rw[wdn (by decide +kernel)]
  refine iteF ⟨_,rfl,rfl,_,rfl,?_⟩
  rw[wdn (by decide +kernel)]
  refine iteF ⟨_,rfl,rfl,_,rfl,ite2 (fun _=>?_) (na rfl)⟩
  exact⟨_,rfl,_,rfl,_,rfl,_,rfl,a0,_,_,_,rfl,rfl,SqT.of ha0,rfl,_,rfl,a0,_,_,_,rfl,rfl,SqT.of ha0,rfl,b,ga,v,p,low,wo,m,L,xs,gs,rfl,SqT.of g.b,g.le,g.g,g.at_,g.gd,g.ln,hp,hd,∅,q⟩
 | often part ps=>
  cases(show("often" : Str)=wd from ewd)
  obtain⟨D,ts,rfl,hD,hts,_⟩:=ht
  rw[wdn (by decide +kernel)]
  refine iteF ⟨_,rfl,rfl,_,rfl,?_⟩
  rw[wdn (by decide +kernel)]
  refine iteF ⟨_,rfl,rfl,_,rfl,?_⟩
  rw[wdn (by decide +kernel)]
  refine iteF ⟨_,rfl,rfl,_,rfl,ite2 (fun _=>?_) (na rfl)⟩
  have hm:=q323 hd
  have q':∀ H',Same H H'->Q (.bl (ansF (oftF part p.m (q25 L low p)) ps)) H':=fun H' s'=>by rw[hm];exact q H' s'
  exact⟨_,rfl,_,rfl,_,rfl,_,rfl,_,rfl,b,ga,D,v,p,low,part,ts,ps,L,xs,gs,rfl,hD,hts,SqT.of g.b,g.le,g.g,g.at_,g.gd,g.ln,hp,hd,hlv,fun c hc=>by have:=q436 hd c hc;have:=g.few;lia,q'⟩
 | up n o=>
  cases(show("up" : Str)=wd from ewd)
  rw[wdn (by decide +kernel)]
  refine iteF ⟨_,rfl,rfl,_,rfl,?_⟩
  rw[wdn (by decide +kernel)]
  refine iteF ⟨_,rfl,rfl,_,rfl,?_⟩
  rw[wdn (by decide +kernel)]
  refine iteF ⟨_,rfl,rfl,_,rfl,?_⟩
  rw[wdn (by decide +kernel)]
  refine iteF ?_
  exact⟨_,rfl,_,rfl,_,rfl,_,rfl,_,rfl,b,ga,v,tv,p,low,n,o,L,xs,gs,rfl,ht,SqT.of g.b,g.le,g.g,g.at_,g.gd,g.ln,hp,hd,∅,q⟩
theorem q155:z.C P w 49 "_law_refused" pn0 (q154 K):=by
 have sc:=q313
 refine z.d__law_refused.cal fun f fd F=>F.k sc fun _ _ _ s H _ Q _ hr h=>?_
 obtain⟨b,ga,aa,xs,low,n,L,gs,wd,tv,rfl,ha,g,nw,q⟩:=h
 refine⟨_,(q11 (pst 3 sc.nd (q42 q12))
 (q11 (ps_tryD (i:=4) rfl rfl (q230 z) hr.m () (q10 (pv 0) (q10 (pv 1) (q10 (pv 2) q12))) () z.m_LeastError sc.nd rfl rfl (fun _=>
 (q16 (pst 3 sc.nd (q42 (q10 (q35 (call_isE (K:=K) rfl) () z.isinstance_ q36 (q10 (pv 4) (q10 (q233 (v:=.ref uC) (u:=.ref uC) () z.m_NoSuch rfl) q12))) (q10 (q35 (q674 (K:=K) rfl) () z.isinstance_ q36 (q10 (pv 4) (q10 (q30 (q10 (q233 (v:=.ref uB) (u:=.ref uB) () z.m_Beyond rfl) (q10 (q233 (v:=.ref uI) (u:=.ref uI) () z.m_NoBounds rfl) (q10 (q233 (v:=.ref uF) (u:=.ref uF) () z.m_NoRow rfl) (q10 (q233 (v:=.ref uE) (u:=.ref uE) () z.m_NoText rfl) (q10 (q233 (v:=.ref uD) (u:=.ref uD) () z.m_TooMany rfl) q12)))))) q12))) q12)))))))
 (q16 (q19 (q41 (op_eqF hr.units0) (pv 3) (q42 (q10 pe_bl (q10 pe_bl q12))) (q20 _)))))),?_⟩
 refine⟨szb rfl,fun p0 h0=>?_⟩
 have s0:=q15 h0 (.lst [])
 refine⟨_,rfl,_,rfl,_,rfl,b,ga,aa,xs,low,n,L,gs,wd,tv,rfl,s0 _ _ ha,g.kp (.of s0) (g.tb.same s0),.inr ⟨nw,fun H1 s1=>⟨z.exm,fun x hx=>?_⟩⟩⟩
 have ex:=@q13 H1 x (ExcO x (.ref uC) none)
 have s2:Same H (upd H1 x (ExcO x (.ref uC) none)):=(s0.trans s1).trans (q15 hx _)
 generalize upd H1 x (ExcO x (.ref uC) none)=H2 at *
 have ea:∀{H':Hp},Same H2 H'->EAt K H' x uC:=fun s'=>⟨z.ecl,none,s' _ _ ex,fun _ y=>nomatch y⟩
 refine⟨_,rfl,x,uC,_,_,_,rfl,ea (Same.refl _),.own _,z.kA,_,rfl,szb rfl,fun p4 h4=>?_⟩
 have s4:=q15 h4 (.tup [.ref uB,.ref uI,.ref uF,.ref uE,.ref uD])
 refine⟨x,uC,p4,_,_,_,rfl,ea s4,SqT.of q13,.cons (.own _) (.cons (.own _) (.cons (.own _) (.cons (.own _) (.cons (.own _) .nil)))),z.kC,szb rfl,fun l5 h5=>?_⟩
 generalize upd H2 p4 (.tup [.ref uB,.ref uI,.ref uF,.ref uE,.ref uD])=H4 at *
 have s5:=q15 h5 (.lst [V.bl true,.bl false])
 have e5:=@q13 H4 l5 (.lst [V.bl true,.bl false])
 generalize upd H4 l5 (.lst [V.bl true,.bl false])=H5 at *
 refine⟨_,rfl,szb rfl,fun p6 h6=>⟨l5,p6,_,_,rfl,rfl,SqL.of (q15 h6 _ _ _ e5),SqL.of q13,rfl,rfl,rfl,?_⟩⟩
 exact q _ (((s2.trans s4).trans s5).trans (q15 h6 _))
noncomputable def Qs.is(ws ms:List Int):Qs->Prop
 | .below n a=>a=((ws.filter fun x=>decide (x<n)).length:Int)
 | .least k wo=>ws[k]? = some wo
 | .most wo m=>bst (withM ws ms)=some (wo,m)
 | .often part ps=>1<=part/\part<=1000/\ps=(withM ws ms).filter fun q=>decide ((ws.length:Int)<q.2*part)
 | .up n o=>o=(withM ws ms).find? fun q=>decide (n<q.1)
theorem q748{x:Int}:∀{W:List Int}{k:Nat},W.Pairwise (· <= ·)->W[k]? = some x->W.countP (fun y=>decide (y<x))<=k/\k<W.countP (fun y=>decide (y<x))+W.count x
 | y::W,0,h,e=>by
  cases e
  obtain⟨h1,h2⟩:=List.pairwise_cons.mp h
  have z:(x::W).countP (fun y=>decide (y<x))=0:=List.countP_eq_zero.mpr fun y hy=>by
   rw[WA]
   rcases List.mem_cons.mp hy with rfl | hy
   ·lia
   ·have:=h1 y hy
    lia
  rw[z,count_cons_self]
  lia
 | y::W,k+1,h,e=>by
  obtain⟨h1,h2⟩:=List.pairwise_cons.mp h
  have e':W[k]? = some x:=e
  have ih:=q748 h2 e'
  have hy:=h1 x (WV e')
  rw[YT,count_cons]
  by_cases c:y<x
  ·rw[ZJ (ZA c),ZI (by rw[beq_iff_eq];lia)]
   lia
  ·rw[ZI (by rw[WA];exact c),ZJ (beq_iff_eq.mpr ∅)]
   lia
theorem q437:∀{ss:List P2}{r:P2},(ss.Pairwise fun p q=>p.1<q.1)->ss.find? f=some r -> ∀ q∈ss,f q=true->r.1<=q.1
 | x::ss,r,h,e,q,hq,hf=>by
  obtain⟨h1,h2⟩:=List.pairwise_cons.mp h
  rw[find?_cons]at e
  cases hx:f x with
  | true=>
   rw[hx]at e
   cases e
   rcases List.mem_cons.mp hq with z | z
   ·rw[z];exact Int.le_refl _
   ·exact Int.le_of_lt (h1 q z)
  | false=>
   rw[hx]at e
   rcases List.mem_cons.mp hq with z | z
   ·rw[z,hx]at hf;cases hf
   ·exact q437 h2 e q z hf
theorem head_min{ss:List P2}{r:P2}(h:ss.Pairwise fun p q=>p.1<q.1)(e:(ss.filter f).head? = some r){q:P2}(hq:q∈ss)(hf:f q=true):r.1<=q.1:=by
 rw[head?_filter]at e
 exact q437 h e q hq hf
section
variable{ws ms:List Int}(hs:ms.Pairwise (·<·))(hm:∀ x,x∈ms↔x∈ws)
include hs hm
theorem q392:(withM ws ms).Pairwise fun p q=>p.1<q.1:=by
 unfold withM
 rw[pairwise_map]
 exact hs
theorem q67{p:P2}:p∈withM ws ms↔p.1∈ws/\p.2=(ws.count p.1:Int):=by
 unfold withM
 rw[mem_map]
 constructor
 ·rintro ⟨x,hx,rfl⟩
  exact⟨(hm x).mp hx,rfl⟩
 ·rintro ⟨h1,h2⟩
  exact⟨p.1,(hm _).mpr h1,Prod.ext rfl h2.symm⟩
theorem Qs.is_ok{q:Qs}(hsrt:ws.Pairwise (· <= ·))(h:q.is ws ms):q.ok ws ms:=by
 cases q with
 | below n a=>exact h
 | least k wo=>
  have:=q748 hsrt h
  show _<=k/\k<_+_
  rw[filt_cnt]
  exact this
 | most wo m=>
  have h':bst (withM ws ms)=some (wo,m):=h
  have hne:withM ws ms≠[]:=fun z=>by rw[z]at h';cases h'
  obtain⟨r,e,r1,r2,r3⟩:=q584 hne
  rw[h']at e
  cases e
  obtain⟨m1,m2⟩:=(q67 hs hm).mp r1
  have m2':m=(ws.count wo:Int):=m2
  have c0:0<ws.count wo:=List.count_pos_iff.mpr m1
  refine⟨∅,m2',fun x=>?_,fun x hx=>?_⟩
  ·by_cases c:x∈ws
   ·exact r2 (x,(ws.count x:Int)) ((q67 hs hm).mpr ⟨c,rfl⟩)
   ·rw[List.count_eq_zero.mpr c]
    lia
  ·by_cases c:x∈ws
   ·have hle:=r2 (x,(ws.count x:Int)) ((q67 hs hm).mpr ⟨c,rfl⟩)
    have hle':(ws.count x:Int)<=m:=hle
    refine Classical.byContradiction fun z=>?_
    have:=head_min (q392 hs hm) r3 (q:=(x,(ws.count x:Int))) ((q67 hs hm).mpr ⟨c,rfl⟩) (ZA (by show(ws.count x:Int)=m;lia))
    have:wo<=x:=this
    lia
   ·rw[List.count_eq_zero.mpr c]
    lia
 | often part ps=>exact⟨h.1,h.2.2⟩
 | up n o=>
  have h':o=(withM ws ms).find? fun q=>decide (n<q.1):=h
  cases o with
  | none=>
   show ∀ x∈ws,x<=n
   intro x hx
   have:=List.find?_eq_none.mp h'.symm (x,(ws.count x:Int)) ((q67 hs hm).mpr ⟨hx,rfl⟩)
   rw[WA]at this
   have:¬ n<x:=this
   lia
  | some r=>
   have e:=h'.symm
   obtain⟨m1,m2⟩:=(q67 hs hm).mp (mem_of_find?_eq_some e)
   have c0:0<ws.count r.1:=List.count_pos_iff.mpr m1
   have hn:n<r.1:=ZH (find?_some (p:=fun q:P2=>decide (n<q.1)) e)
   exact⟨hn,∅,m2,fun x hx hnx=>q437 (q392 hs hm) e (x,(ws.count x:Int)) ((q67 hs hm).mpr ⟨hx,rfl⟩) (ZA hnx)⟩
theorem Qs.is_tol{q:Qs}{low:Int}{L:Nat}{us:List Int}(hsrt:ws.Pairwise (· <= ·))(hin:InO L us)(hp:(offs low ws).Perm us)(h:q.is ws ms):TolW low L us q.wd q.nm (q.psi us.length):=by
 have hpw:ws.Perm (us.map fun o=>low+o):=by
  have h1:=hp.map fun o=>low+o
  have e:(offs low ws).map (fun o=>low+o)=ws:=by
   rw[map_map,show((fun o:Int=>low+o)∘fun n=>n-low)=id from funext fun o=>by show low+(o-low)=o;lia,map_id]
  rw[e]at h1
  exact h1
 have hca:=withM_ca hin hpw hm hs
 cases q with
 | below n a=>exact .below n
 | least k wo=>
  have h':ws[k]? = some wo:=h
  have hk:k<ws.length:=(List.getElem?_eq_some_iff.mp h').1
  have hl:us.length=ws.length:=by rw[<- hp.length_eq,ZN]
  obtain⟨c1,c2⟩:=q317 L us k hin ∅
  have cn:∀ o,ws.countP (fun y=>decide (y<low+o))=ltC us o:=fun o=>by
   rw[hpw.countP_eq,countP_map]
   refine countP_congr fun x _=>?_
   show decide (low+x<low+o)=true↔decide (x<o)=true
   rw[WA,WA]
   lia
  have e:=q747 (x:=low+kth L us k) (k:=k) hsrt (by rw[cn];exact c1) (by rw[Int.add_assoc,cn];exact c2)
  rw[h']at e
  cases e
  exact .least k ∅
 | most wo m=>
  have h':bst (withM ws ms)=some (wo,m):=h
  rw[hca]at h'
  exact .most _ wo m h'
 | often part ps=>exact .often part (by have:=h.1;lia) h.2.1
 | up n o=>
  have h':o=(withM ws ms).find? fun q=>decide (n<q.1):=h
  rw[hca]at h'
  rw[h']
  exact .up n
end
theorem q255{K:Fg}{a D:Addr}{zc:List V}{ps:List P2}{H1:Hp}{Tt:V->Hp->(Bool->Hp->Prop)->Prop}{Te:V->Hp->(V->Hp->Prop)->Prop}{R:Hp->Prop}(f:P2->Bool)(ha:H1 a=some (.lst zc))(hz:Paired (PrR H1) zc ps)(hD:H1 D=none)(hn:zc.length<=1000)
  (hT:∀(t:Addr)(q:P2)(H:Hp)(Q:Bool->Hp->Prop),q∈ps->Same H1 H->H t=some (.tup [.int q.1,.int q.2])->Q (f q) H->Tt (.ref t) H Q) (hE:∀(t:Addr)(H:Hp)(Q:V->Hp->Prop),Q (.ref t) H->Te (.ref t) H Q)
  (hR:∀ ys,Paired (PrR H1) ys (ps.filter f)->ys.length<=1000->R (upd H1 D (.lst ys))) :
  ∃ W:Nat->Nat->List V->Hp->Prop,(∃ m,W 0 m [] (upd H1 D (.lst []))) /\
   ∀ i m ys H2,W i m ys H2->H2 D=some (.lst ys)/\(((Itl K a).stop i H2/\R H2)\/((Itl K a).go i H2/\ys.length<sizeLine /\ ∃ N:V->Hp->Prop,(∀ y H3,N y H3->H3 D=some (.lst ys) /\ ∃ m',m'<m/\W (i+1) m' (ys++[y]) (upd H3 D (.lst (ys++[y])))) /\
    ∀ x H',(Itl K a).yld i H2 x H'->Tt x H' fun b H3=>if b=true then Te x H3 N else ∃ m',m'<m/\W (i+1) m' ys H3)):=by
 refine q141 (K:=K) (xs:=zc) (sz hn) (fun i ys G'=>G'=upd H1 D (.lst ys)/\ys.length<=i/\Paired (PrR H1) ys ((ps.take i).filter f)) ⟨rfl,ZG _,.nil⟩ (fun i ys G' ⟨e,_⟩=>by rw[e];exact SqL.of (q15 hD _ _ _ ha)) (fun i ys G' ⟨e,e2,_⟩=>⟨by rw[e];exact q13,e2⟩) ?_ ?_
 ·rintro i z ys G' hzi ⟨rfl,e2,e3⟩
  obtain⟨q,gp,t,rfl,ht⟩:=q108 hz hzi
  have hlt:=(List.getElem?_eq_some_iff.mp hzi).1
  have et:(ps.take (i+1)).filter f=(ps.take i).filter f++[q].filter f:=by rw[WU,gp,filter_append];rfl
  refine hT t q _ _ (WV gp) (q15 hD _) (q15 hD _ _ _ ht) ?_
  cases c:f q with
  | true=>
   refine iteT (hE t _ _ ⟨q13,by rw[q84],by rw[ZV];exact Nat.succ_le_succ e2,?_⟩)
   rw[et,filter_cons_of_pos c]
   exact q77 e3 (.cons ⟨t,rfl,ht⟩ .nil)
  | false=>
   refine iteF ⟨_,∅,rfl,∅,rfl,Nat.le_succ_of_le e2,?_⟩
   rw[et,filter_cons_of_neg (by rw[c];exact fnt),filter_nil,append_nil]
   exact e3
 ·rintro ys G' ⟨rfl,e2,e3⟩
  rw[show zc.length=ps.length from Paired.length hz,YD]at e3
  exact hR ys e3 ∅
theorem head_at:∀{ys:List V}{fl:List P2}{r:P2},Paired (PrR G) ys fl->fl.head? = some r -> ∃ v,atI ys 0=some v/\PrR G v r
 | _,_,r,.cons (a:=x) (l₁:=l) h t,e=>by cases e;exact⟨x,q61 (xs:=x::l) (j:=0) rfl,h⟩
theorem head_opt:∀{ys:List V}{fl:List P2},Paired (PrR G) ys fl -> ∃ v,atI (ys++[V.non]) 0=some v/\OptR G v fl.head?
 | _,_,.nil=>⟨.non,rfl,rfl⟩
 | _,_,.cons (a:=x) (l₁:=l) r t=>⟨x,q61 (xs:=(x::l)++[V.non]) (j:=0) rfl,r⟩
inductive q334(K:Fg)(vs:List V)(H:Hp)(Q:VK)(E:XK):Prop
 |mk(pen b wl:Addr)(n low:Int)(L:Nat)(ws:List Int)(_:vs=[.ref pen,.ref b,.ref wl])(_:Pen K H pen n)(_:n<10000000)(_:H b=some (.tup [.int low,.int (L:Int)]))(_:L<=40)(_:H wl=some (.lst (ws.map V.int)))(_:wl≠pen)(_:ws.length<=500)(_:∀(aa:Addr)(q:Qs)(ms:List Int)(H':Hp),Keep pen H H'->Pen K H' pen (n+10)->AskAt [pen] H' aa q->q.is ws ms->(∀ x,x∈ms↔x∈ws)->ms.Pairwise (·<·)->Q (.ref aa) H')
theorem q541:z.C P w 3 "_law_ask" pn10 (q334 K):=by
 have sc:=q526
 refine z.d__law_ask.cal fun f fd F=>F.k sc fun _ _ _ s H _ Q _ hr h=>?_
 obtain⟨pen,b,wl,n,low,L,ws,rfl,P0,hn,hb,hL,hwl,hwp,hwsl,q⟩:=h
 refine⟨_,(q11 (pst 3 sc.nd (pe_fn (q357 z) hr.m () (q10 (pv 2) q12)))
 (q11 (pst 4 sc.nd (pe_fn (q23 z) hr.m () (q10 (pv 0) (q10 q14 q12))))
 (q11 (pst 5 sc.nd (pe_op q54 (pe_op q29 (pix q26 (pv 1) q14) (pe_fn (q23 z) hr.m () (q10 (pv 0) (q10 (pe_op q29 (pe_op q544 q14 (pix q26 (pv 1) q14)) q14) q12)))) q14))
 (q11 (q243 (ps_if (PW.pt (q288 (q18 (q550 hr.units) (pv 2) (q42 q12) (q20 _)) (q186 (q18 op_eq (pe_fn (q23 z) hr.m () (q10 (pv 0) (q10 q14 q12))) q14 (q20 _)))))
 (q16 (pst 5 sc.nd (pix q31 (pv 2) (pe_fn (q23 z) hr.m () (q10 (pv 0) (q10 (pln z.len_ (q10 (pv 2) q12)) q12))))))
 q21))
 (q11 (ps_if (q18 op_eq (pv 4) q14 (q20 _))
 (q16 (q19 (q30 (q10 q34 (q10 (pv 5) (q10 (pln z.len_ (q10 (q64 (cl:=[("_law_number", s.heap.objs.size+1+1)]) (cn:=["_law_number"]) (N:=["_law_number"]) (fr:=[5]) (sc0:=q17 q72) rfl (q32 (pv 2)) (fun C s₂ H₂ fp=>(pv 0)) (fun C s₂ H₂ fp=>(q18 op_lt (pv 0) (pv 1) (q20 _))) (by ac_rfl) ⟨by ac_rfl,trivial⟩ rfl rfl rfl cok rfl) q12)) q12))))))
 q21)
 (q11 (q243 (ps_if (PW.pt (q288 (q18 op_eq (pv 4) q14 (q20 _)) (q186 (q18 (q550 hr.units) (pv 2) (q42 q12) (q20 _)))))
 (q11 (pst 6 sc.nd (pe_fn (q23 z) hr.m () (q10 (pv 0) (q10 (pln z.len_ (q10 (pv 2) q12)) q12))))
 (q16 (q19 (q30 (q10 q34 (q10 (pv 6) (q10 (pix q31 (pv 2) (pv 6)) q12)))))))
 q21))
 (q11 (q243 (ps_if (PW.pt (q288 (q18 op_eq (pv 4) q14 (q20 _)) (q186 (q18 (q550 hr.units) (pv 2) (q42 q12) (q20 _)))))
 (q11 (pst 7 sc.nd (q35 (q685 rfl) () z.max_ bt_max (q10 (q405 (x := "_law_worth") (cl:=[]) (cn:=[]) (TN:=["_law_many"]) (N:=[]) (fr:=[]) (sc0:=q17 q72) rfl (q32 (pv 3)) (fun C s₂ H₂ fp=>(pv 1)) (fun C s₂ H₂ fp=>q511) (fun C s₂ H₂ fp=>(q513 (K:=K) (n:=2) rfl rfl (q28 (q96 (i:=0) (show(["_law_worth", "_law_many"]:List Str).Nodup by decide +kernel) rfl (Or.inl rfl)) (q28 (q96 (i:=1) (show(["_law_worth", "_law_many"]:List Str).Nodup by decide +kernel) rfl (Or.inl rfl)) q97)))) (by ac_rfl) trivial rfl rfl rfl ⟨by decide +kernel,by decide +kernel,by decide +kernel,by decide +kernel⟩ rfl) q12)))
 (q16 (q19 (q30 (q10 q34 (q10 q14 (q10 (pix q31 (q64 (cl:=[("_law_greatest", s.heap.objs.size+1+2)]) (cn:=["_law_greatest"]) (N:=["_law_greatest"]) (fr:=[7]) (sc0:=q17 q72) rfl (q32 (pv 3)) (fun C s₂ H₂ fp=>(pv 0)) (fun C s₂ H₂ fp=>(q18 op_eq (pix (q69 (K:=K) rfl) (pv 0) q14) (pv 1) (q20 _))) (by ac_rfl) ⟨by ac_rfl,trivial⟩ rfl rfl rfl cok rfl) q14) q12)))))))
 q21))
 (q11 (ps_if (q18 op_eq (pv 4) q14 (q20 _))
 (q11 (pst 8 sc.nd (pix q31 (q42 (q10 (pe_op q29 q14 (pe_fn (q23 z) hr.m () (q10 (pv 0) (q10 q14 q12)))) (q10 (pe_op q29 q14 (pln z.len_ (q10 (pv 2) q12))) q12))) (pe_fn (q23 z) hr.m () (q10 (pv 0) (q10 q14 q12)))))
 (q16 (q19 (q30 (q10 q34 (q10 (pv 8) (q10 (q64 (cl:=[("_law_worths", s.heap.objs.size+1+0),("_law_part", s.heap.objs.size+1+3)]) (cn:=["_law_worths", "_law_part"]) (N:=["_law_part", "_law_worths"]) (fr:=[8,2]) (sc0:=q17 q72) rfl (q32 (pv 3)) (fun C s₂ H₂ fp=>(pv 0)) (fun C s₂ H₂ fp=>(q18 op_gt (pe_op q105 (pix (q69 (K:=K) rfl) (pv 0) q14) (pv 1)) (q35 (q680 (K:=K) rfl) () z.len_ bt_len (q10 (pv 2) q12)) (q20 _))) (by ac_rfl) ⟨by ac_rfl,by ac_rfl,trivial⟩ rfl rfl rfl cok rfl) q12)))))))
 q21)
 (q16 (q19 (q30 (q10 q34 (q10 (pv 5) (q10 (pix q31 (pe_op q446 (q64 (cl:=[("_law_number", s.heap.objs.size+1+1)]) (cn:=["_law_number"]) (N:=["_law_number"]) (fr:=[5]) (sc0:=q17 q72) rfl (q32 (pv 3)) (fun C s₂ H₂ fp=>(pv 0)) (fun C s₂ H₂ fp=>(q18 op_gt (pix (q69 (K:=K) rfl) (pv 0) q14) (pv 1) (q20 _))) (by ac_rfl) ⟨by ac_rfl,trivial⟩ rfl rfl rfl cok rfl) (q42 (q10 q95 q12))) q14) q12)))))))))))))),?_⟩
 have hp2:=p2pos L
 have hq2:=p2le hL
 have hml:(ws.map V.int).length=ws.length:=ZN _
 have hbp:b≠pen:=P0.ne hb
 refine⟨_,rfl,wl,ws,rfl,hwl,∅,fun D zc ms H1 s1 hD0 hD hmm hms hpz hml4=>?_⟩
 have hDp:D≠pen:=P0.fresh hD0
 have hzcl:zc.length=(withM ws ms).length:=Paired.length hpz
 have hzl:zc.length<=1000:=by rw[hzcl];unfold withM;rw[ZN];exact hml4
 have hcnt:∀ p∈withM ws ms,0<=p.2/\p.2<=500:=fun p hp=>by
  have:=((q67 hms hmm).mp hp).2
  have:=count_le_length (a:=p.1) (l:=ws)
  lia
 refine⟨_,rfl,pen,5,n,rfl,P0.same s1,∅,{},{},fun wy H2 k2 P2 wy0 wy1=>?_⟩
 have k02:Keep pen H H2:=(Keep.same s1).trans k2
 have hb2:=k02 _ _ hbp hb
 exists _,rfl,b,_,_,_,rfl,rfl,SqT.of hb2,rfl,_,rfl,_,rfl,b,_,_,_,rfl,rfl,SqT.of hb2,rfl,_,_,rfl,rfl,⟨∅,∅,{}⟩
 dsimp only
 rw[q553]
 refine⟨_,_,rfl,rfl,pen,_,_,rfl,P2,∅,∅,∅,fun g H3 k3 P3 _ _=>⟨_,_,rfl,rfl,_,_,rfl,rfl,?_⟩⟩
 have k03:=k02.trans k3
 exists fun σ G=>∃ num:Int,σ=[some (.ref pen),some (.ref b),some (.ref wl),some (.ref D),some (.int wy),some (.int num),none,none,none]/\Keep pen H3 G/\Pen K G pen (n+5),?_
 ·refine⟨_,rfl,szb rfl,fun l4 hl4=>?_⟩
  have t4:=q15 hl4 (.lst [])
  have hwl4:=t4 _ _ (k03 _ _ hwp hwl)
  refine⟨wl,l4,ws,[],rfl,rfl,SqL.of hwl4,SqL.of q13,_,rfl,ite2 (fun cc=>?_) (fun cc=>?_)⟩
  ·have hne:ws≠[]:=fun z=>by rw[z]at cc;exact absurd cc {}
   have hpos:0<ws.length:=List.length_pos_iff.mpr hne
   refine⟨_,rfl,pen,2,_,rfl,P3.same t4,∅,{},{},fun c5 H5 k5 P5 _ _=>⟨rfl,_,rfl,ite2 (fun _=>?_) (fun _=>?_)⟩⟩
   ·have hwl5:=k5 _ _ hwp hwl4
    refine⟨_,rfl,_,rfl,_,rfl,wl,_,rfl,.inl (SqL.of hwl5),pen,_,_,rfl,P5,∅,∅,∅,fun t6 H6 k6 P6 a0 a1=>?_⟩
    obtain⟨wv,_,hat⟩:=q76 (l:=ws) a0 (by rw[hml]at a1;exact a1)
    exact⟨wl,_,_,_,rfl,rfl,SqL.of (k6 _ _ hwp hwl5),hat,wv,rfl,(Keep.same t4).trans (k5.trans k6),P6.le ∅⟩
   ·exact⟨_,rfl,(Keep.same t4).trans k5,P5.le ∅⟩
  ·exact ite2 nf (fun _=>⟨_,rfl,Keep.same t4,(P3.same t4).le ∅⟩)
 rintro σ G ⟨num,rfl,k4,P4⟩
 have kG:=k03.trans k4
 have hwlG:=kG _ _ hwp hwl
 have k1G:Keep pen H1 G:=k2.trans (k3.trans k4)
 have tk1G:TKeep H1 G:=by obtain⟨xs',ex⟩:=(P0.same s1).at;exact .keep k1G ex
 have hDG:=k1G _ _ hDp hD
 have hpzG:Paired (PrR G) zc (withM ws ms):=L2.Paired.mapP hpz fun _ _ z=>z.tk tk1G
 refine⟨_,rfl,rfl,_,rfl,ite2 (fun _=>?_) (fun _=>?_)⟩
 ·-- below
  refine⟨_,rfl,_,rfl,wl,rfl,⟨_,SqL.of hwlG⟩,fun D2 hD2=>?_⟩
  refine q98 (p:=fun x=>decide (x<num)) (g:=V.int) (SqL.of hwlG) hD2 (sz ∅) (fun n _ H1 Q1 _ q1=>⟨_,rfl,_,rfl,_,_,rfl,rfl,_,rfl,q1⟩) (fun n _ _ H1 Q1 _ q1=>⟨_,rfl,q1⟩) ?_
  have t2:=q15 hD2 (.lst ((ws.filter fun x=>decide (x<num)).map V.int))
  have e2:=@q13 G D2 (.lst ((ws.filter fun x=>decide (x<num)).map V.int))
  generalize upd G D2 (.lst ((ws.filter fun x=>decide (x<num)).map V.int))=G2 at *
  refine⟨D2,_,rfl,.inl (SqL.of e2),szb rfl,fun aa haa=>?_⟩
  rw[ZN]
  have t3:=q15 haa (.tup [V.str "below", .int num,.int ((ws.filter fun x=>decide (x<num)).length:Int)])
  exact q aa (.below num ((ws.filter fun x=>decide (x<num)).length:Int)) ms _ (kG.trans (.same (t2.trans t3))) ((P4.same (t2.trans t3)).le ∅) ⟨_,q13,rfl⟩ rfl hmm hms
 exists fun σ G'=>σ=[some (.ref pen),some (.ref b),some (.ref wl),some (.ref D),some (.int wy),some (.int num),none,none,none]/\Same G G',?_
 ·refine⟨_,rfl,rfl,_,rfl,ite2 (fun _=>?_) (fun _=>ite2 nf (fun _=>⟨rfl,Same.refl _⟩))⟩
  refine⟨_,rfl,szb rfl,fun l4 hl4=>?_⟩
  have t4:=q15 hl4 (.lst [])
  have hwl4:=t4 _ _ hwlG
  refine⟨wl,l4,ws,[],rfl,rfl,SqL.of hwl4,SqL.of q13,_,rfl,ite2 (fun cc=>?_) (fun cc=>⟨rfl,t4⟩)⟩
  have hne:ws≠[]:=fun z=>by rw[z]at cc;exact absurd cc {}
  have hpos:0<ws.length:=List.length_pos_iff.mpr hne
  refine⟨_,rfl,_,rfl,wl,_,rfl,.inl (SqL.of hwl4),pen,_,_,rfl,P4.same t4,∅,∅,∅,fun k6 H6 kk6 P6 a0 a1=>?_⟩
  obtain⟨kn,rfl⟩:=Int.eq_ofNat_of_zero_le a0
  have hk:kn<ws.length:=∅
  have hwl6:=kk6 _ _ hwp hwl4
  refine⟨_,rfl,_,rfl,_,rfl,wl,_,_,_,rfl,rfl,SqL.of hwl6,q61 (j:=kn) (by rw[WN,ZP hk];rfl),szb rfl,fun aa haa=>?_⟩
  have t7:=q15 haa (.tup [V.str "least", .int (kn:Int),.int ws[kn]])
  exact q aa (.least kn ws[kn]) ms _ (kG.trans ((Keep.same t4).trans (kk6.trans (.same t7)))) ((P6.same t7).le ∅) ⟨_,q13,rfl⟩ (ZP hk) hmm hms
 rintro σ G1 ⟨rfl,u1⟩
 exists fun σ G'=>σ=[some (.ref pen),some (.ref b),some (.ref wl),some (.ref D),some (.int wy),some (.int num),none,none,none]/\Same G G',?_
 ·refine⟨_,rfl,rfl,_,rfl,ite2 (fun _=>?_) (fun _=>ite2 nf (fun _=>⟨rfl,u1⟩))⟩
  refine⟨_,rfl,szb rfl,fun l4 hl4=>?_⟩
  have t4:=u1.trans (q15 hl4 (.lst []))
  have hwl4:=t4 _ _ hwlG
  refine⟨wl,l4,ws,[],rfl,rfl,SqL.of hwl4,SqL.of q13,_,rfl,ite2 (fun cc=>?_) (fun cc=>⟨rfl,t4⟩)⟩
  generalize upd G1 l4 (.lst [])=G4 at *
  have hne:ws≠[]:=fun z=>by rw[z]at cc;exact absurd cc {}
  obtain⟨x0,hx0⟩:=exists_mem_of_ne_nil ws hne
  have hwne:withM ws ms≠[]:=fun z=>by
   have:=(q67 hms hmm (p:=(x0,(ws.count x0:Int)))).mpr ⟨hx0,rfl⟩
   rw[z]at this;cases this
  obtain⟨r,hr1,hr2,hr3,hr4⟩:=q584 hwne
  have hD4:=t4 _ _ hDG
  have hpz4:Paired (PrR G4) zc (withM ws ms):=L2.Paired.mapP hpzG fun _ _ z=>z.tk (.same t4)
  refine⟨_,rfl,D,rfl,⟨_,SqL.of hD4⟩,fun D9 hD9=>?_⟩
  refine q237 (xs:=zc) (sz hzl) (fun i us H9=>us=((withM ws ms).take i).map (fun(p:Int×Int)=>V.int p.2)/\i<=(withM ws ms).length/\H9=upd G4 D9 (.lst us)) ⟨by simp,WB _,rfl⟩ (fun i us H9 ⟨_,_,e⟩=>by rw[e];exact SqL.of (q15 hD9 _ _ _ hD4))
   (fun i us H9 ⟨e1,e2,e3⟩=>⟨by rw[e3];exact q13,by rw[e1,ZN,length_take];lia⟩) ?_ ?_
  ·rintro i x us H9 hx ⟨e1,e2,rfl⟩ vs3 hvs3
   obtain⟨p,gp,px,rfl,hpx⟩:=q108 hpz4 hx
   have hi:i<(withM ws ms).length:=(List.getElem?_eq_some_iff.mp gp).1
   match vs3,hvs3 with
   | [x0,x1],_=>
    refine⟨px,_,rfl,SqT.of (q15 hD9 _ _ _ hpx),rfl,_,_,rfl,_,_,rfl,rfl,⟨[_,_],rfl,rfl⟩,iteT ?_⟩
    refine⟨_,rfl,q13,?_,∅,by rw[q84]⟩
    rw[WU,gp,WQ,<- e1]
    rfl
  rintro us H9 ⟨e1,e2,rfl⟩
  rw[hzcl,YD]at e1
  have hpos:0<((withM ws ms).map fun(p:Int×Int)=>p.2).length:=by rw[ZN];exact List.length_pos_iff.mpr hwne
  have s9:=q15 hD9 (.lst us)
  refine⟨D9,(withM ws ms).map (fun(p:Int×Int)=>p.2),rfl,SqL.of (by rw[q13,e1,map_map];rfl),hpos,fun M hM hMle=>?_⟩
  have hMr:M=r.2:=by
   obtain⟨p,hp,rfl⟩:=List.mem_map.mp hM
   have h1:=hr3 p hp
   have h2:=hMle r.2 (List.mem_map.mpr ⟨r,hr2,rfl⟩)
   lia
  subst hMr
  generalize upd G4 D9 (.lst us)=G9 at *
  have t9:=t4.trans s9
  have hD9':=t9 _ _ hDG
  have hpz9:Paired (PrR G9) zc (withM ws ms):=L2.Paired.mapP hpzG fun _ _ z=>z.tk (.same t9)
  refine⟨_,rfl,D,rfl,⟨_,SqL.of hD9'⟩,fun D10 hD10=>?_⟩
  refine q255 (fun p=>decide (p.2=r.2)) hD9' hpz9 hD10 hzl (fun t p H' Q' _ _ ht q'=>⟨_,rfl,t,_,_,_,rfl,rfl,SqT.of ht,rfl,_,rfl,rfl,_,rfl,by rw[dec_int];exact q'⟩) (fun t H' Q' q'=>⟨_,rfl,q'⟩) fun ys hys hyl=>?_
  have t10:=q15 hD10 (.lst ys)
  have e10:=@q13 G9 D10 (.lst ys)
  have hys10:Paired (PrR (upd G9 D10 (.lst ys))) ys _:=L2.Paired.mapP hys fun _ _ z=>z.tk (.same t10)
  generalize upd G9 D10 (.lst ys)=G10 at *
  obtain⟨v,hv,hvr⟩:=head_at hys10 hr4
  refine⟨D10,_,_,_,rfl,rfl,SqL.of e10,hv,szb rfl,fun aa haa=>?_⟩
  have t11:=q15 haa (.tup [V.str "most", .int 0,v])
  have tz:=t9.trans (t10.trans t11)
  exact q aa (.most r.1 r.2) ms _ (kG.trans (.same tz)) ((P4.same tz).le ∅) ⟨_,q13,PrR.tk (.same t11) hvr⟩ hr1 hmm hms
 rintro σ G2 ⟨rfl,u2⟩
 have hwl2:=u2 _ _ hwlG
 have hD2:=u2 _ _ hDG
 have hpz2:Paired (PrR G2) zc (withM ws ms):=L2.Paired.mapP hpzG fun _ _ z=>z.tk (.same u2)
 have P5:=P4.same u2
 refine⟨_,rfl,rfl,_,rfl,ite2 (fun _=>?_) (fun _=>?_)⟩
 ·-- often
  refine⟨_,rfl,pen,9,_,rfl,P5,∅,{},{},fun g6 G6 k6 P6 g0 g1=>⟨_,_,rfl,rfl,?_⟩⟩
  have hwl6:=k6 _ _ hwp hwl2
  refine⟨_,rfl,wl,_,rfl,.inl (SqL.of hwl6),_,_,rfl,rfl,szb rfl,fun l7 hl7=>?_⟩
  rw[hml]
  have t7:=q15 hl7 (.lst [V.int (1+g6),.int (1+(ws.length:Int))])
  have e7:upd G6 l7 (.lst [V.int (1+g6),.int (1+(ws.length:Int))]) l7=some (.lst ([1+g6,1+(ws.length:Int)].map V.int)):=q13
  have hl7p:l7≠pen:=P6.fresh hl7
  generalize upd G6 l7 (.lst [V.int (1+g6),.int (1+(ws.length:Int))])=G7 at *
  refine⟨_,rfl,pen,2,_,rfl,P6.same t7,∅,{},{},fun t8 G8 k8 P8 a0 a1=>?_⟩
  obtain⟨part,hpm,hat⟩:=q76 (l:=[1+g6,1+(ws.length:Int)]) a0 (by show t8<2;lia)
  have hpart:1<=part/\part<=1000:=by
   simp only[mem_cons,not_mem_nil,or_false]at hpm
   rcases hpm with rfl | rfl <;> lia
  exists l7,_,_,_,rfl,rfl,SqL.of (k8 _ _ hl7p e7),hat
  have k28:Keep pen G2 G8:=k6.trans ((Keep.same t7).trans k8)
  have tk28:TKeep G2 G8:=by obtain⟨xs',ex⟩:=P5.at;exact .keep k28 ex
  have hwl8:=k28 _ _ hwp hwl2
  have hD8:=k28 _ _ hDp hD2
  have hpz8:Paired (PrR G8) zc (withM ws ms):=L2.Paired.mapP hpz2 fun _ _ z=>z.tk tk28
  refine⟨_,rfl,_,rfl,D,rfl,⟨_,SqL.of hD8⟩,fun D9 hD9=>?_⟩
  refine q255 (fun p=>decide ((ws.length:Int)<p.2*part)) hD8 hpz8 hD9 hzl (fun t p H' Q' hp' s' ht q'=>⟨_,rfl,t,_,_,_,rfl,rfl,SqT.of ht,rfl,_,rfl,_,_,rfl,rfl,.inl ⟨by have:=hcnt p hp';lia,by have:=hcnt p hp';lia⟩,_,rfl,wl,_,rfl,.inl (SqL.of (s' _ _ hwl8)),_,_,rfl,rfl,_,rfl,by rw[hml];exact q'⟩) (fun t H' Q' q'=>⟨_,rfl,q'⟩) fun ys hys hyl=>?_
  have t10:=q15 hD9 (.lst ys)
  have e10:=@q13 G8 D9 (.lst ys)
  have hys10:Paired (PrR (upd G8 D9 (.lst ys))) ys _:=L2.Paired.mapP hys fun _ _ z=>z.tk (.same t10)
  generalize upd G8 D9 (.lst ys)=G10 at *
  refine⟨szb rfl,fun aa haa=>?_⟩
  have t11:=q15 haa (.tup [V.str "often", .int part,.ref D9])
  have tz:=t10.trans t11
  exact q aa (.often part ((withM ws ms).filter fun p=>decide ((ws.length:Int)<p.2*part))) ms _ (kG.trans ((Keep.same u2).trans (k28.trans (.same tz)))) ((P8.same tz).le ∅) ⟨_,q13,D9,ys,rfl,t11 _ _ e10,L2.Paired.mapP hys10 fun _ _ z=>z.tk (.same t11),fun z=>P8.fresh hD9 (List.mem_singleton.mp z)⟩ ⟨hpart.1,hpart.2,rfl⟩ hmm hms
 ·-- up
  refine⟨_,rfl,_,rfl,D,rfl,⟨_,SqL.of hD2⟩,fun D9 hD9=>?_⟩
  refine q255 (fun p=>decide (num<p.1)) hD2 hpz2 hD9 hzl (fun t p H' Q' _ _ ht q'=>⟨_,rfl,t,_,_,_,rfl,rfl,SqT.of ht,rfl,_,rfl,_,_,rfl,rfl,_,rfl,q'⟩) (fun t H' Q' q'=>⟨_,rfl,q'⟩) fun ys hys hyl=>?_
  have t10:=q15 hD9 (.lst ys)
  have e10:=@q13 G2 D9 (.lst ys)
  have hys10:Paired (PrR (upd G2 D9 (.lst ys))) ys _:=L2.Paired.mapP hys fun _ _ z=>z.tk (.same t10)
  generalize upd G2 D9 (.lst ys)=G10 at *
  refine⟨szb rfl,fun l3 hl3=>?_⟩
  have t3:=q15 hl3 (.lst [V.non])
  have e3':upd G10 l3 (.lst [V.non]) l3=some (.lst [V.non]):=q13
  have eD3:=t3 _ _ e10
  generalize upd G10 l3 (.lst [V.non])=G3 at *
  refine⟨D9,l3,ys,[V.non],rfl,rfl,eD3,e3',szB (by simp;lia),fun l4 hl4=>?_⟩
  have t4:=q15 hl4 (.lst (ys++[V.non]))
  have e4:=@q13 G3 l4 (.lst (ys++[V.non]))
  generalize upd G3 l4 (.lst (ys++[V.non]))=G4 at *
  have hfl:Paired (PrR G4) ys ((withM ws ms).filter fun q=>decide (num<q.1)):=L2.Paired.mapP hys10 fun _ _ z=>z.tk (.same (t3.trans t4))
  obtain⟨pv',hpa,hpvo⟩:=head_opt hfl
  rw[head?_filter]at hpvo
  refine⟨l4,_,_,pv',rfl,rfl,SqL.of e4,hpa,szb rfl,fun aa haa=>?_⟩
  have t11:=q15 haa (.tup [V.str "up", .int num,pv'])
  have tz:=u2.trans (t10.trans (t3.trans (t4.trans t11)))
  exact q aa (.up num ((withM ws ms).find? fun q=>decide (num<q.1))) ms _ (kG.trans (.same tz)) ((P4.same tz).le ∅) ⟨_,q13,OptR.tk (.same t11) hpvo⟩ rfl hmm hms
theorem Tbs.pen{H H':Hp}{pen:Addr}{xs:List V}(t:Tbs H)(k:Keep pen H H')(e:H pen=some (.lst xs)):Tbs H':=fun q hq=>by
 obtain⟨ps,h1,h2,h3⟩:=t q hq
 exists ps,k _ _ (ne_of h1 e (by intro z;cases z)) h1,h2
 rcases h3 with h | ⟨c',oc,vs,tq,a,b,d⟩
 ·exact .inl h
 ·exact .inr ⟨c',oc,vs,tq,a,k _ _ (ne_of b e (by intro z;cases z)) b,d⟩
theorem Gth.pen{K:Fg}{H H':Hp}{b ga pen:Addr}{xs:List V}{low:Int}{L:Nat}{gs:List G3}{ys:List V}(g:Gth K H b ga xs low L gs)(k:Keep pen H H')(e:H pen=some (.lst ys))(n:ga≠pen):Gth K H' b ga xs low L gs:=
 ⟨k _ _ (ne_of g.b e (by intro z;cases z)) g.b,g.le,k _ _ n g.g,g.at_.tk (.keep k e),g.gd,g.ln,g.few,g.tb.pen k e⟩
theorem Pen.kp{n:Int}(p:Pen K H pen n)(k:KpT H H'):Pen K H' pen n:=by
 obtain⟨a,ns,c,r,h1,h2,h3⟩:=p
 refine⟨a,ns,c,r,k.l h1,?_,h3⟩
 rcases h2 with ⟨o,h⟩ | h
 ·exact .inl ⟨o,k _ _ (by intro _ z;cases z) h⟩
 ·exact .inr h
theorem AskAt.pen{av:List Addr}{pen:Addr}{H H':Hp}{aa:Addr}{q:Qs}{xs:List V}(h:AskAt av H aa q)(k:Keep pen H H')(e:H pen=some (.lst xs))(m:pen∈av):AskAt av H' aa q:=h.keep (.keep k e) fun a xs n e=>k _ _ (fun z=>n (z▸m)) e
theorem WyAt.kp(k:Keep pen H H')(e:H pen=some (.lst ys))(h:WyAt K H v x):WyAt K H' v x:=by
 obtain⟨a,ea,h⟩:=h
 exists a,ea
 rcases h with (h | ⟨o,h⟩) | h
 ·exact .inl (.inl (k _ _ (ne_of h e (by intro z;cases z)) h))
 ·exact .inl (.inr ⟨o,k _ _ (ne_of h e (by intro z;cases z)) h⟩)
 ·exact .inr h
theorem q393{α β:Type}{R:α->β->Prop}:∀{l:List α}{m:List β}(k:Nat),Paired R l m->Paired R (l.eraseIdx k) (m.eraseIdx k)
 | _,_,_,.nil=>.nil
 | _,_,0,.cons _ t=>t
 | _,_,k+1,.cons r t=>.cons r (q393 k t)
def KpP(pen:Addr)(H H':Hp):Prop:=∀ a o,a≠pen->(∀ ps,o ≠ .tbl ps)->H a=some o->H' a=some o
theorem KpP.l(k:KpP pen H H')(n:a≠pen)(h:H a=some (.lst xs)):H' a=some (.lst xs):=k _ _ n (by intro _ z;cases z) h
theorem PpAt.ref(h:PpAt H v p):∃ a,v = .ref a:=by
 cases p with
 | all n=>obtain⟨a,e,_⟩:=h;exact⟨a,e⟩
 | split n l r=>obtain⟨a,_,_,e,_⟩:=h;exact⟨a,e⟩
inductive q275(K:Fg)(vs:List V)(H:Hp)(Q:VK)(E:XK):Prop
 |mk(pen b ga wl:Addr)(n low:Int)(L:Nat)(xs:List V)(gs:List G3)(ws:List Int)(_:vs=[.ref pen,.ref b,.ref ga,.ref wl])(_:Pen K H pen n)(_:n<1000000)(_:Gth K H b ga xs low L gs)(_:ga≠pen)(_:H wl=some (.lst (ws.map V.int)))(_:wl≠pen)(_:ws.length<=500)(_:ws.Pairwise (· <= ·))(_:Wths low L ws)(_:(offs low ws).Perm (Wh gs))(_:∀ H',KpP pen H H'->Pen K H' pen (n+50)->Tbs H'->Q (.bl true) H')
theorem q508:z.C P w 49 "_law_good" pn4 (q275 K):=by
 have sc:=q480
 refine z.d__law_good.cal fun f fd F=>F.k sc fun _ _ _ s H _ Q _ hr h=>?_
 obtain⟨pen,b,ga,wl,n,low,L,xs,gs,ws,rfl,P0,hn,g,hgp,hwl,hwp,hwsl,hsrt,hww,hpm,q⟩:=h
 refine⟨_,(q11 (pst 4 sc.nd (pe_fn (q541 z) hr.m () (q10 (pv 0) (q10 (pv 1) (q10 (pv 3) q12)))))
 (q11 (pst 5 sc.nd (pe_fn (q274 z) hr.m () (q10 (pv 1) (q10 (pv 2) (q10 (pv 4) q12)))))
 (q11 (ps_if (PW.pt (pw_or (q116 (q87 (pe_fn (q435 z) hr.m () (q10 (pix q26 (pv 1) q14) (q10 (pix q26 (pv 1) q14) (q10 (pv 3) (q10 (pv 5) q12))))))) (q115 (q18 q447 (pe_fn (q231 z) hr.m () (q10 (pv 1) (q10 (pv 2) (q10 (pv 5) (q10 (pv 4) q12))))) pe_bl (q20 _)))))
 (q16 (q19 pe_bl))
 q21)
 (q11 (pst 6 sc.nd (pe_fn (q507 z) hr.m () (q10 (pv 5) q12)))
 (q11 (q60 PassesOwn.never rfl (q59 rfl z.range_ (q10 (q35 (q649 rfl) () z.min_ bt_min (q10 q14 (q10 (pln z.len_ (q10 (pv 6) q12)) q12))) q12)) (pgn 7 sc.nd)
 (q11 (pst 8 sc.nd (pe_bm YA PySem.F.slot_list_pop PySem.F.type_list_pop mt_popAt (pv 6) (q10 (pe_fn (q23 z) hr.m () (q10 (pv 0) (q10 (pln z.len_ (q10 (pv 6) q12)) q12))) q12)))
 (q16 (ps_if (q18 q447 (pe_fn (q231 z) hr.m () (q10 (pv 1) (q10 (pv 2) (q10 (pe_fn (q333 z) hr.m () (q10 (pv 5) (q10 (pv 8) q12))) (q10 (pv 4) q12))))) pe_bl (q20 _))
 (q16 (q19 pe_bl))
 q21))))
 (q16 (q19 (q41 (op_eqAlk hr.units) (pe_fn (q274 z) hr.m () (q10 (pv 1) (q10 (pv 2) (q10 (pv 4) q12)))) (pv 5) (q20 _))))))))),?_⟩
 refine⟨_,rfl,_,rfl,_,rfl,pen,b,wl,n,low,L,ws,rfl,P0,∅,g.b,g.le,hwl,hwp,hwsl,fun aa qs ms H1 k1 P1 hA his hmm hms=>?_⟩
 obtain⟨px,hpx⟩:=P0.at
 have g1:=g.pen k1 hpx hgp
 have hwl1:=k1 _ _ hwp hwl
 have hok:=Qs.is_ok hms hmm hsrt his
 have htol:=Qs.is_tol hms hmm hsrt (W_in g.gd) hpm his
 have hyes:=told_yes hww hpm g.le g.few hmm hms hok
 have hno:=fun(x:List Int)=>told_no (x:=x) hww hpm g.le g.few hmm hms hok
 have hlv:=told_lv hww hpm g.le g.few hmm hms hok
 have hdp:dpP (qs.pap low L (Wh gs))<=40:=ZR (q739 L low (Wh gs)) g.le
 have hkd:q43 L (Wh gs) (qs.pap low L (Wh gs)):=q226 L low (Wh gs)
 obtain⟨tv,hAt,hAv⟩:=id hA
 refine⟨_,rfl,_,rfl,_,rfl,b,ga,aa,xs,low,qs.nm,L,gs,qs.wd,tv,_,rfl,hAt,g1,htol,fun H2 v k2 tb2 hp2=>?_⟩
 replace hp2:PpAt H2 v (qs.pap low L (Wh gs)):=hp2
 have g2:=g1.kp k2 tb2
 have hA2:=hA.kp k2
 have hwl2:=k2.l hwl1
 have P2:=P1.kp k2
 generalize hpap:qs.pap low L (Wh gs)=p at *
 refine⟨_,rfl,b,_,_,_,rfl,rfl,SqT.of g2.b,rfl,_,rfl,b,_,_,_,rfl,rfl,SqT.of g2.b,rfl,_,rfl,_,rfl,L,g.le,wl,low,ws,v,p,rfl,hwl2,∅,hww,hp2,q123 hpm.symm hkd,fun H3 s3=>⟨_,rfl,iteF ?_⟩⟩
 have g3:=g2.kp (.of s3) (tb2.same s3)
 refine⟨_,rfl,_,rfl,_,rfl,_,rfl,b,ga,aa,[pen],xs,low,L,gs,qs,v,p,rfl,hA2.same s3,g3,hp2.same s3,hkd,hlv,fun H4 s4=>?_⟩
 rw[hyes]
 refine⟨_,_,rfl,rfl,_,rfl,iteF ?_⟩
 have s24:=s3.trans s4
 have g4:=g3.kp (.of s4) (g3.tb.same s4)
 refine⟨_,rfl,40,{},v,p,rfl,hp2.same s24,hdp,hlv,fun D zs H5 s5 hD0 hD hzs=>?_⟩
 have s25:=s24.trans s5
 have g5:=g4.kp (.of s5) (g4.tb.same s5)
 have hzl:=Paired.length hzs
 have hwl':=q165 p
 have P5:=P2.same s25
 have hDp:D≠pen:=(P2.same s24).fresh hD0
 exists _,rfl,D,_,rfl,.inl (SqL.of hD),_,_,rfl
 obtain⟨m4,hm4,hm4l,hm40⟩:∃ m4:Nat,(if(zs.length:Int)<4 then(zs.length:Int)else 4)=(m4:Int)/\m4<=zs.length/\m4<=4:=by
  by_cases c:(zs.length:Int)<4
  ·exact⟨zs.length,ZJ c,ZG _,∅⟩
  ·exact⟨4,ZI c,∅,ZG _⟩
 rw[hm4]
 have hA5:AskAt [D,pen] H5 aa qs:=((hA2.same s24).add hD0).same s5
 have hgD:ga≠D:=fun z=>by have:=g4.g;rw[z,hD0]at this;cases this
 refine⟨m4,rfl,∅,∅,q78 (n:=m4) (fun i σ G=>∃(v7 v8:Option V)(ys:List V)(xs':LL),σ=[some (.ref pen),some (.ref b),some (.ref ga),some (.ref wl),some (.ref aa),some v,some (.ref D),v7,v8]/\Pen K G pen (n+10+i)/\Gth K G b ga xs low L gs/\AskAt [D,pen] G aa qs/\PpAt G v p/\(∀ a o,a≠pen->a≠D->(∀ ps,o ≠ .tbl ps)->H5 a=some o->G a=some o)/\G D=some (.lst ys)/\ys.length+i=zs.length/\Paired (WyAt K G) ys xs' /\ ∀ x∈xs',x∈waysP p) ⟨_,_,zs,_,rfl,P5.le ∅,g5,hA5,hp2.same s25,fun a o _ _ _ e=>e,hD,rfl,hzs,fun x hx=>hx⟩ ?_ ?_⟩
 ·rintro i σ G hi ⟨v7,v8,ys,xs',rfl,PG,gG,hAG,hpG,kG,hDG,hyl,hys,hxs⟩
  obtain⟨px2,hpx2⟩:=PG.at
  refine⟨_,rfl,.inl ⟨rfl,_,SqL.of hDG⟩,_,rfl,_,rfl,D,_,rfl,.inl (SqL.of hDG),pen,_,_,rfl,PG,∅,∅,∅,fun c G1 kc P1' c0 c1=>?_⟩
  obtain⟨cn,rfl⟩:=Int.eq_ofNat_of_zero_le c0
  have hcl:cn<ys.length:=∅
  have gy:ys[cn]? = some ys[cn]:=ZP hcl
  obtain⟨wy,gwy,wa,hwa,hsq⟩:=q108 hys gy
  rw[hwa]at gy
  have hwy:=hxs wy (WV gwy)
  have hDG1:=kc _ _ hDp hDG
  have gG1:=gG.pen kc hpx2 hgp
  have hAG1:=hAG.pen kc hpx2 (by simp)
  have hpG1:=hpG.tk (.keep kc hpx2)
  have hys1:Paired (WyAt K G1) ys xs':=L2.Paired.mapP hys fun _ _ z=>z.kp kc hpx2
  have hwy1:WyAt K G1 (.ref wa) wy:=WyAt.kp kc hpx2 ⟨wa,rfl,hsq⟩
  exists D,ys,_,cn,_,rfl,rfl,hDG1,∅,∅,?_,gy
  ·unfold seqIndex?
   simp
   lia
  have kD:Keep D G1 (upd G1 D (.lst (ys.eraseIdx cn))):=Keep.set D G1 _
  have e2:=@q13 G1 D (.lst (ys.eraseIdx cn))
  have P2':=P1'.other hDp hDG1 (.lst (ys.eraseIdx cn))
  generalize upd G1 D (.lst (ys.eraseIdx cn))=G2 at *
  have gG2:=gG1.pen kD hDG1 hgD
  have hAG2:=hAG1.pen kD hDG1 (by simp)
  have hpG2:=hpG1.tk (.keep kD hDG1)
  obtain⟨wa',ewa,hsq2⟩:=WyAt.kp kD hDG1 hwy1
  cases ewa
  refine⟨_,rfl,_,rfl,_,rfl,_,rfl,40,{},v,p,wa,wy,rfl,hpG2,hsq2,hwy,hdp,fun G3 u s3' hu=>?_⟩
  have gG3:=gG2.kp (.of s3') (gG2.tb.same s3')
  refine⟨_,rfl,b,ga,aa,[D,pen],xs,low,L,gs,qs,u,q104 p wy,rfl,hAG2.same s3',gG3,hu,q164 hwy hkd,ZR q152 hlv,fun G4 s4'=>?_⟩
  rw[hno wy hwy]
  refine⟨_,_,rfl,rfl,_,rfl,iteF ?_⟩
  have s24':=s3'.trans s4'
  refine⟨_,_,ys.eraseIdx cn,xs'.eraseIdx cn,rfl,(P2'.same s24').le ∅,gG3.kp (.of s4') (gG3.tb.same s4'),hAG2.same s24',hpG2.same s24',fun a o n1 n2 n3 e=>s24' _ _ (kD _ _ n2 (kc _ _ n1 (kG a o n1 n2 n3 e))),s24' _ _ e2,?_,L2.Paired.mapP (q393 cn (L2.Paired.mapP hys1 fun _ _ z=>WyAt.kp kD hDG1 z)) fun _ _ z=>z.same s24',fun x hx=>hxs x (mem_of_mem_eraseIdx hx)⟩
  rw[length_eraseIdx_of_lt hcl]
  lia
 ·rintro σ G ⟨v7,v8,ys,xs',rfl,PG,gG,hAG,hpG,kG,hDG,hyl,hys,hxs⟩
  obtain⟨tv',hAt',_⟩:=id hAG
  refine⟨_,rfl,_,rfl,_,rfl,b,ga,aa,xs,low,qs.nm,L,gs,qs.wd,tv',_,rfl,hAt',gG,htol,fun G6 v6 k6 tb6 hp6=>?_⟩
  replace hp6:PpAt G6 v6 (qs.pap low L (Wh gs)):=hp6
  rw[hpap]at hp6
  have hpG6:=hpG.tk k6.tk
  obtain⟨r6,rfl⟩:=hp6.ref
  obtain⟨r5,rfl⟩:=hpG6.ref
  exists _,rfl,dpP p+2,r6,r5,rfl,rfl,q535 hp6 hpG6,∅
  refine q G6 (fun a o n1 n2 e=>?_) ((PG.kp k6).le ∅) tb6
  have e4:=s24 _ _ (k2 _ _ n2 (k1 _ _ n1 e))
  exact k6 _ _ n2 (kG a o n1 (fun z=>by rw[z,hD0]at e4;cases e4) n2 (s5 _ _ e4))
noncomputable abbrev k_law:Nat:=50
abbrev sp_law(K:Fg):Sp:=q464 K [312,305,298,291,284]
theorem lex_le{us:List TS.I3}(h:us.Pairwise fun x y=>TS.lex3 y x=false):(us.map (·.1)).Pairwise (· <= ·):=by
 rw[pairwise_map]
 refine h.imp fun {x y} z=>?_
 have:=TS.q240.mp z
 lia
theorem Only.no(h:∀ b ys,H b≠some (.lst ys))(hS:SqL K H a xs):Scr K H a xs:=by
 rcases hS with (h' | h') | h'
 ·exact absurd h' (h _ _)
 ·exact .inl h'
 ·exact .inr h'
theorem Tbs.first(h:∀ T∈([312,305,298,291,284]:List Addr),H T=some (.tbl #[])):Tbs H:=fun q hq=>by
 have:q.1∈([312,305,298,291,284]:List Addr):=by
  have z:∀ q∈tbQ,q.1∈([312,305,298,291,284]:List Addr):=by decide +kernel
  exact z q hq
 exact⟨#[],h _ this,trivial,.inl rfl⟩
theorem ok_law(z:Bz K mg base uA uB uI uF uC uE uD):∀(f:Addr)(fd:FuncData),Fun K "law" "law" s_law f fd->FnOk P w K mg base CX0 k_law f fd ["_law_script"] (sp_law K):=by
 have sc:=sc_law
 intro f fd F
 refine F.k sc fun _ _ _ s H _ Q _ hr h=>?_
 obtain⟨a,ns,rfl,hS,h63,hT,hO,q⟩:=h
 refine⟨_,(q11 (pst 1 sc.nd (q42 (q10 (pv 0) (q10 q14 (q10 q14 q12)))))
 (q11 (pst 2 sc.nd (pe_fn (q349 z) hr.m () (q10 (pv 1) q12)))
 (q11 (q363 (pe_fn (q252 z) hr.m () (q10 (pv 1) (q10 (pv 2) (q10 q14 q12)))) (q200 rfl (q28 (pgn 3 sc.nd) (q28 (pgn 4 sc.nd) q97))))
 (q11 (q235 (i:=5) (cl:=[]) (cn:=[]) (N:=[]) (fr:=[]) (sc0:=q17 s_law) sc.nd rfl (Or.inl rfl) rfl (q32 (pv 4)) (fun C s₂ H₂ fp=>(pix (q69 (K:=K) rfl) (pv 0) q14)) (by ac_rfl) trivial rfl rfl rfl cok rfl (by ac_rfl) (.inl rfl))
 (q11 (q60 PassesOwn.never rfl (q59 rfl z.range_ (q10 q14 q12)) (pgn 6 sc.nd)
 (q16 (ps_if (q116 (q87 (pe_fn (q508 z) hr.m () (q10 (pv 1) (q10 (pv 2) (q10 (pv 3) (q10 (pv 5) q12)))))))
 (q16 (q19 pe_bl))
 q21)))
 (q11 (q60 PassesOwn.never rfl (q32 (q42 (q10 (pe_un un_neg q14) (q10 (pln z.len_ (q10 (pv 5) q12)) (q10 (pe_op q29 (pln z.len_ (q10 (pv 5) q12)) (pe_fn (q23 z) hr.m () (q10 (pv 1) (q10 (pe_op q290 q14 q14) q12)))) (q10 (pe_op q54 (pe_un un_neg q14) (pe_fn (q23 z) hr.m () (q10 (pv 1) (q10 (pe_op q290 q14 q14) q12)))) q12)))))) (pgn 7 sc.nd)
 (q16 (ps_if (q116 (q87 (pe_fn (q155 z) hr.m () (q10 (pv 2) (q10 (pv 3) (q10 (q30 (q10 q34 (q10 (pv 7) (q10 q14 q12)))) q12))))))
 (q16 (q19 pe_bl))
 q21)))
 (q16 (q19 (pe_or (q41 (q550 hr.units) (pv 5) (q42 q12) (q20 _)) (q256 (pe_fn (q155 z) hr.m () (q10 (pv 2) (q10 (pv 3) (q10 (q30 (q10 q34 (q10 q14 (q10 q14 q12)))) q12)))))))))))))),?_⟩
 refine⟨_,rfl,szb rfl,fun pen hpen=>?_⟩
 have s0:=q15 hpen (.lst [.ref a,.int 0,.int 0])
 have P0:Pen K (upd H pen (.lst [.ref a,.int 0,.int 0])) pen 0:=⟨a,ns,0,0,q13,(Only.no hO hS).same s0,h63,{},{},{}⟩
 have T0:=(Tbs.first hT).same s0
 generalize upd H pen (.lst [.ref a,.int 0,.int 0])=H0 at *
 obtain⟨x0,hx0⟩:=P0.at
 refine⟨_,rfl,pen,_,rfl,P0,∅,fun b low L H1 k1 P1 hb l0 l1 hL=>?_⟩
 have T1:=T0.pen k1 hx0
 obtain⟨x1,hx1⟩:=P1.at
 refine⟨_,rfl,_,rfl,pen,b,_,12,low,L,rfl,P1,∅,hb,hL,{},{},fun p ga th xs zs gs us H2 k2 P2 hp hga hga0 hgt hgd hgl hth hth0 htr hpm hso hul=>?_⟩
 have T2:=T1.pen k2 hx1
 exists p,_,rfl,SqT.of hp,rfl,_,_,rfl,_,_,rfl,rfl
 have hb2:=k2 _ _ (P1.ne hb) hb
 have hgap:ga≠pen:=P1.fresh hga0
 obtain⟨hwp,hww⟩:=q746 hgd hpm
 have hsrt:=lex_le hso
 have hzl:zs.length=us.length:=Paired.length htr
 have hfew:(Wh gs).length<=900:=by rw[<- hwp.length_eq,ZN,ZN];lia
 refine⟨_,rfl,th,rfl,⟨_,SqL.of hth⟩,fun wl hwl=>?_⟩
 refine q70 (xs:=zs) (sz ∅) (fun j ys H3=>H3=upd H2 wl (.lst ys)/\ys=((us.take j).map (·.1)).map V.int/\ys.length=j) ⟨rfl,by simp,rfl⟩ (fun j ys H3 ⟨e,_⟩=>by rw[e];exact SqL.of (q15 hwl _ _ _ hth)) (fun j ys H3 ⟨e1,_,e3⟩=>⟨by rw[e1];exact q13,e3⟩) ?_ ?_
 ·rintro j z ys H3 hz ⟨rfl,e2,e3⟩
  have hj:j<us.length:=by rw[<- hzl];exact(List.getElem?_eq_some_iff.mp hz).1
  have gu:us[j]? = some us[j]:=ZP hj
  obtain⟨u',gu',ta,rfl,hta⟩:=q108 htr hz
  rw[gu]at gu'
  cases gu'
  refine⟨_,rfl,ta,_,_,_,rfl,rfl,(q15 hwl _).seqT hta,rfl,q13,by rw[q84],?_,by rw[ZV,e3];rfl⟩
  rw[WU,gu,WQ,WQ,<- e2]
  rfl
 ·rintro ys H3 ⟨rfl,e2,e3⟩
  rw[hzl,YD]at e2
  subst e2
  have s3:=q15 hwl (.lst ((us.map (·.1)).map V.int))
  have hwl3:=@q13 H2 wl (.lst ((us.map (·.1)).map V.int))
  have hwlp:wl≠pen:=P2.fresh hwl
  generalize upd H2 wl (.lst ((us.map (·.1)).map V.int))=H3 at *
  have hwsl:(us.map (·.1)).length<=500:=by rw[ZN];exact hul
  generalize us.map (·.1)=ws at *
  have P3:=P2.same s3
  have g3:Gth K H3 b ga xs low L gs:=⟨s3 _ _ hb2,hL,s3 _ _ hga,hgt.same s3,hgd,∅,hfew,T2.same s3⟩
  have hml:(ws.map V.int).length=ws.length:=ZN _
  have hwl0:(Wh gs).length=ws.length:=by rw[<- hwp.length_eq,ZN]
  refine⟨2,rfl,{},{},q78 (n:=2) (fun i σ G=>∃ v6 v7:Option V,σ=[some (V.ref a),some (.ref pen),some (.ref b),some (.ref ga),some (.ref th),some (.ref wl),v6,v7]/\Pen K G pen (1000+50*i)/\Gth K G b ga xs low L gs/\G wl=some (.lst (ws.map V.int))) ⟨_,_,rfl,P3.le ∅,g3,hwl3⟩ ?_ ?_⟩
  ·rintro i σ G hi ⟨v6,v7,rfl,PG,gG,hwG⟩
   refine⟨_,rfl,_,rfl,_,rfl,_,rfl,pen,b,ga,wl,_,low,L,xs,gs,ws,rfl,PG,∅,gG,hgap,hwG,hwlp,hwsl,hsrt,hww,hwp,fun G2 k2' P2' T2'=>⟨_,rfl,iteF ?_⟩⟩
   refine⟨_,_,rfl,P2'.le ∅,⟨k2' _ _ (PG.ne gG.b) (by intro _ z;cases z) gG.b,hL,k2'.l hgap gG.g,gG.at_.tk (fun _ _=>⟨fun h=>k2' _ _ ?_ (by intro _ z;cases z) h,fun _ h=>k2' _ _ ?_ (by intro _ z;cases z) h⟩),hgd,∅,hfew,T2'⟩,k2'.l hwlp hwG⟩
   ·exact PG.ne h
   ·obtain⟨y,e⟩:=PG.at
    exact ne_of h e (by intro z;cases z)
  ·rintro σ G ⟨v6,v7,rfl,PG,gG,hwG⟩
   obtain⟨xG,hxG⟩:=PG.at
   exists _,rfl,_,rfl,wl,_,rfl,.inl (SqL.of hwG),_,rfl,wl,_,rfl,.inl (SqL.of hwG),_,rfl,_,_,rfl,rfl,⟨{},{},{}⟩
   refine⟨pen,_,_,rfl,PG,∅,{},{},fun c1 G1 kk1 PG1 c10 _=>⟨_,_,rfl,rfl,?_⟩⟩
   have gG1:=gG.pen kk1 hxG hgap
   have hwG1:=kk1 _ _ hwlp hwG
   obtain⟨xG1,hxG1⟩:=PG1.at
   refine⟨_,rfl,_,rfl,_,_,rfl,rfl,⟨{},{},{}⟩,pen,_,_,rfl,PG1,∅,{},{},fun c2 G2 kk2 PG2 c20 _=>⟨_,_,rfl,rfl,szb rfl,fun l hl=>?_⟩⟩
   have gG2:=gG1.pen kk2 hxG1 hgap
   have hwG2:=kk2 _ _ hwlp hwG1
   rw[hml]
   have s3':=q15 hl (.lst [V.int (-1),.int (ws.length:Int),.int ((ws.length:Int)+c1),.int (-1-c2)])
   have e3':upd G2 l (.lst [V.int (-1),.int (ws.length:Int),.int ((ws.length:Int)+c1),.int (-1-c2)]) l=some (.lst ([-1,(ws.length:Int),(ws.length:Int)+c1,-1-c2].map V.int)):=q13
   generalize upd G2 l (.lst [V.int (-1),.int (ws.length:Int),.int ((ws.length:Int)+c1),.int (-1-c2)])=G3' at *
   have gG3:=gG2.kp (.of s3') (gG2.tb.same s3')
   have hwG3:=s3' _ _ hwG2
   refine⟨l,rfl,⟨_,SqL.of e3'⟩,q156 (K:=K) (a:=l) (xs:=[-1,(ws.length:Int),(ws.length:Int)+c1,-1-c2].map V.int) (fun j σ G4=>∃ v7:Option V,σ=[some (V.ref a),some (.ref pen),some (.ref b),some (.ref ga),some (.ref th),some (.ref wl),v6,v7]/\Same G3' G4) ⟨_,rfl,Same.refl _⟩ (fun j σ G4 _ ⟨_,_,k⟩=>SqL.of (k _ _ e3')) ?_ ?_⟩
   ·rintro j tv σ G4 hj ⟨v7',rfl,s4⟩
    obtain⟨k,hk,rfl⟩:∃ k:Int,(k<0\/(ws.length:Int)<=k)/\tv = .int k:=by
     match j,hj with
     | 0,hj=>cases hj;exact⟨_,.inl {},rfl⟩
     | 1,hj=>cases hj;exact⟨_,.inr (Int.le_refl _),rfl⟩
     | 2,hj=>cases hj;exact⟨_,.inr ∅,rfl⟩
     | 3,hj=>cases hj;exact⟨_,.inl ∅,rfl⟩
    refine⟨_,rfl,_,rfl,_,rfl,szb rfl,fun aa haa=>?_⟩
    have t5:=q15 haa (.tup [V.str "least", .int k,.int 0])
    have e5:=@q13 G4 aa (.tup [V.str "least", .int k,.int 0])
    generalize upd G4 aa (.tup [V.str "least", .int k,.int 0])=G5 at *
    have s35:=s4.trans t5
    exact⟨b,ga,aa,xs,low,k,L,gs,_,_,rfl,e5,gG3.kp (.of s35) (gG3.tb.same s35),.least k (by rw[hwl0];exact hk),fun G6 s6=>⟨_,rfl,iteF ⟨_,rfl,s35.trans s6⟩⟩⟩
   ·rintro σ G4 ⟨v7',rfl,s4⟩
    refine⟨_,rfl,szb rfl,fun l6 hl6=>?_⟩
    have t6:=q15 hl6 (.lst [])
    have s36:=s4.trans t6
    refine⟨wl,l6,ws,[],rfl,rfl,SqL.of (s36 _ _ hwG3),SqL.of q13,_,rfl,ite2 (fun cc=>?_) (fun cc=>?_)⟩
    ·exact q _
    ·have hnil:ws=[]:=Classical.byContradiction fun z=>cc (by rw[ZK z];rfl)
     have hW0:Wh gs=[]:=eq_nil_of_length_eq_zero (by rw[hwl0,hnil];rfl)
     generalize upd G4 l6 (.lst [])=G6 at *
     refine⟨_,rfl,_,rfl,szb rfl,fun aa haa=>?_⟩
     have t7:=q15 haa (.tup [V.str "most", .int 0,.int 0])
     have e7:=@q13 G6 aa (.tup [V.str "most", .int 0,.int 0])
     generalize upd G6 aa (.tup [V.str "most", .int 0,.int 0])=G7 at *
     have s37:=s36.trans t7
     exact⟨b,ga,aa,xs,low,0,L,gs,_,_,rfl,e7,gG3.kp (.of s37) (gG3.tb.same s37),.most 0 (by rw[hW0];cases L <;> rfl),fun G8 s8=>q _⟩
end My
open PySem PySem.W PyProof.Rows
set_option maxRecDepth 100000 in
set_option maxHeartbeats 0 in
theorem PySem.Challenge.cw_manyleast_k39_told_papers_split_no_more_holds : PySem.Challenge.rw_manyleast_k39_told_papers_split_no_more.Holds := by
 refine MyQ.hd ?_
 k_fill
 refine L2.walkT (k:=My.k_law) (l:=PySem.Challenge.rw_manyleast_k39_told_papers_split_no_more) [(316,312),(309,305),(302,298),(295,291),(288,284)] ⟨rfl,{},{}⟩ rfl rfl (fun w h Y=>PySem.W.km_in_of Y) (fun w h Y=>PySem.W.km_tabs_of Y) ?F
 case F=>
  intro w mg fa h KX G hmg
  exists List.forall_mem_cons.mpr ⟨⟨by kernel_rfl,by kernel_rfl⟩,List.forall_mem_cons.mpr ⟨⟨by kernel_rfl,by kernel_rfl⟩,List.forall_mem_cons.mpr ⟨⟨by kernel_rfl,by kernel_rfl⟩,List.forall_mem_cons.mpr ⟨⟨by kernel_rfl,by kernel_rfl⟩,List.forall_mem_cons.mpr ⟨⟨by kernel_rfl,by kernel_rfl⟩,fun _ h=>nomatch h⟩⟩⟩⟩⟩
  have d_law:L2.Def (L2.KOf KX) mg "law" My.s_law ["_law_script"]:=by
   dsimp only [L2.KOf]
   refine' L2.def_mk KX G ?a ?l ?c ?k ?b
   (case a=>k_is);(case l=>k_is);(case c=>k_is);(case k=>k_is)
   (case b=>exact fun _ _ _ _ _ _ us hl=>match us,hl with | [_],_=>rfl)
  obtain⟨uA,uB,uI,uF,uC,uE,uD,z⟩:∃ uA uB uI uF uC uE uD:Addr,∀ base:Heap,L2.BMain mg base->My.Bz (L2.KOf KX) mg base uA uB uI uF uC uE uD:=by
   dsimp only [L2.KOf]
   refine' ⟨_,_,_,_,_,_,_,?Z⟩
   case' Z=>intro base bm
   refine' ⟨?_,?_,?_,?_,?_,?_,?_,?_,?_,?_,?_,?_,?_,?_,?_,?_,?_,?_,?_,?_,?_,?_,⟨?_,?_,?_,?_,?_,?_,?_,?_⟩,?_,?_,?_,?_,?_,?_,?_,?_,?_,?_,?_,?_,?_,?_,?_,?_,?_,?_,?_,?_,?_,?_,?_,?_,?_,?_,?_,?_,?_,?_,L2.q754 KX G ?_ ?_ ?_ ?_ ?_ ?_,L2.q754 KX G ?_ ?_ ?_ ?_ ?_ ?_,L2.q754 KX G ?_ ?_ ?_ ?_ ?_ ?_,L2.q754 KX G ?_ ?_ ?_ ?_ ?_ ?_,L2.q754 KX G ?_ ?_ ?_ ?_ ?_ ?_,?_,?_,?_,?_,?_,?_,?_,?_,?_,?_,?_,?_,?_,?_,?_,?_,?_,?_,?_,?_,?_,?_,?_,?_,?_,?_,?_,?_,?_,bm⟩
   all_goals try first | (refine' PySem.W.mg_none_of KX G ?_;k_is) | (refine' PySem.W.mg_of KX G ?_;k_is) | (refine' L2.def_mk KX G ?_ ?_ ?_ ?_ ?_ <;> try first | k_is | exact fun _ _ _ _ _ _=>L2.mt0 rfl | exact fun _ _ _ _ _ _=>L2.mt1 fun _=>rfl | exact fun _ _ _ _ _ _=>L2.mt2 fun _ _=>rfl | exact fun _ _ _ _ _ _=>L2.mt3 fun _ _ _=>rfl | exact fun _ _ _ _ _ _=>L2.mt4 fun _ _ _ _=>rfl | exact fun _ _ _ _ _ _=>L2.mt5 fun _ _ _ _ _=>rfl) | k_is | kernel_rfl | exact fun _ _ _ _ _ _=>L2.mt0 rfl | exact fun _ _ _ _ _ _=>L2.mt1 fun _=>rfl | exact fun _ _ _ _ _ _=>L2.mt2 fun _ _=>rfl | exact fun _ _ _ _ _ _=>L2.mt3 fun _ _ _=>rfl | exact fun _ _ _ _ _ _=>L2.mt4 fun _ _ _ _=>rfl | exact fun _ _ _ _ _ _=>L2.mt5 fun _ _ _ _ _=>rfl | exact L2.mt0 rfl | exact L2.mt1 fun _=>rfl | exact L2.mt2 fun _ _=>rfl | exact L2.mt3 fun _ _ _=>rfl | exact L2.mt4 fun _ _ _ _=>rfl | exact L2.mt5 fun _ _ _ _ _=>rfl | decide | (unfold L2.NoAttr;first | k_is | kernel_rfl)
  exact L2.law_mkT d_law (fun base f fd bm hf=>My.ok_law (base:=base) (z base bm) f fd hf) hmg
#print axioms PySem.Challenge.cw_manyleast_k39_told_papers_split_no_more_holds
