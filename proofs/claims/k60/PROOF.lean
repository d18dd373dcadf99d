import PyProof.Rows.All
import Wide.All
import OpenK.AllK
import Wide.FinOn
import Lean
import PyProof.EqAt
import PyProof.EqKinds
import PyProof.TupleCall
import KE.KDictSum
import KE.KIntText
import PyProof.StrBlockI
import PyProof.StrBlockL
import PyProof.StrCalls
import PyProof.StrCalls2
import PyProof.FString
import PyProof.StrBlock
import PyProof.StrWalks
import PyProof.StrLawsTight
import KE.KTryMore
import KE.KRevSl
import KE.KSortTup
import KE.KItemsList
import KE.KSortKey
import PyProof.Rows.SetFrom
import KE.KRevIter
import PyProof.TupleOfGen
import KE.KUnpack
import KE.KTab
import KE.KTabLook
import PyProof.Rows.ZipGen
import PyProof.ZipIter
import PySem.Challenge.RW_manyleast_k60_what_a_desk_is_asked
set_option Elab.async false
set_option linter.all false
set_option maxRecDepth 100000
set_option maxHeartbeats 4000000
theorem fnt:false ≠ true:=Bool.noConfusion
namespace PySem.W.Fast
def tw7674292497303504648:=()
def tw18248866616017575366:=()
def tw11735612310794570464:=()
def tw4571165221459672837:=()
def tw16983156356766790175:=()
def tw13104098046294861810:=()
def tw18258970077237881918:=()
def tw6438393122667772956:=()
def tw12228974739430166879:=()
def tw1523242968541926974:=()
def tw17824111427969220343:=()
def tw13233655415451216845:=()
def tw10225461867600511715:=()
def tw3244074150262138881:=()
def tw13781150410561005929:=()
def tw7635268547522181321:=()
def tw13391320125262989307:=()
def tw12401275796415987596:=()
def tw810483277285803536:=()
def tw11960511953332667292:=()
def tw7704981422072863698:=()
def tw10674067043680467898:=()
def tw176136747224918486:=()
def tw10928185103094478626:=()
def tw4841561948144831862:=()
def tw14252402509523110066:=()
def tw11381643979880962071:=()
def tw9921685727807755435:=()
def tw5190544784514004910:=()
def tw14277264028472327525:=()
def tw159289920359884642:=()
def tw14202530840768277934:=()
def tw17089686603996939070:=()
def tw5039868494357483390:=()
def tw7253826797589774341:=()
def tw5505084317474838028:=()
def tw17228944672201460023:=()
def tw1777386019989471594:=()
def tw9416342967383407621:=()
def tw15611139203357756287:=()
def tw10366555236597406866:=()
def tw17646501400497837024:=()
def tw10498113233240878775:=()
def tw14442223042088135046:=()
def tw506084722562613460:=()
def tw15881791569963224565:=()
def tw209642371284989679:=()
def tw6315762791205855314:=()
def tw1614709238326827297:=()
def tw16258720467840586289:=()
def tw16505413488842263530:=()
def tw9747054618995711974:=()
def tw2450977443962013231:=()
def tw11223099715779107903:=()
def tw16673349864108250374:=()
def tw7128652625623124251:=()
def tw1700297796934975892:=()
def tw10808111340453683001:=()
def tw907066436341549541:=()
def tw10227356312978387625:=()
def tw14599282561262730818:=()
def tw2837303323077362757:=()
def tw15608268961489184015:=()
def tw14300603829703142177:=()
def tw17467034209300981503:=()
def tw5901072332566809543:=()
def tw4231021851328312660:=()
def tw17469137010576402495:=()
def tw1074976015671464928:=()
def tw3984046339844578591:=()
def tw1250413296360375949:=()
def tw16145912080854870213:=()
def tw2611979165867773506:=()
def tw13967932697832078207:=()
def tw16082103331657907264:=()
def tw17742567168078797843:=()
def tw15422292940531736126:=()
def tw15641563723708387084:=()
def tw4217844877387783379:=()
def tw5329663305018748003:=()
def tw2116318280633981780:=()
def tw1331674321610722113:=()
def tw10135827340599014466:=()
def tw4117854834480361561:=()
def tw16489502665604376411:=()
def tw14561318994479137940:=()
def tw11062753942163722384:=()
def tw16533043869709436987:=()
def tw9942995334421685102:=()
def tw2445216400498832926:=()
def tw17341527279929756081:=()
def tw18118621365326969405:=()
def tw17051895053255351612:=()
def tw17830816381149701929:=()
def tw5747435597695942061:=()
def tw11552851535942150449:=()
def tw16914247507796531513:=()
def tw14008926687988313493:=()
def tw8406167087015551452:=()
def tw13181623349232852244:=()
def tw1575110450732024092:=()
def tw8387977697896384227:=()
def tw204416394771109489:=()
def tw10776569594758732305:=()
def tw2659083171236825624:=()
def tw1187478091160774648:=()
def tw2478687752371587528:=()
def tw4344256219701867515:=()
def tw15337901735698961701:=()
def tw6590170009088736220:=()
def tw16270905453106340941:=()
def tw1136097862803032843:=()
def tw4989752409047614439:=()
def tw12822463278888256752:=()
def tw17848417410149431110:=()
def tw8944570376034065166:=()
def tw2745378658709315504:=()
def tw15791378732498521703:=()
def tw14792579508260885592:=()
def tw16316514481622999022:=()
def tw17486315937911341988:=()
def tw12898935375424084938:=()
def tw8726686090494935559:=()
def tw8299587165046571585:=()
def tw15017498350615152487:=()
def tw14782018082280542048:=()
def tw2515147683548321767:=()
def tw2610878706196575380:=()
def tw4815639213182940869:=()
def tw4272310698141147462:=()
def tw8469631976431751410:=()
def tw14812091148204673768:=()
def tw5601082147876943838:=()
def tw3772719875106906533:=()
def tw18405275960795730846:=()
def tw5887128229681561205:=()
def tw7033123226975928093:=()
def tw8643274757629856961:=()
def tw191736159529225122:=()
def tw15398974502709059195:=()
def tw1754144696484785813:=()
def tw508768140701256891:=()
def tw16785603591046713906:=()
def tw18437741578303973484:=()
def tw15552394390470468643:=()
def tw9933985296693649337:=()
def tw4142010180246591321:=()
def tw12755112207726893488:=()
def tw3298300010936634344:=()
def tw13164717751046234774:=()
def tw12651082617264386299:=()
def tw11288216728676369268:=()
def tw18068323108987239918:=()
def tw3924395597765895423:=()
def tw4420261934667453287:=()
def tw875299224719475661:=()
def tw14916225686565035847:=()
def tw3438187778459393123:=()
def tw4748583799389997970:=()
def tw1309202734339608732:=()
def tw13621764292831103558:=()
def tw7761107803168033057:=()
def tw7912642910817192086:=()
def tw10681865433266786909:=()
def tw17775384146817740528:=()
def tw11749588713537377060:=()
def tw11887137725222702075:=()
def tw14779488989934752405:=()
def tw14590554241645140732:=()
def tw15381410110896658450:=()
def tw9550716036455223890:=()
def tw3562859311043964014:=()
def tw7680101059923337797:=()
def tw5677398921097938060:=()
def tw17216985733618570366:=()
def tw2297964913455375542:=()
def tw15018477175967828603:=()
def tw12414339555337455141:=()
def tw3223989944468558646:=()
def tw6916206897447758838:=()
def tw7814172746864783220:=()
def tw3171279331266756781:=()
def tw2182167179563949717:=()
def tw14676474121868903871:=()
def tw3389192785804387262:=()
def tw3072404116491829383:=()
def tw17044819959649551243:=()
def tw4692928888188244601:=()
def tw11565066897794326154:=()
def tw4604139818626484484:=()
def tw14428464832636438383:=()
def tw480278111867222062:=()
def tw14911805265737935263:=()
def tw5188951482470000806:=()
def tw4247745577103242744:=()
def tw6472956451160256859:=()
def tw16158868878642706968:=()
def tw2120457735356467843:=()
def tw4808950543253363581:=()
def tw144659140826314361:=()
def tw4950580800906469354:=()
def tw6932776233077646467:=()
def tw33629291032162940:=()
def tw3618129029108379041:=()
def tw17731241378077780531:=()
def tw1363473646964845656:=()
def tw7164447993671083142:=()
def tw16602414045665831649:=()
def tw2140310516834484182:=()
def tw2353099961009879568:=()
def tw1485493585128531333:=()
def tw7776016063620975759:=()
def tw3249111543083589531:=()
def tw612008121336243751:=()
def tw11343903489246459256:=()
def tw4143777134573641084:=()
def tw1859628274250455520:=()
def tw11699809319675599399:=()
def tw15915806478239237007:=()
def tw17882394903723346866:=()
def tw13599809739172481258:=()
def tw15603339954407093263:=()
def tw17944970265626361695:=()
def tw15523127495285566071:=()
def tw4088144234151177072:=()
def tw1227006098917210663:=()
def tw18024155805704515402:=()
def tw8837010606522363093:=()
def tw17602089171715195962:=()
def tw6234057829302764384:=()
def tw17937800105000055360:=()
def tw9760111895251921728:=()
def tw14366585254422855137:=()
def tw3745408631365147495:=()
def tw3620856892647408467:=()
def tw12000967465500802181:=()
def tw6628119156497107250:=()
def tw8853813002755587140:=()
def tw15079362820179193744:=()
def tw12495214420855687126:=()
def tw11885624622457937270:=()
def tw3120346165206571232:=()
def tw9107689523670181856:=()
def tw12855495260564303276:=()
def tw10336556913703776536:=()
def tw15568258831191555420:=()
def tw13305298859380553211:=()
def tw297738783912879456:=()
def tw322295246221327223:=()
def tw17112086195055807262:=()
def tw14017121464172096563:=()
def tw508037691183021049:=()
def tw12574383615001655546:=()
def tw11516297942970172145:=()
def tw10191239657598446345:=()
def tw13741008209235051298:=()
def tw4004120644863606594:=()
def tw2327721491251436090:=()
def tw11102700100208000855:=()
def tw11977646088073847918:=()
def tw10417425706776611645:=()
def tw13966456347038353127:=()
def tw17637979102295490783:=()
def tw6684263576911574636:=()
def tw6559644494775957954:=()
def tw8477670951307206872:=()
def tw13878754149126678279:=()
def tw11203456374039024713:=()
def tw17988845477219354645:=()
def tw18302063642845257522:=()
def tw16972992519164167638:=()
def tw712090011266550194:=()
def tw1069839481671484912:=()
def tw18395454504429595746:=()
def tw11774659008337028895:=()
def tw11641909142981106098:=()
def tw3592108883931922519:=()
def tw3721733620583759314:=()
def tw9594316055933176975:=()
def tw13608963045956336470:=()
def tw11880447994219283590:=()
def tw1198265368805838418:=()
def tw8159205760508497542:=()
def tw14974777253472074537:=()
def tw12270529452202628625:=()
def tw13447967112608379263:=()
def tw16243105911518860428:=()
def tw11619275535398678472:=()
def tw10864236124755784880:=()
def tw17377532221302565686:=()
def tw9379168398719077393:=()
def tw13731138097183494419:=()
def tw6449874082298323994:=()
def tw16831749919388689775:=()
def tw17253480600099142821:=()
def tw17315499856962299121:=()
def tw3307799699880198628:=()
def tw14920650950586792863:=()
def tw15856750273124908767:=()
def tw15169776829929521990:=()
def tw10564644320713959332:=()
def tw15443927895630573860:=()
def tw18020262977532143048:=()
def tw4471597903241821774:=()
def tw17927209365911276747:=()
def tw7407441786695144822:=()
def tw3943501410029744453:=()
def tw5395752956898995177:=()
def tw6073753567944891374:=()
def tw2732893748803753949:=()
def tw611003918761163407:=()
def tw10539917982025870912:=()
def tw3666949764617590468:=()
def tw3377857553139622080:=()
def tw4926639539097891387:=()
def tw15271936629321463369:=()
def tw11359897578459227589:=()
def tw6633215055434785361:=()
def tw15458835595015023536:=()
def tw17271470829168881909:=()
def tw2615959843942426295:=()
def tw6409026234321030885:=()
def tw10208302310579538348:=()
def tw11181372773320470602:=()
def tw942893568175587570:=()
def tw13321819550387383296:=()
def tw15628531873284560648:=()
def tw8039009525013810344:=()
def tw15185096019589371047:=()
def tw15261425497004603563:=()
def tw5188480791567180748:=()
def tw5843374686070458604:=()
def tw6596947005689906083:=()
def tw2784023171668137493:=()
def tw551836437800675885:=()
def tw16017699742853112294:=()
def tw16429940669077248950:=()
def tw792699095994424029:=()
def tw11303057786546945284:=()
def tw6807679924032663122:=()
def tw15036107533047435701:=()
def tw8759969022592424450:=()
def tw12505384076735596575:=()
def tw11052326778512405803:=()
def tw13642875164178000248:=()
def tw2566894050809082098:=()
def tw14942534792681987578:=()
def tw14881009748852384815:=()
def tw5198660291630214306:=()
def tw7480827456196019596:=()
def tw15077157489230242950:=()
def tw14752197326238955314:=()
def tw14139161800267195771:=()
def tw12435614756702479175:=()
def tw1079687061922617317:=()
def tw4475181550004555937:=()
def tw15953521995611105209:=()
def tw11232838853394770755:=()
def tw6984473237516983410:=()
def tw11933112377942705936:=()
def tw17306330092149664745:=()
def tw15352761886253236067:=()
def tw17687080373137187399:=()
def tw6189652597256753986:=()
def tw17225988280897008194:=()
def tw11177376052753103243:=()
def tw17649210327131265108:=()
def tw16115526169260208724:=()
def tw14827502161262698560:=()
def tw15050823862007342304:=()
def tw14327315784324389765:=()
def tw10656573848769628301:=()
def tw12724087408085337103:=()
def tw5386561324595667108:=()
def tw10966392545186587816:=()
def tw13938566928870052902:=()
def tw1980318968702549101:=()
def tw13058369985960926867:=()
def tw5536639993774671755:=()
def tw11749487315152246481:=()
def tw17882875108362544128:=()
def tw5334872461127508993:=()
def tw15306710689577786743:=()
def tw12660688718718404601:=()
def tw192009568422550426:=()
def tw14058223176512322791:=()
def tw3103211446093417599:=()
def tw6641170459616066620:=()
def tw14914317176923695075:=()
def tw5070310548233117411:=()
def tw8635244659939807635:=()
def tw1672945863532504094:=()
def tw11632674025664687788:=()
def tw13113279497420890246:=()
def tw12553692705506451159:=()
def tw7642145224787255517:=()
def tw1389510643753211450:=()
def tw13859944121474407216:=()
def tw15647136253441359330:=()
def tw10450099413312166122:=()
def tw10771011359032970128:=()
def tw17519689211495076469:=()
def tw13012146255050656454:=()
def tw15431941967052958366:=()
def tw2687318378406708625:=()
def tw6217542646303236270:=()
def tw12503220897896525672:=()
def tw17697930456357626013:=()
def tw11112463781914130232:=()
def tw11991786429247062397:=()
def tw15486315962406288236:=()
def tw12045977006511410727:=()
def tw1698673812702232807:=()
def tw12742603943076034715:=()
def tw12547721979330779338:=()
def tw10691088894898262070:=()
def tw13041228089713870373:=()
def tw17287760240833611503:=()
def tw13602191207888941373:=()
def tw10619729634120641596:=()
def tw163114047492547523:=()
def tw10712048382095447389:=()
def tw4943363048286905282:=()
def tw17630358853239650919:=()
def tw9217466166556058135:=()
def tw9884147059570003448:=()
def tw18067548929826270450:=()
def tw18338490306511264744:=()
def tw2596755819334434013:=()
def tw17206981130203054672:=()
def tw9741883707378366079:=()
def tw504898447595100684:=()
def tw17108949793459873180:=()
def tw18289966725900968765:=()
def tw12123760783578392913:=()
def tw9837341199534637542:=()
def tw17479929926152133941:=()
def tw15200860215020347862:=()
def tw13331799102820452430:=()
def tw13458786669361939397:=()
def tw17457935457014197737:=()
def tw17009171168638439353:=()
def tw4023331976060232868:=()
def tw11848144559788319719:=()
def tw7083966564876649157:=()
def tw10747966108302296897:=()
def tw15105951306327110766:=()
def tw13262475041202141201:=()
def tw3556715701028046254:=()
def tw16587431545475159131:=()
def tw6794856156354739794:=()
def tw16798706581290257911:=()
def tw6599144325835954985:=()
def tw12184912256552312000:=()
def tw14827239785369392740:=()
def tw16801158147588548307:=()
def tw5440075309784320405:=()
def tw2859820984394256952:=()
def tw3062168796765155075:=()
def tw8485780101146922087:=()
def tw17843532327019408300:=()
def tw17511219461071171190:=()
def tw14485869011961339283:=()
def tw11147370930651100837:=()
def tw15096688946648269336:=()
def tw10260721491517900414:=()
def tw3202155891042941357:=()
def tw4097650393434966162:=()
def tw8581326260025681489:=()
def tw5629544736467009421:=()
def tw10172476394355881009:=()
def tw6113127141978061145:=()
def tw3846682634701974397:=()
def tw5601044899776564042:=()
def tw1629991231716663197:=()
def tw11885921110870691207:=()
def tw7809923646849403874:=()
def tw17363700229830788073:=()
def tw1978435785021192969:=()
def tw12597016068040404279:=()
def tw137063309134021884:=()
def tw13811496623242326813:=()
def tw7712415438901333027:=()
def tw1678821464134821492:=()
def tw6486055963522307672:=()
def tw11903293230835376882:=()
def tw14590855691560282578:=()
def tw11231328734227982066:=()
def tw11356605272325340921:=()
def tw17930153009436388624:=()
def tw15634018040743628268:=()
def tw5758995790610821625:=()
def tw15870917572828541947:=()
def tw4674875598244990735:=()
def tw4750661465602354943:=()
def tw15696968180536514805:=()
def tw3693570257050726257:=()
def tw17773192183622312712:=()
def tw13226115310153850325:=()
def tw16425379525420027363:=()
def tw16583952776445121638:=()
def tw18385383433443653613:=()
def tw14526889889878812455:=()
def tw7102833189965195840:=()
def tw14408524703510956743:=()
def tw4800126108278281556:=()
def tw14053655687565462555:=()
def tw17986964906766443500:=()
def tw5397613087458712570:=()
def tw18042798187176203532:=()
def tw4673480333800690512:=()
def tw8875959035267395272:=()
def tw16770904056880811672:=()
def tw2553001649391818298:=()
def tw13700872360193932647:=()
def tw14869569462297300073:=()
def tw11218314562259379808:=()
def tw6228848046560403340:=()
def tw11007097354776678296:=()
def tw18325423706631677413:=()
def tw3616683644640580833:=()
def tw14073052022422336151:=()
def tw7073723106415570510:=()
def tw8111278964053383961:=()
def tw14527049849853199733:=()
def tw3216398108196631453:=()
def tw9028581058479235197:=()
def tw17545505337572890887:=()
def tw4701975117800607314:=()
def tw14368399033809313232:=()
def tw5240770877861799079:=()
def tw16769612348658819024:=()
def tw16448861731739550556:=()
def tw4341919839138043848:=()
def tw5129813856214350174:=()
def tw8133208717533611839:=()
def tw11404130643108902780:=()
def tw18049821024795151761:=()
def tw11471473788652649985:=()
def tw17457657202996271276:=()
def tw10035351949393962723:=()
def tw13284877575325649680:=()
def tw12850530644545853930:=()
def tw1822198016623068738:=()
def tw8219497215650246710:=()
def tw17003560279869648969:=()
def tw4759166837642580927:=()
def tw14067739428728556321:=()
def tw17614656933658897480:=()
def tw3296742472607424817:=()
def tw10943858839046318994:=()
def tw8623002256667468282:=()
def tw12151705910024032861:=()
def tw18384674437731209691:=()
def tw5468156079398499592:=()
def tw12217934362449072246:=()
def tw13222630315502107077:=()
def tw11045363888811576035:=()
def tw2034999473310350263:=()
def tw4872747659387487068:=()
def tw3227468565237983797:=()
def tw7582079500358142877:=()
def tw1421713049688984475:=()
def tw820828562345894460:=()
def tw5901430726468981197:=()
def tw2703074691167408847:=()
def tw13236718972934675748:=()
def tw227171357190814381:=()
def tw3572417001886706860:=()
def tw17106329982786690156:=()
def tw4349900917627480665:=()
def tw14474905991333235237:=()
def tw16715389658894033927:=()
def tw3601048245089848808:=()
def tw13848239978758909495:=()
def tw6791428357768889347:=()
def tw8054397706830345737:=()
def tw5873479248482162293:=()
def tw8772239038115725272:=()
def tw12431516398441610463:=()
def tw16218224293195668995:=()
def tw16183503781704753106:=()
def tw1396368501531515534:=()
def tw9678211199351675716:=()
def tw6748370351485514982:=()
def tw14083757085711006864:=()
def tw1950825402390410162:=()
def tw12280885612751296352:=()
def tw11248718798221991005:=()
def tw15856818236842049190:=()
def tw6989486884147694940:=()
def tw1726005545985108273:=()
def tw10950791928766611314:=()
def tw2569730779331447299:=()
def tw11631863990795517745:=()
def tw2833352773316742290:=()
def tw11427411420407961092:=()
def tw5917140056781538969:=()
def tw12430964271937087039:=()
def tw8247775489231143972:=()
def tw7297820475394887334:=()
def tw12783491063311021267:=()
def tw3560995363812124035:=()
def tw7734951286985288912:=()
def tw15676042376486009716:=()
def tw7160714532813857056:=()
def tw3043700310293181738:=()
def tw12060203826042190756:=()
def tw10019425112020984713:=()
def tw4347894746285693282:=()
def tw192063076281939008:=()
def tw2772459816863053733:=()
def tw10222546383708442458:=()
def tw16939798490084659457:=()
def tw6772034670510668543:=()
def tw11564625901600237268:=()
def tw9430549333978338382:=()
def tw5285647739926372316:=()
def tw9148142872804410934:=()
def tw5903613322463724962:=()
def tw17752638519852179580:=()
def tw9364048401943346004:=()
def tw5009314269842699072:=()
def tw8304217999533610869:=()
def tw15935125133104262604:=()
def tw2640393066285061548:=()
def tw16472322031632221185:=()
def tw17503790061782949567:=()
def tw8368894303829769030:=()
def tw5030648269594456481:=()
def tw5224106164571276146:=()
def tw11100146757761921119:=()
def tw14041416012762571144:=()
def tw14935232646255947938:=()
def tw8558953226883508286:=()
def tw8574704722815318613:=()
def tw16611922359269605385:=()
def tw11644469033646654793:=()
def tw1083617822959831716:=()
def tw5232972988802340267:=()
def tw6385607679943130810:=()
def tw2008784020946303337:=()
def tw14357222686223929126:=()
def tw18172507842498885816:=()
def tw13093121800369196963:=()
def tw6043418959649713492:=()
def tw16815673483188706650:=()
def tw7755899820340837555:=()
def tw11315442918463952194:=()
def tw12197262421536190755:=()
def tw7882110577817051474:=()
def tw17221772374719445664:=()
def tw3684624930378192191:=()
def tw12831588118887938167:=()
def tw8977401984734374190:=()
def tw11927763994563257418:=()
def tw10357370430969223565:=()
def tw13794765021056435038:=()
def tw8978008477058012154:=()
def tw4493274727503332183:=()
def tw4148736206337018489:=()
def tw14480281128674206614:=()
def tw17204108299387176123:=()
def tw17484554053451167843:=()
def tw16654145423276611312:=()
def tw152990792875885375:=()
def tw3672475915732655821:=()
def tw12763278506344184473:=()
def tw11887084620510147936:=()
def tw5124481294958198:=()
def tw17432069954942807944:=()
def tw12288507452661307721:=()
def tw13568375858837632903:=()
def tw1399397521353475343:=()
def tw10141419436907847325:=()
def tw6453942294095292029:=()
def tw1063014282124767434:=()
def tw14438423301838271214:=()
def tw8951087259668242868:=()
def tw3116776810345571231:=()
def tw9414846898499195226:=()
def tw16360277472974387980:=()
def tw13259977382368533591:=()
end PySem.W.Fast
namespace MyQ
open PySem PySem.W PyProof.Rows List
set_option maxRecDepth 100000 in
set_option maxHeartbeats 0 in
open_top hd for PySem.Challenge.rw_manyleast_k60_what_a_desk_is_asked
end MyQ
local macro_rules|`(tactic|walk_at "a")=>`(tactic|(first | exact .inl rfl | exact .inr rfl | assumption))
local macro_rules|`(tactic|walk_at "b")=>`(tactic|(first | exact Or.inl rfl | exact Or.inr (Or.inl rfl) | exact Or.inr (Or.inr rfl)))
local macro_rules|`(tactic|walk_at "c")=>`(tactic|(first | exact Or.inl rfl | exact Or.inr rfl))
local macro_rules|`(tactic|walk_at "d")=>`(tactic|(intro vs H Q E h;first | (cases h;subst_vars;rfl) | ((repeat (first | obtain ⟨rfl,_⟩:=h | obtain ⟨_,h⟩:=h));rfl)))
set_option autoImplicit true
abbrev Fg:=PySem.W.Frag
abbrev VS:=PySem.Value->PySem.Shared->Prop
abbrev LL:=List (List Int)
abbrev Mg:=PySem.Str->Option PySem.Value
section
open PySem PySem.Spec PyProof.Rows PySem.W List
theorem ZA:type_of% @wpAny_bind:=@wpAny_bind
theorem ZE:type_of% @Heap.get?_push_of_some:=@Heap.get?_push_of_some
theorem ZF:type_of% @Nat.le_refl:=@Nat.le_refl
theorem ZG:type_of% @decide_eq_true:=@decide_eq_true
theorem ZI:type_of% @of_decide_eq_true:=@of_decide_eq_true
theorem ZJ:type_of% @if_neg:=@if_neg
theorem ZK:type_of% @length_map:=@length_map
theorem ZL:type_of% @if_pos:=@if_pos
theorem ZM:type_of% @length_append:=@length_append
theorem ZN:type_of% @kasC_bind:=@kasC_bind
theorem ZO:type_of% @wpAny_pure:=@wpAny_pure
theorem ZP:type_of% @getElem?_eq_getElem:=@getElem?_eq_getElem
theorem ZQ:type_of% @mem_cons_self:=@mem_cons_self
theorem ZR:type_of% @kasC_pure:=@kasC_pure
theorem ZS:type_of% @decide_eq_false:=@decide_eq_false
theorem ZT:type_of% @Nat.le_trans:=@Nat.le_trans
theorem ZU:type_of% @mem_cons_of_mem:=@mem_cons_of_mem
theorem ZV:type_of% @mem_of_getElem?:=@mem_of_getElem?
theorem ZW:type_of% @Heap.lt_size:=@Heap.lt_size
theorem ZX:type_of% @Nat.zero_le:=@Nat.zero_le
theorem ZY:type_of% @Heap.get?_push_size:=@Heap.get?_push_size
theorem WB:type_of% @length_cons:=@length_cons
theorem WC:type_of% @size_toArray:=@size_toArray
theorem WE:type_of% @getElem?_map:=@getElem?_map
theorem WF:type_of% @map_append:=@map_append
theorem WG:type_of% @Nat.lt_of_lt_of_le:=@Nat.lt_of_lt_of_le
theorem WI:type_of% @mem_append_right:=@mem_append_right
theorem WK:type_of% @take_add_one:=@take_add_one
theorem WL:type_of% @length_take:=@length_take
theorem WM:type_of% @getElem?_append_right:=@getElem?_append_right
theorem WN:type_of% @Nat.ne_of_lt:=@Nat.ne_of_lt
theorem WO:type_of% @getElem?_append_left:=@getElem?_append_left
theorem WP:type_of% @take_of_length_le:=@take_of_length_le
theorem WR:type_of% @Array.toList_append:=@Array.toList_append
theorem WS:type_of% @take_length:=@take_length
theorem WT:type_of% @getD_eq_getElem?_getD:=@getD_eq_getElem?_getD
theorem WU:type_of% @Int.le_refl:=@Int.le_refl
theorem WV:type_of% @decide_eq_true_eq:=@decide_eq_true_eq
theorem WW:type_of% @PySem.F.plainAttrs_str:=@PySem.F.plainAttrs_str
theorem WX:type_of% @wpAny_mono:=@wpAny_mono
theorem WY:type_of% @Array.length_toList:=@Array.length_toList
theorem WZ:type_of% @Bool.and_eq_true:=@Bool.and_eq_true
theorem YA:type_of% @map_cons:=@map_cons
theorem YB:type_of% @Nat.le_of_ble_eq_true:=@Nat.le_of_ble_eq_true
theorem YC:type_of% @Array.getElem?_toList:=@Array.getElem?_toList
theorem YD:type_of% @wpAny_field:=@wpAny_field
theorem YE:type_of% @wpAny_callSpecial?_slot:=@wpAny_callSpecial?_slot
theorem YF:type_of% @PySem.F.plainAttrs_list:=@PySem.F.plainAttrs_list
theorem YG:type_of% @mem_of_mem_take:=@mem_of_mem_take
theorem YH:type_of% @Nat.min_eq_left:=@Nat.min_eq_left
theorem YJ:type_of% @wpAny_call_entry:=@wpAny_call_entry
theorem YK:type_of% @wpAny_setField_rec:=@wpAny_setField_rec
theorem YL:type_of% @Nat.zero_add:=@Nat.zero_add
theorem YM:type_of% @PySem.F.slot_list_append:=@PySem.F.slot_list_append
theorem YN:type_of% @PySem.F.type_list_append:=@PySem.F.type_list_append
theorem YO:type_of% @PySem.F.slot_str_join:=@PySem.F.slot_str_join
theorem YQ:type_of% @PySem.F.type_str_join:=@PySem.F.type_str_join
theorem YR:type_of% @wpAny_truthy_bool:=@wpAny_truthy_bool
theorem YS:type_of% @append_assoc:=@append_assoc
theorem YT:type_of% @drop_eq_getElem_cons:=@drop_eq_getElem_cons
theorem YU:type_of% @wpAny_holding:=@wpAny_holding
theorem YV:type_of% @PySem.W.kia_one:=@PySem.W.kia_one
theorem YW:type_of% @filter_append:=@filter_append
theorem YX:type_of% @countP_append:=@countP_append
theorem YY:type_of% @take_append_drop:=@take_append_drop
theorem YZ:type_of% @wpAny_newObj_type:=@wpAny_newObj_type
end
local macro_rules|`(∅)=>`(by omega)
local macro_rules(kind:=Lean.Parser.Term.structInst)|`({})=>`(by decide)
local macro_rules|`(tactic|exists $[$es],*)=>`(tactic|refine ⟨$[$es],*, ?_⟩)
local macro_rules|`(tactic|lia)=>`(tactic|omega)
section
variable {a b c d e f g h r s t u v x y:Nat}{i j k l m n o p q z:Int}{A B C D:Prop}
theorem W1:a=48\/a=49\/a=50\/a=51\/a=52\/a=53\/a=54\/a=55\/a=56\/a=57↔48<=a/\a<=57:=∅
theorem W2(_:a<b):b-(a+1)<b-a:=∅
theorem W3(_:a<=b):Min.min a b-c=a-c:=∅
theorem W4(_:a+1<=b):c+b-1=c+(b-1):=∅
theorem W5(_:a<b):c+b-1=c+(b-1):=∅
theorem W6(_:a=b)(_:b<c):c-b=c-b-1+1:=∅
theorem W7(_:a+1<=b):c+b-(a+1)=c+(b-(a+1)):=∅
theorem W8(_:a+1<=b):b-a=b-(a+1)+1:=∅
theorem W9:a+1+b=a+(b+1):=∅
theorem W10(_:a<=b):a+(b-a)=b:=∅
theorem W11:a+b-a=b:=∅
theorem W12(_:i=0\/i=1\/i=2\/i=3\/i=4\/i=5\/i=8\/i=40):0<=i/\i<=40:=∅
theorem W13:0<=(a:Int):=∅
theorem W14(_:0<=i)(_:i<4):i=0\/i=1\/i=2\/i=3:=∅
theorem W15(_:0<a):a-1<a:=∅
theorem W16(_:a<=b)(_:¬a=b):a<b:=∅
theorem W17:a<=a+b:=∅
theorem W18:a-b<=a:=∅
theorem W19(_:a<b+1+c):a<b+(c+1):=∅
theorem W20(_:¬i<j):j<=i:=∅
theorem W21(_:a+1<=b):a<=b:=∅
theorem W22(_:a<b):c+a<c+b:=∅
theorem W23(_:a<b):a<=b:=∅
theorem W24(_:0<a)(_:b<a)(_:¬b=a-1):b<a-1:=∅
theorem W25(_:a<=b):a<=b+1:=∅
theorem W26(_:a=b)(_:b<c)(_:c-b=d+1):c-(b+1)=d:=∅
theorem W27(_:a<=b)(_:b<c):b-a<=c:=∅
theorem W28(_:-10^50<i/\i<10^50):-10^60<i:=∅
theorem W29(_:a<=b)(_:¬a<b):a=b:=∅
theorem W30(_:¬a<b):b<=a:=∅
theorem W31:((a:Int)+(b:Int)*1).toNat=a+b:=∅
theorem W32:i*2=i+i:=∅
theorem W33(_:-10^50<i/\i<10^50):i<10^60:=∅
theorem W34(_:a<b)(_:b<=c):a<c:=∅
theorem W35(_:a<b)(_:c=a):b-(a+1)<b-a:=∅
theorem W36(_:a<b):a+1<=b:=∅
theorem W37(_:0<a):a-1<=a:=∅
theorem W38(_:¬a=0):a-1<a:=∅
theorem W39(_:a<b)(_:b=c):a<c:=∅
theorem W40(_:a=b)(_:c<b+1)(_:d+1<=b)(_:b+1-(d+1+1)<=c)(_:¬c=b):b-(d+1)<=c:=∅
theorem W41(_:1<=a)(_:b=c)(_:d+1<=c)(_:a+1<=c):c-(d+1)<=c-1:=∅
theorem W42(_:i<j+1)(_:j<=k/\k<j+1)(_:j<=i):i=k:=∅
theorem W43(_:a<=b):¬b<a:=∅
theorem W44(_:a=b):b-a=0:=∅
theorem W45(_:a<b+1)(_:¬a=b):a<b:=∅
theorem W46:i-j-k=i-(j+k):=∅
theorem W47:a+1+b=a+b+1:=∅
theorem W48:a+b+c=a+(b+c):=∅
theorem W49(_:i<j+k):i-j<k:=∅
theorem W50:(↑(a+1):Int)=(a:Int)+1:=∅
theorem W51(_:i=2\/i=3\/i=8):1<=i/\i<=8:=∅
theorem W52(_:a=b):b-1<=b:=∅
theorem W53:a<=b+a:=∅
theorem W54(_:a+1<=b):c<=c+b-(a+1):=∅
theorem W55(_:a-1<b):a-1<=b:=∅
theorem W56(_:a=b+c)(_:¬d<c):b+d=a+(d-c):=∅
theorem W57(_:a<=b):c+a<=c+b:=∅
theorem W58(_:a+1<b):a<b:=∅
theorem W59(_:a<=b):c+b-(c+a)<=c+b:=∅
theorem W60(_:a<b-c)(_:c<b):c+a<b:=∅
theorem W61(_:i<j):¬j<=i:=∅
theorem W62(_:2<=a):0<a:=∅
theorem W63(_:a<b):Min.min a b=a:=∅
theorem W64(_:a<=b)(_:¬c>=a):(c+a)/2<=b:=∅
theorem W65:i<i+1:=∅
theorem W66(_:a<3)(_:a<=3):a+1<=3:=∅
theorem W67(_:a+b=c+(b-d))(_:c=a+d)(_:¬e<d):a+e=c+(e-d):=∅
theorem W68(_:¬i<j+k):j+k<=i:=∅
theorem W69(_:-10^45<i)(_:i<10^45):-10^60<i:=∅
theorem W70(_:-10^45<i)(_:i<10^45):-10^50<i:=∅
theorem W71(_:1<=a)(_:2<=b)(_:c+a+b<=d+e)(_:¬b-1=1):c+1+a+(b-1)<=d+e:=∅
theorem W72(_:a=b)(_:c<d)(_:e+d<=b):e+c<a:=∅
theorem W73(_:a<b)(_:c=b):a+1<=b:=∅
theorem W74:a<=a:=∅
theorem W75(_:a<=b)(_:¬a<c):¬(d+b-(d+b-(d+a))<d+c/\d+c<=d+b):=∅
theorem W76(_:a<b)(_:c<a):c<b:=∅
theorem W77(_:1<=a)(_:2<=b)(_:c+a+b<=d+e)(_:¬b-1=1):a+(b-1)<=d+e:=∅
theorem W78(_:-10^45<i)(_:i<10^45):i<10^60:=∅
theorem W79(_:-10^45<i)(_:i<10^45):i<10^50:=∅
theorem W80(_:¬i<=j):j<i:=∅
theorem W81:-2^62<=(a:Int):=∅
theorem W82(_:0<a)(_:b<a)(_:a-1<=b):b=a-1:=∅
theorem W83(_:a<=b)(_:b<=c):a<=c:=∅
theorem W84:¬(a:Int)<0:=∅
theorem W85(_:a<=8):a<=100:=∅
theorem W86(_:a>1):a-1<a:=∅
theorem W87(_:i=2)(_:i=3):False:=∅
theorem W88(_:a<b):(a:Int)<(b:Int):=∅
theorem W89(_:a>1):a-1<=a:=∅
theorem W90(_:a=b-c+d)(_:¬e<b+d):b+d<=e:=∅
theorem W91(_:0<a)(_:b<c+a):b-c<a:=∅
theorem W92(_:a<b)(_:c<=a):c<b:=∅
theorem W93(_:a<=b):(a:Int)<=(b:Int):=∅
theorem W94(_:1<=a)(_:b=c)(_:a+1<=c):c-1<c:=∅
theorem W95(_:a<b-c)(_:b<=d):c+a<d:=∅
theorem W96(_:0<=i/\i<j):(↑i.toNat:Int)=i:=∅
theorem W97(_:(a:Int)=(b:Int)):a=b:=∅
theorem W98(_:a<b+c)(_:b<=a):a-b<c:=∅
theorem W99(_:a=b)(_:c<b+1)(_:¬c=b):c<b:=∅
theorem W100(_:(a:Int)<(b:Int)):a<b:=∅
theorem W101:(i%2147483647+3*(j+1))*48271%2147483629+69621<2^64:=∅
theorem W102:0+a+b<=a+b:=∅
theorem W103(_:a=b)(_:c<b+1):c<=b:=∅
theorem W104(_:a+1<b)(_:¬a+1+1=b):a+1+1<b:=∅
theorem W105(_:a<b)(_:a=c)(_:c=b):False:=∅
theorem W106(_:0<a)(_:a<=b):a-1<b:=∅
theorem W107(_:a<=b-c)(_:c<=b):c+a<=b:=∅
theorem W108(_:2<=a)(_:a<=b):a-1<b:=∅
theorem W109(_:a+1=b+1):a=b:=∅
theorem W110(_:a<b)(_:a=c)(_:b=c):False:=∅
theorem W111(_:¬a>0):a=0:=∅
theorem W112(_:a<b+c)(_:b<=a)(_:c<=d-b):a-b<d-b:=∅
theorem W113(_:a<b)(_:c+b=d+(b-e))(_:d=c+e)(_:¬a<e):a-e<b-e:=∅
theorem W114(_:a<=40):0<=(a:Int):=∅
theorem W115(_:¬a=0):0<a:=∅
theorem W116(_:a<=b-c)(_:c+a<b)(_:c<=b):a<b-c:=∅
theorem W117(_:(a:Int)<=i)(_:0<=j)(_:j<(a:Int)-(b:Int)):(↑(b+j.toNat):Int)<i:=∅
theorem W118(_:a<=40):-2^62<=(a:Int):=∅
theorem W119:a<a+(b+1):=∅
theorem W120(_:¬a-1=0):1<=a-1:=∅
theorem W121:-2^64<(i%2147483647+3*(j+1))*48271%2147483629+69621:=∅
theorem W122(_:a=b)(_:b<=c)(_:¬b<c):b=c:=∅
theorem W123(_:a=b)(_:b<=c)(_:d+c<=e)(_:d=f+g):d+b<=e:=∅
theorem W124(_:a>0):b<=b+a:=∅
theorem W125(_:-10^45<i/\i<10^45):-10^50<i/\i<10^50:=∅
theorem W126:0+(a+b)<=a+b:=∅
theorem W127:¬0>(a:Int):=∅
theorem W128(_:a=b)(_:c<d)(_:¬b=0):b-1<b:=∅
theorem W129(_:a<48\/58<a):a<48\/57<a:=∅
theorem W130(_:¬a=0):0<(a:Int):=∅
theorem W131(_:2<=a/\a<b)(_:b<=c):0+a<=c:=∅
theorem W132:(↑(a+1):Int)-1=(a:Int):=∅
theorem W133(_:a<b+1)(_:c<b+1)(_:¬a=b)(_:¬c=b):c<b:=∅
theorem W134(_:a<=200):a<=1000:=∅
theorem W135(_:a<b+c)(_:d+a=e+(a-b))(_:e=d+b):a-b<c:=∅
theorem W136(_:a<1)(_:b<a):¬a<1:=∅
theorem W137(_:¬0<=i):i<0:=∅
theorem W138(_:i<=2^40):j+i<=j+2^40:=∅
theorem W139(_:i<=j)(_:k<i):k<j:=∅
theorem W140(_:a<=b):0+a<=b:=∅
theorem W141(_:i=(a:Int)):-2^62<=(a:Int):=∅
theorem W142(_:i<j):i+1<=j:=∅
theorem W143(_:1<=a)(_:b<a)(_:c<b)(_:¬a>1):¬b<a:=∅
theorem W144:0<=a:=∅
theorem W145(_:a<b)(_:c=b)(_:b<=d):a<d:=∅
theorem W146(_:0<a)(_:b+a<=c)(_:b=d+e):b<=c:=∅
theorem W147:0+1<=a+1:=∅
theorem W148(_:a+3*(b+1)+5<PySem.recursionLimit):a+1+3*b+5<PySem.recursionLimit:=∅
theorem W149(_:a-1<b)(_:a-1=1):a-1<=b:=∅
theorem W150(_:a<b)(_:a=c)(_:c=b/\A):False:=∅
theorem W151(_:a<=b)(_:c+b<d):c+a<d:=∅
theorem W152(_:a=b)(_:b<=800):b<=1000:=∅
theorem W153(_:a<b)(_:c+b<=d):c+a<d:=∅
theorem W154(_:a<b)(_:b<=a):False:=∅
theorem W155(_:a<=40):(a:Int)<2^62:=∅
theorem W156(_:a<=b)(_:c=d)(_:b<e)(_:f+e<=d):f+a<c:=∅
theorem W157(_:a<b)(_:a=c)(_:b=c/\A):False:=∅
theorem W158(_:0<i)(_:i<=1099511627776):i<10^60:=∅
theorem W159:i+(a:Int)<=i+(↑(a+b):Int):=∅
theorem W160(_:a=b)(_:c<d)(_:¬b=0):0<b:=∅
theorem W161(_:0<a)(_:2<=b)(_:¬b-1=1):2<=b-1/\b-1<b:=∅
theorem W162(_:a<b)(_:b=c):a+1<=c:=∅
theorem W163(_:a=b)(_:a<=900):-10^60<(a:Int):=∅
theorem W164(_:-10^50<i)(_:i<10^50):-10^60<i:=∅
theorem W165(_:a=b)(_:a<=900):(a:Int)<10^60:=∅
theorem W166(_:(a:Int)=0):a=0:=∅
theorem W167(_:a=b)(_:b<=800):a<=100000:=∅
theorem W168:(a:Int)+(b:Int)=(↑(a+b):Int):=∅
theorem W169(_:-10^50<i)(_:i<10^50):i<10^60:=∅
theorem W170(_:0=a)(_:1<=a)(_:b=a)(_:c=a):False:=∅
theorem W171(_:a=b)(_:b<=1000):b*104+b<=1048576:=∅
theorem W172(_:i<j)(_:j<=i):False:=∅
theorem W173(_:a=b)(_:b<c)(_:c<=40):a<=1000:=∅
theorem W174(_:a+1<=b):a<b:=∅
theorem W175(_:a=b)(_:¬c<a):b<=c:=∅
theorem W176(_:a+1<=0):False:=∅
theorem W177(_:1<=a):0<a:=∅
theorem W178(_:a=b)(_:¬c<a):a<=c:=∅
theorem W179(_:a<b)(_:c=d-e+f)(_:¬a<d+f):a-d<b-d:=∅
theorem W180(_:i+j-1<k)(_:i<=k/\k<=i+j-1):False:=∅
theorem W181(_:a=b):a<=b:=∅
theorem W182(_:a=b+c)(_:d=e-c+f)(_:c<e)(_:g=b+e)(_:¬h<g+f):g+f+(h-(b+c+(e-c+f)))=h:=∅
theorem W183(_:a=b)(_:b<=900):a<=900:=∅
theorem W184(_:a<b)(_:b<=100):a<=1000:=∅
theorem W185(_:a+64<PySem.cLine):a<PySem.cLine:=∅
theorem W186(_:a<=b+1)(_:b<PySem.sizeLine):a<=PySem.sizeLine:=∅
theorem W187(_:-(a:Int)<=i)(_:PySem.sizeLine<2^63)(_:a=b)(_:a<=PySem.sizeLine):-2^63<=i:=∅
theorem W188(_:i<j\/j=i/\(k<l\/l=k/\m<=n))(_:o<i\/i=o/\(p<k\/k=p/\q<=m)):o<j\/j=o/\(p<l\/l=p/\q<=n):=∅
theorem W189(_:0<=i):0<=i+1:=∅
theorem W190(_:0<i)(_:i=(a:Int)):0<a:=∅
theorem W191(_:a=0)(_:b+c=d+(c-e))(_:d=b+e)(_:¬c<e):a<=c-e:=∅
theorem W192(_:a<=8):a<=100000:=∅
theorem W193(_:PySem.sizeLine<2^63)(_:a=b)(_:a<=PySem.sizeLine)(_:i<(a:Int)):i<2^63:=∅
theorem W194(_:i<j+k)(_:¬i<j+k):j<=i/\i<j+l/\m=(a:Int)/\n<o:=∅
theorem W195(_:a<((b:Int)-(c:Int)).toNat)(_:i=(b:Int))(_:j=(c:Int)):a<b-c:=∅
theorem W196(_:i+j<=k)(_:k<i+j):i<=k/\k<i+l/\m=(a:Int)/\n<o:=∅
theorem W197(_:1<=i)(_:i<=1000):0<=i:=∅
theorem W198(_:i<=j/\j<=i+k-1)(_:j<i):False:=∅
theorem W199(_:i=(a:Int)-(b:Int))(_:¬i<2):¬(a:Int)<=0:=∅
theorem W200(_:0<=i)(_:i<0):False:=∅
theorem W201(_:1<=a)(_:b=c)(_:d=a)(_:a<=e)(_:f=a)(_:g+e<=c)(_:¬a=e):g+a<b:=∅
theorem W202(_:A)(_:i<j)(_:j<=i):False:=∅
theorem W203(_:a=b)(_:a<=PySem.sizeLine):b<=PySem.sizeLine:=∅
theorem W204(_:a=b)(_:b<=1000):a<=100000:=∅
theorem W205(_:i<=j):¬j<i:=∅
theorem W206(_:a<b)(_:c=a)(_:b<=PySem.sizeLine):c<PySem.sizeLine:=∅
theorem W207(_:(a:Int)<=i)(_:0<=i)(_:i<=900):a<=1000:=∅
theorem W208(_:a<b)(_:c<=a)(_:b<=PySem.sizeLine):c<PySem.sizeLine:=∅
theorem W209(_:i<i):False:=∅
theorem W210(_:a<=40):(a:Int)<=1000000:=∅
theorem W211(_:0<=i)(_:i<(0:Int)):False:=∅
theorem W212(_:0<i)(_:i<10^60):i≠0:=∅
theorem W213(_:i+i=1):a+1=0:=∅
theorem W214(_:1<=a)(_:2<=b)(_:¬b-1=1):2<=b-1:=∅
theorem W215(_:a=b)(_:c<5)(_:b=c+1):0<=1+(0+(c:Int)):=∅
theorem W216(_:0<a)(_:0<b)(_:¬a=1)(_:¬b-1=0):1<=b-1:=∅
theorem W217(_:a=b)(_:c<5)(_:b=c+1):1+(0+(c:Int))<1000:=∅
theorem W218(_:a=b)(_:c<b+1)(_:d+1<=b)(_:b+1-(0+1)<=c)(_:¬d>0):c=b:=∅
theorem W219:a+b+c=a+c+b:=∅
theorem W220(_:a<=b)(_:b<c)(_:¬a<=d):a+c-1-b<c:=∅
theorem W221(_:¬(i<j\/j=i/\(k<l\/l=k/\m<=n))):j<i\/i=j/\(l<k\/k=l/\n<=m):=∅
theorem W222(_:0<a)(_:0<b)(_:¬0+1=b)(_:¬1=a):1<a:=∅
end
namespace L2
open PySem PySem.Spec PyProof.Rows List
abbrev Key:=Sum Int Str
noncomputable def keyIs:Key->Value->Bool
 | .inl k,v=>Value.isInt k v
 | .inr x,v=>Value.isStrOf x v
noncomputable def keyH(w:World):Key->Int
 | .inl k=>hashInt k
 | .inr x=>hashStr w x
theorem q44:∀{k:Key}{v:Value},keyIs k v=true->(∃ i t,k=Sum.inl i/\v=Value.int i t)\/(∃ x t,k=Sum.inr x/\v=Value.str x t)
 | .inl i,v,h=>by
  obtain⟨t,e⟩:=Value.isInt_shape (k:=i) (v:=v) h
  exact .inl ⟨i,t,rfl,e⟩
 | .inr x,v,h=>by
  obtain⟨t,e⟩:=Value.isStrOf_shape (x:=x) (v:=v) h
  exact .inr ⟨x,t,rfl,e⟩
theorem q680(i:Int)(t:Tok):keyIs (.inl i) (.int i t)=true:=by simp[keyIs,Value.isInt]
theorem q681(x:Str)(t:Tok):keyIs (.inr x) (.str x t)=true:=by simp[keyIs,Value.isStrOf]
theorem key_ll(a b:Int):decide ((Sum.inl a:Key)=Sum.inl b)=(a==b):=by
 by_cases e:a=b
 ·subst e;simp
 ·have h:¬(Sum.inl a:Key)=Sum.inl b:=fun q=>e (Sum.inl.inj q)
  rw[ZS h]
  exact(beq_eq_false_iff_ne.mpr e).symm
theorem key_rr(a b:Str):decide ((Sum.inr a:Key)=Sum.inr b)=decide (a=b):=by
 by_cases e:a=b
 ·subst e;simp
 ·have h:¬(Sum.inr a:Key)=Sum.inr b:=fun q=>e (Sum.inr.inj q)
  rw[ZS h,ZS e]
theorem key_lr(a:Int)(b:Str):decide ((Sum.inl a:Key)=Sum.inr b)=false:=ZS (fun q=>nomatch q)
theorem key_rl(a:Str)(b:Int):decide ((Sum.inr a:Key)=Sum.inl b)=false:=ZS (fun q=>nomatch q)
noncomputable def q58(prog:Program)(w:World):PySem.KeyKind prog w Key where
 is:=keyIs
 hash:=keyH w
 inj:=fun v a b ha hb=>by
  rcases q44 ha with ⟨i,t,rfl,rfl⟩ | ⟨x,t,rfl,rfl⟩
  ·rcases q44 hb with ⟨j,u,rfl,e⟩ | ⟨y,u,rfl,e⟩
   ·injection e with e1 _;rw[e1]
   ·exact nomatch e
  ·rcases q44 hb with ⟨j,u,rfl,e⟩ | ⟨y,u,rfl,e⟩
   ·exact nomatch e
   ·injection e with e1 _;rw[e1]
 byValue:=fun k v h=>by
  rcases q44 h with ⟨i,t,rfl,rfl⟩ | ⟨x,t,rfl,rfl⟩ <;> rfl
 pyHash:=fun hv h=>by
  rcases q44 hv with ⟨i,t,rfl,rfl⟩ | ⟨x,t,rfl,rfl⟩
  ·exact wpAny_pyHash_int h
  ·exact wpAny_pyHash_str h
 eqBool:=fun hu hv h=>by
  rcases q44 hu with ⟨i,t,rfl,rfl⟩ | ⟨x,t,rfl,rfl⟩
  ·rcases q44 hv with ⟨j,u,rfl,rfl⟩ | ⟨y,u,rfl,rfl⟩
   ·rw[key_ll]at h;exact wpAny_eqBool_int h
   ·rw[key_lr]at h;exact SeqAt.EqAt.int_str i t y u _ _ _ _ h
  ·rcases q44 hv with ⟨j,u,rfl,rfl⟩ | ⟨y,u,rfl,rfl⟩
   ·rw[key_rl]at h;exact SeqAt.EqAt.str_int x t j u _ _ _ _ h
   ·rw[key_rr]at h;exact wpAny_eqBool_str h
 «strs»:=fun k x t v h=>by
  rcases q44 h with ⟨i,u,rfl,e⟩ | ⟨y,u,rfl,e⟩
  ·exact nomatch e
  ·injection e with e1 _
   subst e1
   cases v <;> rfl
theorem q513(prog:Program)(w:World)(i:Int)(t:Tok):(q58 prog w).is (.inl i) (.int i t)=true:=q680 i t
theorem q514(prog:Program)(w:World)(x:Str)(t:Tok):(q58 prog w).is (.inr x) (.str x t)=true:=q681 x t
inductive V where
 | non | bl (b:Bool) | int (i:Int) | str (x:Str) | byt (b:Array UInt8) | flt (b:UInt64) | ref (a:Addr) | ty (n:String)
 deriving DecidableEq
def RelV:V->Value->Prop
 | .non,u=>u=Value.none
 | .bl b,u=>u=Value.bool b
 | .int i,u=>∃ t,u=Value.int i t
 | .str x,u=>∃ t,u=Value.str x t
 | .byt b,u=>∃ t,u=Value.bytes b t
 | .flt b,u=>∃ t,u=Value.float b t
 | .ref a,u=>u=Value.ref a
 | .ty n,u=>u=Value.type n
abbrev Vals:List V->List Value->Prop:=Paired RelV
theorem Vals.length{xs:List V}{us:List Value}(r:Vals xs us):xs.length=us.length:=Paired.length r
theorem Vals.get:∀{xs:List V}{us:List Value}{i:Nat}{x:V},Vals xs us->xs[i]? = some x -> ∃ u,us[i]? = some u/\RelV x u
 | _,_,_,_,.nil,e=>by simp at e
 | _,_,0,_,.cons r _,e=>by simp at e;subst e;exact⟨_,rfl,r⟩
 | _,_,i+1,x,.cons _ t,e=>by
  obtain⟨u,h1,h2⟩:=Vals.get (i:=i) (x:=x) t (by simpa using e)
  exact⟨u,by simpa using h1,h2⟩
theorem Vals.set{x:V}{u:Value}(r:RelV x u):∀{xs:List V}{us:List Value}(i:Nat),Vals xs us->Vals (xs.set i x) (us.set i u)
 | _,_,_,.nil=>.nil
 | _,_,0,.cons _ t=>.cons r t
 | _,_,i+1,.cons q t=>.cons q (Vals.set r i t)
theorem Vals.append:∀{xs ys:List V}{us ws:List Value},Vals xs us->Vals ys ws->Vals (xs++ys) (us++ws)
 | _,_,_,_,.nil,s=>s
 | _,_,_,_,.cons r t,s=>.cons r (Vals.append t s)
theorem Vals.take:∀{xs:List V}{us:List Value}(n:Nat),Vals xs us->Vals (xs.take n) (us.take n)
 | _,_,0,_=>.nil
 | _,_,_+1,.nil=>.nil
 | _,_,n+1,.cons r t=>.cons r (Vals.take n t)
theorem Vals.drop:∀{xs:List V}{us:List Value}(n:Nat),Vals xs us->Vals (xs.drop n) (us.drop n)
 | _,_,0,r=>r
 | _,_,_+1,.nil=>.nil
 | _,_,n+1,.cons _ t=>Vals.drop n t
def RelO:Option V->Option Value->Prop
 | some v,some u=>RelV v u
 | none,none=>True
 | _,_=>False
def KV{κ:Type}:List (κ×V)->List (κ×Value)->Prop:=Paired fun(p:κ×V) (q:κ×Value)=>p.1=q.1/\RelV p.2 q.2
noncomputable def kV:Key->V
 | .inl i=>.int i
 | .inr x=>.str x
inductive HO where
 | lst (xs:List V)
 | tup (xs:List V)
 | dK (kvs:List (Key×V)) | dT (kvs:List (List Key×V))
 | set (S:Int->Bool) (n:Nat)
 | ins (C dx:Addr) (fs:List (Str×V))
 | own (x:Addr)
 | xd (fs:List (Str×V))
 | met (f x:Addr)
 | rng (lo hi:Int)
 | frz (o:Obj) (u:HO)
 | tbl (ps:Array Value)
 | ext (φ:Heap->Prop)
abbrev Hp:=Addr->Option HO
noncomputable def upd(H:Hp)(a:Addr)(o:HO):Hp:=fun b=>if b=a then some o else H b
theorem q13:upd H a o a=some o:=by unfold upd;rw[ZL rfl]
theorem q28(h:b≠a):upd H a o b=H b:=by unfold upd;rw[ZJ h]
theorem q109:upd (upd H a o) a u=upd H a u:=by
 funext b;unfold upd;split <;> rfl
theorem ne_of{H:Hp}{a b:Addr}{o u:HO}(h:H a=some o)(h':H b=some u)(d:o≠u):a≠b:=by
 intro e;subst e;rw[h]at h';exact d (Option.some.inj h')
theorem q24{H:Hp}{a b:Addr}{o:HO}(h:H a=some o)(h':H b=none):a≠b:=by
 intro e;subst e;rw[h]at h';cases h'
section
variable (P:Program) (w:World)
noncomputable def ObjOk(H:Hp)(h:Heap)(a:Addr):HO->Prop
 | .lst xs=>xs.length<=sizeLine /\ ∃(its:List Value)(n:Nat),Vals xs its/\h.get? a=some { cls:=.type "list", data:=.seq its.toArray n }
 | .tup xs=>xs.length<=sizeLine /\ ∃ its:List Value,Vals xs its/\IsTup h a its.toArray
 | .dK kvs=>kvs.length<=sizeLine/\(a==sysModules)=false /\ ∃ vs,KV kvs vs/\h.DictOf (q58 P w) a vs
 | .dT kvs=>kvs.length<=sizeLine/\(a==sysModules)=false /\ ∃ xs:List (List Key×Addr×Value),
   Paired (fun(p:List Key×V) (q:List Key×Addr×Value)=>p.1=q.1/\H q.2.1=some (.tup (p.1.map kV))/\RelV p.2 q.2.2) kvs xs /\
   ∃ o es ep,h.get? a=some o/\o.ExactDict/\o.data = .dict es ep/\es.toList=xs.map (entryOfKey (tupleKind (q58 P w)))/\(xs.map (·.1)).Nodup
 | .set S n=>h.SetOf (intKind P w) a S n
 | .ins C dx fs=>H dx=some (.own a)/\fs.length<=1000/\dx≠a/\h.get? a=some (PySem.W.instObj C dx) /\
   ∃ mA,h.Ns1 dx mA/\(∀ f,RelO (fs.lookup f) (mA f))/\PySem.Within mA (fs.map (·.1))
 | .own _=>∃ o,h.get? a=some o
 | .xd fs=>∃ mA,h.Ns1 a mA /\ ∀ f,RelO (fs.lookup f) (mA f)
 | .rng lo hi=>∃ t u v,h.get? a=some { cls:=.type "range", data:=.fields #[.int lo t,.int hi u,.int 1 v] }
 | .frz o u=>h.get? a=some o/\ObjOk H h a u
 | .tbl ps=>h.get? a=some { cls:=.none,data:=.fields ps }
 | .met f x=>h.get? a=some (PySem.W.methodObj (.ref f) (.ref x))
 | .ext φ=>φ h/\(∃ o,h.get? a=some o) /\ ∀ h1 h2:Heap,φ h1->(∀ o,h1.get? a=some o->h2.get? a=some o)->φ h2
noncomputable def HOk(H:Hp)(h:Heap):Prop:=∀ a o,H a=some o->ObjOk P w H h a o
end
section
variable {P:Program} {w:World} {H H':Hp} {h h':Heap} {a:Addr} {o:HO}
theorem ObjOk.lt(x:ObjOk P w H h a o):a<h.objs.size:=by
 cases o with
 | lst xs=>obtain⟨_,_,_,_,e⟩:=x;exact ZW e
 | tup xs=>obtain⟨_,_,_,p⟩:=x;exact p.lt
 | dK kvs=>obtain⟨_,_,_,_,o,_,_,e,_⟩:=x;exact ZW e
 | dT kvs=>obtain⟨_,_,_,_,o,_,_,e,_⟩:=x;exact ZW e
 | set S n=>obtain⟨o,_,_,_,e,_⟩:=x;exact ZW e
 | ins C dx fs=>obtain⟨_,_,_,e,_⟩:=x;exact ZW e
 | own y=>obtain⟨_,e⟩:=x;exact ZW e
 | xd fs=>obtain⟨_,⟨_,_,_,e,_⟩,_⟩:=x;exact ZW e
 | rng lo hi=>obtain⟨_,_,_,e⟩:=x;exact ZW e
 | frz ob u=>obtain⟨e,_⟩:=x;exact ZW e
 | tbl ps=>exact ZW (show h.get? a=some _ from x)
 | met f y=>exact ZW (show h.get? a=some _ from x)
 | ext φ=>obtain⟨_,⟨_,e⟩,_⟩:=x;exact ZW e
theorem Paired.mapP{α β:Type}{F G:α->β->Prop}:∀{l₁:List α}{l₂:List β},Paired F l₁ l₂->(∀ a b,F a b->G a b)->Paired G l₁ l₂
 | _,_,.nil,_=>.nil
 | _,_,.cons r t,f=>.cons (f _ _ r) (Paired.mapP t f)
theorem ObjOk.stay(x:ObjOk P w H h a o)(k:∀ b u,(b=a\/H b=some (.own a))->h.get? b=some u->h'.get? b=some u)
  (ho:∀ b,H b=some (.own a)->H' b=some (.own a)) (ht:∀ b xs,H b=some (.tup xs)->H' b=some (.tup xs)):ObjOk P w H' h' a o:=by
 induction o with
 | lst xs=>obtain⟨z,its,n,r,e⟩:=x;exact⟨z,its,n,r,k _ _ (.inl rfl) e⟩
 | tup xs=>obtain⟨z,its,r,ob,e,c⟩:=x;exact⟨z,its,r,ob,k _ _ (.inl rfl) e,c⟩
 | dK kvs=>obtain⟨z,y,vs,r,ob,es,ep,e,c⟩:=x;exact⟨z,y,vs,r,ob,es,ep,k _ _ (.inl rfl) e,c⟩
 | dT kvs=>
  obtain⟨z,y,xs,r,ob,es,ep,e,c⟩:=x
  exact⟨z,y,xs,Paired.mapP r fun p q z=>⟨z.1,ht _ _ z.2.1,z.2.2⟩,ob,es,ep,k _ _ (.inl rfl) e,c⟩
 | set S n=>obtain⟨ob,es,ep,t,e,c⟩:=x;exact⟨ob,es,ep,t,k _ _ (.inl rfl) e,c⟩
 | ins C dx fs=>
  obtain⟨d,z,ne,e,mA,⟨od,es,ep,e2,c⟩,r⟩:=x
  exact⟨ho _ d,z,ne,k _ _ (.inl rfl) e,mA,⟨od,es,ep,k _ _ (.inr d) e2,c⟩,r⟩
 | own y=>obtain⟨ob,e⟩:=x;exact⟨ob,k _ _ (.inl rfl) e⟩
 | xd fs=>obtain⟨mA,⟨od,es,ep,e,c⟩,r⟩:=x;exact⟨mA,⟨od,es,ep,k _ _ (.inl rfl) e,c⟩,r⟩
 | rng lo hi=>obtain⟨t,u,v,e⟩:=x;exact⟨t,u,v,k _ _ (.inl rfl) e⟩
 | frz ob u ih=>obtain⟨e,q⟩:=x;exact⟨k _ _ (.inl rfl) e,ih q⟩
 | tbl ps=>
  have e:h.get? a=some { cls:=.none,data:=.fields ps }:=x
  show h'.get? a=some { cls:=.none,data:=.fields ps }
  exact k a _ (.inl rfl) e
 | met f y=>
  have e:h.get? a=some (PySem.W.methodObj (.ref f) (.ref y)):=x
  show h'.get? a=some (PySem.W.methodObj (.ref f) (.ref y))
  exact k a _ (.inl rfl) e
 | ext φ=>obtain⟨p,⟨o,e⟩,st⟩:=x;exact⟨st _ _ p fun o q=>k _ _ (.inl rfl) q,⟨o,k _ _ (.inl rfl) e⟩,st⟩
theorem HOk.lt(x:HOk P w H h)(e:H a=some o):a<h.objs.size:=(x a o e).lt
theorem HOk.fresh(x:HOk P w H h)(e:h.objs.size<=a):H a=none:=by
 cases q:H a with
 | none=>rfl
 | some u=>exact absurd (WG (x.lt q) e) (Nat.lt_irrefl _)
theorem HOk.kept(x:HOk P w H h)(k:∀ b u,h.get? b=some u->h'.get? b=some u):HOk P w H h':=fun a o e=>
 (x a o e).stay (fun b u _ q=>k b u q) (fun _ q=>q) fun _ _ q=>q
theorem HOk.laid(x:HOk P w H h)(k:∀ b u,h.get? b=some u->h'.get? b=some u)(hp:h.objs.size<=a)(new:ObjOk P w (upd H a o) h' a o):HOk P w (upd H a o) h':=fun b u e=>by
 have hn:=x.fresh hp
 by_cases hb:b=a
 ·subst hb;rw[q13]at e;cases e;exact new
 ·rw[q28 hb]at e
  exact(x b u e).stay (fun c v _ q=>k c v q) (fun c q=>by rw[q28 (q24 q hn)];exact q) fun c xs q=>by rw[q28 (q24 q hn)];exact q
end
def Rd(H:Hp)(a:Addr)(u:HO):Prop:=H a=some u \/ ∃ o,H a=some (.frz o u)
theorem Rd.ok(r:Rd H a u)(x:HOk P w H h):ObjOk P w H h a u:=by
 rcases r with r | ⟨o,r⟩
 ·exact x a u r
 ·obtain⟨_,q⟩:=x a _ r
  exact q
def Mut:Option HO->Prop
 | some (.lst _)=>True
 | some (.dK _)=>True
 | some (.dT _)=>True
 | some (.set _ _)=>True
 | some (.ins _ _ _)=>True
 | some (.ext _)=>True
 | _=>False
section
variable {P:Program} {w:World} {H:Hp} {h h':Heap} {x e:Addr} {o':HO}
theorem HOk.write(ok:HOk P w H h)(mu:Mut (H x))(he:e=x\/H e=some (.own x))(k:∀ b u,b≠e->h.get? b=some u->h'.get? b=some u)(heo:∃ u,h'.get? e=some u)
  (new:ObjOk P w (upd H x o') h' x o'):HOk P w (upd H x o') h':=fun b u q=>by
 have nown:∀ c y,H c=some (.own y)->c≠x:=fun c y r z=>by subst z;rw[r]at mu;exact mu
 have ntup:∀ c xs,H c=some (.tup xs)->c≠x:=fun c xs r z=>by subst z;rw[r]at mu;exact mu
 by_cases hb:b=x
 ·subst hb;rw[q13]at q;cases q;exact new
 ·rw[q28 hb]at q
  by_cases hbe:b=e
  ·have q':H b=some (.own x):=by
    rcases he with z | z
    ·exact absurd (hbe.trans z) hb
    ·rw[hbe];exact z
   rw[q]at q';cases q'
   obtain⟨v,hv⟩:=heo
   exact⟨v,by rw[hbe];exact hv⟩
  ·refine(ok b u q).stay (fun c v hc r=>k c v ?_ r) (fun c r=>by rw[q28 (nown c b r)];exact r) fun c xs r=>by rw[q28 (ntup c xs r)];exact r
   rcases hc with rfl | hc
   ·exact hbe
   ·rintro rfl
    rcases he with z | z
    ·exact nown c b hc z
    ·rw[hc]at z;cases z;exact hb rfl
end
structure Un(fs ex:List Addr)(H H':Hp)(h h':Heap):Prop where
 keep:∀ b o,h.get? b=some o->H b=none->b ∉ fs->b ∉ ex->h'.get? b=some o
 slot:∀ b o,h.get? b=some o->H b=none->b∈fs->b ∉ ex -> ∃ sl,h'.get? b=some { o with slots:=sl }
 free:∀ b o,h.get? b=some o->H b=none->b ∉ ex->H' b=none
 there:∀ b o,h.get? b=some o->b ∉ ex -> ∃ o',h'.get? b=some o'
 tups:∀ b xs,H b=some (.tup xs)->H' b=some (.tup xs)
 frzs:∀ b o u,H b=some (.frz o u)->H' b=some (.frz o u)
 tbls:∀ b ps,H b=some (.tbl ps) -> ∃ more,H' b=some (.tbl (ps++more))
section
variable{fs fs' ex ex':List Addr}{H H1 H2:Hp}{h h1 h2 h':Heap}{a x e:Addr}{o:HO}
theorem Un.any(u:Un fs ex H H1 h h1)(q:h.get? b=some ob)(n:H b=none)(hx:b ∉ ex):∃ sl,h1.get? b=some { ob with slots:=sl }:=by
 by_cases hb:b∈fs
 ·exact u.slot b ob q n hb hx
 ·exact⟨ob.slots,u.keep b ob q n hb hx⟩
theorem Un.kept(k:∀ b u,h.get? b=some u->h'.get? b=some u):Un fs ex H H h h':=
 ⟨fun b ob q _ _ _=>k b ob q,fun b ob q _ _ _=>⟨ob.slots,k b ob q⟩,fun _ _ _ n _=>n,fun b ob q _=>⟨ob,k b ob q⟩,fun _ _ q=>q,fun _ _ _ q=>q,fun _ ps q=>⟨#[],by rw[q];simp⟩⟩
theorem Un.refl:Un fs ex H H h h:=Un.kept fun _ _ q=>q
theorem Un.laid(k:∀ b u,h.get? b=some u->h'.get? b=some u)(hp:h.objs.size<=a)(hn:H a=none):Un fs ex H (upd H a o) h h' where
 keep:=fun b u q _ _ _=>k b u q
 slot:=fun b u q _ _ _=>⟨u.slots,k b u q⟩
 free:=fun b u q n _=>by rw[q28 (WN (WG (ZW q) hp))];exact n
 there:=fun b u q _=>⟨u,k b u q⟩
 tups:=fun b xs q=>by rw[q28 (q24 q hn)];exact q
 frzs:=fun b u xs q=>by rw[q28 (q24 q hn)];exact q
 tbls:=fun b ps q=>⟨#[],by rw[q28 (q24 q hn),q];simp⟩
theorem Un.write(mu:Mut (H x))(he:e=x\/H e=some (.own x))(k:∀ b u,b≠e->h.get? b=some u->h'.get? b=some u)(heo:∃ u,h'.get? e=some u):Un fs ex H (upd H x o) h h':=by
 have hx:∀ b,H b=none->b≠x:=fun b n z=>by subst z;rw[n]at mu;exact mu
 have hb:∀ b,H b=none->b≠e:=fun b n z=>by
  subst z
  rcases he with r | r
  ·exact hx b n r
  ·rw[n]at r;cases r
 have hm:∀ b u,H b=some u -> ¬ Mut (some u)->b≠x:=fun b u q nm z=>by subst z;rw[q]at mu;exact nm mu
 refine⟨fun b u q n _ _=>k b u (hb b n) q,fun b u q n _ _=>⟨u.slots,k b u (hb b n) q⟩,fun b u q n _=>by rw[q28 (hx b n)];exact n,fun b u q _=>?_,
  fun b xs q=>by rw[q28 (hm b _ q fun z=>z)];exact q,fun b u xs q=>by rw[q28 (hm b _ q fun z=>z)];exact q,fun b ps q=>⟨#[],by rw[q28 (hm b _ q fun z=>z),q];simp⟩⟩
 by_cases hbe:b=e
 ·subst hbe;exact heo
 ·exact⟨u,k b u hbe q⟩
end
noncomputable def trk(h:Heap)(H:Hp):List Addr:=(List.range h.objs.size).filter fun a=>(H a).isSome
noncomputable def hidT(h:Heap)(H:Hp):Heap:=PySem.W.hideAll h (trk h H)
theorem q682(h:Heap)(H:Hp):(hidT h H).objs.size=h.objs.size:=PySem.W.hideAll_size _ _
theorem hidT_get{h:Heap}(e:h.get? b=some o)(n:H b=none):(hidT h H).get? b=some o:=
 PySem.W.hideAll_get _ e fun hm=>by
  have q:(H b).isSome=true:=(List.mem_filter.mp hm).2
  rw[n]at q;simp at q
theorem of_hidT{h:Heap}(e:(hidT h H).get? b=some o):h.get? b=some o/\H b=none:=by
 have e':h.get? b=some o:=PySem.W.of_hideAll (trk h H) e
 exists e'
 cases q:H b with
 | none=>rfl
 | some x=>
  have hm:b∈trk h H:=List.mem_filter.mpr ⟨List.mem_range.mpr (ZW e'),by simp[q]⟩
  have z:(hidT h H).get? b=none:=PySem.W.hideAll_none (trk h H) hm
  rw[z]at e;cases e
noncomputable def allNews(g h:Heap)(L:Addr):List (Addr×Obj):=(List.range h.objs.size).filterMap fun a=>if a=L\/(g.get? a).isSome=true then none else(h.get? a).map fun o=>(a,o)
noncomputable def rest(g h:Heap)(L d:Addr):List (Addr×Obj):=(allNews g h L).filter fun p=>decide (p.1≠d)
structure Mod(K:Fg)(mg:Mg)(base:Heap):Prop where
 kin:K.In base
 glob:base.Ns mainGlobals mg
 blt:∃ mb,base.Ns builtinsNs mb /\ ∀ x:Str,x ≠ "__name__" -> mb x=bootBuiltins x
 nolimit:base.NoLimit
structure Cx where
 prog:Program
 w:World
 K:Fg
 mg:Mg
 base:Heap
 A:Around
 N:List Str
 s₀:Shared
 H₀:Hp
 env:Env
 outer:List Env
 stack:List Env
 ex:List Addr
 fn:Str->Bool
 calm:Bool
 pn:List (Addr×Obj)
 xe:VS
variable {X:Cx}
noncomputable def frs(l:List Env):List Addr:=l.filterMap (·.frame)
noncomputable abbrev Cx.fs(X:Cx):List Addr:=frs X.outer
def Vis(sc:Scope)(x:Str):Prop:=sc.names.lookup x=some .local\/sc.names.lookup x=some .cell\/sc.names.lookup x=some .free
def Loc(sc:Scope)(x:Str):Prop:=sc.names.lookup x=some .local\/sc.names.lookup x=some .cell
def Look(env:Env)(h:Heap)(m:Mg)(x:Str)(u:Value):Prop:=
 (env.kindOf x=some .local/\m x=some u)\/((env.kindOf x=some .cell\/env.kindOf x=some .free) /\ ∃ c,env.cells.lookup x=some c/\h.IsCell c (some u))
structure Cx.Ok(X:Cx):Prop where
 mod:Mod X.K X.mg X.base
 kind:X.env.scope.kind = .function
 glob:X.env.globals=mainGlobals
 blt:X.env.builtins=builtinsNs
 above:X.s₀.heap.objs.size<=X.env.locals
 inj:∀ x y c,X.env.cells.lookup x=some c->X.env.cells.lookup y=some c->x=y
 has:∀ x,(X.env.kindOf x=some .cell\/X.env.kindOf x=some .free) -> ∃ c,X.env.cells.lookup x=some c
 cab:∀ x c,X.fn x=true->X.env.cells.lookup x=some c->X.s₀.heap.objs.size<=c
 hd:X.calm=true->X.A.handled=none
 frames:X.A.frames=some X.stack
 stk:X.stack=X.outer\/(X.stack=X.env::X.outer/\X.env.frame=some X.env.locals)
 exf:∀ b∈X.ex,b≠X.env.locals /\ ∀ x c,X.env.cells.lookup x=some c->c≠b
 bs:∀ b o,X.base.get? b=some o->X.s₀.heap.get? b=some o/\X.H₀ b=none
 bsz:X.base.objs.size<=X.s₀.heap.objs.size
 noex:∀ b o,X.base.get? b=some o->b ∉ X.ex
 exfs:∀ b∈X.ex,b ∉ X.fs
 funs:X.s₀.heap.FunFrames X.base X.outer
 frf:∀ b∈X.fs,X.H₀ b=none
structure Inv(X:Cx)(pins:List (Addr×Obj))(σ:List (Option V))(H:Hp)(s:Shared):Prop where
 ok:X.Ok
 os:s.os=X.s₀.os
 bare:AllBare s.gens
 base:Un X.fs X.ex X.H₀ H X.s₀.heap s.heap
 loc:∃ m,s.heap.Ns X.env.locals m /\ ∀(i:Nat)(x:Str)(v:V),X.N[i]? = some x->σ[i]? = some (some v)->Vis X.env.scope x -> ∃ u,RelV v u/\Look X.env s.heap m x u
 cell:∀ x c,X.env.cells.lookup x=some c -> ∃ v,s.heap.IsCell c v
 free:H X.env.locals=none
 freeC:∀ x c,X.env.cells.lookup x=some c->H c=none
 pin:∀ p∈X.pn++pins,s.heap.get? p.1=some p.2/\H p.1=none/\p.1≠X.env.locals/\p.1 ∉ X.fs /\ ∀ v,p.2.data ≠ .cell v
 hok:HOk X.prog X.w H s.heap
 len:σ.length=X.N.length
section
variable {pins:List (Addr×Obj)} {σ:List (Option V)} {H H':Hp} {s:Shared} {h':Heap}
theorem Cx.Ok.nofr(ok:X.Ok)(e:X.base.get? b=some o):b ∉ X.fs:=fun hb=>by
 have:=(ok.funs.mem hb).1
 rw[e]at this;cases this
theorem Inv.bs(I:Inv X pins σ H s):∀ b o,X.base.get? b=some o->s.heap.get? b=some o/\H b=none:=fun b o e=>
 ⟨I.base.keep b o (I.ok.bs b o e).1 (I.ok.bs b o e).2 (I.ok.nofr e) (I.ok.noex b o e),I.base.free b o (I.ok.bs b o e).1 (I.ok.bs b o e).2 (I.ok.noex b o e)⟩
theorem Inv.bk(I:Inv X pins σ H s):∀ b o,X.base.get? b=some o->s.heap.get? b=some o:=fun b o e=>(I.bs b o e).1
theorem Inv.mod(I:Inv X pins σ H s):Mod X.K X.mg X.base:=I.ok.mod
theorem Inv.kIn(I:Inv X pins σ H s):X.K.In s.heap:=I.ok.mod.kin.keeps I.bk
theorem Inv.lt(I:Inv X pins σ H s):X.env.locals<s.heap.objs.size:=let ⟨_,hn,_⟩:=I.loc;hn.lt
theorem Inv.sz(I:Inv X pins σ H s):X.s₀.heap.objs.size<=s.heap.objs.size:=ZT I.ok.above (Nat.le_of_lt I.lt)
theorem Inv.nofs(I:Inv X pins σ H s)(h:s.heap.objs.size<=a):a ∉ X.fs:=fun hb=>by
 obtain⟨_,o,ho,_⟩:=I.ok.funs.mem hb
 exact absurd (WG (ZW ho) (ZT I.sz h)) (Nat.lt_irrefl _)
theorem Inv.cne(I:Inv X pins σ H s):∀ x c,X.env.cells.lookup x=some c->c≠X.env.locals:=fun x c e z=>by
 obtain⟨v,o,ho,hd⟩:=I.cell x c e
 obtain⟨m,⟨o',es,ep,ho',hd',_⟩,_⟩:=I.loc
 rw[z,ho']at ho;cases ho;rw[hd']at hd;cases hd
theorem Inv.funs(I:Inv X pins σ H s):s.heap.FunFrames X.base X.outer:=by
 have all:∀(l:List Env),(∀ b∈frs l,b∈X.fs)->X.s₀.heap.FunFrames X.base l->s.heap.FunFrames X.base l:=by
  intro l
  induction l with
  | nil=>intro _ _;trivial
  | cons env r ih=>
   intro hs hl
   obtain⟨hk,⟨L,o,hf,hn,ho,hd⟩,hr⟩:=hl
   have hL:L∈X.fs:=hs L (by unfold frs;rw[filterMap_cons,hf];exact ZQ)
   obtain⟨sl,e⟩:=I.base.slot L o ho (I.ok.frf L hL) hL fun z=>I.ok.exfs L z hL
   exact⟨hk,⟨L,_,hf,hn,e,hd⟩,ih (fun b hb=>hs b (by unfold frs;rw[filterMap_cons,hf];exact ZU _ hb)) hr⟩
 exact all X.outer (fun _ hb=>hb) I.ok.funs
theorem Inv.stack(I:Inv X pins σ H s):s.heap.FunFrames X.base X.stack:=by
 rcases I.ok.stk with e | ⟨e,hf⟩
 ·rw[e];exact I.funs
 ·rw[e]
  obtain⟨m,hn,_⟩:=I.loc
  refine .cons (by rw[I.ok.kind];decide) hf hn ?_ I.funs
  exact Heap.get?_none_of_le (ZT I.ok.bsz I.ok.above)
theorem Inv.stkSub(I:Inv X pins σ H s):∀ b∈frs X.stack,b∈X.env.locals::X.fs:=fun b hb=>by
 rcases I.ok.stk with e | ⟨e,hf⟩
 ·rw[e]at hb;exact ZU _ hb
 ·rw[e]at hb
  unfold frs at hb
  rw[filterMap_cons,hf]at hb
  exact hb
theorem Inv.stkFree(I:Inv X pins σ H s):∀ b∈frs X.stack,H b=none:=fun b hb=>by
 rcases List.mem_cons.mp (I.stkSub b hb)with e | hb
 ·rw[e];exact I.free
 ·obtain⟨_,o,ho,_⟩:=I.ok.funs.mem hb
  exact I.base.free b o ho (I.ok.frf b hb) fun z=>I.ok.exfs b z hb
theorem Inv.step{g':Array GenState}{t':Nat}{d':Drawn}{ch:List Addr}(I:Inv X pins σ H s)
  (hch:∀ b∈ch,(b∈X.ex\/X.s₀.heap.objs.size<=b)/\b≠X.env.locals/\(∀ x c,X.env.cells.lookup x=some c->c≠b) /\ ∀ p∈X.pn++pins,p.1≠b)
  (keep:∀ b o,b≠X.env.locals->b ∉ X.fs->b ∉ ch->s.heap.get? b=some o->H b=none->h'.get? b=some o)
  (slot:∀ b o,b≠X.env.locals->b∈X.fs->b ∉ ch->s.heap.get? b=some o->H b=none -> ∃ sl,h'.get? b=some { o with slots:=sl }) (free:∀ b o,b ∉ ch->s.heap.get? b=some o->H b=none->H' b=none)
  (there:∀ b o,b ∉ ch->s.heap.get? b=some o -> ∃ o',h'.get? b=some o')
  (tups:∀ b xs,H b=some (.tup xs)->H' b=some (.tup xs)) (frzs:∀ b o u,H b=some (.frz o u)->H' b=some (.frz o u)) (tbls:∀ b ps,H b=some (.tbl ps) -> ∃ more,H' b=some (.tbl (ps++more)))
  (ns:∀ m,s.heap.Ns X.env.locals m->h'.Ns X.env.locals m) (hok:HOk X.prog X.w H' h') (hg:AllBare g') :
  Inv X pins σ H' { s with heap:=h',gens:=g',drawn:=d',toks:=t' }:=by
 have neL:∀ b o,X.s₀.heap.get? b=some o->b≠X.env.locals:=fun b o e=>WN (WG (ZW e) I.ok.above)
 have neC:∀ b o,X.s₀.heap.get? b=some o->b ∉ X.ex->b ∉ ch:=fun b o e hx hb=>by
  rcases(hch b hb).1 with z | z
  ·exact hx z
  ·exact absurd (WG (ZW e) z) (Nat.lt_irrefl _)
 have cellK:∀ x c,X.env.cells.lookup x=some c -> ∀ v,s.heap.IsCell c v->h'.IsCell c v:=fun x c e v ⟨o,ho,hd⟩=>by
  have nch:c ∉ ch:=fun z=>(hch c z).2.2.1 x c e rfl
  by_cases hc:c∈X.fs
  ·obtain⟨sl,q⟩:=slot c o (I.cne x c e) hc nch ho (I.freeC x c e)
   exact⟨_,q,hd⟩
  ·exact⟨o,keep c o (I.cne x c e) hc nch ho (I.freeC x c e),hd⟩
 refine⟨I.ok,I.os,hg,⟨fun b o e n hb hx=>?_,fun b o e n hb hx=>?_,fun b o e n hx=>?_,fun b o e hx=>?_,fun b xs e=>tups b xs (I.base.tups b xs e),fun b o xs e=>frzs b o xs (I.base.frzs b o xs e),fun b ps e=>?_⟩,?_,fun x c e=>?_,?_,fun x c e=>?_,fun p hp=>?_,hok,I.len⟩
 ·exact keep b o (neL b o e) hb (neC b o e hx) (I.base.keep b o e n hb hx) (I.base.free b o e n hx)
 ·obtain⟨sl,e1⟩:=I.base.slot b o e n hb hx
  obtain⟨sl',e2⟩:=slot b _ (neL b o e) hb (neC b o e hx) e1 (I.base.free b o e n hx)
  exact⟨sl',e2⟩
 ·obtain⟨o',e1⟩:=I.base.there b o e hx
  exact free b o' (neC b o e hx) e1 (I.base.free b o e n hx)
 ·obtain⟨o',e1⟩:=I.base.there b o e hx
  exact there b o' (neC b o e hx) e1
 ·obtain⟨m1,e1⟩:=I.base.tbls b ps e
  obtain⟨m2,e2⟩:=tbls b _ e1
  exact⟨m1++m2,by rw[e2,Array.append_assoc]⟩
 ·obtain⟨m,hn,hl⟩:=I.loc
  refine⟨m,ns m hn,fun i x v e1 e2 e3=>?_⟩
  obtain⟨u,r,l⟩:=hl i x v e1 e2 e3
  exists u,r
  rcases l with l | ⟨k,c,e,z⟩
  ·exact .inl l
  ·exact .inr ⟨k,c,e,cellK x c e _ z⟩
 ·obtain⟨v,z⟩:=I.cell x c e
  exact⟨v,cellK x c e v z⟩
 ·obtain⟨m,⟨o,_,_,ho,_⟩,_⟩:=I.loc
  exact free _ o (fun z=>(hch _ z).2.1 rfl) ho I.free
 ·obtain⟨v,o,ho,hd⟩:=I.cell x c e
  exact free c o (fun z=>(hch c z).2.2.1 x c e rfl) ho (I.freeC x c e)
 ·obtain⟨e,n,ne,nf,d⟩:=I.pin p hp
  have nch:p.1 ∉ ch:=fun z=>(hch p.1 z).2.2.2 p hp rfl
  exact⟨keep p.1 p.2 ne nf nch e n,free p.1 p.2 nch e n,ne,nf,d⟩
theorem Inv.un{t':Nat}(I:Inv X pins σ H s)(u:Un X.fs [] H H' s.heap h')(hok:HOk X.prog X.w H' h'):Inv X pins σ H' { s with heap:=h',toks:=t' }:=by
 obtain⟨m,⟨o,es,ep,ho,r⟩,_⟩:=id I.loc
 obtain⟨sl,hL⟩:=u.any ho I.free (by simp)
 exact I.step (g':=s.gens) (d':=s.drawn) (ch:=[]) (fun _ z=>nomatch z) (fun b o _ hb _ e n=>u.keep b o e n hb (by simp)) (fun b o _ hb _ e n=>u.slot b o e n hb (by simp)) (fun b o _ e n=>u.free b o e n (by simp)) (fun b o _ e=>u.there b o e (by simp)) u.tups u.frzs u.tbls (fun m' hm=>by
  obtain⟨o',es',ep',ho',r'⟩:=hm
  rw[ho]at ho';cases ho'
  exact⟨_,es',ep',hL,r'⟩) hok I.bare
theorem Inv.call{g':Array GenState}{t':Nat}{d':Drawn}{ch:List Addr}(I:Inv X pins σ H s)(u:Un (frs X.stack) ch H H' s.heap h')(hok:HOk X.prog X.w H' h')(hg:AllBare g')
  (hch:∀ b∈ch,(b∈X.ex\/X.s₀.heap.objs.size<=b)/\b≠X.env.locals/\(∀ x c,X.env.cells.lookup x=some c->c≠b) /\ ∀ p∈X.pn++pins,p.1≠b) :
  Inv X pins σ H' { s with heap:=h',gens:=g',drawn:=d',toks:=t' }:=by
 obtain⟨m,⟨o,es,ep,ho,r⟩,_⟩:=id I.loc
 obtain⟨sl,hL⟩:=u.any ho I.free fun z=>(hch _ z).2.1 rfl
 exact I.step (ch:=ch) hch (fun b o hL hb hc e n=>u.keep b o e n (fun z=>(List.mem_cons.mp (I.stkSub b z)).elim hL hb) hc) (fun b o _ _ hc e n=>u.any e n hc) (fun b o hc e n=>u.free b o e n hc) (fun b o hc e=>u.there b o e hc) u.tups u.frzs u.tbls (fun m' hm=>by
  obtain⟨o',es',ep',ho',r'⟩:=hm
  rw[ho]at ho';cases ho'
  exact⟨_,es',ep',hL,r'⟩) hok hg
theorem Inv.turned{t':Nat}{it:Addr}(I:Inv X pins σ H s)(k:∀ b o,b≠it->s.heap.get? b=some o->h'.get? b=some o)(hn:H it=none)(hL:it≠X.env.locals)
  (h1:it∈X.ex\/X.s₀.heap.objs.size<=it) (h2:∀ x c,X.env.cells.lookup x=some c->c≠it) (h3:∀ p∈X.pn++pins,p.1≠it):Inv X pins σ H { s with heap:=h',toks:=t' }:=by
 have nit:∀ b u,H b=some u->b≠it:=fun b u e z=>by rw[z,hn]at e;cases e
 refine I.step (g':=s.gens) (d':=s.drawn) (ch:=[it]) (fun b hb=>?_) (fun b o _ _ hc e _=>k b o (fun z=>hc (by simp[z])) e) (fun b o _ _ hc e _=>⟨o.slots,k b o (fun z=>hc (by simp[z])) e⟩) (fun _ _ _ _ n=>n)
  (fun b o hc e=>⟨o,k b o (fun z=>hc (by simp[z])) e⟩) (fun _ _ e=>e) (fun _ _ _ e=>e) (fun b ps e=>⟨#[],by rw[e];simp⟩) (fun m hm=>?_) (fun b u e=>?_) I.bare
 ·have e:b=it:=by simpa using hb
  subst e
  exact⟨h1,hL,h2,h3⟩
 ·obtain⟨o,es,ep,ho,r⟩:=hm
  exact⟨o,es,ep,k _ o (Ne.symm hL) ho,r⟩
 ·refine(I.hok b u e).stay (fun c v hc q=>k c v ?_ q) (fun _ q=>q) fun _ _ q=>q
  rcases hc with z | z
  ·rw[z];exact nit b u e
  ·exact nit c _ z
theorem Inv.tok(I:Inv X pins σ H s)(t:Nat):Inv X pins σ H { s with toks:=t }:=I.un (h':=s.heap) (t':=t) Un.refl I.hok
theorem Inv.kept{t':Nat}(I:Inv X pins σ H s)(k:∀ b u,s.heap.get? b=some u->h'.get? b=some u):Inv X pins σ H { s with heap:=h',toks:=t' }:=I.un (Un.kept k) (I.hok.kept k)
theorem Inv.laid{t':Nat}(I:Inv X pins σ H s)(k:∀ b u,s.heap.get? b=some u->h'.get? b=some u)(hp:s.heap.objs.size<=a)(new:ObjOk X.prog X.w (upd H a o) h' a o) :
  Inv X pins σ (upd H a o) { s with heap:=h',toks:=t' }:=I.un (Un.laid k hp (I.hok.fresh hp)) (I.hok.laid k hp new)
theorem Inv.write{t':Nat}(I:Inv X pins σ H s)(mu:Mut (H x))(he:e=x\/H e=some (.own x))(k:∀ b u,b≠e->s.heap.get? b=some u->h'.get? b=some u)(heo:∃ u,h'.get? e=some u)
  (new:ObjOk X.prog X.w (upd H x o) h' x o):Inv X pins σ (upd H x o) { s with heap:=h',toks:=t' }:=I.un (Un.write mu he k heo) (I.hok.write mu he k heo new)
theorem Inv.pins_of(I:Inv X pins σ H s)(h:∀ p∈pins',s.heap.get? p.1=some p.2/\H p.1=none/\p.1≠X.env.locals/\p.1 ∉ X.fs /\ ∀ v,p.2.data ≠ .cell v):Inv X pins' σ H s:=
 ⟨I.ok,I.os,I.bare,I.base,I.loc,I.cell,I.free,I.freeC,fun p hp=>(List.mem_append.mp hp).elim (fun z=>I.pin p (mem_append_left _ z)) (h p),I.hok,I.len⟩
theorem q562{N:List Str}(hN:N.Nodup){i j:Nat}(a:N[i]? = some x)(b:N[j]? = some x):i=j:=by
 obtain⟨h1,e1⟩:=List.getElem?_eq_some_iff.mp a
 obtain⟨h2,e2⟩:=List.getElem?_eq_some_iff.mp b
 exact(getElem_inj hN).mp (e1.trans e2.symm)
theorem q254{M:Model}{A:Around}{E:VS}{i:Nat}(I:Inv X pins σ H s)(hN:X.N.Nodup)(hi:X.N[i]? = some x)(hx:Loc X.env.scope x)(r:RelV v u)
  (h:∀ s',Inv X pins (σ.set i (some v)) H s'->(∃ a,Heap.SameBut a s.heap s'.heap/\(a=X.env.locals\/X.env.cells.lookup x=some a))->Q () s') (hf:X.fn x=true\/X.env.scope.names.lookup x=some .local:=by walk_at "a"):wpAny M A (storeName X.env x u) Q E s:=by
 obtain⟨m,hn,hl⟩:=id I.loc
 have hcls:(X.env.scope.kind == .class||(X.env.scope.kind == .module&&X.env.locals != X.env.globals))=false:=by rw[I.ok.kind];rfl
 have hiσ:i<σ.length:=by rw[I.len];exact(List.getElem?_eq_some_iff.mp hi).1
 have cne:=I.cne
 have tracked:∀{a:Addr}{h':Heap},(∃ o,s.heap.get? a=some o/\H a=none)->Heap.SameBut a s.heap h'->HOk X.prog X.w H h':=fun {a h'} ha hs b ob e=>by
  obtain⟨_,_,hfree⟩:=ha
  refine(I.hok b ob e).stay (fun c w' hc q=>(hs.2 c ?_).trans q) (fun _ q=>q) fun _ _ q=>q
  rintro rfl
  rcases hc with rfl | hc
  ·rw[hfree]at e;cases e
  ·rw[hfree]at hc;cases hc
 rcases hx with hk | hk
 ·refine wpAny_storeName_local hk hn (fun h' hn' hs=>?_) hcls
  obtain⟨oL,_,_,hoL,_⟩:=id hn
  refine h _ ⟨I.ok,I.os,I.bare,⟨fun b o e n hb hx=>?_,fun b o e n hb hx=>?_,I.base.free,fun b o e hx=>?_,I.base.tups,I.base.frzs,I.base.tbls⟩,⟨_,hn',fun j y v' e1 e2 e3=>?_⟩,fun y c e=>?_,I.free,I.freeC,fun p hp=>?_,tracked ⟨oL,hoL,I.free⟩ hs,by simpa using I.len⟩ ⟨_,hs,.inl rfl⟩
  ·exact(hs.2 b (WN (WG (ZW e) I.ok.above))).trans (I.base.keep b o e n hb hx)
  ·obtain⟨sl,e1⟩:=I.base.slot b o e n hb hx
   exact⟨sl,(hs.2 b (WN (WG (ZW e) I.ok.above))).trans e1⟩
  ·obtain⟨o',e1⟩:=I.base.there b o e hx
   exact⟨o',(hs.2 b (WN (WG (ZW e) I.ok.above))).trans e1⟩
  ·by_cases hj:j=i
   ·subst hj
    rw[hi]at e1;cases e1
    rw[getElem?_set_self hiσ]at e2
    cases e2
    exact⟨u,r,.inl ⟨hk,by simp⟩⟩
   ·rw[getElem?_set_ne (Ne.symm hj)]at e2
    obtain⟨u',r',q⟩:=hl j y v' e1 e2 e3
    exists u',r'
    rcases q with ⟨k,e⟩ | ⟨k,c,e,z⟩
    ·refine .inl ⟨k,?_⟩
     have:y≠x:=fun e=>hj (q562 hN e1 (e▸hi))
     simp[this,e]
    ·exact .inr ⟨k,c,e,z.sameBut hs (cne y c e)⟩
  ·obtain⟨w',z⟩:=I.cell y c e
   exact⟨w',z.sameBut hs (cne y c e)⟩
  ·obtain⟨e,n,ne,nf,d⟩:=I.pin p hp
   exact⟨(hs.2 p.1 ne).trans e,n,ne,nf,d⟩
 ·have hfn:X.fn x=true:=by
   rcases hf with z | z
   ·exact z
   ·rw[z]at hk;cases hk
  obtain⟨c,hc⟩:=I.ok.has x (.inl hk)
  obtain⟨w',z⟩:=I.cell x c hc
  refine wpAny_storeName_cell I.ok.kind hk hc z (fun h' hc' hs=>?_)
  obtain⟨oc,hoc,hocd⟩:=id z
  refine h { s with heap:=h' } ⟨I.ok,I.os,I.bare,⟨fun b o e n hb hx=>?_,fun b o e n hb hx=>?_,I.base.free,fun b o e hx=>?_,I.base.tups,I.base.frzs,I.base.tbls⟩,⟨m,hn.sameBut hs (Ne.symm (cne x c hc)),fun j y v' e1 e2 e3=>?_⟩,fun y c' e=>?_,I.free,I.freeC,fun p hp=>?_,tracked ⟨oc,hoc,I.freeC x c hc⟩ hs,by simpa using I.len⟩ ⟨c,hs,.inr hc⟩
  ·exact(hs.2 b (WN (WG (ZW e) (I.ok.cab x c hfn hc)))).trans (I.base.keep b o e n hb hx)
  ·obtain⟨sl,e1⟩:=I.base.slot b o e n hb hx
   exact⟨sl,(hs.2 b (WN (WG (ZW e) (I.ok.cab x c hfn hc)))).trans e1⟩
  ·obtain⟨o',e1⟩:=I.base.there b o e hx
   exact⟨o',(hs.2 b (WN (WG (ZW e) (I.ok.cab x c hfn hc)))).trans e1⟩
  ·by_cases hj:j=i
   ·subst hj
    rw[hi]at e1;cases e1
    rw[getElem?_set_self hiσ]at e2
    cases e2
    exact⟨u,r,.inr ⟨.inl hk,c,hc,hc'⟩⟩
   ·rw[getElem?_set_ne (Ne.symm hj)]at e2
    obtain⟨u',r',q⟩:=hl j y v' e1 e2 e3
    exists u',r'
    rcases q with q | ⟨k,c',e,z'⟩
    ·exact .inl q
    ·refine .inr ⟨k,c',e,z'.sameBut hs ?_⟩
     rintro rfl
     exact hj (q562 hN e1 (I.ok.inj _ _ _ e hc▸hi))
  ·by_cases hcc:c'=c
   ·subst hcc;exact⟨_,hc'⟩
   ·obtain⟨w2,z2⟩:=I.cell y c' e
    exact⟨w2,z2.sameBut hs hcc⟩
  ·obtain⟨e,n,ne,nf,d⟩:=I.pin p hp
   refine⟨(hs.2 p.1 ?_).trans e,n,ne,nf,d⟩
   intro q
   rw[q,hoc]at e
   have q':oc=p.2:=Option.some.inj e
   exact d w' (by rw[<- q'];exact hocd)
theorem q245{M:Model}{A:Around}{E:VS}{i:Nat}(I:Inv X pins σ H s)(hN:X.N.Nodup)(hi:X.N[i]? = some x)(hx:Loc X.env.scope x)(r:RelV v u)
  (h:∀ s',Inv X pins (σ.set i (some v)) H s'->Q () s') (hf:X.fn x=true\/X.env.scope.names.lookup x=some .local:=by walk_at "a"):wpAny M A (storeName X.env x u) Q E s:=
 q254 I hN hi hx r (fun s' I' _=>h s' I') hf
theorem Inv.call'{s':Shared}(I:Inv X pins σ H s)(ho:s'.os=s.os)(u:Un (frs X.stack) ch H H' s.heap s'.heap)(hok:HOk X.prog X.w H' s'.heap)(hg:AllBare s'.gens)
  (hch:∀ b∈ch,(b∈X.ex\/X.s₀.heap.objs.size<=b)/\b≠X.env.locals/\(∀ x c,X.env.cells.lookup x=some c->c≠b) /\ ∀ p∈X.pn++pins,p.1≠b):Inv X pins σ H' s':=by
 obtain⟨h',g',d',t',o'⟩:=s'
 have e:o'=s.os:=ho
 subst e
 exact I.call (g':=g') (t':=t') (d':=d') u hok hg hch
end
abbrev XK:=Value->Option Addr->Hp->Prop
abbrev St:=List (Option V)
abbrev VK:=V->Hp->Prop
abbrev TE:=St->Hp->VK->Prop
abbrev TT:=St->Hp->(Bool->Hp->Prop)->Prop
abbrev TA:=St->Hp->(List V->Hp->Prop)->Prop
structure Ends where
 nx:St->Hp->Prop
 rt:VK
 bk:St->Hp->Prop:=fun _ _=>False
 ct:St->Hp->Prop:=fun _ _=>False
abbrev TS:=Ends->St->Hp->Prop
inductive EP(X:Cx)(pins:List (Addr×Obj))(σ:St)(Q:VK)(u:Value)(s':Shared):Prop
 |mk(v:V)(H':Hp)(_:Inv X pins σ H' s')(_:RelV v u)(_:Q v H')
inductive TP(X:Cx)(pins:List (Addr×Obj))(σ:St)(Q:Bool->Hp->Prop)(b:Bool)(s':Shared):Prop
 |mk(H':Hp)(_:Inv X pins σ H' s')(_:Q b H')
inductive AP(X:Cx)(pins:List (Addr×Obj))(σ:St)(Q:List V->Hp->Prop)(us:List Value)(s':Shared):Prop
 |mk(vs:List V)(H':Hp)(_:Inv X pins σ H' s')(_:Vals vs us)(_:Q vs H')
inductive NP(X:Cx)(pins:List (Addr×Obj))(N:St->Hp->Prop)(s':Shared):Prop
 |mk(σ':St)(H':Hp)(_:Inv X pins σ' H' s')(_:N σ' H')
inductive RP(X:Cx)(pins:List (Addr×Obj))(R:VK)(u:Value)(s':Shared):Prop
 |mk(v:V)(σ':St)(H':Hp)(_:Inv X pins σ' H' s')(_:RelV v u)(_:R v H')
def SP(X:Cx)(pins:List (Addr×Obj))(D:Ends)(f:Flow)(s':Shared):Prop:=
 match f with
 | .next=>NP X pins D.nx s'
 | .brk=>NP X pins D.bk s'
 | .cont=>NP X pins D.ct s'
 | .ret u=>RP X pins D.rt u s'
def PE(X:Cx)(e:Expr)(t:TE):Prop:=
 ∀(pins:List (Addr×Obj)) (s:Shared) (σ:St) (H:Hp) (Q:VK),Inv X pins σ H s->t σ H Q->wpAny (model X.prog X.w) X.A (eval e X.env) (EP X pins σ Q) X.xe s
def PT(X:Cx)(e:Expr)(t:TT):Prop:=
 ∀(pins:List (Addr×Obj)) (s:Shared) (σ:St) (H:Hp) (Q:Bool->Hp->Prop),Inv X pins σ H s->t σ H Q->wpAny (model X.prog X.w) X.A (isTrue e X.env (eval e X.env)) (TP X pins σ Q) X.xe s
def PW(X:Cx)(e:Expr)(t:TT):Prop:=
 ∀(whole:Sem Value) (pins:List (Addr×Obj)) (s:Shared) (σ:St) (H:Hp) (Q:Bool->Hp->Prop),Inv X pins σ H s->t σ H Q->wpAny (model X.prog X.w) X.A (isTrue e X.env whole) (TP X pins σ Q) X.xe s
theorem PW.pt(h:PW X e t):PT X e t:=h _
def PA(X:Cx)(es:List Expr)(t:TA):Prop:=
 ∀(pos:Pos) (pins:List (Addr×Obj)) (s:Shared) (σ:St) (H:Hp) (Q:List V->Hp->Prop),Inv X pins σ H s->t σ H Q->wpAny (model X.prog X.w) X.A (spliced (backTo pos (starEach es X.env))) (AP X pins σ Q) X.xe s
def PS(X:Cx)(st:Stmt)(t:TS):Prop:=
 ∀(pins:List (Addr×Obj)) (s:Shared) (σ:St) (H:Hp) (D:Ends),Inv X pins σ H s->t D σ H->wpAny (model X.prog X.w) X.A (exec st X.env) (SP X pins D) X.xe s
def PSs(X:Cx)(st:List Stmt)(t:TS):Prop:=
 ∀(pins:List (Addr×Obj)) (s:Shared) (σ:St) (H:Hp) (D:Ends),Inv X pins σ H s->t D σ H->wpAny (model X.prog X.w) X.A (execs st X.env) (SP X pins D) X.xe s
theorem thn{α:Type}{t:Sem α}{Q Q':α->Shared->Prop}{M:Model}{A:Around}{E:VS}{s:Shared}(h:wpAny M A t Q E s)(hQ:∀ a s,Q a s->Q' a s):wpAny M A t Q' E s:=WX h hQ fun _ _ x=>x
section
inductive tVar(i:Nat)(σ:St)(H:Hp)(Q:VK):Prop
 |mk(v:V)(_:σ[i]? = some (some v))(_:Q v H)
def tC(v:V):TE:=fun _ H Q=>Q v H
theorem pe_var{i:Nat}{pos:Pos}(hN:X.N[i]? = some x)(hv:Vis X.env.scope x)(hd:(x==("__debug__" : Str))=false:=by decide) (hcd:(x==("__classdict__" : Str))=false:=by decide):PE X (.Name x pos) (tVar i):=by
 intro pins s σ H Q I h
 obtain⟨v,e,h⟩:=h
 obtain⟨m,hn,hl⟩:=I.loc
 obtain⟨u,r,l⟩:=hl i x v hN e hv
 have fin:EP X pins σ Q u s:=⟨v,H,I,r,h⟩
 rcases l with ⟨hk,hm⟩ | ⟨hk,c,hc,hcell⟩
 ·exact wpAny_Name (wpAny_loadName_local I.ok.kind hk hn hm fin) hd
 ·rcases hk with hk | hk
  ·exact wpAny_Name (wpAny_loadName_cell I.ok.kind hk hc hcell fin) hd
  ·exact wpAny_Name (wpAny_loadName_free I.ok.kind hk hc hcell fin hcd) hd
theorem q14{i j pos}:PE X (.Constant (.int i) j pos) (tC (.int i)):=fun _ _ _ H _ I h=>wpAny_Constant_int ⟨.int i,H,I.tok _,⟨_,rfl⟩,h⟩
theorem pe_bl{b j pos}:PE X (.Constant (.bool b) j pos) (tC (.bl b)):=fun _ _ _ H _ I h=>Constant_bool ⟨.bl b,H,I,rfl,h⟩
theorem q120{j pos}:PE X (.Constant .none j pos) (tC .non):=fun _ _ _ H _ I h=>Constant_none ⟨.non,H,I,rfl,h⟩
theorem q23{x j pos}:PE X (.Constant (.str x) j pos) (tC (.str x)):=fun _ _ _ H _ I h=>Calls.Constant_str ⟨.str x,H,I.tok _,⟨_,rfl⟩,h⟩
def Gl(X:Cx)(x:Str):Prop:=X.env.kindOf x=some .globalImplicit
theorem q515{E:VS}{pos:Pos}(I:Inv X pins σ H s)(hg:Gl X x)(hm:X.mg x=some u)(h:Q u s)
  (hd:(x==("__debug__" : Str))=false:=by decide):wpAny (model X.prog X.w) X.A (eval (.Name x pos) X.env) Q E s:=
 Calls.Name_function_global I.ok.kind hg (Calls.loadGlobal_global (by rw[I.ok.glob];exact I.mod.glob.keeps I.bk) hm h) hd
theorem q255{E:VS}{pos:Pos}(I:Inv X pins σ H s)(hg:Gl X x)(hm:X.mg x=none)(hv:bootBuiltins x=some u)(h:Q u s)
  (hn:x ≠ "__name__" := by decide) (hd:(x==("__debug__" : Str))=false:=by decide):wpAny (model X.prog X.w) X.A (eval (.Name x pos) X.env) Q E s:=by
 obtain⟨mb,h1,h2⟩:=I.mod.blt
 exact Calls.Name_function_global I.ok.kind hg (Calls.loadGlobal_builtin (by rw[I.ok.glob];exact I.mod.glob.keeps I.bk) hm (by rw[I.ok.blt];exact h1.keeps I.bk) ((h2 x hn).trans hv) h) hd
theorem q516{pos:Pos}(hg:Gl X x)(hm:X.mg x=some u)(r:RelV v u)(hd:(x==("__debug__" : Str))=false:=by decide):PE X (.Name x pos) (tC v):=
 fun _ _ _ H _ I h=>q515 I hg hm ⟨v,H,I,r,h⟩ hd
theorem q517{pos:Pos}(hg:Gl X x)(hm:X.mg x=none)(hv:bootBuiltins x=some u)(r:RelV v u)(hn:x ≠ "__name__" := by decide) (hd:(x==("__debug__" : Str))=false:=by decide):PE X (.Name x pos) (tC v):=
 fun _ _ _ H _ I h=>q255 I hg hm hv ⟨v,H,I,r,h⟩ hn hd
variable{a b:Expr}{ta tb:TE}{pos:Pos}
inductive isB(x:V)(H:Hp)(Q:Bool->Hp->Prop):Prop
 |mk(c:Bool)(_:x = .bl c)(_:Q c H)
def tB(t:TE):TT:=fun σ H Q=>t σ H fun x H1=>isB x H1 Q
theorem q331{e:Expr}(h:PE X e t)(he:∀ whole,isTrue e X.env whole=(do let v <- whole;standAt e.pos;holding [v] (truthy v)):=by intro _;rfl):PT X e (tB t):=by
 intro pins s σ H Q I hw
 refine isTrue_plain (thn (h pins s σ H _ I hw) fun v s1 ⟨x,H1,I1,r1,q1⟩=>?_) (he _)
 obtain⟨d,rfl,q⟩:=q1
 cases r1
 exact YR ⟨H1,I1,q⟩
variable{tA tB':TT}{rest:List Expr}
def tAnd(t u:TT):TT:=fun σ H Q=>t σ H fun c H1=>if c=true then u σ H1 Q else Q false H1
def tOr(t u:TT):TT:=fun σ H Q=>t σ H fun c H1=>if c=true then Q true H1 else u σ H1 Q
def tNot(t:TT):TT:=fun σ H Q=>t σ H fun c H1=>Q (!c) H1
theorem q256(ha:PT X a tA):PW X (.BoolOp .And [a] pos) tA:=by
 intro wh pins s σ H Q I h
 refine isTrue_and (thn (ha pins s σ H Q I h) fun c s1 e=>?_)
 cases c with
 | true=>exact isTrue_and_nil e
 | false=>exact e
theorem q127(ha:PT X a tA):PW X (.BoolOp .Or [a] pos) tA:=by
 intro wh pins s σ H Q I h
 refine isTrue_or (thn (ha pins s σ H Q I h) fun c s1 e=>?_)
 cases c with
 | false=>exact isTrue_or_nil e
 | true=>exact e
theorem q431(ha:PT X a tA)(hb:PW X (.BoolOp .And (b::rest) pos) tB'):PW X (.BoolOp .And (a::b::rest) pos) (tAnd tA tB'):=by
 intro wh pins s σ H Q I h
 refine isTrue_and (thn (ha pins s σ H _ I h) fun c s1 ⟨H1,I1,q1⟩=>?_)
 cases c with
 | true=>exact hb wh pins s1 σ H1 Q I1 q1
 | false=>exact⟨H1,I1,q1⟩
theorem pw_or(ha:PT X a tA)(hb:PW X (.BoolOp .Or (b::rest) pos) tB'):PW X (.BoolOp .Or (a::b::rest) pos) (tOr tA tB'):=by
 intro wh pins s σ H Q I h
 refine isTrue_or (thn (ha pins s σ H _ I h) fun c s1 ⟨H1,I1,q1⟩=>?_)
 cases c with
 | true=>exact⟨H1,I1,q1⟩
 | false=>exact hb wh pins s1 σ H1 Q I1 q1
theorem q332(ha:PT X a tA):PT X (.UnaryOp .Not a pos) (tNot tA):=by
 intro pins s σ H Q I h
 exact isTrue_not (thn (ha pins s σ H (fun c H1=>Q (!c) H1) I h) fun c s' ⟨H1,I1,q⟩=>⟨H1,I1,q⟩)
def tIf(t:TT)(ta tb:TE):TE:=fun σ H Q=>t σ H fun c H1=>if c=true then ta σ H1 Q else tb σ H1 Q
theorem q142(hc:PT X c tA)(ha:PE X a ta)(hb:PE X b tb):PE X (.IfExp c a b pos) (tIf tA ta tb):=by
 intro pins s σ H Q I h
 refine wpAny_IfExp (thn (hc pins s σ H _ I h) fun d s1 ⟨H1,I1,q1⟩=>?_)
 cases d with
 | true=>exact ha pins s1 σ H1 Q I1 q1
 | false=>exact hb pins s1 σ H1 Q I1 q1
end
def SqL(K:Fg)(H:Hp)(a:Addr)(xs:List V):Prop:=
 Rd H a (.lst xs) \/
  ∃(o:Obj)(its:Array Value)(n:Nat),K.lookup a=some o/\o.cls = .type "list" /\ o.dict=none/\o.data = .seq its n/\its.size<=sizeLine/\Vals xs its.toList
def SqT(K:Fg)(H:Hp)(a:Addr)(xs:List V):Prop:=
 Rd H a (.tup xs) \/
  ∃(o:Obj)(its:Array Value)(n:Nat),K.lookup a=some o/\o.cls = .type "tuple" /\ o.data = .seq its n/\its.size<=sizeLine/\Vals xs its.toList
noncomputable def absV:Value->Option V
 | .none=>some .non
 | .bool b=>some (.bl b)
 | .int i _=>some (.int i)
 | .str x _=>some (.str x)
 | .bytes b _=>some (.byt b)
 | .float b _=>some (.flt b)
 | .ref a=>some (.ref a)
 | .type n=>some (.ty n)
 | _=>none
theorem RelV.abs(r:RelV x u):absV u=some x:=by
 cases x with
 | non=>cases r;rfl
 | bl _=>cases r;rfl
 | int _=>obtain⟨t,rfl⟩:=r;rfl
 | str _=>obtain⟨t,rfl⟩:=r;rfl
 | byt _=>obtain⟨t,rfl⟩:=r;rfl
 | flt _=>obtain⟨t,rfl⟩:=r;rfl
 | ref _=>cases r;rfl
 | ty _=>cases r;rfl
theorem RelV.inj(r:RelV x u)(q:RelV y u):x=y:=Option.some.inj (r.abs.symm.trans q.abs)
theorem Vals.inj:∀{xs ys:List V}{us:List Value},Vals xs us->Vals ys us->xs=ys
 | _,_,_,.nil,.nil=>rfl
 | _,_,_,.cons r t,.cons r' t'=>by rw[r.inj r',Vals.inj t t']
section
variable {pins:List (Addr×Obj)} {σ:St} {H:Hp} {s:Shared} {a:Addr} {xs ys:List V}
theorem SqL.of{K:Fg}(h:H a=some (.lst xs)):SqL K H a xs:=.inl (.inl h)
theorem SqT.of{K:Fg}(h:H a=some (.tup xs)):SqT K H a xs:=.inl (.inl h)
theorem Inv.list(I:Inv X pins σ H s)(h:SqL X.K H a xs):∃ its:List Value,Vals xs its/\PlainL s.heap a its.toArray/\xs.length<=sizeLine:=by
 rcases h with h | ⟨o,its,n,hk,hc,hd,hs,hz,r⟩
 ·obtain⟨z,its,n,r,e⟩:=h.ok I.hok
  exact⟨its,r,⟨_,n,e,rfl,rfl,rfl⟩,z⟩
 ·exists its.toList,r,⟨o,n,I.kIn a o hk,hc,hd,by simpa using hs⟩
  have e:=r.length
  simp only[WY]at e
  lia
theorem Inv.tuple(I:Inv X pins σ H s)(h:SqT X.K H a xs):∃ its:List Value,Vals xs its/\IsTup s.heap a its.toArray/\xs.length<=sizeLine:=by
 rcases h with h | ⟨o,its,n,hk,hc,hs,hz,r⟩
 ·obtain⟨z,its,r,p⟩:=h.ok I.hok
  exact⟨its,r,p,z⟩
 ·exists its.toList,r,⟨o,I.kIn a o hk,hc,n,by simpa using hs⟩
  have e:=r.length
  simp only[WY]at e
  lia
theorem Inv.list_inj(I:Inv X pins σ H s)(h:SqL X.K H a xs)(h':SqL X.K H a ys):xs=ys:=by
 obtain⟨its,r,⟨o,n,e,_,_,d⟩,_⟩:=I.list h
 obtain⟨its',r',⟨o',n',e',_,_,d'⟩,_⟩:=I.list h'
 rw[e]at e';cases e'
 rw[d]at d'
 injection d' with d1 _
 have:its=its':=by simpa using congrArg Array.toList d1
 subst this
 exact r.inj r'
theorem Inv.tuple_inj(I:Inv X pins σ H s)(h:SqT X.K H a xs)(h':SqT X.K H a ys):xs=ys:=by
 obtain⟨its,r,⟨o,e,_,n,d⟩,_⟩:=I.tuple h
 obtain⟨its',r',⟨o',e',_,n',d'⟩,_⟩:=I.tuple h'
 rw[e]at e';cases e'
 rw[d]at d'
 injection d' with d1 _
 have:its=its':=by simpa using congrArg Array.toList d1
 subst this
 exact r.inj r'
end
noncomputable abbrev Cx.wish(X:Cx)(E:VS):Cx:={ X with xe:=E }
noncomputable abbrev Cx.nox(X:Cx):Cx:=X.wish fun _ _=>False
theorem Cx.Ok.wish{X:Cx}(ok:X.Ok)(E:VS):(X.wish E).Ok:=
 ⟨ok.mod,ok.kind,ok.glob,ok.blt,ok.above,ok.inj,ok.has,ok.cab,ok.hd,ok.frames,ok.stk,ok.exf,ok.bs,ok.bsz,ok.noex,ok.exfs,ok.funs,ok.frf⟩
theorem Cx.Ok.unwish{X:Cx}(ok:(X.wish E).Ok):X.Ok:=
 ⟨ok.mod,ok.kind,ok.glob,ok.blt,ok.above,ok.inj,ok.has,ok.cab,ok.hd,ok.frames,ok.stk,ok.exf,ok.bs,ok.bsz,ok.noex,ok.exfs,ok.funs,ok.frf⟩
section
variable {pins:List (Addr×Obj)} {σ:St} {H:Hp} {s:Shared} {E:VS}
theorem Inv.wish(I:Inv X pins σ H s)(E:VS):Inv (X.wish E) pins σ H s:=⟨I.ok.wish E,I.os,I.bare,I.base,I.loc,I.cell,I.free,I.freeC,I.pin,I.hok,I.len⟩
theorem Inv.unwish(I:Inv (X.wish E) pins σ H s):Inv X pins σ H s:=⟨I.ok.unwish,I.os,I.bare,I.base,I.loc,I.cell,I.free,I.freeC,I.pin,I.hok,I.len⟩
theorem SP.unwish(h:SP (X.wish E) pins D f s'):SP X pins D f s':=by
 cases f with
 | next=>obtain⟨σ',H',I,q⟩:=h;exact⟨σ',H',I.unwish,q⟩
 | brk=>obtain⟨σ',H',I,q⟩:=h;exact⟨σ',H',I.unwish,q⟩
 | cont=>obtain⟨σ',H',I,q⟩:=h;exact⟨σ',H',I.unwish,q⟩
 | ret u=>obtain⟨v,σ',H',I,r,q⟩:=h;exact⟨v,σ',H',I.unwish,r,q⟩
theorem PSs.nox{st:List Stmt}{t:TS}(h:PSs X.nox st t):PSs X st t:=fun pins s σ H D I hw=>
 WX (h pins s σ H D (I.wish _) hw) (fun _ _ q=>q.unwish) fun _ _ z=>False.elim z
end
section
variable {st:Stmt} {rest:List Stmt} {t u:TS} {e:Expr} {te:TE} {pos:Pos}
def tNext:TS:=fun D σ H=>D.nx σ H
def tSeq(t u:TS):TS:=fun D σ H=>t { D with nx:=u D } σ H
theorem q20:PSs X [] tNext:=fun _ _ σ H _ I h=>wpAny_execs_nil ⟨σ,H,I,h⟩
theorem q11(h1:PS X st t)(h2:PSs X rest u):PSs X (st::rest) (tSeq t u):=by
 intro pins s σ H D I h
 refine wpAny_execs_cons (thn (h1 pins s σ H { D with nx:=u D } I h) fun f s1 q=>?_)
 cases f with
 | next=>
  obtain⟨σ',H',I',q⟩:=q
  exact h2 pins s1 σ' H' D I' q
 | ret v=>exact q
 | brk=>exact q
 | cont=>exact q
theorem q15(h1:PS X st t):PSs X [st] t:=by
 intro pins s σ H D I h
 refine wpAny_execs_cons (thn (h1 pins s σ H D I h) fun f s1 q=>?_)
 cases f with
 | next=>exact wpAny_execs_nil q
 | ret v=>exact q
 | brk=>exact q
 | cont=>exact q
theorem Inv.quiet(I:Inv X pins σ H s):interactive X.env=false:=by simp[interactive,I.ok.kind]
def tDrop(te:TE):TS:=fun D σ H=>te σ H fun _ H1=>D.nx σ H1
theorem q97(he:PE X e te)(hs:swapsWith e none pos.line X.env=pure false:=by rfl):PS X (.Expr e pos) (tDrop te):=by
 intro pins s σ H D I h
 exact wpAny_Expr_any (thn (he pins s σ H _ I h) fun v s1 ⟨x,H1,I1,r1,q1⟩=>⟨σ,H1,I1,q1⟩) I.quiet hs
def tRet(te:TE):TS:=fun D σ H=>te σ H D.rt
theorem q18(he:PE X e te):PS X (.Return (some e) pos) (tRet te):=by
 intro pins s σ H D I h
 exact wpAny_Return_some (thn (he pins s σ H _ I h) fun v s1 ⟨x,H1,I1,r1,q1⟩=>⟨x,σ,H1,I1,r1,q1⟩)
def tIfS(c:TT)(t u:TS):TS:=fun D σ H=>c σ H fun b H1=>if b=true then t D σ H1 else u D σ H1
theorem ps_if(hc:PT X c tc)(ha:PSs X a t)(hb:PSs X b u):PS X (.If c a b pos) (tIfS tc t u):=by
 intro pins s σ H D I h
 refine wpAny_If (thn (hc pins s σ H _ I h) fun d s1 ⟨H1,I1,q1⟩=>?_)
 cases d with
 | true=>exact ha pins s1 σ H1 D I1 q1
 | false=>exact hb pins s1 σ H1 D I1 q1
def tNever:TS:=fun _ _ _=>False
theorem q31:PS X st tNever:=fun _ _ _ _ _ _ h=>h.elim
end
abbrev TG:=V->St->Hp->(St->Hp->Prop)->Prop
abbrev TGs:=List V->St->Hp->(St->Hp->Prop)->Prop
def PG(X:Cx)(target:Expr)(t:TG):Prop:=
 ∀(pins:List (Addr×Obj)) (s:Shared) (σ:St) (H:Hp) (v:V) (u:Value) (Q:St->Hp->Prop),Inv X pins σ H s->RelV v u->t v σ H Q ->
  wpAny (model X.prog X.w) X.A (assign target X.env u) (fun _ s'=>NP X pins Q s') X.xe s
def PGs(X:Cx)(ts:List Expr)(t:TGs):Prop:=
 ∀(pins:List (Addr×Obj)) (s:Shared) (σ:St) (H:Hp) (vs:List V) (us:List Value) (Q:St->Hp->Prop),Inv X pins σ H s->Vals vs us->t vs σ H Q ->
  wpAny (model X.prog X.w) X.A (assignInOrder ((assignEach ts X.env).map (·.2)) us) (fun _ s'=>NP X pins Q s') X.xe s
abbrev TSet:=V->V->V->Hp->(Hp->Prop)->Prop
def PSet(X:Cx)(t:TSet):Prop:=
 ∀(pins:List (Addr×Obj)) (s:Shared) (σ:St) (H:Hp) (o i v:V) (ov iv u:Value) (Q:Hp->Prop),Inv X pins σ H s->RelV o ov->RelV i iv->RelV v u->t o i v H Q ->
  wpAny (model X.prog X.w) X.A (setItem ov iv u) (fun _ s'=>∃ H',Inv X pins σ H' s'/\Q H') X.xe s
section
variable {pos:Pos}
def gName(i:Nat):TG:=fun v σ H Q=>Q (σ.set i (some v)) H
theorem q98{i:Nat}(hN:X.N.Nodup)(hi:X.N[i]? = some x)(hx:Loc X.env.scope x)(hf:X.fn x=true\/X.env.scope.names.lookup x=some .local:=by walk_at "a"):PG X (.Name x pos) (gName i):=by
 intro pins s σ H v u Q I r h
 exact wpAny_assign_Name (q245 I hN hi hx r (fun s' I'=>⟨_,H,I',h⟩) hf)
def gNil:TGs:=fun vs σ H Q=>vs=[]/\Q σ H
inductive gCons(t:TG)(u:TGs)(vs:List V)(σ:St)(H:Hp)(Q:St->Hp->Prop):Prop
 |mk(v:V)(r:List V)(_:vs=v::r)(_:t v σ H fun σ' H'=>u r σ' H' Q)
theorem q87:PGs X [] gNil:=by
 intro pins s σ H vs us Q I r h
 obtain⟨e,h⟩:=h
 subst e
 cases r
 exact assignInOrder_nil ⟨σ,H,I,h⟩
theorem q33(h1:PG X e t)(h2:PGs X es u)
  (hs:(assignEach (e::es) X.env).map (·.2)=assign e X.env::(assignEach es X.env).map (·.2):=by rfl):PGs X (e::es) (gCons t u):=by
 intro pins s σ H vs us Q I r h
 obtain⟨v,vr,e1,h⟩:=h
 subst e1
 cases r with
 | cons r rr=>
  rw[hs]
  refine assignInOrder_cons (thn (h1 pins s σ H _ _ _ I r h) fun _ s1 ⟨σ1,H1,I1,q1⟩=>?_)
  exact h2 pins s1 σ1 H1 _ _ Q I1 rr q1
inductive gTup(K:Fg)(n:Nat)(t:TGs)(v:V)(σ:St)(H:Hp)(Q:St->Hp->Prop):Prop
 |mk(a:Addr)(xs:List V)(_:v = .ref a)(_:SqT K H a xs)(_:xs.length=n)(_:t xs σ H Q)
theorem q217{k:Nat}{n:Nat}(hc:X.calm=true)(h:PGs X es t)
  (hn:(assignEach es X.env).length=n:=by rfl) (hst:(assignEach es X.env).findIdx? (·.1)=none:=by rfl):PG X (.Tuple es k pos) (gTup X.K n t):=by
 intro pins s σ H v u Q I r hw
 obtain⟨a,xs,e1,hq,hl,hw⟩:=hw
 subst e1
 cases r
 obtain⟨its,rv,ht,hz⟩:=I.tuple hq
 refine assign_Tuple_tuple (I.ok.hd hc) ht (by simp[hn,<- hl,rv.length]) hst fun h' hx=>?_
 have I1:Inv X pins σ H { s with heap:=h' }:=I.kept (t':=s.toks) fun b o e=>hx b o (WN (ZW e)) e
 exact h pins _ σ H xs _ Q I1 (by simpa using rv) hw
def gSub(to ti:TE)(t:TSet):TG:=fun v σ H Q=>to σ H fun o H1=>ti σ H1 fun i H2=>t o i v H2 fun H3=>Q σ H3
theorem pg_sub(ho:PE X o to)(hi:PE X i ti)(hs:PSet X t)
  (ha:∀ v,assign (.Subscript o i pos) X.env v=(do
   let ov <- holding [v] (eval o X.env)
   let iv <- holding [v,ov] (eval i X.env)
   standAt pos
   holding [v,ov,iv] (setItem ov iv v)
   release [v,ov,iv] []):=by intro _;rfl):PG X (.Subscript o i pos) (gSub to ti t):=by
 intro pins s σ H v u Q I r h
 rw[ha]
 refine ZA (YU (thn (ho pins s σ H _ I h) fun ov s1 ⟨x,H1,I1,r1,q1⟩=>?_))
 refine ZA (YU (thn (hi pins s1 σ H1 _ I1 q1) fun iv s2 ⟨y,H2,I2,r2,q2⟩=>?_))
 refine ZA (wpAny_standAt (ZA (YU (thn (hs pins s2 σ H2 x y v ov iv u _ I2 r1 r2 r q2) fun _ s3 ⟨H3,I3,q3⟩=>?_))))
 exact wpAny_release ⟨σ,H3,I3,q3⟩
def tAsg(te:TE)(g:TG):TS:=fun D σ H=>te σ H fun x H1=>g x σ H1 D.nx
theorem q333(he:PE X e te)(hg:PG X tg g)(hs:swapsWithSole [tg] e pos.line X.env=pure false:=by rfl)(hw:swappedStores [tg] e X.env=pure none:=by rfl)
  (h1:(assignEach [tg] X.env).map (·.2)=[assign tg X.env]:=by rfl):PS X (.Assign [tg] e pos) (tAsg te g):=by
 intro pins s σ H D I h
 refine wpAny_Assign_stores (thn (he pins s σ H _ I h) fun v s1 ⟨x,H1,I1,r1,q1⟩=>?_) hs hw
 rw[h1]
 exact thn (hg pins s1 σ H1 x v _ I1 r1 q1) fun _ s2 q=>q
theorem ps_set{i:Nat}(hN:X.N.Nodup)(hi:X.N[i]? = some x)(hx:Loc X.env.scope x)(he:PE X e te)(hs:swapsWith e (some (.Name x pos')) pos.line X.env=pure false:=by rfl)(hf:X.fn x=true\/X.env.scope.names.lookup x=some .local:=by walk_at "a") :
  PS X (.Assign [.Name x pos'] e pos) (tAsg te (gName i)):=by
 intro pins s σ H D I h
 refine wpAny_Assign_Name (thn (he pins s σ H _ I h) fun v s1 ⟨y,H1,I1,r1,q1⟩=>?_) hs
 exact q245 I1 hN hi hx r1 (fun s2 I2=>⟨_,H1,I2,q1⟩) hf
def tPar(i j:Nat)(ta:TA):TS:=fun D σ H=>ta σ H fun vs H1=>∃ v w,vs=[v,w]/\D.nx ((σ.set i (some v)).set j (some w)) H1
theorem ps_par{i j:Nat}{kt k2 pt2}(hc:X.calm=true)(hN:X.N.Nodup)(hi:X.N[i]? = some x)(hj:X.N[j]? = some y)(hij:i≠j)
  (hx:X.env.scope.names.lookup x=some .local) (hy:X.env.scope.names.lookup y=some .local) (ha:PA X [a,b] ta)
  (hw:swappedStores [.Tuple [.Name x px,.Name y py] kt pt] (.Tuple [a,b] k2 pt2) X.env=pure (some [x,y]))
  (hs:swapsWithSole [.Tuple [.Name x px,.Name y py] kt pt] (.Tuple [a,b] k2 pt2) pos.line X.env=pure false:=by rfl) :
  PS X (.Assign [.Tuple [.Name x px,.Name y py] kt pt] (.Tuple [a,b] k2 pt2) pos) (tPar i j ta):=by
 intro pins s σ H D I h
 rw[exec_Assign_arm]
 refine ZA (wpAny_standAt ?_)
 rw[hs]
 refine ZA (ZO ?_)
 rw[ZJ {}]
 refine ZA (Tuple_ (thn (ha _ pins s σ H _ I h) fun us s1 ⟨vs,H1,I1,r1,q1⟩=>?_))
 obtain⟨v,w,e1,q1⟩:=q1
 subst e1
 obtain⟨u1,u2,rfl,rv,rw'⟩:∃ u1 u2,us=[u1,u2]/\RelV v u1/\RelV w u2:=by
  cases r1 with
  | cons p q=>
   cases q with
   | cons p' q'=>
    cases q'
    exact⟨_,_,rfl,p,p'⟩
 refine YZ ?_ (by show 2<=sizeLine;decide)
 have I2:Inv X pins σ H1 { s1 with heap:=s1.heap.push { cls:=.type "tuple", data:=.seq [u1,u2].toArray } }:=I1.kept (t':=s1.toks) fun b o e=>ZE _ e
 rw[hw]
 refine ZA (ZO ?_)
 show wpAny (model X.prog X.w) X.A (do rule "assign.swapped-stores"; let items <- unpackItems (.ref s1.heap.objs.size) 2 none;assignInOrder [fun v=>bindName X.env y v,fun v=>bindName X.env x v] items.reverse;pure Flow.next) _ _ _
 refine ZA (wpAny_rule (ZA (unpackItems_tuple (items:=#[u1,u2]) (I.ok.hd hc) (IsTup.new s1.heap _) fun h' hx'=>?_)))
 have I3:=I2.kept (h':=h') (t':=s1.toks) fun b o e=>hx' b o (WN (ZW e)) e
 show wpAny _ _ (assignInOrder [fun v=>bindName X.env y v,fun v=>bindName X.env x v] [u2,u1] >>= fun _=>pure Flow.next) _ _ _
 refine ZA (assignInOrder_cons (wpAny_bindName (q245 I3 hN hj (.inl hy) rw' (fun s2 I4=>?_) (.inr hy))))
 refine assignInOrder_cons (wpAny_bindName (q245 I4 hN hi (.inl hx) rv (fun s3 I5=>assignInOrder_nil (ZO ?_)) (.inr hx)))
 rw[set_comm _ _ (Ne.symm hij)]at I5
 exact⟨_,H1,I5,q1⟩
end
section
variable {pos:Pos}
inductive tWhile(c:TT)(tb:TS)(D:Ends)(σ:St)(H:Hp):Prop
 |mk(W:Nat->St->Hp->Prop)(_:(∃ m,W m σ H))(_:∀ m σ H,W m σ H->c σ H fun b H1=>if b=true then ∃ N:St->Hp->Prop,(∀ σ' H',N σ' H' -> ∃ m',m'<m/\W m' σ' H')/\tb { D with nx:=N,ct:=N,bk:=D.nx } σ H1 else D.nx σ H1)
theorem q563(hp:PassesOwn (model X.prog X.w) X.A X.env X.xe)(hc:PT X c tc)(hb:PSs X body tb):PS X (.While c body [] pos) (tWhile tc tb):=by
 intro pins s σ H D I h
 obtain⟨W,⟨m0,w0⟩,turn⟩:=h
 refine wpAny_While (codeAny_whileLoop (fun n s'=>∃ σ' H',Inv X pins σ' H' s'/\W n σ' H') ?_ m0 ⟨σ,H,I,w0⟩)
 rintro n s1 ⟨σ1,H1,I1,w1⟩
 refine wpAny_passesOwn hp (thn (hc pins s1 σ1 H1 _ I1 (turn n σ1 H1 w1)) fun b s2 ⟨H2,I2,q2⟩=>?_)
 cases b with
 | true=>
  obtain⟨N,hN,q2⟩:=q2
  rw[ZL rfl]
  refine wpAny_passesOwn hp (thn (hb pins s2 σ1 H2 _ I2 q2) fun f s3 q3=>?_)
  cases f with
  | next=>
   obtain⟨σ3,H3,I3,n3⟩:=q3
   obtain⟨m',hm,w3⟩:=hN σ3 H3 n3
   exact⟨m',hm,σ3,H3,I3,w3⟩
  | cont=>
   obtain⟨σ3,H3,I3,n3⟩:=q3
   obtain⟨m',hm,w3⟩:=hN σ3 H3 n3
   exact⟨m',hm,σ3,H3,I3,w3⟩
  | brk=>exact q3
  | ret v=>exact q3
 | false=>
  rw[ZJ fnt]
  exact wpAny_execs_nil ⟨σ1,H2,I2,q2⟩
end
structure It where
 go:Nat->Hp->Prop
 yld:Nat->Hp->V->Hp->Prop
 stop:Nat->Hp->Prop
noncomputable def FpOk(X:Cx)(pins:List (Addr×Obj))(H:Hp)(b:Addr):Prop:=
 H b=none/\b≠X.env.locals/\b ∉ X.fs/\(b∈X.ex\/X.s₀.heap.objs.size<=b)/\(∀ x c,X.env.cells.lookup x=some c->c≠b) /\ ∀ p∈X.pn++pins,p.1≠b
theorem Inv.fpOk{s:Shared}(I:Inv X pins σ H s)(hb:s.heap.objs.size<=b)(hn:H' b=none):FpOk X pins H' b:=by
 refine⟨hn,Nat.ne_of_gt (WG I.lt hb),I.nofs hb,.inr (ZT I.sz hb),fun x c e z=>?_,fun p hp z=>?_⟩
 ·obtain⟨v,q⟩:=I.cell x c e
  exact absurd (WG q.lt (by rw[z];exact hb)) (Nat.lt_irrefl _)
 ·exact absurd (WG (ZW (I.pin p hp).1) (by rw[z];exact hb)) (Nat.lt_irrefl _)
structure Turn(P:Program)(w:World)(K:Fg)(tg:Expr)(J:It)(fp:List Addr)(it:Addr)(tn:Nat->Heap->Prop):Prop where
 mem:it∈fp
 obj:∀ i h,tn i h -> ∀ b∈fp,∃ o,h.get? b=some o /\ ∀ v,o.data ≠ .cell v
 keep:∀ i h h',tn i h->(∀ b∈fp,∀ o,h.get? b=some o->h'.get? b=some o)->tn i h'
 item:∀(X:Cx),X.prog=P->X.w=w->X.K=K->X.calm=true -> ∀(i:Nat) (pins:List (Addr×Obj)) (s:Shared) (σ:St) (H:Hp) (E:VS),Inv X pins σ H s->(∀ b∈fp,FpOk X pins H b)->tn i s.heap->J.go i H ->
  wpAny (model P w) X.A (pyNext (.ref it)) (fun r s1=>∃ u,r=some u /\
   wpAny (model P w) X.A (letOwnedTupleGo tg (.ref it) u) (fun _ s2=>∃ x H',Inv X pins σ H' s2/\RelV x u/\J.yld i H x H'/\tn (i+1) s2.heap /\ ∀ b∈fp,H' b=none) E s1) E s
 done:∀(X:Cx),X.prog=P->X.w=w->X.K=K->X.calm=true -> ∀(i:Nat) (pins:List (Addr×Obj)) (s:Shared) (σ:St) (H:Hp) (E:VS),Inv X pins σ H s->(∀ b∈fp,FpOk X pins H b)->tn i s.heap->J.stop i H ->
  wpAny (model P w) X.A (pyNext (.ref it)) (fun r s1=>r=none/\Inv X pins σ H s1) E s
 self:∀(A:Around)(i:Nat)(s:Shared)(Q:VS)(E:VS),tn i s.heap->Q (.ref it) s->wpAny (model P w) A (pyIter (.ref it)) Q E s
abbrev TI:=St->Hp->(It->Hp->Prop)->Prop
inductive PIE(X:Cx)(pins:List (Addr×Obj))(σ:St)(tg:Expr)(R:It->Hp->Prop)(itv:Value)(s2:Shared):Prop
 |mk(it:Addr)(fp:List Addr)(tn:Nat->Heap->Prop)(J:It)(H':Hp)(_:itv = .ref it)(_:Inv X pins σ H' s2)(_:Turn X.prog X.w X.K tg J fp it tn)(_:tn 0 s2.heap)(_:∀ b∈fp,FpOk X pins H' b)(_:R J H')
def PI(X:Cx)(tg itr:Expr)(wi:TI):Prop:=
 ∀(pins:List (Addr×Obj)) (s:Shared) (σ:St) (H:Hp) (R:It->Hp->Prop),Inv X pins σ H s->wi σ H R ->
  wpAny (model X.prog X.w) X.A (eval itr X.env) (fun v s1=>wpAny (model X.prog X.w) X.A (pyIter v) (PIE X pins σ tg R) X.xe s1) X.xe s
theorem go_of{s:Shared}{o:Obj}(ho:s.heap.get? it=some o)(hc:o.cls = .type n)(hd:o.data = .fields vs)
  (hn:["enumerate", "zip", "dict_itemiterator", "dict_reverseitemiterator", "odict_iterator", "itertools.zip_longest", "itertools.pairwise"].contains n=false) (hQ:Q () s):wpAny M A (letOwnedTupleGo tg (.ref it) u) Q E s:=by
 unfold letOwnedTupleGo
 cases tg <;> first
  | exact ZO hQ
  | (cases u <;> first
    | exact ZO hQ
    | (refine ZA (wpAny_load ho ?_)
       rw[hc,hd]
       show wpAny M A (if(["enumerate", "zip", "dict_itemiterator", "dict_reverseitemiterator", "odict_iterator", "itertools.zip_longest", "itertools.pairwise"].contains n&&vs[0]?==some (rawInt _))=true then _ else _) Q E s
       rw[ZJ (by intro h;rw[hn,Bool.false_and]at h;cases h)]
       exact ZO hQ))
def Itl(K:Fg)(a:Addr):It:=
 ⟨fun i H=>∃ xs x,SqL K H a xs/\xs[i]? = some x,fun i H x H'=>H'=H /\ ∀ xs,SqL K H a xs->xs[i]? = some x,fun i H=>∃ xs,SqL K H a xs/\xs.length<=i⟩
noncomputable def Itt(K:Fg)(a:Addr):It:=
 ⟨fun i H=>∃ xs x,SqT K H a xs/\xs[i]? = some x,fun i H x H'=>H'=H /\ ∀ xs,SqT K H a xs->xs[i]? = some x,fun i H=>∃ xs,SqT K H a xs/\xs.length<=i⟩
noncomputable def Itr(lo:Int)(n:Nat):It:=⟨fun i _=>i<n,fun i H x H'=>H'=H/\x = .int (lo+i),fun i _=>n<=i⟩
theorem q683{P:Program}{w:World}{K:Fg}{tg:Expr}(a it:Addr):Turn P w K tg (Itl K a) [it] it (fun i h=>h.IsListIter it a i) where
 mem:=by simp
 obj:=fun i h st b hb=>by
  have e:b=it:=by simpa using hb
  subst e
  obtain⟨o,e,c,d⟩:=st
  exact⟨o,e,fun v z=>by rw[d]at z;cases z⟩
 keep:=fun i h h' st k=>st.at fun o e=>k it (by simp) o e
 item:=by
  intro X hP hw hK hc i pins s σ H E I hf st hg
  subst hP hw hK
  obtain⟨xs,x,hq,hx⟩:=hg
  obtain⟨its,rv,p,hz⟩:=I.list hq
  obtain⟨u,hu,ru⟩:=rv.get hx
  obtain⟨f0,f1,f2,f3,f4,f5⟩:=hf it (by simp)
  refine wpAny_pyNext_list_item st p.isList (x:=u) (by simpa using hu) fun h' st' sb=>?_
  have I1:Inv X pins σ H { s with heap:=h' }:=I.turned (t':=s.toks) (fun b o hb e=>(sb.2 b hb).trans e) f0 f1 f3 f4 f5
  obtain⟨o,e,c,d⟩:=id st'
  exact⟨u,rfl,go_of (s:={ s with heap:=h' }) e c d {} ⟨x,H,I1,ru,⟨rfl,fun ys hy=>by rw[I.list_inj hy hq];exact hx⟩,st',fun b hb=>(hf b hb).1⟩⟩
 done:=by
  intro X hP hw hK hc i pins s σ H E I hf st hg
  subst hP hw hK
  obtain⟨xs,hq,hx⟩:=hg
  obtain⟨its,rv,p,hz⟩:=I.list hq
  obtain⟨f0,f1,f2,f3,f4,f5⟩:=hf it (by simp)
  have hl:=rv.length
  exact wpAny_pyNext_list_end (I.ok.hd hc) st p.isList (by simp;lia) fun h' eb=>⟨rfl,I.turned (t':=s.toks) (fun b o hb e=>eb b o hb e) f0 f1 f3 f4 f5⟩
 self:=fun _ _ _ _ _ st h=>wpAny_pyIter_listiter st h
theorem q623{P:Program}{w:World}{K:Fg}{tg:Expr}(a it:Addr):Turn P w K tg (Itt K a) [it] it (fun i h=>h.IsTupleIter it a i) where
 mem:=by simp
 obj:=fun i h st b hb=>by
  have e:b=it:=by simpa using hb
  subst e
  obtain⟨o,e,c,d⟩:=st
  exact⟨o,e,fun v z=>by rw[d]at z;cases z⟩
 keep:=fun i h h' st k=>st.at fun o e=>k it (by simp) o e
 item:=by
  intro X hP hw hK hc i pins s σ H E I hf st hg
  subst hP hw hK
  obtain⟨xs,x,hq,hx⟩:=hg
  obtain⟨its,rv,p,hz⟩:=I.tuple hq
  obtain⟨u,hu,ru⟩:=rv.get hx
  obtain⟨f0,f1,f2,f3,f4,f5⟩:=hf it (by simp)
  refine wpAny_pyNext_tuple_item st (show s.heap.IsTuple a its.toArray from p) (x:=u) (by simpa using hu) fun h' st' sb=>?_
  have I1:Inv X pins σ H { s with heap:=h' }:=I.turned (t':=s.toks) (fun b o hb e=>(sb.2 b hb).trans e) f0 f1 f3 f4 f5
  obtain⟨o,e,c,d⟩:=id st'
  exact⟨u,rfl,go_of (s:={ s with heap:=h' }) e c d {} ⟨x,H,I1,ru,⟨rfl,fun ys hy=>by rw[I.tuple_inj hy hq];exact hx⟩,st',fun b hb=>(hf b hb).1⟩⟩
 done:=by
  intro X hP hw hK hc i pins s σ H E I hf st hg
  subst hP hw hK
  obtain⟨xs,hq,hx⟩:=hg
  obtain⟨its,rv,p,hz⟩:=I.tuple hq
  obtain⟨f0,f1,f2,f3,f4,f5⟩:=hf it (by simp)
  have hl:=rv.length
  exact wpAny_pyNext_tuple_end (I.ok.hd hc) st (show s.heap.IsTuple a its.toArray from p) (by simp;lia) fun h' eb=>⟨rfl,I.turned (t':=s.toks) (fun b o hb e=>eb b o hb e) f0 f1 f3 f4 f5⟩
 self:=fun _ _ _ _ _ st h=>wpAny_pyIter_tupleiter st h
theorem q624{P:Program}{w:World}{K:Fg}{tg:Expr}(it:Addr)(lo:Int)(n:Nat):Turn P w K tg (Itr lo n) [it] it (fun i h=>IsRangeIter h it (lo+(i:Nat)*1) ((n:Int)-(i:Nat)) 1) where
 mem:=by simp
 obj:=fun i h st b hb=>by
  have e:b=it:=by simpa using hb
  subst e
  exact⟨_,st,fun v z=>by
   have z':Data.fields _=Data.cell v:=z
   cases z'⟩
 keep:=fun i h h' st k=>k it (by simp) _ st
 item:=by
  intro X hP hw hK hc i pins s σ H E I hf st hg
  subst hP hw hK
  obtain⟨f0,f1,f2,f3,f4,f5⟩:=hf it (by simp)
  have W:=Walks.range (prog:=X.prog) (w:=X.w) (I.ok.hd hc) it lo 1 n
  refine W.item i s _ _ hg st fun v h' tk hv st' kk=>?_
  obtain⟨t,rfl⟩:=hv
  have I1:Inv X pins σ H { s with heap:=h',toks:=tk }:=I.turned (fun b o hb e=>kk b o (by simpa using hb) e) f0 f1 f3 f4 f5
  refine⟨_,rfl,go_of (s:={ s with heap:=h',toks:=tk }) (n := "range_iterator") st' rfl rfl {} ⟨.int (lo+i),H,I1,⟨t,?_⟩,⟨rfl,rfl⟩,st',fun b hb=>(hf b hb).1⟩⟩
  rw[Int.mul_one]
 done:=by
  intro X hP hw hK hc i pins s σ H E I hf st hg
  subst hP hw hK
  obtain⟨f0,f1,f2,f3,f4,f5⟩:=hf it (by simp)
  exact wpAny_pyNext_range_end (I.ok.hd hc) st (by have:n<=i:=hg;lia) fun h' eb=>⟨rfl,I.turned (t':=s.toks) (fun b o hb e=>eb b o hb e) f0 f1 f3 f4 f5⟩
 self:=fun _ _ _ _ _ st h=>wpAny_pyIter_rangeiter st h
section
variable {tg:Expr}
inductive jList(K:Fg)(x:V)(H:Hp)(R:It->Hp->Prop):Prop
 |mk(a:Addr)(_:x = .ref a)(_:∃ xs,SqL K H a xs)(_:R (Itl K a) H)
def iList(K:Fg)(tl:TE):TI:=fun σ H R=>tl σ H fun x H1=>jList K x H1 R
inductive jTup(K:Fg)(x:V)(H:Hp)(R:It->Hp->Prop):Prop
 |mk(a:Addr)(_:x = .ref a)(_:∃ xs,SqT K H a xs)(_:R (Itt K a) H)
def iTup(K:Fg)(tl:TE):TI:=fun σ H R=>tl σ H fun x H1=>jTup K x H1 R
theorem q35{l:Expr}{tl:TE}(hl:PE X l tl):PI X tg l (iList X.K tl):=by
 intro pins s σ H R I h
 refine thn (hl pins s σ H _ I h) fun v s1 ⟨x,H1,I1,r1,q1⟩=>?_
 obtain⟨a,e,⟨xs,hq⟩,q⟩:=q1
 subst e
 cases r1
 obtain⟨its,rv,p,hz⟩:=I1.list hq
 refine wpAny_pyIter_list p.isList ?_
 refine⟨s1.heap.objs.size,[s1.heap.objs.size],_,_,H1,rfl,I1.kept (t':=s1.toks) fun b o e=>ZE _ e,q683 a _,⟨_,ZY _ rfl,rfl,rfl⟩,fun b hb=>?_,q⟩
 have e:b=s1.heap.objs.size:=by simpa using hb
 subst e
 exact I1.fpOk (ZF _) (I1.hok.fresh (ZF _))
theorem q257{l:Expr}{tl:TE}(hl:PE X l tl):PI X tg l (iTup X.K tl):=by
 intro pins s σ H R I h
 refine thn (hl pins s σ H _ I h) fun v s1 ⟨x,H1,I1,r1,q1⟩=>?_
 obtain⟨a,e,⟨xs,hq⟩,q⟩:=q1
 subst e
 cases r1
 obtain⟨its,rv,p,hz⟩:=I1.tuple hq
 refine wpAny_pyIter_tuple (show s1.heap.IsTuple a its.toArray from p) ?_
 refine⟨s1.heap.objs.size,[s1.heap.objs.size],_,_,H1,rfl,I1.kept (t':=s1.toks) fun b o e=>ZE _ e,q623 a _,⟨_,ZY _ rfl,rfl,rfl⟩,fun b hb=>?_,q⟩
 have e:b=s1.heap.objs.size:=by simpa using hb
 subst e
 exact I1.fpOk (ZF _) (I1.hok.fresh (ZF _))
theorem q564{s:Shared}{lo hi:Int}{t u v:Tok}{tk:Nat}(I:Inv X pins σ H s)(h1:-(2^62)<=lo)(h2:lo<2^62)(h3:-(2^62)<=hi)(h4:hi<2^62)
  (q:R (Itr lo (hi-lo).toNat) H):wpAny (model X.prog X.w) X.A (pyIter (.ref s.heap.objs.size)) (PIE X pins σ tg R) E { s with heap:=s.heap.push { cls:=.type "range", data:=.fields #[.int lo t,.int hi u,.int 1 v] },toks:=tk }:=by
 refine wpAny_pyIter_range (IsRange.new ..) (small_one h1 h2 h3 h4) ?_
 have I1:Inv X pins σ H { s with heap:=s.heap.push { cls:=.type "range", data:=.fields #[.int lo t,.int hi u,.int 1 v] },toks:=tk }:=I.kept fun b o e=>ZE _ e
 refine⟨(s.heap.push { cls:=.type "range", data:=.fields #[.int lo t,.int hi u,.int 1 v] }).objs.size,[(s.heap.push { cls:=.type "range", data:=.fields #[.int lo t,.int hi u,.int 1 v] }).objs.size],_,_,H,rfl,
  I1.kept (t':=tk) fun b o e=>ZE _ e,q624 _ lo (hi-lo).toNat,?_,fun b hb=>?_,q⟩
 ·have e1:lo+((0:Nat):Int)*1=lo:=by simp
  have e2:(((hi-lo).toNat:Nat):Int)-((0:Nat):Int)=Builtin.Range.rangeSize lo hi 1:=by rw[rangeSize_one];split <;> lia
  show IsRangeIter _ _ (lo+((0:Nat):Int)*1) ((((hi-lo).toNat:Nat):Int)-((0:Nat):Int)) 1
  rw[e1,e2]
  exact ZY _ rfl
 ·have e:b=(s.heap.push { cls:=.type "range", data:=.fields #[.int lo t,.int hi u,.int 1 v] }).objs.size:=by simpa using hb
  subst e
  exact I1.fpOk (ZF _) (I1.hok.fresh (ZF _))
inductive jRng1(vs:List V)(H:Hp)(R:It->Hp->Prop):Prop
 |mk(j:Int)(_:vs=[.int j])(_:-(2^62)<=j)(_:j<2^62)(_:R (Itr 0 j.toNat) H)
def iRng1(ta:TA):TI:=fun σ H R=>ta σ H fun vs H1=>jRng1 vs H1 R
inductive jRng2(vs:List V)(H:Hp)(R:It->Hp->Prop):Prop
 |mk(i j:Int)(_:vs=[.int i,.int j])(_:-(2^62)<=i/\i<2^62 /\ -(2^62)<=j/\j<2^62)(_:R (Itr i (j-i).toNat) H)
def iRng2(ta:TA):TI:=fun σ H R=>ta σ H fun vs H1=>jRng2 vs H1 R
theorem q47{p pos:Pos}(hg:Gl X "range") (hm:X.mg "range" = none) (ha:PA X [a] ta) (hs:starEach [a] X.env=[(false,eval a X.env)]:=by rfl):PI X tg (.Call (.Name "range" p) [a] [] pos) (iRng1 ta):=by
 intro pins s σ H R I h
 refine Call_ (q255 I hg hm boot_range (PyProof.Rows.callWith_type1 (thn (ha pos pins s σ H _ I h) fun us s1 ⟨vs,H1,I1,r1,q1⟩=>?_) hs rfl))
 obtain⟨j,e,q1,q2,q⟩:=q1
 subst e
 cases r1 with
 | cons r rr=>
  cases rr
  obtain⟨t,rfl⟩:=r
  exact call_range_1 (q564 I1 ∅ ∅ q1 q2 (by simpa using q))
theorem q432{p pos:Pos}(hg:Gl X "range") (hm:X.mg "range" = none) (ha:PA X [a,b] ta) (hs:starEach [a,b] X.env=[(false,eval a X.env),(false,eval b X.env)]:=by rfl) (hs2:starEach [b] X.env=[(false,eval b X.env)]:=by rfl) :
  PI X tg (.Call (.Name "range" p) [a,b] [] pos) (iRng2 ta):=by
 intro pins s σ H R I h
 refine Call_ (q255 I hg hm boot_range (PyProof.Rows.callWith_type1 (thn (ha pos pins s σ H _ I h) fun us s1 ⟨vs,H1,I1,r1,q1⟩=>?_) (by rw[hs,hs2]) (by rw[hs2];rfl)))
 obtain⟨i,j,e,⟨q1,q2,q3,q4⟩,q⟩:=q1
 subst e
 cases r1 with
 | cons r rr=>
  cases rr with
  | cons r' rr=>
   cases rr
   obtain⟨t,rfl⟩:=r
   obtain⟨t',rfl⟩:=r'
   exact call_range_2 (q564 I1 q1 q2 q3 q4 q)
def tFor(wi:TI)(g:TG)(tb:TS):TS:=fun D σ H=>wi σ H fun J H1=>∃ W:Nat->Nat->St->Hp->Prop,(∃ m,W 0 m σ H1) /\ ∀ i m σ H,W i m σ H ->
 (J.stop i H/\D.nx σ H)\/(J.go i H /\ ∃ N:St->Hp->Prop,(∀ σ' H',N σ' H' -> ∃ m',m'<m/\W (i+1) m' σ' H') /\ ∀ x H',J.yld i H x H'->g x σ H' fun σ2 H2=>tb { D with nx:=N,ct:=N,bk:=D.nx } σ2 H2)
noncomputable def q565(fp:List Addr)(h:Heap):List (Addr×Obj):=fp.filterMap fun b=>(h.get? b).map fun o=>(b,o)
theorem q54{h:Heap}(hb:b∈fp)(e:h.get? b=some o):(b,o)∈q565 fp h:=List.mem_filterMap.mpr ⟨b,hb,by rw[e];rfl⟩
theorem q684{h:Heap}{p:Addr×Obj}(hp:p∈q565 fp h):p.1∈fp/\h.get? p.1=some p.2:=by
 obtain⟨b,hb,e⟩:=List.mem_filterMap.mp hp
 cases q:h.get? b with
 | none=>rw[q]at e;cases e
 | some o=>
  rw[q]at e
  have e':(b,o)=p:=Option.some.inj e
  subst e'
  exact⟨hb,q⟩
theorem Inv.pinned{s:Shared}(I:Inv X pins σ H s)(hf:∀ b∈fp,FpOk X pins H b)(ho:∀ b∈fp,∃ o,s.heap.get? b=some o /\ ∀ v,o.data ≠ .cell v):Inv X (pins++q565 fp s.heap) σ H s:=
 I.pins_of fun p hp=>(List.mem_append.mp hp).elim (fun z=>I.pin p (WI _ z)) fun z=>by
  obtain⟨hb,e⟩:=q684 z
  obtain⟨f0,f1,f2,_⟩:=hf p.1 hb
  obtain⟨o,e',d⟩:=ho p.1 hb
  rw[e]at e';cases e'
  exact⟨e,f0,f1,f2,d⟩
theorem Inv.unpinned(I:Inv X (pins++pl) σ H s):Inv X pins σ H s:=I.pins_of fun p hp=>I.pin p (WI _ (mem_append_left _ hp))
theorem q69{pos:Pos}(hp:PassesOwn (model X.prog X.w) X.A X.env X.xe)(hc:X.calm=true)(hi:PI X tg itr wi)(hg:PG X tg g)(hb:PSs X body tb)
  (hs:∀ x,foldedSetIterable itr X.env x=pure x:=by intro _;rfl):PS X (.For tg itr body [] pos) (tFor wi g tb):=by
 intro pins s σ H D I h
 refine wpAny_For (thn (hi pins s σ H _ I h) fun v s1 h1=>thn h1 fun itv s2 h2=>?_) hs
 obtain⟨it,fp,tn,J,H2,e,I2,T,st2,f2,W,⟨m0,w0⟩,turn⟩:=h2
 subst e
 have stat:∀{H':Hp},(∀ b∈fp,H' b=none) -> ∀ b∈fp,FpOk X pins H' b:=fun hn b hb=>⟨hn b hb,(f2 b hb).2⟩
 refine codeAny_forLoop_any (fun n s'=>∃ i σ' H',Inv X pins σ' H' s'/\tn i s'.heap/\(∀ b∈fp,H' b=none)/\W i n σ' H') ?_ m0 ⟨0,σ,H2,I2,st2,fun b hb=>(f2 b hb).1,w0⟩
 rintro n s3 ⟨i,σ3,H3,I3,st3,fr3,w3⟩
 rcases turn i n σ3 H3 w3 with ⟨stop,qn⟩ | ⟨go,N,hN,step⟩
 ·refine wpAny_passesOwn hp (thn (T.done X rfl rfl rfl hc i pins s3 σ3 H3 X.xe I3 (stat fr3) st3 stop) fun r s4 ⟨hr,I4⟩=>?_)
  subst hr
  exact wpAny_execs_nil ⟨σ3,H3,I4,qn⟩
 ·refine wpAny_passesOwn hp (thn (T.item X rfl rfl rfl hc i pins s3 σ3 H3 X.xe I3 (stat fr3) st3 go) fun r s4 ⟨u,hr,h4⟩=>?_)
  subst hr
  refine wpAny_passesOwn hp (thn h4 fun _ s5 ⟨x,H5,I5,r5,y5,st5,fr5⟩=>?_)
  have I5':=I5.pinned (stat fr5) (T.obj _ _ st5)
  refine wpAny_passesOwn hp (thn (hg _ s5 σ3 H5 x u _ I5' r5 (step x H5 y5)) fun _ s6 ⟨σ6,H6,I6,q6⟩=>?_)
  refine wpAny_passesOwn hp (thn (hb _ s6 σ6 H6 _ I6 q6) fun f s7 q7=>?_)
  have again:∀{σ7:St}{H7:Hp},Inv X (pins++q565 fp s5.heap) σ7 H7 s7->N σ7 H7 -> ∃ m,m<n /\ ∃ i σ' H',Inv X pins σ' H' s7/\tn i s7.heap/\(∀ b∈fp,H' b=none)/\W i m σ' H':=fun {σ7 H7} I7 n7=>by
   obtain⟨m',hm,w7⟩:=hN σ7 H7 n7
   refine⟨m',hm,i+1,σ7,H7,I7.unpinned,T.keep _ _ _ st5 fun b hb o e=>(I7.pin (b,o) (WI _ (WI _ (q54 hb e)))).1,fun b hb=>?_,w7⟩
   obtain⟨o,e,d⟩:=T.obj _ _ st5 b hb
   exact(I7.pin (b,o) (WI _ (WI _ (q54 hb e)))).2.1
  cases f with
  | next=>obtain⟨σ7,H7,I7,n7⟩:=q7;exact again I7 n7
  | cont=>obtain⟨σ7,H7,I7,n7⟩:=q7;exact again I7 n7
  | brk=>obtain⟨σ7,H7,I7,q7⟩:=q7;exact⟨σ7,H7,I7.unpinned,q7⟩
  | ret v=>obtain⟨x7,σ7,H7,I7,r7,q7⟩:=q7;exact⟨x7,σ7,H7,I7.unpinned,r7,q7⟩
end
theorem q174{K:Fg}{a:Addr}{xs:List V}{g:TG}{tb:TS}{D:Ends}{σ:St}{H:Hp}(Pv:Nat->St->Hp->Prop)(h0:Pv 0 σ H)(hl:∀ i σ H,i<=xs.length->Pv i σ H->SqL K H a xs)
  (hs:∀ i x σ H,xs[i]? = some x->Pv i σ H->g x σ H fun σ2 H2=>tb { D with nx:=Pv (i+1),ct:=Pv (i+1),bk:=D.nx } σ2 H2) (hd:∀ σ H,Pv xs.length σ H->D.nx σ H) :
  ∃ W:Nat->Nat->St->Hp->Prop,(∃ m,W 0 m σ H) /\ ∀ i m σ H,W i m σ H ->
   ((Itl K a).stop i H/\D.nx σ H)\/((Itl K a).go i H /\ ∃ N:St->Hp->Prop,(∀ σ' H',N σ' H' -> ∃ m',m'<m/\W (i+1) m' σ' H') /\ ∀ x H',(Itl K a).yld i H x H'->g x σ H' fun σ2 H2=>tb { D with nx:=N,ct:=N,bk:=D.nx } σ2 H2):=by
 exists fun i m σ H=>m=xs.length-i/\i<=xs.length/\Pv i σ H,⟨xs.length,by simp,ZX _,h0⟩
 rintro i m σ H ⟨rfl,hi,p⟩
 have q:=hl i σ H hi p
 by_cases hlt:i<xs.length
 ·refine .inr ⟨⟨xs,xs[i],q,by simp[hlt]⟩,Pv (i+1),fun σ' H' p'=>⟨xs.length-(i+1),(W2 hlt),rfl,hlt,p'⟩,fun x H' y=>?_⟩
  obtain⟨e,y⟩:=y
  subst e
  exact hs i x σ _ (y xs q) p
 ·have e:i=xs.length:=(W29 hi hlt)
  subst e
  exact .inl ⟨⟨xs,q,ZF _⟩,hd σ H p⟩
theorem q373{K:Fg}{a:Addr}{xs:List V}{g:TG}{tb:TS}{D:Ends}{σ:St}{H:Hp}(Pv:Nat->St->Hp->Prop)(h0:Pv 0 σ H)(hl:∀ i σ H,i<=xs.length->Pv i σ H->SqT K H a xs)
  (hs:∀ i x σ H,xs[i]? = some x->Pv i σ H->g x σ H fun σ2 H2=>tb { D with nx:=Pv (i+1),ct:=Pv (i+1),bk:=D.nx } σ2 H2) (hd:∀ σ H,Pv xs.length σ H->D.nx σ H) :
  ∃ W:Nat->Nat->St->Hp->Prop,(∃ m,W 0 m σ H) /\ ∀ i m σ H,W i m σ H ->
   ((Itt K a).stop i H/\D.nx σ H)\/((Itt K a).go i H /\ ∃ N:St->Hp->Prop,(∀ σ' H',N σ' H' -> ∃ m',m'<m/\W (i+1) m' σ' H') /\ ∀ x H',(Itt K a).yld i H x H'->g x σ H' fun σ2 H2=>tb { D with nx:=N,ct:=N,bk:=D.nx } σ2 H2):=by
 exists fun i m σ H=>m=xs.length-i/\i<=xs.length/\Pv i σ H,⟨xs.length,by simp,ZX _,h0⟩
 rintro i m σ H ⟨rfl,hi,p⟩
 have q:=hl i σ H hi p
 by_cases hlt:i<xs.length
 ·refine .inr ⟨⟨xs,xs[i],q,by simp[hlt]⟩,Pv (i+1),fun σ' H' p'=>⟨xs.length-(i+1),∅,rfl,hlt,p'⟩,fun x H' y=>?_⟩
  obtain⟨e,y⟩:=y
  subst e
  exact hs i x σ _ (y xs q) p
 ·have e:i=xs.length:=∅
  subst e
  exact .inl ⟨⟨xs,q,ZF _⟩,hd σ H p⟩
theorem q70{lo:Int}{n:Nat}{g:TG}{tb:TS}{D:Ends}{σ:St}{H:Hp}(Pv:Nat->St->Hp->Prop)(h0:Pv 0 σ H)
  (hs:∀ i σ H,i<n->Pv i σ H->g (.int (lo+i)) σ H fun σ2 H2=>tb { D with nx:=Pv (i+1),ct:=Pv (i+1),bk:=D.nx } σ2 H2) (hd:∀ σ H,Pv n σ H->D.nx σ H) :
  ∃ W:Nat->Nat->St->Hp->Prop,(∃ m,W 0 m σ H) /\ ∀ i m σ H,W i m σ H ->
   ((Itr lo n).stop i H/\D.nx σ H)\/((Itr lo n).go i H /\ ∃ N:St->Hp->Prop,(∀ σ' H',N σ' H' -> ∃ m',m'<m/\W (i+1) m' σ' H') /\ ∀ x H',(Itr lo n).yld i H x H'->g x σ H' fun σ2 H2=>tb { D with nx:=N,ct:=N,bk:=D.nx } σ2 H2):=by
 exists fun i m σ H=>m=n-i/\i<=n/\Pv i σ H,⟨n,by simp,ZX _,h0⟩
 rintro i m σ H ⟨rfl,hi,p⟩
 by_cases hlt:i<n
 ·refine .inr ⟨hlt,Pv (i+1),fun σ' H' p'=>⟨n-(i+1),(W2 hlt),rfl,hlt,p'⟩,fun x H' y=>?_⟩
  obtain⟨e,y⟩:=y
  subst e y
  exact hs i σ _ hlt p
 ·have e:i=n:=(W29 hi hlt)
  subst e
  exact .inl ⟨ZF _,hd σ H p⟩
theorem q566(Pv:St->Hp->Prop)(μ:St->Hp->Nat)(h0:Pv σ H)
  (hs:∀ σ H,Pv σ H->c σ H fun b H1=>if b=true then tb { D with nx:=fun σ' H'=>Pv σ' H'/\μ σ' H'<μ σ H,ct:=fun σ' H'=>Pv σ' H'/\μ σ' H'<μ σ H,bk:=D.nx } σ H1 else D.nx σ H1)
  (mono:∀ σ H Q Q',(∀ b H1,Q b H1->Q' b H1)->c σ H Q->c σ H Q'):tWhile c tb D σ H:=by
 exists fun m σ H=>m=μ σ H/\Pv σ H,⟨_,rfl,h0⟩
 rintro m σ H ⟨rfl,p⟩
 refine mono σ H _ _ (fun b H1 q=>?_) (hs σ H p)
 cases b with
 | true=>exact⟨_,fun σ' H' ⟨p',l⟩=>⟨_,l,rfl,p'⟩,q⟩
 | false=>exact q
abbrev R2:=V->V->Hp->VK->Prop
def OpR(X:Cx)(f:Value->Value->Sem Value)(r:R2):Prop:=
 ∀(pins:List (Addr×Obj)) (s:Shared) (σ:St) (H:Hp) (x y:V) (v u:Value) (Q:VK),Inv X pins σ H s->RelV x v->RelV y u->r x y H Q ->
  wpAny (model X.prog X.w) X.A (f v u) (EP X pins σ Q) X.xe s
def UnR(X:Cx)(f:Value->Sem Value)(r:V->Hp->VK->Prop):Prop:=
 ∀(pins:List (Addr×Obj)) (s:Shared) (σ:St) (H:Hp) (x:V) (v:Value) (Q:VK),Inv X pins σ H s->RelV x v->r x H Q ->
  wpAny (model X.prog X.w) X.A (f v) (EP X pins σ Q) X.xe s
def CallR(X:Cx)(f:Value)(r:List V->Hp->VK->Prop):Prop:=
 ∀(pins:List (Addr×Obj)) (s:Shared) (σ:St) (H:Hp) (xs:List V) (us:List Value) (Q:VK),Inv X pins σ H s->Vals xs us->r xs H Q ->
  wpAny (model X.prog X.w) X.A (call f us) (EP X pins σ Q) X.xe s
def tOp(r:R2)(ta tb:TE):TE:=fun σ H Q=>ta σ H fun x H1=>tb σ H1 fun y H2=>r x y H2 Q
def tUn(r:V->Hp->VK->Prop)(ta:TE):TE:=fun σ H Q=>ta σ H fun x H1=>r x H1 Q
inductive rI(C:Int->Int->Prop)(g:Int->Int->V)(x y:V)(H:Hp)(Q:VK):Prop
 |mk(i j:Int)(_:x = .int i)(_:y = .int j)(_:C i j)(_:Q (g i j) H)
inductive rI0(g:Int->Int->V)(x y:V)(H:Hp)(Q:VK):Prop
 |mk(i j:Int)(_:x = .int i)(_:y = .int j)(_:Q (g i j) H)
inductive rU(g:Int->V)(x:V)(H:Hp)(Q:VK):Prop
 |mk(i)(_:x = .int i)(_:Q (g i) H)
section
variable{a b c:Expr}{ta tb tc:TE}{pos:Pos}
theorem binT(ha:PE X a ta)(hb:PE X b tb){pins:List (Addr×Obj)}{s:Shared}{σ:St}{H:Hp}{R:V->V->Hp->Prop}(I:Inv X pins σ H s)
  (h:ta σ H fun x H1=>tb σ H1 fun y H2=>R x y H2) {Q:VS} {f:Value->Value->Sem Value}
  (hf:∀ v u s2 x y H2,Inv X pins σ H2 s2->RelV x v->RelV y u->R x y H2->wpAny (model X.prog X.w) X.A (f v u) Q X.xe s2) :
  wpAny (model X.prog X.w) X.A (eval a X.env) (fun v s₁=>wpAny (model X.prog X.w) X.A (eval b X.env) (fun u s₂=>wpAny (model X.prog X.w) X.A (f v u) Q X.xe s₂) X.xe s₁) X.xe s:=by
 refine thn (ha pins s σ H _ I h) fun v s1 ⟨x,H1,I1,r1,q1⟩=>?_
 refine thn (hb pins s1 σ H1 _ I1 q1) fun u s2 ⟨y,H2,I2,r2,q2⟩=>?_
 exact hf v u s2 x y H2 I2 r1 r2 q2
theorem pe_op{op:Operator}{r:R2}(ho:OpR X (binaryOp op) r)(ha:PE X a ta)(hb:PE X b tb):PE X (.BinOp a op b pos) (tOp r ta tb):=by
 intro pins s σ H Q I h
 exact wpAny_BinOp (binT ha hb I h fun v u s2 x y H2 I2 rx ry q=>ho pins s2 σ H2 x y v u Q I2 rx ry q)
theorem pe_un(ho:UnR X (unaryOp op) r)(ha:PE X a ta):PE X (.UnaryOp op a pos) (tUn r ta):=by
 intro pins s σ H Q I h
 exact UnaryOp_ (thn (ha pins s σ H _ I h) fun v s1 ⟨x,H1,I1,r1,q1⟩=>ho pins s1 σ H1 x v Q I1 r1 q1)
theorem opI{f:Value->Value->Sem Value}{C:Int->Int->Prop}{g:Int->Int->Int}
  (rule:∀(i j:Int)(t u:Tok)(s:Shared)(Q:VS)(E:VS),C i j->Q (.int (g i j) s.toks) { s with toks:=s.toks+1 }->wpAny (model X.prog X.w) X.A (f (.int i t) (.int j u)) Q E s) :
  OpR X f (rI C fun i j=>.int (g i j)):=by
 intro pins s σ H x y v u Q I rx ry h
 obtain⟨i,j,rfl,rfl,hc,q⟩:=h
 obtain⟨t,rfl⟩:=rx
 obtain⟨t',rfl⟩:=ry
 exact rule i j t t' s _ _ hc ⟨.int (g i j),H,I.tok _,⟨_,rfl⟩,q⟩
theorem opI0{f:Value->Value->Sem Value}{g:Int->Int->Int}
  (rule:∀(i j:Int)(t u:Tok)(s:Shared)(Q:VS)(E:VS),Q (.int (g i j) s.toks) { s with toks:=s.toks+1 }->wpAny (model X.prog X.w) X.A (f (.int i t) (.int j u)) Q E s) :
  OpR X f (rI0 fun i j=>.int (g i j)):=by
 intro pins s σ H x y v u Q I rx ry h
 obtain⟨i,j,rfl,rfl,q⟩:=h
 obtain⟨t,rfl⟩:=rx
 obtain⟨t',rfl⟩:=ry
 exact rule i j t t' s _ _ ⟨.int (g i j),H,I.tok _,⟨_,rfl⟩,q⟩
theorem opB0{f:Value->Value->Sem Value}{g:Int->Int->Bool}
  (rule:∀(i j:Int)(t u:Tok)(s:Shared)(Q:VS)(E:VS),Q (.bool (g i j)) s->wpAny (model X.prog X.w) X.A (f (.int i t) (.int j u)) Q E s) :
  OpR X f (rI0 fun i j=>.bl (g i j)):=by
 intro pins s σ H x y v u Q I rx ry h
 obtain⟨i,j,rfl,rfl,q⟩:=h
 obtain⟨t,rfl⟩:=rx
 obtain⟨t',rfl⟩:=ry
 exact rule i j t t' s _ _ ⟨.bl (g i j),H,I,rfl,q⟩
def CPow(i j:Int):Prop:=0<=j/\j<=1000000/\i.natAbs<2^64
def CMul(i j:Int):Prop:=(-(2^64)<i/\i<2^64)\/(-(2^64)<j/\j<2^64)
theorem CMul.ok{i j:Int}(h:CMul i j):IntMulOk i j:=by
 rcases h with ⟨h1,h2⟩ | ⟨h1,h2⟩
 ·exact .of_left (intBits_le_64 h1 h2)
 ·exact .of_right (intBits_le_64 h1 h2)
theorem q48:OpR X (binaryOp .Add) (rI0 fun i j=>.int (i+j)):=opI0 fun _ _ _ _ _ _ _ q=>add_int q
theorem q76:OpR X (binaryOp .Sub) (rI0 fun i j=>.int (i-j)):=opI0 fun _ _ _ _ _ _ _ q=>sub_int q
theorem q128:OpR X (binaryOp .Mult) (rI CMul fun i j=>.int (i*j)):=opI fun _ _ _ _ _ _ _ hc q=>mul_int q hc.ok
theorem q218:OpR X (binaryOp .Mod) (rI (fun _ j=>0<j) fun i j=>.int (i%j)):=opI fun i j _ _ _ _ _ hc q=>by
 have h1:(0:Int)<j:=hc
 exact mod_int' ∅ (by rw[Int.fmod_eq_emod_of_nonneg i ∅];exact q)
theorem q219:OpR X (binaryOp .Pow) (rI CPow fun i j=>.int (i^j.toNat)):=opI fun _ _ _ _ _ _ _ hc q=>pow_int_small hc.1 hc.2.1 hc.2.2 q
theorem q685:OpR X (binaryOp .LShift) (rI CPow fun i j=>.int (i*2^j.toNat)):=opI fun _ _ _ _ _ _ _ hc q=>lshift_int_small hc.1 hc.2.1 hc.2.2 q
theorem unI{f:Value->Sem Value}{g:Int->Int}
  (rule:∀(i:Int)(t:Tok)(s:Shared)(Q:VS)(E:VS),Q (.int (g i) s.toks) { s with toks:=s.toks+1 }->wpAny (model X.prog X.w) X.A (f (.int i t)) Q E s) :
  UnR X f (rU fun i=>.int (g i)):=by
 intro pins s σ H x v Q I rx h
 obtain⟨i,rfl,q⟩:=h
 obtain⟨t,rfl⟩:=rx
 exact rule i t s _ _ ⟨.int (g i),H,I.tok _,⟨_,rfl⟩,q⟩
theorem un_neg:UnR X (unaryOp .USub) (rU fun i=>.int (-i)):=unI fun _ _ _ _ _ q=>neg_int q
end
noncomputable def scal:V->V->Bool
 | .non,.non=>true | .non,.int _=>true | .int _,.non=>true | .non,.bl _=>true | .bl _,.non=>true | .non,.str _=>true | .str _,.non=>true
 | .int _,.int _=>true | .bl _,.bl _=>true | .str _,.str _=>true | .byt _,.byt _=>true
 | .int _,.str _=>true | .str _,.int _=>true | .bl _,.str _=>true | .str _,.bl _=>true
 | _,_=>false
noncomputable def rEq:R2:=fun x y H Q=>scal x y=true/\Q (.bl (decide (x=y))) H
noncomputable def rNe:R2:=fun x y H Q=>scal x y=true/\Q (.bl (!decide (x=y))) H
theorem q686{i j:Int}:decide (V.int i=V.int j)=(i==j):=by
 rw[Bool.eq_iff_iff]
 simp
theorem dec_bl{i j:Bool}:decide (V.bl i=V.bl j)=(i==j):=by
 rw[Bool.eq_iff_iff]
 simp
theorem q687:decide (V.str i=V.str j)=(i==j):=by
 rw[Bool.eq_iff_iff]
 simp
theorem q688{i j:Array UInt8}:decide (V.byt i=V.byt j)=(i.toList==j.toList):=by
 rw[Bool.eq_iff_iff]
 cases i
 cases j
 simp
section
variable{a b c:Expr}{ta tb tc:TE}{pos:Pos}
theorem q39{k k':Bool}(I:Inv X pins σ H s)(q:Q (.bl k) H)(e:k=k'):EP X pins σ Q (.bool k') s:=by
 subst e
 exact⟨.bl k,H,I,rfl,q⟩
theorem op_eq:OpR X (compareOp .Eq) rEq:=by
 intro pins s σ H x y v u Q I rx ry h
 obtain⟨hs,q⟩:=h
 cases x with
 | non=>
  cases rx
  cases y with
  | non=>cases ry;exact PySem.EqNone.eq_none_none (q39 I q (by simp))
  | bl j=>cases ry;exact PySem.EqNone.eq_none_bool (q39 I q (by simp))
  | int j=>obtain⟨t',rfl⟩:=ry;exact PySem.EqNone.eq_none_int (q39 I q (by simp))
  | str j=>obtain⟨t',rfl⟩:=ry;exact PySem.EqNone.eq_none_str (q39 I q (by simp))
  | _=>exact absurd (show false=true from hs) fnt
 | bl i=>
  cases rx
  cases y with
  | non=>cases ry;exact PySem.EqNone.eq_bool_none (q39 I q (by simp))
  | bl j=>cases ry;exact eq_bool (q39 I q dec_bl)
  | str j=>obtain⟨t',rfl⟩:=ry;exact PySem.EqMixed.eq_bool_str (q39 I q (by simp))
  | _=>exact absurd (show false=true from hs) fnt
 | int i=>
  obtain⟨t,rfl⟩:=rx
  cases y with
  | non=>cases ry;exact PySem.EqNone.eq_int_none (q39 I q (by simp))
  | int j=>obtain⟨t',rfl⟩:=ry;exact eq_int (q39 I q q686)
  | str j=>obtain⟨t',rfl⟩:=ry;exact PySem.EqMixed.eq_int_str (q39 I q (by simp))
  | _=>exact absurd (show false=true from hs) fnt
 | str i=>
  obtain⟨t,rfl⟩:=rx
  cases y with
  | non=>cases ry;exact PySem.EqNone.eq_str_none (q39 I q (by simp))
  | bl j=>cases ry;exact PySem.EqMixed.eq_str_bool (q39 I q (by simp))
  | int j=>obtain⟨t',rfl⟩:=ry;exact PySem.EqMixed.eq_str_int (q39 I q (by simp))
  | str j=>obtain⟨t',rfl⟩:=ry;exact eq_str (q39 I q q687)
  | _=>exact absurd (show false=true from hs) fnt
 | byt i=>
  obtain⟨t,rfl⟩:=rx
  cases y with
  | byt j=>obtain⟨t',rfl⟩:=ry;exact PySem.W.eq_bytes (q39 I q q688)
  | _=>exact absurd (show false=true from hs) fnt
 | _=>cases y <;> exact absurd (show false=true from hs) fnt
theorem op_ne:OpR X (compareOp .NotEq) rNe:=by
 intro pins s σ H x y v u Q I rx ry h
 obtain⟨hs,q⟩:=h
 cases x with
 | non=>
  cases rx
  cases y with
  | non=>cases ry;exact PySem.EqNone.ne_none_none (q39 I q (by simp))
  | bl j=>cases ry;exact PySem.EqNone.ne_none_bool (q39 I q (by simp))
  | int j=>obtain⟨t',rfl⟩:=ry;exact PySem.EqNone.ne_none_int (q39 I q (by simp))
  | str j=>obtain⟨t',rfl⟩:=ry;exact PySem.EqNone.ne_none_str (q39 I q (by simp))
  | _=>exact absurd (show false=true from hs) fnt
 | bl i=>
  cases rx
  cases y with
  | non=>cases ry;exact PySem.EqNone.ne_bool_none (q39 I q (by simp))
  | bl j=>cases ry;exact ne_bool (q39 I q (congrArg not dec_bl))
  | str j=>obtain⟨t',rfl⟩:=ry;exact PySem.EqMixed.ne_bool_str (q39 I q (by simp))
  | _=>exact absurd (show false=true from hs) fnt
 | int i=>
  obtain⟨t,rfl⟩:=rx
  cases y with
  | non=>cases ry;exact PySem.EqNone.ne_int_none (q39 I q (by simp))
  | int j=>obtain⟨t',rfl⟩:=ry;exact ne_int (q39 I q (congrArg not q686))
  | str j=>obtain⟨t',rfl⟩:=ry;exact PySem.EqMixed.ne_int_str (q39 I q (by simp))
  | _=>exact absurd (show false=true from hs) fnt
 | str i=>
  obtain⟨t,rfl⟩:=rx
  cases y with
  | non=>cases ry;exact PySem.EqNone.ne_str_none (q39 I q (by simp))
  | bl j=>cases ry;exact PySem.EqMixed.ne_str_bool (q39 I q (by simp))
  | int j=>obtain⟨t',rfl⟩:=ry;exact PySem.EqMixed.ne_str_int (q39 I q (by simp))
  | str j=>obtain⟨t',rfl⟩:=ry;exact ne_str (q39 I q (congrArg not q687))
  | _=>exact absurd (show false=true from hs) fnt
 | byt i=>
  obtain⟨t,rfl⟩:=rx
  cases y with
  | byt j=>obtain⟨t',rfl⟩:=ry;exact PySem.W.ne_bytes (q39 I q (congrArg not q688))
  | _=>exact absurd (show false=true from hs) fnt
 | _=>cases y <;> exact absurd (show false=true from hs) fnt
theorem op_lt:OpR X (compareOp .Lt) (rI0 fun i j=>.bl (decide (i<j))):=opB0 fun _ _ _ _ _ _ _ q=>lt_int q
theorem op_le:OpR X (compareOp .LtE) (rI0 fun i j=>.bl (decide (i<=j))):=opB0 fun _ _ _ _ _ _ _ q=>le_int q
theorem op_gt:OpR X (compareOp .Gt) (rI0 fun i j=>.bl (decide (j<i))):=opB0 fun _ _ _ _ _ _ _ q=>gt_int q
theorem op_ge:OpR X (compareOp .GtE) (rI0 fun i j=>.bl (decide (j<=i))):=opB0 fun _ _ _ _ _ _ _ q=>ge_int q
inductive q625  (x:V) (y:V) (H:Hp) (Q:VK):Prop
 |mk(i j)(_:x = .str i)(_:y = .str j)(_:Q (.bl (!(Builtin.Str.occurrences j i 0 j.length 1).isEmpty)) H)
theorem q689:OpR X (compareOp .In) q625:=by
 intro pins s σ H x y v u Q I rx ry h
 obtain⟨i,j,rfl,rfl,q⟩:=h
 obtain⟨t,rfl⟩:=rx
 obtain⟨t',rfl⟩:=ry
 exact in_str (q39 I q rfl)
theorem q433:OpR X (compareOp .Is) (fun x y H Q=>y = .non/\Q (.bl (decide (x = .non))) H):=by
 intro pins s σ H x y v u Q I rx ry h
 obtain⟨rfl,q⟩:=h
 cases ry
 refine is_none_gen (q39 I q ?_)
 cases x <;> first
  | (cases rx;rfl)
  | (obtain⟨t,rfl⟩:=rx;rfl)
theorem q21(b:Expr)(h:op ≠ .In:=by decide)(h2:op ≠ .NotIn:=by decide):behindInMarks op b=false:=by
 have e1:(op==CmpOp.In)=false:=by cases op <;> first | rfl | exact absurd rfl h
 have e2:(op==CmpOp.NotIn)=false:=by cases op <;> first | rfl | exact absurd rfl h2
 cases b <;> simp[behindInMarks,e1,e2]
theorem q518{op:CmpOp}{r:R2}(ho:OpR X (compareOp op) r)(ha:PE X a ta)(hb:PE X b tb)(hm:behindInMarks op b=false):PE X (.Compare a [op] [b] pos) (tOp r ta tb):=by
 intro pins s σ H Q I h
 exact wpAny_Compare1 (binT ha hb I h fun v u s2 x y H2 I2 rx ry q=>ho pins s2 σ H2 x y v u Q I2 rx ry q) hm
def tTest(t:TE):TT:=fun σ H Q=>t σ H fun x H'=>isB x H' Q
theorem q19(ho:OpR X (compareOp op) r)(ha:PE X a ta)(hb:PE X b tb)(hm:behindInMarks op b=false):PT X (.Compare a [op] [b] pos) (tTest (tOp r ta tb)):=by
 intro pins s σ H Q I h
 refine wpAny_isTrue_Compare1 (thn (ha pins s σ H _ I h) fun v s1 ⟨x,H1,I1,r1,q1⟩=>thn (hb pins s1 σ H1 _ I1 q1) fun u s2 ⟨y,H2,I2,r2,q2⟩=>
  thn (ho pins s2 σ H2 x y v u _ I2 r1 r2 q2) fun c s3 ⟨z,H3,I3,r3,k,e,q3⟩=>?_) hm
 subst e
 cases r3
 exact YR ⟨H3,I3,q3⟩
def tChain(r r':R2)(ta tb tc:TE):TE:=fun σ H Q=>ta σ H fun x H1=>tb σ H1 fun y H2=>r x y H2 fun z H3=>∃ k,z = .bl k /\
 (if k=true then tc σ H3 fun w' H4=>r' y w' H4 Q else Q (.bl false) H3)
theorem q567(ho:OpR X (compareOp op) r)(ho':OpR X (compareOp op') r')(ha:PE X a ta)(hb:PE X b tb)(hc:PE X c tc)
  (hm:lastMarks [op,op'] [b,c]=false:=by with_unfolding_all rfl):PT X (.Compare a [op,op'] [b,c] pos) (tTest (tChain r r' ta tb tc)):=by
 intro pins s σ H Q I h
 refine isTrue_chain (thn (ha pins s σ H _ I h) fun v s1 ⟨x,H1,I1,r1,q1⟩=>test_link (thn (hb pins s1 σ H1 _ I1 q1) fun u s2 ⟨y,H2,I2,r2,q2⟩=>
  thn (ho pins s2 σ H2 x y v u _ I2 r1 r2 q2) fun d s3 ⟨z,H3,I3,r3,k,e,q3⟩=>?_)) hm
 subst e
 cases r3
 refine YR ?_
 cases k with
 | false=>
  obtain⟨k',e',q'⟩:=q3
  cases e'
  exact ite_ff ⟨H3,I3,q'⟩
 | true=>
  refine ite_tt (test_last (thn (hc pins s3 σ H3 _ I3 q3) fun w' s4 ⟨z',H4,I4,r4,q4⟩=>thn (ho' pins s4 σ H4 y z' u w' _ I4 r2 r4 q4) fun d' s5 ⟨z2,H5,I5,r5,k2,e2,q5⟩=>?_))
  subst e2
  cases r5
  exact YR ⟨H5,I5,q5⟩
theorem q334:(sizeLine:Nat)<2^63:=by rw[sizeLine_eq];decide
inductive q519  (x:V) (y:V) (H:Hp) (Q:VK):Prop
 |mk(i j)(_:x = .str i)(_:y = .str j)(_:i.length+j.length<=sizeLine)(_:Q (.str (i++j)) H)
theorem q26:OpR X (binaryOp .Add) q519:=by
 intro pins s σ H x y v u Q I rx ry h
 obtain⟨i,j,rfl,rfl,hz,q⟩:=h
 obtain⟨t,rfl⟩:=rx
 obtain⟨t',rfl⟩:=ry
 exact add_str (fun t' tk=>⟨.str (i++j),H,I.tok _,⟨_,rfl⟩,q⟩) hz
theorem vals1(r:Vals [x] us):∃ u,us=[u]/\RelV x u:=by
 cases r with
 | cons r1 r2=>cases r2;exact⟨_,rfl,r1⟩
theorem vals2(r:Vals [x,y] us):∃ u w',us=[u,w']/\RelV x u/\RelV y w':=by
 cases r with
 | cons r1 r2=>
  cases r2 with
  | cons r3 r4=>cases r4;exact⟨_,_,rfl,r1,r3⟩
inductive q626  (xs:List V) (H:Hp) (Q:VK):Prop
 |mk(i j)(_:xs=[.int i,.int j])(_:Q (.int (if j > i then j else i)) H)
theorem q258(hc:X.calm=true):CallR X (.builtin "max") q626:=by
 intro pins s σ H xs us Q I r h
 obtain⟨i,j,rfl,q⟩:=h
 obtain⟨u,w',rfl,⟨t,rfl⟩,⟨t',rfl⟩⟩:=vals2 r
 refine max_two_ints (I.ok.hd hc) fun h' tk k=>⟨_,H,I.kept k,?_,q⟩
 by_cases hj:j > i
 ·rw[ZL hj,ZL hj];exact⟨_,rfl⟩
 ·rw[ZJ hj,ZJ hj];exact⟨_,rfl⟩
inductive q627  (xs:List V) (H:Hp) (Q:VK):Prop
 |mk(i j)(_:xs=[.int i,.int j])(_:Q (.int (if j<i then j else i)) H)
theorem q434(hc:X.calm=true):CallR X (.builtin "min") q627:=by
 intro pins s σ H xs us Q I r h
 obtain⟨i,j,rfl,q⟩:=h
 obtain⟨u,w',rfl,⟨t,rfl⟩,⟨t',rfl⟩⟩:=vals2 r
 refine min_two_ints (I.ok.hd hc) fun h' tk k=>⟨_,H,I.kept k,?_,q⟩
 by_cases hj:j<i
 ·rw[ZL hj,ZL hj];exact⟨_,rfl⟩
 ·rw[ZJ hj,ZJ hj];exact⟨_,rfl⟩
theorem q690:CallR X (.type "int") (fun xs H Q=>(∃ i,xs=[.int i]/\Q (.int i) H) \/ ∃ k,xs=[.bl k]/\Q (.int (if k then 1 else 0)) H):=by
 intro pins s σ H xs us Q I r h
 rcases h with ⟨i,rfl,q⟩ | ⟨k,rfl,q⟩
 ·obtain⟨u,rfl,t,rfl⟩:=vals1 r
  exact call_int_int ⟨.int i,H,I,⟨_,rfl⟩,q⟩
 ·obtain⟨u,rfl,r1⟩:=vals1 r
  cases r1
  exact call_int_bool ⟨.int (if k then 1 else 0),H,I.tok _,⟨_,rfl⟩,q⟩
inductive q374  (xs:List V) (H:Hp) (Q:VK):Prop
 |mk(i)(_:xs=[.int i])(_:i.natAbs.log2<1920)(_:Q (.str (toString i)) H)
theorem q27:CallR X (.type "str") q374:=by
 intro pins s σ H xs us Q I r h
 obtain⟨i,rfl,hz,q⟩:=h
 obtain⟨u,rfl,t,rfl⟩:=vals1 r
 exact PySem.P.str_of_int hz ⟨.str _,H,I.tok _,⟨_,rfl⟩,q⟩
end
structure ObjM(h:Heap)(x dx C:Addr)(mA:Mg):Prop where
 obj:h.get? x=some (PySem.W.instObj C dx)
 ns:h.Ns1 dx mA
 ne:dx≠x
theorem q691{h:Heap}(n:h.Ns1 dx mA):∃ od,h.get? dx=some od /\ ∀ name,PySem.W.lookIn name od=some (mA name):=by
 obtain⟨o,es,ep,ho,hd,hk,_,hm⟩:=n
 refine⟨o,ho,fun name=>?_⟩
 have e:=hm name
 unfold nsFind findBy at e
 rw[<- Array.find?_toList]at e
 unfold PySem.W.lookIn
 rw[hd]
 dsimp only
 split
 ·rename_i y q
  rw[q]at e
  exact congrArg some e
 ·rename_i q
  rw[q]at e
  have a:es.toList.any (·.refKey)=false:=by
   rw[any_eq_false]
   intro y hy
   obtain⟨z,t,hkey⟩:=hk y (Array.mem_toList_iff.mp hy)
   simp[DictEntry.refKey,hkey]
  have a':¬ es.toList.any (·.refKey)=true:=by rw[a];exact fnt
  rw[ZJ a']
  exact congrArg some e
theorem ObjM.look(I:ObjM h x dx C mA):∃ od,PySem.W.InstAt h x (PySem.W.instObj C dx) C (some od) /\ ∀ name,PySem.W.lookIn name od=some (mA name):=
 let ⟨od,ho,hl⟩:=q691 I.ns
 ⟨od,⟨I.obj,rfl,rfl,ho⟩,hl⟩
section
variable {prog:Program} {w:World} {A:Around} {E:VS} {s:Shared} {K:Fg} {x dx C f:Addr} {mA:Mg} {name:Str} {v:Value}
theorem get_map{expr:Bool}(X:K.In s.heap)(I:ObjM s.heap x dx C mA)(hg:PySem.W.plainGet K C name=true)(hh:PySem.W.hasDictIn K C=true)
  (ha:PySem.W.findIn K (.ref C) name=some none) (hv:mA name=some v) (hv':PySem.W.handedIn v=true) (h:Q v { s with toks:=s.toks+1 }) :
  wpAny (model prog w) A (getAttr (.ref x) name expr) Q E s:=by
 obtain⟨od,J,hl⟩:=I.look
 exact PySem.W.get_value X J (PySem.W.plainGet_of hg).1 (PySem.W.findObj_own hh ha rfl (by rw[hl,hv])) hv' h
theorem get_meth(X:K.In s.heap)(I:ObjM s.heap x dx C mA)(hg:PySem.W.plainGet K C name=true)
  (hf:PySem.W.findIn K (.ref C) name=some (some (.ref f))) (ht:PySem.W.isFn K (.ref f)=true) (hv:mA name=none) (h:Q (.ref f,[.ref x]) s) :
  wpAny (model prog w) A (getMethod (.ref x) name pl) Q E s:=by
 obtain⟨od,J,hl⟩:=I.look
 exact PySem.W.method_fn X J (PySem.W.plainGet_of hg).1 (PySem.W.plainGet_of hg).2 hf (beq_iff_eq.mp ht) (by show(PySem.W.lookIn name od).map (·.isSome)=some false;rw[hl,hv];rfl) h
theorem set_map{ns:List Str}(X:K.In s.heap)(I:ObjM s.heap x dx C mA)
  (hs:PySem.W.findIn K (.ref C) "__setattr__" = some (some (.builtin "object.__setattr__"))) (hp:PySem.W.plainOver K C=true) (ht:PySem.W.takerIn K C name=some none) (hh:PySem.W.hasDictIn K C=true)
  (hw:PySem.Within mA ns) (hsz:ns.length<=sizeLine)
  (h:∀ h',ObjM h' x dx C (fun y=>if y=name then some v else mA y)->Heap.SameBut dx s.heap h'->Q () { s with heap:=h',toks:=s.toks+2 }) :
  wpAny (model prog w) A (setAttr (.ref x) name v) Q E s:=by
 obtain⟨od,J,hl⟩:=I.look
 refine PySem.W.set_plain X J hs (PySem.W.osa_open (s:={ s with toks:=s.toks+1 }) (r:=none) X J hp ht fun b=>?_)
 obtain⟨cd,hc,hd'⟩:=PySem.W.any_some hh
 have hx:s.heap.get? x=some ⟨.ref C,some dx,.plain,#[]⟩:=I.obj
 refine ZA (ZO (ZA (ZA (wpAny_loadPart hx (ZA (PySem.W.Looks.here (s:={ s with toks:=s.toks+1 }) (PySem.W.looks_clsIn X hc) ?_))))))
 rw[hd']
 refine ZO (a:=some dx) (ZA (ZO (ZA ?_)))
 refine wpAny_nsSet1 (s:={ s with toks:=s.toks+1 }) I.ns fun h' hn2 hs2=>?_
 obtain⟨oD,esD,epD,hoD,hdD,hcD⟩:=hn2.count (PySem.Within.cons name v hw)
 refine ZA (wpAny_lookBehind hoD (by rw[hdD];exact pastItsLine_dict (ZT hcD (by rw[WB];lia))) ?_)
 exact ZO (h _ ⟨(hs2.2 _ (Ne.symm I.ne)).trans I.obj,hn2,I.ne⟩ hs2)
theorem make_map(X:K.In s.heap)(hm:PySem.W.makesIn K C=true)
  (hi:PySem.W.findIn K (.ref C) "__init__" = some (some (.ref f))) (hf:PySem.W.typeIn K (.ref f)=some (.type "function"))
  (h:codeAny (model prog w) (A.under (.builtin "type.__call__" ⟨.ref C::vs,kw⟩)) (.call (.ref f) ⟨.ref (s.heap.objs.size+1)::vs,kw⟩) (PySem.W.InitBack (s.heap.objs.size+1) R)
   { s with heap:=(s.heap.push PySem.W.emptyDict).push (PySem.W.instObj C s.heap.objs.size) }) :
  codeAny (model prog w) A (.call (.ref C) ⟨vs,kw⟩) R s:=by
 obtain⟨hh,g,d,t,os⟩:=s
 exact PySem.W.make_core (PySem.W.makes_of X hm) (PySem.W.looks_findIn X hi) (fun self=>PySem.W.bind_fn X self hf) (.inl rfl) h
end
noncomputable def putF(f:Str)(v:V):List (Str×V)->List (Str×V)
 | []=>[(f,v)]
 | (g,x)::r=>if g=f then(g,v)::r else(g,x)::putF f v r
theorem q259(f g:Str)(v:V):∀ fs:List (Str×V),(putF f v fs).lookup g=if g=f then some v else fs.lookup g
 | []=>by
  show List.lookup g [(f,v)]=_
  by_cases h:g=f
  ·have hb:(g==f)=true:=beq_iff_eq.mpr h
   simp only[List.lookup,hb,ZL h]
  ·have hb:(g==f)=false:=beq_eq_false_iff_ne.mpr h
   simp only[List.lookup,hb,ZJ h]
 | (k,x)::r=>by
  have ih:=q259 f g v r
  rw[show putF f v ((k,x)::r)=(if k=f then(k,v)::r else(k,x)::putF f v r)from rfl]
  by_cases hk:k=f
  ·rw[ZL hk]
   by_cases h:g=k
   ·have hb:(g==k)=true:=beq_iff_eq.mpr h
    simp only[List.lookup,hb,ZL (h.trans hk)]
   ·have hb:(g==k)=false:=beq_eq_false_iff_ne.mpr h
    simp only[List.lookup,hb,ZJ (fun e:g=f=>h (e.trans hk.symm))]
  ·rw[ZJ hk]
   by_cases h:g=k
   ·have hb:(g==k)=true:=beq_iff_eq.mpr h
    simp only[List.lookup,hb,ZJ (fun e:g=f=>hk (h.symm.trans e))]
   ·have hb:(g==k)=false:=beq_eq_false_iff_ne.mpr h
    simp only[List.lookup,hb]
    exact ih
theorem q260(f:Str)(v:V):∀ fs:List (Str×V),f∈(putF f v fs).map (·.1) /\ ∀ g,g∈fs.map (·.1)->g∈(putF f v fs).map (·.1)
 | []=>⟨by simp[putF],fun g h=>by simp at h⟩
 | (k,x)::r=>by
  obtain⟨i1,i2⟩:=q260 f v r
  rw[show putF f v ((k,x)::r)=(if k=f then(k,v)::r else(k,x)::putF f v r)from rfl]
  by_cases hk:k=f
  ·rw[ZL hk]
   subst hk
   exact⟨by simp,fun g h=>by simpa using h⟩
  ·rw[ZJ hk]
   refine⟨?_,fun g h=>?_⟩
   ·rw[YA]
    exact ZU _ i1
   ·rw[YA]at h ⊢
    rcases List.mem_cons.mp h with e | e
    ·exact List.mem_cons.mpr (.inl e)
    ·exact ZU _ (i2 g e)
theorem q261(f:Str)(v:V):∀ fs:List (Str×V),(putF f v fs).length<=fs.length+1
 | []=>by simp[putF]
 | (k,x)::r=>by
  have ih:=q261 f v r
  rw[show putF f v ((k,x)::r)=(if k=f then(k,v)::r else(k,x)::putF f v r)from rfl]
  by_cases hk:k=f
  ·rw[ZL hk,WB,WB];lia
  ·rw[ZJ hk,WB,WB];lia
theorem RelO.some_of(r:RelO (some v) o):∃ u,o=some u/\RelV v u:=by
 cases o with
 | none=>exact(show False from r).elim
 | some u=>exact⟨u,rfl,r⟩
theorem RelO.none_of(r:RelO none o):o=none:=by
 cases o with
 | none=>rfl
 | some u=>exact(show False from r).elim
theorem q692(r:RelV v u):PySem.W.handedIn u=true:=by
 cases v with
 | non=>cases(show u=Value.none from r);rfl
 | bl b=>cases(show u=Value.bool b from r);rfl
 | int i=>obtain⟨t,e⟩:=(show ∃ t,u=Value.int i t from r);cases e;rfl
 | str x=>obtain⟨t,e⟩:=(show ∃ t,u=Value.str x t from r);cases e;rfl
 | byt b=>obtain⟨t,e⟩:=(show ∃ t,u=Value.bytes b t from r);cases e;rfl
 | flt b=>obtain⟨t,e⟩:=(show ∃ t,u=Value.float b t from r);cases e;rfl
 | ref a=>cases(show u=Value.ref a from r);rfl
 | ty n=>cases(show u=Value.type n from r);rfl
section
variable {P:Program} {w:World} {H H':Hp} {h h':Heap} {a C dx:Addr} {fs fs':List (Str×V)}
theorem q375(hok:HOk P w H h)(e:H a=some (.ins C dx fs)):∃ mA,ObjM h a dx C mA/\(∀ f,RelO (fs.lookup f) (mA f))/\PySem.Within mA (fs.map (·.1))/\fs.length<=1000/\H dx=some (.own a):=by
 obtain⟨d,z,ne,ob,mA,n,r,q⟩:=(show ObjOk P w H h a (.ins C dx fs)from hok a _ e)
 exact⟨mA,⟨ob,n,ne⟩,r,q,z,d⟩
end
structure Cls(K:Fg)(C:Addr):Prop where
 pg:PySem.W.plainGet K C Str.empty=true
 hd:PySem.W.hasDictIn K C=true
 po:PySem.W.plainOver K C=true
 sa:PySem.W.findIn K (.ref C) "__setattr__" = some (some (.builtin "object.__setattr__"))
theorem Cls.get{K:Fg}{C:Addr}(c:Cls K C)(f:Str):PySem.W.plainGet K C f=true:=c.pg
def q149(K:Fg)(C:Addr)(f:Str):Prop:=PySem.W.findIn K (.ref C) f=some none
theorem q149.taker{K:Fg}{C:Addr}{f:Str}(n:q149 K C f):PySem.W.takerIn K C f=some none:=by
 unfold PySem.W.takerIn
 rw[show PySem.W.findIn K (.ref C) f=some none from n]
 rfl
structure Con(K:Fg)(C:Addr)(f:Str)(v:V)(u:Value):Prop where
 at_:PySem.W.findIn K (.ref C) f=some (some u)
 rel:RelV v u
 get:PySem.W.specialIn K u "__get__" = some none
 cp:PySem.W.copiedNames.contains f=false
structure Meth(K:Fg)(C:Addr)(m:Str)(f:Addr):Prop where
 at_:PySem.W.findIn K (.ref C) m=some (some (.ref f))
 fn:PySem.W.isFn K (.ref f)=true
 kp:PySem.W.keepIn K (.ref f)=true
section
variable {pins:List (Addr×Obj)} {σ:St} {H:Hp} {s:Shared} {a C dx:Addr} {fs:List (Str×V)} {f:Str} {v:V} {A:Around} {E:VS}
theorem q628{b:Bool}(I:Inv X pins σ H s)(e:H a=some (.ins C dx fs))(c:Cls X.K C)(n:q149 X.K C f)(l:fs.lookup f=some v)
  (h:∀ u s',Inv X pins σ H s'->RelV v u->Q u s'):wpAny (model X.prog X.w) A (getAttr (.ref a) f b) Q E s:=by
 obtain⟨mA,O,r,_,_,_⟩:=q375 I.hok e
 obtain⟨u,hu,ru⟩:=RelO.some_of (v:=v) (o:=mA f) (by rw[<- l];exact r f)
 exact get_map I.kIn O (c.get f) c.hd n hu (q692 ru) (h u _ (I.tok _) ru)
theorem q629(I:Inv X pins σ H s)(e:H a=some (.ins C dx fs))(c:Cls X.K C)(k:Meth X.K C m g)(l:fs.lookup m=none)
  (h:Q (.ref g,[.ref a]) s):wpAny (model X.prog X.w) A (getMethod (.ref a) m pl) Q E s:=by
 obtain⟨mA,O,r,_,_,_⟩:=q375 I.hok e
 have hn:mA m=none:=RelO.none_of (by rw[<- l];exact r m)
 exact get_meth I.kIn O (c.get m) k.at_ k.fn hn h
theorem q630(I:Inv X pins σ H s)(e:H a=some (.ins C dx fs))(c:Cls X.K C)(n:q149 X.K C f)(hl:fs.length<1000)(ry:RelV y u)
  (h:∀ s',Inv X pins σ (upd H a (.ins C dx (putF f y fs))) s'->Q () s'):wpAny (model X.prog X.w) A (setAttr (.ref a) f u) Q E s:=by
 obtain⟨mA,O,r,wi,_,ho⟩:=q375 I.hok e
 have hz:(fs.map (·.1)).length<=sizeLine:=by rw[ZK,sizeLine_eq];lia
 refine set_map I.kIn O c.sa c.po n.taker c.hd wi hz fun h' O' sb=>h _ ?_
 have hd:∃ o,h'.get? dx=some o:=let ⟨o,_,_,e',_⟩:=O'.ns;⟨o,e'⟩
 refine I.write (x:=a) (e:=dx) (by rw[e];exact True.intro) (.inr ho) (fun b q hb z=>(sb.2 b hb).trans z) hd ?_
 refine⟨by rw[q28 O.ne];exact ho,?_,O.ne,O'.obj,_,O'.ns,fun g=>?_,fun g hg=>?_⟩
 ·have:=q261 f y fs;lia
 ·show RelO ((putF f y fs).lookup g) (if g=f then some u else mA g)
  rw[q259]
  by_cases q:g=f
  ·rw[ZL q,ZL q];exact ry
  ·rw[ZJ q,ZJ q];exact r g
 ·by_cases q:g=f
  ·rw[q];exact(q260 f y fs).1
  ·refine(q260 f y fs).2 g (wi g fun z=>hg ?_)
   show(if g=f then some u else mA g)=none
   rw[ZJ q];exact z
theorem Inv.made(I:Inv X pins σ H s):Inv X pins σ (upd (upd H s.heap.objs.size (.own (s.heap.objs.size+1))) (s.heap.objs.size+1) (.ins C s.heap.objs.size []))
  { s with heap:=(s.heap.push PySem.W.emptyDict).push (PySem.W.instObj C s.heap.objs.size) }:=by
 have e1:(s.heap.push PySem.W.emptyDict).get? s.heap.objs.size=some PySem.W.emptyDict:=ZY s.heap rfl
 have e2:((s.heap.push PySem.W.emptyDict).push (PySem.W.instObj C s.heap.objs.size)).get? (s.heap.objs.size+1)=some (PySem.W.instObj C s.heap.objs.size):=by
  have:=ZY (s.heap.push PySem.W.emptyDict) (o:=PySem.W.instObj C s.heap.objs.size) rfl
  rwa [Heap.size_push]at this
 have e3:(s.heap.push PySem.W.emptyDict).Ns s.heap.objs.size (fun _=>none):=⟨PySem.W.emptyDict,#[],_,e1,rfl,(fun e he=>absurd he (by simp)),fun _=>rfl⟩
 have I1:=I.laid (a:=s.heap.objs.size) (o:=.own (s.heap.objs.size+1)) (h':=s.heap.push PySem.W.emptyDict) (t':=s.toks) (fun b u q=>ZE _ q) (ZF _) ⟨_,e1⟩
 refine I1.laid (a:=s.heap.objs.size+1) (o:=.ins C s.heap.objs.size []) (t':=s.toks) (fun b u q=>ZE _ q) (Nat.le_of_eq (Heap.size_push _ _)) ?_
 have ne:s.heap.objs.size≠s.heap.objs.size+1:=WN (Nat.lt_succ_self _)
 refine⟨by rw[q28 ne,q13],ZX _,ne,e2,fun _=>none,(Heap.Ns1.of_empty e3).at fun o q=>ZE _ q,fun _=>True.intro,fun y hy=>absurd rfl hy⟩
theorem attr_of(hb:attributeBase e f env (eval e env)=eval e env)
  (h:wpAny (model prog w) A (eval e env) (fun o s₁=>wpAny (model prog w) A (getAttr o f true) Q E s₁) E s):wpAny (model prog w) A (eval (.Attribute e f pos) env) Q E s:=
 Attribute_any_ h (by rw[arm_eval_Attribute,hb])
end
noncomputable def tFld(K:Fg)(ta:TE)(f:Str):TE:=fun σ H Q=>ta σ H fun x H1=>∃ a C dx fs v,x = .ref a/\H1 a=some (.ins C dx fs)/\Cls K C/\q149 K C f/\fs.lookup f=some v/\Q v H1
noncomputable def sFld(K:Fg)(ta tv:TE)(f:Str):TS:=fun D σ H=>tv σ H fun y H1=>ta σ H1 fun x H2=>∃ a C dx fs,x = .ref a/\H2 a=some (.ins C dx fs)/\Cls K C/\q149 K C f/\fs.length<1000 /\
 D.nx σ (upd H2 a (.ins C dx (putF f y fs)))
section
variable{o e value:Expr}{f:Str}{pos pos' tpos:Pos}{ta tv:TE}
theorem q220(he:PE X e ta)(hb:attributeBase e f X.env (eval e X.env)=eval e X.env):PE X (.Attribute e f pos) (tFld X.K ta f):=by
 intro pins s σ H Q I h
 refine attr_of hb (thn (he pins s σ H _ I h) fun u s1 ⟨x,H1,I1,rx,a,C,dx,fs,v,ex,ea,c,n,l,q⟩=>?_)
 subst ex
 obtain rfl:u=Value.ref a:=rx
 exact q628 I1 ea c n l fun u' s2 I2 ru=>⟨v,H1,I2,ru,q⟩
theorem q568(ha:PE X o ta)(hv:PE X value tv)(hs:swapsWith value (some (.Attribute o f pos')) pos.line X.env=pure false):PS X (.Assign [.Attribute o f pos'] value pos) (sFld X.K ta tv f):=by
 intro pins s σ H D I h
 refine plainObj_wpAny_Assign_Attribute (thn (hv pins s σ H _ I h) fun u s1 ⟨y,H1,I1,ry,q⟩=>thn (ha pins s1 σ H1 _ I1 q) fun ov s2 ⟨x,H2,I2,rx,a,C,dx,fs,ex,ea,c,n,l,q2⟩=>?_) hs
 subst ex
 obtain rfl:ov=Value.ref a:=rx
 exact q630 I2 ea c n l ry fun s3 I3=>⟨σ,_,I3,q2⟩
end
section
variable {pins:List (Addr×Obj)} {σ:St} {H:Hp} {s:Shared} {A:Around} {E:VS} {Q:VS} {c:Value} {b:Bool}
inductive TyOf(K:Fg)(H:Hp):V->Value->Prop where
 | non:TyOf K H .non (.type "NoneType")
 | bl (x:Bool):TyOf K H (.bl x) (.type "bool")
 | int (i:Int):TyOf K H (.int i) (.type "int")
 | str (x:Str):TyOf K H (.str x) (.type "str")
 | flt (x:UInt64):TyOf K H (.flt x) (.type "float")
 | lst {a:Addr} {xs:List V} (e:H a=some (.lst xs)):TyOf K H (.ref a) (.type "list")
 | frz {a:Addr} {o:Obj} {xs:List V} (e:H a=some (.frz o (.lst xs))):TyOf K H (.ref a) (.type "list")
 | tup {a:Addr} {xs:List V} (e:H a=some (.tup xs)):TyOf K H (.ref a) (.type "tuple")
 | dK {a:Addr} {kvs:List (Key×V)} (e:H a=some (.dK kvs)):TyOf K H (.ref a) (.type "dict")
 | dT {a:Addr} {kvs:List (List Key×V)} (e:H a=some (.dT kvs)):TyOf K H (.ref a) (.type "dict")
 | ins {a C dx:Addr} {fs:List (Str×V)} (e:H a=some (.ins C dx fs)) (cl:Cls K C) (ha:PySem.W.findIn K (.ref C) "__class__" = some (some (.builtin "object.__class__")))
   (hn:PySem.W.specialIn K (.builtin "object.__class__") "__get__" = some (some (.builtin "getset_descriptor.__get__"))) (htk:PySem.W.takesIn K (.builtin "object.__class__")=some true)
   (hm:PySem.W.mroIn K C (.type "object")=some true):TyOf K H (.ref a) (.ref C)
theorem q693(I:Inv X pins σ H s)(rx:RelV x u)(ty:TyOf X.K H x t)(e:PySem.W.kitOne X.K t c=some b)(h:∀ tk,Q (.bool b) { s with toks:=tk }) :
  wpAny (model X.prog X.w) A (call (.builtin "isinstance") [u,c]) Q E s:=by
 cases ty with
 | non=>cases(show u=Value.none from rx);exact YV PySem.W.kitx_none I.kIn True.intro e (fun z=>nomatch z) h
 | bl y=>cases(show u=Value.bool y from rx);exact YV PySem.W.kitx_bool I.kIn True.intro e (fun z=>nomatch z) h
 | int i=>obtain⟨t,q⟩:=(show ∃ t,u=Value.int i t from rx);cases q;exact YV PySem.W.kitx_int I.kIn True.intro e (fun z=>nomatch z) h
 | str y=>obtain⟨t,q⟩:=(show ∃ t,u=Value.str y t from rx);cases q;exact YV PySem.W.kitx_str I.kIn True.intro e (fun z=>nomatch z) h
 | flt y=>obtain⟨t,q⟩:=(show ∃ t,u=Value.float y t from rx);cases q;exact YV PySem.W.kitx_float I.kIn True.intro e (fun z=>nomatch z) h
 | @lst a xs ea=>
  cases(show u=Value.ref a from rx)
  obtain⟨_,_,n,_,h1⟩:=(show ObjOk X.prog X.w H s.heap a (.lst xs)from I.hok a _ ea)
  exact YV PySem.W.kitx_list I.kIn ⟨_,h1,rfl⟩ e (fun z=>nomatch z) h
 | @frz a ob xs ea=>
  cases(show u=Value.ref a from rx)
  obtain⟨_,_,_,n,_,h1⟩:=(show ObjOk X.prog X.w H s.heap a (.frz ob (.lst xs))from I.hok a _ ea)
  exact YV PySem.W.kitx_list I.kIn ⟨_,h1,rfl⟩ e (fun z=>nomatch z) h
 | @tup a xs ea=>
  cases(show u=Value.ref a from rx)
  obtain⟨_,_,_,p⟩:=(show ObjOk X.prog X.w H s.heap a (.tup xs)from I.hok a _ ea)
  obtain⟨o,h1,h2,_⟩:=p
  exact YV PySem.W.kitx_tuple I.kIn ⟨o,h1,h2⟩ e (fun z=>nomatch z) h
 | @dK a kvs ea=>
  cases(show u=Value.ref a from rx)
  obtain⟨_,_,vs,_,p⟩:=(show ObjOk X.prog X.w H s.heap a (.dK kvs)from I.hok a _ ea)
  obtain⟨o,es,ep,h1,h2,_⟩:=p
  exact YV PySem.W.kitx_dict I.kIn ⟨o,h1,h2.1⟩ e (fun z=>nomatch z) h
 | @dT a kvs ea=>
  cases(show u=Value.ref a from rx)
  obtain⟨_,_,xs,_,o,es,ep,h1,h2,_⟩:=(show ObjOk X.prog X.w H s.heap a (.dT kvs)from I.hok a _ ea)
  exact YV PySem.W.kitx_dict I.kIn ⟨o,h1,h2.1⟩ e (fun z=>nomatch z) h
 | @ins a C dx fs ea cl ha hn htk hm=>
  cases(show u=Value.ref a from rx)
  obtain⟨mA,O,_⟩:=q375 I.hok ea
  obtain⟨od,J,_⟩:=O.look
  exact YV (PySem.W.kitx_own (cl.get _) cl.hd ha hn htk hm) I.kIn J e (fun z=>nomatch z) h
end
structure Room(k:Nat)(A:Around):Prop where
 hd:A.handled=none
 dp:A.depth+3*k+5<recursionLimit
 un:A.units+16*k+200<cLine
theorem Room.mono{j k:Nat}(r:Room k A)(h:j<=k):Room j A:=⟨r.hd,by have:=r.dp;lia,by have:=r.un;lia⟩
theorem Room.deeper{k:Nat}{A:Around}(r:Room (k+1) A)(env:Env):Room k (A.deeper env):=
 ⟨r.hd,by have:=r.dp;show A.depth+1+3*k+5<_;exact W148 this,by have:=r.un;show A.units+3+16*k+200<_;lia⟩
theorem q631{A:Around}:(A.under (.builtin "type.__call__" ⟨.ref C::us,kw⟩)).depth=A.depth+1:=by
 first | rfl | simp[Around.under,Code.weight,Code.isCreation,Code.isGuard,Code.isCaller,Code.frames,Code.isFrame,guardIds]
theorem q632{A:Around}:(A.under (.builtin "type.__call__" ⟨.ref C::us,kw⟩)).units=A.units+1:=by
 first | rfl | simp[Around.under,Code.cUnits,Code.frames,Code.isFrame]
theorem Room.make{k:Nat}{A:Around}(r:Room (k+1) A)(C:Addr)(us:List Value)(kw:List (Str×Value)):Room k (A.under (.builtin "type.__call__" ⟨.ref C::us,kw⟩)):=
 ⟨r.hd,by have:=r.dp;rw[q631];exact W148 this,by have:=r.un;rw[q632];lia⟩
theorem Room.depth{k:Nat}{A:Around}(r:Room k A):A.depth<recursionLimit:=by have:=r.dp;lia
theorem Room.units{k:Nat}{A:Around}(r:Room k A):A.units+64<cLine:=by have:=r.un;lia
def tNil:TA:=fun _ H Q=>Q [] H
def tCons(ta:TE)(tr:TA):TA:=fun σ H Q=>ta σ H fun x H1=>tr σ H1 fun xs H2=>Q (x::xs) H2
section
variable {e:Expr} {es:List Expr} {te:TE} {t:TA} {pos:Pos}
theorem q12:PA X [] tNil:=fun _ _ _ _ H Q I h=>Calls.spliced_nil ⟨[],H,I,.nil,h⟩
theorem q10(ha:PE X e te)(hr:PA X es t)(hs:starEach (e::es) X.env=(false,eval e X.env)::starEach es X.env:=by rfl):PA X (e::es) (tCons te t):=by
 intro pos pins s σ H Q I h
 rw[hs]
 show wpAny _ _ (spliced ((false,eval e X.env)::backTo pos (starEach es X.env))) _ _ s
 refine Calls.spliced_cons (thn (ha pins s σ H _ I h) fun u s1 ⟨x,H1,I1,r1,q1⟩=>?_)
 exact thn (hr pos pins s1 σ H1 _ I1 q1) fun us s2 ⟨xs,H2,I2,r2,q2⟩=>⟨x::xs,H2,I2,.cons r1 r2,q2⟩
noncomputable def tTup(t:TA):TE:=fun σ H Q=>t σ H fun xs H1=>xs.length<=sizeLine /\ ∀ p,H1 p=none->Q (.ref p) (upd H1 p (.tup xs))
noncomputable def tLst(t:TA):TE:=fun σ H Q=>t σ H fun xs H1=>xs.length<=sizeLine /\ ∀ p,H1 p=none->Q (.ref p) (upd H1 p (.lst xs))
theorem q34{x1}(h:PA X es t):PE X (.Tuple es x1 pos) (tTup t):=by
 intro pins s σ H Q I hq
 refine wpAny_Tuple_spliced (thn (h pos pins s σ H _ I hq) fun us s1 ⟨xs,H1,I1,r,z,q⟩=>⟨by rw[<- r.length];exact z,?_⟩)
 have hf:H1 s1.heap.objs.size=none:=I1.hok.fresh (ZF _)
 refine⟨.ref s1.heap.objs.size,upd H1 s1.heap.objs.size (.tup xs),I1.laid (t':=s1.toks) (fun b u e=>ZE _ e) (ZF _) ?_,rfl,q _ hf⟩
 exact⟨z,us,r,⟨_,ZY _ rfl,rfl,_,rfl⟩⟩
theorem q40(h:PA X es t):PE X (.List es pos) (tLst t):=by
 intro pins s σ H Q I hq
 refine wpAny_List_spliced (thn (h pos pins s σ H _ I hq) fun us s1 ⟨xs,H1,I1,r,z,q⟩=>⟨by rw[<- r.length];exact z,?_⟩)
 have hf:H1 s1.heap.objs.size=none:=I1.hok.fresh (ZF _)
 refine⟨.ref s1.heap.objs.size,upd H1 s1.heap.objs.size (.lst xs),I1.laid (t':=s1.toks) (fun b u e=>ZE _ e) (ZF _) ?_,rfl,q _ hf⟩
 exact⟨z,us,0,r,ZY _ rfl⟩
end
abbrev Sp:=List V->Hp->VK->XK->Prop
abbrev CXT:=List Env->Hp->Shared->XK->VS
structure Env0(P:Program)(w:World)(K:Fg)(mg:Mg)(base:Heap)(A:Around)(outer:List Env)(s:Shared)(H:Hp):Prop where
 frames:A.frames=some outer
 mod:Mod K mg base
 bs:∀ b o,base.get? b=some o->s.heap.get? b=some o/\H b=none
 bsz:base.objs.size<=s.heap.objs.size
 funs:s.heap.FunFrames base outer
 frf:∀ b∈frs outer,H b=none
 hok:HOk P w H s.heap
 bare:AllBare s.gens
inductive CE(outer:List Env)(P:Program)(w:World)(H:Hp)(s:Shared)(Q:VK)(u:Value)(s':Shared):Prop
 |mk(v:V)(H':Hp)(_:s'.os=s.os)(_:AllBare s'.gens)(_:Un (frs outer) [] H H' s.heap s'.heap)(_:HOk P w H' s'.heap)(_:RelV v u)(_:Q v H')
def CR(CX:CXT)(outer:List Env)(P:Program)(w:World)(H:Hp)(s:Shared)(Q:VK)(E:XK)(r:Result)(s':Shared):Prop:=
 match r with
 | .ok (.ret u)=>CE outer P w H s Q u s'
 | .ok _=>False
 | .error e=>CX outer H s E e s'
structure FnOk(P:Program)(w:World)(K:Fg)(mg:Mg)(base:Heap)(CX:CXT)(k:Nat)(f:Addr)(fd:FuncData)(ps:List Str)(sp:Sp):Prop where
 len:∀ vs H Q E,sp vs H Q E->vs.length=ps.length
 run:∀(A:Around)(outer:List Env)(s:Shared)(H:Hp)(args:Args)(us:List Value)(vs:List V)(Q:VK)(E:XK),Room k A->Env0 P w K mg base A outer s H->BindsTo s fd args (ps.zip us)->Vals vs us->sp vs H Q E ->
  codeAny (model P w) A (.call (.ref f) args) (CR CX outer P w H s Q E) s
theorem FnOk.mono{P:Program}{w:World}{K:Fg}{mg:Mg}{base:Heap}{CX:CXT}{j k:Nat}{f:Addr}{fd:FuncData}{ps:List Str}{sp:Sp}(F:FnOk P w K mg base CX j f fd ps sp)(h:j<=k) :
  FnOk P w K mg base CX k f fd ps sp:=⟨F.len,fun A outer s H args us vs Q E hr=>F.run A outer s H args us vs Q E (hr.mono h)⟩
theorem Env0.make{P:Program}{w:World}{K:Fg}{mg:Mg}{base:Heap}{A:Around}{outer:List Env}{s:Shared}{H:Hp}(e:Env0 P w K mg base A outer s H)(C:Addr)(us:List Value)(kw:List (Str×Value)) :
  Env0 P w K mg base (A.under (.builtin "type.__call__" ⟨.ref C::us,kw⟩)) outer s H:=⟨by first | exact e.frames | (simpa [Around.under,Code.envs,Code.isFrame,pushEnvs] using e.frames),e.mod,e.bs,e.bsz,e.funs,e.frf,e.hok,e.bare⟩
section
variable {pins:List (Addr×Obj)} {σ:St} {H:Hp} {s s':Shared}
theorem Inv.env0(I:Inv X pins σ H s):Env0 X.prog X.w X.K X.mg X.base X.A X.stack s H:=
 ⟨I.ok.frames,I.ok.mod,I.bs,ZT I.ok.bsz I.sz,I.stack,I.stkFree,I.hok,I.bare⟩
theorem Inv.after(I:Inv X pins σ H s)(h:CE X.stack X.prog X.w H s Q u s'):EP X pins σ Q u s':=by
 obtain⟨v,H',os,bare,un,hok,r,q⟩:=h
 obtain⟨hh,g,d,t,os'⟩:=s'
 obtain rfl:os'=s.os:=os
 exact⟨v,H',I.call (h':=hh) (g':=g) (d':=d) (t':=t) (ch:=[]) un hok bare (fun b z=>absurd z (by simp)),r,q⟩
end
def tCall(sp:Sp)(dvs:List V)(E:XK)(t:TA):TE:=fun σ H Q=>t σ H fun vs H1=>sp (vs++dvs) H1 Q E
inductive jMeth(C:Addr)(m:Str)(x:V)(H:Hp)(R:Prop):Prop
 |mk(a:Addr)(dx:Addr)(fs:List (Str×V))(_:x = .ref a)(_:H a=some (.ins C dx fs))(_:fs.lookup m=none)(_:R)
def tMeth(C:Addr)(m:Str)(sp:Sp)(dvs:List V)(E:XK)(ta:TE)(t:TA):TE:=fun σ H Q=>ta σ H fun x H1=>jMeth C m x H1 (t σ H1 fun vs H2=>sp (x::(vs++dvs)) H2 Q E)
noncomputable def tMake(C:Addr)(sp:Sp)(dvs:List V)(E:XK)(t:TA):TE:=fun σ H Q=>t σ H fun vs H1=>∀ x dx,H1 x=none->H1 dx=none->dx≠x ->
 sp (.ref x::(vs++dvs)) (upd (upd H1 dx (.own x)) x (.ins C dx [])) (fun v H2=>v = .non/\Q (.ref x) H2) E
def Binds(K:Fg)(fd:FuncData)(ps:List Str)(ds:List Value):Prop:=
 ∀(s:Shared)(us:List Value),K.In s.heap->(us++ds).length=ps.length->BindsTo s fd ⟨us,[]⟩ (ps.zip (us++ds))
theorem Binds.all{K:Fg}{fd:FuncData}{ps:List Str}(h:∀ us:List Value,us.length=ps.length->bindArgs fd ⟨us,[]⟩=pure (ps.zip us)):Binds K fd ps []:=fun s us _ hl=>by
 rw[append_nil]at hl ⊢
 exact .of_eq (h us hl)
def q335(CX:CXT)(X:Cx)(E:XK):Prop:=∀(pins:List (Addr×Obj)) (σ:St) (H:Hp) (s:Shared) (e:Value) (s':Shared),Inv X pins σ H s->CX X.stack H s E e s'->X.xe e s'
section
variable {CX:CXT} {k:Nat} {f C:Addr} {fd:FuncData} {ps:List Str} {sp:Sp} {dvs:List V} {ds:List Value} {E:XK} {x m:Str} {p pos apos:Pos} {e o:Expr} {es:List Expr} {ta:TE} {t:TA}
theorem run_fn(F:FnOk X.prog X.w X.K X.mg X.base CX k f fd ps sp)(hr:Room k X.A)(hb:Binds X.K fd ps ds)(hd:Vals dvs ds)(hx:q335 CX X E)
  (I:Inv X pins σ H s) (r:Vals vs us) (h:sp (vs++dvs) H Q E):wpAny (model X.prog X.w) X.A (call (.ref f) us) (EP X pins σ Q) X.xe s:=by
 have r2:Vals (vs++dvs) (us++ds):=r.append hd
 have hl:(us++ds).length=ps.length:=by rw[<- r2.length];exact F.len _ _ _ _ h
 refine wpAny_call (codeAny_mono (F.run X.A X.stack s H ⟨us,[]⟩ (us++ds) (vs++dvs) Q E hr I.env0 (hb s us I.kIn hl) r2 h) fun r s' hq=>?_)
 cases r with
 | error e=>exact hx pins σ H s e s' I hq
 | ok fl=>
  cases fl with
  | ret u=>exact I.after hq
  | next=>exact False.elim hq
  | brk=>exact False.elim hq
  | cont=>exact False.elim hq
theorem pe_call(F:FnOk X.prog X.w X.K X.mg X.base CX k f fd ps sp)(hr:Room k X.A)(hg:Gl X x)(hm:X.mg x=some (.ref f))(hk:PySem.W.keepIn X.K (.ref f)=true)(hb:Binds X.K fd ps ds)(hd:Vals dvs ds)(hx:q335 CX X E)
  (ha:PA X (e::es) t) (hdb:(x==("__debug__" : Str))=false:=by decide) (he:starEach (e::es) X.env=(false,eval e X.env)::starEach es X.env:=by rfl) (hpl:(backTo pos (starEach es X.env)).any (·.1)=false:=by rfl) :
  PE X (.Call (.Name x p) (e::es) [] pos) (tCall sp dvs E t):=by
 intro pins s σ H Q I h
 refine wpAny_Call_Name_kw (q515 I hg hm ?_ hdb)
 refine PySem.W.callWith_K (h₀:=X.base) I.ok.mod.kin hk (thn (ha pos pins s σ H _ I h) fun us s1 ⟨vs,H1,I1,r,q⟩=>⟨I1.kIn,?_⟩) he hpl
 exact run_fn F hr hb hd hx I1 r q
theorem pe_meth{pl:Sem Bool}(he:PE X o ta)(c:Cls X.K C)(hm:Meth X.K C m f)(F:FnOk X.prog X.w X.K X.mg X.base CX k f fd ps sp)(hr:Room k X.A)(hb:Binds X.K fd ps ds)(hd:Vals dvs ds)(hx:q335 CX X E)(ha:PA X (e::es) t)
  (hst:starEach (e::es) X.env=(false,eval e X.env)::starEach es X.env:=by rfl) (hpl:(backTo pos (starEach es X.env)).any (·.1)=false:=by rfl)
  (ht:eval (.Call (.Attribute o m apos) (e::es) [] pos) X.env=(do
   let ov <- eval o X.env
   standAt apos.atName
   let (f,first) <- holding [ov] (getMethod ov m pl)
   callWith pos f first (backTo pos (starEach (e::es) X.env)) (backToKw pos (keywordEach [] X.env))):=by rfl) :
  PE X (.Call (.Attribute o m apos) (e::es) [] pos) (tMeth C m sp dvs E ta t):=by
 intro pins s σ H Q I h
 refine PySem.W.methodCall_KW (pl:=pl) (thn (he pins s σ H _ I h) fun u s1 ⟨x,H1,I1,rx,a,dx,fs,ex,ea,l,q⟩=>?_) ht
 subst ex
 obtain rfl:u=Value.ref a:=rx
 refine q629 I1 ea c hm l ?_
 refine PySem.W.callWith_K (first:=[.ref a]) (h₀:=X.base) I.ok.mod.kin hm.kp (thn (ha pos pins s1 σ H1 _ I1 q) fun us s2 ⟨vs,H2,I2,r,q2⟩=>⟨I2.kIn,?_⟩) hst hpl
 exact run_fn (us:=.ref a::us) (vs:=.ref a::vs) F hr hb hd hx I2 (.cons rfl r) q2
structure Mk(K:Fg)(C f:Addr):Prop where
 makes:PySem.W.makesIn K C=true
 init:PySem.W.findIn K (.ref C) "__init__" = some (some (.ref f))
 fn:PySem.W.isFn K (.ref f)=true
 kp:PySem.W.keepIn K (.ref C)=true
theorem run_make(M:Mk X.K C f)(F:FnOk X.prog X.w X.K X.mg X.base CX k f fd ps sp)(hr:Room (k+1) X.A)(hb:Binds X.K fd ps ds)(hd:Vals dvs ds)
  (hx:q335 CX X E) (I:Inv X pins σ H s) (r:Vals vs us)
  (h:∀ x dx,H x=none->H dx=none->dx≠x->sp (.ref x::(vs++dvs)) (upd (upd H dx (.own x)) x (.ins C dx [])) (fun v H2=>v = .non/\Q (.ref x) H2) E) :
  wpAny (model X.prog X.w) X.A (call (.ref C) us) (EP X pins σ Q) X.xe s:=by
 have hq:=h (s.heap.objs.size+1) s.heap.objs.size (I.hok.fresh (Nat.le_succ _)) (I.hok.fresh (ZF _)) (WN (Nat.lt_succ_self _))
 have I2:=Inv.made (C:=C) I
 have r2:Vals (V.ref (s.heap.objs.size+1)::(vs++dvs)) (Value.ref (s.heap.objs.size+1)::(us++ds)):=.cons rfl (r.append hd)
 have hl:(Value.ref (s.heap.objs.size+1)::us++ds).length=ps.length:=by
  have e:=r2.length
  rw[F.len _ _ _ _ hq]at e
  exact e.symm
 refine wpAny_call (make_map (f:=f) I.kIn M.makes M.init (beq_iff_eq.mp M.fn) (codeAny_mono (F.run _ X.stack _ _ ⟨Value.ref (s.heap.objs.size+1)::us,[]⟩ (Value.ref (s.heap.objs.size+1)::(us++ds)) _ _ E (hr.make C us [])
  (I2.env0.make C us []) (hb _ (Value.ref (s.heap.objs.size+1)::us) I2.kIn hl) r2 hq) fun r s' hq'=>?_))
 cases r with
 | error e=>exact hx pins σ _ _ e s' I2 hq'
 | ok fl=>
  cases fl with
  | ret u=>
   obtain⟨v,H',I3,rv,ev,q3⟩:=I2.after hq'
   subst ev
   exact⟨rv,⟨V.ref (s.heap.objs.size+1),H',I3,rfl,q3⟩⟩
  | next=>exact False.elim hq'
  | brk=>exact False.elim hq'
  | cont=>exact False.elim hq'
theorem pe_make(M:Mk X.K C f)(F:FnOk X.prog X.w X.K X.mg X.base CX k f fd ps sp)(hr:Room (k+1) X.A)(hg:Gl X x)(hm:X.mg x=some (.ref C))(hb:Binds X.K fd ps ds)(hd:Vals dvs ds)(hx:q335 CX X E)
  (ha:PA X (e::es) t) (hdb:(x==("__debug__" : Str))=false:=by decide) (he:starEach (e::es) X.env=(false,eval e X.env)::starEach es X.env:=by rfl) (hpl:(backTo pos (starEach es X.env)).any (·.1)=false:=by rfl) :
  PE X (.Call (.Name x p) (e::es) [] pos) (tMake C sp dvs E t):=by
 intro pins s σ H Q I h
 refine wpAny_Call_Name_kw (q515 I hg hm ?_ hdb)
 refine PySem.W.callWith_K (h₀:=X.base) I.ok.mod.kin M.kp (thn (ha pos pins s σ H _ I h) fun us s1 ⟨vs,H1,I1,r,q⟩=>⟨I1.kIn,?_⟩) he hpl
 exact run_make M F hr hb hd hx I1 r q
end
section
variable {CX:CXT} {k:Nat} {f C:Addr} {fd:FuncData} {ps ks:List Str} {sp:Sp} {E:XK} {x m:Str} {p pos apos kpos:Pos} {e o:Expr} {es:List Expr} {kws:List Keyword} {te ta:TE} {t tk:TA} {nm:Option Str}
structure KBinds(K:Fg)(fd:FuncData)(ps ks:List Str)(g:List Value->List Value->List Value)(gV:List V->List V->List V):Prop where
 to:∀(s:Shared)(us ws:List Value),K.In s.heap->(g us ws).length=ps.length->BindsTo s fd ⟨us,ks.zip ws⟩ (ps.zip (g us ws))
 rel:∀{vs:List V}{us:List Value}{zs:List V}{ws:List Value},Vals vs us->Vals zs ws->Vals (gV vs zs) (g us ws)
variable {g:List Value->List Value->List Value} {gV:List V->List V->List V}
end
structure FnScope(N P:List Str)(sc:Scope):Prop where
 kind:sc.kind = .function
 co:sc.isCoroutine=false
 gen:sc.isGenerator=false
 nd:N.Nodup
 pre:N.take P.length=P
 par:∀ x∈P,sc.names.lookup x=some .local\/sc.names.lookup x=some .cell
 nofree:∀ y∈sc.names,y.2 ≠ .free
theorem q435{kindOf:Str->Option NameKind}{x:Str}:∀{binds:List (Str×Value)} {m:Mg},(∀ v,(x,v) ∉ binds)->bindL kindOf binds m x=m x
 | [],_,_=>rfl
 | (n,v)::r,m,h=>by
  unfold bindL
  rw[q435 fun w hw=>h w (ZU _ hw)]
  split
  ·have:x≠n:=by rintro rfl;exact h v ZQ
   simp[this]
  ·rfl
theorem q436{kindOf:Str->Option NameKind}{x:Str}:∀{binds:List (Str×Value)} {m:Mg},(∀ v,(x,v) ∉ binds)->bindC kindOf binds m x=m x
 | [],_,_=>rfl
 | (n,v)::r,m,h=>by
  unfold bindC
  rw[q436 fun w hw=>h w (ZU _ hw)]
  split
  ·rfl
  ·have:x≠n:=by rintro rfl;exact h v ZQ
   simp[this]
theorem q437{kindOf:Str->Option NameKind}{x:Str}{v:Value}:∀{P:List Str}{vs:List Value}{i:Nat}{m:Mg},P.Nodup->P[i]? = some x->vs[i]? = some v->kindOf x=some .local ->
  bindL kindOf (P.zip vs) m x=some v
 | [],_,_,_,_,h,_,_=>by simp at h
 | _::_,[],_,_,_,_,h,_=>by simp at h
 | p::P,w::vs,0,m,nd,h1,h2,hk=>by
  simp at h1 h2;subst h1;subst h2
  show bindL kindOf ((p,w)::P.zip vs) m p=_
  unfold bindL
  rw[q435 fun v hv=>(List.nodup_cons.mp nd).1 (of_mem_zip hv).1,ZL hk]
  simp
 | p::P,w::vs,i+1,m,nd,h1,h2,hk=>by
  show bindL kindOf ((p,w)::P.zip vs) m x=_
  unfold bindL
  exact q437 (i:=i) (List.nodup_cons.mp nd).2 (by simpa using h1) (by simpa using h2) hk
theorem q438{kindOf:Str->Option NameKind}{x:Str}{v:Value}:∀{P:List Str}{vs:List Value}{i:Nat}{m:Mg},P.Nodup->P[i]? = some x->vs[i]? = some v->kindOf x≠some .local ->
  bindC kindOf (P.zip vs) m x=some v
 | [],_,_,_,_,h,_,_=>by simp at h
 | _::_,[],_,_,_,_,h,_=>by simp at h
 | p::P,w::vs,0,m,nd,h1,h2,hk=>by
  simp at h1 h2;subst h1;subst h2
  show bindC kindOf ((p,w)::P.zip vs) m p=_
  unfold bindC
  rw[q436 fun v hv=>(List.nodup_cons.mp nd).1 (of_mem_zip hv).1,ZJ hk]
  simp
 | p::P,w::vs,i+1,m,nd,h1,h2,hk=>by
  show bindC kindOf ((p,w)::P.zip vs) m x=_
  unfold bindC
  exact q438 (i:=i) (List.nodup_cons.mp nd).2 (by simpa using h1) (by simpa using h2) hk
noncomputable def start(N:List Str)(vs:List V):St:=vs.map some++List.replicate (N.length-vs.length) none
noncomputable def cxOf(CX:CXT)(P:Program)(w:World)(K:Fg)(mg:Mg)(base:Heap)(N:List Str)(qual:Str)(scope:Scope)(f:Addr)(cd:Value)(A:Around)(outer:List Env)(s:Shared)(H:Hp)(E:XK):Cx where
 prog:=P
 w:=w
 K:=K
 mg:=mg
 base:=base
 A:=A.deeper (envOfC qual scope s.heap.objs.size f cd)
 N:=N
 s₀:=s
 H₀:=H
 env:=envOfC qual scope s.heap.objs.size f cd
 outer:=outer
 stack:=envOfC qual scope s.heap.objs.size f cd::outer
 ex:=[]
 calm:=true
 fn:=fun _=>true
 pn:=[]
 xe:=fun e s'=>wpAny (model P w) (A.deeper (envOfC qual scope s.heap.objs.size f cd)) (leaving (envOfC qual scope s.heap.objs.size f cd) e) (fun _ s''=>CX outer H s E e s'') (fun e' s''=>CX outer H s E e' s'') s'
theorem q569{sc:Scope}{n:Nat}(h:sc.names.lookup x=some .cell):∃ c,(cellsFrom n sc.names []).lookup x=some c:=by
 have q:=PySem.W.cellsFrom_some sc.names n [] (.inl h)
 exact Option.isSome_iff_exists.mp q
theorem q694{CX:CXT}{P:Program}{w:World}{K:Fg}{mg:Mg}{base:Heap}{N ps:List Str}{qual:Str}{scope:Scope}{f:Addr}{cd:Value}{A:Around}{outer:List Env}{s s1:Shared}{H:Hp}{E:XK}{us:List Value}{vs:List V}
  (S:FnScope N ps scope) (hd:A.handled=none) (e0:Env0 P w K mg base A outer s H) (hl:vs.length=ps.length) (r:Vals vs us)
  (x:InCallC s s.heap.objs.size (bindL (envOfC qual scope s.heap.objs.size f cd).kindOf (ps.zip us) fun _=>none) (cellsFrom (s.heap.objs.size+1) scope.names []) (bindC (envOfC qual scope s.heap.objs.size f cd).kindOf (ps.zip us) fun _=>none) s1) :
  Inv (cxOf CX P w K mg base N qual scope f cd A outer s H E) [] (start N vs) H s1:=by
 have hpl:ps.length<=N.length:=by have:=congrArg List.length S.pre;rw[WL]at this;lia
 obtain⟨h1,tk,rfl,hk⟩:=x.done
 have noA:∀ b:Addr,b ∉ (cxOf CX P w K mg base N qual scope f cd A outer s H E).ex:=fun b z=>absurd (show b∈([]:List Addr)from z) (by simp)
 refine⟨⟨e0.mod,S.kind,rfl,rfl,ZF _,fun y z c h1 h2=>?_,fun y hy=>?_,fun y c _ h=>?_,fun _=>hd,Around.frames_deeper e0.frames,.inr ⟨rfl,rfl⟩,fun b z=>absurd z (noA b),e0.bs,e0.bsz,fun b _ _=>noA b,fun b z=>absurd z (noA b),e0.funs,e0.frf⟩,
  rfl,e0.bare,Un.kept hk,⟨_,x.toInCall.ns,fun i y v h1 h2 h3=>?_⟩,fun y c h=>⟨_,x.cell y c h⟩,e0.hok.fresh (ZF _),fun y c h=>?_,fun p hp=>absurd (show p∈([]:List (Addr×Obj))from hp) (by simp),e0.hok.kept hk,?_⟩
 ·exact name_of_addr x.apart (PySem.mem_of_lookup h1) (PySem.mem_of_lookup h2)
 ·have hy:scope.names.lookup y=some .cell\/scope.names.lookup y=some .free:=hy
  rcases hy with hy | hy
  ·exact q569 hy
  ·exact absurd rfl (S.nofree _ (PySem.mem_of_lookup hy))
 ·exact Nat.le_of_lt (x.above y c (PySem.mem_of_lookup h))
 ·have hi:i<vs.length:=by
   unfold start at h2
   by_cases hi:i<vs.length
   ·exact hi
   ·rw[WM (by simpa using hi)]at h2
    rw[getElem?_replicate]at h2
    split at h2 <;> cases h2
  have ha:vs[i]? = some v:=by
   unfold start at h2
   rw[WO (by simpa using hi),WE]at h2
   cases e:vs[i]? with
   | none=>rw[e]at h2;cases h2
   | some a=>rw[e]at h2;cases h2;rfl
  obtain⟨u,hu,rv⟩:=r.get ha
  have hp:ps[i]? = some y:=by
   rw[<- S.pre,getElem?_take_of_lt (W39 hi hl)];exact h1
  have ndP:ps.Nodup:=by rw[<- S.pre];exact S.nd.sublist (take_sublist _ _)
  exists u,rv
  rcases S.par y (ZV hp)with k | k
  ·exact .inl ⟨k,q437 ndP hp hu k⟩
  ·obtain⟨c,e⟩:=q569 (n:=s.heap.objs.size+1) k
   refine .inr ⟨.inl k,c,e,?_⟩
   have q:=x.cell y c e
   rw[q438 ndP hp hu (by show scope.names.lookup y≠_;rw[k];decide)]at q
   exact q
 ·exact e0.hok.fresh (Nat.le_of_lt (x.above y c (PySem.mem_of_lookup h)))
 ·unfold start
  show _=N.length
  rw[ZM,ZK,length_replicate]
  lia
theorem fn_of{CX:CXT}{P:Program}{w:World}{K:Fg}{mg:Mg}{base:Heap}{k:Nat}{f:Addr}{name qual:Str}{params:Arguments}{body:List Stmt}{scope:Scope}{dV kV doc pm cdv ct oc:Value}{an od:Option Addr}
  {osl:Array (Option Value)} {N ps:List Str} {sp:Sp} (lk:K.lookup f=some ⟨oc,od,.func (PySem.W.fnOf name qual params body scope dV kV doc pm an cdv ct),osl⟩) (hcd:PySem.W.codeIn K cdv qual=true) (S:FnScope N ps scope)
  (len:∀ vs H Q E,sp vs H Q E->vs.length=ps.length)
  (hbody:∀(A:Around)(outer:List Env)(s:Shared)(H:Hp)(vs:List V)(Q:VK)(E:XK),Room k (A.deeper (envOfC qual scope s.heap.objs.size f cdv))->sp vs H Q E ->
   ∃ t,PSs (cxOf CX P w K mg base N qual scope f cdv A outer s H E) body t/\t { nx:=fun _ H'=>Q .non H',rt:=Q } (start N vs) H) :
  FnOk P w K mg base CX (k+1) f (PySem.W.fnOf name qual params body scope dV kV doc pm an cdv ct) ps sp:=by
 refine⟨len,fun A outer s H args us vs Q E hr e0 hb r hsp=>?_⟩
 have hl:=len _ _ _ _ hsp
 have KX:K.In s.heap:=e0.mod.kin.keeps fun b o e=>(e0.bs b o e).1
 have lim:s.heap.NoLimit:=e0.mod.nolimit.keeps fun b o e=>(e0.bs b o e).1
 have hkind:∀ y∈ps.zip us,scope.names.lookup y.1=some .local\/(scope.names.lookup y.1=some .cell/\((cellsFrom (s.heap.objs.size+1) scope.names []).lookup y.1).isSome=true):=fun⟨n,v⟩ hy=>by
  rcases S.par n (of_mem_zip hy).1 with q | q
  ·exact .inl q
  ·exact .inr ⟨q,PySem.W.cellsFrom_some _ _ _ (.inl q)⟩
 refine codeAny_call_function hr.depth (KX _ _ lk) rfl S.co S.gen rfl (PySem.W.codeRec_of KX hcd) (hb _ _ _ _ ?_)
 refine wpAny_newFunctionEnv_cells S.kind hkind fun env he s1 x=>?_
 subst he
 refine⟨lim.keeps x.toInCall.keep,codeAny_func ?_⟩
 obtain⟨t,ht,hq⟩:=hbody A outer s H vs Q E (hr.deeper _) hsp
 have I:Inv (cxOf CX P w K mg base N qual scope f cdv A outer s H E) [] (start N vs) H s1:=q694 S hr.hd e0 hl r x
 refine WX (ht [] s1 (start N vs) H _ I hq) (fun fl s' hs=>?_) fun e s' hs=>hs
 have fin:∀{σ':St}{H':Hp}{v:V}{u:Value},Inv (cxOf CX P w K mg base N qual scope f cdv A outer s H E) [] σ' H' s'->RelV v u->Q v H'->CE outer P w H s Q u s':=
  fun {σ' H' v u} J rv q=>⟨v,H',J.os,J.bare,J.base,J.hok,rv,q⟩
 cases fl with
 | ret u=>
  obtain⟨v,σ',H',J,rv,q⟩:=hs
  exact fin J rv q
 | next=>
  obtain⟨σ',H',J,q⟩:=hs
  exact fin (v:=V.non) (u:=Value.none) J rfl q
 | brk=>
  obtain⟨_,_,_,q⟩:=hs
  exact False.elim q
 | cont=>
  obtain⟨_,_,_,q⟩:=hs
  exact False.elim q
section
variable {x:Str} {p pos:Pos} {e:Expr} {es:List Expr} {t:TA} {id T:String} {r:List V->Hp->VK->Prop}
def tCB(r:List V->Hp->VK->Prop)(t:TA):TE:=fun σ H Q=>t σ H fun vs H1=>r vs H1 Q
theorem q38(hc:CallR X (.builtin id) r)(hg:Gl X x)(hm:X.mg x=none)(hv:bootBuiltins x=some (.builtin id))(ha:PA X (e::es) t)(hn:x ≠ "__name__" := by decide) (hdb:(x==("__debug__" : Str))=false:=by decide)
  (he:starEach (e::es) X.env=(false,eval e X.env)::starEach es X.env:=by rfl) (hpl:(backTo pos (starEach es X.env)).any (·.1)=false:=by rfl):PE X (.Call (.Name x p) (e::es) [] pos) (tCB r t):=by
 intro pins s σ H Q I h
 refine wpAny_Call_Name_kw (q255 I hg hm hv ?_ hn hdb)
 exact PyProof.Rows.callWith_builtin1 (thn (ha pos pins s σ H _ I h) fun us s1 ⟨vs,H1,I1,r1,q1⟩=>hc pins s1 σ H1 vs us Q I1 r1 q1) he hpl
theorem q29(hc:CallR X (.type T) r)(hg:Gl X x)(hm:X.mg x=none)(hv:bootBuiltins x=some (.type T))(ha:PA X (e::es) t)(hn:x ≠ "__name__" := by decide) (hdb:(x==("__debug__" : Str))=false:=by decide)
  (he:starEach (e::es) X.env=(false,eval e X.env)::starEach es X.env:=by rfl) (hpl:(backTo pos (starEach es X.env)).any (·.1)=false:=by rfl):PE X (.Call (.Name x p) (e::es) [] pos) (tCB r t):=by
 intro pins s σ H Q I h
 refine wpAny_Call_Name_kw (q255 I hg hm hv ?_ hn hdb)
 exact PyProof.Rows.callWith_type1 (thn (ha pos pins s σ H _ I h) fun us s1 ⟨vs,H1,I1,r1,q1⟩=>hc pins s1 σ H1 vs us Q I1 r1 q1) he hpl
end
end L2
namespace HT
set_option autoImplicit false
open PySem PyProof.Rows
section
open PySem.SeqAt
open PySem.AutoSeq1 (wpAny_loadPart')
open PySem.MeetsSeq PySem.MeetsSeq2 PySem.MeetsSeq3
end
section
variable {prog:Program} {w:World} {A:Around} {E:VS} {s:Shared}
noncomputable def sIx(n d:Nat):Option Int->Nat
 | none=>d
 | some v=>if v<0 then(v+(n:Int)).toNat else min v.toNat n
theorem q800(n d:Nat):sIx n d none=d:=rfl
theorem q801(n d k:Nat):sIx n d (some (k:Int))=min k n:=by
 show(if(k:Int)<0 then((k:Int)+(n:Int)).toNat else min (k:Int).toNat n)=min k n
 rw[ZJ W84,Int.toNat_natCast]
theorem sIx_le(n d:Nat)(hd:d<=n)(o:Option Int):sIx n d o<=n:=by
 cases o with
 | none=>exact hd
 | some v=>
  show(if v<0 then(v+(n:Int)).toNat else min v.toNat n)<=n
  by_cases hv:v<0
  ·rw[ZL hv];lia
  ·rw[ZJ hv];exact Nat.min_le_right _ _
theorem q695(v:Int)(n d:Nat):(if v<0 then max (v+(n:Int)) 0 else min v (n:Int))=((sIx n d (some v):Nat):Int):=by
 show(if v<0 then max (v+(n:Int)) 0 else min v (n:Int))=(((if v<0 then(v+(n:Int)).toNat else min v.toNat n):Nat):Int)
 by_cases hv:v<0
 ·simp only[ZL hv];lia
 ·simp only[ZJ hv];lia
theorem q633(lo hi:Option Int)(n:Nat):Builtin.Slice.sliceAdjust lo hi 1 (n:Int)=(((sIx n 0 lo:Nat):Int),((sIx n n hi:Nat):Int)):=by
 have h1:¬((1:Int)<0):=∅
 unfold Builtin.Slice.sliceAdjust
 simp only[h1,if_false]
 refine Prod.ext ?_ ?_
 ·cases lo with
  | none=>rfl
  | some v=>exact q695 v n 0
 ·cases hi with
  | none=>rfl
  | some v=>exact q695 v n n
theorem q634(i j:Nat):Builtin.Slice.slicePlaces (i:Int) (j:Int) 1=j-i:=by
 unfold Builtin.Slice.slicePlaces
 have h1:(1:Int) > 0:=∅
 simp only[h1,if_true,Int.ediv_one]
 split <;> lia
theorem q336{v:Value}{o:Option Int}{Q:Option Int->Shared->Prop}(p:IsPart v o)(h:Q o s):wpAny (model prog w) A (Builtin.Slice.slicePartIndex v) Q E s:=by
 cases p with
 | none=>exact slicePart_none h
 | int i t=>exact slicePart_int h
theorem q121{sl:Addr}{vl vu:Value}{lo hi:Option Int}{n:Nat}{Q:Int×Int×Nat->Shared->Prop}(hs:s.heap.IsSliceOf sl vl vu .none)(pl:IsPart vl lo)(pu:IsPart vu hi)
  (h:Q (((sIx n 0 lo:Nat):Int),1,sIx n n hi-sIx n 0 lo) s):wpAny (model prog w) A (Builtin.Slice.sliceApplied (.ref sl) (pure (n:Int))) Q E s:=by
 obtain⟨os,hos,hcs,hds⟩:=id hs
 unfold Builtin.Slice.sliceApplied Builtin.Slice.sliceFields
 refine ZA (ZA (YD hos hds (x:=vl) rfl (ZA (YD hos hds (x:=vu) rfl (ZA (YD hos hds (x:=.none) rfl (ZO ?_)))))))
 refine ZA (slicePart_none ?_)
 show wpAny _ _ (if((1:Int)==0)=true then _ else _) _ _ s
 rw[ZJ {}]
 refine ZA (q336 pl (ZA (q336 pu (ZA (ZO ?_)))))
 show wpAny _ _ (match Builtin.Slice.sliceAdjust lo hi 1 (n:Int)with | (lo,hi)=>pure (lo,(1:Int),Builtin.Slice.slicePlaces lo hi 1)) _ _ s
 rw[q633 lo hi n]
 show wpAny _ _ (pure (((sIx n 0 lo:Nat):Int),(1:Int),Builtin.Slice.slicePlaces ((sIx n 0 lo:Nat):Int) ((sIx n n hi:Nat):Int) 1)) _ _ s
 rw[q634]
 exact ZO h
theorem pick_gen(xs:Array Value)(i k:Nat):((List.range k).filterMap fun(m:Nat)=>xs[((i:Int)+(m:Int)*1).toNat]?).toArray=((xs.toList.drop i).take k).toArray:=by
 have e:(fun(m:Nat)=>xs[((i:Int)+(m:Int)*1).toNat]?)=fun m=>xs[i+m]?:=by
  funext m
  have:((i:Int)+(m:Int)*1).toNat=i+m:=W31
  rw[this]
 rw[e]
 have:=pick_run xs i k
 rw[List.filterMap_map]at this
 have e2:((fun x=>xs[x]?)∘fun x=>i+x)=fun m=>xs[i+m]?:=rfl
 rw[e2]at this
 rw[this]
theorem q635{t sl:Addr}{items:Array Value}{vl vu:Value}{lo hi:Option Int}{Q:VS}(ht:IsTup s.heap t items)(hs:s.heap.IsSliceOf sl vl vu .none)(pl:IsPart vl lo)(pu:IsPart vu hi)
  (hw:¬(sIx items.size 0 lo=0/\sIx items.size items.size hi=items.size))
  (h:Q (.ref s.heap.objs.size) { s with heap:=s.heap.push { cls:=.type "tuple", data:=.seq ((items.toList.drop (sIx items.size 0 lo)).take (sIx items.size items.size hi-sIx items.size 0 lo)).toArray } })
  (hsz:items.size<=sizeLine):wpAny (model prog w) A (getItem (.ref t) (.ref sl)) Q E s:=by
 have htake:sizeOk (.seq ((items.toList.drop (sIx items.size 0 lo)).take (sIx items.size items.size hi-sIx items.size 0 lo)).toArray):=by
  show((items.toList.drop (sIx items.size 0 lo)).take (sIx items.size items.size hi-sIx items.size 0 lo)).toArray.size<=sizeLine
  rw[List.size_toArray,List.length_take,List.length_drop,WY]
  lia
 have hj:sIx items.size items.size hi<=items.size:=sIx_le _ _ (ZF _) hi
 obtain⟨os,hos,hcs,hds⟩:=id hs
 have hTs:s.TypeIs (.ref sl) "slice" := ⟨os,hos,hcs⟩
 unfold getItem
 try with_reducible refine YU ?_
 first | refine ZA (ZO ?_) | skip
 refine ZA (wpAny_sequenceKey ht.typeIs {} ?_)
 refine ZA (YE (name:=Str.ofString "__getitem__") ht.typeIs PyProof.Rows.slot_tuple_getitem
  (YJ PyProof.Rows.slot_tuple_getitem ht.typeIs entry_tuple_getitem ?_ (args_tuple_getitem _ _)))
 show wpAny _ _ (Builtin.Tuple.tupleItemsOf (.ref t) >>= _) _ _ s
 refine ZA (tupleItemsOf_ ht ?_)
 refine ZA (wpAny_typeOf hTs ?_)
 rw[ZL {}]
 refine ZA (q121 hs pl pu ?_)
 have hno:¬((((sIx items.size 0 lo:Nat):Int)==0&&(1:Int)==1&&(sIx items.size items.size hi-sIx items.size 0 lo)==items.size)=true):=by
  intro q
  rw[WZ,WZ]at q
  have q1:((sIx items.size 0 lo:Nat):Int)=0:=eq_of_beq q.1.1
  have q2:sIx items.size items.size hi-sIx items.size 0 lo=items.size:=eq_of_beq q.2
  exact hw ⟨(W166 q1),∅⟩
 show wpAny _ _ (if(((sIx items.size 0 lo:Nat):Int)==0&&(1:Int)==1&&(sIx items.size items.size hi-sIx items.size 0 lo)==items.size)=true then _ else _) _ _ s
 rw[ZJ hno,pick_gen]
 first
  | exact ZA (m:=Builtin.Tuple.tupleExact _) (YZ (ZO ⟨_,rfl,ZO h⟩) htake)
  | exact ZA (m:=Builtin.Tuple.tupleExact _) (YZ (ZA (ZO (ZO ⟨_,rfl,ZO h⟩))) htake)
  | exact ZA (ZA (m:=Builtin.Tuple.tupleExact _) (YZ (ZO (ZO ⟨_,rfl,ZO h⟩)) htake))
  | exact ZA (ZA (m:=Builtin.Tuple.tupleExact _) (YZ (ZO ⟨_,rfl,ZO h⟩) htake))
end
end HT
namespace L2
open PySem PySem.Spec PyProof.Rows List
variable {X:Cx}
abbrev TO:=St->Hp->(Option Int->Hp->Prop)->Prop
def PO(X:Cx)(e:Option Expr)(t:TO):Prop:=
 ∀(pins:List (Addr×Obj)) (s:Shared) (σ:St) (H:Hp) (Q:Option Int->Hp->Prop),Inv X pins σ H s->t σ H Q ->
  wpAny (model X.prog X.w) X.A (evalPart e X.env) (fun u s'=>∃ o H',Inv X pins σ H' s'/\IsPart u o/\Q o H') X.xe s
def tNoPart:TO:=fun _ H Q=>Q none H
inductive jPart(x:V)(H:Hp)(Q:Option Int->Hp->Prop):Prop
 |mk(i:Int)(_:x = .int i)(_:Q (some i) H)
def tPart(t:TE):TO:=fun σ H Q=>t σ H fun x H1=>jPart x H1 Q
theorem q337{ns:List Int}:∀{us:List Value},Vals (ns.map V.int) us->IntsAre us ns:=by
 induction ns with
 | nil=>intro us r;rw[map_nil]at r;cases r;exact .nil
 | cons n ns ih=>
  intro us r
  rw[YA]at r
  cases r with
  | cons r1 r2=>
   obtain⟨t,e⟩:=r1
   subst e
   exact .cons n t (ih r2)
section
variable {e:Expr} {te:TE} {lo hi:Option Expr} {tl th:TO} {pos p2:Pos}
theorem q110:PO X none tNoPart:=by
 intro pins s σ H Q I h
 rw[evalPart_none]
 exact ZO ⟨none,H,I,.none,h⟩
theorem q88(h:PE X e te):PO X (some e) (tPart te):=by
 intro pins s σ H Q I hw
 rw[evalPart_some]
 refine thn (h pins s σ H _ I hw) fun u s1 ⟨x,H1,I1,r1,q1⟩=>?_
 obtain⟨i,rfl,q⟩:=q1
 obtain⟨t,rfl⟩:=r1
 exact⟨some i,H1,I1,.int i t,q⟩
def SlR(X:Cx)(r:V->Option Int->Option Int->Hp->VK->Prop):Prop:=
 ∀(pins:List (Addr×Obj)) (s:Shared) (σ:St) (H:Hp) (x:V) (v vl vu:Value) (lo hi:Option Int) (sl:Addr) (Q:VK),Inv X pins σ H s->RelV x v->s.heap.IsSliceOf sl vl vu .none->IsPart vl lo->IsPart vu hi->r x lo hi H Q ->
  ∃ T id,typeLookup (.type T) "__getitem__" = pure (some (.builtin id))/\s.TypeIs v T/\wpAny (model X.prog X.w) X.A (getItem v (.ref sl)) (EP X pins σ Q) X.xe s
def tSl(r:V->Option Int->Option Int->Hp->VK->Prop)(te:TE)(tl th:TO):TE:=fun σ H Q=>te σ H fun x H1=>tl σ H1 fun l H2=>th σ H2 fun u H3=>r x l u H3 Q
theorem q80(hr:SlR X r)(he:PE X e te)(hl:PO X lo tl)(hu:PO X hi th):PE X (.Subscript e (.Slice lo hi none p2) pos) (tSl r te tl th):=by
 intro pins s σ H Q I h
 refine Subscript_ (thn (he pins s σ H _ I h) fun v s1 ⟨x,H1,I1,r1,q1⟩=>?_)
 refine wpAny_Slice (thn (hl pins s1 σ H1 _ I1 q1) fun vl s2 ⟨l,H2,I2,pl,q2⟩=>thn (hu pins s2 σ H2 _ I2 q2) fun vu s3 ⟨u,H3,I3,pu,q3⟩=>?_)
 rw[evalPart_none]
 refine ZO ?_
 have I4:Inv X pins σ H3 { s3 with heap:=s3.heap.push { cls:=.type "slice", data:=.fields #[vl,vu,.none] } }:=I3.kept (t':=s3.toks) fun b ob q=>ZE _ q
 obtain⟨T,id,hT,ht,hg⟩:=hr pins { s3 with heap:=s3.heap.push { cls:=.type "slice", data:=.fields #[vl,vu,.none] } } σ H3 x v vl vu l u s3.heap.objs.size Q I4 r1 (Heap.IsSliceOf.new ..) pl pu q3
 show wpAny (model X.prog X.w) X.A (subscriptTail e (.Slice lo hi none p2) v (.ref s3.heap.objs.size)) (EP X pins σ Q) X.xe { s3 with heap:=s3.heap.push { cls:=.type "slice", data:=.fields #[vl,vu,.none] } }
 exact tail_any (ops:=[.ref s3.heap.objs.size,v]) ht hT hg (by with_unfolding_all rfl)
noncomputable def cutV(xs:List V)(lo hi:Option Int):List V:=(xs.drop (HT.sIx xs.length 0 lo)).take (HT.sIx xs.length xs.length hi-HT.sIx xs.length 0 lo)
theorem q262(xs:List V)(lo hi:Option Int):(cutV xs lo hi).length<=xs.length:=by
 unfold cutV
 rw[WL,length_drop]
 lia
theorem Vals.nil_iff(r:Vals xs us):us=[]↔xs=[]:=by
 cases r with
 | nil=>simp
 | cons _ _=>simp
end
noncomputable def ixN(n:Nat)(i:Int):Option Nat:=if 0<=i then(if i<n then some i.toNat else none)else if -(n:Int)<=i then some (i+n).toNat else none
noncomputable def atI{α:Type}(xs:List α)(i:Int):Option α:=(ixN xs.length i).bind fun j=>xs[j]?
theorem q696{n:Nat}{i:Int}{j:Nat}(h:ixN n i=some j):seqIndex? i n=some j/\j<n /\ -(n:Int)<=i/\i<n:=by
 unfold ixN at h
 by_cases h0:0<=i
 ·rw[ZL h0]at h
  by_cases h1:i<n
  ·rw[ZL h1]at h
   have e:i.toNat=j:=Option.some.inj h
   exact⟨by rw[seqIndex_of h0 h1,e],∅,∅,h1⟩
  ·rw[ZJ h1]at h;cases h
 ·rw[ZJ h0]at h
  by_cases h1:-(n:Int)<=i
  ·rw[ZL h1]at h
   have e:(i+n).toNat=j:=Option.some.inj h
   exact⟨by rw[seqIndex_neg (W137 h0) h1,e],∅,h1,∅⟩
  ·rw[ZJ h1]at h;cases h
theorem q520{α:Type}{xs:List α}{i:Int}{v:α}(h:atI xs i=some v):∃ j,seqIndex? i xs.length=some j/\xs[j]? = some v/\j<xs.length /\ -(xs.length:Int)<=i/\i<xs.length:=by
 unfold atI at h
 cases e:ixN xs.length i with
 | none=>rw[e]at h;cases h
 | some j=>
  rw[e]at h
  obtain⟨h1,h2,h3,h4⟩:=q696 e
  exact⟨j,h1,h,h2,h3,h4⟩
theorem q41{α:Type}{xs:List α}{j:Nat}{v:α}(h:xs[j]? = some v):atI xs (j:Int)=some v:=by
 have hj:j<xs.length:=(List.getElem?_eq_some_iff.mp h).1
 have e:ixN xs.length (j:Int)=some j:=by
  unfold ixN
  rw[ZL W13,ZL (W88 hj)];simp
 unfold atI;rw[e];exact h
theorem atI_last{α:Type}(xs:List α)(v:α):atI (xs++[v]) (-1)=some v:=by
 have hl:(xs++[v]).length=xs.length+1:=by simp
 have e:ixN (xs++[v]).length (-1)=some xs.length:=by
  unfold ixN
  rw[hl,ZJ {},ZL ∅]
  congr 1
  lia
 unfold atI
 rw[e]
 show(xs++[v])[xs.length]? = some v
 simp
def q697(b:Expr):Prop:=∀ o i,subscripted b false o i=operate [o,i] (getItem o i)
def IxR(X:Cx)(r:R2):Prop:=
 ∀(value slice:Expr) (pins:List (Addr×Obj)) (s:Shared) (σ:St) (H:Hp) (x y:V) (v u:Value) (Q:VK),Inv X pins σ H s->RelV x v->RelV y u->r x y H Q ->
  subscripted slice false v u=operate [v,u] (getItem v u)->wpAny (model X.prog X.w) X.A (subscriptTail value slice v u) (EP X pins σ Q) X.xe s
def MtR(X:Cx)(id:String)(r:V->List V->Hp->VK->Prop):Prop:=
 ∀(pins:List (Addr×Obj)) (s:Shared) (σ:St) (H:Hp) (x:V) (xs:List V) (v:Value) (us:List Value) (Q:VK),Inv X pins σ H s->RelV x v->Vals xs us->r x xs H Q ->
  wpAny (model X.prog X.w) X.A (call (.builtin id) (v::us)) (EP X pins σ Q) X.xe s
section
variable{a b:Expr}{ta tb:TE}{pos:Pos}
theorem pe_ix(hr:IxR X r)(ha:PE X a ta)(hb:PE X b tb)(hs:q697 b):PE X (.Subscript a b pos) (tOp r ta tb):=by
 intro pins s σ H Q I h
 exact Subscript_ (binT ha hb I h fun v u s2 x y H2 I2 rx ry q=>hr a b pins s2 σ H2 x y v u Q I2 rx ry q (hs _ _))
inductive rIxL(K:Fg)(x y:V)(H:Hp)(Q:VK):Prop
 |mk(p:Addr)(xs:List V)(i:Int)(v:V)(_:x = .ref p)(_:y = .int i)(_:SqL K H p xs)(_:atI xs i=some v)(_:Q v H)
inductive rIxT(K:Fg)(x y:V)(H:Hp)(Q:VK):Prop
 |mk(p:Addr)(xs:List V)(i:Int)(v:V)(_:x = .ref p)(_:y = .int i)(_:SqT K H p xs)(_:atI xs i=some v)(_:Q v H)
inductive rIxS  (x:V) (y:V) (H:Hp) (Q:VK):Prop
 |mk(z i c)(_:x = .str z)(_:y = .int i)(_:z.length<=sizeLine)(_:atI z.cps.toList i=some c)(_:Q (.str ⟨#[c]⟩) H)
theorem q32:IxR X (rIxL X.K):=by
 intro value slice pins s σ H x y v u Q I rx ry h hs
 obtain⟨p,xs,i,z,rfl,rfl,hq,he,q⟩:=h
 cases rx
 obtain⟨t,rfl⟩:=ry
 obtain⟨its,r,pl,hz⟩:=I.list hq
 obtain⟨j,h1,h2,h3,h4,h5⟩:=q520 he
 obtain⟨w,ew,rw'⟩:=r.get h2
 have hl:=r.length
 have hn:=q334
 have fin:EP X pins σ Q w s:=⟨z,H,I,rw',q⟩
 by_cases h0:0<=i
 ·have hj:i.toNat=j:=by
   rw[seqIndex_of h0 h5]at h1
   exact Option.some.inj h1
  exact item_listR pl.isList h0 (W193 hn hl hz h5) (by rw[hj];simpa using ew) fin hs
 ·have hj:(i+(its.toArray.size:Int)).toNat=j:=by
   rw[seqIndex_neg (W137 h0) h4]at h1
   rw[WC,<- hl]
   exact Option.some.inj h1
  exact subscriptTail_builtinR (x:=w) pl.isList.typeIs slot_list_getitem.lookup
   (wpAny_getItem_list_neg (Q:=fun r s'=>r=w/\EP X pins σ Q r s') pl.isList ∅ (by rw[WC] <;> lia) (W187 h4 hn hl hz) (by rw[hj];simpa using ew) ⟨rfl,fin⟩) hs
theorem q30:IxR X (rIxT X.K):=by
 intro value slice pins s σ H x y v u Q I rx ry h hs
 obtain⟨p,xs,i,z,rfl,rfl,hq,he,q⟩:=h
 cases rx
 obtain⟨t,rfl⟩:=ry
 obtain⟨its,r,pl,hz⟩:=I.tuple hq
 obtain⟨j,h1,h2,h3,h4,h5⟩:=q520 he
 obtain⟨w,ew,rw'⟩:=r.get h2
 have hl:=r.length
 have hn:=q334
 have fin:EP X pins σ Q w s:=⟨z,H,I,rw',q⟩
 exact subscriptTail_builtinR (x:=w) pl.typeIs slot_tuple_getitem.lookup
  (getItem_tuple (j:=j) (Q:=fun r s'=>r=w/\EP X pins σ Q r s') pl ∅ ∅ (by rw[WC,<- hl];exact h1) (by simpa using ew) ⟨rfl,fin⟩) hs
theorem ix_str:IxR X rIxS:=by
 intro value slice pins s σ H x y v u Q I rx ry h hs
 obtain⟨z,i,c,rfl,rfl,hz,he,q⟩:=h
 obtain⟨t,rfl⟩:=rx
 obtain⟨t',rfl⟩:=ry
 obtain⟨j,h1,h2,h3,h4,h5⟩:=q520 he
 have hl:z.cps.toList.length=z.length:=by simp[Str.length]
 rw[hl]at h1 h4 h5
 have hn:=q334
 exact tail_any (typeIs_str s z t) slot_str_getitem.lookup (getItem_str (c:=c) (by
  have e1:decide (i < -(2^63:Int))=false:=ZS ∅
  have e2:decide (i>=2^63)=false:=ZS ∅
  rw[e1,e2,Bool.or_false]) (by rw[h1];simpa using h2) ⟨.str ⟨#[c]⟩,H,I.tok _,⟨_,rfl⟩,q⟩) hs
theorem q636(its:List Value)(n j:Nat)(u:Value):Obj.mapSeq (·.setIfInBounds j u) { cls:=.type "list", data:=.seq its.toArray n } = { cls:=.type "list", data:=.seq (its.set j u).toArray n }:=by
 simp[Obj.mapSeq]
theorem Inv.lst{s:Shared}(I:Inv X pins σ H s)(h:H p=some (.lst xs)) :
  ∃(its:List Value)(n:Nat),Vals xs its/\s.heap.get? p=some { cls:=.type "list", data:=.seq its.toArray n }/\xs.length<=sizeLine:=by
 obtain⟨z,its,n,r,e⟩:=I.hok p _ h
 exact⟨its,n,r,e,z⟩
theorem Inv.lstUpd{s:Shared}{ys:List V}{its its':List Value}{n n':Nat}{f:Obj->Obj}(I:Inv X pins σ H s)(h:H p=some (.lst xs))
  (ho:s.heap.get? p=some { cls:=.type "list", data:=.seq its.toArray n }) (hf:f { cls:=.type "list", data:=.seq its.toArray n } = { cls:=.type "list", data:=.seq its'.toArray n' }) (r:Vals ys its') (hz:ys.length<=sizeLine) (t:Nat) :
  Inv X pins σ (upd H p (.lst ys)) { s with heap:=s.heap.update p f,toks:=t }:=by
 have e:(s.heap.update p f).get? p=some { cls:=.type "list", data:=.seq its'.toArray n' }:=by
  rw[Heap.get?_update_self f ho (by rw[hf] <;> rfl),hf]
 refine I.write (x:=p) (e:=p) (by rw[h];trivial) (.inl rfl) (fun b u hb q=>(Heap.get?_update_other _ _ (Ne.symm hb)).trans q) ⟨_,e⟩ ?_
 exact⟨hz,its',n',r,e⟩
inductive rSetL  (o:V) (i:V) (v:V) (H:Hp) (Q:Hp->Prop):Prop
 |mk(p xs k j)(_:o = .ref p)(_:i = .int k)(_:H p=some (.lst xs))(_:ixN xs.length k=some j)(_:Q (upd H p (.lst (xs.set j v))))
theorem set_list:PSet X rSetL:=by
 intro pins s σ H o i v ov iv u Q I ro ri rv h
 obtain⟨p,xs,k,j,rfl,rfl,hp,hj,q⟩:=h
 cases ro
 obtain⟨t,rfl⟩:=ri
 obtain⟨its,n,r,ho,hz⟩:=I.lst hp
 obtain⟨h1,h2,h3,h4⟩:=q696 hj
 have hl:=r.length
 have hn:=q334
 have I':Inv X pins σ (upd H p (.lst (xs.set j v))) { s with heap:=s.heap.update p (Obj.mapSeq (·.setIfInBounds j u)) }:=
  I.lstUpd hp ho (q636 its n j u) (r.set rv j) (by rw[length_set];exact hz) s.toks
 by_cases h0:0<=k
 ·have hk:k.toNat=j:=by
   rw[seqIndex_of h0 h4]at h1
   exact Option.some.inj h1
  exact PySem.W.ki_setAt ho h0 (W193 hn hl hz h4) (by rw[WC,<- hl];exact h4) (by rw[hk];exact⟨_,I',q⟩)
 ·have hk:(k+(its.toArray.size:Int)).toNat=j:=by
   rw[seqIndex_neg (W137 h0) h3]at h1
   rw[WC,<- hl]
   exact Option.some.inj h1
  exact PySem.W.ki_setBack ho ∅ (by rw[WC,<- hl];exact h3) (W187 h3 hn hl hz) (by rw[hk];exact⟨_,I',q⟩)
theorem q439(lo hi:Option Int)(n:Nat):(sliceBounds lo hi none n).1=((HT.sIx n 0 lo:Nat):Int)/\(sliceBounds lo hi none n).2.1=((HT.sIx n n hi:Nat):Int)/\(sliceBounds lo hi none n).2.2=1:=by
 refine⟨?_,?_,rfl⟩
 ·cases lo with
  | none=>simp[sliceBounds,HT.sIx]
  | some i=>
   simp only[sliceBounds,HT.sIx,Option.getD_none,show(1:Int) > 0 by decide,if_true]
   by_cases h:i<0
   ·simp only[h,if_true] <;> lia
   ·simp only[h,if_false] <;> lia
 ·cases hi with
  | none=>simp[sliceBounds,HT.sIx]
  | some i=>
   simp only[sliceBounds,HT.sIx,Option.getD_none,show(1:Int) > 0 by decide,if_true]
   by_cases h:i<0
   ·simp only[h,if_true] <;> lia
   ·simp only[h,if_false] <;> lia
theorem q376(its:List Value)(lo hi:Option Int):slicePick its.toArray lo hi none=((its.drop (HT.sIx its.length 0 lo)).take (HT.sIx its.length its.length hi-HT.sIx its.length 0 lo)).toArray:=by
 obtain⟨h1,h2,h3⟩:=q439 lo hi its.toArray.size
 unfold slicePick
 rw[h1,h2,h3]
 simp only[sliceRange_one,pick_run,WC] <;> rfl
inductive rSlL(K:Fg)(x:V)(lo:Option Int)(hi:Option Int)(H:Hp)(Q:VK):Prop
 |mk(a xs)(_:x = .ref a)(_:SqL K H a xs)(_:∀ p,H p=none->Q (.ref p) (upd H p (.lst (cutV xs lo hi))))
theorem q165:SlR X (rSlL X.K):=by
 intro pins s σ H x v vl vu lo hi sl Q I rx hs pl pu h
 obtain⟨a,xs,rfl,hx,q⟩:=h
 cases rx
 obtain⟨its,r,ht,hz⟩:=I.list hx
 have hlen:=r.length
 exists "list", _,slot_list_getitem.lookup,ht.isList.typeIs
 refine wpAny_getItem_list_slice ht.isList hs pl pu .none (by simp) ?_ (by rw[WC] <;> exact W203 hlen hz)
 rw[q376,<- hlen]
 refine⟨.ref s.heap.objs.size,_,I.laid (t':=s.toks) (o:=.lst (cutV xs lo hi)) (fun b ob q=>ZE _ q) (ZF _) ?_,rfl,q _ (I.hok.fresh (ZF _))⟩
 exact⟨ZT (q262 xs lo hi) hz,_,0,(r.drop (HT.sIx xs.length 0 lo)).take (HT.sIx xs.length xs.length hi-HT.sIx xs.length 0 lo),ZY _ rfl⟩
noncomputable def flatV:V->Bool
 | .non=>true
 | .bl _=>true
 | .int _=>true
 | .str _=>true
 | _=>false
noncomputable def eqV:V->V->Bool
 | .non,.non=>true
 | .bl a,.bl b=>a==b
 | .bl a,.int b=>(if a then 1 else 0)==b
 | .int a,.bl b=>a==(if b then 1 else 0)
 | .int a,.int b=>a==b
 | .str a,.str b=>a==b
 | _,_=>false
theorem eqAt_V(ry:RelV y u)(rx:RelV x v)(fy:flatV y=true)(fx:flatV x=true):SeqAt.EqAt A s u v (eqV y x):=by
 cases y with
 | non=>
  cases ry
  cases x with
  | non=>cases rx;exact SeqAt.EqAt.same _
  | bl b=>cases rx;exact SeqAt.EqAt.none_bool b
  | int b=>obtain⟨t,rfl⟩:=rx;exact SeqAt.EqAt.none_int b t
  | str b=>obtain⟨t,rfl⟩:=rx;exact SeqAt.EqAt.none_str b t
  | _=>exact absurd (show false=true from fx) fnt
 | bl a=>
  cases ry
  cases x with
  | non=>cases rx;exact SeqAt.EqAt.bool_none a
  | bl b=>cases rx;exact SeqAt.EqAt.bool_bool a b
  | int b=>obtain⟨t,rfl⟩:=rx;exact SeqAt.EqAt.bool_int a b t
  | str b=>obtain⟨t,rfl⟩:=rx;exact SeqAt.EqAt.bool_str a b t
  | _=>exact absurd (show false=true from fx) fnt
 | int a=>
  obtain⟨t',rfl⟩:=ry
  cases x with
  | non=>cases rx;exact SeqAt.EqAt.int_none a t'
  | bl b=>cases rx;exact SeqAt.EqAt.int_bool a t' b
  | int b=>obtain⟨t,rfl⟩:=rx;exact SeqAt.EqAt.int_int a t' b t
  | str b=>obtain⟨t,rfl⟩:=rx;exact SeqAt.EqAt.int_str a t' b t
  | _=>exact absurd (show false=true from fx) fnt
 | str a=>
  obtain⟨t',rfl⟩:=ry
  cases x with
  | non=>cases rx;exact SeqAt.EqAt.str_none a t'
  | bl b=>cases rx;exact SeqAt.EqAt.str_bool a t' b
  | int b=>obtain⟨t,rfl⟩:=rx;exact SeqAt.EqAt.str_int a t' b t
  | str b=>obtain⟨t,rfl⟩:=rx;exact SeqAt.EqAt.str_str a t' b t
  | _=>exact absurd (show false=true from fx) fnt
 | _=>exact absurd (show false=true from fy) fnt
noncomputable def eqU(x:V)(u:Value):Bool:=match u with
 | .none=>eqV .non x
 | .bool b=>eqV (.bl b) x
 | .int i _=>eqV (.int i) x
 | .str z _=>eqV (.str z) x
 | _=>false
theorem q698(r:RelV y u)(f:flatV y=true):eqU x u=eqV y x:=by
 cases y with
 | non=>cases r;rfl
 | bl b=>cases r;rfl
 | int i=>obtain⟨t,rfl⟩:=r;rfl
 | str z=>obtain⟨t,rfl⟩:=r;rfl
 | _=>exact absurd (show false=true from f) fnt
theorem q521{x:V}:∀{xs:List V}{us:List Value},Vals xs us->xs.all flatV=true->us.any (eqU x)=xs.any fun y=>eqV y x
 | _,_,.nil,_=>rfl
 | y::xs,u::us,.cons r t,f=>by
  rw[all_cons,WZ]at f
  rw[any_cons,any_cons,q698 r f.1,q521 t f.2]
theorem q246{A:Around}{s:Shared}{x:V}{v:Value}(rx:RelV x v)(fx:flatV x=true):∀{xs:List V}{us:List Value},Vals xs us->xs.all flatV=true -> ∀ u∈us,SeqAt.EqAt A s u v (eqU x u)
 | _,_,.nil,_=>fun u hu=>by cases hu
 | y::xs,u::us,.cons r t,f=>fun u' hu=>by
  rw[all_cons,WZ]at f
  rcases List.mem_cons.mp hu with rfl | hu
  ·rw[q698 r f.1];exact eqAt_V r rx f.1 fx
  ·exact q246 rx fx t f.2 u' hu
noncomputable def inV(x:V)(xs:List V):Bool:=xs.any fun y=>eqV y x
inductive rIn(K:Fg)(neg:Bool)(x:V)(y:V)(H:Hp)(Q:VK):Prop
 |mk(p xs)(_:y = .ref p)(_:(SqL K H p xs\/SqT K H p xs))(_:flatV x=true)(_:xs.all flatV=true)(_:Q (.bl (if neg then !inV x xs else inV x xs)) H)
theorem q440:OpR X (compareOp .In) (rIn X.K false):=by
 intro pins s σ H x y v u Q I rx ry h
 obtain⟨p,xs,rfl,hq,fx,fs,q⟩:=h
 cases ry
 rcases hq with hq | hq
 ·obtain⟨its,r,pl,hz⟩:=I.list hq
  refine SeqAt.in_listAt (eqU x) pl.isList (fun w hw=>q246 rx fx r fs w (by simpa using hw)) ⟨.bl _,H,I,rfl,?_⟩
  rw[show its.toArray.any (eqU x)=its.any (eqU x) by simp,q521 r fs]
  exact q
 ·obtain⟨its,r,pl,hz⟩:=I.tuple hq
  refine SeqAt.in_tupleAt (eqU x) pl (fun w hw=>q246 rx fx r fs w (by simpa using hw)) ⟨.bl _,H,I,rfl,?_⟩
  rw[show its.toArray.any (eqU x)=its.any (eqU x) by simp,q521 r fs]
  exact q
inductive q111(K:Fg)(xs:List V)(H:Hp)(Q:VK):Prop
 |mk(p ys)(_:xs=[.ref p])(_:(SqL K H p ys\/SqT K H p ys))(_:Q (.int ys.length) H)
theorem q221:CallR X (.builtin "len") (q111 X.K):=by
 intro pins s σ H xs us Q I r h
 obtain⟨p,ys,rfl,hq,q⟩:=h
 obtain⟨u,rfl,rx⟩:=vals1 r
 cases rx
 have hn:=q334
 rcases hq with hq | hq
 ·obtain⟨its,r',pl,hz⟩:=I.list hq
  have hlen:=r'.length
  exact Calls.call_len_list pl.isList (by simp only[WC] <;> lia) ⟨.int ys.length,H,I.tok _,⟨s.toks+1,by rw[WC,hlen]⟩,q⟩
 ·obtain⟨its,r',pl,hz⟩:=I.tuple hq
  have hlen:=r'.length
  exact len_tuple pl (by simp only[WC] <;> lia) ⟨.int ys.length,H,I.tok _,⟨s.toks+1,by rw[WC,hlen]⟩,q⟩
inductive q377  (xs:List V) (H:Hp) (Q:VK):Prop
 |mk(z)(_:xs=[.str z])(_:z.length<=sizeLine)(_:Q (.int z.length) H)
theorem q441:CallR X (.builtin "len") q377:=by
 intro pins s σ H xs us Q I r h
 obtain⟨z,rfl,hz,q⟩:=h
 obtain⟨u,rfl,t,rfl⟩:=vals1 r
 have hn:=q334
 exact len_str ∅ ⟨.int z.length,H,I.tok _,⟨_,rfl⟩,q⟩
inductive q378(K:Fg)(xs:List V)(H:Hp)(Q:VK):Prop
 |mk(p ys)(_:xs=[.ref p])(_:(SqL K H p ys\/SqT K H p ys))(_:∀ l,H l=none->Q (.ref l) (upd H l (.lst ys)))
theorem q442:CallR X (.type "list") (q378 X.K):=by
 intro pins s σ H xs us Q I r h
 obtain⟨p,ys,rfl,hq,q⟩:=h
 obtain⟨u,rfl,rx⟩:=vals1 r
 cases rx
 have fin:∀(its:List Value),Vals ys its->ys.length<=sizeLine -> ∀(h':Heap)(c':Nat),(∀ b o',s.heap.get? b=some o'->h'.get? b=some o') ->
   h'.get? s.heap.objs.size=some { cls:=.type "list", dict:=none,data:=.seq its.toArray c',slots:=#[] }->EP X pins σ Q (.ref s.heap.objs.size) { s with heap:=h' }:=fun its r' hz h' c' kp e=>
  ⟨.ref s.heap.objs.size,_,I.laid (t':=s.toks) kp (ZF _) (show ObjOk X.prog X.w _ h' _ (.lst ys) from⟨hz,its,c',r',e⟩),rfl,q _ (I.hok.fresh (ZF _))⟩
 rcases hq with hq | hq
 ·obtain⟨its,r',pl,hz⟩:=I.list hq
  have hlen:=r'.length
  obtain⟨o,ho,hc,n,hd⟩:=pl.isList
  exact call_list_seq p (.inl rfl) ho hc hd (fun h' c' kp e=>fin its r' hz h' c' kp e) (by simp only[WC] <;> lia)
 ·obtain⟨its,r',pl,hz⟩:=I.tuple hq
  have hlen:=r'.length
  obtain⟨o,ho,hc,n,hd⟩:=pl
  exact call_list_seq p (.inr rfl) ho hc hd (fun h' c' kp e=>fin its r' hz h' c' kp e) (by simp only[WC] <;> lia)
inductive q315(K:Fg)(xs:List V)(H:Hp)(Q:VK):Prop
 |mk(p ys)(_:xs=[.ref p])(_:((SqL K H p ys /\ ∀ l,H l=none->Q (.ref l) (upd H l (.tup ys)))\/(SqT K H p ys/\Q (.ref p) H)))
theorem q379:CallR X (.type "tuple") (q315 X.K):=by
 intro pins s σ H xs us Q I r h
 obtain⟨p,ys,rfl,h⟩:=h
 obtain⟨u,rfl,rx⟩:=vals1 r
 cases rx
 rcases h with ⟨hq,q⟩ | ⟨hq,q⟩
 ·obtain⟨its,r',pl,hz⟩:=I.list hq
  have hlen:=r'.length
  refine call_tuple_list pl.isList (fun h' kp=>?_) (by simp only[WC] <;> lia)
  have I1:Inv X pins σ H { s with heap:=h' }:=I.kept (t':=s.toks) kp
  have I2:Inv X pins σ (upd H h'.objs.size (.tup ys)) { s with heap:=h'.push { cls:=.type "tuple", data:=.seq its.toArray } }:=
   I1.laid (t':=s.toks) (fun b o e=>ZE _ e) (ZF _) (show ObjOk X.prog X.w _ _ _ (.tup ys) from⟨hz,its,r',IsTup.new _ _⟩)
  exact⟨.ref h'.objs.size,_,I2,rfl,q _ (I1.hok.fresh (ZF _))⟩
 ·obtain⟨its,r',pl,hz⟩:=I.tuple hq
  exact call_tuple_same pl ⟨.ref p,H,I,rfl,q⟩
def tyV(K:Fg)(T:String)(x:V)(H:Hp):Prop:=match x with
 | .str _=>T = "str"
 | .int _=>T = "int"
 | .ref p=>(T = "list" /\ ∃ xs,SqL K H p xs)\/(T = "tuple" /\ ∃ o,K.lookup p=some o/\o.cls = .type "tuple" /\ o.dict=none) \/
   (T = "dict" /\ ((∃ kvs,H p=some (.dK kvs)) \/ ∃ kvs,H p=some (.dT kvs)))\/(T = "set" /\ ∃ S n,H p=some (.set S n))
 | _=>False
theorem tyV_is{s:Shared}(I:Inv X pins σ H s)(r:RelV x v)(ty:tyV X.K T x H) :
  s.TypeIs v T /\ ∀ a,v = .ref a -> ∃ ob,s.heap.get? a=some ob/\ob.dict=none:=by
 cases x with
 | str z=>
  obtain⟨t,rfl⟩:=r
  cases(show T = "str" from ty)
  exact⟨typeIs_str s z t,fun _ e=>nomatch e⟩
 | int i=>
  obtain⟨t,rfl⟩:=r
  cases(show T = "int" from ty)
  exact⟨typeIs_int s i t,fun _ e=>nomatch e⟩
 | ref p=>
  cases r
  rcases ty with ⟨rfl,xs,hq⟩ | ⟨rfl,o,hk,hc,hd⟩ | ⟨rfl,hk⟩ | ⟨rfl,S,n,hk⟩
  ·obtain⟨its,_,pl,_⟩:=I.list hq
   refine⟨pl.isList.typeIs,fun a e=>?_⟩
   cases e
   obtain⟨o,n,e,c,hd,_⟩:=pl
   exact⟨o,e,hd⟩
  ·refine⟨⟨o,I.kIn p o hk,hc⟩,fun a e=>?_⟩
   cases e
   exact⟨o,I.kIn _ o hk,hd⟩
  ·have z:∃ o,s.heap.get? p=some o/\o.ExactDict:=by
    rcases hk with ⟨kvs,hk⟩ | ⟨kvs,hk⟩
    ·obtain⟨_,_,_,_,o,_,_,e,ex,_⟩:=I.hok p _ hk
     exact⟨o,e,ex⟩
    ·obtain⟨_,_,_,_,o,_,_,e,ex,_⟩:=I.hok p _ hk
     exact⟨o,e,ex⟩
   obtain⟨o,e,ex⟩:=z
   refine⟨⟨o,e,ex.1⟩,fun a e2=>?_⟩
   cases e2
   exact⟨o,e,ex.2.1⟩
  ·obtain⟨o,_,_,_,e,ex,_⟩:=I.hok p _ hk
   refine⟨⟨o,e,ex.1⟩,fun a e2=>?_⟩
   cases e2
   exact⟨o,e,ex.2.1⟩
 | _=>exact False.elim ty
def tBM(K:Fg)(T:String)(r:V->List V->Hp->VK->Prop)(to:TE)(t:TA):TE:=fun σ H Q=>to σ H fun x H1=>tyV K T x H1/\t σ H1 fun xs H2=>r x xs H2 Q
variable{o e:Expr}{es:List Expr}{to:TE}{t:TA}{name:Str}{apos cpos:Pos}{T id:String}{r:V->List V->Hp->VK->Prop}
theorem pe_bm(pa:PlainAttrs T)(slot:Slot T name id)(hty:typeOf (.builtin id)=pure (.type "method_descriptor")) (hm:MtR X id r) (ho:PE X o to) (ha:PA X (e::es) t)
  (hbase:attributeBase o name X.env (eval o X.env)=eval o X.env:=by rfl)
  (hfew:((backTo cpos (starEach (e::es) X.env)).all (fun x=>!x.1)&&(backToKw cpos (keywordEach [] X.env)).all (fun x=>x.1.isSome)
   && decide ((e::es).length+([]:List Keyword).length+(if([]:List Keyword).isEmpty then 0 else 1)<30))=true:=by rfl)
  (hline:(apos.endLine==cpos.line)=true:=by rfl) (hs:starEach (e::es) X.env=(false,eval e X.env)::starEach es X.env:=by rfl) (hplain:(backTo cpos (starEach es X.env)).any (·.1)=false:=by rfl) :
  PE X (.Call (.Attribute o name apos) (e::es) [] cpos) (tBM X.K T r to t):=by
 intro pins s σ H Q I h
 refine wpAny_Call_method_late hbase hfew hline rfl (thn (ho pins s σ H _ I h) fun v s1 ⟨x,H1,I1,r1,ty,q1⟩=>?_)
 obtain⟨h1,h2⟩:=tyV_is I1 r1 ty
 exists T,id,pa,slot,hty,h1,h2
 have hA:=ha cpos pins s1 σ H1 _ I1 q1
 rw[hs]at hA ⊢
 refine Calls.callWith_builtin (by show(false||(backTo cpos (starEach es X.env)).any (·.1))=false;rw[hplain] <;> rfl) (Calls.evalArgs_plain ?_)
 exact thn hA fun us s2 ⟨vs,H2,I2,r2,q2⟩=>hm pins s2 σ H2 x vs v us Q I2 r1 r2 q2
/- xs.append(e),list.index on a module's tuple .. are MtR facts of 06m -/
end
def MtM(X:Cx)(id:String)(r:V->List V->Hp->VK->Prop):Prop:=
 ∀(pins:List (Addr×Obj)) (s:Shared) (σ:St) (H:Hp) (x:V) (xs:List V) (v:Value) (us:List Value) (Q:VK),Inv X pins σ H s->RelV x v->Vals xs us->r x xs H Q ->
  wpAny (model X.prog X.w) X.A (call (.builtin id) (v::us)) (EP X pins σ Q) X.xe s
theorem Vals.one:∀{x:V}{us:List Value},Vals [x] us -> ∃ u,us=[u]/\RelV x u
 | _,_,.cons r .nil=>⟨_,rfl,r⟩
theorem Vals.rep{xs:List V}{us:List Value}(h:Vals xs us):∀ k:Nat,Vals (List.replicate k xs).flatten (List.replicate k us).flatten
 | 0=>.nil
 | k+1=>by
  rw[replicate_succ,replicate_succ,flatten_cons,flatten_cons]
  exact Vals.append h (Vals.rep h k)
theorem q443(its:List Value):∀(k:Nat)(acc:List Value),
  List.foldl (fun x1 x2=>x1++x2) acc.toArray (List.replicate k its.toArray)=(acc++(List.replicate k its).flatten).toArray
 | 0,acc=>by simp
 | k+1,acc=>by
  have e:acc.toArray++its.toArray=(acc++its).toArray:=by simp
  have e2:(acc++its)++(List.replicate k its).flatten=acc++(List.replicate (k+1) its).flatten:=by
   rw[replicate_succ,flatten_cons,YS]
  rw[<- e2,<- q443 its k (acc++its),<- e,replicate_succ,foldl_cons]
section
variable {pins:List (Addr×Obj)} {σ:St} {H:Hp} {s:Shared} {l b:Addr} {xs ys zs:List V}
theorem Inv.lset{its its':List Value}{n:Nat}{f:Array Value->Array Value}{t':Nat}(I:Inv X pins σ H s)(hH:H l=some (.lst xs))
  (e:s.heap.get? l=some { cls:=.type "list", data:=.seq its.toArray n }) (hf:f its.toArray=its'.toArray) (hv:Vals ys its') (hz:ys.length<=sizeLine) :
  Inv X pins σ (upd H l (.lst ys)) { s with heap:=s.heap.update l (Obj.mapSeq f),toks:=t' }:=by
 have q:=PySem.IsL.update e f
 rw[hf]at q
 refine I.write (x:=l) (e:=l) (by rw[hH];exact trivial) (.inl rfl) (fun b' u hb hu=>(Heap.get?_update_other s.heap (Obj.mapSeq f) (Ne.symm hb)).trans hu) ⟨_,q⟩ ?_
 exact⟨hz,its',_,hv,q⟩
theorem Inv.lnew{t':Nat}(I:Inv X pins σ H s)(hv:Vals ys its)(hz:ys.length<=sizeLine) :
  Inv X pins σ (upd H s.heap.objs.size (.lst ys)) { s with heap:=s.heap.push { cls:=.type "list", data:=.seq its.toArray },toks:=t' }:=
 I.laid (fun _ _ q=>ZE _ q) (ZF _) ⟨hz,its,0,hv,ZY _ rfl⟩
theorem Inv.fresh(I:Inv X pins σ H s):H s.heap.objs.size=none:=I.hok.fresh (ZF _)
theorem Inv.lstM(I:Inv X pins σ H s)(hH:H l=some (.lst xs)):xs.length<=sizeLine /\ ∃(its:List Value)(n:Nat),Vals xs its/\xs.length=its.length/\s.heap.get? l=some { cls:=.type "list", data:=.seq its.toArray n }:=by
 obtain⟨z,its,n,r,e⟩:=I.hok l _ hH
 exact⟨z,its,n,r,r.length,e⟩
theorem notLongL{n:Nat}(h:n<=sizeLine):Builtin.List.listTooLong n=false:=by
 unfold Builtin.List.listTooLong
 exact ZS ∅
end
inductive rAppend  (x:V) (vs:List V) (H:Hp) (Q:VK):Prop
 |mk(l xs y)(_:x = .ref l)(_:vs=[y])(_:H l=some (.lst xs))(_:xs.length<sizeLine)(_:Q .non (upd H l (.lst (xs++[y]))))
theorem q71:MtM X "list.append" rAppend:=by
 intro pins s σ H x vs v us Q I rx rv h
 obtain⟨l,xs,y,rfl,rfl,hH,hz,q⟩:=h
 cases rx
 obtain⟨u,rfl,ru⟩:=rv.one
 obtain⟨z,its,n,r,hl,e⟩:=I.lstM hH
 refine call_meets F.slot_list_append ⟨_,e,rfl⟩ F.entry_list_append (F.args_list_append_2 _ _) (PySem.list_append l its.toArray n u (by rw[WC];lia)) ⟨e,?_⟩
 refine⟨.non,_,I.lset (its':=its++[u]) hH e (by simp) (r.append (.cons ru .nil)) ?_,rfl,q⟩
 rw[ZM,length_singleton]
 lia
inductive rExtend  (x:V) (vs:List V) (H:Hp) (Q:VK):Prop
 |mk(l b xs zs)(_:x = .ref l)(_:vs=[.ref b])(_:H l=some (.lst xs))(_:H b=some (.lst zs))(_:xs.length+zs.length<=sizeLine)(_:Q .non (upd H l (.lst (xs++zs))))
theorem q444:MtM X "list.extend" rExtend:=by
 intro pins s σ H x vs v us Q I rx rv h
 obtain⟨l,b,xs,zs,rfl,rfl,hH,hB,hz,q⟩:=h
 cases rx
 obtain⟨u,rfl,ru⟩:=rv.one
 cases ru
 obtain⟨z,its,n,r,hl,e⟩:=I.lstM hH
 obtain⟨z2,its2,n2,r2,hl2,e2⟩:=I.lstM hB
 have hsz:its.toArray.size+its2.toArray.size<=sizeLine:=by rw[WC,WC];lia
 have hlong:¬(!its.toArray.isEmpty&&Builtin.List.listTooLong (its.toArray.size+its2.toArray.size))=true:=by
  rw[notLongL hsz,Bool.and_false]
  exact fnt
 refine call_meets F.slot_list_extend ⟨_,e,rfl⟩ F.entry_list_extend (F.args_list_extend_2 _ _)
  (AutoSeq1.list_extend_list_list_0 l its.toArray n b its2.toArray n2 hlong (by rw[WC];exact W203 hl z) ∅) ⟨e,e2,?_⟩
 refine⟨.non,_,I.lset (its':=its++its2) hH e (by simp) (r.append r2) ?_,rfl,q⟩
 rw[ZM]
 lia
inductive rCat  (x:V) (y:V) (H:Hp) (Q:VK):Prop
 |mk(l b xs zs)(_:x = .ref l)(_:y = .ref b)(_:H l=some (.lst xs))(_:H b=some (.lst zs))(_:xs.length+zs.length<=sizeLine)(_:∀ p,H p=none->Q (.ref p) (upd H p (.lst (xs++zs))))
theorem q699:OpR X (binaryOp .Add) rCat:=by
 intro pins s σ H x y v u Q I rx ry h
 obtain⟨l,b,xs,zs,rfl,rfl,hH,hB,hz,q⟩:=h
 cases rx
 cases ry
 obtain⟨z,its,n,r,hl,e⟩:=I.lstM hH
 obtain⟨z2,its2,n2,r2,hl2,e2⟩:=I.lstM hB
 refine PySem.P.add_list e e2 ?_ (by rw[WC,WC];lia)
 have ea:its.toArray++its2.toArray=(its++its2).toArray:=by simp
 rw[ea]
 exact⟨.ref _,_,I.lnew (t':=s.toks) (r.append r2) (by rw[ZM];lia),rfl,q _ I.fresh⟩
theorem len_rep{α:Type}(xs:List α)(k:Nat):(List.replicate k xs).flatten.length=k*xs.length:=by
 induction k with
 | zero=>simp
 | succ k ih=>rw[replicate_succ,flatten_cons,ZM,ih,Nat.succ_mul,Nat.add_comm]
section
variable {prog:Program} {w:World} {A:Around} {E:VS} {s:Shared}
set_option maxRecDepth 100000 in
end
end L2
namespace Att
set_option autoImplicit false
open PySem PySem.W PySem.Calls PyProof.Rows
theorem q263{P:Params}{h:Heap}:∀(ns:List Int)(vs:List Value),WellAll P h vs (ns.map WData.int)->IntsAre vs ns:=by
 intro ns
 induction ns with
 | nil=>
  intro vs w
  rw[List.map_nil]at w
  cases w
  exact .nil
 | cons n ns ih=>
  intro vs w
  rw[List.map_cons]at w
  cases w with
  | cons a b=>
   cases a
   exact .cons _ _ (ih _ b)
theorem q700{l:OpenLaw}{n:Nat}(hn:l.most=some n){P:Params}{h:Heap}{args:List WData}{vals:List Value}
  (hpre:l.row.toRowW.claim.pre args=true) (hwl:WellAll P h vals args) :
  ∃ a vs ns,vals=[Value.ref a]/\args=[WData.list (ns.map WData.int)]/\h.get? a=some { cls:=.type "list", data:=.seq vs.toArray }/\IntsAre vs ns/\ns.length<=n:=by
 have hsh:WShape.hasAll [] args [.list .int]=true:=(pre_splitW hpre).1
 have hc:l.pre.holds [] { args:=args }=true:=(pre_splitW hpre).2
 obtain⟨d,r,rfl,h1,h2⟩:=hasAllW_cons hsh
 obtain rfl:=hasAllW_nil h2
 obtain⟨xs,rfl,h3⟩:=hasW_list h1
 obtain⟨ns,rfl⟩:=items_int h3
 have hlen:ns.length<=n:=by
  unfold OpenLaw.pre at hc
  have h4:(WTm.not (.lt (.lit (.int (n:Int))) (.len (.arg 0)))).holds [] { args:=[.list (ns.map .int)] }=true:=by
   have h4:=(holds_andW hc).1
   rw[hn]at h4
   exact h4
  have h5:=condW_of h4 (w_not (w_lt w_lit (w_len_list (w_arg rfl))))
  rw[List.length_map]at h5
  refine Nat.le_of_not_lt fun q=>?_
  have q':(n:Int)<((ns.length:Nat):Int):=(W88 q)
  first
   | (rw[ZG q']at h5;exact absurd h5 {})
   | (simp at h5;lia)
 cases hwl with
 | cons w1 w2=>
  cases w2
  cases w1 with
  | list ho hall=>exact⟨_,_,ns,rfl,rfl,ho,q263 ns _ hall,hlen⟩
theorem q701(l:OpenLaw)(args:List WData):l.row.toRowW.claim.post args (.bool true) args=true:=
 postW_of (r:=l.row.toRowW) (X:=(true==true))
  (show WShape.has [] (.bool true) .bool=true by first | rfl | decide | simp[WShape.has,WShape.arms,WShape.armsAll])
  (show(WTm.eq .res (.lit (.bool true))).value [] { args:=args,res:=some (.bool true),after:=args }=some (.bool (true==true))from w_eq_bool (w_res rfl) w_lit) rfl
theorem q796{l:OpenLaw}{n:Nat}{q:Program}{loose:List Str}{XP:(Mg)->Heap->Prop}{YP:World->Heap->Prop}{d:DefRec}
  (hn:l.most=some n) (hdf:d.params.defaults=[])
  (call:∀(w:World)(s₀ s₁:Shared)(mg mb:Mg)(fa:Addr)(o:Obj)(pm cd doc:Value)(a:Addr)(vs:List Value)(ns:List Int),
   Ground q loose [] XP w s₀ mg mb s₁.heap->YP w s₁.heap ->
   s₁.heap.get? fa=some o->o.data = .func (docDef d.name d.params d.body d.scope pm cd doc)->s₁.heap.CodeRec cd d.name->mg d.name=some (.ref fa) ->
   s₁.heap.get? a=some { cls:=.type "list", data:=.seq vs.toArray }->IntsAre vs ns->ns.length<=n->s₁.gens = #[] ->
   codeAny (model l.prog w) callerA (.call (.ref fa) ⟨[.ref a],[]⟩) (fun r s'=>r = .ok (.ret (.bool true))/\OldK s₁.heap s'.heap/\s'.os=s₁.os/\AllBare s'.gens) s₁) :
  WalkO q loose XP YP l.row.toRowW d [] (fun f vs=>PySem.call f vs):=by
 intro w s₀ s₁ mg mb G Y fa o pm cd doc dV kV ho hd hcd hD hmg hg args vals as hpre hlay hrd hwl hlo
 obtain rfl:dV = .none:=Dflts.none hD hdf
 obtain rfl:kV = .none:=Dflts.noKw hD
 obtain⟨a,vs,ns,rfl,rfl,hobj,hints,hlen⟩:=q700 hn hpre hwl
 refine enter_call (codeAny_mono (call w s₀ s₁ mg mb fa o pm cd doc a vs ns G Y ho (fd_plain hd) hcd hmg hobj hints hlen hg) fun r s' hq=>?_)
 obtain⟨rfl,h2,h3,h4⟩:=hq
 exact⟨.inl ⟨.bool true,.bool true,[],rfl,fun _=>rfl,.bool true,q701 l _,fun _=>⟨List.Pairwise.nil,fun _ hm=>(nomatch hm)⟩⟩,h2,h3,h4⟩
end Att
namespace L2
open PySem PySem.Spec PyProof.Rows List
variable {X:Cx}
theorem q264:∀{vs:List Value}{ns:List Int},IntsAre vs ns->Vals (ns.map V.int) vs
 | _,_,.nil=>.nil
 | _,_,.cons n t h=>.cons ⟨t,rfl⟩ (q264 h)
def Only(H:Hp):Prop:=∀ b,H b=none \/ ∃ o xs,H b=some (.frz o (.lst xs))
theorem law_call{P:Program}{w:World}{K:Fg}{CX:CXT}{k:Nat}{fa:Addr}{fd:FuncData}{sp:Sp}{s₁:Shared}{vs:List Value}{ns:List Int}
  (KX:K.In s₁.heap) (hns:s₁.heap.Ns mainGlobals mg) (hb:s₁.heap.Ns builtinsNs mb) (hbb:∀ x:Str,x ≠ "__name__" -> mb x=bootBuiltins x) (hlim:s₁.heap.NoLimit) (hg:s₁.gens = #[])
  (ha:s₁.heap.get? a=some { cls:=.type "list", data:=.seq vs.toArray }) (hi:IntsAre vs ns) (hl:ns.length<=sizeLine) (hr:Room k callerA)
  (F:∀ base:Heap,K.In base->base.Ns mainGlobals mg->FnOk P w K mg base CX k fa fd [x] sp) (hbind:∀(s:Shared)(u:Value),BindsTo s fd ⟨[u],[]⟩ [(x,u)])
  (hsp:∀ H:Hp,Only H->SqL K H a (ns.map V.int)->sp [.ref a] H (fun v _=>v = .bl true) fun _ _ _=>False)
  (hCX:∀ H e s',CX [] H s₁ (fun _ _ _=>False) e s'->False) :
  codeAny (model P w) callerA (.call (.ref fa) ⟨[.ref a],[]⟩) (fun r s'=>r = .ok (.ret (.bool true))/\OldK s₁.heap s'.heap/\s'.os=s₁.os/\AllBare s'.gens) s₁:=by
 have rv:=q264 hi
 have lenV:=hi.length
 have core:∀ H:Hp,Only H->SqL K H a (ns.map V.int)->HOk P w H s₁.heap->(∀ b,H b≠none->b=a)->(H a≠none->K.lookup a=none) ->
   codeAny (model P w) callerA (.call (.ref fa) ⟨[.ref a],[]⟩) (fun r s'=>r = .ok (.ret (.bool true))/\OldK s₁.heap s'.heap/\s'.os=s₁.os/\AllBare s'.gens) s₁:=by
  intro H hO hS hok hA hK
  have base_of:∀{b:Addr}{o:Obj},s₁.heap.get? b=some o->H b=none->(hidT s₁.heap H).get? b=some o:=fun e n=>hidT_get e n
  have noA:∀{b:Addr}{o:Obj}{es:Array DictEntry}{ep:Nat},s₁.heap.get? b=some o->o.data = .dict es ep->H b=none:=fun {b o es ep} e d=>by
   cases q:H b with
   | none=>rfl
   | some u=>
    have e':b=a:=hA b (by rw[q];simp)
    subst e'
    rw[ha]at e;cases e
    have d':Data.seq vs.toArray _=Data.dict es ep:=d
    cases d'
  have nsK:∀{b:Addr}{m:Mg},s₁.heap.Ns b m->(hidT s₁.heap H).Ns b m:=fun {b m} ⟨o,es,ep,e,d,r⟩=>⟨o,es,ep,base_of e (noA e d),d,r⟩
  have hKb:K.In (hidT s₁.heap H):=fun b o e=>base_of (KX b o e) (by
   cases q:H b with
   | none=>rfl
   | some u=>
    have e':b=a:=hA b (by rw[q];simp)
    subst e'
    rw[hK (by rw[q];simp)]at e;cases e)
  have hM:Mod K mg (hidT s₁.heap H):=⟨hKb,nsK hns,⟨mb,nsK hb,hbb⟩,let ⟨mc,h1,h2⟩:=hlim;⟨mc,nsK h1,h2⟩⟩
  have e0:Env0 P w K mg (hidT s₁.heap H) callerA [] s₁ H:=⟨rfl,hM,fun b o e=>of_hidT e,Nat.le_of_eq (q682 _ _),trivial,fun b hb=>absurd (show b∈([]:List Addr)from hb) (by simp),hok,.of_eq hg⟩
  refine codeAny_mono ((F _ hKb (nsK hns)).run callerA [] s₁ H ⟨[.ref a],[]⟩ [.ref a] [.ref a] _ _ hr e0 (hbind s₁ (.ref a)) (.cons rfl .nil) (hsp H hO hS)) fun r s' h=>?_
  cases r with
  | error e=>exact(hCX H e s' h).elim
  | ok fl=>
   cases fl with
   | next=>exact False.elim h
   | brk=>exact False.elim h
   | cont=>exact False.elim h
   | ret u=>
    obtain⟨v,H',os,bare,un,hok',r',q⟩:=h
    have q':v = .bl true:=q
    subst q'
    obtain rfl:u=Value.bool true:=r'
    refine⟨rfl,OldK.of_keep fun b o e=>?_,os,bare⟩
    cases q:H b with
    | none=>exact un.keep b o e q (by intro z;exact absurd (show b∈([]:List Addr)from z) (by simp)) (by simp)
    | some u=>
     rcases hO b with z | ⟨ob,xs,z⟩
     ·rw[q]at z;cases z
     ·have z2:=un.frzs b ob _ z
      obtain⟨e1,_⟩:=hok b _ z
      obtain⟨e2,_⟩:=hok' b _ z2
      rw[e]at e1;cases e1
      exact e2
 cases hk:K.lookup a with
 | some o=>
  have e:=KX a o hk
  rw[ha]at e
  cases e
  refine core (fun _=>none) (fun _=>.inl rfl) (.inr ⟨_,vs.toArray,_,hk,rfl,rfl,rfl,by rw[WC,lenV];exact hl,by simpa using rv⟩) (fun b u z=>by have z':(none:Option HO)=some u:=z;cases z') (fun b z=>absurd rfl z) fun z=>absurd rfl z
 | none=>
  refine core (fun b=>if b=a then some (.frz { cls:=.type "list", data:=.seq vs.toArray } (.lst (ns.map V.int)))else none) (fun b=>?_) (.inl (.inr ⟨{ cls:=.type "list", data:=.seq vs.toArray },ZL rfl⟩)) (fun b u z=>?_) (fun b z=>?_) fun _=>hk
  ·by_cases hb:b=a
   ·exact .inr ⟨_,_,ZL hb⟩
   ·exact .inl (ZJ hb)
  ·by_cases hb:b=a
   ·have z':=(ZL hb).symm.trans z
    cases z'
    subst hb
    exact⟨ha,by rw[ZK];exact hl,vs,_,rv,ha⟩
   ·have z':=(ZJ hb).symm.trans z
    cases z'
  ·by_cases hb:b=a
   ·exact hb
   ·exact absurd (ZJ hb) z
noncomputable abbrev KOf{K:Fg}{h:Heap}(_:K.In h):Fg:=K
theorem q797{l:PySem.W.OpenLaw}{n k:Nat}{q:Program}{loose:List Str}{XP:(Mg)->Heap->Prop}{YP:World->Heap->Prop}{d:DefRec}{K:Params->Fg}{CX:World->CXT}{sp:World->Sp}{x:Str}
  (hn:l.most=some n) (hn2:n<=sizeLine) (hdf:d.params.defaults=[]) (hr:Room k callerA)
  (hY:∀(w:World)(h:Heap),YP w h->(K w.params).In h)
  (F:∀(w:World)(mg:Mg)(fa:Addr)(h:Heap),(K w.params).In h->h.Ns mainGlobals mg->mg d.name=some (.ref fa) ->
   ∃ fd:FuncData,(∀(s:Shared)(u:Value),BindsTo s fd ⟨[u],[]⟩ [(x,u)]) /\
    ∀ base:Heap,(K w.params).In base->base.Ns mainGlobals mg->FnOk l.prog w (K w.params) mg base (CX w) k fa fd [x] (sp w))
  (hsp:∀(w:World)(H:Hp)(a:Addr)(ns:List Int),ns.length<=n->Only H->SqL (K w.params) H a (ns.map V.int)->sp w [.ref a] H (fun v _=>v = .bl true) fun _ _ _=>False)
  (hCX:∀(w:World)(H:Hp)(s:Shared)(e:Value)(s':Shared),CX w [] H s (fun _ _ _=>False) e s'->False) :
  PySem.W.WalkO q loose XP YP l.row.toRowW d [] (fun f vs=>PySem.call f vs):=by
 refine Att.q796 hn hdf fun w s₀ s₁ mg mb fa o pm cd doc a vs ns G Y ho hd hcd hmg hobj hints hlen hg=>?_
 have KX:=hY w _ Y
 obtain⟨fd,hb,hF⟩:=F w mg fa _ KX G.T.g hmg
 exact law_call KX G.T.g G.T.b G.T.builtins G.T.nolimit hg hobj hints (ZT hlen hn2) hr hF hb (fun H hO hS=>hsp w H a ns hlen hO hS) fun H e s'=>hCX w H s₁ e s'
end L2
/- THE LAST THEOREM (shape;LID,My.* are yours):
  My.Adr: a structure of the addresses that your layer names (classes,functions);My.Txt K t: a structure (Prop) of the equations over K;
  My.txt_mk:{K} {implicit addresses ..} (e1:nsIn K mainGlobals "law" = some (some (.ref f))) (e2:K.lookup f=some ⟨oc,od,.func (fnOf "law" "law" params body scope dV kV doc pm an cdv ct),sl⟩) (e3:codeIn K cdv "law" = true) .. : ∃ t,My.Txt K t
set_option maxRecDepth 100000 in
set_option maxHeartbeats 0 in
theorem PySem.Challenge.cw_LID_holds : PySem.Challenge.rw_LID.Holds := by
 w_on;o_law;k_head;(case hw=>w_witness2)
 k_fill
 refine L2.q797 (l:=PySem.Challenge.rw_LID) (n:=63) (k:=40) (x := "script") (CX:=fun w=>..) (sp:=fun _=>My.sp_law) rfl {} rfl ⟨rfl,{},{}⟩ (fun w h Y=>PySem.W.kIn_of Y) ?F ?S ?C
 case F=>
  intro w mg fa h KX G hmg
  have T:∃ t,My.Txt (L2.KOf KX) t:=by
   dsimp only [L2.KOf]                          -- K must stand as «<heap const> w.params» for k_is
   refine' My.txt_mk ?e1 ?e2 ?e3 ..
   (case e1=>PySem.W.k_is)                    -- in the order: a name->its address->its object->its parts
   (case e2=>PySem.W.k_is)
   ..
  obtain⟨t,T⟩:=T
  have e0:=hmg.symm.trans (PySem.W.mg_of KX G T.law)
  cases e0                                       -- fa is the law's own address
  exact⟨_,fun s u=>.of_eq rfl,fun base kb nb=>My.law_fn T kb nb⟩     -- if «.of_eq rfl» comes too early: refine' ⟨_,?b,fun base kb nb=>My.law_fn T kb nb⟩;exact fun s u=>.of_eq rfl
 case S=>exact fun w H a ns hl hO hS=>..
 case C=>exact ..
(the tactic k_is has no namespace: write k_is) -/
namespace L2
open PySem PySem.Spec PyProof.Rows List
variable {X:Cx}
noncomputable def q265(s:Stmt):Arguments:=match s with
 | .FunctionDef _ a _ _ _ _ _ _ _ _=>a
 | _=>{ posonlyargs:=[],args:=[],vararg:=none,kwonlyargs:=[],kw_defaults:=[],kwarg:=none,defaults:=[] }
noncomputable def q166(s:Stmt):List Stmt:=match s with
 | .FunctionDef _ _ b _ _ _ _ _ _ _=>b
 | _=>[]
noncomputable def q17(s:Stmt):Scope:=match s with
 | .FunctionDef _ _ _ _ _ _ sc _ _ _=>sc
 | _=>{ kind:=.function,names:=[],isGenerator:=false,isCoroutine:=false }
abbrev CX0:CXT:=fun _ _ _ _ _ _=>False
abbrev E0:XK:=fun _ _ _=>False
theorem pass0:q335 CX0 X E0:=fun _ _ _ _ _ _ _ h=>h.elim
structure Fun(K:Fg)(x qual:Str)(st:Stmt)(f:Addr)(fd:FuncData):Prop where
 ex:∃(oc:Value) (od:Option Addr) (kV doc pm:Value) (an:Option Addr) (cdv ct:Value) (osl:Array (Option Value)),
  fd=PySem.W.fnOf x qual (q265 st) (q166 st) (q17 st) .none kV doc pm an cdv ct/\K.lookup f=some ⟨oc,od,.func fd,osl⟩/\PySem.W.codeIn K cdv qual=true
 kp:PySem.W.keepIn K (.ref f)=true
section
variable {P:Program} {w:World} {K:Fg} {mg:Mg} {base:Heap}
theorem Fun.ok{x qual:Str}{st:Stmt}{f:Addr}{fd:FuncData}{N ps:List Str}{k:Nat}{sp:Sp}(F:Fun K x qual st f fd)(S:FnScope N ps (q17 st))(len:∀ vs H Q E,sp vs H Q E->vs.length=ps.length)
  (hbody:∀(cdv:Value)(A:Around)(outer:List Env)(s:Shared)(H:Hp)(vs:List V)(Q:VK)(E:XK),Room k (A.deeper (envOfC qual (q17 st) s.heap.objs.size f cdv))->sp vs H Q E ->
   ∃ t,PSs (cxOf CX0 P w K mg base N qual (q17 st) f cdv A outer s H E).nox (q166 st) t/\t { nx:=fun _ H'=>Q .non H',rt:=Q } (start N vs) H):FnOk P w K mg base CX0 (k+1) f fd ps sp:=by
 obtain⟨oc,od,kV,doc,pm,an,cdv,ct,osl,rfl,lk,hcd⟩:=F.ex
 refine fn_of lk hcd S len fun A outer s H vs Q E hr hsp=>?_
 obtain⟨t,h,q⟩:=hbody cdv A outer s H vs Q E hr hsp
 exact⟨t,h.nox,q⟩
theorem q798{x qual:Str}{st:Stmt}{f:Addr}{oc:Value}{od an:Option Addr}{osl:Array (Option Value)}{kV doc pm cdv ct:Value}(l:K.lookup f=some ⟨oc,od,.func (PySem.W.fnOf x qual (q265 st) (q166 st) (q17 st) .none kV doc pm an cdv ct),osl⟩)
  (c:PySem.W.codeIn K cdv qual=true) (k:PySem.W.keepIn K (.ref f)=true):Fun K x qual st f (PySem.W.fnOf x qual (q265 st) (q166 st) (q17 st) .none kV doc pm an cdv ct):=⟨⟨oc,od,kV,doc,pm,an,cdv,ct,osl,rfl,l,c⟩,k⟩
end
theorem q64{n:Nat}(h:n<=1000):n<sizeLine:=Nat.lt_of_le_of_lt h {}
theorem pv(i:Nat){pos:Pos}(hN:X.N[i]? = some x:=by rfl)(hv:Vis X.env.scope x:=by walk_at "b") (hd:(x==("__debug__" : Str))=false:=by decide)
  (hcd:(x==("__classdict__" : Str))=false:=by decide):PE X (.Name x pos) (tVar i):=pe_var hN hv hd hcd
theorem iteF{A B:Prop}(h:B):if false=true then A else B:=by
 rw[ZJ fnt]
 exact h
theorem iteT{A B:Prop}(h:A):if true=true then A else B:=by
 rw[ZL rfl]
 exact h
theorem ite2{c A B:Prop}[Decidable c](h1:c->A)(h2:¬ c->B):if c then A else B:=by
 by_cases h:c
 ·rw[ZL h]
  exact h1 h
 ·rw[ZJ h]
  exact h2 h
theorem iteNS{c A B:Prop}[Decidable c](hc:c)(h:B):if(!decide c)=true then A else B:=by
 rw[ZG hc]
 exact iteF h
def Same(H H':Hp):Prop:=∀ b o,H b=some o->H' b=some o
theorem Same.refl(H:Hp):Same H H:=fun _ _ h=>h
theorem Same.trans(a:Same H H1)(b:Same H1 H2):Same H H2:=fun c o h=>b c o (a c o h)
theorem Same.free(e:Same H H')(h:H' l=Option.none):H l=Option.none:=by
 cases q:H l with
 | none=>rfl
 | some o=>
  rw[e l o q]at h
  cases h
theorem Same.seq{K:Fg}{H H':Hp}{a:Addr}{xs:List V}(e:Same H H')(h:SqL K H a xs):SqL K H' a xs:=by
 rcases h with (h | ⟨o,h⟩) | h
 ·exact .inl (.inl (e _ _ h))
 ·exact .inl (.inr ⟨o,e _ _ h⟩)
 ·exact .inr h
section
variable {κ:Type} [DecidableEq κ]
noncomputable def valV(kvs:List (κ×V))(k:κ):Option V:=(kvs.find? fun kv=>decide (kv.1=k)).map (·.2)
noncomputable def putK(kvs:List (κ×V))(k:κ)(v:V):List (κ×V):=
 if(kvs.any fun kv=>decide (kv.1=k))=true then kvs.map (fun kv=>if kv.1=k then(kv.1,v)else kv)else kvs++[(k,v)]
theorem q380{p:κ×V}(e:p.1=k):valV (p::r) k=some p.2:=by simp[valV,find?_cons,e]
theorem q381{p:κ×V}(e:¬ p.1=k):valV (p::r) k=valV r k:=by simp[valV,find?_cons,e]
theorem q570(k:κ):∀ kvs:List (κ×V),(kvs.any fun kv=>decide (kv.1=k))=(valV kvs k).isSome
 | []=>rfl
 | p::r=>by
  rw[any_cons]
  by_cases e:p.1=k
  ·simp only[q380 e,ZG e,Bool.true_or,Option.isSome_some]
  ·rw[q381 e,ZS e,Bool.false_or];exact q570 k r
theorem q266(kvs:List (κ×V))(k:κ)(v:V):(putK kvs k v).length<=kvs.length+1:=by
 unfold putK
 split
 ·rw[ZK];lia
 ·rw[ZM,WB,length_nil];lia
theorem RelO.isSome_eq{o:Option V}{u:Option Value}(r:RelO o u):o.isSome=u.isSome:=by
 cases o with
 | none=>cases u with
  | none=>rfl
  | some _=>exact(show False from r).elim
 | some _=>cases u with
  | none=>exact(show False from r).elim
  | some _=>rfl
theorem RelO.getD{o:Option V}{u:Option Value}(r:RelO o u)(rd:RelV d d'):RelV (o.getD d) (u.getD d'):=by
 cases o with
 | none=>cases u with
  | none=>exact rd
  | some _=>exact(show False from r).elim
 | some _=>cases u with
  | none=>exact(show False from r).elim
  | some _=>exact r
theorem KV.val(r:KV kvs vs)(k:κ):RelO (valV kvs k) (valueAt vs k):=by
 unfold KV at r
 induction r with
 | nil=>exact True.intro
 | @cons p q ps qs h t ih=>
  obtain⟨h1,h2⟩:=h
  by_cases e:p.1=k
  ·have e':q.1=k:=h1.symm.trans e
   have b:valueAt (q::qs) k=some q.2:=by simp[valueAt,find?_cons,e']
   rw[q380 e,b];exact h2
  ·have e':¬ q.1=k:=fun z=>e (h1.trans z)
   have b:valueAt (q::qs) k=valueAt qs k:=by simp[valueAt,find?_cons,e']
   rw[q381 e,b];exact ih
theorem KV.any{kvs:List (κ×V)}{vs:List (κ×Value)}(r:KV kvs vs)(k:κ):(kvs.any fun kv=>decide (kv.1=k))=vs.any fun kv=>decide (kv.1=k):=by
 unfold KV at r
 induction r with
 | nil=>rfl
 | cons h t ih=>rw[any_cons,any_cons,ih,h.1]
theorem KV.repl{kvs:List (κ×V)}{vs:List (κ×Value)}(r:KV kvs vs)(k:κ)(ry:RelV y u) :
  KV (kvs.map fun kv=>if kv.1=k then(kv.1,y)else kv) (vs.map fun kv=>if kv.1=k then(kv.1,u)else kv):=by
 unfold KV at r ⊢
 induction r with
 | nil=>exact .nil
 | @cons p q ps qs h t ih=>
  rw[YA,YA]
  refine .cons ?_ ih
  obtain⟨h1,h2⟩:=h
  by_cases e:p.1=k
  ·rw[ZL e,ZL (h1.symm.trans e)];exact⟨h1,ry⟩
  ·rw[ZJ e,ZJ (fun z=>e (h1.trans z))];exact⟨h1,h2⟩
theorem KV.put(r:KV kvs vs)(k:κ)(ry:RelV y u):KV (putK kvs k y) (stored vs k u):=by
 unfold putK stored
 rw[r.any k]
 by_cases e:(vs.any fun kv=>decide (kv.1=k))=true
 ·rw[ZL e,ZL e];exact r.repl k ry
 ·rw[ZJ e,ZJ e];exact Paired.snoc r ⟨rfl,ry⟩
theorem KV.length{kvs:List (κ×V)}{vs:List (κ×Value)}(r:KV kvs vs):kvs.length=vs.length:=Paired.length r
end
theorem kV_is(r:RelV (kV k) u):(q58 P w).is k u=true:=by
 cases k with
 | inl i=>obtain⟨t,e⟩:=(show ∃ t,u=Value.int i t from r);subst e;exact q513 P w i t
 | inr x=>obtain⟨t,e⟩:=(show ∃ t,u=Value.str x t from r);subst e;exact q514 P w x t
theorem q445{P:Program}{w:World}:∀{ks:List Key}{us:List Value},Vals (ks.map kV) us->ItemsAre (q58 P w) ks us
 | [],_,r=>by rw[map_nil]at r;cases r;exact .nil
 | k::ks,_,r=>by
  rw[YA]at r
  cases r with
  | cons h t=>exact .cons (kV_is h) (q445 t)
noncomputable abbrev KT(H:Hp):List (List Key×V)->List (List Key×Addr×Value)->Prop:=Paired fun p q=>p.1=q.1/\H q.2.1=some (.tup (p.1.map kV))/\RelV p.2 q.2.2
theorem KT.val(r:KT H kvs xs)(k:List Key):RelO (valV kvs k) ((atKey xs k).map (·.2)):=by
 induction r with
 | nil=>exact True.intro
 | @cons p q ps qs h t ih=>
  obtain⟨h1,_,h2⟩:=h
  by_cases e:p.1=k
  ·have e':q.1=k:=h1.symm.trans e
   have b:atKey (q::qs) k=some q.2:=by simp[atKey,find?_cons,e']
   rw[q380 e,b];exact h2
  ·have e':¬ q.1=k:=fun z=>e (h1.trans z)
   have b:atKey (q::qs) k=atKey qs k:=by simp[atKey,find?_cons,e']
   rw[q381 e,b];exact ih
theorem KT.repl{kvs:List (List Key×V)}{xs:List (List Key×Addr×Value)}(r:KT H kvs xs)(k:List Key)(ry:RelV y u) :
  KT H (kvs.map fun kv=>if kv.1=k then(kv.1,y)else kv) (xs.map (putAt k u)):=by
 induction r with
 | nil=>exact .nil
 | @cons p q ps qs h t ih=>
  rw[YA,YA]
  refine .cons ?_ ih
  obtain⟨h1,h2,h3⟩:=h
  unfold putAt
  by_cases e:p.1=k
  ·rw[ZL e,ZL (h1.symm.trans e)];exact⟨h1,h2,ry⟩
  ·rw[ZJ e,ZJ (fun z=>e (h1.trans z))];exact⟨h1,h2,h3⟩
theorem KT.put(r:KT H kvs xs)(k:List Key)(hb:H b=some (.tup (k.map kV)))(ry:RelV y u) :
  KT H (putK kvs k y) (storedH xs k b u):=by
 have e:(kvs.any fun kv=>decide (kv.1=k))=(atKey xs k).isSome:=by
  rw[q570,(r.val k).isSome_eq,Option.isSome_map]
 unfold putK storedH
 rw[e]
 by_cases q:(atKey xs k).isSome=true
 ·rw[ZL q,ZL q];exact r.repl k ry
 ·rw[ZJ q,ZJ q];exact Paired.snoc r ⟨rfl,hb,ry⟩
theorem KT.keeps(r:KT H kvs xs)(ht:∀ b ys,H b=some (.tup ys)->H' b=some (.tup ys)):KT H' kvs xs:=
 Paired.mapP r fun _ _ z=>⟨z.1,ht _ _ z.2.1,z.2.2⟩
section
variable {P:Program} {w:World} {H:Hp} {h:Heap} {a:Addr}
theorem rd_of(ok:HOk P w H h)(e:Rd H a u):ObjOk P w H h a u:=e.ok ok
theorem dk_rd{kvs:List (Key×V)}(ok:HOk P w H h)(e:Rd H a (.dK kvs)):kvs.length<=sizeLine/\(a==sysModules)=false /\ ∃ vs,KV kvs vs/\h.DictOf (q58 P w) a vs:=
 show ObjOk P w H h a (.dK kvs)from rd_of ok e
theorem dk_of{kvs:List (Key×V)}(ok:HOk P w H h)(e:H a=some (.dK kvs)):kvs.length<=sizeLine/\(a==sysModules)=false /\ ∃ vs,KV kvs vs/\h.DictOf (q58 P w) a vs:=dk_rd ok (.inl e)
theorem q571{ks:List Key}(ok:HOk P w H h)(e:H a=some (.tup (ks.map kV))):(tupleKind (q58 P w)).is h ks a:=by
 obtain⟨_,its,r,o,h1,h2,n,h3⟩:=(show ObjOk P w H h a (.tup (ks.map kV))from ok a _ e)
 exact⟨o,its.toArray,n,h1,h2,h3,by simpa using q445 r⟩
theorem dt_rd{kvs:List (List Key×V)}(ok:HOk P w H h)(e:Rd H a (.dT kvs)):kvs.length<=sizeLine/\(a==sysModules)=false /\
  ∃ xs,KT H kvs xs/\h.DictOfH (tupleKind (q58 P w)) a xs:=by
 obtain⟨z,y,xs,r,o,es,ep,h1,h2,h3,h4,h5⟩:=(show ObjOk P w H h a (.dT kvs)from rd_of ok e)
 refine⟨z,y,xs,r,o,es,ep,h1,h2,h3,h4,fun x hx=>?_,h5⟩
 have all:∀{l:List (List Key×V)} {m:List (List Key×Addr×Value)},KT H l m -> ∀ x∈m,(tupleKind (q58 P w)).is h x.1 x.2.1:=by
  intro l m q
  induction q with
  | nil=>intro x hx;exact nomatch hx
  | @cons p q ps qs hq t ih=>
   intro x hx
   rcases List.mem_cons.mp hx with e | hx
   ·subst e
    exact q571 ok (by rw[<- hq.1];exact hq.2.1)
   ·exact ih x hx
 exact all r x hx
theorem dt_of{kvs:List (List Key×V)}(ok:HOk P w H h)(e:H a=some (.dT kvs)):kvs.length<=sizeLine/\(a==sysModules)=false /\
  ∃ xs,KT H kvs xs/\h.DictOfH (tupleKind (q58 P w)) a xs:=dt_rd ok (.inl e)
end
noncomputable def DGet(H:Hp)(a:Addr)(y:V)(r:Option V):Prop:=
 (∃ kvs k,Rd H a (.dK kvs)/\y=kV k/\r=valV kvs k) \/ ∃ kvs k b,Rd H a (.dT kvs)/\y = .ref b/\H b=some (.tup (k.map kV))/\r=valV kvs k
noncomputable def DPut(H:Hp)(a:Addr)(y v:V)(H':Hp):Prop:=
 (∃ kvs k,H a=some (.dK kvs)/\y=kV k/\kvs.length<sizeLine/\H'=upd H a (.dK (putK kvs k v))) \/
 ∃ kvs k b,H a=some (.dT kvs)/\y = .ref b/\H b=some (.tup (k.map kV))/\kvs.length<sizeLine/\H'=upd H a (.dT (putK kvs k v))
theorem DGet.k{H:Hp}{a:Addr}{kvs:List (Key×V)}{k:Key}(e:H a=some (.dK kvs)):DGet H a (kV k) (valV kvs k):=.inl ⟨kvs,k,.inl e,rfl,rfl⟩
theorem DPut.k{H:Hp}{a:Addr}{kvs:List (Key×V)}{k:Key}{v:V}(e:H a=some (.dK kvs))(hl:kvs.length<sizeLine):DPut H a (kV k) v (upd H a (.dK (putK kvs k v))):=.inl ⟨kvs,k,e,rfl,hl,rfl⟩
section
variable {pins:List (Addr×Obj)} {σ:St} {H:Hp} {s:Shared} {a:Addr} {y v:V} {u r:Value} {o:Option V} {A:Around} {E:VS}
theorem Inv.big(I:Inv X pins σ H s):sysModules<s.heap.objs.size:=by
 have h:mainGlobals<s.heap.objs.size:=(I.mod.glob.keeps I.bk).lt
 exact Nat.lt_trans {} h
theorem q702(hu:A.units+1<cLine)(I:Inv X pins σ H s)(g:DGet H a y (some v))(ry:RelV y u)(h:∀ w' s',Inv X pins σ H s'->RelV v w'->Q w' s') :
  wpAny (model X.prog X.w) A (getItem (.ref a) u) Q E s:=by
 rcases g with ⟨kvs,k,e,ey,l⟩ | ⟨kvs,k,b,e,ey,eb,l⟩
 ·subst ey
  obtain⟨z,hd,vs,rel,dd⟩:=dk_rd I.hok e
  obtain⟨w',hw,rw'⟩:=RelO.some_of (v:=v) (o:=valueAt vs k) (by rw[l];exact rel.val k)
  exact wpAny_getItem_of (kV_is ry) dd.mapOf hw (h w' _ (I.tok _) rw')
 ·subst ey
  cases(show u=Value.ref b from ry)
  obtain⟨z,hd,xs,rel,dd⟩:=dt_rd I.hok e
  obtain⟨w',hw,rw'⟩:=RelO.some_of (v:=v) (o:=(atKey xs k).map (·.2)) (by rw[l];exact rel.val k)
  obtain⟨p,hp,hp2⟩:=Option.map_eq_some_iff.mp hw
  refine wpAny_getItem_heap (tupleKind_room_in1 hu) (q571 I.hok eb) dd hp ?_
  rw[hp2]
  exact h w' _ (I.tok _) rw'
theorem q703{h':Heap}{t':Nat}(I:Inv X pins σ H s)(mu:Mut (H a))(hs:Heap.SameBut a s.heap h')(he:∃ q,h'.get? a=some q)(new:ObjOk X.prog X.w (upd H a ob) h' a ob) :
  Inv X pins σ (upd H a ob) { s with heap:=h',toks:=t' }:=
 I.write (x:=a) (e:=a) mu (.inl rfl) (fun b q hb z=>(hs.2 b hb).trans z) he new
theorem dk_new{h':Heap}{kvs:List (Key×V)}(z:kvs.length<=sizeLine)(hd:(a==sysModules)=false)(rel:KV kvs vs)(dd:h'.DictOf (q58 P w) a vs) :
  ObjOk P w H' h' a (.dK kvs):=⟨z,hd,vs,rel,dd⟩
theorem q704(hu:A.units+1<cLine)(I:Inv X pins σ H s)(g:DPut H a y v H')(ry:RelV y u)(rv:RelV v r)(h:∀ s',Inv X pins σ H' s'->Q () s') :
  wpAny (model X.prog X.w) A (setItem (.ref a) u r) Q E s:=by
 rcases g with ⟨kvs,k,e,ey,l,eH⟩ | ⟨kvs,k,b,e,ey,eb,l,eH⟩
 ·subst ey eH
  obtain⟨z,hd,vs,rel,dd⟩:=dk_of I.hok e
  have hz:vs.length<=sizeLine:=by rw[<- rel.length];exact z
  have hl:(putK kvs k v).length<=sizeLine:=by have:=q266 kvs k v;exact W186 this l
  refine wpAny_setItem_pairs (hsz:=hz) (kV_is ry) dd fun h' dd' hs=>h _ ?_
  have he:∃ q,h'.get? a=some q:=let ⟨q,_,_,hq,_⟩:=dd';⟨q,hq⟩
  exact q703 I (by rw[e];exact True.intro) hs he (dk_new hl hd (rel.put k rv) dd')
 ·subst ey eH
  cases(show u=Value.ref b from ry)
  obtain⟨z,hd,xs,rel,dd⟩:=dt_of I.hok e
  have hz:xs.length<=sizeLine:=by rw[<- Paired.length rel];exact z
  have hl:(putK kvs k v).length<=sizeLine:=by have:=q266 kvs k v;exact W186 this l
  refine wpAny_setItem_heap (hsz:=hz) (tupleKind_room_in1 hu) (q571 I.hok eb) dd fun h' dd' hs=>h _ ?_
  obtain⟨q,es,ep,hq,h2,h3,h4,_,h5⟩:=dd'
  refine q703 I (by rw[e];exact True.intro) hs ⟨q,hq⟩ ⟨hl,hd,_,(rel.put k eb rv).keeps fun c ys ec=>?_,q,es,ep,hq,h2,h3,h4,h5⟩
  rw[q28 (ne_of ec e (fun z=>nomatch z))]
  exact ec
end
def NoSl(i:Expr):Prop:=∀ ov iv,subscripted i false ov iv=operate [ov,iv] (getItem ov iv)
theorem subD_of{prog:Program}{w:World}{A:Around}{E:VS}{s:Shared}{env:Env}{value slice:Expr}{pos:Pos}{T id:String}{Q:VS}
  (hl:typeLookup (.type T) "__getitem__" = pure (some (.builtin id))) (hs:NoSl slice)
  (h:wpAny (model prog w) A (eval value env) (fun o s₁=>wpAny (model prog w) A (eval slice env) (fun i s₂=>s₂.TypeIs o T/\wpAny (model prog w) A (getItem o i) Q E s₂) E s₁) E s) :
  wpAny (model prog w) A (eval (.Subscript value slice pos) env) Q E s:=by
 refine Subscript_ (WX h (fun o s₁ h₁=>WX h₁ (fun i s₂ h₂=>?_) fun _ _ x=>x) fun _ _ x=>x)
 obtain⟨hT,h₂⟩:=h₂
 unfold subscriptTail
 refine ZA ?_
 rw[getitemInPython_of_ne hT.not_modules]
 refine ZA (wpAny_specialOf hT hl ?_)
 have fin:wpAny (model prog w) A (subscripted slice false o i) (fun r s₃=>wpAny (model prog w) A (letTemporaryGo value o r >>= fun _=>pure r) Q E s₃) E s₂:=by
  rw[hs o i]
  exact wpAny_operating (WX h₂ (fun r s₃ h₃=>ZA (wpAny_letTemporaryGo (ZO h₃))) fun _ _ x=>x)
 first
  | exact ZO (ZA fin)
  | exact ZA (ZO (ZA fin))
  | exact ZA fin
theorem q522{s:Shared}(I:Inv X pins σ H s)(g:DGet H a y o):s.TypeIs (.ref a) "dict" := by
 rcases g with ⟨kvs,k,e,_,_⟩ | ⟨kvs,k,b,e,_,_,_⟩
 ·obtain⟨_,_,vs,_,dd⟩:=dk_rd I.hok e
  exact dd.typeIs
 ·obtain⟨_,_,xs,_,dd⟩:=dt_rd I.hok e
  exact dd.typeIs
noncomputable def tDGet(td ty:TE):TE:=fun σ H Q=>td σ H fun x H1=>ty σ H1 fun y H2=>∃ a v,x = .ref a/\DGet H2 a y (some v)/\Q v H2
noncomputable def sDPut(td ty tv:TE):TS:=fun D σ H=>tv σ H fun v H1=>td σ H1 fun x H2=>ty σ H2 fun y H3=>∃ a H4,x = .ref a/\DPut H3 a y v H4/\D.nx σ H4
section
variable{o i e value:Expr}{pos pos' tpos:Pos}{td ty tv:TE}
theorem pe_dget(hu:X.A.units+1<cLine)(ho:PE X o td)(hi:PE X i ty)(hs:NoSl i):PE X (.Subscript o i pos) (tDGet td ty):=by
 intro pins s σ H Q I h
 refine subD_of PySem.F.slot_dict_getitem.lookup hs (thn (ho pins s σ H _ I h) fun u s1 ⟨x,H1,I1,rx,q1⟩=>thn (hi pins s1 σ H1 _ I1 q1) fun iv s2 ⟨y,H2,I2,ry,a,v,ex,g,q2⟩=>?_)
 subst ex
 obtain rfl:u=Value.ref a:=rx
 exact⟨q522 I2 g,q702 hu I2 g ry fun w' s3 I3 rw'=>⟨v,H2,I3,rw',q2⟩⟩
theorem ps_dput(hu:X.A.units+1<cLine)(ho:PE X o td)(hi:PE X i ty)(hv:PE X value tv)(hs:swapsWith value (some (.Subscript o i pos')) pos.line X.env=pure false) :
  PS X (.Assign [.Subscript o i pos'] value pos) (sDPut td ty tv):=by
 intro pins s σ H D I h
 refine wpAny_Assign_Subscript (thn (hv pins s σ H _ I h) fun r s1 ⟨v,H1,I1,rv,q1⟩=>thn (ho pins s1 σ H1 _ I1 q1) fun u s2 ⟨x,H2,I2,rx,q2⟩=>thn (hi pins s2 σ H2 _ I2 q2) fun iv s3 ⟨y,H3,I3,ry,a,H4,ex,g,q3⟩=>?_) hs
 subst ex
 obtain rfl:u=Value.ref a:=rx
 exact q704 hu I3 g ry rv fun s4 I4=>⟨σ,H4,I4,q3⟩
end
theorem dk_empty(h:Heap)(hb:sysModules<h.objs.size):ObjOk P w H (h.push { cls:=.type "dict", data:=.dict #[] }) h.objs.size (.dK []):=
 ⟨ZX _,beq_eq_false_iff_ne.mpr (Ne.symm (WN hb)),[],.nil,Heap.DictOf.new h⟩
noncomputable def tDNewK:TE:=fun _ H Q=>∀ p,H p=none->Q (.ref p) (upd H p (.dK []))
section
variable {pos:Pos}
theorem pe_dnewK:PE X (.Dict [] [] pos) tDNewK:=fun pins s σ H Q I h=>
 wpAny_Dict_empty ⟨.ref s.heap.objs.size,_,I.laid (a:=s.heap.objs.size) (o:=.dK []) (t':=s.toks) (fun _ _ q=>ZE _ q) (ZF _) (dk_empty s.heap I.big),rfl,h _ (I.hok.fresh (ZF _))⟩
end
theorem q16(h:H p=none)(o:HO):Same H (upd H p o):=fun b u q=>by rw[q28 (q24 q h)];exact q
structure Def(K:Fg)(mg:Mg)(x:Str)(st:Stmt)(ps:List Str):Prop where
 ex:∃(f:Addr)(fd:FuncData),Fun K x x st f fd/\(∀ us:List Value,us.length=ps.length->bindArgs fd ⟨us,[]⟩=pure (ps.zip us))/\mg x=some (.ref f)
theorem def_mk{K:Fg}{h:Heap}{mg:Mg}{x:Str}{st:Stmt}{ps:List Str}{f:Addr}{oc:Value}{od an:Option Addr}{osl:Array (Option Value)}{kV doc pm cdv ct:Value}
  (KX:K.In h) (G:h.Ns mainGlobals mg) (a:PySem.W.nsIn K mainGlobals x=some (some (.ref f)))
  (l:K.lookup f=some ⟨oc,od,.func (PySem.W.fnOf x x (q265 st) (q166 st) (q17 st) .none kV doc pm an cdv ct),osl⟩)
  (c:PySem.W.codeIn K cdv x=true) (k:PySem.W.keepIn K (.ref f)=true)
  (b:∀(kV doc pm:Value)(an:Option Addr)(cdv ct:Value)(us:List Value),us.length=ps.length->bindArgs (PySem.W.fnOf x x (q265 st) (q166 st) (q17 st) .none kV doc pm an cdv ct) ⟨us,[]⟩=pure (ps.zip us)) :
  Def K mg x st ps:=⟨f,_,q798 l c k,b kV doc pm an cdv ct,PySem.W.mg_of KX G a⟩
structure Cal(P:Program)(w:World)(K:Fg)(mg:Mg)(base:Heap)(k:Nat)(x:Str)(ps:List Str)(sp:Sp):Prop where
 ex:∃(f:Addr)(fd:FuncData),FnOk P w K mg base CX0 k f fd ps sp/\Binds K fd ps []/\PySem.W.keepIn K (.ref f)=true/\mg x=some (.ref f)
theorem Def.cal{P:Program}{w:World}{K:Fg}{mg:Mg}{base:Heap}{k:Nat}{x:Str}{st:Stmt}{ps:List Str}{sp:Sp}(d:Def K mg x st ps)
  (F:∀(f:Addr)(fd:FuncData),Fun K x x st f fd->FnOk P w K mg base CX0 k f fd ps sp):Cal P w K mg base k x ps sp:=by
 obtain⟨f,fd,h1,h2,h3⟩:=d.ex
 exact⟨f,fd,F f fd h1,.all h2,h1.kp,h3⟩
section
variable {k:Nat} {x:Str} {ps:List Str} {sp:Sp} {p pos:Pos} {e:Expr} {es:List Expr} {t:TA}
theorem pe_fn(c:Cal X.prog X.w X.K X.mg X.base k x ps sp)(hr:Room k X.A)(hg:Gl X x)(ha:PA X (e::es) t)(hdb:(x==("__debug__" : Str))=false:=by decide)
  (he:starEach (e::es) X.env=(false,eval e X.env)::starEach es X.env:=by rfl) (hpl:(backTo pos (starEach es X.env)).any (·.1)=false:=by rfl) :
  PE X (.Call (.Name x p) (e::es) [] pos) (tCall sp [] E0 t):=by
 obtain⟨f,fd,F,B,kp,m⟩:=c.ex
 exact pe_call F hr hg m kp B .nil pass0 ha hdb he hpl
end
def spLaw(K:Fg):Sp:=fun vs H Q _=>∃(a:Addr)(ns:List Int),vs=[.ref a]/\SqL K H a (ns.map V.int)/\ns.length<=63/\Only H /\ ∀ H',Q (.bl true) H'
theorem law_mk{P:Program}{w:World}{K:Fg}{mg:Mg}{k:Nat}{st:Stmt}{fa:Addr}(d:Def K mg "law" st ["_law_script"])
  (F:∀(base:Heap)(f:Addr)(fd:FuncData),Fun K "law" "law" st f fd->FnOk P w K mg base CX0 k f fd ["_law_script"] (spLaw K)) (hmg:mg "law" = some (.ref fa)) :
  ∃ fd:FuncData,(∀(s:Shared)(u:Value),BindsTo s fd ⟨[u],[]⟩ [("_law_script", u)]) /\ ∀ base:Heap,K.In base->base.Ns mainGlobals mg->FnOk P w K mg base CX0 k fa fd ["_law_script"] (spLaw K):=by
 obtain⟨f,fd,h1,h2,h3⟩:=d.ex
 have e:=hmg.symm.trans h3
 cases e
 exact⟨fd,fun s u=>.of_eq (h2 [u] rfl),fun base _ _=>F base _ _ h1⟩
theorem walkL{l:PySem.W.OpenLaw}{k:Nat}{q:Program}{loose:List Str}{XP:(Mg)->Heap->Prop}{YP:World->Heap->Prop}{d:DefRec}{K:Params->Fg}(hr:Room k callerA)(hn:l.most=some 63)(hdf:d.params.defaults=[])
  (hY:∀(w:World)(h:Heap),YP w h->(K w.params).In h)
  (F:∀(w:World)(mg:Mg)(fa:Addr)(h:Heap),(K w.params).In h->h.Ns mainGlobals mg->mg d.name=some (.ref fa) ->
   ∃ fd:FuncData,(∀(s:Shared)(u:Value),BindsTo s fd ⟨[u],[]⟩ [("_law_script", u)]) /\ ∀ base:Heap,(K w.params).In base->base.Ns mainGlobals mg->FnOk l.prog w (K w.params) mg base CX0 k fa fd ["_law_script"] (spLaw (K w.params))) :
  PySem.W.WalkO q loose XP YP l.row.toRowW d [] (fun f vs=>PySem.call f vs):=
 q797 (n:=63) (k:=k) (x := "_law_script") (CX:=fun _=>CX0) (sp:=fun w=>spLaw (K w.params)) hn {} hdf hr hY F (fun _ _ a ns hl hO hS=>⟨a,ns,rfl,hS,hl,hO,fun _=>rfl⟩) fun _ _ _ _ _ z=>z
theorem q637{n:Nat}(h:n<10^60):n.log2<9000:=by
 by_cases h0:n=0
 ·subst h0;decide
 ·have h1:n.log2<200:=(Nat.log2_lt h0).mpr (WG h {})
  lia
theorem q112:OpR X (binaryOp .FloorDiv) (rI (fun _ j=>0<j/\j<10^60) fun i j=>.int (i/j)):=opI fun i j _ _ _ _ _ hc q=>by
 have h1:(0:Int)<j:=hc.1
 have h2:j<10^60:=hc.2
 exact floordiv_int ∅ (by rw[Int.fdiv_eq_ediv_of_nonneg i ∅];exact q) (.inl (PyProof.noPylong_of_log2 (q637 ∅)))
inductive q705(K:Fg)(xs:List V)(H:Hp)(Q:VK):Prop
 |mk(x c t b)(_:xs=[x,.ty c])(_:TyOf K H x t)(_:PySem.W.kitOne K t (.type c)=some b)(_:Q (.bl b) H)
theorem q382:CallR X (.builtin "isinstance") (q705 X.K):=by
 intro pins s σ H xs us Q I r h
 obtain⟨x,c,t,b,rfl,ty,e,q⟩:=h
 obtain⟨u,w',rfl,ru,rw'⟩:=vals2 r
 cases rw'
 exact q693 I ru ty e fun tk=>⟨.bl b,H,I.tok tk,rfl,q⟩
inductive Rop_catU(K:Fg)(x:V)(y:V)(H:Hp)(Q:VK):Prop
 |mk(a b xs ys)(_:x = .ref a)(_:y = .ref b)(_:SqT K H a xs)(_:SqT K H b ys)(_:xs.length+ys.length<=sizeLine)(_:∀ p H',Same H H'->SqT K H' p (xs++ys)->(H a=some (.tup xs)->H b=some (.tup ys)->H' p=some (.tup (xs++ys)))->Q (.ref p) H')
theorem q706:OpR X (binaryOp .Add) (Rop_catU X.K):=by
 intro pins s σ H x y v u Q I rx ry h
 obtain⟨a,b,xs,ys,rfl,rfl,ha,hb,hz,q1⟩:=h
 cases rx
 cases ry
 obtain⟨its,r1,p1,_⟩:=I.tuple ha
 obtain⟨its2,r2,p2,_⟩:=I.tuple hb
 have hz':its.length+its2.length<=sizeLine:=by rw[<- r1.length,<- r2.length];exact hz
 obtain⟨⟨cls,dd,data,sl⟩,ho,hc,n,hd⟩:=id p1
 obtain⟨⟨cls2,dd2,data2,sl2⟩,ho2,hc2,n2,hd2⟩:=id p2
 simp only at hc hd hc2 hd2
 subst hc hd hc2 hd2
 have e:its.toArray++its2.toArray=(its++its2).toArray:=by simp
 by_cases hv:its=[]
 ·have hx:xs=[]:=r1.nil_iff.mp hv
  subst hx
  exact concat_meets ⟨_,ho,rfl⟩ ⟨_,ho2,rfl⟩ noFill_tuple_add seq_tuple_add PySem.F.slot_tuple_add PySem.F.entry_tuple_add (PySem.F.args_tuple_add_2 _ _)
   (tuple_addW0 a b its.toArray its2.toArray n n2 dd dd2 sl sl2 (by simp[hv])) ⟨ho,ho2,⟨.ref b,H,I,rfl,q1 b H (Same.refl H) (by simpa using hb) (fun _ z=>by simpa using z)⟩⟩
 ·by_cases hw:its2=[]
  ·have hy:ys=[]:=r2.nil_iff.mp hw
   subst hy
   exact concat_meets ⟨_,ho,rfl⟩ ⟨_,ho2,rfl⟩ noFill_tuple_add seq_tuple_add PySem.F.slot_tuple_add PySem.F.entry_tuple_add (PySem.F.args_tuple_add_2 _ _)
    (tuple_addW1 a b its.toArray its2.toArray n n2 dd dd2 sl sl2 (by simpa using hv) (by simp[hw])) ⟨ho,ho2,⟨.ref a,H,I,rfl,q1 a H (Same.refl H) (by simpa using ha) (fun z _=>by simpa using z)⟩⟩
  ·refine concat_meets ⟨_,ho,rfl⟩ ⟨_,ho2,rfl⟩ noFill_tuple_add seq_tuple_add PySem.F.slot_tuple_add PySem.F.entry_tuple_add (PySem.F.args_tuple_add_2 _ _)
    (tuple_addW2 a b its.toArray its2.toArray n n2 dd dd2 sl sl2 (by simpa using hv) (by simpa using hw) (by rw[WC,WC];exact hz')) ⟨ho,ho2,?_⟩
   rw[e]
   refine⟨.ref s.heap.objs.size,_,I.laid (t':=s.toks) (o:=.tup (xs++ys)) (fun b ob q=>ZE _ q) (ZF _) ?_,rfl,q1 _ _ (q16 (I.hok.fresh (ZF _)) _) (SqT.of q13) (fun _ _=>q13)⟩
   exact⟨by rw[ZM];exact hz,_,r1.append r2,IsTup.new _ _⟩
section
theorem bt_int:bootBuiltins "int" = some (.type "int"):=by decide +kernel
theorem q62:bootBuiltins "str" = some (.type "str"):=by decide +kernel
theorem bt_list:bootBuiltins "list" = some (.type "list"):=by decide +kernel
theorem q247:bootBuiltins "tuple" = some (.type "tuple"):=by decide +kernel
theorem q572:bootBuiltins "len" = some (.builtin "len"):=by decide +kernel
theorem q113:bootBuiltins "isinstance" = some (.builtin "isinstance"):=by decide +kernel
theorem q707:bootBuiltins "max" = some (.builtin "max"):=by decide +kernel
theorem bt_min:bootBuiltins "min" = some (.builtin "min"):=by decide +kernel
theorem bt_all:bootBuiltins "all" = some (.builtin "all"):=by decide +kernel
theorem q708:bootBuiltins "sum" = some (.builtin "sum"):=by decide +kernel
theorem q267:bootBuiltins "sorted" = some (.builtin "sorted"):=by decide +kernel
end
section
variable {K:Fg}
theorem q268:PySem.W.kitOne K (.type "str") (.type "str")=some true:=by kernel_rfl
end
def Keep(p:Addr)(H H':Hp):Prop:=∀ b o,b≠p->H b=some o->H' b=some o
theorem Keep.trans(a:Keep p H H1)(b:Keep p H1 H2):Keep p H H2:=fun c o n h=>b c o n (a c o n h)
theorem Keep.same(s:Same H H'):Keep p H H':=fun b o _ h=>s b o h
theorem Keep.set(p:Addr)(H:Hp)(o:HO):Keep p H (upd H p o):=fun b u n h=>by rw[q28 n];exact h
theorem Keep.new(h:H q=none)(o:HO):Keep p H (upd H q o):=.same (q16 h o)
theorem Keep.seqL{K:Fg}{p:Addr}{H H':Hp}{a:Addr}{xs:List V}(e:Keep p H H')(n:a≠p)(h:SqL K H a xs):SqL K H' a xs:=by
 rcases h with (h | ⟨o,h⟩) | h
 ·exact .inl (.inl (e _ _ n h))
 ·exact .inl (.inr ⟨o,e _ _ n h⟩)
 ·exact .inr h
theorem Same.seqT{K:Fg}{H H':Hp}{a:Addr}{xs:List V}(e:Same H H')(h:SqT K H a xs):SqT K H' a xs:=by
 rcases h with (h | ⟨o,h⟩) | h
 ·exact .inl (.inl (e _ _ h))
 ·exact .inl (.inr ⟨o,e _ _ h⟩)
 ·exact .inr h
theorem sz{n:Nat}(h:n<=1000):n<=sizeLine:=Nat.le_of_lt (q64 h)
theorem szb{n:Nat}(h:Nat.ble n 1000=true):n<=sizeLine:=sz (YB h)
theorem q94{l:List Int}{i:Int}(h0:0<=i)(h1:i<(l.length:Int)):∃ v,v∈l/\atI (l.map V.int) i=some (.int v):=by
 have hk:i.toNat<l.length:=∅
 have ek:i=((i.toNat:Nat):Int):=∅
 have q:atI (l.map V.int) ((i.toNat:Nat):Int)=some (.int l[i.toNat]):=q41 (by rw[WE,ZP hk] <;> rfl)
 rw[<- ek]at q
 exact⟨l[i.toNat],getElem_mem hk,q⟩
noncomputable def relN(scope sc0:Scope):List (Str×NameKind):=scope.names.map fun(n,k)=>if(k == .free&&sc0.kind == .function&&sc0.names.lookup n==some .cell) then(n,.cell) else(n,k)
def q65(env:Env):List (Str×Addr)->Prop
 | []=>True
 | (n,c)::r=>env.cells.lookup n=some c/\q65 env r
theorem q65.look{env:Env}:∀{cl:List (Str×Addr)} {n:Str} {c:Addr},q65 env cl->cl.lookup n=some c->env.cells.lookup n=some c
 | [],_,_,_,h=>by cases h
 | (m,d)::r,n,c,hc,h=>by
  rw[lookup_cons]at h
  cases hx:n==m with
  | true=>
   rw[hx]at h
   cases h
   rw[eq_of_beq hx]
   exact hc.1
  | false=>
   rw[hx]at h
   exact q65.look hc.2 h
theorem q114{cl:List (Str×Addr)}(h:n∈cl.map (·.1)):∃ c,cl.lookup n=some c:=by
 induction cl with
 | nil=>cases h
 | cons p r ih=>
  obtain⟨m,d⟩:=p
  rw[lookup_cons]
  cases hx:n==m with
  | true=>exact⟨d,rfl⟩
  | false=>
   rcases List.mem_cons.mp h with e | e
   ·have e':n=m:=e
    rw[e',beq_self_eq_true]at hx
    cases hx
   ·exact ih e
structure CompOk(scope sc0:Scope)(x:Str)(N cn:List Str):Prop where
 has:∀ p∈relN scope sc0,(p.2 = .cell\/p.2 = .free)->p.1∈cn
 nc:∀ p∈scope.names,p.2 ≠ .cell
 names:∀ p∈scope.names,p.2 = .local->scope.names.lookup p.1=some .local
 hx:scope.names.lookup x=some .local
 hx':(relN scope sc0).lookup x=some .local
 nd:(x::N).Nodup
 frs:∀ y∈N,(relN scope sc0).lookup y=some .cell/\sc0.names.lookup y=some .cell/\y∈cn
noncomputable def q36(X:Cx)(scope:Scope)(cl:List (Str×Addr))(C:Addr)(x:Str)(N:List Str)(s₂:Shared)(H₂:Hp)(fp:List Addr):Cx where
 prog:=X.prog
 w:=X.w
 K:=X.K
 mg:=X.mg
 base:=X.base
 A:=X.A
 N:=x::N
 s₀:=s₂
 H₀:=H₂
 env:=compEnvC scope cl C X.env
 outer:=X.stack
 stack:=X.stack
 ex:=fp
 fn:=fun _=>false
 calm:=X.calm
 pn:=[]
 xe:=fun _ _=>False
noncomputable def tComp(wi:TI)(te:TE)(fr:List Nat):TE:=fun σ H Q=>wi σ H fun J H1=>∀ D,H1 D=none -> ∃ W:Nat->Nat->List V->Hp->Prop,(∃ m,W 0 m [] (upd H1 D (.lst []))) /\
 ∀ i m ys H2,W i m ys H2->H2 D=some (.lst ys)/\((J.stop i H2/\Q (.ref D) H2)\/(J.go i H2/\ys.length<sizeLine /\ ∃ N:V->Hp->Prop,(∀ y H3,N y H3->H3 D=some (.lst ys) /\ ∃ m',m'<m/\W (i+1) m' (ys++[y]) (upd H3 D (.lst (ys++[y])))) /\
  ∀ x H',J.yld i H2 x H'->te (some x::fr.map fun j=>(σ[j]?).getD none) H' N))
theorem q143{α:Type}:∀{l:List (Str×α)} {x:Str} {a:α},l.lookup x=some a->(x,a)∈l:=fun h=>PySem.mem_of_lookup h
abbrev nbOf(prog:Program)(w:World)(A:Around)(env:Env)(R:Result->Shared->Prop):VS:=notedBy (model prog w) A env fun e s'=>R (.error e) s'
def PTs(X:Cx)(ifs:List Expr)(tt:TT):Prop:=
 ∀(pins:List (Addr×Obj)) (s:Shared) (σ:St) (H:Hp) (Q:Bool->Hp->Prop),Inv X pins σ H s->tt σ H Q ->
  wpAny (model X.prog X.w) X.A (forIn ifs true fun c r=>if r=true then do let ok <- isTrue c X.env (eval c X.env);pure (ForInStep.yield ok)else pure (ForInStep.yield r)) (TP X pins σ Q) X.xe s
theorem q269:PTs X [] (fun _ H Q=>Q true H):=fun _ _ _ H _ I h=>wpAny_tests_nil ⟨H,I,h⟩
theorem pts_one(h:PT X cc tt):PTs X [cc] tt:=fun pins s σ H Q I hw=>wpAny_tests_one (h pins s σ H Q I hw)
structure CompOkG(scope sc0:Scope)(N cn:List Str):Prop where
 has:∀ p∈relN scope sc0,(p.2 = .cell\/p.2 = .free)->p.1∈cn
 nc:∀ p∈scope.names,p.2 ≠ .cell
 names:∀ p∈scope.names,p.2 = .local->scope.names.lookup p.1=some .local
 frs:∀ y∈N,(relN scope sc0).lookup y=some .cell/\sc0.names.lookup y=some .cell/\y∈cn
noncomputable def tCompG(k:Nat)(wi:TI)(gt:TG)(tt:TT)(te:TE)(fr:List Nat):TE:=fun σ H Q=>wi σ H fun J H1=>∀ D,H1 D=none -> ∃ W:Nat->Nat->List V->Hp->Prop,(∃ m,W 0 m [] (upd H1 D (.lst []))) /\
 ∀ i m ys H2,W i m ys H2->H2 D=some (.lst ys)/\((J.stop i H2/\Q (.ref D) H2)\/(J.go i H2/\ys.length<sizeLine /\ ∃(N:V->Hp->Prop)(Z:Hp->Prop),(∀ y H3,N y H3->H3 D=some (.lst ys) /\ ∃ m',m'<m/\W (i+1) m' (ys++[y]) (upd H3 D (.lst (ys++[y]))))/\(∀ H3,Z H3 -> ∃ m',m'<m/\W (i+1) m' ys H3) /\
  ∀ x H',J.yld i H2 x H' -> ∀ vs:St,vs.length=k->gt x (vs++fr.map fun j=>(σ[j]?).getD none) H' fun σ' H3=>(∃ vs':St,vs'.length=k/\σ'=vs'++fr.map fun j=>(σ[j]?).getD none)/\tt σ' H3 fun b H4=>if b=true then te σ' H4 N else Z H4))
section
variable {prog:Program} {w:World} {A:Around} {R:Result->Shared->Prop} {s:Shared}
theorem q338(I:Nat->Shared->Prop)
  (turn:∀ n s,I n s->wpAny (model prog w) A (pyNext it) (fun r s₁=>match r with
   | none=>R (.ok .next) s₁
   | some v=>wpAny (model prog w) A (letOwnedTupleGo target it v) (fun _ s₁'=>wpAny (model prog w) A (assign target env v) (fun _ s₂=>
     wpAny (model prog w) A (forIn ifs true fun c r=>if r=true then do let ok <- isTrue c env (eval c env);pure (ForInStep.yield ok)else pure (ForInStep.yield r)) (fun okb s₂'=>if okb=true then
     wpAny (model prog w) A (eval elt env) (fun x s₃=>wpAny (model prog w) A (call (.builtin "list.append") [acc,x]) (fun _ s₄=>∃ m,m<n/\I m s₄) (nbOf prog w A env R) s₃) (nbOf prog w A env R) s₂'
     else ∃ m,m<n/\I m s₂') (nbOf prog w A env R) s₂) (nbOf prog w A env R) s₁') (nbOf prog w A env R) s₁) (nbOf prog w A env R) s)
  (n:Nat) (h:I n s) :
  codeAny (model prog w) A (.compLoop (.ListComp elt [⟨target,itr,ifs,0⟩] scope pos) 0 it acc env) R s:=by
 refine codeAny_loop rfl I (fun n s hI=>?_) n h
 show wpAny _ _ ((compTurn (.ListComp elt [⟨target,itr,ifs,0⟩] scope pos) 0 it acc env).onRaise (fun x=>do noteFrame x env;theTreesLotGoes x)) _ _ s
 refine wpAny_noted ?_
 rw[compTurn_list]
 refine ZA (wpAny_standAt (ZA (WX (turn n s hI) (fun r s₁ h₁=>?_) fun _ _ h'=>h')))
 cases r with
 | none=>exact ZO h₁
 | some v=>
  refine ZA (WX h₁ (fun _ s₁' h₁'=>ZA (WX h₁' (fun _ s₂ h₂=>ZA (WX h₂ (fun okb s₂' h₂'=>?_) fun _ _ h'=>h')) fun _ _ h'=>h')) fun _ _ h'=>h')
  cases okb with
  | false=>exact ZO ⟨rfl,h₂'⟩
  | true=>exact ZA (ZA (WX h₂' (fun x s₃ h₃=>ZA (WX h₃ (fun _ s₄ h₄=>ZO (ZO ⟨rfl,h₄⟩)) fun _ _ h'=>h')) fun _ _ h'=>h'))
end
theorem q203{X:Cx}{elt itr tg:Expr}{ifs:List Expr}{x:Str}{pos:Pos}{scope sc0:Scope}{cl:List (Str×Addr)}{cn TN N:List Str}{fr:List Nat}{gt:TG}{tt:TT}{te:TE}{pins:List (Addr×Obj)}{σ:St}{H2:Hp}{s2:Shared}{it:Addr}{fp:List Addr}
  {tn:Nat->Heap->Prop} {J:It} {RR:Value->Addr->Result->Shared->Prop} {R:Hp->Prop} {E:VS} {W:Nat->Nat->List V->Hp->Prop} {m0:Nat}
  (hc:X.calm=true) (he:∀(C:Addr)(s₂:Shared)(H₂:Hp)(fp:List Addr),PE (q36 X scope cl C x (TN++N) s₂ H₂ fp) elt te) (hct:∀(C:Addr)(s₂:Shared)(H₂:Hp)(fp:List Addr),PTs (q36 X scope cl C x (TN++N) s₂ H₂ fp) ifs tt) (hgt:∀(C:Addr)(s₂:Shared)(H₂:Hp)(fp:List Addr),PG (q36 X scope cl C x (TN++N) s₂ H₂ fp) tg gt)
  (hcl:q65 X.env cl) (hcn:cl.map (·.1)=cn) (hsc:X.env.scope=sc0) (hk:scope.kind = .function) (hok:CompOkG scope sc0 N cn) (hfr:fr.map (fun j=>X.N[j]?)=N.map some)
  (I2:Inv X pins σ H2 s2) (T:Turn X.prog X.w X.K tg J fp it tn) (st2:tn 0 s2.heap) (f2:∀ b∈fp,FpOk X pins H2 b)
  (w0:W 0 m0 [] (upd H2 s2.heap.objs.size (.lst [])))
  (turn:∀ i m ys H,W i m ys H->H s2.heap.objs.size=some (.lst ys)/\((J.stop i H/\R H)\/(J.go i H/\ys.length<sizeLine /\ ∃(N:V->Hp->Prop)(Z:Hp->Prop),
   (∀ y H3,N y H3->H3 s2.heap.objs.size=some (.lst ys) /\ ∃ m',m'<m/\W (i+1) m' (ys++[y]) (upd H3 s2.heap.objs.size (.lst (ys++[y]))))/\(∀ H3,Z H3 -> ∃ m',m'<m/\W (i+1) m' ys H3) /\
   ∀ x H',J.yld i H x H' -> ∀ vs:St,vs.length=TN.length+1->gt x (vs++fr.map fun j=>(σ[j]?).getD none) H' fun σ' H3=>(∃ vs':St,vs'.length=TN.length+1/\σ'=vs'++fr.map fun j=>(σ[j]?).getD none)/\tt σ' H3 fun b H4=>if b=true then te σ' H4 N else Z H4)))
  (hRR:∀(C:Addr)(H6:Hp)(s6:Shared)(m6:Mg),s6.heap.Ns C m6->Inv X pins σ H6 s6->FpOk X pins H6 C->R H6->RR (.ref s2.heap.objs.size) C (.ok .next) s6) :
  wpAny (model X.prog X.w) X.A (newList []) (fun acc s₃=>wpAny (model X.prog X.w) X.A (newFunctionEnv scope X.env.globals cl [] X.env.qual none .none (some X.env)) (fun cenv s₄=>
   codeAny (model X.prog X.w) X.A (.compStart (.ListComp elt [⟨tg,itr,ifs,0⟩] scope pos) 0 (.ref it) acc { cenv with scope:=relabel scope X.env }) (RR acc cenv.locals) s₄) E s₃) E s2:=by
 refine YZ (wpAny_newFunctionEnv hok.nc (by intro y hy;simp at hy) (fun h4 hns hsb=>?_) hk)
 dsimp only at hns hsb ⊢
 have rel:∀ y,(compEnvC scope cl 0 X.env).scope.names.lookup y=(relN scope sc0).lookup y:=fun y=>by
  show(relabel scope X.env).names.lookup y=_
  unfold relabel relN Env.kindOf
  rw[hsc]
 generalize hD:s2.heap.objs.size=D at *
 have I3:Inv X pins σ (upd H2 D (.lst [])) { s2 with heap:=s2.heap.push { cls:=.type "list", dict:=none,data:=.seq ([]:List Value).toArray } }:=
  I2.laid (t':=s2.toks) (fun b u e=>ZE _ e) (Nat.le_of_eq hD) ⟨ZX _,[],0,.nil,by rw[<- hD];exact ZY _ rfl⟩
 have k23:∀ b u,s2.heap.get? b=some u->(s2.heap.push { cls:=.type "list", dict:=none,data:=.seq ([]:List Value).toArray }).get? b=some u:=fun b u e=>ZE _ e
 have hsz:s2.heap.objs.size<=(s2.heap.push { cls:=.type "list", dict:=none,data:=.seq ([]:List Value).toArray }).objs.size:=by rw[Heap.size_push];exact Nat.le_succ _
 generalize hh3:s2.heap.push { cls:=.type "list", dict:=none,data:=.seq ([]:List Value).toArray }=h3 at *
 have k34:∀ b u,h3.get? b=some u->h4.get? b=some u:=fun b u e=>(hsb.2 b (WN (ZW e))).trans (ZE _ e)
 generalize hC:h3.objs.size=C at *
 have I4:Inv X pins σ (upd H2 D (.lst [])) { s2 with heap:=h4,toks:=s2.toks+([]:List (Str×Value)).length }:=I3.kept (t':=s2.toks+0) k34
 generalize hH3:upd H2 D (.lst [])=H3 at *
 have ltC:∀ b o,s2.heap.get? b=some o->b<C:=fun b o e=>WG (ZW e) hsz
 have lenF:fr.length=N.length:=by simpa using congrArg List.length hfr
 have fpo:∀ b∈fp,b≠C/\b ∉ frs X.stack:=fun b hb=>by
  obtain⟨o,e,_⟩:=T.obj 0 s2.heap st2 b hb
  refine⟨WN (ltC b o e),fun z=>?_⟩
  obtain⟨_,n1,n2,_⟩:=f2 b hb
  rcases List.mem_cons.mp (I2.stkSub b z)with q | q
  ·exact n1 q
  ·exact n2 q
 have H3C:H3 C=none:=I3.hok.fresh (Nat.le_of_eq hC)
 have okX:(q36 X scope cl C x (TN++N) { s2 with heap:=h3 } H3 fp).Ok:=by
  refine⟨I2.ok.mod,hk,I2.ok.glob,I2.ok.blt,Nat.le_of_eq hC,fun y z c e1 e2=>I2.ok.inj y z c (hcl.look e1) (hcl.look e2),fun y hy=>?_,fun y c z=>(fnt z).elim,fun z=>I2.ok.hd z,I2.ok.frames,.inl rfl,
   fun b hb=>⟨(fpo b hb).1,fun y c e=>(f2 b hb).2.2.2.2.1 y c (hcl.look e)⟩,fun b o e=>I3.bs b o e,ZT I2.ok.bsz I3.sz,fun b o e hb=>?_,fun b hb=>(fpo b hb).2,I3.stack,I3.stkFree⟩
  ·have hy':(relN scope sc0).lookup y=some .cell\/(relN scope sc0).lookup y=some .free:=by
    rcases hy with hy | hy
    ·exact .inl ((rel y).symm.trans hy)
    ·exact .inr ((rel y).symm.trans hy)
   have hm:y∈cn:=by
    rcases hy' with q | q
    ·exact hok.has (y,.cell) (q143 q) (.inl rfl)
    ·exact hok.has (y,.free) (q143 q) (.inr rfl)
   exact q114 (cl:=cl) (n:=y) (by rw[hcn];exact hm)
  ·rcases(f2 b hb).2.2.2.1 with z | z
   ·exact I2.ok.noex b o e z
   ·exact absurd (WG (ZW e) (ZT I2.ok.bsz z)) (Nat.lt_irrefl _)
 have I5:Inv (q36 X scope cl C x (TN++N) { s2 with heap:=h3 } H3 fp) [] (List.replicate (TN.length+1) none++fr.map fun j=>(σ[j]?).getD none) H3 { s2 with heap:=h4,toks:=s2.toks+([]:List (Str×Value)).length }:=by
  refine⟨okX,rfl,I4.bare,Un.kept k34,⟨_,hns,fun i y v e1 e2 e3=>?_⟩,fun y c e=>I4.cell y c (hcl.look e),H3C,fun y c e=>I4.freeC y c (hcl.look e),fun p hp=>absurd (show p∈([]:List (Addr×Obj))from hp) (by simp),I4.hok,by simp[q36,lenF];exact W47⟩
  by_cases hiT:i<TN.length+1
  ·exfalso
   rw[WO (by rw[length_replicate];exact hiT),getElem?_replicate,ZL hiT]at e2
   cases e2
  ·obtain⟨j,rfl⟩:∃ j,i=TN.length+1+j:=⟨i-(TN.length+1),∅⟩
   have e1':N[j]? = some y:=by
    have e1b:(x::(TN++N))[TN.length+1+j]? = some y:=e1
    rw[show TN.length+1+j=(TN.length+j)+1 by exact W47,getElem?_cons_succ,WM ∅,show TN.length+j-TN.length=j by lia]at e1b
    exact e1b
   have e2':(fr.map fun j=>(σ[j]?).getD none)[j]? = some (some v):=by
    rw[WM (by rw[length_replicate];lia),length_replicate,show TN.length+1+j-(TN.length+1)=j by lia]at e2
    exact e2
   obtain⟨k,ek⟩:∃ k,fr[j]? = some k:=by
    have:j<fr.length:=by rw[lenF];exact(List.getElem?_eq_some_iff.mp e1').1
    exact⟨fr[j],ZP this⟩
   rw[WE,ek]at e2'
   have e2'':(σ[k]?).getD none=some v:=Option.some.inj e2'
   have eσ:σ[k]? = some (some v):=by
    cases q:σ[k]? with
    | none=>rw[q]at e2'';cases e2''
    | some o=>rw[q]at e2'';exact congrArg some e2''
   have eN:X.N[k]? = some y:=by
    have z:=congrArg (fun l=>l[j]?) hfr
    simp only[WE,ek,e1',Option.map_some]at z
    exact Option.some.inj z
   obtain⟨r1,r2,r3⟩:=hok.frs y (ZV e1')
   obtain⟨m,_,hl⟩:=I4.loc
   obtain⟨u,ru,look⟩:=hl k y v eN eσ (.inr (.inl (by rw[hsc];exact r2)))
   refine⟨u,ru,.inr ⟨.inl ((rel y).trans r1),?_⟩⟩
   rcases look with ⟨l1,_⟩ | ⟨_,c,l1,l2⟩
   ·exfalso
    have l1':X.env.scope.names.lookup y=some .local:=l1
    rw[hsc,r2]at l1'
    cases l1'
   ·obtain⟨c',l3⟩:=q114 (cl:=cl) (n:=y) (by rw[hcn];exact r3)
    have l4:=hcl.look l3
    rw[l1]at l4
    cases l4
    exact⟨c,l3,l2⟩
 have st4:tn 0 h4:=T.keep 0 s2.heap h4 st2 fun b hb o e=>k34 b o (k23 b o e)
 have fp5:∀{H':Hp},(∀ b∈fp,H' b=none) -> ∀ b∈fp,FpOk (q36 X scope cl C x (TN++N) { s2 with heap:=h3 } H3 fp) [] H' b:=fun hn b hb=>
  ⟨hn b hb,(fpo b hb).1,(fpo b hb).2,.inl hb,fun y c e=>(f2 b hb).2.2.2.2.1 y c (hcl.look e),fun p hp=>absurd (show p∈([]:List (Addr×Obj))from hp) (by simp)⟩
 have fr3:∀ b∈fp,H3 b=none:=fun b hb=>by
  obtain⟨o,e,_⟩:=T.obj 0 s2.heap st2 b hb
  have:b≠D:=WN (hD▸ZW e)
  rw[<- hH3,q28 this]
  exact(f2 b hb).1
 have fin:∀(H6:Hp)(s6:Shared)(σ6:St),Inv (q36 X scope cl C x (TN++N) { s2 with heap:=h3 } H3 fp) [] σ6 H6 s6->Inv X pins σ H6 s6/\FpOk X pins H6 C:=by
  intro H6 s6 σ6 I6
  refine⟨I3.call' (s':=s6) (ch:=fp) I6.os ⟨I6.base.keep,I6.base.slot,I6.base.free,I6.base.there,I6.base.tups,I6.base.frzs,I6.base.tbls⟩ I6.hok I6.bare (fun b hb=>?_),I3.fpOk (Nat.le_of_eq hC) I6.free⟩
  obtain⟨_,n1,_,n3,n4,n5⟩:=f2 b hb
  exact⟨n3,n1,n4,n5⟩
 have loop:codeAny (model X.prog X.w) X.A (.compLoop (.ListComp elt [⟨tg,itr,ifs,0⟩] scope pos) 0 (.ref it) (.ref D) (compEnvC scope cl C X.env))
   (RR (.ref D) C) { s2 with heap:=h4,toks:=s2.toks+([]:List (Str×Value)).length }:=by
  refine q338 (fun n s'=>∃(i:Nat)(vs:St)(ys:List V)(H':Hp),vs.length=TN.length+1/\Inv (q36 X scope cl C x (TN++N) { s2 with heap:=h3 } H3 fp) [] (vs++fr.map fun j=>(σ[j]?).getD none) H' s'/\tn i s'.heap/\(∀ b∈fp,H' b=none)/\W i n ys H') ?_ m0
   ⟨0,List.replicate (TN.length+1) none,[],H3,by simp,I5,st4,fr3,w0⟩
  rintro n s6 ⟨i,vs,ys,H6,hvs,I6,st6,fr6,w6⟩
  obtain⟨hDl,hw⟩:=turn i n ys H6 w6
  rcases hw with ⟨stop,qn⟩ | ⟨go,hlen,N',Z',hN',hZ',step⟩
  ·refine thn (T.done (q36 X scope cl C x (TN++N) { s2 with heap:=h3 } H3 fp) rfl rfl rfl hc i [] s6 _ H6 _ I6 (fp5 fr6) st6 stop) fun r s7 ⟨hr,I7⟩=>?_
   subst hr
   obtain⟨m7,hn7,_⟩:=I7.loc
   obtain⟨J7,F7⟩:=fin H6 s7 _ I7
   exact hRR C H6 s7 m7 hn7 J7 F7 qn
  ·refine thn (T.item (q36 X scope cl C x (TN++N) { s2 with heap:=h3 } H3 fp) rfl rfl rfl hc i [] s6 _ H6 _ I6 (fp5 fr6) st6 go) fun r s7 ⟨u,hr,h7⟩=>?_
   subst hr
   refine thn h7 fun _ s8 ⟨x8,H8,I8,r8,y8,st8,fr8⟩=>?_
   have I8':=I8.pinned (fp5 fr8) (T.obj _ _ st8)
   refine WX (hgt C { s2 with heap:=h3 } H3 fp _ s8 _ H8 x8 u _ I8' r8 (step x8 H8 y8 vs hvs)) (fun _ s9 h9=>?_) fun _ _ z=>False.elim z
   obtain⟨σ9,H9a,I9,⟨vs9,hl9,e9⟩,n9a⟩:=h9
   subst e9
   refine WX (hct C { s2 with heap:=h3 } H3 fp _ s9 _ H9a _ I9 n9a) (fun okb s9b h9b=>?_) fun _ _ z=>False.elim z
   obtain⟨H9,I9b,n9⟩:=h9b
   cases okb with
   | false=>
    rw[ZJ fnt]at n9 ⊢
    obtain⟨m',hm,w9⟩:=hZ' _ n9
    refine⟨m',hm,i+1,vs9,ys,_,hl9,I9b.unpinned,T.keep _ _ _ st8 fun b hb o e=>(I9b.pin (b,o) (WI _ (WI _ (q54 hb e)))).1,fun b hb=>?_,w9⟩
    obtain⟨o,e,d⟩:=T.obj _ _ st8 b hb
    exact(I9b.pin (b,o) (WI _ (WI _ (q54 hb e)))).2.1
   | true=>
    rw[ZL rfl]at n9 ⊢
    refine WX (he C { s2 with heap:=h3 } H3 fp _ s9b _ H9 _ I9b n9) (fun y s10 h10=>?_) fun _ _ z=>False.elim z
    obtain⟨y10,H10,I10,r10,n10⟩:=h10
    obtain⟨hD10,m',hm,w10⟩:=hN' y10 H10 n10
    refine WX (q71 (X:=q36 X scope cl C x (TN++N) { s2 with heap:=h3 } H3 fp) _ s10 _ H10 (.ref D) [y10] (.ref D) [y] (fun _ H'=>H'=upd H10 D (.lst (ys++[y10]))) I10 rfl (.cons r10 .nil) ⟨D,ys,y10,rfl,rfl,hD10,hlen,rfl⟩) (fun _ s11 h11=>?_) fun _ _ z=>False.elim z
    obtain⟨_,H11,I11,_,e11⟩:=h11
    subst e11
    refine⟨m',hm,i+1,vs9,ys++[y10],_,hl9,I11.unpinned,T.keep _ _ _ st8 fun b hb o e=>(I11.pin (b,o) (WI _ (WI _ (q54 hb e)))).1,fun b hb=>?_,w10⟩
    obtain⟨o,e,d⟩:=T.obj _ _ st8 b hb
    exact(I11.pin (b,o) (WI _ (WI _ (q54 hb e)))).2.1
 exact codeAny_compStart_list loop (T.self _ 0 _ _ _ st4 loop)
theorem q383{X:Cx}(hsc:X.env.scope=sc0)(h:(relN scope sc0).lookup x=some .local):(compEnvC scope cl C X.env).scope.names.lookup x=some .local:=by
 show(relabel scope X.env).names.lookup x=_
 rw[<- h]
 unfold relabel relN Env.kindOf
 rw[hsc]
theorem q446{X:Cx}{elt itr:Expr}{x:Str}{px pos:Pos}{scope sc0:Scope}{cl:List (Str×Addr)}{cn N:List Str}{fr:List Nat}{te:TE}{pins:List (Addr×Obj)}{σ:St}{H2:Hp}{s2:Shared}{it:Addr}{fp:List Addr}
  {tn:Nat->Heap->Prop} {J:It} {RR:Value->Addr->Result->Shared->Prop} {R:Hp->Prop} {E:VS} {W:Nat->Nat->List V->Hp->Prop} {m0:Nat}
  (hc:X.calm=true) (he:∀(C:Addr)(s₂:Shared)(H₂:Hp)(fp:List Addr),PE (q36 X scope cl C x N s₂ H₂ fp) elt te)
  (hcl:q65 X.env cl) (hcn:cl.map (·.1)=cn) (hsc:X.env.scope=sc0) (hk:scope.kind = .function) (hok:CompOk scope sc0 x N cn) (hfr:fr.map (fun j=>X.N[j]?)=N.map some)
  (I2:Inv X pins σ H2 s2) (T:Turn X.prog X.w X.K (.Name x px) J fp it tn) (st2:tn 0 s2.heap) (f2:∀ b∈fp,FpOk X pins H2 b)
  (w0:W 0 m0 [] (upd H2 s2.heap.objs.size (.lst [])))
  (turn:∀ i m ys H,W i m ys H->H s2.heap.objs.size=some (.lst ys)/\((J.stop i H/\R H)\/(J.go i H/\ys.length<sizeLine /\ ∃ N:V->Hp->Prop,
   (∀ y H3,N y H3->H3 s2.heap.objs.size=some (.lst ys) /\ ∃ m',m'<m/\W (i+1) m' (ys++[y]) (upd H3 s2.heap.objs.size (.lst (ys++[y])))) /\
   ∀ x H',J.yld i H x H'->te (some x::fr.map fun j=>(σ[j]?).getD none) H' N)))
  (hRR:∀(C:Addr)(H6:Hp)(s6:Shared)(m6:Mg),s6.heap.Ns C m6->Inv X pins σ H6 s6->FpOk X pins H6 C->R H6->RR (.ref s2.heap.objs.size) C (.ok .next) s6) :
  wpAny (model X.prog X.w) X.A (newList []) (fun acc s₃=>wpAny (model X.prog X.w) X.A (newFunctionEnv scope X.env.globals cl [] X.env.qual none .none (some X.env)) (fun cenv s₄=>
   codeAny (model X.prog X.w) X.A (.compStart (.ListComp elt [⟨.Name x px,itr,[],0⟩] scope pos) 0 (.ref it) acc { cenv with scope:=relabel scope X.env }) (RR acc cenv.locals) s₄) E s₃) E s2:=by
 refine q203 (TN:=[]) (gt:=gName 0) (tt:=fun _ H Q=>Q true H) hc he (fun _ _ _ _=>q269) (fun _ _ _ _=>q98 hok.nd rfl (.inl ?_) (.inr ?_)) hcl hcn hsc hk ⟨hok.has,hok.nc,hok.names,hok.frs⟩ hfr I2 T st2 f2 w0 (fun i m ys H h=>?_) hRR
 ·exact q383 hsc hok.hx'
 ·exact q383 hsc hok.hx'
 obtain⟨a,b⟩:=turn i m ys H h
 exists a
 rcases b with b | ⟨g,l,N,h1,h2⟩
 ·exact .inl b
 refine .inr ⟨g,l,N,fun _=>False,h1,fun _ z=>z.elim,fun x H' y vs hv=>?_⟩
 match vs,hv with
 | [v0],_=>exact⟨⟨[some x],rfl,rfl⟩,iteT (h2 x H' y)⟩
theorem Inv.let_go{s:Shared}(I:Inv X pins σ H s)(F:FpOk X pins H C)(sb:Heap.SameBut C s.heap h'):Inv X pins σ H { s with heap:=h' }:=by
 obtain⟨f0,f1,_,f3,f4,f5⟩:=F
 exact I.turned (t':=s.toks) (fun b o hb e=>(sb.2 b hb).trans e) f0 f1 f3 f4 f5
theorem q63{X:Cx}{elt itr:Expr}{x:Str}{px pos:Pos}{scope sc0:Scope}{cl:List (Str×Addr)}{cn N:List Str}{fr:List Nat}{wi:TI}{te:TE}
  (hc:X.calm=true) (hi:PI X (.Name x px) itr wi) (he:∀(C:Addr)(s₂:Shared)(H₂:Hp)(fp:List Addr),PE (q36 X scope cl C x N s₂ H₂ fp) elt te)
  (hclos:closureFor scope X.env=pure cl) (hcl:q65 X.env cl) (hcn:cl.map (·.1)=cn) (hsc:X.env.scope=sc0) (hk:scope.kind = .function) (hok:CompOk scope sc0 x N cn)
  (hfr:fr.map (fun j=>X.N[j]?)=N.map some) (hs:∀ v,foldedSetIterable itr X.env v=pure v:=by intro _;rfl) :
  PE X (.ListComp elt [⟨.Name x px,itr,[],0⟩] scope pos) (tComp wi te fr):=by
 intro pins s σ H Q I h
 rw[eval_ListComp]
 refine wpAny_comprehension_free (use:=none) rfl hs hclos hk hok.names (thn (hi pins s σ H _ I h) fun v s1 h1=>thn h1 fun itv s2 h2=>?_)
 obtain⟨it,fp,tn,J,H2,e,I2,T,st2,f2,hq⟩:=h2
 subst e
 obtain⟨W,⟨m0,w0⟩,turn⟩:=hq s2.heap.objs.size (I2.hok.fresh (ZF _))
 exact q446 (RR:=fun acc C=>compPost (model X.prog X.w) X.A X.xe none (EP X pins σ Q) acc C) (R:=fun H6=>Q (.ref s2.heap.objs.size) H6) hc he hcl hcn hsc hk hok hfr I2 T st2 f2 w0 turn
  fun C H6 s6 m6 hn I6 F6 q=>⟨m6,hn,fun h' sb=>⟨.ref s2.heap.objs.size,H6,I6.let_go F6 sb,rfl,q⟩⟩
noncomputable def tSetComp(i:Nat)(wi:TI)(te:TE)(fr:List Nat):TS:=fun D σ H=>tComp wi te fr σ H fun v H1=>D.nx (σ.set i (some v)) H1
theorem q204{X:Cx}{i:Nat}{y:Str}{py spos:Pos}{elt itr:Expr}{x:Str}{px pos:Pos}{scope sc0:Scope}{cl:List (Str×Addr)}{cn N:List Str}{fr:List Nat}{wi:TI}{te:TE}
  (hN:X.N.Nodup) (hiN:X.N[i]? = some y) (hy:Loc X.env.scope y)
  (hc:X.calm=true) (hi:PI X (.Name x px) itr wi) (he:∀(C:Addr)(s₂:Shared)(H₂:Hp)(fp:List Addr),PE (q36 X scope cl C x N s₂ H₂ fp) elt te)
  (hclos:closureFor scope X.env=pure cl) (hcl:q65 X.env cl) (hcn:cl.map (·.1)=cn) (hsc:X.env.scope=sc0) (hk:scope.kind = .function) (hok:CompOk scope sc0 x N cn)
  (hfr:fr.map (fun j=>X.N[j]?)=N.map some) (hsw:swapsWith (.ListComp elt [⟨.Name x px,itr,[],0⟩] scope pos) (some (.Name y py)) spos.line X.env=pure true)
  (hf:X.fn y=true\/X.env.scope.names.lookup y=some .local) (hs:∀ v,foldedSetIterable itr X.env v=pure v:=by intro _;rfl) :
  PS X (.Assign [.Name y py] (.ListComp elt [⟨.Name x px,itr,[],0⟩] scope pos) spos) (tSetComp i wi te fr):=by
 intro pins s σ H D I h
 rw[exec_Assign_Name_used _ _ _ _ hsw]
 refine ZA (wpAny_standAt (ZA ?_))
 show wpAny _ X.A (do let _ <- comprehension (.ListComp elt [⟨.Name x px,itr,[],0⟩] scope pos) scope X.env _ (newList []) false (eval itr X.env) (some (assign (.Name y py) X.env))) _ _ s
 refine ZA (WX (wpAny_comprehension_free (use:=some (assign (.Name y py) X.env)) (Q:=fun _ s'=>SP X pins D .next s') rfl hs hclos hk hok.names
  (thn (hi pins s σ H _ I h) fun v s1 h1=>thn h1 fun itv s2 h2=>?_)) (fun _ s' hq=>ZO (ZO hq)) fun _ _ e=>e)
 obtain⟨it,fp,tn,J,H2,e,I2,T,st2,f2,hq⟩:=h2
 subst e
 obtain⟨W,⟨m0,w0⟩,turn⟩:=hq s2.heap.objs.size (I2.hok.fresh (ZF _))
 refine q446 (RR:=fun acc C=>compPost (model X.prog X.w) X.A X.xe (some (assign (.Name y py) X.env)) (fun _ s'=>SP X pins D .next s') acc C) (R:=fun H6=>D.nx (σ.set i (some (.ref s2.heap.objs.size))) H6) hc he hcl hcn hsc hk hok hfr I2 T st2 f2 w0 turn
  fun C H6 s6 m6 hn I6 F6 q=>?_
 show wpAny _ X.A (assign (.Name y py) X.env (.ref s2.heap.objs.size)) _ _ _
 refine wpAny_assign_Name (q254 (v:=.ref s2.heap.objs.size) I6 hN hiN hy rfl (fun s7 I7 ⟨a,sb,ha⟩=>?_) hf)
 have neC:C≠a:=by
  rcases ha with ha | ha
  ·rw[ha];exact F6.2.1
  ·exact Ne.symm (F6.2.2.2.2.1 y a ha)
 exact⟨m6,hn.sameBut sb neC,fun h' sb'=>⟨_,H6,I7.let_go F6 sb',q⟩⟩
theorem q103{lo:Int}{n:Nat}{T:V->Hp->(V->Hp->Prop)->Prop}{D:Addr}{H1:Hp}{R:Hp->Prop}(hn:n<=sizeLine)(Pv:Nat->List V->Hp->Prop)(h0:Pv 0 [] (upd H1 D (.lst [])))
  (hD:∀ i ys H,Pv i ys H->H D=some (.lst ys)/\ys.length=i)
  (hs:∀ i ys H,i<n->Pv i ys H->T (.int (lo+i)) H fun y H3=>H3 D=some (.lst ys)/\Pv (i+1) (ys++[y]) (upd H3 D (.lst (ys++[y]))))
  (hd:∀ ys H,Pv n ys H->R H) :
  ∃ W:Nat->Nat->List V->Hp->Prop,(∃ m,W 0 m [] (upd H1 D (.lst []))) /\
   ∀ i m ys H2,W i m ys H2->H2 D=some (.lst ys)/\(((Itr lo n).stop i H2/\R H2)\/((Itr lo n).go i H2/\ys.length<sizeLine /\ ∃ N:V->Hp->Prop,(∀ y H3,N y H3->H3 D=some (.lst ys) /\ ∃ m',m'<m/\W (i+1) m' (ys++[y]) (upd H3 D (.lst (ys++[y])))) /\
    ∀ x H',(Itr lo n).yld i H2 x H'->T x H' N)):=by
 exists fun i m ys H=>m=n-i/\i<=n/\Pv i ys H,⟨n,by simp,ZX _,h0⟩
 rintro i m ys H2 ⟨rfl,hi,p⟩
 obtain⟨d1,d2⟩:=hD i ys H2 p
 exists d1
 by_cases hlt:i<n
 ·refine .inr ⟨hlt,(W206 hlt d2 hn),fun y H3=>H3 D=some (.lst ys)/\Pv (i+1) (ys++[y]) (upd H3 D (.lst (ys++[y]))),fun y H3 ⟨z1,z2⟩=>⟨z1,n-(i+1),(W35 hlt d2),rfl,hlt,z2⟩,fun x H' y=>?_⟩
  obtain⟨e,y⟩:=y
  subst e y
  exact hs i ys _ hlt p
 ·have e:i=n:=(W122 d2 hi hlt)
  subst e
  exact .inl ⟨ZF _,hd ys H2 p⟩
theorem q384{K:Fg}{a:Addr}{xs:List V}{T:V->Hp->(V->Hp->Prop)->Prop}{D:Addr}{H1:Hp}{R:Hp->Prop}(hn:xs.length<=sizeLine)(Pv:Nat->List V->Hp->Prop)(h0:Pv 0 [] (upd H1 D (.lst [])))
  (hl:∀ i ys H,Pv i ys H->SqT K H a xs) (hD:∀ i ys H,Pv i ys H->H D=some (.lst ys)/\ys.length=i)
  (hs:∀ i x ys H,xs[i]? = some x->Pv i ys H->T x H fun y H3=>H3 D=some (.lst ys)/\Pv (i+1) (ys++[y]) (upd H3 D (.lst (ys++[y]))))
  (hd:∀ ys H,Pv xs.length ys H->R H) :
  ∃ W:Nat->Nat->List V->Hp->Prop,(∃ m,W 0 m [] (upd H1 D (.lst []))) /\
   ∀ i m ys H2,W i m ys H2->H2 D=some (.lst ys)/\(((Itt K a).stop i H2/\R H2)\/((Itt K a).go i H2/\ys.length<sizeLine /\ ∃ N:V->Hp->Prop,(∀ y H3,N y H3->H3 D=some (.lst ys) /\ ∃ m',m'<m/\W (i+1) m' (ys++[y]) (upd H3 D (.lst (ys++[y])))) /\
    ∀ x H',(Itt K a).yld i H2 x H'->T x H' N)):=by
 exists fun i m ys H=>m=xs.length-i/\i<=xs.length/\Pv i ys H,⟨xs.length,by simp,ZX _,h0⟩
 rintro i m ys H2 ⟨rfl,hi,p⟩
 obtain⟨d1,d2⟩:=hD i ys H2 p
 have q:=hl i ys H2 p
 exists d1
 by_cases hlt:i<xs.length
 ·refine .inr ⟨⟨xs,xs[i],q,by simp[hlt]⟩,(W206 hlt d2 hn),fun y H3=>H3 D=some (.lst ys)/\Pv (i+1) (ys++[y]) (upd H3 D (.lst (ys++[y]))),fun y H3 ⟨z1,z2⟩=>⟨z1,xs.length-(i+1),(W35 hlt d2),rfl,hlt,z2⟩,fun x H' y=>?_⟩
  obtain⟨e,y⟩:=y
  subst e
  exact hs i x ys _ (y xs q) p
 ·have e:i=xs.length:=(W122 d2 hi hlt)
  subst e
  exact .inl ⟨⟨xs,q,ZF _⟩,hd ys H2 p⟩
end L2
namespace HT
set_option autoImplicit false
open PySem PySem.Spec PyProof.Rows List
section
variable {prog:Program} {w:World} {A:Around} {E:VS} {s:Shared}
theorem q638{t sl:Addr}{items:Array Value}{vl vu:Value}{lo hi:Option Int}{Q:VS}(ht:IsTup s.heap t items)(hs:s.heap.IsSliceOf sl vl vu .none)(pl:IsPart vl lo)(pu:IsPart vu hi)
  (h0:sIx items.size 0 lo=0) (h1:sIx items.size items.size hi=items.size) (h:Q (.ref t) s):wpAny (model prog w) A (getItem (.ref t) (.ref sl)) Q E s:=by
 obtain⟨os,hos,hcs,hds⟩:=id hs
 have hTs:s.TypeIs (.ref sl) "slice" := ⟨os,hos,hcs⟩
 have hT:s.TypeIs (.ref t) "tuple" := ht.typeIs
 unfold getItem
 try with_reducible refine YU ?_
 first | refine ZA (ZO ?_) | skip
 refine ZA (wpAny_sequenceKey ht.typeIs {} ?_)
 refine ZA (YE (name:=Str.ofString "__getitem__") ht.typeIs PyProof.Rows.slot_tuple_getitem
  (YJ PyProof.Rows.slot_tuple_getitem ht.typeIs entry_tuple_getitem ?_ (args_tuple_getitem _ _)))
 show wpAny _ _ (Builtin.Tuple.tupleItemsOf (.ref t) >>= _) _ _ s
 refine ZA (tupleItemsOf_ ht ?_)
 refine ZA (wpAny_typeOf hTs ?_)
 rw[ZL {}]
 refine ZA (q121 hs pl pu ?_)
 have hyes:((((sIx items.size 0 lo:Nat):Int)==0&&(1:Int)==1&&(sIx items.size items.size hi-sIx items.size 0 lo)==items.size)=true):=by
  rw[h0,h1];simp
 show wpAny _ _ (if(((sIx items.size 0 lo:Nat):Int)==0&&(1:Int)==1&&(sIx items.size items.size hi-sIx items.size 0 lo)==items.size)=true then _ else _) _ _ s
 rw[ZL hyes]
 first
  | exact ZA (wpAny_typeOf hT (ZO ⟨_,rfl,ZO h⟩))
  | exact ZO ⟨_,rfl,ZO h⟩
  | exact ZA (ZO ⟨_,rfl,ZO h⟩)
  | (wp_walk;exact⟨_,rfl,ZO h⟩)
  | (wp_walk;exact⟨_,rfl,h⟩)
end
end HT
namespace L2
open PySem PySem.Spec PyProof.Rows List
variable {X:Cx}
def TupF(H:Hp)(a:Addr)(xs:List V):Prop:=∃ o:Obj,H a=some (.frz o (.tup xs))/\o.cls = .type "tuple" /\ o.dict=none
theorem TupF.sq{K:Fg}{H:Hp}{a:Addr}{xs:List V}(h:TupF H a xs):SqT K H a xs:=by
 obtain⟨o,h,_⟩:=h
 exact .inl (.inr ⟨o,h⟩)
theorem TupF.same(h:TupF H a xs)(s:Same H H'):TupF H' a xs:=by
 obtain⟨o,h,c⟩:=h
 exact⟨o,s _ _ h,c⟩
section
inductive q447(K:Fg)(xs:List V)(H:Hp)(Q:VK):Prop
 |mk(p ys)(_:xs=[.ref p])(_:SqL K H p ys)(_:∀ l H',Same H H'->TupF H' l ys->Q (.ref l) H')
theorem q167:CallR X (.type "tuple") (q447 X.K):=by
 intro pins s σ H xs us Q I r h
 obtain⟨p,ys,rfl,hq,q⟩:=h
 obtain⟨u,rfl,rx⟩:=vals1 r
 cases rx
 obtain⟨its,r',pl,hz⟩:=I.list hq
 have hlen:=r'.length
 refine call_tuple_list pl.isList (fun h' kp=>?_) (by simp only[WC] <;> lia)
 have I1:Inv X pins σ H { s with heap:=h' }:=I.kept (t':=s.toks) kp
 have I2:Inv X pins σ (upd H h'.objs.size (.frz { cls:=.type "tuple", data:=.seq its.toArray } (.tup ys))) { s with heap:=h'.push { cls:=.type "tuple", data:=.seq its.toArray } }:=
  I1.laid (t':=s.toks) (fun b o e=>ZE _ e) (ZF _) (show ObjOk X.prog X.w _ _ _ (.frz _ (.tup ys)) from⟨ZY _ rfl,hz,its,r',IsTup.new _ _⟩)
 exact⟨.ref h'.objs.size,_,I2,rfl,q _ _ (q16 (I1.hok.fresh (ZF _)) _) ⟨_,q13,rfl,rfl⟩⟩
theorem cutV_all{xs:List V}{lo hi:Option Int}(h0:HT.sIx xs.length 0 lo=0)(h1:HT.sIx xs.length xs.length hi=xs.length):cutV xs lo hi=xs:=by
 unfold cutV
 rw[h0,h1,drop_zero,Nat.sub_zero,WS]
inductive Rsl_tupF  (x:V) (lo:Option Int) (hi:Option Int) (H:Hp) (Q:VK):Prop
 |mk(a xs)(_:x = .ref a)(_:TupF H a xs)(_:∀ p H',Same H H'->TupF H' p (cutV xs lo hi)->Q (.ref p) H')
theorem q709:SlR X Rsl_tupF:=by
 intro pins s σ H x v vl vu lo hi sl Q I rx hs pl pu h
 obtain⟨a,xs,rfl,hx,q⟩:=h
 cases rx
 obtain⟨its,r,ht,hz⟩:=I.tuple (hx.sq (K:=X.K))
 have hlen:its.toArray.size=xs.length:=by rw[WC];exact r.length.symm
 exists "tuple", _,PyProof.Rows.slot_tuple_getitem.lookup,ht.typeIs
 by_cases hw:HT.sIx xs.length 0 lo=0/\HT.sIx xs.length xs.length hi=xs.length
 ·refine HT.q638 ht hs pl pu (by rw[hlen];exact hw.1) (by rw[hlen];exact hw.2) ⟨.ref a,H,I,rfl,q a H (Same.refl H) ?_⟩
  rw[cutV_all hw.1 hw.2]
  exact hx
 ·refine HT.q635 ht hs pl pu (by rw[hlen];exact hw) ?_ (by rw[hlen];exact hz)
  rw[hlen]
  refine⟨.ref s.heap.objs.size,_,I.laid (t':=s.toks) (o:=.frz { cls:=.type "tuple", data:=.seq ((its.toArray.toList.drop (HT.sIx xs.length 0 lo)).take (HT.sIx xs.length xs.length hi-HT.sIx xs.length 0 lo)).toArray } (.tup (cutV xs lo hi))) (fun b ob q=>ZE _ q) (ZF _) ?_,rfl,
   q _ _ (q16 (I.hok.fresh (ZF _)) _) ⟨_,q13,rfl,rfl⟩⟩
  exact⟨ZY _ rfl,ZT (q262 xs lo hi) hz,_,(r.drop (HT.sIx xs.length 0 lo)).take (HT.sIx xs.length xs.length hi-HT.sIx xs.length 0 lo),IsTup.new _ _⟩
theorem q339{x:V}:∀{xs:List V}{us:List Value},Vals xs us->xs.all flatV=true->us.countP (eqU x)=xs.countP fun y=>eqV y x
 | _,_,.nil,_=>rfl
 | y::xs,u::us,.cons r t,f=>by
  rw[all_cons,WZ]at f
  rw[countP_cons,countP_cons,q698 r f.1,q339 t f.2]
inductive q639(K:Fg)(x:V)(xs:List V)(H:Hp)(Q:VK):Prop
 |mk(a ys v)(_:x = .ref a)(_:xs=[v])(_:SqT K H a ys)(_:flatV v=true)(_:ys.all flatV=true)(_:Q (.int (ys.countP fun y=>eqV y v:Nat)) H)
theorem q710:MtR X "tuple.count" (q639 X.K):=by
 intro pins s σ H x xs v us Q I rx rv h
 obtain⟨a,ys,y,rfl,rfl,ha,f1,f2,q⟩:=h
 cases rx
 obtain⟨u,rfl,ru⟩:=rv.one
 obtain⟨its,r,p,hz⟩:=I.tuple ha
 obtain⟨⟨cls,dd,data,sl⟩,ho,hc,n,hd⟩:=id p
 simp only at hc hd
 subst hc hd
 refine call_meets F.slot_tuple_count ⟨_,ho,rfl⟩ F.entry_tuple_count (F.args_tuple_count_2 _ _) (SeqAt.tuple_countAt a its.toArray n dd sl u (eqU y)) ⟨ho,fun z hz=>q246 ru f1 r f2 z (by simpa using hz),?_⟩
 refine⟨.int (ys.countP fun y'=>eqV y' y:Nat),H,I.tok _,?_,q⟩
 rw[<- q339 r f2]
 exact⟨_,rfl⟩
def tBMF(T:String)(r:V->List V->Hp->VK->Prop)(to:TE)(t:TA):TE:=fun σ H Q=>to σ H fun x H1=>(∃ a o u,x = .ref a/\H1 a=some (.frz o u)/\o.cls = .type T/\o.dict=none)/\t σ H1 fun xs H2=>r x xs H2 Q
variable{o e:Expr}{es:List Expr}{to:TE}{t:TA}{name:Str}{apos cpos:Pos}{T id:String}{r:V->List V->Hp->VK->Prop}
theorem pe_bmF(pa:PlainAttrs T)(slot:Slot T name id)(hty:typeOf (.builtin id)=pure (.type "method_descriptor")) (hm:MtR X id r) (ho:PE X o to) (ha:PA X (e::es) t)
  (hbase:attributeBase o name X.env (eval o X.env)=eval o X.env:=by rfl)
  (hfew:((backTo cpos (starEach (e::es) X.env)).all (fun x=>!x.1)&&(backToKw cpos (keywordEach [] X.env)).all (fun x=>x.1.isSome)
   && decide ((e::es).length+([]:List Keyword).length+(if([]:List Keyword).isEmpty then 0 else 1)<30))=true:=by rfl)
  (hline:(apos.endLine==cpos.line)=true:=by rfl) (hs:starEach (e::es) X.env=(false,eval e X.env)::starEach es X.env:=by rfl) (hplain:(backTo cpos (starEach es X.env)).any (·.1)=false:=by rfl) :
  PE X (.Call (.Attribute o name apos) (e::es) [] cpos) (tBMF T r to t):=by
 intro pins s σ H Q I h
 refine wpAny_Call_method_late hbase hfew hline rfl (thn (ho pins s σ H _ I h) fun v s1 ⟨x,H1,I1,r1,ty,q1⟩=>?_)
 obtain⟨a,ob,u,rfl,hH,hc,hd⟩:=ty
 cases r1
 obtain⟨hg,_⟩:=I1.hok a _ hH
 exists T,id,pa,slot,hty,⟨ob,hg,hc⟩,fun b eb=>?_
 ·cases eb
  exact⟨ob,hg,hd⟩
 have hA:=ha cpos pins s1 σ H1 _ I1 q1
 rw[hs]at hA ⊢
 refine Calls.callWith_builtin (by show(false||(backTo cpos (starEach es X.env)).any (·.1))=false;rw[hplain] <;> rfl) (Calls.evalArgs_plain ?_)
 exact thn hA fun us s2 ⟨vs,H2,I2,r2,q2⟩=>hm pins s2 σ H2 (.ref a) vs (.ref a) us Q I2 rfl r2 q2
end
theorem q711(bs:List Bool):((List.range bs.length).all fun i=>bs.getD i true)=bs.all id:=by
 rw[Bool.eq_iff_iff,all_eq_true,all_eq_true]
 constructor
 ·intro h b hb
  obtain⟨i,hi,rfl⟩:=List.mem_iff_getElem.mp hb
  have:=h i (List.mem_range.mpr hi)
  simpa [WT,hi] using this
 ·intro h i hi
  have hi':=List.mem_range.mp hi
  have:=h bs[i] (getElem_mem hi')
  simpa [WT,hi'] using this
inductive q712(K:Fg)(xs:List V)(H:Hp)(Q:VK):Prop
 |mk(p:Addr)(bs:List Bool)(_:xs=[.ref p])(_:SqL K H p (bs.map V.bl))(_:Q (.bl (bs.all id)) H)
theorem call_all(hc:X.calm=true):CallR X (.builtin "all") (q712 X.K):=by
 intro pins s σ H xs us Q I r h
 obtain⟨p,bs,rfl,hq,q⟩:=h
 obtain⟨u,rfl,rx⟩:=vals1 r
 cases rx
 obtain⟨its,r',pl,hz⟩:=I.list hq
 have hl:=r'.length
 rw[ZK]at hl
 obtain⟨o,n,ho,_⟩:=id pl
 have hlt:p<s.heap.objs.size:=ZW ho
 refine call_all_walk (wpAny_pyIter_list pl.isList ⟨s.heap.objs.size,_,_,_,_,_,fun i=>bs.getD i true,rfl,Walks.list (A:=X.A.in1) (show X.A.in1.handled=none from I.ok.hd hc) s.heap.objs.size p (WN hlt) its.toArray,⟨⟨_,ZY _ rfl,rfl,rfl⟩,pl.isList.at fun o e=>ZE _ e⟩,?_,?_⟩)
 ·intro i v s' Q' E' hv hQ'
  have hv':its[i]? = some v:=by simpa using hv
  have hi:i<bs.length:=by rw[hl];exact(List.getElem?_eq_some_iff.mp hv').1
  obtain⟨u',hu',ru'⟩:=r'.get (i:=i) (x:=.bl bs[i]) (by rw[WE,ZP hi] <;> rfl)
  rw[hv']at hu'
  cases hu'
  cases ru'
  refine YR ?_
  have e:bs.getD i true=bs[i]:=by simp[WT,hi]
  rw[<- e]
  exact hQ'
 ·intro h' tk hk
  refine⟨.bl (bs.all id),H,I.kept (t':=tk) fun b ob e=>hk b ob (by simp;exact WN (ZW e)) (ZE _ e),?_,q⟩
  show Value.bool _=Value.bool _
  congr 1
  rw[WC,<- hl]
  exact q711 bs
def ctxV:Addr:=111
def Ctx(cls:Value)(vs:Array Value):Prop:=cls ≠ .ref ctxV->vs[2]? = some .none
def Exc(n:Nat)(h:Heap)(x:Addr)(cls:Value)(dd:Option Addr)(fl:Value):Prop:=
 ∃(oe:Obj)(vs:Array Value)(T:Addr)(oT:Obj)(ts:Array Value),(h.get? x=some oe/\oe.cls=cls/\oe.dict=dd/\oe.data = .fields vs/\vs[1]? = some (.ref T)/\Ctx cls vs) /\
  (n<=T/\T≠x)/\h.get? T=some oT/\oT.data = .fields ts/\ts[3]? = some fl
structure Fly(n:Nat)(fs:List Addr)(x:Addr)(h h':Heap):Prop where
 keep:∀ b o,h.get? b=some o->b<n->b≠x->b ∉ fs->h'.get? b=some o
 slot:∀ b o,h.get? b=some o->b∈fs -> ∃ sl,h'.get? b=some { o with slots:=sl }
 there:∀ b o,h.get? b=some o -> ∃ o',h'.get? b=some o'
structure Out(P:Program)(w:World)(outer:List Env)(H:Hp)(s:Shared)(x:Addr)(cls:Value)(dd:Option Addr)(n:Nat)(H':Hp)(fl:Value)(s':Shared):Prop where
 os:s'.os=s.os
 bare:AllBare s'.gens
 un:Un (frs outer) [] H H' s.heap s'.heap
 hok:HOk P w H' s'.heap
 exc:Exc n s'.heap x cls dd fl
 free:H' x=none
 new:s.heap.get? x=none
 old:s.heap.objs.size<=n
 low:∀ b u,H' b=some u->b<n
def CX1(P:Program)(w:World):CXT:=fun outer H s E e s'=>∃(x:Addr)(cls:Value)(dd:Option Addr)(n:Nat)(H':Hp),e = .ref x/\Out P w outer H s x cls dd n H' .none s'/\E cls dd H'
section
variable {pins:List (Addr×Obj)} {σ:St} {H H':Hp} {s s':Shared} {x:Addr} {cls fl:Value} {dd:Option Addr} {n:Nat}
structure Away(X:Cx)(pins:List (Addr×Obj))(σ:St)(H:Hp)(s:Shared)(x:Addr)(cls:Value)(dd:Option Addr)(n:Nat)(fl:Value):Prop where
 inv:Inv X pins σ H s
 exc:Exc n s.heap x cls dd fl
 free:H x=none
 new:X.s₀.heap.get? x=none
 old:X.s₀.heap.objs.size<=n
 low:∀ b u,H b=some u->b<n
 loc:X.env.locals<n
end
structure Lv(X:Cx)(E:XK):Prop where
 xe:X.xe=fun e s'=>wpAny (model X.prog X.w) X.A (leaving X.env e) (fun _ s''=>CX1 X.prog X.w X.outer X.H₀ X.s₀ E e s'') (fun e' s''=>CX1 X.prog X.w X.outer X.H₀ X.s₀ E e' s'') s'
 ex:X.ex=[]
 stack:X.stack=X.env::X.outer
 frame:X.env.frame=some X.env.locals
 calm:X.calm=true
structure ECls(K:Fg)(C:Addr):Prop where
 ga:PySem.W.findIn K (.ref C) "__getattribute__" = some (some (.builtin "BaseException.__getattribute__"))
 gh:PySem.W.findIn K (.ref C) "__getattr__" = some none
 sb:PySem.W.subIn K (.ref C) (.type "BaseException")=some true
 cl:PySem.W.isClsIn K C=true
 fi:PySem.W.findIn K (.ref C) "__class__" = some (some (.builtin "object.__class__"))
 sp:PySem.W.specialIn K (.builtin "object.__class__") "__get__" = some (some (.builtin "getset_descriptor.__get__"))
 tk:PySem.W.takesIn K (.builtin "object.__class__")=some true
 mr:PySem.W.mroIn K C (.type "object")=some true
section
variable {prog:Program} {w:World} {A:Around} {E:VS} {s:Shared}
theorem q340{i:Nat}(a1:s.heap.IsTupleIter ia tp i)(a2:s.heap.IsTuple tp us)(a3:us[i]? = some u)
  (k:∀ h',h'.IsTupleIter ia tp (i+1)->Heap.SameBut ia s.heap h'->Q u { s with heap:=h' }):wpAny (model prog w) A (Builtin.SmallTypes.nextOf (.ref ia)) Q E s:=by
 obtain⟨o,b1,b2,b3⟩:=id a1
 obtain⟨ot,c1,_,nt,c2⟩:=a2
 unfold Builtin.SmallTypes.nextOf
 refine ZA (YE (name:=Str.ofString "__next__") a1.typeIs F.slot_tuple_iterator_next (YJ F.slot_tuple_iterator_next a1.typeIs F.entry_tuple_iterator_next ?_ (F.args_tuple_iterator_next_1 _)))
 show wpAny _ _ (field (.ref ia) 0 >>= _) _ _ s
 refine ZA (YD b1 b3 (x:=.ref tp) rfl ?_)
 show wpAny _ _ (if(Value.ref tp==Value.none)=true then _ else _) _ _ s
 rw[ZJ (show ¬((Value.ref tp==Value.none)=true)from fnt)]
 show wpAny _ _ (field (.ref ia) 1 >>= _) _ _ s
 refine ZA (YD b1 b3 (x:=.int i 0) rfl ?_)
 show wpAny _ _ (seqItems? (.ref tp) >>= _) _ _ s
 refine ZA (wpAny_seqItems c1 c2 ?_)
 simp only[Int.toNat_natCast,a3]
 refine ZA (wpAny_setField b1 b3 (by simp) (ZO ⟨u,rfl,ZO (k _ ?_ (Heap.SameBut.update ..))⟩))
 exact⟨_,Heap.get?_update_self _ b1 (Obj.isFreed_of_fields (Obj.data_mapFields b3 _)),(Obj.cls_mapFields ..).trans b2,by rw[Obj.data_mapFields b3];simp[rawInt]⟩
theorem q448{i:Nat}{Q:VS}(hh:A.handled=none)(a1:s.heap.IsTupleIter ia tp i)(a2:s.heap.IsTuple tp us)(a3:us[i]? = none)
  (k:∀ h' x,Heap.ExtBut ia s.heap h'->(∃ o,h'.get? x=some o/\o.cls = .type "StopIteration")->E (.ref x) { s with heap:=h' }):wpAny (model prog w) A (Builtin.SmallTypes.nextOf (.ref ia)) Q E s:=by
 obtain⟨o,b1,b2,b3⟩:=id a1
 obtain⟨ot,c1,_,nt,c2⟩:=a2
 unfold Builtin.SmallTypes.nextOf
 refine ZA (YE (name:=Str.ofString "__next__") a1.typeIs F.slot_tuple_iterator_next (YJ F.slot_tuple_iterator_next a1.typeIs F.entry_tuple_iterator_next ?_ (F.args_tuple_iterator_next_1 _)))
 show wpAny _ _ (field (.ref ia) 0 >>= _) _ _ s
 refine ZA (YD b1 b3 (x:=.ref tp) rfl ?_)
 show wpAny _ _ (if(Value.ref tp==Value.none)=true then _ else _) _ _ s
 rw[ZJ (show ¬((Value.ref tp==Value.none)=true)from fnt)]
 show wpAny _ _ (field (.ref ia) 1 >>= _) _ _ s
 refine ZA (YD b1 b3 (x:=.int i 0) rfl ?_)
 show wpAny _ _ (seqItems? (.ref tp) >>= _) _ _ s
 refine ZA (wpAny_seqItems c1 c2 ?_)
 simp only[Int.toNat_natCast,a3]
 refine ZA (wpAny_rule (ZA (wpAny_setField b1 b3 (by simp) ?_)))
 show wpAny _ _ (newExc (.type "StopIteration") [] >>= fun _=>_) _ _ _
 refine ZA ?_
 simp only[newExc,newTuple]
 refine ZA (YZ ?_ (by size_fits))
 refine ZA (m:=firstArgMember _ _) (wpAny_of_eq (a:=Value.none) (by first | rfl | simp[firstArgMember]) (YZ ?_ (by size_fits)))
 simp only[raiseNew]
 refine ZA (wpAny_handled ?_)
 first | rw[show A.in1.handled=none from hh] | (rw[hh];skip)
 exact ZA (ZO (wpAny_throw (k _ _ (((Heap.SameBut.update ..).extBut.push _).push _) ⟨_,ZY _ rfl,rfl⟩)))
theorem q640{i:Nat}{Q:Option Value->Shared->Prop}(e0:IsEnum s.heap en ia i was)(a1:s.heap.IsTupleIter ia tp i)(a2:s.heap.IsTuple tp us)(a3:us[i]? = some u)(ne:en≠ia)
  (k:∀ h',IsEnumOut h' en ia ((i:Int)+1) u s.heap.objs.size->h'.IsTupleIter ia tp (i+1)->h'.get? s.heap.objs.size=some { cls:=.type "tuple", data:=.seq #[.int i s.toks,u] } ->
   (∀ b o,b≠en->b≠ia->s.heap.get? b=some o->h'.get? b=some o)->Q (some (.ref s.heap.objs.size)) { s with heap:=h',toks:=s.toks+1 }) :
  wpAny (model prog w) A (pyNext (.ref en)) Q E s:=by
 have ty:s.TypeIs (.ref en) "enumerate" := ⟨_,e0,rfl⟩
 unfold pyNext
 refine ZA (wpAny_attempt (YE (name:=Str.ofString "__next__") ty F.slot_enumerate_next (YJ F.slot_enumerate_next ty F.entry_enumerate_next ?_ (F.args_enumerate_next_1 _))))
 obtain⟨h0,g,d,tk,os⟩:=s
 show wpAny _ _ (field (.ref en) 2 >>= _) _ _ _
 refine ZA (YD e0 rfl (x:=.ref ia) rfl (ZA (q340 a1 a2 a3 fun h1 n1 s1=>?_)))
 replace s1:Heap.SameBut ia h0 h1:=s1
 have e1:IsEnum h1 en ia i was:=(s1.2 en ne).trans e0
 show wpAny _ _ (field (.ref en) 3 >>= _) _ _ ⟨h1,g,d,tk,os⟩
 refine ZA (YD e1 rfl (x:=rawInt i) rfl ?_)
 show wpAny _ _ (field (.ref en) 4 >>= _) _ _ ⟨h1,g,d,tk,os⟩
 refine ZA (YD e1 rfl (x:=.none) rfl ?_)
 show wpAny _ _ (mkInt i >>= _) _ _ ⟨h1,g,d,tk,os⟩
 refine ZA (wpAny_mkInt ?_)
 show wpAny _ _ (setField (.ref en) 3 (rawInt ((i:Int)+1)) >>= _) _ _ ⟨h1,g,d,tk+1,os⟩
 refine ZA (YK e1 (by simp) fun h2 e2 s2=>?_)
 replace s2:Heap.SameBut en h1 h2:=s2
 replace e2:IsEnum h2 en ia ((i:Int)+1) was:=e2
 show wpAny _ _ (setField (.ref en) 4 .none >>= _) _ _ ⟨h2,g,d,tk+1,os⟩
 refine ZA (YK e2 (by simp) fun h3 e3 s3=>?_)
 replace s3:Heap.SameBut en h2 h3:=s3
 replace e3:IsEnum h3 en ia ((i:Int)+1) was:=e3
 show wpAny _ _ (newTuple [.int i tk,u] >>= _) _ _ ⟨h3,g,d,tk+1,os⟩
 refine ZA (wpAny_newTuple ?_)
 have z3:h3.objs.size=h0.objs.size:=by rw[s3.1,s2.1,s1.1]
 have l0:en<h0.objs.size:=ZW e0
 have ni:ia≠en:=Ne.symm ne
 generalize hh4:h3.push { cls:=.type "tuple", data:=.seq #[.int i tk,u] }=h4
 have e4:IsEnum h4 en ia ((i:Int)+1) was:=by rw[<- hh4];exact ZE _ e3
 have t4:h4.get? h0.objs.size=some { cls:=.type "tuple", data:=.seq #[.int i tk,u] }:=by rw[<- hh4,<- z3];exact ZY _ rfl
 have k4:∀ b o,b≠en->b≠ia->h0.get? b=some o->h4.get? b=some o:=fun b o m1 m2 q=>by
  rw[<- hh4]
  exact ZE _ (s3.extBut b o m1 (s2.extBut b o m1 (s1.extBut b o m2 q)))
 have n4:h4.IsTupleIter ia tp (i+1):=by
  rw[<- hh4]
  obtain⟨o,q,r⟩:=(n1.extBut s2.extBut ni).extBut s3.extBut ni
  exact⟨o,ZE _ q,r⟩
 show wpAny _ _ (Builtin.SmallTypes.ownedTupleIsFree (.ref en) >>= _) _ _ ⟨h4,g,d,tk+1,os⟩
 rw[z3]
 clear hh4
 refine ZA ?_
 unfold Builtin.SmallTypes.ownedTupleIsFree
 refine ZA (YD e4 rfl (x:=.none) rfl (ZO ?_))
 simp only[if_true]
 refine ZA (wpAny_rule (ZA (YD e4 rfl (x:=was) rfl (ZA (YK e4 (by simp) fun h5 e5 s5=>?_)))))
 replace s5:Heap.SameBut en h4 h5:=s5
 replace e5:IsEnum h5 en ia ((i:Int)+1) u:=e5
 show wpAny _ _ (Builtin.SmallTypes.ownedTupleHandOut (.ref en) (.ref h0.objs.size) >>= _) _ _ ⟨h5,g,d,tk+1,os⟩
 refine ZA ?_
 unfold Builtin.SmallTypes.ownedTupleHandOut
 refine ZA (YK e5 (by simp) fun h6 e6 s6=>?_)
 replace s6:Heap.SameBut en h5 h6:=s6
 replace e6:IsEnumOut h6 en ia ((i:Int)+1) u h0.objs.size:=e6
 refine YK e6 (by simp) fun h7 e7 s7=>?_
 replace s7:Heap.SameBut en h6 h7:=s7
 replace e7:IsEnumOut h7 en ia ((i:Int)+1) u h0.objs.size:=e7
 have up:∀ b o,b≠en->h4.get? b=some o->h7.get? b=some o:=fun b o m q=>s7.extBut b o m (s6.extBut b o m (s5.extBut b o m q))
 refine ZA (wpAny_letGo (ZO ⟨_,rfl,ZO (k h7 e7 ?_ (up _ _ (Nat.ne_of_gt l0) t4) fun b o m1 m2 q=>up b o m1 (k4 b o m1 m2 q))⟩))
 obtain⟨o,q,r⟩:=n4
 exact⟨o,up _ _ ni q,r⟩
theorem q713{i:Nat}(hh:A.handled=none)(e0:IsEnum s.heap en ia i was)(a1:s.heap.IsTupleIter ia tp i)(a2:s.heap.IsTuple tp us)(a3:us[i]? = none)
  (k:∀ h',Heap.ExtBut ia s.heap h'->Q none { s with heap:=h' }):wpAny (model prog w) A (pyNext (.ref en)) Q E s:=by
 have ty:s.TypeIs (.ref en) "enumerate" := ⟨_,e0,rfl⟩
 unfold pyNext
 refine ZA (wpAny_attempt (YE (name:=Str.ofString "__next__") ty F.slot_enumerate_next (YJ F.slot_enumerate_next ty F.entry_enumerate_next ?_ (F.args_enumerate_next_1 _))))
 show wpAny _ _ (field (.ref en) 2 >>= _) _ _ _
 refine ZA (YD e0 rfl (x:=.ref ia) rfl (ZA (q448 hh a1 a2 a3 fun h' x q1 q2=>?_)))
 obtain⟨o,o1,o2⟩:=q2
 exact ZA (wpAny_isInstance (T := "StopIteration") (b:=true) ⟨o,o1,o2⟩ isSubtype_stop (ZO (k _ q1)))
end
noncomputable def Ite(K:Fg)(a:Addr):It:=
 ⟨fun i H=>∃ xs x,SqT K H a xs/\xs[i]? = some x,fun i H x H'=>∃ p y,x = .ref p/\H p=none/\H'=upd H p (.tup [.int i,y]) /\ ∀ xs,SqT K H a xs->xs[i]? = some y,fun i H=>∃ xs,SqT K H a xs/\xs.length<=i⟩
theorem q714:2<=sizeLine:=szb rfl
theorem q641{P:Program}{w:World}{K:Fg}{es:List Expr}{x1:Nat}{pos:Pos}(a en ia:Addr)(ne:en≠ia) :
  Turn P w K (.Tuple es x1 pos) (Ite K a) [en,ia] en (fun i h=>(∃ was,IsEnum h en ia (i:Nat) was)/\h.IsTupleIter ia a i) where
 mem:=by simp
 obj:=fun i h st b hb=>by
  obtain⟨⟨was,q1⟩,o,q2,q3,q4⟩:=st
  rcases List.mem_cons.mp hb with z | z
  ·subst z
   exact⟨_,q1,fun v y=>by cases y⟩
  ·have z':b=ia:=by simpa using z
   subst z'
   exact⟨o,q2,fun v y=>by rw[q4]at y;cases y⟩
 keep:=fun i h h' st k=>by
  obtain⟨⟨was,q1⟩,o,q2,q3⟩:=st
  exact⟨⟨was,k en (by simp) _ q1⟩,o,k ia (by simp) _ q2,q3⟩
 item:=by
  intro X hP hw hK hc i pins s σ H E I hf st hg
  subst hP hw hK
  obtain⟨⟨was,q1⟩,q2⟩:=st
  obtain⟨xs,x,hq,hx⟩:=hg
  obtain⟨its,rv,p,hz⟩:=I.tuple hq
  obtain⟨u,hu,ru⟩:=rv.get hx
  refine q640 q1 q2 (show s.heap.IsTuple a its.toArray from p) (u:=u) (by simpa using hu) ne fun h1 e1 n1 t1 k1=>⟨_,rfl,?_⟩
  refine wpAny_letOwnedTupleGo_enum e1 fun h2 e2 s2=>?_
  replace s2:Heap.SameBut en h1 h2:=s2
  have len:en<s.heap.objs.size:=ZW q1
  have t2:h2.get? s.heap.objs.size=some { cls:=.type "tuple", data:=.seq #[.int i s.toks,u] }:=(s2.2 _ (Nat.ne_of_gt len)).trans t1
  have kk:∀ b o,b≠en->b≠ia->s.heap.get? b=some o->h2.get? b=some o:=fun b o m1 m2 q=>(s2.2 b m1).trans (k1 b o m1 m2 q)
  have fr:H s.heap.objs.size=none:=I.hok.fresh (ZF _)
  have f1:=hf en (by simp)
  have f2:=hf ia (by simp)
  have neq:∀ b,H b≠none->b≠en/\b≠ia:=fun b m=>⟨fun z=>m (z▸f1.1),fun z=>m (z▸f2.1)⟩
  have un:Un (frs X.stack) [en,ia] H (upd H s.heap.objs.size (.tup [.int i,x])) s.heap h2:=by
   have nn:∀ b,b ∉ [en,ia]->b≠en/\b≠ia:=fun b m=>⟨fun z=>m (by simp[z]),fun z=>m (by simp[z])⟩
   have np:∀ b o,s.heap.get? b=some o->b≠s.heap.objs.size:=fun b o q=>WN (ZW q)
   exact⟨fun b o q _ _ m=>kk b o (nn b m).1 (nn b m).2 q,fun b o q _ _ m=>⟨o.slots,kk b o (nn b m).1 (nn b m).2 q⟩,fun b o q m _=>by rw[q28 (np b o q)];exact m,fun b o q m=>⟨o,kk b o (nn b m).1 (nn b m).2 q⟩,
    fun b ys q=>by rw[q28 (q24 q fr)];exact q,fun b o v q=>by rw[q28 (q24 q fr)];exact q,fun b ps q=>⟨#[],by rw[q28 (q24 q fr),q];simp⟩⟩
  have hok:HOk X.prog X.w (upd H s.heap.objs.size (.tup [.int i,x])) h2:=fun b ob e=>by
   by_cases hb:b=s.heap.objs.size
   ·subst hb
    rw[q13]at e
    cases e
    exact⟨q714,[.int i s.toks,u],.cons ⟨_,rfl⟩ (.cons ru .nil),⟨_,t2,rfl,_,rfl⟩⟩
   ·rw[q28 hb]at e
    refine(I.hok b ob e).stay (fun c v z q=>?_) (fun c q=>by rw[q28 (q24 q fr)];exact q) fun c ys q=>by rw[q28 (q24 q fr)];exact q
    have m:H c≠none:=by
     rcases z with rfl | z
     ·rw[e];exact fun y=>nomatch y
     ·rw[z];exact fun y=>nomatch y
    exact kk c v (neq c m).1 (neq c m).2 q
  have J:Inv X pins σ (upd H s.heap.objs.size (.tup [.int i,x])) { s with heap:=h2,toks:=s.toks+1 }:=by
   refine I.call' (s':={ s with heap:=h2,toks:=s.toks+1 }) (ch:=[en,ia]) rfl un hok I.bare fun b hb=>?_
   rcases List.mem_cons.mp hb with z | z
   ·subst z
    exact⟨f1.2.2.2.1,f1.2.1,f1.2.2.2.2.1,f1.2.2.2.2.2⟩
   ·have z':b=ia:=by simpa using z
    subst z'
    exact⟨f2.2.2.2.1,f2.2.1,f2.2.2.2.2.1,f2.2.2.2.2.2⟩
  refine⟨.ref s.heap.objs.size,_,J,rfl,⟨s.heap.objs.size,x,rfl,fr,rfl,fun ys hy=>by rw[I.tuple_inj hy hq];exact hx⟩,⟨⟨u,?_⟩,?_⟩,fun b hb=>?_⟩
  ·have:((i+1:Nat):Int)=(i:Int)+1:=W50
   rw[this]
   exact e2
  ·obtain⟨o,q,r⟩:=n1
   exact⟨o,(s2.2 ia (Ne.symm ne)).trans q,r⟩
  ·have hb':b=en\/b=ia:=by simpa using hb
   have lb:b<s.heap.objs.size:=by
    rcases hb' with z | z
    ·rw[z];exact len
    ·obtain⟨o,q,_⟩:=q2
     rw[z];exact ZW q
   rw[q28 (WN lb)]
   exact(hf b hb).1
 done:=by
  intro X hP hw hK hc i pins s σ H E I hf st hg
  subst hP hw hK
  obtain⟨⟨was,q1⟩,q2⟩:=st
  obtain⟨xs,hq,hx⟩:=hg
  obtain⟨its,rv,p,hz⟩:=I.tuple hq
  obtain⟨f0,f1,f2,f3,f4,f5⟩:=hf ia (by simp)
  have hl:=rv.length
  exact q713 (I.ok.hd hc) q1 q2 (show s.heap.IsTuple a its.toArray from p) (by simp;lia) fun h' eb=>⟨rfl,I.turned (t':=s.toks) (fun b o hb e=>eb b o hb e) f0 f1 f3 f4 f5⟩
 self:=fun _ _ _ _ _ st h=>by
  obtain⟨⟨was,q1⟩,_⟩:=st
  exact wpAny_pyIter_enum q1 h
theorem q715(tp:Addr)(us:Array Value)(n:Nat)(dct:Option Addr)(sl:Array (Option Value)) :
  Meets (Builtin.«enumerate.__new__» ⟨[.type "enumerate", .ref tp],[]⟩) (fun _ R s=>s.heap.get? tp=some { cls:=.type "tuple", dict:=dct,data:=.seq us n,slots:=sl } /\
   R (.ok (.ret (.ref (s.heap.push { cls:=.type "tuple_iterator", data:=.fields #[.ref tp,.int 0 0] }).objs.size)))
    { s with heap:=(s.heap.push { cls:=.type "tuple_iterator", data:=.fields #[.ref tp,.int 0 0] }).push { cls:=.type "enumerate", data:=.fields #[.none,.bool false,.ref s.heap.objs.size,rawInt 0,.none,.none] } }):=
 .of_wp fun prog w A R s z=>by
  obtain⟨hp,g,d,tk,os⟩:=s
  obtain⟨z1,z2⟩:=z
  have sb:=sub_enumerate
  have T:Heap.IsTuple (Shared.heap ⟨hp,g,d,tk,os⟩) tp us:=⟨_,z1,rfl,n,rfl⟩
  wp_walk using AutoSeq1.wpAny_loadPart' z1
  refine wpAny_stack_any fun st=>ZO ?_
  split
  ·rename_i c _ _ _ _ _
   cases(c==Value.type "enumerate")
   all_goals
    wp_walk using AutoSeq1.wpAny_loadPart' z1,wpAny_pyIter_tuple T
    exact⟨_,rfl,z2⟩
  ·wp_walk using AutoSeq1.wpAny_loadPart' z1,wpAny_pyIter_tuple T
   exact⟨_,rfl,z2⟩
section
variable {prog:Program} {w:World} {A:Around} {E:VS} {s:Shared}
theorem q642(T:s.heap.IsTuple tp us)
  (k:∀ h',IsEnum h' (s.heap.objs.size+1) s.heap.objs.size 0 .none->h'.IsTupleIter s.heap.objs.size tp 0->(∀ b o,s.heap.get? b=some o->h'.get? b=some o)->Q (.ref (s.heap.objs.size+1)) { s with heap:=h' }) :
  wpAny (model prog w) A (call (.type "enumerate") [.ref tp]) Q E s:=by
 obtain⟨⟨c,dct,dt,sl⟩,z1,z2,n,z3⟩:=T
 simp only at z2 z3
 subst z2 z3
 refine callType_new F.called_enumerate {} (F.typeCall_enumerate_1 _) (F.newCall_enumerate_1 _) (fun obj=>F.args_object_init_2 obj _) F.entry_enumerate_new (q715 tp us n dct sl) ⟨z1,?_⟩
 generalize ho:({ cls:=.type "tuple_iterator", data:=.fields #[.ref tp,.int 0 0] }:Obj)=o1
 have y1:(s.heap.push o1).objs.size=s.heap.objs.size+1:=Heap.size_push ..
 have y2:∀ o2:Obj,o2.isFreed=false->((s.heap.push o1).push o2).get? (s.heap.objs.size+1)=some o2:=fun o2 f=>by
  have:=ZY (s.heap.push o1) (o:=o2) f
  rwa [y1]at this
 show _/\_
 rw[y1]
 have y3:=y2 { cls:=.type "enumerate", data:=.fields #[.none,.bool false,.ref s.heap.objs.size,rawInt 0,.none,.none] } rfl
 refine⟨⟨_,y3,rfl⟩,k _ y3 ⟨o1,ZE _ (ZY _ (by rw[<- ho];rfl)),by rw[<- ho],by rw[<- ho];rfl⟩ fun b o q=>ZE _ (ZE _ q)⟩
end
section
variable {es:List Expr} {x1:Nat} {tpos:Pos}
noncomputable def iEnum(K:Fg)(ta:TA):TI:=fun σ H R=>ta σ H fun vs H1=>∃ a,vs=[.ref a]/\(∃ xs,SqT K H1 a xs)/\R (Ite K a) H1
theorem pi_enum{l:Expr}{ta:TA}{p pos:Pos}(hg:Gl X "enumerate") (hm:X.mg "enumerate" = none) (ha:PA X [l] ta) (hs:starEach [l] X.env=[(false,eval l X.env)]:=by rfl) :
  PI X (.Tuple es x1 tpos) (.Call (.Name "enumerate" p) [l] [] pos) (iEnum X.K ta):=by
 intro pins s σ H R I h
 refine Call_ (q255 I hg hm boot_enumerate (PyProof.Rows.callWith_type1 (thn (ha pos pins s σ H _ I h) fun us s1 ⟨vs,H1,I1,r1,q1⟩=>?_) hs rfl))
 obtain⟨a,e,⟨xs,hq⟩,q⟩:=q1
 subst e
 cases r1 with
 | cons r rr=>
  cases rr
  cases r
  obtain⟨its,rv,p,hz⟩:=I1.tuple hq
  refine q642 (show s1.heap.IsTuple a its.toArray from p) fun h' e1 e2 k=>wpAny_pyIter_enum e1 ?_
  have I2:Inv X pins σ H1 { s1 with heap:=h' }:=I1.kept (t':=s1.toks) k
  refine⟨s1.heap.objs.size+1,[s1.heap.objs.size+1,s1.heap.objs.size],_,_,H1,rfl,I2,q641 a _ _ (Nat.succ_ne_self _),⟨⟨_,e1⟩,e2⟩,fun b hb=>?_,q⟩
  have hb':s1.heap.objs.size<=b:=by
   have z:b=s1.heap.objs.size+1\/b=s1.heap.objs.size:=by simpa using hb
   rcases z with z | z
   ·rw[z];exact Nat.le_succ _
   ·rw[z];exact ZF _
  exact I1.fpOk hb' (I1.hok.fresh hb')
theorem for_enum{K:Fg}{a:Addr}{xs:List V}{g:TG}{tb:TS}{D:Ends}{σ:St}{H:Hp}(Pv:Nat->St->Hp->Prop)(h0:Pv 0 σ H)(hl:∀ i σ H,i<=xs.length->Pv i σ H->SqT K H a xs)
  (hs:∀ i x σ H p,xs[i]? = some x->Pv i σ H->H p=none->g (.ref p) σ (upd H p (.tup [.int i,x])) fun σ2 H2=>tb { D with nx:=Pv (i+1),ct:=Pv (i+1),bk:=D.nx } σ2 H2) (hd:∀ σ H,Pv xs.length σ H->D.nx σ H) :
  ∃ W:Nat->Nat->St->Hp->Prop,(∃ m,W 0 m σ H) /\ ∀ i m σ H,W i m σ H ->
   ((Ite K a).stop i H/\D.nx σ H)\/((Ite K a).go i H /\ ∃ N:St->Hp->Prop,(∀ σ' H',N σ' H' -> ∃ m',m'<m/\W (i+1) m' σ' H') /\ ∀ x H',(Ite K a).yld i H x H'->g x σ H' fun σ2 H2=>tb { D with nx:=N,ct:=N,bk:=D.nx } σ2 H2):=by
 exists fun i m σ H=>m=xs.length-i/\i<=xs.length/\Pv i σ H,⟨xs.length,by simp,ZX _,h0⟩
 rintro i m σ H ⟨rfl,hi,p⟩
 have q:=hl i σ H hi p
 by_cases hlt:i<xs.length
 ·refine .inr ⟨⟨xs,xs[i],q,by simp[hlt]⟩,Pv (i+1),fun σ' H' p'=>⟨xs.length-(i+1),∅,rfl,hlt,p'⟩,fun x H' y=>?_⟩
  obtain⟨pp,yv,rfl,e2,rfl,y⟩:=y
  exact hs i yv σ _ pp (y xs q) p e2
 ·have e:i=xs.length:=∅
  subst e
  exact .inl ⟨⟨xs,q,ZF _⟩,hd σ H p⟩
end
structure CalX(P:Program)(w:World)(K:Fg)(mg:Mg)(base:Heap)(k:Nat)(x:Str)(ps:List Str)(sp:Sp):Prop where
 ex:∃(f:Addr)(fd:FuncData),FnOk P w K mg base (CX1 P w) k f fd ps sp/\Binds K fd ps []/\PySem.W.keepIn K (.ref f)=true/\mg x=some (.ref f)
open PySem.Builtin.ObjectAttr in
structure XFld(K:Fg)(C:Addr)(f:Str):Prop where
 sa:PySem.W.findIn K (.ref C) "__setattr__" = some (some (.builtin "object.__setattr__"))
 na:PySem.W.findIn K (.ref C) f=some none
 hd:PySem.W.hasDictIn K C=true
noncomputable def q523(wi:TI)(tt:TT)(te:TE)(fr:List Nat):TE:=fun σ H Q=>wi σ H fun J H1=>∀ D,H1 D=none -> ∃ W:Nat->Nat->List V->Hp->Prop,(∃ m,W 0 m [] (upd H1 D (.lst []))) /\
 ∀ i m ys H2,W i m ys H2->H2 D=some (.lst ys)/\((J.stop i H2/\Q (.ref D) H2)\/(J.go i H2/\ys.length<sizeLine /\ ∃ N:V->Hp->Prop,(∀ y H3,N y H3->H3 D=some (.lst ys) /\ ∃ m',m'<m/\W (i+1) m' (ys++[y]) (upd H3 D (.lst (ys++[y])))) /\
  ∀ x H',J.yld i H2 x H'->tt (some x::fr.map fun j=>(σ[j]?).getD none) H' fun b H3=>if b=true then te (some x::fr.map fun j=>(σ[j]?).getD none) H3 N else ∃ m',m'<m/\W (i+1) m' ys H3))
theorem q270{X:Cx}{elt itr cc:Expr}{x:Str}{px pos:Pos}{scope sc0:Scope}{cl:List (Str×Addr)}{cn N:List Str}{fr:List Nat}{tt:TT}{te:TE}{pins:List (Addr×Obj)}{σ:St}{H2:Hp}{s2:Shared}{it:Addr}{fp:List Addr}
  {tn:Nat->Heap->Prop} {J:It} {RR:Value->Addr->Result->Shared->Prop} {R:Hp->Prop} {E:VS} {W:Nat->Nat->List V->Hp->Prop} {m0:Nat}
  (hc:X.calm=true) (he:∀(C:Addr)(s₂:Shared)(H₂:Hp)(fp:List Addr),PE (q36 X scope cl C x N s₂ H₂ fp) elt te) (hct:∀(C:Addr)(s₂:Shared)(H₂:Hp)(fp:List Addr),PT (q36 X scope cl C x N s₂ H₂ fp) cc tt)
  (hcl:q65 X.env cl) (hcn:cl.map (·.1)=cn) (hsc:X.env.scope=sc0) (hk:scope.kind = .function) (hok:CompOk scope sc0 x N cn) (hfr:fr.map (fun j=>X.N[j]?)=N.map some)
  (I2:Inv X pins σ H2 s2) (T:Turn X.prog X.w X.K (.Name x px) J fp it tn) (st2:tn 0 s2.heap) (f2:∀ b∈fp,FpOk X pins H2 b)
  (w0:W 0 m0 [] (upd H2 s2.heap.objs.size (.lst [])))
  (turn:∀ i m ys H,W i m ys H->H s2.heap.objs.size=some (.lst ys)/\((J.stop i H/\R H)\/(J.go i H/\ys.length<sizeLine /\ ∃ N:V->Hp->Prop,
   (∀ y H3,N y H3->H3 s2.heap.objs.size=some (.lst ys) /\ ∃ m',m'<m/\W (i+1) m' (ys++[y]) (upd H3 s2.heap.objs.size (.lst (ys++[y])))) /\
   ∀ x H',J.yld i H x H'->tt (some x::fr.map fun j=>(σ[j]?).getD none) H' fun b H3=>if b=true then te (some x::fr.map fun j=>(σ[j]?).getD none) H3 N else ∃ m',m'<m/\W (i+1) m' ys H3)))
  (hRR:∀(C:Addr)(H6:Hp)(s6:Shared)(m6:Mg),s6.heap.Ns C m6->Inv X pins σ H6 s6->FpOk X pins H6 C->R H6->RR (.ref s2.heap.objs.size) C (.ok .next) s6) :
  wpAny (model X.prog X.w) X.A (newList []) (fun acc s₃=>wpAny (model X.prog X.w) X.A (newFunctionEnv scope X.env.globals cl [] X.env.qual none .none (some X.env)) (fun cenv s₄=>
   codeAny (model X.prog X.w) X.A (.compStart (.ListComp elt [⟨.Name x px,itr,[cc],0⟩] scope pos) 0 (.ref it) acc { cenv with scope:=relabel scope X.env }) (RR acc cenv.locals) s₄) E s₃) E s2:=by
 refine q203 (TN:=[]) (gt:=gName 0) (tt:=tt) hc he (fun C s h f=>pts_one (hct C s h f)) (fun _ _ _ _=>q98 hok.nd rfl (.inl ?_) (.inr ?_)) hcl hcn hsc hk ⟨hok.has,hok.nc,hok.names,hok.frs⟩ hfr I2 T st2 f2 w0 (fun i m ys H h=>?_) hRR
 ·exact q383 hsc hok.hx'
 ·exact q383 hsc hok.hx'
 obtain⟨a,b⟩:=turn i m ys H h
 exists a
 rcases b with b | ⟨g,l,N,h1,h2⟩
 ·exact .inl b
 refine .inr ⟨g,l,N,fun H3=>∃ m',m'<m/\W (i+1) m' ys H3,h1,fun _ z=>z,fun x H' y vs hv=>?_⟩
 match vs,hv with
 | [v0],_=>exact⟨⟨[some x],rfl,rfl⟩,h2 x H' y⟩
theorem q83{X:Cx}{elt itr cc:Expr}{x:Str}{px pos:Pos}{scope sc0:Scope}{cl:List (Str×Addr)}{cn N:List Str}{fr:List Nat}{wi:TI}{tt:TT}{te:TE}
  (hc:X.calm=true) (hi:PI X (.Name x px) itr wi) (he:∀(C:Addr)(s₂:Shared)(H₂:Hp)(fp:List Addr),PE (q36 X scope cl C x N s₂ H₂ fp) elt te) (hct:∀(C:Addr)(s₂:Shared)(H₂:Hp)(fp:List Addr),PT (q36 X scope cl C x N s₂ H₂ fp) cc tt)
  (hclos:closureFor scope X.env=pure cl) (hcl:q65 X.env cl) (hcn:cl.map (·.1)=cn) (hsc:X.env.scope=sc0) (hk:scope.kind = .function) (hok:CompOk scope sc0 x N cn)
  (hfr:fr.map (fun j=>X.N[j]?)=N.map some) (hs:∀ v,foldedSetIterable itr X.env v=pure v:=by intro _;rfl) :
  PE X (.ListComp elt [⟨.Name x px,itr,[cc],0⟩] scope pos) (q523 wi tt te fr):=by
 intro pins s σ H Q I h
 rw[eval_ListComp]
 refine wpAny_comprehension_free (use:=none) rfl hs hclos hk hok.names (thn (hi pins s σ H _ I h) fun v s1 h1=>thn h1 fun itv s2 h2=>?_)
 obtain⟨it,fp,tn,J,H2,e,I2,T,st2,f2,hq⟩:=h2
 subst e
 obtain⟨W,⟨m0,w0⟩,turn⟩:=hq s2.heap.objs.size (I2.hok.fresh (ZF _))
 exact q270 (RR:=fun acc C=>compPost (model X.prog X.w) X.A X.xe none (EP X pins σ Q) acc C) (R:=fun H6=>Q (.ref s2.heap.objs.size) H6) hc he hct hcl hcn hsc hk hok hfr I2 T st2 f2 w0 turn
  fun C H6 s6 m6 hn I6 F6 q=>⟨m6,hn,fun h' sb=>⟨.ref s2.heap.objs.size,H6,I6.let_go F6 sb,rfl,q⟩⟩
noncomputable def q643(i:Nat)(wi:TI)(tt:TT)(te:TE)(fr:List Nat):TS:=fun D σ H=>q523 wi tt te fr σ H fun v H1=>D.nx (σ.set i (some v)) H1
theorem q449{X:Cx}{i:Nat}{spos:Pos}{scope:Scope}{cl:List (Str×Addr)}{N:List Str}{fr:List Nat}
  (hN:X.N.Nodup) (hiN:X.N[i]? = some y) (hy:Loc X.env.scope y)
  (hc:X.calm=true) (hi:PI X (.Name x px) itr wi) (he:∀(C:Addr)(s₂:Shared)(H₂:Hp)(fp:List Addr),PE (q36 X scope cl C x N s₂ H₂ fp) elt te) (hct:∀(C:Addr)(s₂:Shared)(H₂:Hp)(fp:List Addr),PT (q36 X scope cl C x N s₂ H₂ fp) cc tt)
  (hclos:closureFor scope X.env=pure cl) (hcl:q65 X.env cl) (hcn:cl.map (·.1)=cn) (hsc:X.env.scope=sc0) (hk:scope.kind = .function) (hok:CompOk scope sc0 x N cn)
  (hfr:fr.map (fun j=>X.N[j]?)=N.map some) (hsw:swapsWith (.ListComp elt [⟨.Name x px,itr,[cc],0⟩] scope pos) (some (.Name y py)) spos.line X.env=pure true)
  (hf:X.fn y=true\/X.env.scope.names.lookup y=some .local) (hs:∀ v,foldedSetIterable itr X.env v=pure v:=by intro _;rfl) :
  PS X (.Assign [.Name y py] (.ListComp elt [⟨.Name x px,itr,[cc],0⟩] scope pos) spos) (q643 i wi tt te fr):=by
 intro pins s σ H D I h
 rw[exec_Assign_Name_used _ _ _ _ hsw]
 refine ZA (wpAny_standAt (ZA ?_))
 show wpAny _ X.A (do let _ <- comprehension (.ListComp elt [⟨.Name x px,itr,[cc],0⟩] scope pos) scope X.env _ (newList []) false (eval itr X.env) (some (assign (.Name y py) X.env))) _ _ s
 refine ZA (WX (wpAny_comprehension_free (use:=some (assign (.Name y py) X.env)) (Q:=fun _ s'=>SP X pins D .next s') rfl hs hclos hk hok.names
  (thn (hi pins s σ H _ I h) fun v s1 h1=>thn h1 fun itv s2 h2=>?_)) (fun _ s' hq=>ZO (ZO hq)) fun _ _ e=>e)
 obtain⟨it,fp,tn,J,H2,e,I2,T,st2,f2,hq⟩:=h2
 subst e
 obtain⟨W,⟨m0,w0⟩,turn⟩:=hq s2.heap.objs.size (I2.hok.fresh (ZF _))
 refine q270 (RR:=fun acc C=>compPost (model X.prog X.w) X.A X.xe (some (assign (.Name y py) X.env)) (fun _ s'=>SP X pins D .next s') acc C) (R:=fun H6=>D.nx (σ.set i (some (.ref s2.heap.objs.size))) H6) hc he hct hcl hcn hsc hk hok hfr I2 T st2 f2 w0 turn
  fun C H6 s6 m6 hn I6 F6 q=>?_
 show wpAny _ X.A (assign (.Name y py) X.env (.ref s2.heap.objs.size)) _ _ _
 refine wpAny_assign_Name (q254 (v:=.ref s2.heap.objs.size) I6 hN hiN hy rfl (fun s7 I7 ⟨a,sb,ha⟩=>?_) hf)
 have neC:C≠a:=by
  rcases ha with ha | ha
  ·rw[ha];exact F6.2.1
  ·exact Ne.symm (F6.2.2.2.2.1 y a ha)
 exact⟨m6,hn.sameBut sb neC,fun h' sb'=>⟨_,H6,I7.let_go F6 sb',q⟩⟩
theorem q524{K:Fg}{a:Addr}{xs:List V}{p:V->Bool}{g:V->V}{Tt:V->Hp->(Bool->Hp->Prop)->Prop}{Te:V->Hp->(V->Hp->Prop)->Prop}{D:Addr}{H1:Hp}{R:Hp->Prop}
  (ha:SqL K H1 a xs) (hD:H1 D=none) (hn:xs.length<=sizeLine) (hT:∀ x∈xs,∀(H:Hp)(Q:Bool->Hp->Prop),Same H1 H->Q (p x) H->Tt x H Q) (hE:∀ x∈xs,p x=true -> ∀(H:Hp)(Q:V->Hp->Prop),Same H1 H->Q (g x) H->Te x H Q)
  (hR:R (upd H1 D (.lst ((xs.filter p).map g)))) :
  ∃ W:Nat->Nat->List V->Hp->Prop,(∃ m,W 0 m [] (upd H1 D (.lst []))) /\
   ∀ i m ys H2,W i m ys H2->H2 D=some (.lst ys)/\(((Itl K a).stop i H2/\R H2)\/((Itl K a).go i H2/\ys.length<sizeLine /\ ∃ N:V->Hp->Prop,(∀ y H3,N y H3->H3 D=some (.lst ys) /\ ∃ m',m'<m/\W (i+1) m' (ys++[y]) (upd H3 D (.lst (ys++[y])))) /\
    ∀ x H',(Itl K a).yld i H2 x H'->Tt x H' fun b H3=>if b=true then Te x H3 N else ∃ m',m'<m/\W (i+1) m' ys H3)):=by
 exists fun i m ys H=>m=xs.length-i/\i<=xs.length/\ys=((xs.take i).filter p).map g/\H=upd H1 D (.lst ys),⟨xs.length,by simp,ZX _,by simp,rfl⟩
 rintro i m ys H2 ⟨rfl,hi,hy,rfl⟩
 have sm:=q16 hD (.lst ys)
 have q:=sm.seq ha
 have hyl:ys.length<=i:=by
  rw[hy,ZK]
  exact ZT (length_filter_le _ _) (by rw[WL];exact Nat.min_le_left _ _)
 exists q13
 by_cases hlt:i<xs.length
 ·refine .inr ⟨⟨xs,xs[i],q,by simp[hlt]⟩,(W208 hlt hyl hn),fun y H3=>H3=upd H1 D (.lst ys)/\y=g xs[i]/\p xs[i]=true,fun y H3 ⟨z1,z2,z3⟩=>⟨by rw[z1];exact q13,xs.length-(i+1),(W2 hlt),rfl,hlt,?eq,by rw[z1,q109]⟩,fun x H' y=>?st⟩
  case eq=>
   rw[take_succ_eq_append_getElem hlt,YW,WF,<- hy,z2]
   simp[z3]
  case st=>
   obtain⟨e,y⟩:=y
   subst e
   have hx:xs[i]? = some x:=y xs q
   have hx':xs[i]=x:=by simpa [hlt] using hx
   have hm:x∈xs:=by rw[<- hx'];exact getElem_mem hlt
   refine hT x hm _ _ sm ?_
   by_cases hp:p x=true
   ·rw[ZL hp]
    exact hE x hm hp _ _ sm ⟨rfl,by rw[hx'],by rw[hx'];exact hp⟩
   ·rw[ZJ hp]
    refine⟨xs.length-(i+1),∅,rfl,hlt,?_,rfl⟩
    rw[take_succ_eq_append_getElem hlt,YW,WF,<- hy,hx']
    simp[hp]
 ·have e:i=xs.length:=(W29 hi hlt)
  subst e
  refine .inl ⟨⟨xs,q,ZF _⟩,?_⟩
  rw[hy,WS]
  exact hR
section
variable {P:Program} {w:World} {K:Fg} {mg:Mg} {base:Heap}
def prevSp(sp:Nat->Sp):Nat->Sp
 | 0=>fun _ _ _ _=>False
 | e+1=>sp e
theorem Def.recur{sp:Nat->Sp}{x:Str}{st:Stmt}{ps:List Str}(d:Def K mg x st ps){k:Nat}(n:Nat)
  (step:∀ e,e<=n->Cal P w K mg base (e+k) x ps (prevSp sp e) -> ∀(f:Addr)(fd:FuncData),Fun K x x st f fd->FnOk P w K mg base CX0 (e+(k+1)) f fd ps (sp e)) :
  Cal P w K mg base (n+(k+1)) x ps (fun vs H Q E=>∃ e,e<=n/\sp e vs H Q E):=by
 obtain⟨f,fd,h1,h2,h3⟩:=d.ex
 have all:∀ e,e<=n->FnOk P w K mg base CX0 (e+(k+1)) f fd ps (sp e):=by
  intro e
  induction e with
  | zero=>exact fun he=>step 0 he ⟨f,fd,⟨fun _ _ _ _ h=>h.elim,fun _ _ _ _ _ _ _ _ _ _ _ _ _ h=>h.elim⟩,.all h2,h1.kp,h3⟩ f fd h1
  | succ e ih=>exact fun he=>step (e+1) he ⟨f,fd,(ih (W21 he)).mono ∅,.all h2,h1.kp,h3⟩ f fd h1
 refine⟨f,fd,⟨?_,?_⟩,.all h2,h1.kp,h3⟩
 ·rintro vs H Q E ⟨e,he,h⟩
  exact(all e he).len vs H Q E h
 ·rintro A outer s H args us vs Q E hr he hb hv ⟨e,hle,h⟩
  exact(all e hle).run A outer s H args us vs Q E (hr.mono ∅) he hb hv h
end
theorem q205{K:Fg}{a:Addr}{xs:List V}{g:V->V}{Te:V->Hp->(V->Hp->Prop)->Prop}{D:Addr}{H1:Hp}{R:Hp->Prop}
  (ha:SqL K H1 a xs) (hD:H1 D=none) (hn:xs.length<=sizeLine) (hE:∀ x∈xs,∀(H:Hp)(Q:V->Hp->Prop),Same H1 H->Q (g x) H->Te x H Q) (hR:R (upd H1 D (.lst (xs.map g)))) :
  ∃ W:Nat->Nat->List V->Hp->Prop,(∃ m,W 0 m [] (upd H1 D (.lst []))) /\
   ∀ i m ys H2,W i m ys H2->H2 D=some (.lst ys)/\(((Itl K a).stop i H2/\R H2)\/((Itl K a).go i H2/\ys.length<sizeLine /\ ∃ N:V->Hp->Prop,(∀ y H3,N y H3->H3 D=some (.lst ys) /\ ∃ m',m'<m/\W (i+1) m' (ys++[y]) (upd H3 D (.lst (ys++[y])))) /\
    ∀ x H',(Itl K a).yld i H2 x H'->Te x H' N)):=by
 exists fun i m ys H=>m=xs.length-i/\i<=xs.length/\ys=(xs.take i).map g/\H=upd H1 D (.lst ys),⟨xs.length,by simp,ZX _,by simp,rfl⟩
 rintro i m ys H2 ⟨rfl,hi,hy,rfl⟩
 have sm:=q16 hD (.lst ys)
 have q:=sm.seq ha
 have hyl:ys.length<=i:=by
  rw[hy,ZK,WL];exact Nat.min_le_left _ _
 exists q13
 by_cases hlt:i<xs.length
 ·refine .inr ⟨⟨xs,xs[i],q,by simp[hlt]⟩,∅,fun y H3=>H3=upd H1 D (.lst ys)/\y=g xs[i],fun y H3 ⟨z1,z2⟩=>⟨by rw[z1];exact q13,xs.length-(i+1),∅,rfl,hlt,?eq,by rw[z1,q109]⟩,fun x H' y=>?st⟩
  case eq=>
   rw[take_succ_eq_append_getElem hlt,WF,<- hy,z2]
   rfl
  case st=>
   obtain⟨e,y⟩:=y
   subst e
   have hx:xs[i]? = some x:=y xs q
   have hx':xs[i]=x:=by simpa [hlt] using hx
   have hm:x∈xs:=by rw[<- hx'];exact getElem_mem hlt
   exact hE x hm _ _ sm ⟨rfl,by rw[hx']⟩
 ·have e:i=xs.length:=∅
  subst e
  refine .inl ⟨⟨xs,q,ZF _⟩,?_⟩
  rw[hy,WS]
  exact hR
inductive q385(K:Fg)(xs:List V)(H:Hp)(Q:VK):Prop
 |mk(p:Addr)(ns:List Int)(_:xs=[.ref p])(_:SqL K H p (ns.map V.int))(_:ns.length<64)(_:∀(l:Addr)(ms:List Int),H l=none->ms.Perm ns->ms.Pairwise (· <= ·)->Q (.ref l) (upd H l (.lst (ms.map V.int))))
theorem q450:CallR X (.builtin "sorted") (q385 X.K):=by
 intro pins s σ H xs us Q I r h
 obtain⟨p,ns,rfl,hq,h64,q⟩:=h
 obtain⟨u,rfl,rx⟩:=vals1 r
 cases rx
 obtain⟨its,r',pl,hz⟩:=I.list hq
 have hl:=r'.length
 rw[ZK]at hl hz
 refine PyProof.Rows.sorted_ints pl.isList (q337 r') ∅ fun out ms a1 a2 a3=>?_
 obtain⟨e,he⟩:=PyProof.Rows.sortedAll_at s.heap its out
 have hml:ms.length=ns.length:=a2.length_eq
 refine⟨.ref (s.heap.objs.size+1),_,I.laid (t':=s.toks) (a:=s.heap.objs.size+1) (o:=.lst (ms.map V.int)) (fun b ob z=>PyProof.Rows.sortedAll_old z) (Nat.le_succ _) ?_,rfl,q _ ms (I.hok.fresh (Nat.le_succ _)) a2 a3⟩
 exists by rw[ZK];lia,out.toList,e,q264 a1
 rw[he]
section
variable {K:Fg}
theorem q386(h:X.K=K):IxR X (rIxT K):=by subst h;exact q30
theorem q248(h:X.K=K):IxR X (rIxL K):=by subst h;exact q32
theorem q451(h:X.K=K):CallR X (.builtin "len") (q111 K):=by subst h;exact q221
theorem pe_bmK{o e:Expr}{es:List Expr}{to:TE}{t:TA}{name:Str}{apos cpos:Pos}{T id:String}{r:V->List V->Hp->VK->Prop}(h:X.K=K)
  (pa:PlainAttrs T) (slot:Slot T name id) (hty:typeOf (.builtin id)=pure (.type "method_descriptor")) (hm:MtR X id r) (ho:PE X o to) (ha:PA X (e::es) t)
  (hbase:attributeBase o name X.env (eval o X.env)=eval o X.env:=by rfl)
  (hfew:((backTo cpos (starEach (e::es) X.env)).all (fun x=>!x.1)&&(backToKw cpos (keywordEach [] X.env)).all (fun x=>x.1.isSome)&&decide ((e::es).length+([]:List Keyword).length+(if([]:List Keyword).isEmpty then 0 else 1)<30))=true:=by rfl)
  (hline:(apos.endLine==cpos.line)=true:=by rfl) (hs:starEach (e::es) X.env=(false,eval e X.env)::starEach es X.env:=by rfl) (hplain:(backTo cpos (starEach es X.env)).any (·.1)=false:=by rfl) :
  PE X (.Call (.Attribute o name apos) (e::es) [] cpos) (tBM K T r to t):=by subst h;exact pe_bm pa slot hty hm ho ha hbase hfew hline hs hplain
end
inductive Tr where
 | non
 | many (n:Int)
 | part (ms:List Int) (l r:Tr)
def q50(H:Hp):V->Tr->Prop
 | v,.non=>v = .non
 | v,.many n=>∃ a,v = .ref a/\H a=some (.tup [.str "many", .int n])
 | v,.part ms l r=>∃ a m x y,v = .ref a/\H a=some (.tup [.str "part", .ref m,x,y])/\TupF H m (ms.map V.int)/\q50 H x l/\q50 H y r
def TKeep(H H':Hp):Prop:=∀ b xs,(H b=some (.tup xs)->H' b=some (.tup xs)) /\ ∀ o,H b=some (.frz o (.tup xs))->H' b=some (.frz o (.tup xs))
theorem TKeep.trans(a:TKeep H H1)(b:TKeep H1 H2):TKeep H H2:=fun c xs=>⟨fun h=>(b c xs).1 ((a c xs).1 h),fun o h=>(b c xs).2 o ((a c xs).2 o h)⟩
theorem TKeep.same(s:Same H H'):TKeep H H':=fun _ _=>⟨s _ _,fun _=>s _ _⟩
theorem TKeep.keep(s:Keep p H H')(e:H p=some (.lst ys)):TKeep H H':=fun _ _=>⟨fun h=>s _ _ (ne_of h e (by intro z;cases z)) h,fun _ h=>s _ _ (ne_of h e (by intro z;cases z)) h⟩
theorem TKeep.set(e:H p=some (.lst ys)):TKeep H (upd H p (.lst zs)):=.keep (Keep.set p H _) e
theorem TupF.tk(h:TupF H a xs)(s:TKeep H H'):TupF H' a xs:=by
 obtain⟨o,h,c⟩:=h
 exact⟨o,(s _ _).2 o h,c⟩
theorem q50.tk{H H':Hp}(s:TKeep H H'):∀{t:Tr}{v:V},q50 H v t->q50 H' v t
 | .non,_,h=>h
 | .many _,_,⟨a,e,h⟩=>⟨a,e,(s _ _).1 h⟩
 | .part _ _ _,_,⟨a,m,x,y,e,h,hm,hl,hr⟩=>⟨a,m,x,y,e,(s _ _).1 h,hm.tk s,q50.tk s hl,q50.tk s hr⟩
theorem q50.same(s:Same H H')(h:q50 H v t):q50 H' v t:=h.tk (.same s)
noncomputable def onI{α:Type}(f:Int->α)(d:α):V->α
 | .int n=>f n
 | _=>d
theorem filt_onI{p:Int->Bool}{g:Int->V}(ns:List Int):(((ns.map V.int).filter (onI p false)).map (onI g .non))=(ns.filter p).map g:=by
 induction ns with
 | nil=>rfl
 | cons n ns ih=>
  rw[YA,filter_cons,filter_cons]
  have e:onI p false (.int n)=p n:=rfl
  rw[e]
  by_cases h:p n=true
  ·rw[ZL h,ZL h,YA,YA,ih];rfl
  ·rw[ZJ h,ZJ h];exact ih
section
variable {K:Fg} {a:Addr} {ns:List Int} {p:Int->Bool} {g:Int->V} {Tt:V->Hp->(Bool->Hp->Prop)->Prop} {Te:V->Hp->(V->Hp->Prop)->Prop} {D:Addr} {H1:Hp} {R:Hp->Prop}
theorem q271(ha:SqL K H1 a (ns.map V.int))(hD:H1 D=none)(hn:ns.length<=sizeLine)(hT:∀ n∈ns,∀(H:Hp)(Q:Bool->Hp->Prop),Same H1 H->Q (p n) H->Tt (.int n) H Q)
  (hE:∀ n∈ns,p n=true -> ∀(H:Hp)(Q:V->Hp->Prop),Same H1 H->Q (g n) H->Te (.int n) H Q) (hR:R (upd H1 D (.lst ((ns.filter p).map g)))) :
  ∃ W:Nat->Nat->List V->Hp->Prop,(∃ m,W 0 m [] (upd H1 D (.lst []))) /\
   ∀ i m ys H2,W i m ys H2->H2 D=some (.lst ys)/\(((Itl K a).stop i H2/\R H2)\/((Itl K a).go i H2/\ys.length<sizeLine /\ ∃ N:V->Hp->Prop,(∀ y H3,N y H3->H3 D=some (.lst ys) /\ ∃ m',m'<m/\W (i+1) m' (ys++[y]) (upd H3 D (.lst (ys++[y])))) /\
    ∀ x H',(Itl K a).yld i H2 x H'->Tt x H' fun b H3=>if b=true then Te x H3 N else ∃ m',m'<m/\W (i+1) m' ys H3)):=by
 refine q524 (p:=onI p false) (g:=onI g .non) ha hD (by rw[ZK];exact hn) (fun x hx H Q s q=>?_) (fun x hx hp H Q s q=>?_) (by rw[filt_onI];exact hR)
 ·obtain⟨n,hm,rfl⟩:=List.mem_map.mp hx
  exact hT n hm H Q s q
 ·obtain⟨n,hm,rfl⟩:=List.mem_map.mp hx
  exact hE n hm hp H Q s q
theorem q716(ha:SqL K H1 a (ns.map V.int))(hD:H1 D=none)(hn:ns.length<=sizeLine)(hE:∀ n∈ns,∀(H:Hp)(Q:V->Hp->Prop),Same H1 H->Q (g n) H->Te (.int n) H Q)(hR:R (upd H1 D (.lst (ns.map g)))) :
  ∃ W:Nat->Nat->List V->Hp->Prop,(∃ m,W 0 m [] (upd H1 D (.lst []))) /\
   ∀ i m ys H2,W i m ys H2->H2 D=some (.lst ys)/\(((Itl K a).stop i H2/\R H2)\/((Itl K a).go i H2/\ys.length<sizeLine /\ ∃ N:V->Hp->Prop,(∀ y H3,N y H3->H3 D=some (.lst ys) /\ ∃ m',m'<m/\W (i+1) m' (ys++[y]) (upd H3 D (.lst (ys++[y])))) /\
    ∀ x H',(Itl K a).yld i H2 x H'->Te x H' N)):=by
 refine q205 (g:=onI g .non) ha hD (by rw[ZK];exact hn) (fun x hx H Q s q=>?_) (by rw[map_map];exact hR)
 obtain⟨n,hm,rfl⟩:=List.mem_map.mp hx
 exact hE n hm H Q s q
end
theorem Keep.free(k:Keep p H H')(hl:H' l=none)(hp:H' p=some o):H l=none:=by
 cases e:H l with
 | none=>rfl
 | some u=>
  have n:l≠p:=fun z=>by rw[z,hp]at hl;cases hl
  rw[k l u n e]at hl
  cases hl
theorem Keep.own(k:Keep p H H')(hr:H r=none):Keep p H (upd H' r o):=fun c u hc z=>by
 rw[q28 (q24 z hr)]
 exact k c u hc z
theorem p2pos(L:Nat):(0:Int)<2^L:=by
 induction L with
 | zero=>decide
 | succ L ih=>rw[Int.pow_succ];lia
theorem p2le{L:Nat}(h:L<=40):(2:Int)^L<=1099511627776:=by
 have e:(2:Int)^L=((2^L:Nat):Int):=by simp
 have:2^L<=2^40:=Nat.pow_le_pow_right {} h
 rw[e]
 have e2:(2:Nat)^40=1099511627776:={}
 lia
theorem p2half(e:Nat):(2:Int)^(e+1)/2=2^e:=by rw[Int.pow_succ];lia
theorem p2succ(e:Nat):(2:Int)^(e+1)=2^e+2^e:=by rw[Int.pow_succ];exact W32
theorem p2one{e:Nat}(h:(2:Int)^e=1):e=0:=by
 cases e with
 | zero=>rfl
 | succ e=>have:=p2pos e;rw[p2succ]at h;exact W213 h
theorem q573(L:Nat):(1:Int)*2^((L:Int)).toNat=2^L:=by rw[Int.one_mul];rfl
theorem q574{A:Around}{xs ys:List V}(I:Inv X pins σ H s)(ha:SqL X.K H a xs)(hb:SqL X.K H b ys)(hl:xs.length=ys.length)
  (he:∀(j:Nat)(x y:V),xs[j]? = some x->ys[j]? = some y -> ∀ u v,RelV x u->RelV y v->SeqAt.EqAt A.in1 s u v true) (hu:A.units<cLine) :
  SeqAt.RcAt A s (.ref a) (.ref b) true/\SeqAt.RcNeAt A s (.ref a) (.ref b) false:=by
 obtain⟨its,r1,p1,_⟩:=I.list ha
 obtain⟨its2,r2,p2,_⟩:=I.list hb
 have l1:=r1.length
 have l2:=r2.length
 have hz:its.toArray.size=its2.toArray.size:=by rw[WC,WC];lia
 have el:∀(j:Nat)(h1:j<its.toArray.size)(h2:j<its2.toArray.size),SeqAt.EqAt A.in1 s its.toArray[j] its2.toArray[j] ((fun _=>true) j):=by
  intro j h1 h2
  have h1':j<xs.length:=by rw[WC]at h1;lia
  have h2':j<ys.length:=by rw[WC]at h2;lia
  obtain⟨v1,e1,r1'⟩:=r1.get (i:=j) (x:=xs[j]) (ZP h1')
  obtain⟨v2,e2,r2'⟩:=r2.get (i:=j) (x:=ys[j]) (ZP h2')
  have g1:its.toArray[j]=v1:=by
   have:=List.getElem?_eq_some_iff.mp e1
   simpa using this.2
  have g2:its2.toArray[j]=v2:=by
   have:=List.getElem?_eq_some_iff.mp e2
   simpa using this.2
  rw[g1,g2]
  exact he j _ _ (ZP h1') (ZP h2') _ _ r1' r2'
 have t0:(List.range its.toArray.size).all (fun _=>true)=true:=by simp
 constructor
 ·rw[<- t0]
  exact SeqAt.RcAt.lists p1.isList p2.isList hz hu el
 ·have z:=SeqAt.RcNeAt.lists (e:=fun _=>true) p1.isList p2.isList hz hu el
  rw[t0]at z
  exact z
theorem q387{X:Cx}{pos:Pos}{scope:Scope}{cl:List (Str×Addr)}{N:List Str}{fr:List Nat}
  (hc:X.calm=true) (hi:PI X tg itr wi) (he:∀(C:Addr)(s₂:Shared)(H₂:Hp)(fp:List Addr),PE (q36 X scope cl C x (TN++N) s₂ H₂ fp) elt te) (hct:∀(C:Addr)(s₂:Shared)(H₂:Hp)(fp:List Addr),PTs (q36 X scope cl C x (TN++N) s₂ H₂ fp) ifs tt) (hgt:∀(C:Addr)(s₂:Shared)(H₂:Hp)(fp:List Addr),PG (q36 X scope cl C x (TN++N) s₂ H₂ fp) tg gt)
  (hclos:closureFor scope X.env=pure cl) (hcl:q65 X.env cl) (hcn:cl.map (·.1)=cn) (hsc:X.env.scope=sc0) (hk:scope.kind = .function) (hok:CompOkG scope sc0 N cn)
  (hfr:fr.map (fun j=>X.N[j]?)=N.map some) (hs:∀ v,foldedSetIterable itr X.env v=pure v:=by intro _;rfl) :
  PE X (.ListComp elt [⟨tg,itr,ifs,0⟩] scope pos) (tCompG (TN.length+1) wi gt tt te fr):=by
 intro pins s σ H Q I h
 rw[eval_ListComp]
 refine wpAny_comprehension_free (use:=none) rfl hs hclos hk hok.names (thn (hi pins s σ H _ I h) fun v s1 h1=>thn h1 fun itv s2 h2=>?_)
 obtain⟨it,fp,tn,J,H2,e,I2,T,st2,f2,hq⟩:=h2
 subst e
 obtain⟨W,⟨m0,w0⟩,turn⟩:=hq s2.heap.objs.size (I2.hok.fresh (ZF _))
 exact q203 (RR:=fun acc C=>compPost (model X.prog X.w) X.A X.xe none (EP X pins σ Q) acc C) (R:=fun H6=>Q (.ref s2.heap.objs.size) H6) hc he hct hgt hcl hcn hsc hk hok hfr I2 T st2 f2 w0 turn
  fun C H6 s6 m6 hn I6 F6 q=>⟨m6,hn,fun h' sb=>⟨.ref s2.heap.objs.size,H6,I6.let_go F6 sb,rfl,q⟩⟩
theorem q341{K:Fg}{a:Addr}{xs:List V}{Tn:V->Hp->(V->Hp->Prop)->(Hp->Prop)->Prop}{D:Addr}{H1:Hp}{R:Hp->Prop}(hn:xs.length<=sizeLine)(Pv:Nat->List V->Hp->Prop)(h0:Pv 0 [] (upd H1 D (.lst [])))
  (hl:∀ i ys H,Pv i ys H->SqL K H a xs) (hD:∀ i ys H,Pv i ys H->H D=some (.lst ys)/\ys.length<=i)
  (hs:∀ i x ys H,xs[i]? = some x->Pv i ys H->Tn x H (fun y H3=>H3 D=some (.lst ys)/\Pv (i+1) (ys++[y]) (upd H3 D (.lst (ys++[y])))) (Pv (i+1) ys))
  (hd:∀ ys H,Pv xs.length ys H->R H) :
  ∃ W:Nat->Nat->List V->Hp->Prop,(∃ m,W 0 m [] (upd H1 D (.lst []))) /\
   ∀ i m ys H2,W i m ys H2->H2 D=some (.lst ys)/\(((Itl K a).stop i H2/\R H2)\/((Itl K a).go i H2/\ys.length<sizeLine /\ ∃(N:V->Hp->Prop)(Z:Hp->Prop),(∀ y H3,N y H3->H3 D=some (.lst ys) /\ ∃ m',m'<m/\W (i+1) m' (ys++[y]) (upd H3 D (.lst (ys++[y]))))/\(∀ H3,Z H3 -> ∃ m',m'<m/\W (i+1) m' ys H3) /\
    ∀ x H',(Itl K a).yld i H2 x H'->Tn x H' N Z)):=by
 exists fun i m ys H=>m=xs.length-i/\i<=xs.length/\Pv i ys H,⟨xs.length,by simp,ZX _,h0⟩
 rintro i m ys H2 ⟨rfl,hi,p⟩
 obtain⟨d1,d2⟩:=hD i ys H2 p
 have q:=hl i ys H2 p
 exists d1
 by_cases hlt:i<xs.length
 ·refine .inr ⟨⟨xs,xs[i],q,by simp[hlt]⟩,∅,fun y H3=>H3 D=some (.lst ys)/\Pv (i+1) (ys++[y]) (upd H3 D (.lst (ys++[y]))),Pv (i+1) ys,fun y H3 ⟨z1,z2⟩=>⟨z1,xs.length-(i+1),∅,rfl,hlt,z2⟩,fun H3 z=>⟨xs.length-(i+1),∅,rfl,hlt,z⟩,fun x H' y=>?_⟩
  obtain⟨e,y⟩:=y
  subst e
  exact hs i x ys _ (y xs q) p
 ·have e:i=xs.length:=∅
  subst e
  exact .inl ⟨⟨xs,q,ZF _⟩,hd ys H2 p⟩
section
variable {n:Nat} {lo:Int} {p:Nat->Bool} {g:Nat->V} {Tt:V->Hp->(Bool->Hp->Prop)->Prop} {Te:V->Hp->(V->Hp->Prop)->Prop} {D:Addr} {H1:Hp} {R:Hp->Prop}
theorem q452(hD:H1 D=none)(hn:n<=sizeLine)(hT:∀ i,i<n -> ∀(H:Hp)(Q:Bool->Hp->Prop),Same H1 H->Q (p i) H->Tt (.int (lo+(i:Int))) H Q)
  (hE:∀ i,i<n -> ∀(H:Hp)(Q:V->Hp->Prop),Same H1 H->Q (g i) H->Te (.int (lo+(i:Int))) H Q) (hR:R (upd H1 D (.lst (((List.range n).filter p).map g)))) :
  ∃ W:Nat->Nat->List V->Hp->Prop,(∃ m,W 0 m [] (upd H1 D (.lst []))) /\
   ∀ i m ys H2,W i m ys H2->H2 D=some (.lst ys)/\(((Itr lo n).stop i H2/\R H2)\/((Itr lo n).go i H2/\ys.length<sizeLine /\ ∃ N:V->Hp->Prop,(∀ y H3,N y H3->H3 D=some (.lst ys) /\ ∃ m',m'<m/\W (i+1) m' (ys++[y]) (upd H3 D (.lst (ys++[y])))) /\
    ∀ x H',(Itr lo n).yld i H2 x H'->Tt x H' fun b H3=>if b=true then Te x H3 N else ∃ m',m'<m/\W (i+1) m' ys H3)):=by
 exists fun i m ys H=>m=n-i/\i<=n/\ys=((List.range i).filter p).map g/\H=upd H1 D (.lst ys),⟨n,by simp,ZX _,by simp,rfl⟩
 rintro i m ys H2 ⟨rfl,hi,hy,rfl⟩
 have sm:=q16 hD (.lst ys)
 have hyl:ys.length<=i:=by
  rw[hy,ZK]
  exact ZT (length_filter_le _ _) (by rw[length_range];exact ZF _)
 exists q13
 by_cases hlt:i<n
 ·refine .inr ⟨hlt,(W208 hlt hyl hn),fun y H3=>H3=upd H1 D (.lst ys)/\y=g i/\p i=true,fun y H3 ⟨z1,z2,z3⟩=>⟨by rw[z1];exact q13,n-(i+1),(W2 hlt),rfl,hlt,?eq,by rw[z1,q109]⟩,fun x H' y=>?st⟩
  case eq=>
   rw[range_succ,YW,WF,<- hy,z2]
   simp[z3]
  case st=>
   obtain⟨e,y⟩:=y
   subst e y
   refine hT i hlt _ _ sm ?_
   by_cases hp:p i=true
   ·rw[ZL hp]
    exact hE i hlt _ _ sm ⟨rfl,rfl,hp⟩
   ·rw[ZJ hp]
    refine⟨n-(i+1),∅,rfl,hlt,?_,rfl⟩
    rw[range_succ,YW,WF,<- hy]
    simp[hp]
 ·have e:i=n:=(W29 hi hlt)
  subst e
  refine .inl ⟨ZF _,?_⟩
  rw[hy]
  exact hR
end
inductive q644(K:Fg)(xs:List V)(H:Hp)(Q:VK):Prop
 |mk(p:Addr)(ns:List Int)(_:xs=[.ref p])(_:SqL K H p (ns.map V.int))(_:Q (.int ns.sum) H)
theorem q272(hc:X.calm=true):CallR X (.builtin "sum") (q644 X.K):=by
 intro pins s σ H xs us Q I r h
 obtain⟨p,ns,rfl,hq,q⟩:=h
 obtain⟨u,rfl,rx⟩:=vals1 r
 cases rx
 obtain⟨its,r',pl,hz⟩:=I.list hq
 have hi:=q337 r'
 obtain⟨ys,hx⟩:=hi.allInts.items
 have hl':s.heap.IsList p (intItems ys):=hx▸pl.isList
 refine sum_intListG (I.ok.hd hc) hl' fun h' tk t' hk=>?_
 have e1:ns=ys.toList.map (·.1):=by
  rw[<- nums_intItems,<- hx]
  exact(show numsOf its.toArray.toList=ns from hi.numsOf).symm
 have e2:preSum (numAt ys) ys.size=ns.sum:=by
  rw[preSum_eq,WP (by simp),e1]
 rw[e2]
 exact⟨.int ns.sum,H,I.kept (t':=tk) hk,⟨_,rfl⟩,q⟩
theorem q525{K:Fg}{es:List Expr}{k:Nat}{t:TGs}{n:Nat}{pos:Pos}(hK:X.K=K)(hc:X.calm=true)(h:PGs X es t)
  (hn:(assignEach es X.env).length=n:=by rfl) (hst:(assignEach es X.env).findIdx? (·.1)=none:=by rfl):PG X (.Tuple es k pos) (gTup K n t):=by subst hK;exact q217 hc h hn hst
theorem q67{K:Fg}{a:Addr}{xs:List V}{T:V->Hp->(V->Hp->Prop)->Prop}{D:Addr}{H1:Hp}{R:Hp->Prop}(hn:xs.length<=sizeLine)(Pv:Nat->List V->Hp->Prop)(h0:Pv 0 [] (upd H1 D (.lst [])))
  (hl:∀ i ys H,Pv i ys H->SqL K H a xs) (hD:∀ i ys H,Pv i ys H->H D=some (.lst ys)/\ys.length=i)
  (hs:∀ i x ys H,xs[i]? = some x->Pv i ys H->T x H fun y H3=>H3 D=some (.lst ys)/\Pv (i+1) (ys++[y]) (upd H3 D (.lst (ys++[y]))))
  (hd:∀ ys H,Pv xs.length ys H->R H) :
  ∃ W:Nat->Nat->List V->Hp->Prop,(∃ m,W 0 m [] (upd H1 D (.lst []))) /\
   ∀ i m ys H2,W i m ys H2->H2 D=some (.lst ys)/\(((Itl K a).stop i H2/\R H2)\/((Itl K a).go i H2/\ys.length<sizeLine /\ ∃ N:V->Hp->Prop,(∀ y H3,N y H3->H3 D=some (.lst ys) /\ ∃ m',m'<m/\W (i+1) m' (ys++[y]) (upd H3 D (.lst (ys++[y])))) /\
    ∀ x H',(Itl K a).yld i H2 x H'->T x H' N)):=by
 exists fun i m ys H=>m=xs.length-i/\i<=xs.length/\Pv i ys H,⟨xs.length,by simp,ZX _,h0⟩
 rintro i m ys H2 ⟨rfl,hi,p⟩
 obtain⟨d1,d2⟩:=hD i ys H2 p
 have q:=hl i ys H2 p
 exists d1
 by_cases hlt:i<xs.length
 ·refine .inr ⟨⟨xs,xs[i],q,by simp[hlt]⟩,∅,fun y H3=>H3 D=some (.lst ys)/\Pv (i+1) (ys++[y]) (upd H3 D (.lst (ys++[y]))),fun y H3 ⟨z1,z2⟩=>⟨z1,xs.length-(i+1),∅,rfl,hlt,z2⟩,fun x H' y=>?_⟩
  obtain⟨e,y⟩:=y
  subst e
  exact hs i x ys _ (y xs q) p
 ·have e:i=xs.length:=∅
  subst e
  exact .inl ⟨⟨xs,q,ZF _⟩,hd ys H2 p⟩
end L2
namespace HT
set_option autoImplicit false
open PySem PySem.Spec PyProof.Rows List
section
open PySem.SeqAt
open PySem.AutoSeq1 (wpAny_loadPart')
open PySem.MeetsSeq PySem.MeetsSeq2 PySem.MeetsSeq3
theorem q792(a:Int)(t:Tok)(l:Addr)(items:Array Value)(n:Nat)(dd:Option Addr)(sl:Array (Option Value)) :
  Meets (Builtin.«int.__rmul__» ⟨[.int a t,.ref l],[]⟩) (fun _ R s=>s.heap.get? l=some { cls:=.type "tuple", dict:=dd,data:=.seq items n,slots:=sl }/\R (.ok (.ret .notImplemented)) s):=
 .of_wp fun prog w A R s h=>by
  obtain⟨hp,g,d,tk,os⟩:=s;obtain⟨hl,h⟩:=h
  have f2:=PyProof.Rows.sub_tuple_int
  wp_walk using wpAny_loadPart' hl
  exact⟨_,rfl,h⟩
theorem q794(l:Addr)(items:Array Value)(n:Nat)(dd:Option Addr)(sl:Array (Option Value))(t:Tok) :
  Meets (Builtin.«tuple.__mul__» ⟨[.ref l,.int 1 t],[]⟩) (fun _ R s=>s.heap.get? l=some { cls:=.type "tuple", dict:=dd,data:=.seq items n,slots:=sl }/\R (.ok (.ret (.ref l))) s):=
 .of_wp fun prog w A R s h=>by
  obtain⟨hp,g,d,tk,os⟩:=s;obtain⟨hl,h⟩:=h
  wp_walk using wpAny_loadPart' hl
  exact⟨_,rfl,h⟩
theorem q793(l:Addr)(items:Array Value)(n:Nat)(dd:Option Addr)(sl:Array (Option Value))(k:Int)(t:Tok)(h0:items.isEmpty=false)(h1:(k==1)=false)(k0:0<=k)(k1:k<2^62)(hz:(items.size:Int)*k<=(sizeLine:Nat))(hz2:¬(List.foldl (fun x1 x2=>x1++x2) #[] (List.replicate k.toNat items)).size > sizeLine) :
  Meets (Builtin.«tuple.__mul__» ⟨[.ref l,.int k t],[]⟩) (fun _ R s=>s.heap.get? l=some { cls:=.type "tuple", dict:=dd,data:=.seq items n,slots:=sl } /\
   R (.ok (.ret (.ref s.heap.objs.size))) { s with heap:=s.heap.push { cls:=.type "tuple", data:=.seq (List.foldl (fun x1 x2=>x1++x2) #[] (List.replicate k.toNat items)) } }):=
 .of_wp fun prog w A R s h=>by
  obtain⟨hp,g,d,tk,os⟩:=s;obtain⟨hl,h⟩:=h
  have e1:(items.isEmpty||k==1)=false:=by rw[h0,h1];rfl
  have hfit:¬(decide (k < -2^63)||decide (k>=2^63))=true:=by
   rw[ZS ∅,ZS ∅];decide
  have hbig:¬((items.size:Int)*k > (2^63-1)/8):=by
   have:((sizeLine:Nat):Int)<=(2^63-1)/8:={}
   lia
  have hlong:¬ Builtin.Tuple.tupleTooMany ((items.size:Int)*k)=true:=by
   unfold Builtin.Tuple.tupleTooMany
   rw[ZS ∅]
   exact fnt
  by_cases hk:k<=0
  ·have e2:(decide (k<=0)||items.isEmpty)=true:=by rw[ZG hk];rfl
   have e3:k.toNat=0:=∅
   rw[e3]at h
   wp_walk using wpAny_loadPart' hl
   rw[ZJ hfit]
   wp_walk using wpAny_loadPart' hl
   exact⟨_,rfl,h⟩
  ·have e2:¬(decide (k<=0)||items.isEmpty)=true:=by rw[ZS hk,h0];decide
   wp_walk using wpAny_loadPart' hl
   rw[ZJ hfit]
   wp_walk using wpAny_loadPart' hl
   rw[ZJ hbig]
   wp_walk using wpAny_loadPart' hl
   exact⟨_,rfl,h⟩
end
theorem q679:fillsNumberSlot (Value.type "tuple") "mul" = pure false:=by with_unfolding_all rfl
theorem q795:seqRepeat? (Value.type "tuple")=pure (some (Value.builtin "tuple.__mul__")):=by with_unfolding_all rfl
end HT
namespace L2
open PySem PySem.Spec PyProof.Rows List
variable {X:Cx}
inductive q717(K:Fg)(x:V)(y:V)(H:Hp)(Q:VK):Prop
 |mk(a b:Addr)(xs:List V)(_:x = .ref a)(_:y = .ref b)(_:SqL K H a xs)(_:SqL K H b [])(_:Q (.bl (!xs.isEmpty)) H)
theorem q575(hu:X.A.units+64<cLine):OpR X (compareOp .NotEq) (q717 X.K):=by
 intro pins s σ H x y v u Q I rx ry h
 obtain⟨a,b,xs,rfl,rfl,ha,hb,q⟩:=h
 cases rx
 cases ry
 cases xs with
 | nil=>exact(q574 I ha hb rfl (fun j x y h1=>nomatch h1) (W185 hu)).2 _ _ _ _ ⟨.bl false,H,I,rfl,q⟩
 | cons x xs=>
  obtain⟨its,r1,p1,_⟩:=I.list ha
  obtain⟨its2,r2,p2,_⟩:=I.list hb
  have l1:=r1.length
  have l2:=r2.length
  have hz:(its.toArray.size != its2.toArray.size)=true:=by
   rw[WC,WC,<- l1,<- l2];rfl
  exact SeqAt.RcNeAt.lists_lengths p1.isList p2.isList hz (W185 hu) _ _ _ _ ⟨.bl true,H,I,rfl,q⟩
inductive Rop_repT(K:Fg)(x:V)(y:V)(H:Hp)(Q:VK):Prop
 |mk(a:Addr)(z:V)(k:Nat)(_:x = .ref a)(_:y = .int k)(_:H a=some (.tup [z]))(_:k<=1000)(_:∀ p H',Same H H'->SqT K H' p (List.replicate k z)->Q (.ref p) H')
theorem op_repT:OpR X (binaryOp .Mult) (Rop_repT X.K):=by
 intro pins s σ H x y v u Q I rx ry h
 obtain⟨a,z,k,rfl,rfl,ha,hk,q⟩:=h
 cases rx
 obtain⟨t,rfl⟩:=ry
 have hq:SqT X.K H a [z]:=SqT.of ha
 obtain⟨its,r1,p1,_⟩:=I.tuple hq
 have hl1:its.length=1:=r1.length.symm
 obtain⟨⟨cls,dd,data,sl⟩,ho,hc,n,hd⟩:=id p1
 simp only at hc hd
 subst hc hd
 have hT:s.TypeIs (.ref a) "tuple" := ⟨_,ho,rfl⟩
 by_cases h1:k=1
 ·subst h1
  refine wpAny_binaryOp_repeat_ref (T := "tuple") (U := "int") {} hT (fun s'=>typeIs_int s' _ t) HT.q679 F.fills_int_mul F.slot_int_rmul HT.q795 F.slot_int_index.lookup
   (call_meets F.slot_int_rmul (typeIs_int s _ t) F.entry_int_rmul (F.args_int_rmul_2 _ _) (HT.q792 _ t a its.toArray n dd sl)
    ⟨ho,rfl,hT,call_meets F.slot_tuple_mul hT F.entry_tuple_mul (F.args_tuple_mul_2 _ _) (HT.q794 a its.toArray n dd sl t) ⟨ho,?_⟩⟩)
  exact⟨.ref a,H,I,rfl,q _ _ (Same.refl H) hq⟩
 ·have e1:((k:Int)==1)=false:=by
   rw[beq_eq_false_iff_ne]
   lia
  have e0:its.toArray.isEmpty=false:=by
   cases its with
   | nil=>cases hl1
   | cons _ _=>rfl
  have hnew:List.foldl (fun x1 x2=>x1++x2) #[] (List.replicate k its.toArray)=(List.replicate k its).flatten.toArray:=by
   have:=q443 its k []
   rw[nil_append]at this
   exact this
  have hzl:(sizeLine:Nat)>=1000:={}
  refine wpAny_binaryOp_repeat_ref (T := "tuple") (U := "int") {} hT (fun s'=>typeIs_int s' _ t) HT.q679 F.fills_int_mul F.slot_int_rmul HT.q795 F.slot_int_index.lookup
   (call_meets F.slot_int_rmul (typeIs_int s _ t) F.entry_int_rmul (F.args_int_rmul_2 _ _) (HT.q792 _ t a its.toArray n dd sl)
    ⟨ho,rfl,hT,call_meets F.slot_tuple_mul hT F.entry_tuple_mul (F.args_tuple_mul_2 _ _) (HT.q793 a its.toArray n dd sl k t e0 e1 ∅ ∅ (by rw[WC,hl1];lia) (by rw[Int.toNat_natCast,hnew,WC,len_rep,hl1];lia)) ⟨ho,?_⟩⟩)
  have er:(List.replicate k [z]).flatten=List.replicate k z:=by
   induction k with
   | zero=>rfl
   | succ m ih=>simp[replicate_succ]
  rw[Int.toNat_natCast,hnew]
  have hr:Vals (List.replicate k z) (List.replicate k its).flatten:=by
   rw[<- er]
   exact r1.rep k
  refine⟨.ref s.heap.objs.size,_,I.laid (t':=s.toks) (o:=.tup (List.replicate k z)) (fun b ob q=>ZE _ q) (ZF _) ?_,rfl,q _ _ (q16 (I.hok.fresh (ZF _)) _) (SqT.of q13)⟩
  exact⟨by rw[length_replicate];lia,_,hr,IsTup.new _ _⟩
theorem q68{K:Fg}{a:Addr}{xs:List V}{Tt:V->Hp->(Bool->Hp->Prop)->Prop}{Te:V->Hp->(V->Hp->Prop)->Prop}{D:Addr}{H1:Hp}{R:Hp->Prop}(hn:xs.length<=sizeLine)(Pv:Nat->List V->Hp->Prop)(h0:Pv 0 [] (upd H1 D (.lst [])))
  (hl:∀ i ys H,Pv i ys H->SqL K H a xs) (hD:∀ i ys H,Pv i ys H->H D=some (.lst ys)/\ys.length<=i)
  (hs:∀ i x ys H,xs[i]? = some x->Pv i ys H->Tt x H fun b H3=>if b=true then Te x H3 (fun y H4=>H4 D=some (.lst ys)/\Pv (i+1) (ys++[y]) (upd H4 D (.lst (ys++[y]))))else ∃ m',m'<xs.length-i/\m'=xs.length-(i+1)/\i+1<=xs.length/\Pv (i+1) ys H3)
  (hd:∀ ys H,Pv xs.length ys H->R H) :
  ∃ W:Nat->Nat->List V->Hp->Prop,(∃ m,W 0 m [] (upd H1 D (.lst []))) /\
   ∀ i m ys H2,W i m ys H2->H2 D=some (.lst ys)/\(((Itl K a).stop i H2/\R H2)\/((Itl K a).go i H2/\ys.length<sizeLine /\ ∃ N:V->Hp->Prop,(∀ y H3,N y H3->H3 D=some (.lst ys) /\ ∃ m',m'<m/\W (i+1) m' (ys++[y]) (upd H3 D (.lst (ys++[y])))) /\
    ∀ x H',(Itl K a).yld i H2 x H'->Tt x H' fun b H3=>if b=true then Te x H3 N else ∃ m',m'<m/\W (i+1) m' ys H3)):=by
 exists fun i m ys H=>m=xs.length-i/\i<=xs.length/\Pv i ys H,⟨xs.length,by simp,ZX _,h0⟩
 rintro i m ys H2 ⟨rfl,hi,p⟩
 obtain⟨d1,d2⟩:=hD i ys H2 p
 have q:=hl i ys H2 p
 exists d1
 by_cases hlt:i<xs.length
 ·refine .inr ⟨⟨xs,xs[i],q,by simp[hlt]⟩,∅,fun y H3=>H3 D=some (.lst ys)/\Pv (i+1) (ys++[y]) (upd H3 D (.lst (ys++[y]))),fun y H3 ⟨z1,z2⟩=>⟨z1,xs.length-(i+1),∅,rfl,hlt,z2⟩,fun x H' y=>?_⟩
  obtain⟨e,y⟩:=y
  subst e
  exact hs i x ys _ (y xs q) p
 ·have e:i=xs.length:=∅
  subst e
  exact .inl ⟨⟨xs,q,ZF _⟩,hd ys H2 p⟩
section
inductive q645(K:Fg)(x:V)(y:V)(H:Hp)(Q:VK):Prop
 |mk(a b:Addr)(xs:List V)(_:x = .ref a)(_:y = .ref b)(_:SqL K H a xs)(_:SqL K H b [])(_:Q (.bl xs.isEmpty) H)
theorem q453(hu:X.A.units+64<cLine):OpR X (compareOp .Eq) (q645 X.K):=by
 intro pins s σ H x y v u Q I rx ry h
 obtain⟨a,b,xs,rfl,rfl,ha,hb,q⟩:=h
 cases rx
 cases ry
 cases xs with
 | nil=>exact(q574 I ha hb rfl (fun j x y h1=>nomatch h1) ∅).1 _ _ _ _ ⟨.bl true,H,I,rfl,q⟩
 | cons x xs=>
  obtain⟨its,r1,p1,_⟩:=I.list ha
  obtain⟨its2,r2,p2,_⟩:=I.list hb
  have l1:=r1.length
  have l2:=r2.length
  have hz:(its.toArray.size != its2.toArray.size)=true:=by
   rw[WC,WC,<- l1,<- l2];rfl
  exact SeqAt.RcAt.lists_lengths p1.isList p2.isList hz ∅ _ _ _ _ ⟨.bl false,H,I,rfl,q⟩
def tChain3(r r' r'':R2)(ta tb tc td:TE):TE:=fun σ H Q=>ta σ H fun x H1=>tb σ H1 fun y H2=>r x y H2 fun z H3=>∃ k,z = .bl k /\
 (if k=true then tc σ H3 fun w' H4=>r' y w' H4 fun z2 H5=>∃ k2,z2 = .bl k2/\(if k2=true then td σ H5 fun w'' H6=>r'' w' w'' H6 Q else Q (.bl false) H5)else Q (.bl false) H3)
variable{a b c d:Expr}{ta tb tc td:TE}{pos:Pos}
theorem q718(ho:OpR X (compareOp op) r)(ho':OpR X (compareOp op') r')(ho'':OpR X (compareOp op'') r'')(ha:PE X a ta)(hb:PE X b tb)(hc:PE X c tc)(hd:PE X d td)
  (hm:lastMarks [op,op',op''] [b,c,d]=false:=by with_unfolding_all rfl):PT X (.Compare a [op,op',op''] [b,c,d] pos) (tTest (tChain3 r r' r'' ta tb tc td)):=by
 intro pins s σ H Q I h
 refine isTrue_chain (thn (ha pins s σ H _ I h) fun v s1 ⟨x,H1,I1,r1,q1⟩=>test_link (thn (hb pins s1 σ H1 _ I1 q1) fun u s2 ⟨y,H2,I2,r2,q2⟩=>
  thn (ho pins s2 σ H2 x y v u _ I2 r1 r2 q2) fun d' s3 ⟨z,H3,I3,r3,k,e,q3⟩=>?_)) hm
 subst e
 cases r3
 refine YR ?_
 cases k with
 | false=>
  obtain⟨k',e',q'⟩:=q3
  cases e'
  exact ite_ff ⟨H3,I3,q'⟩
 | true=>
  refine ite_tt (test_link (thn (hc pins s3 σ H3 _ I3 q3) fun w' s4 ⟨z',H4,I4,r4,q4⟩=>thn (ho' pins s4 σ H4 y z' u w' _ I4 r2 r4 q4) fun d2 s5 ⟨z2,H5,I5,r5,k2,e2,q5⟩=>?_))
  subst e2
  cases r5
  refine YR ?_
  cases k2 with
  | false=>
   obtain⟨k',e',q'⟩:=q5
   cases e'
   exact ite_ff ⟨H5,I5,q'⟩
  | true=>
   refine ite_tt (test_last (thn (hd pins s5 σ H5 _ I5 q5) fun w'' s6 ⟨z'',H6,I6,r6,q6⟩=>thn (ho'' pins s6 σ H6 z' z'' w' w'' _ I6 r4 r6 q6) fun d3 s7 ⟨z3,H7,I7,r7,k3,e3,q7⟩=>?_))
   subst e3
   cases r7
   exact YR ⟨H7,I7,q7⟩
end
end L2
namespace TS
set_option autoImplicit false
open PySem PySem.W PyProof.Rows List
abbrev M2:=StateT SortSt Sem
noncomputable def gallop':Bool->Keyed->Array Keyed->Nat->Nat->Nat->M2 (Option Nat):=sortPriv% PySem.Builtin.gallop
noncomputable def mergeLo':Array Keyed->Array Keyed->M2 (Array Keyed):=sortPriv% PySem.Builtin.mergeLo
def mergeHi':Array Keyed->Array Keyed->M2 (Array Keyed):=sortPriv% PySem.Builtin.mergeHi
noncomputable def setMG':Nat->M2 Unit:=sortPriv% PySem.Builtin.setMinGallop
section
variable {prog:Program} {w:World} {A:Around} {E:VS}
theorem c_for{β:Type}{f:Nat->β->M2 (ForInStep β)}{Q:β->SortSt->Shared->Prop}(I:Nat->β->SortSt->Shared->Prop) :
  ∀(l:List Nat)(n:Nat)(b:β)(st:SortSt)(s:Shared),I n b st s->(∀ b st s,I (n+l.length) b st s->Q b st s) ->
  (∀ k x b st s,n<=k->k<n+l.length->I k b st s->kasC (model prog w) A E (f x b) (fun r st' s'=>match r with | .done b'=>Q b' st' s' | .yield b'=>I (k+1) b' st' s') st s) ->
  kasC (model prog w) A E (forIn l b f) Q st s
 | [],n,b,st,s,hi,hq,_=>kasC_nil (hq b st s hi)
 | x::l,n,b,st,s,hi,hq,hs=>by
  refine kasC_cons (WX (hs n x b st s (ZF _) (by simp) hi) (fun r s' h=>?_) fun _ _ e=>e)
  obtain⟨r,st'⟩:=r
  cases r with
  | done b'=>exact h
  | yield b'=>
   refine c_for I l (n+1) b' st' s' h (fun b st s hb=>hq b st s (by simpa [Nat.add_assoc,Nat.add_comm,Nat.add_left_comm] using hb)) (fun k x b st s h1 h2 h3=>hs k x b st s (W21 h1) (by simp at h2 ⊢;exact W19 h2) h3)
theorem c_range{β:Type}{f:Nat->β->M2 (ForInStep β)}{Q:β->SortSt->Shared->Prop}{n:Nat}{b:β}{st:SortSt}{s:Shared}(I:Nat->β->SortSt->Shared->Prop)(h0:I 0 b st s)(hq:∀ b st s,I n b st s->Q b st s)
  (hs:∀ k x b st s,k<n->I k b st s->kasC (model prog w) A E (f x b) (fun r st' s'=>match r with | .done b'=>Q b' st' s' | .yield b'=>I (k+1) b' st' s') st s):kasC (model prog w) A E (forIn [0:n] b f) Q st s:=by
 refine kasC_range (c_for I (List.range' 0 (n-0)) 0 b st s h0 (fun b st s h=>hq b st s ?_) (fun k x b st s h1 h2 h3=>hs k x b st s ?_ h3))
 ·simpa using h
 ·simpa using h2
theorem q85{β:Type}{f:Nat->β->M2 (ForInStep β)}{Q:β->SortSt->Shared->Prop}{n:Nat}{b:β}{st:SortSt}{s:Shared}(I:Nat->β->SortSt->Shared->Prop)(R:β->SortSt->Shared->Prop)(h0:I 0 b st s)(he:∀ b st s,I n b st s->R b st s)
  (hs:∀ k x b st s,k<n->I k b st s->kasC (model prog w) A E (f x b) (fun r st' s'=>match r with | .done b'=>R b' st' s' | .yield b'=>I (k+1) b' st' s') st s) (hR:∀ b st s,R b st s->Q b st s):kasC (model prog w) A E (forIn [0:n] b f) Q st s:=
 WX (c_range I h0 he hs) (fun r s' h=>hR _ _ _ h) fun _ _ e=>e
theorem q59{arr:Array Keyed}{i:Nat}{Q:Keyed->SortSt->Shared->Prop}{st:SortSt}{s:Shared}(hi:i<arr.size)(h:Q (kas_item arr i) st s):kasC (model prog w) A E (elem' arr i) Q st s:=by
 rw[elem'_eq]
 have e:arr[i]? = some (kas_item arr i):=by
  unfold kas_item
  simp[Array.getD,hi]
 rw[e]
 exact ZR h
def Good(prog:Program)(w:World)(A:Around)(E:VS)(κ:SortKind)(P:Keyed->Prop)(lt:Keyed->Keyed->Bool)(s:Shared):Prop:=
 ∀(x y:Keyed)(st:SortSt)(Q:Option Bool->SortSt->Shared->Prop),P x->P y->kindOf st=κ->Q (some (lt x y)) st s->kasC (model prog w) A E (lt' x y) Q st s
variable {κ:SortKind} {P:Keyed->Prop} {lt:Keyed->Keyed->Bool}
theorem q206{s:Shared}(G:Good prog w A E κ P lt s){left:Bool}{key:Keyed}{arr:Array Keyed}{base n hint k:Nat}{Q:Option Nat->SortSt->Shared->Prop}{st:SortSt}(hst:kindOf st=κ)(hk:P key)(hP:∀ i,i<n->P (kas_item arr (base+i)))
  (hsz:base+n<=arr.size) (hh:hint<n) (hkn:k<=n) (hB:∀ i,i<n->(if left=true then lt (kas_item arr (base+i)) key else !(lt key (kas_item arr (base+i))))=decide (i<k)) (h:Q (some k) st s) :
  kasC (model prog w) A E (gallop' left key arr base n hint) Q st s:=by
 have bey:∀(i:Nat)(Q':Option Bool->SortSt->Shared->Prop),i<n->Q' (some (decide (i<k))) st s->kasC (model prog w) A E (do
   let x <- elem' arr (base+i)
   if left=true then lt' x key else do
    let r <- lt' key x
    pure (Option.map (fun x=>!x) r)) Q' st s:=by
  intro i Q' hi hq
  refine ZN (q59 (W153 hi hsz) ?_)
  have hb:=hB i hi
  cases left with
  | true=>
   rw[ZL rfl]at hb ⊢
   exact G _ _ _ _ (hP i hi) hk hst (by rw[hb];exact hq)
  | false=>
   rw[ZJ fnt]at hb ⊢
   refine ZN (G _ _ _ _ hk (hP i hi) hst (ZR ?_))
   show Q' (some (!(lt key (kas_item arr (base+i))))) st s
   rw[hb]
   exact hq
 refine ZN (bey hint _ hh ?_)
 dsimp only
 by_cases c:hint<k
 ·rw[ZL (ZG c)]
  refine ZN (q85 (fun t r st' s'=>st'=st/\s'=s /\ ∃ la of,r=(none,la,of)/\la<of/\hint+la<k/\t+1<=of) (fun r st' s'=>st'=st/\s'=s /\ ∃ la of,r=(none,la,of)/\la<of/\hint+la<k/\k<=hint+min of (n-hint))
   ⟨rfl,rfl,0,1,rfl,∅,∅,∅⟩ ?_ ?_ ?_)
  ·rintro r st' s' ⟨rfl,rfl,la,of,rfl,h1,h2,h3⟩
   exact⟨rfl,rfl,la,of,rfl,h1,h2,∅⟩
  ·rintro t x r st' s' ht ⟨rfl,rfl,la,of,rfl,h1,h2,h3⟩
   dsimp only
   by_cases c2:of>=n-hint
   ·rw[ZL c2]
    exact ZR ⟨rfl,rfl,la,of,rfl,h1,h2,∅⟩
   ·rw[ZJ c2]
    refine ZN (bey (hint+of) _ ∅ ?_)
    dsimp only
    by_cases c3:hint+of<k
    ·rw[ZJ (by simp[c3])]
     exact ZR ⟨rfl,rfl,of,2*of+1,rfl,∅,c3,∅⟩
    ·rw[ZL (by simp[c3])]
     exact ZR ⟨rfl,rfl,la,of,rfl,h1,h2,∅⟩
  ·rintro r st' s' ⟨rfl,rfl,la,of,rfl,h1,h2,h3⟩
   dsimp only
   refine ZN (q85 (fun t r st₂ s₂=>st₂=st'/\s₂=s' /\ ∃ lo hi,r=(none,lo,hi)/\lo<=k/\k<=hi/\hi<=n/\(hi-lo)+t<=n) (fun r st₂ s₂=>st₂=st'/\s₂=s' /\ ∃ lo,r=(none,lo,k)) ⟨rfl,rfl,_,_,rfl,∅,∅,∅,∅⟩ ?_ ?_ ?_)
   ·rintro r st₂ s₂ ⟨rfl,rfl,lo,hi,rfl,g1,g2,g3,g4⟩
    obtain rfl:hi=k:=∅
    exact⟨rfl,rfl,lo,rfl⟩
   ·rintro t x r st₂ s₂ ht ⟨rfl,rfl,lo,hi,rfl,g1,g2,g3,g4⟩
    dsimp only
    by_cases c2:lo>=hi
    ·rw[ZL c2]
     obtain rfl:hi=k:=∅
     exact ZR ⟨rfl,rfl,lo,rfl⟩
    ·rw[ZJ c2]
     refine ZN (bey (lo+(hi-lo)/2) _ ∅ ?_)
     dsimp only
     by_cases c3:lo+(hi-lo)/2<k
     ·rw[ZL (ZG c3)]
      exact ZR ⟨rfl,rfl,_,_,rfl,∅,∅,∅,∅⟩
     ·rw[ZJ (by simp[c3])]
      exact ZR ⟨rfl,rfl,_,_,rfl,∅,∅,∅,∅⟩
   ·rintro r st₂ s₂ ⟨rfl,rfl,lo,rfl⟩
    exact ZR h
 ·rw[ZJ (by simp[c])]
  refine ZN (q85 (fun t r st' s'=>st'=st/\s'=s /\ ∃ la of,r=(none,la,of)/\la<of/\k<=hint-la/\la<=hint/\t+1<=of) (fun r st' s'=>st'=st/\s'=s /\ ∃ la of,r=(none,la,of)/\la<of/\k<=hint-la/\la<=hint/\hint+1-min of (hint+1)<=k)
   ⟨rfl,rfl,0,1,rfl,∅,∅,W144,∅⟩ ?_ ?_ ?_)
  ·rintro r st' s' ⟨rfl,rfl,la,of,rfl,h1,h2,h3,h4⟩
   exact⟨rfl,rfl,la,of,rfl,h1,h2,h3,∅⟩
  ·rintro t x r st' s' ht ⟨rfl,rfl,la,of,rfl,h1,h2,h3,h4⟩
   dsimp only
   by_cases c2:of>=hint+1
   ·rw[ZL c2]
    exact ZR ⟨rfl,rfl,la,of,rfl,h1,h2,h3,∅⟩
   ·rw[ZJ c2]
    refine ZN (bey (hint-of) _ ∅ ?_)
    dsimp only
    by_cases c3:hint-of<k
    ·rw[ZL (ZG c3)]
     exact ZR ⟨rfl,rfl,la,of,rfl,h1,h2,h3,∅⟩
    ·rw[ZJ (by simp[c3])]
     exact ZR ⟨rfl,rfl,of,2*of+1,rfl,∅,∅,∅,∅⟩
  ·rintro r st' s' ⟨rfl,rfl,la,of,rfl,h1,h2,h3,h4⟩
   dsimp only
   refine ZN (q85 (fun t r st₂ s₂=>st₂=st'/\s₂=s' /\ ∃ lo hi,r=(none,lo,hi)/\lo<=k/\k<=hi/\hi<=n/\(hi-lo)+t<=n) (fun r st₂ s₂=>st₂=st'/\s₂=s' /\ ∃ lo,r=(none,lo,k)) ⟨rfl,rfl,_,_,rfl,∅,∅,(W27 h3 hh),∅⟩ ?_ ?_ ?_)
   ·rintro r st₂ s₂ ⟨rfl,rfl,lo,hi,rfl,g1,g2,g3,g4⟩
    obtain rfl:hi=k:=∅
    exact⟨rfl,rfl,lo,rfl⟩
   ·rintro t x r st₂ s₂ ht ⟨rfl,rfl,lo,hi,rfl,g1,g2,g3,g4⟩
    dsimp only
    by_cases c2:lo>=hi
    ·rw[ZL c2]
     obtain rfl:hi=k:=∅
     exact ZR ⟨rfl,rfl,lo,rfl⟩
    ·rw[ZJ c2]
     refine ZN (bey (lo+(hi-lo)/2) _ ∅ ?_)
     dsimp only
     by_cases c3:lo+(hi-lo)/2<k
     ·rw[ZL (ZG c3)]
      exact ZR ⟨rfl,rfl,_,_,rfl,∅,∅,∅,∅⟩
     ·rw[ZJ (by simp[c3])]
      exact ZR ⟨rfl,rfl,_,_,rfl,∅,∅,∅,∅⟩
   ·rintro r st₂ s₂ ⟨rfl,rfl,lo,rfl⟩
    exact ZR h
end
section
variable {P:Keyed->Prop} {lt:Keyed->Keyed->Bool}
structure Tot(P:Keyed->Prop)(lt:Keyed->Keyed->Bool):Prop where
 trans:∀ x y z,P x->P y->P z->lt y x=false->lt z y=false->lt z x=false
 asym:∀ x y,P x->P y->lt x y=true->lt y x=false
def Srt(lt:Keyed->Keyed->Bool)(l:List Keyed):Prop:=l.Pairwise fun x y=>lt y x=false
structure MInv(lt:Keyed->Keyed->Bool)(al bl o:List Keyed)(i j:Nat):Prop where
 perm:o.Perm (al.take i++bl.take j)
 srt:Srt lt o
 ba:∀ x∈o,∀ y∈al.drop i,lt y x=false
 bb:∀ x∈o,∀ y∈bl.drop j,lt y x=false
theorem MInv.zero(al bl:List Keyed):MInv lt al bl [] 0 0:=⟨by simp,.nil,fun x hx=>absurd hx (by simp),fun x hx=>absurd hx (by simp)⟩
theorem q646(l:List Keyed)(i k:Nat):l.drop i=(l.drop i).take k++l.drop (i+k):=by
 rw[<- drop_drop,YY]
theorem q647(l:List Keyed)(i k:Nat):l.take (i+k)=l.take i++(l.drop i).take k:=take_add
theorem MInv.chunkA{al bl o:List Keyed}{i j:Nat}(m:MInv lt al bl o i j)(ha:Srt lt al)(k:Nat)(hc:∀ x∈(al.drop i).take k,∀ y∈bl.drop j,lt y x=false):MInv lt al bl (o++(al.drop i).take k) (i+k) j:=by
 have hd:=q646 al i k
 have hs:Srt lt (al.drop i):=List.Pairwise.sublist (drop_sublist i al) ha
 rw[hd]at hs
 have hs':=List.pairwise_append.mp hs
 have sub1:∀ y∈(al.drop i).take k,y∈al.drop i:=fun y hy=>YG hy
 have sub2:∀ y∈al.drop (i+k),y∈al.drop i:=fun y hy=>by rw[hd];exact WI _ hy
 refine⟨?_,?_,fun x hx y hy=>?_,fun x hx y hy=>?_⟩
 ·rw[q647]
  refine(m.perm.append_right _).trans ?_
  rw[YS,YS]
  exact List.Perm.append_left _ perm_append_comm
 ·refine List.pairwise_append.mpr ⟨m.srt,?_,fun x hx y hy=>m.ba x hx y (sub1 y hy)⟩
  have:=hs'.1
  simpa [take_take] using this
 ·rcases List.mem_append.mp hx with h | h
  ·exact m.ba x h y (sub2 y hy)
  ·exact hs'.2.2 x (by simpa [take_take] using h) y hy
 ·rcases List.mem_append.mp hx with h | h
  ·exact m.bb x h y hy
  ·exact hc x h y hy
theorem MInv.swap{al bl o:List Keyed}{i j:Nat}(m:MInv lt al bl o i j):MInv lt bl al o j i:=⟨m.perm.trans perm_append_comm,m.srt,m.bb,m.ba⟩
theorem MInv.chunkB{al bl o:List Keyed}{i j:Nat}(m:MInv lt al bl o i j)(hb:Srt lt bl)(k:Nat)(hc:∀ x∈(bl.drop j).take k,∀ y∈al.drop i,lt y x=false):MInv lt al bl (o++(bl.drop j).take k) i (j+k):=
 (m.swap.chunkA hb k hc).swap
def Fin2(lt:Keyed->Keyed->Bool)(al bl r:List Keyed):Prop:=r.Perm (al++bl)/\Srt lt r
theorem MInv.fin{al bl o:List Keyed}{i j:Nat}(m:MInv lt al bl o i j)(hi:al.length<=i)(hj:bl.length<=j):Fin2 lt al bl o:=by
 have p:=m.perm
 rw[WP hi,WP hj]at p
 exact⟨p,m.srt⟩
theorem MInv.doneB{al bl o:List Keyed}{i j:Nat}(m:MInv lt al bl o i j)(ha:Srt lt al)(hj:bl.length<=j):Fin2 lt al bl (o++al.drop i++bl.drop j):=by
 have e:bl.drop j=[]:=drop_of_length_le hj
 have z:=m.chunkA ha al.length (fun x _ y hy=>by rw[e]at hy;cases hy)
 rw[e,append_nil]
 have e2:(al.drop i).take al.length=al.drop i:=WP (by rw[length_drop];exact W18)
 rw[e2]at z
 exact z.fin W53 hj
theorem MInv.doneA{al bl o:List Keyed}{i j:Nat}(m:MInv lt al bl o i j)(hb:Srt lt bl)(hi:al.length<=i):Fin2 lt al bl (o++al.drop i++bl.drop j):=by
 have e:al.drop i=[]:=drop_of_length_le hi
 have z:=m.chunkB hb bl.length (fun x _ y hy=>by rw[e]at hy;cases hy)
 rw[e,append_nil]
 have e2:(bl.drop j).take bl.length=bl.drop j:=WP (by rw[length_drop];exact W18)
 rw[e2]at z
 exact z.fin hi W53
theorem MInv.lastA{al bl o:List Keyed}{i j:Nat}(m:MInv lt al bl o i j)(ha:Srt lt al)(hb:Srt lt bl)(hl:∀ x∈bl,∀ y∈al.drop i,lt y x=false):Fin2 lt al bl (o++bl.drop j++al.drop i):=by
 have z:=m.chunkB hb bl.length (fun x hx y hy=>hl x (mem_of_mem_drop (YG hx)) y hy)
 have e2:(bl.drop j).take bl.length=bl.drop j:=WP (by rw[length_drop];exact W18)
 rw[e2]at z
 have z2:=z.doneB ha W53
 have e3:bl.drop (j+bl.length)=[]:=drop_of_length_le ∅
 rw[e3,append_nil]at z2
 exact z2
theorem bound(B:Nat->Bool):∀ n,(∀ i j,i<=j->j<n->B j=true->B i=true) -> ∃ k,k<=n /\ ∀ i,i<n->B i=decide (i<k)
 | 0,_=>⟨0,ZF _,fun i hi=>absurd hi (Nat.not_lt_zero _)⟩
 | n+1,h=>by
  obtain⟨k,hk,hB⟩:=bound B n fun i j a b c=>h i j a ∅ c
  cases hn:B n with
  | true=>
   refine⟨n+1,ZF _,fun i hi=>?_⟩
   rw[h i n ∅ ∅ hn,ZG hi]
  | false=>
   refine⟨k,(W25 hk),fun i hi=>?_⟩
   by_cases e:i=n
   ·rw[e,hn,ZS ∅]
   ·exact hB i (W45 hi e)
theorem q60{a:Array Keyed}{i:Nat}(h:i<a.size):a.toList[i]? = some (kas_item a i):=by
 unfold kas_item
 simp[Array.getD,h]
theorem q22{a:Array Keyed}{i:Nat}(h:i<a.size):kas_item a i∈a.toList:=ZV (q60 h)
theorem q104{a:Array Keyed}{i:Nat}{y:Keyed}(h:y∈a.toList.drop i):∃ j,i<=j/\j<a.size/\y=kas_item a j:=by
 obtain⟨k,hk⟩:=mem_iff_getElem?.mp h
 rw[getElem?_drop]at hk
 have hl:=(List.getElem?_eq_some_iff.mp hk).1
 have hl':i+k<a.size:=by simpa using hl
 exists i+k,W17,hl'
 rw[q60 hl']at hk
 exact(Option.some.inj hk).symm
theorem q342{a:Array Keyed}{i k:Nat}{y:Keyed}(h:y∈(a.toList.drop i).take k):∃ j,i<=j/\j<i+k/\j<a.size/\y=kas_item a j:=by
 obtain⟨m,hm⟩:=mem_iff_getElem?.mp h
 rw[getElem?_take]at hm
 by_cases c:m<k
 ·rw[ZL c,getElem?_drop]at hm
  have hl:=(List.getElem?_eq_some_iff.mp hm).1
  have hl':i+m<a.size:=by simpa using hl
  exists i+m,W17,(W22 c),hl'
  rw[q60 hl']at hm
  exact(Option.some.inj hm).symm
 ·rw[ZJ c]at hm
  cases hm
theorem q95{a:Array Keyed}{i j:Nat}(T:Tot P lt)(h:Srt lt a.toList)(hP:∀ x∈a.toList,P x)(hij:i<j)(hj:j<a.size):lt (kas_item a j) (kas_item a i)=false:=by
 have hi:i<a.size:=(W76 hj hij)
 have z:=List.pairwise_iff_getElem.mp h i j (by simpa using hi) (by simpa using hj) hij
 have e1:=(List.getElem?_eq_some_iff.mp (q60 hi)).2
 have e2:=(List.getElem?_eq_some_iff.mp (q60 hj)).2
 rw[e1,e2]at z
 exact z
end
end TS
namespace TS
set_option autoImplicit false
open PySem PySem.W PyProof.Rows List
section
variable {P:Keyed->Prop} {lt:Keyed->Keyed->Bool} {a b out:Array Keyed} {i j k:Nat}
abbrev AInv(lt:Keyed->Keyed->Bool)(a b out:Array Keyed)(i j:Nat):Prop:=MInv lt a.toList b.toList out.toList i j
abbrev FinA(lt:Keyed->Keyed->Bool)(a b r:Array Keyed):Prop:=Fin2 lt a.toList b.toList r.toList
theorem q249(h:k<=a.size):(a.extract i k).toList=(a.toList.drop i).take (k-i):=by
 simp[extract_eq_take_drop]
theorem q207:(a.extract i a.size).toList=a.toList.drop i:=by
 rw[q249 (ZF _)]
 exact WP (by simp)
theorem q175(h:i<a.size):(a.toList.drop i).take 1=[kas_item a i]:=by
 have e:=(List.getElem?_eq_some_iff.mp (q60 h))
 obtain⟨h1,h2⟩:=e
 rw[YT h1,h2]
 rfl
theorem pushB(T:Tot P lt)(sb:Srt lt b.toList)(sa:Srt lt a.toList)(pa:∀ x∈a.toList,P x)(pb:∀ x∈b.toList,P x)(m:AInv lt a b out i j)(hi:i<a.size)(hj:j<b.size)(h:lt (kas_item b j) (kas_item a i)=true):AInv lt a b (out.push (kas_item b j)) i (j+1):=by
 have z:=m.chunkB sb 1 (fun x hx y hy=>by
  rw[q175 hj]at hx
  cases List.mem_singleton.mp hx
  obtain⟨j',h1,h2,rfl⟩:=q104 hy
  have q1:=T.asym _ _ (pb _ (q22 hj)) (pa _ (q22 hi)) h
  by_cases e:i=j'
  ·rw[<- e];exact q1
  ·exact T.trans _ _ _ (pb _ (q22 hj)) (pa _ (q22 hi)) (pa _ (q22 h2)) q1 (q95 T sa pa (W16 h1 e) h2))
 rw[q175 hj]at z
 simpa [AInv] using z
theorem pushA(T:Tot P lt)(sb:Srt lt b.toList)(sa:Srt lt a.toList)(pa:∀ x∈a.toList,P x)(pb:∀ x∈b.toList,P x)(m:AInv lt a b out i j)(hi:i<a.size)(h:j<b.size->lt (kas_item b j) (kas_item a i)=false):AInv lt a b (out.push (kas_item a i)) (i+1) j:=by
 have z:=m.chunkA sa 1 (fun x hx y hy=>by
  rw[q175 hi]at hx
  cases List.mem_singleton.mp hx
  obtain⟨j',h1,h2,rfl⟩:=q104 hy
  have hj:j<b.size:=(W92 h2 h1)
  have q1:=h hj
  by_cases e:j=j'
  ·rw[<- e];exact q1
  ·exact T.trans _ _ _ (pa _ (q22 hi)) (pb _ (q22 hj)) (pb _ (q22 h2)) q1 (q95 T sb pb (W16 h1 e) h2))
 rw[q175 hi]at z
 simpa [AInv] using z
theorem exA(T:Tot P lt)(sa:Srt lt a.toList)(pa:∀ x∈a.toList,P x){key:Keyed}(hk:P key)(n:Nat)(hn:i+n<=a.size):∃ k,k<=n /\ ∀ t,t<n->(if false=true then lt (kas_item a (i+t)) key else !(lt key (kas_item a (i+t))))=decide (t<k):=by
 refine bound _ n fun t u htu hu h=>?_
 rw[ZJ fnt]at h ⊢
 rw[Bool.not_eq_true']at h ⊢
 by_cases e:t=u
 ·rw[e];exact h
 ·exact T.trans _ _ _ (pa _ (q22 ∅)) (pa _ (q22 (W153 hu hn))) hk (q95 T sa pa ∅ ∅) h
theorem exB(T:Tot P lt)(sb:Srt lt b.toList)(pb:∀ x∈b.toList,P x){key:Keyed}(hk:P key)(n:Nat)(hn:j+n<=b.size):∃ k,k<=n /\ ∀ t,t<n->(if true=true then lt (kas_item b (j+t)) key else !(lt key (kas_item b (j+t))))=decide (t<k):=by
 refine bound _ n fun t u htu hu h=>?_
 rw[ZL rfl]at h ⊢
 by_cases e:t=u
 ·rw[e];exact h
 ·cases c:lt (kas_item b (j+t)) key with
  | true=>rfl
  | false=>
   have z:=T.trans _ _ _ hk (pb _ (q22 ∅)) (pb _ (q22 ∅)) c (q95 T sb pb (show j+t<j+u by lia) ∅)
   rw[h]at z
   cases z
theorem galA(T:Tot P lt)(sb:Srt lt b.toList)(sa:Srt lt a.toList)(pa:∀ x∈a.toList,P x)(pb:∀ x∈b.toList,P x)(m:AInv lt a b out i j)(hi:i<=a.size)(hj:j<b.size)(hk:k<=a.size-i)
  (h:∀ t,t<a.size-i->(if false=true then lt (kas_item a (i+t)) (kas_item b j)else !(lt (kas_item b j) (kas_item a (i+t))))=decide (t<k)) :
  AInv lt a b (out++a.extract i (i+k)) (i+k) j/\(i+k<a.size->lt (kas_item b j) (kas_item a (i+k))=true):=by
 constructor
 ·have z:=m.chunkA sa k (fun x hx y hy=>by
   obtain⟨i',g1,g2,g3,rfl⟩:=q342 hx
   obtain⟨j',h1,h2,rfl⟩:=q104 hy
   have q:=h (i'-i) (W112 g2 g1 hk)
   rw[ZJ fnt,show i+(i'-i)=i' by exact W10 g1,ZG (W98 g2 g1),Bool.not_eq_true']at q
   by_cases e:j=j'
   ·rw[<- e];exact q
   ·exact T.trans _ _ _ (pa _ (q22 g3)) (pb _ (q22 hj)) (pb _ (q22 h2)) q (q95 T sb pb (W16 h1 e) h2))
  have e:(out++a.extract i (i+k)).toList=out.toList++(a.toList.drop i).take k:=by
   rw[WR,q249 (W107 hk hi),show i+k-i=k by exact W11]
  show MInv lt _ _ (out++a.extract i (i+k)).toList _ _
  rw[e]
  exact z
 ·intro hlt
  have q:=h k (W116 hk hlt hi)
  rw[ZJ fnt,ZS ∅,Bool.not_eq_false']at q
  exact q
theorem galB(T:Tot P lt)(sb:Srt lt b.toList)(sa:Srt lt a.toList)(pa:∀ x∈a.toList,P x)(pb:∀ x∈b.toList,P x)(m:AInv lt a b out i j)(hi:i<a.size)(hj:j<=b.size)(hk:k<=b.size-j)
  (h:∀ t,t<b.size-j->(if true=true then lt (kas_item b (j+t)) (kas_item a i)else !(lt (kas_item a i) (kas_item b (j+t))))=decide (t<k)) :
  AInv lt a b (out++b.extract j (j+k)) i (j+k)/\(j+k<b.size->lt (kas_item b (j+k)) (kas_item a i)=false):=by
 constructor
 ·have z:=m.chunkB sb k (fun x hx y hy=>by
   obtain⟨j',g1,g2,g3,rfl⟩:=q342 hx
   obtain⟨i',h1,h2,rfl⟩:=q104 hy
   have q:=h (j'-j) (W112 g2 g1 hk)
   rw[ZL rfl,show j+(j'-j)=j' by exact W10 g1,ZG (W98 g2 g1)]at q
   have q1:=T.asym _ _ (pb _ (q22 g3)) (pa _ (q22 hi)) q
   by_cases e:i=i'
   ·rw[<- e];exact q1
   ·exact T.trans _ _ _ (pb _ (q22 g3)) (pa _ (q22 hi)) (pa _ (q22 h2)) q1 (q95 T sa pa (W16 h1 e) h2))
  have e:(out++b.extract j (j+k)).toList=out.toList++(b.toList.drop j).take k:=by
   rw[WR,q249 (W107 hk hj),show j+k-j=k by exact W11]
  show MInv lt _ _ (out++b.extract j (j+k)).toList _ _
  rw[e]
  exact z
 ·intro hlt
  have q:=h k (W116 hk hlt hj)
  rw[ZL rfl,ZS ∅]at q
  exact q
theorem doneB(sa:Srt lt a.toList)(m:AInv lt a b out i j)(h:j=b.size):FinA lt a b (out++a.extract i a.size++b.extract j b.size):=by
 have z:=MInv.doneB m sa (by rw[h];simp)
 show Fin2 lt _ _ (out++a.extract i a.size++b.extract j b.size).toList
 rw[WR,WR,q207,q207]
 exact z
theorem doneA(sb:Srt lt b.toList)(m:AInv lt a b out i j)(h:i=a.size):FinA lt a b (out++a.extract i a.size++b.extract j b.size):=by
 have z:=MInv.doneA m sb (by rw[h];simp)
 show Fin2 lt _ _ (out++a.extract i a.size++b.extract j b.size).toList
 rw[WR,WR,q207,q207]
 exact z
theorem lastA(sa:Srt lt a.toList)(sb:Srt lt b.toList)(m:AInv lt a b out i j)(h:i+1=a.size)(hl:∀ x∈b.toList,lt (kas_item a (a.size-1)) x=false):FinA lt a b (out++b.extract j b.size++a.extract i a.size):=by
 have z:=MInv.lastA m sa sb (fun x hx y hy=>by
  obtain⟨i',g1,g2,rfl⟩:=q104 hy
  have:i'=a.size-1:=∅
  rw[this]
  exact hl x hx)
 show Fin2 lt _ _ (out++b.extract j b.size++a.extract i a.size).toList
 rw[WR,WR,q207,q207]
 exact z
end
section
variable {prog:Program} {w:World} {A:Around} {E:VS} {κ:SortKind} {P:Keyed->Prop} {lt:Keyed->Keyed->Bool}
def Kp(st st':SortSt):Prop:=kindOf st'=kindOf st/\arrOf st'=arrOf st/\pendingOf st'=pendingOf st/\failedOf st'=failedOf st
theorem Kp.refl(st:SortSt):Kp st st:=⟨rfl,rfl,rfl,rfl⟩
theorem Kp.trans{a b c:SortSt}(h:Kp a b)(g:Kp b c):Kp a c:=⟨g.1.trans h.1,g.2.1.trans h.2.1,g.2.2.1.trans h.2.2.1,g.2.2.2.trans h.2.2.2⟩
theorem q576{g:Nat}{Q:Unit->SortSt->Shared->Prop}{st:SortSt}{s:Shared}(h:∀ st',Kp st st'->Q () st' s):kasC (model prog w) A E (setMG' g) Q st s:=by
 refine kasC_modify (h _ ⟨rfl,rfl,rfl,rfl⟩)
end
end TS
namespace TS
set_option autoImplicit false
open PySem PySem.W PyProof.Rows List
section
variable {prog:Program} {w:World} {A:Around} {E:VS} {κ:SortKind} {P:Keyed->Prop} {lt:Keyed->Keyed->Bool}
theorem q144{β:Type}{f:Nat->β->M2 (ForInStep β)}{Q:β->SortSt->Shared->Prop}{n:Nat}{b:β}{st:SortSt}{s:Shared}(I:Nat->β->SortSt->Shared->Prop)(R:β->SortSt->Shared->Prop)(h0:I 0 b st s)(he:∀ b st s,I n b st s->R b st s)
  (hs:∀ k x b st s,k<n->I k b st s -> ∀ N:ForInStep β->SortSt->Shared->Prop,(∀{b st s},R b st s->N (.done b) st s)->(∀{b st s},I (k+1) b st s->N (.yield b) st s)->kasC (model prog w) A E (f x b) N st s) (hR:∀ b st s,R b st s->Q b st s):kasC (model prog w) A E (forIn [0:n] b f) Q st s:=
 q85 I R h0 he (fun k x b st s hk hi=>hs k x b st s hk hi _ id id) hR
theorem c_J1{α:Type}(J:Unit->Nat->M2 α){c:Prop}{_d:Decidable c}{x y:Nat}{Q:α->SortSt->Shared->Prop}{st:SortSt}{s:Shared}(h:∀ g,kasC (model prog w) A E (J () g) Q st s):kasC (model prog w) A E (if c then J () x else J () y) Q st s:=by
 split <;> exact h _
theorem c_jp{α β γ:Type}(J:Unit->β->γ->M2 α){c:Prop}{_d:Decidable c}{x:M2 α}{o:β}{i:γ}{Q:α->SortSt->Shared->Prop}{st:SortSt}{s:Shared}(I:β->γ->Prop)(hJ:∀ o i,I o i->kasC (model prog w) A E (J () o i) Q st s)(hx:c->(∀ o i,I o i->kasC (model prog w) A E (J () o i) Q st s)->kasC (model prog w) A E x Q st s)(h0:¬ c->I o i):kasC (model prog w) A E (if c then x else J () o i) Q st s:=by
 by_cases h:c
 ·rw[ZL h]
  exact hx h hJ
 ·rw[ZJ h]
  exact hJ _ _ (h0 h)
theorem mergeLo_{s:Shared}(G:Good prog w A E κ P lt s)(T:Tot P lt){a b:Array Keyed}{Q:Array Keyed->SortSt->Shared->Prop}{st:SortSt}(hst:kindOf st=κ)(pa:∀ x∈a.toList,P x)(pb:∀ x∈b.toList,P x)(sa:Srt lt a.toList)(sb:Srt lt b.toList)
  (na:0<a.size) (nb:0<b.size) (h0:lt (kas_item b 0) (kas_item a 0)=true) (hl:∀ x∈b.toList,lt (kas_item a (a.size-1)) x=false) (h:∀ r st',Kp st st'->FinA lt a b r->Q r st' s):kasC (model prog w) A E (mergeLo' a b) Q st s:=by
 have m0:AInv lt a b (#[]:Array Keyed) 0 0:=MInv.zero _ _
 have m1:=pushB T sb sa pa pb m0 na nb h0
 refine ZN (kasC_lift (wpAny_rule ?_))
 refine ZN (q59 nb ?_)
 extract_lets -merge
 dsimp -zeta +zetaDelta only
 by_cases c1:1=b.size
 ·rw[ZL (by simp[<- c1])]
  exact ZR (h _ _ (Kp.refl _) (doneB sa m1 c1))
 rw[ZJ (by simpa using c1)]
 by_cases c2:0+1=a.size
 ·rw[ZL (by simp[<- c2])]
  exact ZR (h _ _ (Kp.refl _) (lastA sa sb m1 c2 hl))
 rw[ZJ (by simpa using c2)]
 refine ZN (kasC_get ?_)
 refine ZN (q144 (fun t r st' s'=>Kp st st'/\s'=s /\ ∃ out i j mg,r=(none,out,i,j,mg)/\AInv lt a b out i j/\i+1<a.size/\j<b.size/\t<=i+j)
  (fun r st' s'=>Kp st st'/\s'=s /\ ∃ res z,r=(some res,z)/\FinA lt a b res) ⟨Kp.refl _,rfl,_,_,_,_,rfl,m1,∅,(W222 nb na c2 c1),∅⟩ ?_ ?_ ?_)
 ·rintro r st' s' ⟨_,_,out,i,j,mg,_,_,h1,h2,h3⟩
  lia
 ·rintro t x r st' s' ht ⟨K1,rfl,out,i,j,mg,rfl,m,hi,hj,hij⟩ N dn yl
  dsimp -zeta only
  extract_lets -merge
  dsimp -zeta +zetaDelta only
  refine ZN (q144 (fun u r st₂ s₂=>st₂=st'/\s₂=s' /\ ∃ out₂ i₂ j₂ ac bc,r=(none,out₂,i₂,j₂,ac,bc)/\AInv lt a b out₂ i₂ j₂/\i₂+1<a.size/\j₂<b.size/\u+(i+j)<=i₂+j₂)
   (fun r st₂ s₂=>st₂=st'/\s₂=s'/\((∃ res z,r=(some res,z)/\FinA lt a b res) \/ ∃ out₂ i₂ j₂ ac bc,r=(none,out₂,i₂,j₂,ac,bc)/\AInv lt a b out₂ i₂ j₂/\i₂+1<a.size/\j₂<b.size/\i+j<=i₂+j₂))
   ⟨rfl,rfl,_,_,_,_,_,rfl,m,hi,hj,W126⟩ ?_ ?_ ?_)
  ·rintro r st₂ s₂ ⟨_,_,out₂,i₂,j₂,ac,bc,_,_,h1,h2,h3⟩
   lia
  ·rintro u x r st₂ s₂ hu ⟨rfl,rfl,out₂,i₂,j₂,ac,bc,rfl,m₂,hi₂,hj₂,hu₂⟩ N dn yl
   dsimp -zeta only
   extract_lets -merge
   dsimp -zeta +zetaDelta only
   refine ZN (q59 hj₂ (ZN (q59 (show i₂<a.size by exact W58 hi₂) ?_)))
   refine ZN (G _ _ _ _ (pb _ (q22 hj₂)) (pa _ (q22 (show i₂<a.size by lia))) (K1.1.trans hst) ?_)
   dsimp -zeta only
   cases hb:lt (kas_item b j₂) (kas_item a i₂) with
   | true=>
    rw[ZL rfl]
    refine ZN (q59 hj₂ ?_)
    have m₃:=pushB T sb sa pa pb m₂ ∅ hj₂ hb
    by_cases d1:j₂+1=b.size
    ·rw[ZL (by simp[<- d1])]
     exact ZR (dn ⟨rfl,rfl,.inl ⟨_,_,rfl,doneB sa m₃ d1⟩⟩)
    rw[ZJ (by simpa using d1)]
    by_cases d2:bc+1>=mg
    ·rw[ZL d2]
     exact ZR (dn ⟨rfl,rfl,.inr ⟨_,_,_,_,_,rfl,m₃,hi₂,∅,∅⟩⟩)
    ·rw[ZJ d2]
     exact ZR (yl ⟨rfl,rfl,_,_,_,_,_,rfl,m₃,hi₂,∅,∅⟩)
   | false=>
    rw[ZJ fnt]
    refine ZN (q59 (show i₂<a.size by lia) ?_)
    have m₃:=pushA T sb sa pa pb m₂ ∅ (fun _=>hb)
    by_cases d1:i₂+1+1=a.size
    ·rw[ZL (by simp[<- d1])]
     exact ZR (dn ⟨rfl,rfl,.inl ⟨_,_,rfl,lastA sa sb m₃ d1 hl⟩⟩)
    rw[ZJ (by simpa using d1)]
    by_cases d2:ac+1>=mg
    ·rw[ZL d2]
     exact ZR (dn ⟨rfl,rfl,.inr ⟨_,_,_,_,_,rfl,m₃,(W104 hi₂ d1),hj₂,∅⟩⟩)
    ·rw[ZJ d2]
     exact ZR (yl ⟨rfl,rfl,_,_,_,_,_,rfl,m₃,∅,hj₂,∅⟩)
  ·rintro r st₂ s₂ ⟨rfl,rfl,hr⟩
   rcases hr with ⟨res,z,rfl,hf⟩ | ⟨out₂,i₂,j₂,ac,bc,rfl,m₂,hi₂,hj₂,hu₂⟩
   ·exact ZR (dn ⟨K1,rfl,_,_,rfl,hf⟩)
   dsimp -zeta only
   extract_lets -merge
   dsimp -zeta +zetaDelta only
   refine ZN (kasC_lift (wpAny_rule ?_))
   refine ZN (q144 (fun u r st₃ s₃=>Kp st st₃/\s₃=s₂ /\ ∃ out₃ i₃ j₃ mg ac bc,r=(none,out₃,i₃,j₃,mg,ac,bc)/\AInv lt a b out₃ i₃ j₃/\i₃+1<a.size/\j₃<b.size/\u+(i₂+j₂)<=i₃+j₃)
    (fun r st₃ s₃=>Kp st st₃/\s₃=s₂/\((∃ res z,r=(some res,z)/\FinA lt a b res) \/ ∃ out₃ i₃ j₃ mg ac bc,r=(none,out₃,i₃,j₃,mg,ac,bc)/\AInv lt a b out₃ i₃ j₃/\i₃+1<a.size/\j₃<b.size/\i₂+j₂+1<=i₃+j₃))
    ⟨K1,rfl,_,_,_,_,_,_,rfl,m₂,hi₂,hj₂,W126⟩ ?_ ?_ ?_)
   ·rintro r st₃ s₃ ⟨_,_,out₃,i₃,j₃,mg,ac,bc,_,_,h1,h2,h3⟩
    lia
   ·rintro u x r st₃ s₃ hu ⟨K3,rfl,out₃,i₃,j₃,mg,ac,bc,rfl,m₃,hi₃,hj₃,hu₃⟩ N dn yl
    dsimp -zeta only
    extract_lets -merge +onlyGivenNames _ _ _ _ _ _ _ _ _ _ _
    dsimp -zeta +zetaDelta only
    extract_lets -underBinder jp
    refine c_J1 jp fun mgx=>?_
    dsimp -zeta only [jp]
    clear jp
    obtain⟨k,hk,hB⟩:=exA T sa pa (pb _ (q22 hj₃)) (a.size-i₃) (i:=i₃) ∅
    obtain⟨m₄,hk4⟩:=galA T sb sa pa pb m₃ ∅ hj₃ hk hB
    have key:∀ st₄,Kp st st₄->kindOf st₄=κ:=fun st₄ K4=>K4.1.trans hst
    refine ZN (q576 fun st₄ K4=>?_)
    have K5:=K3.trans K4
    refine ZN (q59 hj₃ ?_)
    refine ZN (q206 G (key _ K5) (pb _ (q22 hj₃)) (fun t ht=>pa _ (q22 ∅)) ∅ ∅ hk hB ?_)
    dsimp -zeta only
    extract_lets -merge +onlyGivenNames _
    dsimp -zeta +zetaDelta only
    extract_lets -underBinder jp
    refine c_jp jp (fun o i'=>AInv lt a b o i' j₃/\i'+1<a.size/\lt (kas_item b j₃) (kas_item a i')=true/\i₃<=i') ?_ ?_ ?_
    ·rintro o i' ⟨m₄,hi4,hb4,hle⟩
     dsimp -zeta only [jp]
     clear jp
     refine ZN (q59 hj₃ ?_)
     extract_lets -merge
     dsimp -zeta +zetaDelta only
     have m₅:=pushB T sb sa pa pb m₄ (W58 hi4) hj₃ hb4
     by_cases d3:j₃+1=b.size
     ·rw[ZL (by simp[<- d3])]
      exact ZR (dn ⟨K5,rfl,.inl ⟨_,_,rfl,doneB sa m₅ d3⟩⟩)
     rw[ZJ (by simpa using d3)]
     have hi5:i'<a.size:=∅
     refine ZN (q59 hi5 ?_)
     generalize o.push (kas_item b j₃)=o5 at m₅ ⊢
     have hj5:i₃+j₃<i'+(j₃+1)/\j₃+1<b.size:=∅
     generalize j₃+1=j5 at m₅ hj5 ⊢
     obtain⟨k2,hk2,hB2⟩:=exB T sb pb (pa _ (q22 hi5)) (b.size-j5) (j:=j5) ∅
     obtain⟨m₆,hk6⟩:=galB T sb sa pa pb m₅ hi5 ∅ hk2 hB2
     refine ZN (q206 G (key _ K5) (pa _ (q22 hi5)) (fun t ht=>pb _ (q22 ∅)) ∅ ∅ hk2 hB2 ?_)
     dsimp -zeta only
     extract_lets -merge +onlyGivenNames _
     dsimp -zeta +zetaDelta only
     extract_lets -underBinder jp
     refine c_jp jp (fun o j'=>AInv lt a b o i' j'/\j'<b.size/\lt (kas_item b j') (kas_item a i')=false/\j5<=j') ?_ ?_ ?_
     ·rintro o j' ⟨m₆,hj6,hb6,hl6⟩
      dsimp -zeta only [jp]
      clear jp
      refine ZN (q59 hi5 ?_)
      extract_lets -merge
      dsimp -zeta +zetaDelta only
      have m₇:=pushA T sb sa pa pb m₆ hi5 (fun _=>hb6)
      by_cases d5:i'+1+1=a.size
      ·rw[ZL (by simp[<- d5])]
       exact ZR (dn ⟨K5,rfl,.inl ⟨_,_,rfl,lastA sa sb m₇ d5 hl⟩⟩)
      rw[ZJ (by simpa using d5)]
      split
      ·exact ZR (dn ⟨K5,rfl,.inr ⟨_,_,_,_,_,_,rfl,m₇,(W104 hi4 d5),hj6,∅⟩⟩)
      ·exact ZR (yl ⟨K5,rfl,_,_,_,_,_,_,rfl,m₇,∅,hj6,∅⟩)
     ·intro hk20 J
      clear_value jp
      dsimp -zeta +zetaDelta only
      by_cases d4:j5+k2=b.size
      ·rw[ZL (by simp[<- d4])]
       exact ZR (dn ⟨K5,rfl,.inl ⟨_,_,rfl,doneB sa m₆ d4⟩⟩)
      rw[ZJ (by simpa using d4)]
      exact J _ _ ⟨m₆,∅,hk6 ∅,(W124 hk20)⟩
     ·intro hk20
      obtain rfl:k2=0:=(W111 hk20)
      exact⟨m₅,∅,hk6 ∅,ZF _⟩
    ·intro hk0 J
     clear_value jp
     dsimp -zeta +zetaDelta only
     by_cases d1:i₃+k+1=a.size
     ·rw[ZL (by simp[<- d1])]
      exact ZR (dn ⟨K5,rfl,.inl ⟨_,_,rfl,lastA sa sb m₄ d1 hl⟩⟩)
     rw[ZJ (by simpa using d1)]
     by_cases d2:i₃+k=a.size
     ·rw[ZL (by simp[<- d2])]
      exact ZR (dn ⟨K5,rfl,.inl ⟨_,_,rfl,doneA sb m₄ d2⟩⟩)
     rw[ZJ (by simpa using d2)]
     exact J _ _ ⟨m₄,∅,hk4 ∅,(W124 hk0)⟩
    ·intro hk0
     obtain rfl:k=0:=(W111 hk0)
     exact⟨m₃,hi₃,hk4 ∅,ZF _⟩
   ·rintro r st₃ s₃ ⟨K3,rfl,hr⟩
    rcases hr with ⟨res,z,rfl,hf⟩ | ⟨out₃,i₃,j₃,mg,ac,bc,rfl,m₃,hi₃,hj₃,hu₃⟩
    ·exact ZR (dn ⟨K3,rfl,_,_,rfl,hf⟩)
    dsimp -zeta only
    extract_lets -merge
    dsimp -zeta +zetaDelta only
    refine ZN (q576 fun st₄ K4=>?_)
    exact ZR (yl ⟨K3.trans K4,rfl,_,_,_,_,rfl,m₃,hi₃,hj₃,∅⟩)
 ·rintro r st' s' ⟨K1,rfl,res,z,rfl,hf⟩
  exact ZR (h _ _ K1 hf)
end
end TS
namespace TS
set_option autoImplicit false
open PySem PySem.W PyProof.Rows List
section
variable {P:Keyed->Prop} {lt:Keyed->Keyed->Bool}
structure HInv(lt:Keyed->Keyed->Bool)(al bl o:List Keyed)(i j:Nat):Prop where
 perm:o.Perm (al.drop i++bl.drop j)
 srt:Srt lt o
 ba:∀ x∈al.take i,∀ y∈o,lt y x=false
 bb:∀ x∈bl.take j,∀ y∈o,lt y x=false
theorem HInv.swap{al bl o:List Keyed}{i j:Nat}(m:HInv lt al bl o i j):HInv lt bl al o j i:=⟨m.perm.trans perm_append_comm,m.srt,m.bb,m.ba⟩
theorem HInv.chunkA{al bl o:List Keyed}{i j:Nat}(m:HInv lt al bl o i j)(ha:Srt lt al)(at_:Nat)(h:at_<=i)(hi:i<=al.length)(hc:∀ x∈bl.take j,∀ y∈(al.take i).drop at_,lt y x=false):HInv lt al bl ((al.take i).drop at_++o) at_ j:=by
 have hs:Srt lt (al.take i):=List.Pairwise.sublist (take_sublist i al) ha
 have e0:(al.take i).take at_=al.take at_:=by rw[take_take,YH h]
 have e1:al.take i=al.take at_++(al.take i).drop at_:=by rw[<- e0,YY]
 have hs2:=hs
 rw[e1]at hs2
 have hs':=List.pairwise_append.mp hs2
 have e2:al.drop at_=(al.take i).drop at_++al.drop i:=by
  have z:al=al.take i++al.drop i:=(YY i al).symm
  have z2:=congrArg (List.drop at_) z
  rw[drop_append_of_le_length (by rw[WL];lia)]at z2
  exact z2
 have sub1:∀ y∈(al.take i).drop at_,y∈al.take i:=fun y hy=>mem_of_mem_drop hy
 have sub2:∀ y∈al.take at_,y∈al.take i:=fun y hy=>by rw[e1];exact mem_append_left _ hy
 refine⟨?_,?_,fun x hx y hy=>?_,fun x hx y hy=>?_⟩
 ·rw[e2,YS]
  exact m.perm.append_left _
 ·exact List.pairwise_append.mpr ⟨hs'.2.1,m.srt,fun x hx y hy=>m.ba x (sub1 x hx) y hy⟩
 ·rcases List.mem_append.mp hy with h' | h'
  ·exact hs'.2.2 x hx y h'
  ·exact m.ba x (sub2 x hx) y h'
 ·rcases List.mem_append.mp hy with h' | h'
  ·exact hc x hx y h'
  ·exact m.bb x hx y h'
theorem HInv.chunkB{al bl o:List Keyed}{i j:Nat}(m:HInv lt al bl o i j)(hb:Srt lt bl)(at_:Nat)(h:at_<=j)(hj:j<=bl.length)(hc:∀ x∈al.take i,∀ y∈(bl.take j).drop at_,lt y x=false):HInv lt al bl ((bl.take j).drop at_++o) i at_:=
 (m.swap.chunkA hb at_ h hj hc).swap
theorem HInv.zero(al bl:List Keyed):HInv lt al bl [] al.length bl.length:=⟨by simp,.nil,fun x hx y hy=>absurd hy (by simp),fun x hx y hy=>absurd hy (by simp)⟩
theorem HInv.fin{al bl o:List Keyed}(m:HInv lt al bl o 0 0):Fin2 lt al bl o:=⟨by simpa using m.perm,m.srt⟩
variable{a b out:Array Keyed}{i j k:Nat}
abbrev BInv(lt:Keyed->Keyed->Bool)(a b out:Array Keyed)(i j:Nat):Prop:=HInv lt a.toList b.toList out.reverse.toList i j
theorem ext0(h:i<=a.size):(a.extract k i).toList=(a.toList.take i).drop k:=by
 rw[q249 h,drop_take]
theorem q273{x:Keyed}(h:x∈a.toList.take i):∃ t,t<i/\t<a.size/\x=kas_item a t:=by
 obtain⟨m,hm⟩:=mem_iff_getElem?.mp h
 rw[getElem?_take]at hm
 by_cases c:m<i
 ·rw[ZL c]at hm
  have hl:=(List.getElem?_eq_some_iff.mp hm).1
  have hl':m<a.size:=by simpa using hl
  exists m,c,hl'
  rw[q60 hl']at hm
  exact(Option.some.inj hm).symm
 ·rw[ZJ c]at hm
  cases hm
theorem q577{x:Keyed}(h:x∈(a.toList.take i).drop k):∃ t,k<=t/\t<i/\t<a.size/\x=kas_item a t:=by
 obtain⟨m,hm⟩:=mem_iff_getElem?.mp h
 rw[getElem?_drop,getElem?_take]at hm
 by_cases c:k+m<i
 ·rw[ZL c]at hm
  have hl:=(List.getElem?_eq_some_iff.mp hm).1
  have hl':k+m<a.size:=by simpa using hl
  exists k+m,W17,c,hl'
  rw[q60 hl']at hm
  exact(Option.some.inj hm).symm
 ·rw[ZJ c]at hm
  cases hm
theorem one_last(h0:0<i)(h:i<=a.size):(a.toList.take i).drop (i-1)=[kas_item a (i-1)]:=by
 obtain⟨t,rfl⟩:∃ t,i=t+1:=⟨i-1,∅⟩
 have e:=q60 (a:=a) (i:=t) (W174 h)
 rw[Nat.add_sub_cancel,WK,e,drop_append_of_le_length (by simp;lia),drop_of_length_le (by rw[WL];lia)]
 rfl
theorem hgalA(T:Tot P lt)(sb:Srt lt b.toList)(sa:Srt lt a.toList)(pa:∀ x∈a.toList,P x)(pb:∀ x∈b.toList,P x)(m:BInv lt a b out i j)(hi:i<=a.size)(hj0:0<j)(hj:j<=b.size)(hk:k<=i)
  (h:∀ t,k<=t->t<i->lt (kas_item b (j-1)) (kas_item a t)=true):BInv lt a b (out++(a.extract k i).reverse) k j:=by
 have z:=m.chunkA sa k hk (by simpa using hi) (fun x hx y hy=>by
  obtain⟨j',h1,h2,rfl⟩:=q273 hx
  obtain⟨t,g1,g2,g3,rfl⟩:=q577 hy
  have q:=T.asym _ _ (pb _ (q22 (W106 hj0 hj))) (pa _ (q22 g3)) (h t g1 g2)
  by_cases e:j'=j-1
  ·rw[e];exact q
  ·exact T.trans _ _ _ (pb _ (q22 h2)) (pb _ (q22 ∅)) (pa _ (q22 g3)) (q95 T sb pb (W24 hj0 h1 e) ∅) q)
 have e:(out++(a.extract k i).reverse).reverse.toList=(a.toList.take i).drop k++out.reverse.toList:=by
  rw[<- ext0 hi]
  simp
 show HInv lt _ _ (out++(a.extract k i).reverse).reverse.toList _ _
 rw[e]
 exact z
theorem hgalB(T:Tot P lt)(sb:Srt lt b.toList)(sa:Srt lt a.toList)(pa:∀ x∈a.toList,P x)(pb:∀ x∈b.toList,P x)(m:BInv lt a b out i j)(hi0:0<i)(hi:i<=a.size)(hj:j<=b.size)(hk:k<=j)
  (h:∀ t,k<=t->t<j->lt (kas_item b t) (kas_item a (i-1))=false):BInv lt a b (out++(b.extract k j).reverse) i k:=by
 have z:=m.chunkB sb k hk (by simpa using hj) (fun x hx y hy=>by
  obtain⟨i',h1,h2,rfl⟩:=q273 hx
  obtain⟨t,g1,g2,g3,rfl⟩:=q577 hy
  have q:=h t g1 g2
  by_cases e:i'=i-1
  ·rw[e];exact q
  ·exact T.trans _ _ _ (pa _ (q22 h2)) (pa _ (q22 (W106 hi0 hi))) (pb _ (q22 g3)) (q95 T sa pa (W24 hi0 h1 e) ∅) q)
 have e:(out++(b.extract k j).reverse).reverse.toList=(b.toList.take j).drop k++out.reverse.toList:=by
  rw[<- ext0 hj]
  simp
 show HInv lt _ _ (out++(b.extract k j).reverse).reverse.toList _ _
 rw[e]
 exact z
theorem q578(h0:0<i)(h:i<=a.size):out++(a.extract (i-1) i).reverse=out.push (kas_item a (i-1)):=by
 apply Array.toList_inj.mp
 rw[WR,Array.toList_reverse,ext0 h,one_last h0 h]
 simp
theorem q719(T:Tot P lt)(sb:Srt lt b.toList)(sa:Srt lt a.toList)(pa:∀ x∈a.toList,P x)(pb:∀ x∈b.toList,P x)(m:BInv lt a b out i j)(hi0:0<i)(hi:i<=a.size)(hj0:0<j)(hj:j<=b.size)(h:lt (kas_item b (j-1)) (kas_item a (i-1))=true):BInv lt a b (out.push (kas_item a (i-1))) (i-1) j:=by
 rw[<- q578 hi0 hi]
 exact hgalA T sb sa pa pb m hi hj0 hj (W37 hi0) fun t h1 h2=>by
  have:t=i-1:=(W82 hi0 h2 h1)
  rw[this];exact h
theorem hpushB(T:Tot P lt)(sb:Srt lt b.toList)(sa:Srt lt a.toList)(pa:∀ x∈a.toList,P x)(pb:∀ x∈b.toList,P x)(m:BInv lt a b out i j)(hi0:0<i)(hi:i<=a.size)(hj0:0<j)(hj:j<=b.size)(h:lt (kas_item b (j-1)) (kas_item a (i-1))=false):BInv lt a b (out.push (kas_item b (j-1))) i (j-1):=by
 rw[<- q578 hj0 hj]
 exact hgalB T sb sa pa pb m hi0 hi hj (W37 hj0) fun t h1 h2=>by
  have:t=j-1:=(W82 hj0 h2 h1)
  rw[this];exact h
theorem q579(sb:Srt lt b.toList)(m:BInv lt a b out i j)(hj:j<=b.size)(h:i=0):FinA lt a b (a.extract 0 i++b.extract 0 j++out.reverse):=by
 subst h
 have z:=(m.chunkB sb 0 (ZX _) (by simpa using hj) (fun x hx=>absurd hx (by simp))).fin
 show Fin2 lt _ _ (a.extract 0 0++b.extract 0 j++out.reverse).toList
 rw[WR,WR,ext0 hj,ext0 (ZX _)]
 simpa using z
theorem hdoneB(sa:Srt lt a.toList)(m:BInv lt a b out i j)(hi:i<=a.size)(h:j=0):FinA lt a b (a.extract 0 i++b.extract 0 j++out.reverse):=by
 subst h
 have z:=(m.chunkA sa 0 (ZX _) (by simpa using hi) (fun x hx=>absurd hx (by simp))).fin
 show Fin2 lt _ _ (a.extract 0 i++b.extract 0 0++out.reverse).toList
 rw[WR,WR,ext0 hi,ext0 (ZX _)]
 simpa using z
theorem q580(sa:Srt lt a.toList)(sb:Srt lt b.toList)(m:BInv lt a b out i j)(hi:i<=a.size)(hj:j<=b.size)(h:j=1)(hf:∀ x∈a.toList,lt x (kas_item b 0)=false):FinA lt a b (b.extract 0 j++a.extract 0 i++out.reverse):=by
 subst h
 have z:=m.chunkA sa 0 (ZX _) (by simpa using hi) (fun x hx y hy=>by
  obtain⟨t,h1,h2,rfl⟩:=q273 hx
  have:t=0:=∅
  subst this
  exact hf y (YG (mem_of_mem_drop hy)))
 have z2:=(z.chunkB sb 0 (ZX _) (by simpa using hj) (fun x hx=>absurd hx (by simp))).fin
 show Fin2 lt _ _ (b.extract 0 1++a.extract 0 i++out.reverse).toList
 rw[WR,WR,ext0 hi,ext0 hj]
 simpa using z2
end
section
variable {prog:Program} {w:World} {A:Around} {E:VS} {κ:SortKind} {P:Keyed->Prop} {lt:Keyed->Keyed->Bool}
theorem mergeHi_{s:Shared}(G:Good prog w A E κ P lt s)(T:Tot P lt){a b:Array Keyed}{Q:Array Keyed->SortSt->Shared->Prop}{st:SortSt}(hst:kindOf st=κ)(pa:∀ x∈a.toList,P x)(pb:∀ x∈b.toList,P x)(sa:Srt lt a.toList)(sb:Srt lt b.toList)
  (na:0<a.size) (nb:0<b.size) (hl:lt (kas_item b (b.size-1)) (kas_item a (a.size-1))=true) (hf:∀ x∈a.toList,lt x (kas_item b 0)=false) (h:∀ r st',Kp st st'->FinA lt a b r->Q r st' s):kasC (model prog w) A E (mergeHi' a b) Q st s:=by
 have m0:BInv lt a b (#[]:Array Keyed) a.size b.size:=by
  have z:=HInv.zero (lt:=lt) a.toList b.toList
  simpa [BInv] using z
 have m1:=q719 T sb sa pa pb m0 na (ZF _) nb (ZF _) hl
 refine ZN (kasC_lift (wpAny_rule ?_))
 refine ZN (q59 (show a.size-1<a.size by exact W15 na) ?_)
 extract_lets -merge
 dsimp -zeta +zetaDelta only
 by_cases c1:a.size-1=0
 ·rw[ZL (by simp[c1])]
  exact ZR (h _ _ (Kp.refl _) (q579 sb m1 (ZF _) c1))
 rw[ZJ (by simpa using c1)]
 by_cases c2:b.size=1
 ·rw[ZL (by simp[c2])]
  exact ZR (h _ _ (Kp.refl _) (q580 sa sb m1 (W37 na) (ZF _) c2 hf))
 rw[ZJ (by simpa using c2)]
 refine ZN (kasC_get ?_)
 refine ZN (q144 (fun t r st' s'=>Kp st st'/\s'=s /\ ∃ i j out mg,r=(none,i,j,out,mg)/\BInv lt a b out i j/\1<=i/\i<=a.size/\2<=j/\j<=b.size/\t+i+j<=a.size+b.size)
  (fun r st' s'=>Kp st st'/\s'=s /\ ∃ res z,r=(some res,z)/\FinA lt a b res) ⟨Kp.refl _,rfl,_,_,_,_,rfl,m1,(W216 nb na c2 c1),∅,∅,W74,∅⟩ ?_ ?_ ?_)
 ·rintro r st' s' ⟨_,_,i,j,out,mg,_,_,h1,h2,h3,h4,h5⟩
  lia
 ·rintro t x r st' s' ht ⟨K1,rfl,i,j,out,mg,rfl,m,hi0,hi,hj0,hj,hij⟩ N dn yl
  dsimp -zeta only
  extract_lets -merge
  dsimp -zeta +zetaDelta only
  refine ZN (q144 (fun u r st₂ s₂=>st₂=st'/\s₂=s' /\ ∃ i₂ j₂ out₂ ac bc,r=(none,i₂,j₂,out₂,ac,bc)/\BInv lt a b out₂ i₂ j₂/\1<=i₂/\i₂<=a.size/\2<=j₂/\j₂<=b.size/\u+i₂+j₂<=i+j)
   (fun r st₂ s₂=>st₂=st'/\s₂=s'/\((∃ res z,r=(some res,z)/\FinA lt a b res) \/ ∃ i₂ j₂ out₂ ac bc,r=(none,i₂,j₂,out₂,ac,bc)/\BInv lt a b out₂ i₂ j₂/\1<=i₂/\i₂<=a.size/\2<=j₂/\j₂<=b.size/\i₂+j₂<=i+j))
   ⟨rfl,rfl,_,_,_,_,_,rfl,m,hi0,hi,hj0,hj,W102⟩ ?_ ?_ ?_)
  ·rintro r st₂ s₂ ⟨_,_,i₂,j₂,out₂,ac,bc,_,_,h1,h2,h3,h4,h5⟩
   lia
  ·rintro u x r st₂ s₂ hu ⟨rfl,rfl,i₂,j₂,out₂,ac,bc,rfl,m₂,hi₂0,hi₂,hj₂0,hj₂,hu₂⟩ N dn yl
   dsimp -zeta only
   extract_lets -merge
   dsimp -zeta +zetaDelta only
   have ja:j₂-1<b.size:=(W108 hj₂0 hj₂)
   have ia:i₂-1<a.size:=∅
   refine ZN (q59 ja (ZN (q59 ia ?_)))
   refine ZN (G _ _ _ _ (pb _ (q22 ja)) (pa _ (q22 ia)) (K1.1.trans hst) ?_)
   dsimp -zeta only
   cases hb:lt (kas_item b (j₂-1)) (kas_item a (i₂-1)) with
   | true=>
    rw[ZL rfl]
    refine ZN (q59 ia ?_)
    have m₃:=q719 T sb sa pa pb m₂ (W177 hi₂0) hi₂ (W62 hj₂0) hj₂ hb
    by_cases d1:i₂-1=0
    ·rw[ZL (by simp[d1])]
     exact ZR (dn ⟨rfl,rfl,.inl ⟨_,_,rfl,q579 sb m₃ hj₂ d1⟩⟩)
    rw[ZJ (by simpa using d1)]
    by_cases d2:ac+1>=mg
    ·rw[ZL d2]
     exact ZR (dn ⟨rfl,rfl,.inr ⟨_,_,_,_,_,rfl,m₃,(W120 d1),(W55 ia),∅,∅,∅⟩⟩)
    ·rw[ZJ d2]
     exact ZR (yl ⟨rfl,rfl,_,_,_,_,_,rfl,m₃,∅,∅,∅,∅,∅⟩)
   | false=>
    rw[ZJ fnt]
    refine ZN (q59 ja ?_)
    have m₃:=hpushB T sb sa pa pb m₂ ∅ hi₂ ∅ hj₂ hb
    by_cases d1:j₂-1=1
    ·rw[ZL (by simp[d1])]
     exact ZR (dn ⟨rfl,rfl,.inl ⟨_,_,rfl,q580 sa sb m₃ hi₂ (W149 ja d1) d1 hf⟩⟩)
    rw[ZJ (by simpa using d1)]
    by_cases d2:bc+1>=mg
    ·rw[ZL d2]
     exact ZR (dn ⟨rfl,rfl,.inr ⟨_,_,_,_,_,rfl,m₃,∅,∅,(W214 hi₂0 hj₂0 d1),(W55 ja),(W77 hi₂0 hj₂0 hu₂ d1)⟩⟩)
    ·rw[ZJ d2]
     exact ZR (yl ⟨rfl,rfl,_,_,_,_,_,rfl,m₃,∅,∅,∅,∅,(W71 hi₂0 hj₂0 hu₂ d1)⟩)
  ·rintro r st₂ s₂ ⟨rfl,rfl,hr⟩
   rcases hr with ⟨res,z,rfl,hfin⟩ | ⟨i₂,j₂,out₂,ac,bc,rfl,m₂,hi₂0,hi₂,hj₂0,hj₂,hu₂⟩
   ·exact ZR (dn ⟨K1,rfl,_,_,rfl,hfin⟩)
   dsimp -zeta only
   extract_lets -merge
   dsimp -zeta +zetaDelta only
   refine ZN (kasC_lift (wpAny_rule ?_))
   refine ZN (q144 (fun u r st₃ s₃=>Kp st st₃/\s₃=s₂ /\ ∃ i₃ j₃ out₃ mg ac bc,r=(none,i₃,j₃,out₃,mg,ac,bc)/\BInv lt a b out₃ i₃ j₃/\1<=i₃/\i₃<=a.size/\2<=j₃/\j₃<=b.size/\u+i₃+j₃<=i₂+j₂)
    (fun r st₃ s₃=>Kp st st₃/\s₃=s₂/\((∃ res z,r=(some res,z)/\FinA lt a b res) \/ ∃ i₃ j₃ out₃ mg ac bc,r=(none,i₃,j₃,out₃,mg,ac,bc)/\BInv lt a b out₃ i₃ j₃/\1<=i₃/\i₃<=a.size/\2<=j₃/\j₃<=b.size/\1+i₃+j₃<=i₂+j₂))
    ⟨K1,rfl,_,_,_,_,_,_,rfl,m₂,hi₂0,hi₂,hj₂0,hj₂,W102⟩ ?_ ?_ ?_)
   ·rintro r st₃ s₃ ⟨_,_,i₃,j₃,out₃,mg,ac,bc,_,_,h1,h2,h3,h4,h5⟩
    lia
   ·rintro u x r st₃ s₃ hu ⟨K3,rfl,i₃,j₃,out₃,mg,ac,bc,rfl,m₃,hi₃0,hi₃,hj₃0,hj₃,hu₃⟩ N dn yl
    dsimp -zeta only
    extract_lets -merge +onlyGivenNames _ _ _ _ _ _ _ _ _ _ _
    dsimp -zeta +zetaDelta only
    extract_lets -underBinder jp
    refine c_J1 jp fun mgx=>?_
    dsimp -zeta only [jp]
    clear jp
    have ja:j₃-1<b.size:=(W108 hj₃0 hj₃)
    obtain⟨k,hk,hB⟩:=exA T sa pa (pb _ (q22 ja)) i₃ (i:=0) (W140 hi₃)
    have gA:∀ t,t<k->lt (kas_item b (j₃-1)) (kas_item a t)=false:=fun t ht=>by
     have q:=hB t (W34 ht hk)
     rw[ZJ fnt,YL,ZG ht,Bool.not_eq_true']at q
     exact q
    have gB:∀ t,k<=t->t<i₃->lt (kas_item b (j₃-1)) (kas_item a t)=true:=fun t h1 h2=>by
     have q:=hB t h2
     rw[ZJ fnt,YL,ZS (W43 h1),Bool.not_eq_false']at q
     exact q
    have m₄:=hgalA T sb sa pa pb m₃ hi₃ (W62 hj₃0) hj₃ hk gB
    have key:∀ st₄,Kp st st₄->kindOf st₄=κ:=fun st₄ K4=>K4.1.trans hst
    refine ZN (q576 fun st₄ K4=>?_)
    have K5:=K3.trans K4
    refine ZN (q59 ja ?_)
    refine ZN (q206 G (key _ K5) (pb _ (q22 ja)) (fun t ht=>pa _ (q22 ∅)) (W140 hi₃) ∅ hk hB ?_)
    dsimp -zeta only
    extract_lets -merge +onlyGivenNames _
    dsimp -zeta +zetaDelta only
    extract_lets -underBinder jp
    refine c_jp jp (fun i' o=>BInv lt a b o i' j₃/\0<i'/\i'<=i₃/\lt (kas_item b (j₃-1)) (kas_item a (i'-1))=false) ?_ ?_ ?_
    ·rintro i' o ⟨m₄,hi4,hi4',hb4⟩
     dsimp -zeta only [jp]
     clear jp
     refine ZN (q59 ja ?_)
     extract_lets -merge
     dsimp -zeta +zetaDelta only
     have m₅:=hpushB T sb sa pa pb m₄ hi4 (W83 hi4' hi₃) (W62 hj₃0) ∅ hb4
     by_cases d3:j₃-1=1
     ·rw[ZL (by simp[d3])]
      exact ZR (dn ⟨K5,rfl,.inl ⟨_,_,rfl,q580 sa sb m₅ ∅ (W149 ja d3) d3 hf⟩⟩)
     rw[ZJ (by simpa using d3)]
     have hi5:i'-1<a.size:=∅
     refine ZN (q59 hi5 ?_)
     generalize o.push (kas_item b (j₃-1))=o5 at m₅ ⊢
     have hj5:2<=j₃-1/\j₃-1<j₃:=(W161 hi4 hj₃0 d3)
     generalize j₃-1=j5 at m₅ hj5 ⊢
     obtain⟨k2,hk2,hB2⟩:=exB T sb pb (pa _ (q22 hi5)) j5 (j:=0) (W131 hj5 hj₃)
     have gA2:∀ t,t<k2->lt (kas_item b t) (kas_item a (i'-1))=true:=fun t ht=>by
      have q:=hB2 t (W34 ht hk2)
      rw[ZL rfl,YL,ZG ht]at q
      exact q
     have gB2:∀ t,k2<=t->t<j5->lt (kas_item b t) (kas_item a (i'-1))=false:=fun t h1 h2=>by
      have q:=hB2 t h2
      rw[ZL rfl,YL,ZS (W43 h1)]at q
      exact q
     refine ZN (q206 G (key _ K5) (pa _ (q22 hi5)) (fun t ht=>pb _ (q22 ∅)) (W131 hj5 hj₃) ∅ hk2 hB2 ?_)
     dsimp -zeta only
     extract_lets -merge +onlyGivenNames _
     dsimp -zeta +zetaDelta only
     extract_lets -underBinder jp
     refine c_jp jp (fun j' o=>BInv lt a b o i' j'/\2<=j'/\j'<=j5/\lt (kas_item b (j'-1)) (kas_item a (i'-1))=true) ?_ ?_ ?_
     ·rintro j' o ⟨m₆,hj6,hj6',hb6⟩
      dsimp -zeta only [jp]
      clear jp
      refine ZN (q59 hi5 ?_)
      extract_lets -merge
      dsimp -zeta +zetaDelta only
      have m₇:=q719 T sb sa pa pb m₆ hi4 (W83 hi4' hi₃) (W62 hj6) ∅ hb6
      by_cases d6:i'-1=0
      ·rw[ZL (by simp[d6])]
       exact ZR (dn ⟨K5,rfl,.inl ⟨_,_,rfl,q579 sb m₇ ∅ d6⟩⟩)
      rw[ZJ (by simpa using d6)]
      split
      ·exact ZR (dn ⟨K5,rfl,.inr ⟨_,_,_,_,_,_,rfl,m₇,(W120 d6),(W55 hi5),∅,∅,∅⟩⟩)
      ·exact ZR (yl ⟨K5,rfl,_,_,_,_,_,_,rfl,m₇,∅,∅,∅,∅,∅⟩)
     ·intro hz2 J
      clear_value jp
      dsimp -zeta +zetaDelta only
      have m₆:=hgalB T sb sa pa pb m₅ hi4 (W83 hi4' hi₃) ∅ (show k2<=j5 by lia) gB2
      by_cases d4:k2=1
      ·rw[ZL (by simp[d4])]
       exact ZR (dn ⟨K5,rfl,.inl ⟨_,_,rfl,q580 sa sb m₆ ∅ ∅ d4 hf⟩⟩)
      rw[ZJ (by simpa using d4)]
      by_cases d5:k2=0
      ·rw[ZL (by simp[d5])]
       exact ZR (dn ⟨K5,rfl,.inl ⟨_,_,rfl,hdoneB sa m₆ ∅ d5⟩⟩)
      rw[ZJ (by simpa using d5)]
      exact J _ _ ⟨m₆,∅,∅,gA2 _ (W38 d5)⟩
     ·intro hz2
      exact⟨m₅,∅,ZF _,gA2 _ ∅⟩
    ·intro hz J
     clear_value jp
     dsimp -zeta +zetaDelta only
     by_cases d1:k=0
     ·rw[ZL (by simp[d1])]
      exact ZR (dn ⟨K5,rfl,.inl ⟨_,_,rfl,q579 sb m₄ hj₃ d1⟩⟩)
     rw[ZJ (by simpa using d1)]
     exact J _ _ ⟨m₄,(W115 d1),∅,gA _ (W38 d1)⟩
    ·intro hz
     exact⟨m₃,(W177 hi₃0),ZF _,gA _ ∅⟩
   ·rintro r st₃ s₃ ⟨K3,rfl,hr⟩
    rcases hr with ⟨res,z,rfl,hfin⟩ | ⟨i₃,j₃,out₃,mg,ac,bc,rfl,m₃,hi₃0,hi₃,hj₃0,hj₃,hu₃⟩
    ·exact ZR (dn ⟨K3,rfl,_,_,rfl,hfin⟩)
    dsimp -zeta only
    extract_lets -merge
    dsimp -zeta +zetaDelta only
    refine ZN (q576 fun st₄ K4=>?_)
    exact ZR (yl ⟨K3.trans K4,rfl,_,_,_,_,rfl,m₃,hi₃0,hi₃,hj₃0,hj₃,∅⟩)
 ·rintro r st' s' ⟨K1,rfl,res,z,rfl,hfin⟩
  exact ZR (h _ _ K1 hfin)
end
end TS
namespace TS
set_option autoImplicit false
open PySem PySem.W PyProof.Rows List
section
variable {prog:Program} {w:World} {A:Around} {E:VS}
theorem c_upto{β:Type}{f:Nat->β->M2 (ForInStep β)}{R:β->SortSt->Shared->Prop}(I:Nat->β->SortSt->Shared->Prop) :
  ∀(m a:Nat)(b:β)(st:SortSt)(s:Shared),I a b st s->(∀ b st s,I (a+m) b st s->R b st s) ->
  (∀ k b st s,a<=k->k<a+m->I k b st s->kasC (model prog w) A E (f k b) (fun r st' s'=>match r with | .done b'=>R b' st' s' | .yield b'=>I (k+1) b' st' s') st s) ->
  kasC (model prog w) A E (forIn (List.range' a m) b f) R st s
 | 0,a,b,st,s,hi,hq,_=>kasC_nil (hq b st s hi)
 | m+1,a,b,st,s,hi,hq,hs=>by
  rw[range'_succ]
  refine kasC_cons (WX (hs a b st s (ZF _) W119 hi) (fun r s' h=>?_) fun _ _ e=>e)
  obtain⟨r,st'⟩:=r
  cases r with
  | done b'=>exact h
  | yield b'=>exact c_upto I m (a+1) b' st' s' h (fun b st s hb=>hq b st s (by rw[show a+(m+1)=a+1+m by lia];exact hb)) (fun k b st s h1 h2 h3=>hs k b st s (W21 h1) (W19 h2) h3)
theorem q176{β:Type}{f:Nat->β->M2 (ForInStep β)}{Q:β->SortSt->Shared->Prop}{a n:Nat}{b:β}{st:SortSt}{s:Shared}(han:a<=n)(I:Nat->β->SortSt->Shared->Prop)(R:β->SortSt->Shared->Prop)(h0:I a b st s)(he:∀ b st s,I n b st s->R b st s)
  (hs:∀ k b st s,a<=k->k<n->I k b st s->kasC (model prog w) A E (f k b) (fun r st' s'=>match r with | .done b'=>R b' st' s' | .yield b'=>I (k+1) b' st' s') st s) (hR:∀ b st s,R b st s->Q b st s):kasC (model prog w) A E (forIn [a:n] b f) Q st s:=by
 refine kasC_range (WX (c_upto I (n-a) a b st s h0 (fun b st s h=>he b st s (by rw[show a+(n-a)=n by exact W10 han]at h;exact h)) (fun k b st s h1 h2 h3=>hs k b st s h1 ∅ h3)) (fun r s' h=>hR _ _ _ h) fun _ _ e=>e)
end
section
variable {P:Keyed->Prop} {lt:Keyed->Keyed->Bool}
theorem q99{xs ys:Array Keyed}{i j:Nat}(h:xs[i]? = ys[j]?):kas_item xs i=kas_item ys j:=by
 unfold kas_item
 rw[Array.getD_eq_getD_getElem?,Array.getD_eq_getD_getElem?,h]
theorem q274{xs:Array Keyed}{src d:Nat}(hs:src<xs.size)(hd:d<=src)(t:Nat):kas_item (bubble xs src d) t=if t=src-d then kas_item xs src else if src-d<t/\t<=src then kas_item xs (t-1)else kas_item xs t:=by
 have e:=getElem?_bubble hs d hd t
 by_cases h1:t=src-d
 ·rw[ZL h1]at e ⊢;exact q99 e
 ·rw[ZJ h1]at e ⊢
  by_cases h2:src-d<t/\t<=src
  ·rw[ZL h2]at e ⊢;exact q99 e
  ·rw[ZJ h2]at e ⊢;exact q99 e
theorem q168{xs:Array Keyed}{i j:Nat}(hj:j<=xs.size)(t:Nat):kas_item (mirror xs i j ((j-i)/2)) t=if i<=t/\t<j then kas_item xs (i+j-1-t)else kas_item xs t:=by
 have e:=getElem?_mirror_all (i:=i) hj t
 by_cases h1:i<=t/\t<j
 ·rw[ZL h1]at e ⊢;exact q99 e
 ·rw[ZJ h1]at e ⊢;exact q99 e
structure Loc(xs ys:Array Keyed)(lo hi:Nat):Prop where
 size:ys.size=xs.size
 perm:ys.Perm xs
 out:∀ t,t<lo\/hi<=t->ys[t]? = xs[t]?
theorem Loc.refl(xs:Array Keyed)(lo hi:Nat):Loc xs xs lo hi:=⟨rfl,Array.Perm.refl _,fun _ _=>rfl⟩
theorem Loc.trans{xs ys zs:Array Keyed}{lo hi:Nat}(a:Loc xs ys lo hi)(b:Loc ys zs lo hi):Loc xs zs lo hi:=⟨b.size.trans a.size,b.perm.trans a.perm,fun t ht=>(b.out t ht).trans (a.out t ht)⟩
theorem Loc.wide{xs ys:Array Keyed}{lo hi lo' hi':Nat}(a:Loc xs ys lo hi)(h1:lo'<=lo)(h2:hi<=hi'):Loc xs ys lo' hi':=⟨a.size,a.perm,fun t ht=>a.out t ∅⟩
theorem Loc.good{xs ys:Array Keyed}{lo hi:Nat}(a:Loc xs ys lo hi)(h:∀ x∈xs.toList,P x):∀ x∈ys.toList,P x:=fun x hx=>h x ((Array.perm_iff_toList_perm.mp a.perm).mem_iff.mp hx)
theorem q648{xs:Array Keyed}{src d:Nat}(hs:src<xs.size)(hd:d<=src):Loc xs (bubble xs src d) (src-d) (src+1):=⟨bubble_size _ _ _,bubble_perm _ _ _,fun t ht=>by
 rw[getElem?_bubble hs d hd t]
 by_cases h1:t=src-d
 ·lia
 ·rw[ZJ h1,ZJ ∅]⟩
theorem q78{xs:Array Keyed}{i j:Nat}(hj:j<=xs.size):Loc xs (mirror xs i j ((j-i)/2)) i j:=⟨mirror_size _ _ _ _,mirror_perm _ _ _ _,fun t ht=>by
 rw[getElem?_mirror_all hj t,ZJ ∅]⟩
def Asc(lt:Keyed->Keyed->Bool)(xs:Array Keyed)(lo n:Nat):Prop:=∀ p q,p<q->q<n->lt (kas_item xs (lo+q)) (kas_item xs (lo+p))=false
def Su(st st':SortSt):Prop:=kindOf st'=kindOf st/\pendingOf st'=pendingOf st/\failedOf st'=failedOf st
theorem Su.refl(st:SortSt):Su st st:=⟨rfl,rfl,rfl⟩
theorem Su.trans{a b c:SortSt}(h:Su a b)(g:Su b c):Su a c:=⟨g.1.trans h.1,g.2.1.trans h.2.1,g.2.2.trans h.2.2⟩
theorem ins_asc(T:Tot P lt){xs:Array Keyed}{lo k l:Nat}(hp:∀ x∈xs.toList,P x)(hz:lo+k<xs.size)(hl:l<=k)(hs:Asc lt xs lo k)(h1:∀ t,t<l->lt (kas_item xs (lo+k)) (kas_item xs (lo+t))=false)(h2:∀ t,l<=t->t<k->lt (kas_item xs (lo+k)) (kas_item xs (lo+t))=true) :
  Asc lt (bubble xs (lo+k) (lo+k-(lo+l))) lo (k+1):=by
 have pm:∀ t,t<=k->P (kas_item xs (lo+t)):=fun t ht=>hp _ (q22 (W151 ht hz))
 intro p q hpq hq
 rw[q274 hz (W59 hl),q274 hz ∅]
 by_cases q1:q=l
 ·rw[ZL ∅,ZJ ∅,ZJ ∅]
  exact h1 p ∅
 ·rw[ZJ (show ¬ lo+q=lo+k-(lo+k-(lo+l)) by lia)]
  by_cases q2:l<q
  ·rw[ZL (show lo+k-(lo+k-(lo+l))<lo+q/\lo+q<=lo+k by lia),show lo+q-1=lo+(q-1) by exact W5 hpq]
   by_cases p1:p=l
   ·rw[ZL ∅]
    exact T.asym _ _ (pm k (ZF _)) (pm (q-1) ∅) (h2 (q-1) ∅ ∅)
   ·rw[ZJ ∅]
    by_cases p2:l<p
    ·rw[ZL ∅,show lo+p-1=lo+(p-1) by exact W5 p2]
     exact hs (p-1) (q-1) ∅ ∅
    ·rw[ZJ (W75 hl p2)]
     exact hs p (q-1) ∅ ∅
  ·rw[ZJ (W75 hl q2),ZJ ∅,ZJ ∅]
   exact hs p q hpq ∅
end
section
variable {prog:Program} {w:World} {A:Around} {E:VS} {κ:SortKind} {P:Keyed->Prop} {lt:Keyed->Keyed->Bool}
theorem q343{s:Shared}(G:Good prog w A E κ P lt s){i j:Nat}{Q:Option Bool->SortSt->Shared->Prop}{st:SortSt}(hst:kindOf st=κ)(hp:∀ x∈(arrOf st).toList,P x)(hi:i<(arrOf st).size)(hj:j<(arrOf st).size)
  (h:Q (some (lt (kas_item (arrOf st) i) (kas_item (arrOf st) j))) st s):kasC (model prog w) A E (ltAt' i j) Q st s:=by
 rw[ltAt'_eq]
 refine ZN (kasC_get (ZN (q59 hi (ZN (q59 hj ?_)))))
 exact G _ _ _ _ (hp _ (q22 hi)) (hp _ (q22 hj)) hst h
theorem c_move{k l:Nat}{Q:Unit->SortSt->Shared->Prop}{st:SortSt}{s:Shared}(h:∀ st',Su st st'->arrOf st'=bubble (arrOf st) k (k-l)->Q () st' s):kasC (model prog w) A E (moveDown' k l) Q st s:=by
 rw[moveDown'_eq]
 exact kasC_modify (h _ ⟨rfl,rfl,rfl⟩ rfl)
theorem c_rev{i j:Nat}{Q:Unit->SortSt->Shared->Prop}{st:SortSt}{s:Shared}(h:∀ st',Su st st'->arrOf st'=mirror (arrOf st) i j ((j-i)/2)->Q () st' s):kasC (model prog w) A E (reverseSlice' i j) Q st s:=by
 rw[reverseSlice'_eq]
 exact kasC_modify (h _ ⟨rfl,rfl,rfl⟩ rfl)
theorem q526{s:Shared}(G:Good prog w A E κ P lt s)(T:Tot P lt){lo n ok:Nat}{Q:Bool->SortSt->Shared->Prop}{st:SortSt}(hst:kindOf st=κ)(hp:∀ x∈(arrOf st).toList,P x)(hn:lo+n<=(arrOf st).size)(hok:ok<=n)(h1:1<=n)(hs:Asc lt (arrOf st) lo ok)
  (h:∀ st',Su st st'->Loc (arrOf st) (arrOf st') lo (lo+n)->Asc lt (arrOf st') lo n->Q true st' s):kasC (model prog w) A E (binarySort' lo n ok) Q st s:=by
 refine ZN (q176 (show max ok 1<=n by lia) (fun k r st' s'=>s'=s/\r=(none,())/\Su st st'/\Loc (arrOf st) (arrOf st') lo (lo+n)/\Asc lt (arrOf st') lo k) (fun r st' s'=>s'=s/\r=(none,())/\Su st st'/\Loc (arrOf st) (arrOf st') lo (lo+n)/\Asc lt (arrOf st') lo n)
  ⟨rfl,rfl,Su.refl _,Loc.refl _ _ _,fun p q h1 h2=>hs p q h1 ∅⟩ (fun _ _ _ h=>h) ?_ ?_)
 ·rintro k r st' s' hk1 hk2 ⟨rfl,rfl,S1,L1,A1⟩
  dsimp only
  have hp':=L1.good hp
  have hz:(arrOf st').size=(arrOf st).size:=L1.size
  refine ZN (q85 (fun u r st₂ s₂=>st₂=st'/\s₂=s' /\ ∃ l r',r=(none,l,r')/\l<=r'/\r'<=k/\(r'-l)+u<=k/\(∀ t,t<l->lt (kas_item (arrOf st') (lo+k)) (kas_item (arrOf st') (lo+t))=false) /\ ∀ t,r'<=t->t<k->lt (kas_item (arrOf st') (lo+k)) (kas_item (arrOf st') (lo+t))=true)
   (fun r st₂ s₂=>st₂=st'/\s₂=s' /\ ∃ l r',r=(none,l,r')/\l<=k/\(∀ t,t<l->lt (kas_item (arrOf st') (lo+k)) (kas_item (arrOf st') (lo+t))=false) /\ ∀ t,l<=t->t<k->lt (kas_item (arrOf st') (lo+k)) (kas_item (arrOf st') (lo+t))=true)
   ⟨rfl,rfl,0,k,rfl,W144,W74,∅,fun t ht=>absurd ht (Nat.not_lt_zero _),fun t h1 h2=>(W154 h2 h1).elim⟩ ?_ ?_ ?_)
  ·rintro r st₂ s₂ ⟨rfl,rfl,l,r',rfl,g1,g2,g3,g4,g5⟩
   exact⟨rfl,rfl,l,r',rfl,∅,g4,fun t h1 h2=>g5 t ∅ h2⟩
  ·rintro u x r st₂ s₂ hu ⟨rfl,rfl,l,r',rfl,g1,g2,g3,g4,g5⟩
   dsimp only
   by_cases c:l>=r'
   ·rw[ZL c]
    exact ZR ⟨rfl,rfl,l,r',rfl,∅,g4,fun t h1 h2=>g5 t ∅ h2⟩
   rw[ZJ c]
   refine ZN (q343 G (S1.1.trans hst) hp' (W72 hz hk2 hn) ∅ ?_)
   dsimp only
   have pm:∀ t,t<=k->P (kas_item (arrOf st₂) (lo+t)):=fun t ht=>hp' _ (q22 (W156 ht hz hk2 hn))
   cases hl:lt (kas_item (arrOf st₂) (lo+k)) (kas_item (arrOf st₂) (lo+(l+r')/2)) with
   | true=>
    rw[ZL rfl]
    refine ZR ⟨rfl,rfl,_,_,rfl,∅,(W64 g2 c),∅,g4,fun t h1 h2=>?_⟩
    by_cases e:t=(l+r')/2
    ·rw[e];exact hl
    ·cases c2:lt (kas_item (arrOf st₂) (lo+k)) (kas_item (arrOf st₂) (lo+t)) with
     | true=>rfl
     | false=>
      have z:=T.trans _ _ _ (pm ((l+r')/2) ∅) (pm t (W23 h2)) (pm k (ZF _)) (A1 _ _ ∅ h2) c2
      rw[hl]at z
      cases z
   | false=>
    rw[ZJ fnt]
    refine ZR ⟨rfl,rfl,_,_,rfl,∅,∅,∅,fun t ht=>?_,g5⟩
    by_cases e:t=(l+r')/2
    ·rw[e];exact hl
    ·exact T.trans _ _ _ (pm t ∅) (pm ((l+r')/2) (W64 g2 c)) (pm k (ZF _)) (A1 _ _ ∅ ∅) hl
  ·rintro r st₂ s₂ ⟨rfl,rfl,l,r',rfl,g1,g4,g5⟩
   dsimp only
   refine ZN (c_move fun st₃ S3 e3=>ZR ⟨rfl,rfl,S1.trans S3,?_,?_⟩)
   ·rw[e3]
    exact L1.trans ((q648 (W72 hz hk2 hn) (W59 g1)).wide ∅ ∅)
   ·rw[e3]
    exact ins_asc T hp' ∅ g1 A1 g4 g5
 ·rintro r st' s' ⟨rfl,rfl,S1,L1,A1⟩
  exact ZR (h _ S1 L1 A1)
end
end TS
namespace TS
set_option autoImplicit false
open PySem PySem.W PyProof.Rows List
section
variable {P:Keyed->Prop} {lt:Keyed->Keyed->Bool}
def Desc(lt:Keyed->Keyed->Bool)(xs:Array Keyed)(lo n:Nat):Prop:=∀ p q,p<q->q<n->lt (kas_item xs (lo+p)) (kas_item xs (lo+q))=false
def EqT(lt:Keyed->Keyed->Bool)(xs:Array Keyed)(lo i m:Nat):Prop:=∀ p q,i<=p->p<m->i<=q->q<m->lt (kas_item xs (lo+p)) (kas_item xs (lo+q))=false
theorem q129(T:Tot P lt){xs:Array Keyed}{lo m:Nat}(hp:∀ x∈xs.toList,P x)(hz:lo+m<xs.size)(h:Desc lt xs lo m)(h1:0<m->lt (kas_item xs (lo+m-1)) (kas_item xs (lo+m))=false):Desc lt xs lo (m+1):=by
 have pm:∀ t,t<=m->P (kas_item xs (lo+t)):=fun t ht=>hp _ (q22 (W151 ht hz))
 intro p q hpq hq
 by_cases e:q=m
 ·have z:=h1 ∅
  rw[show lo+m-1=lo+(m-1) by lia]at z
  rw[e]
  by_cases e2:p=m-1
  ·rw[e2];exact z
  ·exact T.trans _ _ _ (pm m (ZF _)) (pm (m-1) ∅) (pm p ∅) z (h p (m-1) ∅ ∅)
 ·exact h p q hpq (W45 hq e)
theorem q581(T:Tot P lt){xs:Array Keyed}{lo m:Nat}(hp:∀ x∈xs.toList,P x)(hz:lo+m<xs.size)(h:Asc lt xs lo m)(h1:0<m->lt (kas_item xs (lo+m)) (kas_item xs (lo+m-1))=false):Asc lt xs lo (m+1):=by
 have pm:∀ t,t<=m->P (kas_item xs (lo+t)):=fun t ht=>hp _ (q22 ∅)
 intro p q hpq hq
 by_cases e:q=m
 ·have z:=h1 ∅
  rw[show lo+m-1=lo+(m-1) by lia]at z
  rw[e]
  by_cases e2:p=m-1
  ·rw[e2];exact z
  ·exact T.trans _ _ _ (pm p ∅) (pm (m-1) ∅) (pm m (ZF _)) (h p (m-1) ∅ ∅) z
 ·exact h p q hpq ∅
theorem q105{xs:Array Keyed}{lo i m t:Nat}(hz:lo+m<=xs.size)(ht:t<m):kas_item (mirror xs (lo+i) (lo+m) ((lo+m-(lo+i))/2)) (lo+t)=if i<=t then kas_item xs (lo+(i+m-1-t))else kas_item xs (lo+t):=by
 rw[q168 hz]
 by_cases c:i<=t
 ·rw[ZL ∅,ZL c,show lo+i+(lo+m)-1-(lo+t)=lo+(i+m-1-t) by lia]
 ·rw[ZJ ∅,ZJ c]
theorem q169{xs:Array Keyed}{lo i m:Nat}(hz:lo+m<=xs.size)(h:Desc lt xs lo m)(he:EqT lt xs lo i m):Desc lt (mirror xs (lo+i) (lo+m) ((lo+m-(lo+i))/2)) lo m:=by
 intro p q hpq hq
 rw[q105 hz (W76 hq hpq),q105 hz hq]
 by_cases c1:i<=p
 ·rw[ZL c1,ZL ∅]
  exact he _ _ ∅ ∅ ∅ ∅
 ·rw[ZJ c1]
  by_cases c2:i<=q
  ·rw[ZL c2]
   exact h _ _ ∅ (W220 c2 hq c1)
  ·rw[ZJ c2]
   exact h p q hpq hq
theorem q649{xs:Array Keyed}{lo m:Nat}(hz:lo+m<=xs.size)(h:Desc lt xs lo m):Asc lt (mirror xs lo (lo+m) ((lo+m-lo)/2)) lo m:=by
 have e:mirror xs lo (lo+m) ((lo+m-lo)/2)=mirror xs (lo+0) (lo+m) ((lo+m-(lo+0))/2):=rfl
 rw[e]
 intro p q hpq hq
 rw[q105 hz hq,q105 hz ∅,ZL (ZX _),ZL (ZX _)]
 exact h _ _ ∅ ∅
end
section
variable {prog:Program} {w:World} {A:Around} {E:VS} {κ:SortKind} {P:Keyed->Prop} {lt:Keyed->Keyed->Bool}
theorem c_jS{α:Type}(J:Unit->M2 α){c:Prop}{_d:Decidable c}{x:M2 α}{Q:α->SortSt->Shared->Prop}{st:SortSt}{s:Shared}(I:SortSt->Prop)(hJ:∀ st,I st->kasC (model prog w) A E (J ()) Q st s)(hx:c->(∀ st,I st->kasC (model prog w) A E (J ()) Q st s)->kasC (model prog w) A E x Q st s)(h0:¬ c->I st):kasC (model prog w) A E (if c then x else J ()) Q st s:=by
 by_cases h:c
 ·rw[ZL h]
  exact hx h hJ
 ·rw[ZJ h]
  exact hJ _ (h0 h)
theorem q720{s:Shared}(G:Good prog w A E κ P lt s)(T:Tot P lt){lo nrem:Nat}{Q:Option Nat->SortSt->Shared->Prop}{st:SortSt}(hst:kindOf st=κ)(hp:∀ x∈(arrOf st).toList,P x)(hn:lo+nrem<=(arrOf st).size)(h1:1<=nrem)
  (h:∀ n st',1<=n->n<=nrem->Su st st'->Loc (arrOf st) (arrOf st') lo (lo+nrem)->Asc lt (arrOf st') lo n->Q (some n) st' s):kasC (model prog w) A E (countRun' lo nrem) Q st s:=by
 have irr:∀ x,P x->lt x x=false:=fun x hx=>by
  cases c:lt x x with
  | false=>rfl
  | true=>exact c.symm.trans (T.asym x x hx hx c)
 refine ZN (q176 (show 1<=nrem by lia) (fun k r st₉ s₉=>st₉=st/\s₉=s/\r=(none,k)/\Asc lt (arrOf st) lo k) (fun r st₉ s₉=>st₉=st/\s₉=s /\ ∃ k,r=(none,k)/\1<=k/\k<=nrem/\Asc lt (arrOf st) lo k/\(k=nrem\/lt (kas_item (arrOf st) (lo+k)) (kas_item (arrOf st) (lo+k-1))=true))
  ⟨rfl,rfl,rfl,fun p q a b=>absurd b (W136 b a)⟩ (fun r st₉ s₉ ⟨e1,e2,e3,e4⟩=>⟨e1,e2,nrem,e3,∅,ZF _,e4,.inl rfl⟩) ?_ ?_)
 ·rintro k r st₉ s₉ hk1 hk2 ⟨rfl,rfl,rfl,A9⟩
  dsimp only
  refine ZN (q343 G hst hp ∅ ∅ ?_)
  dsimp only
  cases hl:lt (kas_item (arrOf st₉) (lo+k)) (kas_item (arrOf st₉) (lo+k-1)) with
  | true=>
   rw[ZL rfl]
   exact ZR ⟨rfl,rfl,k,rfl,hk1,(W23 hk2),A9,.inr hl⟩
  | false=>
   rw[ZJ fnt]
   exact ZR ⟨rfl,rfl,rfl,q581 T hp ∅ A9 fun _=>hl⟩
 ·rintro r st₁ s₁ ⟨rfl,rfl,n,rfl,g1,g2,A1,hbr⟩
  dsimp -zeta only
  extract_lets -merge -underBinder
  dsimp -zeta +zetaDelta only
  extract_lets -merge -underBinder jp
  by_cases c1:n=nrem
  ·rw[ZL (by simp[c1])]
   exact ZR (h n _ g1 g2 (Su.refl _) (Loc.refl _ _ _) A1)
  rw[ZJ (by simpa using c1)]
  have hbr':lt (kas_item (arrOf st₁) (lo+n)) (kas_item (arrOf st₁) (lo+n-1))=true:=by
   rcases hbr with z | z
   ·exact absurd z c1
   ·exact z
  have pm1:∀ t,t<=n->P (kas_item (arrOf st₁) (lo+t)):=fun t ht=>hp _ (q22 ∅)
  rw[show lo+n-1=lo+(n-1) by lia]at hbr'
  have hge1:=T.asym _ _ (pm1 n (ZF _)) (pm1 (n-1) ∅) hbr'
  refine c_jS jp (fun st₂=>Su st₁ st₂/\Loc (arrOf st₁) (arrOf st₂) lo (lo+nrem)/\Desc lt (arrOf st₂) lo (n+1)) ?_ ?_ ?_
  ·rintro st₂ ⟨S2,L2,D2⟩
   dsimp -zeta +zetaDelta only
   clear jp
   refine ZN (kasC_lift (wpAny_rule ?_))
   refine ZN (q176 (show n+1<=nrem by lia) (fun k r st₄ s₄=>s₄=s₁/\Su st₁ st₄/\Loc (arrOf st₁) (arrOf st₄) lo (lo+nrem) /\ ∃ q,r=(none,k,q)/\q+1<=k/\Desc lt (arrOf st₄) lo k/\EqT lt (arrOf st₄) lo (k-(q+1)) k)
    (fun r st₄ s₄=>s₄=s₁/\Su st₁ st₄/\Loc (arrOf st₁) (arrOf st₄) lo (lo+nrem) /\ ∃ m q,r=(none,m,q)/\q+1<=m/\m<=nrem/\Desc lt (arrOf st₄) lo m/\EqT lt (arrOf st₄) lo (m-(q+1)) m)
    ⟨rfl,S2,L2,0,rfl,∅,D2,fun p q h1 h2 h3 h4=>by
     have ep:p=n:=∅
     have eq':q=n:=∅
     rw[ep,eq']
     exact irr _ (L2.good hp _ (q22 (by have:=L2.size;exact W201 g1 this eq' g2 ep hn c1)))⟩ (fun r st₄ s₄ ⟨e1,e2,e3,q,e4,e5,e6,e7⟩=>⟨e1,e2,e3,nrem,q,e4,e5,ZF _,e6,e7⟩) ?_ ?_)
   ·rintro k r st₄ s₄ hk1 hk2 ⟨rfl,S4,L4,q,rfl,hq,D4,E4⟩
    dsimp only
    have hz4:=L4.size
    have hp4:=L4.good hp
    have hk4:kindOf st₄=κ:=S4.1.trans hst
    have pm:∀ t,t<=k->P (kas_item (arrOf st₄) (lo+t)):=fun t ht=>hp4 _ (q22 (W156 ht hz4 hk2 hn))
    refine ZN (q343 G hk4 hp4 (W72 hz4 hk2 hn) ∅ ?_)
    dsimp only
    cases hl:lt (kas_item (arrOf st₄) (lo+k)) (kas_item (arrOf st₄) (lo+k-1)) with
    | true=>
     rw[ZL rfl]
     rw[show lo+k-1=lo+(k-1) by exact W4 hq]at hl
     have hge:=T.asym _ _ (pm k (ZF _)) (pm (k-1) ∅) hl
     by_cases hq0:q > 0
     ·rw[ZL hq0]
      refine ZN (c_rev fun st₅ S5 e5=>ZR ⟨rfl,S4.trans S5,?_,0,rfl,W147,?_,fun p q' h1 h2 h3 h4=>?_⟩)
      ·rw[e5]
       exact L4.trans ((q78 ∅).wide (W54 hq) ∅)
      ·rw[e5,show lo+k-(q+1)=lo+(k-(q+1)) by exact W7 hq]
       have D5:=q169 ∅ D4 E4
       have hp5:=(q78 (xs:=arrOf st₄) (i:=lo+(k-(q+1))) (j:=lo+k) ∅).good hp4
       have z1:kas_item (mirror (arrOf st₄) (lo+(k-(q+1))) (lo+k) ((lo+k-(lo+(k-(q+1))))/2)) (lo+k)=kas_item (arrOf st₄) (lo+k):=by
        rw[q168 ∅,ZJ ∅]
       refine q129 T hp5 (by rw[mirror_size];lia) D5 fun _=>?_
       rw[show lo+k-1=lo+(k-1) by lia,z1,q105 ∅ ∅,ZL ∅]
       exact T.trans _ _ _ (pm k (ZF _)) (pm (k-1) ∅) (pm _ ∅) hge (E4 _ _ ∅ ∅ ∅ ∅)
      ·have ep:p=k:=∅
       have eq':q'=k:=∅
       rw[ep,eq']
       refine irr _ ?_
       have L5:Loc (arrOf st₄) (arrOf st₅) (lo+k-(q+1)) (lo+k):=by
        rw[e5]
        exact q78 ∅
       exact L5.good hp4 _ (q22 (by have:=L5.size;lia))
     ·rw[ZJ hq0]
      refine ZR ⟨rfl,S4,L4,0,rfl,∅,q129 T hp4 ∅ D4 fun _=>?_,fun p q' h1 h2 h3 h4=>?_⟩
      ·rw[show lo+k-1=lo+(k-1) by lia]
       exact hge
      ·have ep:p=k:=∅
       have eq':q'=k:=(W218 ep h4 hq h3 hq0)
       rw[ep,eq']
       exact irr _ (pm k (ZF _))
    | false=>
     rw[ZJ fnt]
     refine ZN (q343 G hk4 hp4 ∅ ∅ ?_)
     dsimp only
     cases hl2:lt (kas_item (arrOf st₄) (lo+k-1)) (kas_item (arrOf st₄) (lo+k)) with
     | true=>
      rw[ZL rfl]
      exact ZR ⟨rfl,S4,L4,k,q,rfl,hq,(W23 hk2),D4,E4⟩
     | false=>
      rw[ZJ fnt]
      refine ZR ⟨rfl,S4,L4,q+1,rfl,∅,q129 T hp4 ∅ D4 fun _=>hl2,fun p q' h1 h2 h3 h4=>?_⟩
      rw[show lo+k-1=lo+(k-1) by exact W4 hq]at hl hl2
      by_cases ep:p=k
      ·by_cases eq':q'=k
       ·rw[ep,eq']
        exact irr _ (pm k (ZF _))
       ·rw[ep]
        exact T.trans _ _ _ (pm q' (W103 ep h4)) (pm (k-1) (W52 ep)) (pm k (ZF _)) (E4 _ _ (W41 g1 ep hq hk1) (W94 g1 ep hk1) (W40 ep h4 hq h3 eq') (W99 ep h4 eq')) hl
      ·by_cases eq':q'=k
       ·rw[eq']
        exact T.trans _ _ _ (pm k (ZF _)) (pm (k-1) (W52 eq')) (pm p (W103 eq' h2)) hl2 (E4 _ _ (W40 eq' h2 hq h1 ep) (W99 eq' h2 ep) (W41 g1 eq' hq hk1) (W94 g1 eq' hk1))
       ·exact E4 _ _ ∅ (W133 h4 h2 eq' ep) ∅ (W45 h4 eq')
   ·rintro r st₄ s₄ ⟨rfl,S4,L4,m,q,rfl,hq,hm,D4,E4⟩
    dsimp -zeta only
    extract_lets -merge -underBinder
    dsimp -zeta +zetaDelta only
    extract_lets -merge -underBinder jp
    have hz4:=L4.size
    refine c_jS jp (fun st₅=>Su st₁ st₅/\Loc (arrOf st₁) (arrOf st₅) lo (lo+nrem)/\Desc lt (arrOf st₅) lo m) ?_ ?_ ?_
    ·rintro st₅ ⟨S5,L5,D5⟩
     dsimp -zeta only [jp]
     clear jp
     have hz5:=L5.size
     refine ZN (c_rev fun st₆ S6 e6=>?_)
     have L6:Loc (arrOf st₁) (arrOf st₆) lo (lo+nrem):=by
      rw[e6]
      exact L5.trans ((q78 ∅).wide (ZF _) (W57 hm))
     have A6:Asc lt (arrOf st₆) lo m:=by
      rw[e6]
      exact q649 ∅ D5
     have hz6:=L6.size
     have hp6:=L6.good hp
     have hk6:kindOf st₆=κ:=(S5.trans S6).1.trans hst
     refine ZN (q176 (show m<=nrem by lia) (fun k r st₉ s₉=>st₉=st₆/\s₉=s₄/\r=(none,k)/\Asc lt (arrOf st₆) lo k) (fun r st₉ s₉=>st₉=st₆/\s₉=s₄ /\ ∃ k,r=(none,k)/\m<=k/\k<=nrem/\Asc lt (arrOf st₆) lo k/\(k=nrem\/lt (kas_item (arrOf st₆) (lo+k)) (kas_item (arrOf st₆) (lo+k-1))=true))
      ⟨rfl,rfl,rfl,A6⟩ (fun r st₉ s₉ ⟨e1,e2,e3,e4⟩=>⟨e1,e2,nrem,e3,∅,ZF _,e4,.inl rfl⟩) ?_ ?_)
     ·rintro k r st₉ s₉ hk1 hk2 ⟨rfl,rfl,rfl,A9⟩
      dsimp only
      refine ZN (q343 G hk6 hp6 ∅ ∅ ?_)
      dsimp only
      cases hl:lt (kas_item (arrOf st₉) (lo+k)) (kas_item (arrOf st₉) (lo+k-1)) with
      | true=>
       rw[ZL rfl]
       exact ZR ⟨rfl,rfl,k,rfl,hk1,(W23 hk2),A9,.inr hl⟩
      | false=>
       rw[ZJ fnt]
       exact ZR ⟨rfl,rfl,rfl,q581 T hp6 ∅ A9 fun _=>hl⟩
     ·rintro r st₇ s₇ ⟨rfl,rfl,k,rfl,g1,g2,g3,_⟩
      exact ZR (h k _ ∅ g2 (S5.trans S6) L6 g3)
    ·intro hq0 J
     clear_value jp
     refine ZN (c_rev fun st₅ S5 e5=>J _ ⟨S4.trans S5,?_,?_⟩)
     ·rw[e5]
      exact L4.trans ((q78 ∅).wide (W54 hq) (W57 hm))
     ·rw[e5,show lo+m-(q+1)=lo+(m-(q+1)) by exact W7 hq]
      exact q169 ∅ D4 E4
    ·exact fun _=>⟨S4,L4,D4⟩
  ·intro c2 J
   clear_value jp
   refine ZN (q343 G hst hp ∅ ∅ ?_)
   dsimp only
   cases hl0:lt (kas_item (arrOf st₁) lo) (kas_item (arrOf st₁) (lo+n-1)) with
   | true=>
    rw[ZL rfl]
    exact ZR (h n _ g1 g2 (Su.refl _) (Loc.refl _ _ _) A1)
   | false=>
    rw[ZJ fnt]
    rw[show lo+n-1=lo+(n-1) by lia]at hl0
    have hl0':lt (kas_item (arrOf st₁) (lo+0)) (kas_item (arrOf st₁) (lo+(n-1)))=false:=hl0
    have E1:EqT lt (arrOf st₁) lo 0 n:=fun p q _ hp1 _ hq1=>by
     have z1:lt (kas_item (arrOf st₁) (lo+(n-1))) (kas_item (arrOf st₁) (lo+q))=false:=by
      by_cases e:q=n-1
      ·rw[e];exact irr _ (pm1 (n-1) ∅)
      ·exact A1 _ _ ∅ (W86 c2)
     have z2:lt (kas_item (arrOf st₁) (lo+p)) (kas_item (arrOf st₁) (lo+0))=false:=by
      by_cases e:p=0
      ·rw[e];exact irr _ (pm1 0 ∅)
      ·exact A1 _ _ ∅ ∅
     have z3:=T.trans _ _ _ (pm1 q (W23 hq1)) (pm1 (n-1) (W89 c2)) (pm1 0 ∅) z1 hl0'
     exact T.trans _ _ _ (pm1 q ∅) (pm1 0 ∅) (pm1 p (W23 hp1)) z3 z2
    refine ZN (c_rev fun st₂ S2 e2=>?_)
    have L2:Loc (arrOf st₁) (arrOf st₂) lo (lo+nrem):=by
     rw[e2]
     exact(q78 ∅).wide (ZF _) (W57 g2)
    have D2:Desc lt (arrOf st₂) lo (n+1):=by
     have D1:=q169 (i:=0) (show lo+n<=(arrOf st₁).size by lia) (fun p q a b=>E1 p q (ZX _) (W76 b a) (ZX _) b) E1
     have hp2:=(q78 (xs:=arrOf st₁) (i:=lo) (j:=lo+n) ∅).good hp
     have z1:kas_item (mirror (arrOf st₁) lo (lo+n) ((lo+n-lo)/2)) (lo+n)=kas_item (arrOf st₁) (lo+n):=by
      rw[q168 ∅,ZJ ∅]
     rw[e2]
     refine q129 T hp2 (by rw[mirror_size];lia) D1 fun _=>?_
     have z2:=q105 (xs:=arrOf st₁) (lo:=lo) (i:=0) (m:=n) (t:=n-1) ∅ (W86 c2)
     rw[ZL (ZX _)]at z2
     rw[show lo+n-1=lo+(n-1) by lia,z1]
     have z3:kas_item (mirror (arrOf st₁) lo (lo+n) ((lo+n-lo)/2)) (lo+(n-1))=kas_item (arrOf st₁) (lo+(0+n-1-(n-1))):=z2
     rw[z3]
     exact T.trans _ _ _ (pm1 n (ZF _)) (pm1 (n-1) (W89 c2)) (pm1 _ ∅) hge1 (E1 _ _ (ZX _) ∅ (ZX _) ∅)
    exact J _ ⟨S2,L2,D2⟩
  ·intro c2
   have en:n=1:=∅
   have D2:Desc lt (arrOf st₁) lo (n+1):=by
    refine q129 T hp ∅ (fun p q a b=>absurd b (W143 g1 b a c2)) fun _=>?_
    rw[show lo+n-1=lo+(n-1) by lia]
    exact hge1
   have S2:=Su.refl st₁
   have L2:=Loc.refl (arrOf st₁) lo (lo+nrem)
   exact⟨S2,L2,D2⟩
end
end TS
namespace TS
set_option autoImplicit false
open PySem PySem.W PyProof.Rows List
section
variable {P:Keyed->Prop} {lt:Keyed->Keyed->Bool}
theorem set_list:∀(l:List Keyed)(xs:Array Keyed)(b off:Nat),b+off+l.length<=xs.size ->
  ((l.zipIdx off).foldl (fun a x=>a.setIfInBounds (b+x.snd) x.fst) xs).toList=xs.toList.take (b+off)++l++xs.toList.drop (b+off+l.length)
 | [],xs,b,off,h=>by simp
 | x::l,xs,b,off,h=>by
  rw[WB]at h
  rw[zipIdx_cons,foldl_cons]
  have ih:=set_list l (xs.setIfInBounds (b+off) x) b (off+1) (by rw[Array.size_setIfInBounds];lia)
  rw[ih,Array.toList_setIfInBounds]
  have hl:b+off<xs.toList.length:=by simp;lia
  have tl:(xs.toList.take (b+off)).length=b+off:=by rw[WL];lia
  have es:xs.toList.set (b+off) x=xs.toList.take (b+off)++x::xs.toList.drop (b+off+1):=by rw[set_eq_take_append_cons_drop,ZL hl]
  have e1:(xs.toList.set (b+off) x).take (b+(off+1))=xs.toList.take (b+off)++[x]:=by
   rw[es,take_append,tl,WP ∅,show b+(off+1)-(b+off)=1 by lia]
   rfl
  have e2:(xs.toList.set (b+off) x).drop (b+(off+1)+l.length)=xs.toList.drop (b+off+(x::l).length):=by
   rw[drop_set,ZL ∅,WB]
   congr 1
   lia
  rw[e1,e2,YS,YS,YS]
  rfl
theorem q582{xs:Array Keyed}{b e t:Nat}(he:e<=xs.size)(ht:b+t<e):kas_item (xs.extract b e) t=kas_item xs (b+t):=by
 refine q99 ?_
 rw[Array.getElem?_extract,ZL ∅]
theorem q583{xs:Array Keyed}{b e:Nat}(he:e<=xs.size):(xs.extract b e).size=e-b:=by
 rw[Array.size_extract]
 exact W3 he
theorem q584{xs:Array Keyed}(h:∀ p q,p<q->q<xs.size->lt (kas_item xs q) (kas_item xs p)=false):Srt lt xs.toList:=by
 refine List.pairwise_iff_getElem.mpr fun i j hi hj hij=>?_
 have hj':j<xs.size:=by simpa using hj
 have hi':i<xs.size:=by simpa using hi
 have e1:=(List.getElem?_eq_some_iff.mp (q60 hi')).2
 have e2:=(List.getElem?_eq_some_iff.mp (q60 hj')).2
 rw[e1,e2]
 exact h i j hij hj'
theorem q585{xs:Array Keyed}{y:Keyed}(h:y∈xs.toList):∃ t,t<xs.size/\y=kas_item xs t:=by
 obtain⟨j,_,h2,h3⟩:=q104 (i:=0) (a:=xs) (by simpa using h)
 exact⟨j,h2,h3⟩
end
section
variable {prog:Program} {w:World} {A:Around} {E:VS} {κ:SortKind} {P:Keyed->Prop} {lt:Keyed->Keyed->Bool}
theorem c_set{st₁ st:SortSt}{Q:PUnit->SortSt->Shared->Prop}{s:Shared}(h:Q ⟨⟩ st₁ s):kasC (model prog w) A E (set st₁:M2 PUnit) Q st s:=by
 unfold kasC
 rw[StateT.run_set]
 exact ZO h
theorem mergeAt_{s:Shared}(G:Good prog w A E κ P lt s)(T:Tot P lt){i sa na pw sb nb pw2:Nat}{Q:Bool->SortSt->Shared->Prop}{st:SortSt}(hst:kindOf st=κ)(hf:failedOf st=none)(hp:∀ x∈(arrOf st).toList,P x)
  (h1:(pendingOf st)[i]? = some (sa,na,pw)) (h2:(pendingOf st)[i+1]? = some (sb,nb,pw2)) (hsb:sb=sa+na) (hna:0<na) (hnb:0<nb) (hz:sb+nb<=(arrOf st).size) (A1:Asc lt (arrOf st) sa na) (A2:Asc lt (arrOf st) sb nb)
  (h:∀ st':SortSt,kindOf st'=κ->failedOf st'=none->pendingOf st'=((pendingOf st).setIfInBounds i (sa,na+nb,pw)).eraseIdxIfInBounds (i+1)->Loc (arrOf st) (arrOf st') sa (sb+nb)->Asc lt (arrOf st') sa (na+nb)->Q true st' s) :
  kasC (model prog w) A E (mergeAt' i) Q st s:=by
 have irr:∀ x,P x->lt x x=false:=fun x hx=>by
  cases c:lt x x with
  | false=>rfl
  | true=>exact c.symm.trans (T.asym x x hx hx c)
 have p1:∀ t,t<na->P (kas_item (arrOf st) (sa+t)):=fun t ht=>hp _ (q22 ∅)
 have p2:∀ t,t<nb->P (kas_item (arrOf st) (sb+t)):=fun t ht=>hp _ (q22 ∅)
 refine ZN (kasC_get ?_)
 dsimp only
 rw[h1,h2]
 dsimp only
 refine ZN (c_set ?_)
 refine ZN (q59 (show sb<(arrOf st).size by lia) ?_)
 have pk:P (kas_item (arrOf st) sb):=p2 0 hnb
 obtain⟨k,hk,hB⟩:∃ k,k<=na /\ ∀ t,t<na->(if false=true then lt (kas_item (arrOf st) (sa+t)) (kas_item (arrOf st) sb)else !(lt (kas_item (arrOf st) sb) (kas_item (arrOf st) (sa+t))))=decide (t<k):=by
  refine bound _ na fun t u htu hu hh=>?_
  rw[ZJ fnt,Bool.not_eq_true']at hh ⊢
  by_cases e:t=u
  ·rw[e];exact hh
  ·exact T.trans _ _ _ (p1 t (W92 hu htu)) (p1 u hu) pk (A1 t u (W16 htu e) hu) hh
 have B1:∀ t,t<k->lt (kas_item (arrOf st) sb) (kas_item (arrOf st) (sa+t))=false:=fun t ht=>by
  have q:=hB t (W34 ht hk)
  rw[ZJ fnt,ZG ht,Bool.not_eq_true']at q
  exact q
 have B2:∀ t,k<=t->t<na->lt (kas_item (arrOf st) sb) (kas_item (arrOf st) (sa+t))=true:=fun t g1 g2=>by
  have q:=hB t g2
  rw[ZJ fnt,ZS (W43 g1),Bool.not_eq_false']at q
  exact q
 have C1:∀ t,t<nb->lt (kas_item (arrOf st) (sb+t)) (kas_item (arrOf st) sb)=false:=fun t ht=>by
  by_cases e:t=0
  ·rw[e];exact irr _ pk
  ·exact A2 0 t (W115 e) ht
 refine ZN (q206 G hst pk (fun t ht=>p1 t ht) (show sa+na<=(arrOf st).size by lia) hna hk hB ?_)
 dsimp only
 have key:∀ t,t<k -> ∀ u,u<nb->lt (kas_item (arrOf st) (sb+u)) (kas_item (arrOf st) (sa+t))=false:=fun t ht u hu=>
  T.trans _ _ _ (p1 t (W34 ht hk)) pk (p2 u hu) (B1 t ht) (C1 u hu)
 by_cases c1:na-k=0
 ·rw[ZL (by simp[c1])]
  refine ZR (h _ hst hf rfl (Loc.refl _ _ _) fun p q hpq hq=>?_)
  by_cases q1:q<na
  ·exact A1 p q hpq q1
  ·have eq1:sa+q=sb+(q-na):=(W56 hsb q1)
   by_cases p3:p<na
   ·rw[eq1]
    exact key p ∅ (q-na) (W135 hq eq1 hsb)
   ·rw[eq1,show sa+p=sb+(p-na) by exact W67 eq1 hsb p3]
    exact A2 _ _ (W113 hpq eq1 hsb p3) ∅
 rw[ZJ (by simpa using c1)]
 replace c1:k<na:=∅
 have elast:sa+k+(na-k)-1=sa+(na-1):=∅
 rw[elast]
 clear elast
 have pl:P (kas_item (arrOf st) (sa+(na-1))):=p1 _ (W15 hna)
 refine ZN (q59 (show sa+(na-1)<(arrOf st).size by lia) ?_)
 obtain⟨k2,hk2,hB2⟩:∃ k2,k2<=nb /\ ∀ t,t<nb->(if true=true then lt (kas_item (arrOf st) (sb+t)) (kas_item (arrOf st) (sa+(na-1)))else !(lt (kas_item (arrOf st) (sa+(na-1))) (kas_item (arrOf st) (sb+t))))=decide (t<k2):=by
  refine bound _ nb fun t u htu hu hh=>?_
  rw[ZL rfl]at hh ⊢
  by_cases e:t=u
  ·rw[e];exact hh
  ·cases c:lt (kas_item (arrOf st) (sb+t)) (kas_item (arrOf st) (sa+(na-1))) with
   | true=>rfl
   | false=>
    have z:=T.trans _ _ _ pl (p2 t (W92 hu htu)) (p2 u hu) c (A2 t u (W16 htu e) hu)
    rw[hh]at z
    cases z
 have B3:∀ t,t<k2->lt (kas_item (arrOf st) (sb+t)) (kas_item (arrOf st) (sa+(na-1)))=true:=fun t ht=>by
  have q:=hB2 t (W34 ht hk2)
  rw[ZL rfl,ZG ht]at q
  exact q
 have B4:∀ t,k2<=t->t<nb->lt (kas_item (arrOf st) (sb+t)) (kas_item (arrOf st) (sa+(na-1)))=false:=fun t g1 g2=>by
  have q:=hB2 t g2
  rw[ZL rfl,ZS (W43 g1)]at q
  exact q
 have key2:∀ t,t<na -> ∀ u,k2<=u->u<nb->lt (kas_item (arrOf st) (sb+u)) (kas_item (arrOf st) (sa+t))=false:=fun t ht u g1 g2=>by
  by_cases e:t=na-1
  ·rw[e];exact B4 u g1 g2
  ·exact T.trans _ _ _ (p1 t ht) pl (p2 u g2) (A1 t (na-1) (W24 hna ht e) (W15 hna)) (B4 u g1 g2)
 refine ZN (q206 G hst pl (fun t ht=>p2 t ht) (show sb+nb<=(arrOf st).size by lia) (W15 hnb) hk2 hB2 ?_)
 dsimp only
 by_cases c2:k2=0
 ·rw[ZL (by simp[c2])]
  refine ZR (h _ hst hf rfl (Loc.refl _ _ _) fun p q hpq hq=>?_)
  by_cases q1:q<na
  ·exact A1 p q hpq q1
  ·have eq1:sa+q=sb+(q-na):=(W56 hsb q1)
   by_cases p3:p<na
   ·rw[eq1]
    exact key2 p p3 (q-na) (W191 c2 eq1 hsb q1) (W135 hq eq1 hsb)
   ·rw[eq1,show sa+p=sb+(p-na) by exact W67 eq1 hsb p3]
    exact A2 _ _ (W113 hpq eq1 hsb p3) ∅
 rw[ZJ (by simpa using c2)]
 have xz:((arrOf st).extract (sa+k) sb).size=na-k:=by rw[q583 (W146 hnb hz hsb)];lia
 have yz:((arrOf st).extract sb (sb+k2)).size=k2:=by rw[q583 ∅];exact W11
 have xi:∀ t,t<na-k->kas_item ((arrOf st).extract (sa+k) sb) t=kas_item (arrOf st) (sa+(k+t)):=fun t ht=>by
  rw[q582 (W146 hnb hz hsb) ∅,show sa+k+t=sa+(k+t) by exact W48]
 have yi:∀ t,t<k2->kas_item ((arrOf st).extract sb (sb+k2)) t=kas_item (arrOf st) (sb+t):=fun t ht=>q582 (W123 yz hk2 hz hsb) ∅
 have xm:∀ z∈((arrOf st).extract (sa+k) sb).toList,∃ t,k<=t/\t<na/\z=kas_item (arrOf st) (sa+t):=fun z hz'=>by
  obtain⟨t,g1,rfl⟩:=q585 hz'
  rw[xz]at g1
  exact⟨k+t,W17,(W60 g1 c1),xi t g1⟩
 have ym:∀ z∈((arrOf st).extract sb (sb+k2)).toList,∃ t,t<k2/\z=kas_item (arrOf st) (sb+t):=fun z hz'=>by
  obtain⟨t,g1,rfl⟩:=q585 hz'
  rw[yz]at g1
  exact⟨t,g1,yi t g1⟩
 have px:∀ z∈((arrOf st).extract (sa+k) sb).toList,P z:=fun z hz'=>by
  obtain⟨t,g1,g2,rfl⟩:=xm z hz'
  exact p1 t g2
 have py:∀ z∈((arrOf st).extract sb (sb+k2)).toList,P z:=fun z hz'=>by
  obtain⟨t,g1,rfl⟩:=ym z hz'
  exact p2 t (W145 g1 yz hk2)
 have sx:Srt lt ((arrOf st).extract (sa+k) sb).toList:=q584 fun p q g1 g2=>by
  rw[xz]at g2
  rw[xi p ∅,xi q g2]
  exact A1 _ _ (W22 g1) (W60 g2 c1)
 have sy:Srt lt ((arrOf st).extract sb (sb+k2)).toList:=q584 fun p q g1 g2=>by
  rw[yz]at g2
  rw[yi p ∅,yi q g2]
  exact A2 _ _ ∅ (W145 g2 yz hk2)
 have xl:(arrOf st).toList.take (sa+k)++(((arrOf st).extract (sa+k) sb).toList++((arrOf st).extract sb (sb+k2)).toList)++(arrOf st).toList.drop (sb+k2)=(arrOf st).toList:=by
  rw[ext0 (show sb<=(arrOf st).size by lia),ext0 (show sb+k2<=(arrOf st).size by exact W123 yz hk2 hz hsb)]
  generalize (arrOf st).toList=l
  have e1:l.take sb=l.take (sa+k)++(l.take sb).drop (sa+k):=by
   have:(l.take sb).take (sa+k)=l.take (sa+k):=by rw[take_take,YH ∅]
   rw[<- this,YY]
  have e2:l.take (sb+k2)=l.take sb++(l.take (sb+k2)).drop sb:=by
   have:(l.take (sb+k2)).take sb=l.take sb:=by rw[take_take,YH ∅]
   rw[<- this,YY]
  rw[<- YS,<- e1,<- e2,YY]
 have fin:∀(r:Array Keyed)(st₂:SortSt),arrOf st₂=arrOf st->FinA lt ((arrOf st).extract (sa+k) sb) ((arrOf st).extract sb (sb+k2)) r ->
   Loc (arrOf st) (List.foldl (fun a x=>a.setIfInBounds (sa+k+x.snd) x.fst) (arrOf st₂) r.toList.zipIdx) sa (sb+nb)/\Asc lt (List.foldl (fun a x=>a.setIfInBounds (sa+k+x.snd) x.fst) (arrOf st₂) r.toList.zipIdx) sa (na+nb):=by
  intro r st₂ K2 F
  rw[K2]
  have rz:r.toList.length=na-k+k2:=by
   rw[F.1.length_eq,ZM,WY,WY,xz,yz]
  clear xz yz
  have ys:=set_list r.toList (arrOf st) (sa+k) 0 ∅
  generalize List.foldl (fun a x=>a.setIfInBounds (sa+k+x.snd) x.fst) (arrOf st) r.toList.zipIdx=zs at ys ⊢
  rw[Nat.add_zero,rz,show sa+k+(na-k+k2)=sb+k2 by lia]at ys
  have tl:((arrOf st).toList.take (sa+k)).length=sa+k:=by rw[WL,WY];lia
  have gl:∀ t,zs[t]? = if t<sa+k then(arrOf st)[t]? else if t<sb+k2 then r.toList[t-(sa+k)]? else(arrOf st)[t]?:=fun t=>by
   rw[<- YC,ys]
   by_cases g1:t<sa+k
   ·rw[ZL g1,YS,WO ∅,getElem?_take,ZL g1,YC]
   ·rw[ZJ g1]
    by_cases g2:t<sb+k2
    ·rw[ZL g2,WO (by rw[ZM];lia),WM ∅,tl]
    ·rw[ZJ g2,WM (by rw[ZM];lia),getElem?_drop,ZM,tl,rz,YC]
     congr 1
     exact W182 tl rz c1 hsb g2
  clear tl
  have pz:zs.toList.Perm (arrOf st).toList:=by
   rw[ys]
   refine List.Perm.trans ?_ (List.Perm.of_eq xl)
   exact(List.Perm.append_left _ F.1).append_right _
  have zz:zs.size=(arrOf st).size:=by
   have:=pz.length_eq
   simpa using this
  refine⟨⟨zz,Array.perm_iff_toList_perm.mpr pz,fun t ht=>?_⟩,fun p q hpq hq=>?_⟩
  ·rw[gl t]
   by_cases g1:t<sa+k
   ·rw[ZL g1]
   ·rw[ZJ g1,ZJ ∅]
  ·clear zz
   have rm:∀ t,k<=t->t<na+k2->kas_item zs (sa+t)=kas_item r (t-k)/\((∃ u,k<=u/\u<na/\kas_item zs (sa+t)=kas_item (arrOf st) (sa+u)) \/ ∃ u,u<k2/\kas_item zs (sa+t)=kas_item (arrOf st) (sb+u)):=fun t g1 g2=>by
    have e:=gl (sa+t)
    rw[ZJ ∅,ZL ∅,show sa+t-(sa+k)=t-k by lia,YC]at e
    have e2:=q99 e
    exists e2
    have hm:=q22 (a:=r) (i:=t-k) (by rw[<- WY,rz];lia)
    rcases List.mem_append.mp (F.1.mem_iff.mp hm)with z | z
    ·obtain⟨u,a1,a2,a3⟩:=xm _ z
     exact .inl ⟨u,a1,a2,e2.trans a3⟩
    ·obtain⟨u,a1,a3⟩:=ym _ z
     exact .inr ⟨u,a1,e2.trans a3⟩
   have lowi:∀ t,t<k->kas_item zs (sa+t)=kas_item (arrOf st) (sa+t):=fun t ht=>q99 (by rw[gl,ZL (W22 ht)])
   have hii:∀ t,na+k2<=t->kas_item zs (sa+t)=kas_item (arrOf st) (sb+(t-na)):=fun t ht=>by
    refine q99 ?_
    rw[gl,ZJ ∅,ZJ ∅,show sb+(t-na)=sa+t by lia]
   by_cases p3:p<k
   ·rw[lowi p p3]
    by_cases q1:q<k
    ·rw[lowi q q1]
     exact A1 p q hpq ∅
    ·by_cases q2:q<na+k2
     ·rcases(rm q (W30 q1) q2).2 with ⟨u,a1,a2,a3⟩ | ⟨u,a1,a3⟩
      ·rw[a3]
       exact A1 p u ∅ a2
      ·rw[a3]
       exact key p p3 u ∅
     ·rw[hii q (W90 rz q2)]
      exact key p p3 _ (W91 hnb hq)
   ·by_cases p4:p<na+k2
    ·by_cases q2:q<na+k2
     ·rw[(rm p (W30 p3) p4).1,(rm q ∅ q2).1]
      have z:=List.pairwise_iff_getElem.mp F.2 (p-k) (q-k) ∅ ∅ ∅
      have e1:=(List.getElem?_eq_some_iff.mp (q60 (a:=r) (i:=p-k) (by rw[<- WY,rz];lia))).2
      have e2:=(List.getElem?_eq_some_iff.mp (q60 (a:=r) (i:=q-k) (by rw[<- WY,rz];lia))).2
      rw[e1,e2]at z
      exact z
     ·rw[hii q ∅]
      rcases(rm p ∅ p4).2 with ⟨u,a1,a2,a3⟩ | ⟨u,a1,a3⟩
      ·rw[a3]
       exact key2 u a2 _ ∅ (W91 hnb hq)
      ·rw[a3]
       exact A2 u _ ∅ ∅
    ·rw[hii p (W90 rz p4),hii q ∅]
     exact A2 _ _ (W179 hpq rz p4) ∅
 have x0:kas_item ((arrOf st).extract (sa+k) sb) 0=kas_item (arrOf st) (sa+k):=xi 0 ∅
 have y0:kas_item ((arrOf st).extract sb (sb+k2)) 0=kas_item (arrOf st) sb:=yi 0 (W160 yz c1 c2)
 have xe:kas_item ((arrOf st).extract (sa+k) sb) (((arrOf st).extract (sa+k) sb).size-1)=kas_item (arrOf st) (sa+(na-1)):=by
  rw[xz,xi _ ∅]
  congr 1
  lia
 have ye:kas_item ((arrOf st).extract sb (sb+k2)) (((arrOf st).extract sb (sb+k2)).size-1)=kas_item (arrOf st) (sb+(k2-1)):=by
  rw[yz,yi _ (W128 yz c1 c2)]
 by_cases c3:na-k<=k2
 ·rw[ZL c3]
  refine ZN (mergeLo_ G T hst px py sx sy (show 0<((arrOf st).extract (sa+k) sb).size by rw[xz];lia) (show 0<((arrOf st).extract sb (sb+k2)).size by rw[yz];lia) (by rw[x0,y0];exact B2 k (ZF _) ∅) (fun z hz'=>?_) fun r st₂ K2 F=>?_)
  ·rw[xe]
   obtain⟨t,g1,rfl⟩:=ym z hz'
   exact T.asym _ _ (p2 t ∅) pl (B3 t g1)
  ·obtain⟨f1,f2⟩:=fin r st₂ K2.2.1 F
   refine ZN (kasC_modify (ZN (kasC_get (ZR ?_))))
   have ef:failedOf st₂=none:=K2.2.2.2.trans hf
   show Q (failedOf st₂).isNone _ s
   rw[ef]
   exact h _ (K2.1.trans hst) ef K2.2.2.1 f1 f2
 ·rw[ZJ c3]
  refine ZN (mergeHi_ G T hst px py sx sy (show 0<((arrOf st).extract (sa+k) sb).size by rw[xz];lia) (show 0<((arrOf st).extract sb (sb+k2)).size by rw[yz];lia) (by rw[xe,ye];exact B3 _ ∅) (fun z hz'=>?_) fun r st₂ K2 F=>?_)
  ·rw[y0]
   obtain⟨t,g1,g2,rfl⟩:=xm z hz'
   exact T.asym _ _ pk (p1 t g2) (B2 t g1 g2)
  ·obtain⟨f1,f2⟩:=fin r st₂ K2.2.1 F
   refine ZN (kasC_modify (ZN (kasC_get (ZR ?_))))
   have ef:failedOf st₂=none:=K2.2.2.2.trans hf
   show Q (failedOf st₂).isNone _ s
   rw[ef]
   exact h _ (K2.1.trans hst) ef K2.2.2.1 f1 f2
end
end TS
namespace TS
set_option autoImplicit false
open PySem PySem.W PyProof.Rows List
section
variable {P:Keyed->Prop} {lt:Keyed->Keyed->Bool}
noncomputable abbrev pr(p:Nat×Nat×Nat):Nat×Nat:=(p.1,p.2.1)
def Runs(lt:Keyed->Keyed->Bool)(xs:Array Keyed):Nat->List (Nat×Nat)->Nat->Prop
 | b,[],e=>b=e
 | b,(s,l)::r,e=>s=b/\0<l/\Asc lt xs b l/\Runs lt xs (b+l) r e
theorem Runs.le{xs:Array Keyed}:∀{l:List (Nat×Nat)} {b e:Nat},Runs lt xs b l e->b+l.length<=e
 | [],b,e,h=>by
  have:b=e:=h
  simp[this]
 | (s,l)::r,b,e,⟨_,h1,_,h2⟩=>by
  have:=h2.le
  rw[WB]
  lia
theorem Runs.app{xs:Array Keyed}:∀{l1 l2:List (Nat×Nat)} {b e:Nat},Runs lt xs b (l1++l2) e↔∃ m,Runs lt xs b l1 m/\Runs lt xs m l2 e
 | [],l2,b,e=>⟨fun h=>⟨b,rfl,h⟩,fun⟨m,h1,h2⟩=>by
   have:b=m:=h1
   rw[this];exact h2⟩
 | (s,l)::r,l2,b,e=>⟨fun⟨h1,h2,h3,h4⟩=>by
   obtain⟨m,g1,g2⟩:=Runs.app.mp h4
   exact⟨m,⟨h1,h2,h3,g1⟩,g2⟩,fun⟨m,⟨h1,h2,h3,h4⟩,g⟩=>⟨h1,h2,h3,Runs.app.mpr ⟨m,h4,g⟩⟩⟩
theorem Asc.same{xs ys:Array Keyed}{b l:Nat}(h:∀ t,b<=t->t<b+l->kas_item ys t=kas_item xs t)(a:Asc lt xs b l):Asc lt ys b l:=fun p q h1 h2=>by
 rw[h _ ∅ (W22 h2),h _ W17 ∅]
 exact a p q h1 h2
theorem Runs.same{xs ys:Array Keyed}:∀{l:List (Nat×Nat)} {b e:Nat},(∀ t,b<=t->t<e->kas_item ys t=kas_item xs t)->Runs lt xs b l e->Runs lt ys b l e
 | [],b,e,_,h=>h
 | (s,l)::r,b,e,h,⟨h1,h2,h3,h4⟩=>by
  have hl:=h4.le
  exact⟨h1,h2,h3.same fun t g1 g2=>h t g1 ∅,h4.same fun t g1 g2=>h t ∅ g2⟩
theorem Loc.item{xs ys:Array Keyed}{lo hi t:Nat}(a:Loc xs ys lo hi)(h:t<lo\/hi<=t):kas_item ys t=kas_item xs t:=q99 (a.out t h)
theorem q721{α:Type}{l:List α}{i:Nat}(h:i+1<l.length):∃ l1 a b l2,l=l1++a::b::l2/\l1.length=i/\l[i]? = some a/\l[i+1]? = some b:=by
 have h0:i<l.length:=(W58 h)
 refine⟨l.take i,l[i],l[i+1],l.drop (i+2),?_,by rw[WL];lia,ZP h0,ZP h⟩
 rw[<- YT h,<- YT h0,YY]
theorem q722{α:Type}(l1 l2:List α)(a b v:α):((l1++a::b::l2).set l1.length v).eraseIdx (l1.length+1)=l1++v::l2:=by
 induction l1 with
 | nil=>rfl
 | cons x l1 ih=>simpa using ih
theorem q723(pd:Array (Nat×Nat×Nat))(i:Nat)(f:Nat×Nat×Nat->Nat×Nat×Nat)(hf:∀ x,pr (f x)=pr x):(pd.modify i f).toList.map pr=pd.toList.map pr:=by
 apply ext_getElem?
 intro j
 rw[WE,WE,YC,YC,Array.getElem?_modify]
 by_cases c:i=j
 ·rw[ZL c]
  cases pd[j]? with
  | none=>rfl
  | some x=>simp[hf x]
 ·rw[ZJ c]
end
section
variable {prog:Program} {w:World} {A:Around} {E:VS} {κ:SortKind} {P:Keyed->Prop} {lt:Keyed->Keyed->Bool}
theorem ite_lt{c:Prop}[Decidable c]{a b n:Nat}(h1:a+1<n)(h2:b+1<n):(if c then a else b)+1<n:=by split <;> assumption
theorem c_iteF{α:Type}{c:Prop}[Decidable c]{x y:M2 α}{Q:α->SortSt->Shared->Prop}{st:SortSt}{s:Shared}(hc:¬ c)(h:kasC (model prog w) A E y Q st s):kasC (model prog w) A E (if c then x else y) Q st s:=by rw[ZJ hc];exact h
theorem q344{s:Shared}(G:Good prog w A E κ P lt s)(T:Tot P lt){i lo:Nat}{Q:Bool->SortSt->Shared->Prop}{st:SortSt}(hst:kindOf st=κ)(hf:failedOf st=none)(hp:∀ x∈(arrOf st).toList,P x)
  (hi:i+1<(pendingOf st).size) (hlo:lo<=(arrOf st).size) (hr:Runs lt (arrOf st) 0 ((pendingOf st).toList.map pr) lo)
  (h:∀ st':SortSt,kindOf st'=κ->failedOf st'=none->(pendingOf st').size+1=(pendingOf st).size->Loc (arrOf st) (arrOf st') 0 lo->Runs lt (arrOf st') 0 ((pendingOf st').toList.map pr) lo->Q true st' s) :
  kasC (model prog w) A E (mergeAt' i) Q st s:=by
 obtain⟨l1,⟨sa,na,pw⟩,⟨sb,nb,pw2⟩,l2,e,el,g1,g2⟩:=q721 (l:=(pendingOf st).toList) (i:=i) (by simpa using hi)
 rw[YC]at g1 g2
 rw[e,WF,YA,YA]at hr
 obtain⟨m,r1,rfl,na0,A1,hsb,nb0,A2,r2⟩:=Runs.app.mp hr
 have hsb':sb=sa+na:=hsb
 have na0':0<na:=na0
 have nb0':0<nb:=nb0
 have r2':Runs lt (arrOf st) (sa+na+nb) (l2.map pr) lo:=r2
 have hl2:=r2'.le
 have A2':Asc lt (arrOf st) sb nb:=by rw[hsb'];exact A2
 refine mergeAt_ G T hst hf hp g1 g2 hsb' na0' nb0' ∅ A1 A2' fun st' k1 k2 k3 L A3=>?_
 have ep:(pendingOf st').toList=l1++(sa,na+nb,pw)::l2:=by
  rw[k3,Array.toList_eraseIdxIfInBounds,Array.toList_setIfInBounds,e,<- el]
  exact q722 l1 l2 _ _ _
 refine h st' k1 k2 ?_ (L.wide (ZX _) ∅) ?_
 ·rw[<- WY,<- WY,ep,e]
  simp
  lia
 ·rw[ep,WF,YA]
  refine Runs.app.mpr ⟨sa,r1.same fun t _ ht=>L.item (.inl ht),rfl,(show 0<na+nb by lia),A3,?_⟩
  show Runs lt (arrOf st') (sa+(na+nb)) (l2.map pr) lo
  rw[<- Nat.add_assoc]
  exact r2'.same fun t ht _=>L.item (.inr ∅)
theorem c_jN{α:Type}(J:Unit->Nat->M2 α){c:Prop}{_d:Decidable c}{x:M2 α}{n:Nat}{Q:α->SortSt->Shared->Prop}{st:SortSt}{s:Shared}(I:Nat->SortSt->Prop)(hJ:∀ n st,I n st->kasC (model prog w) A E (J () n) Q st s)(hx:c->(∀ n st,I n st->kasC (model prog w) A E (J () n) Q st s)->kasC (model prog w) A E x Q st s)(h0:¬ c->I n st):kasC (model prog w) A E (if c then x else J () n) Q st s:=by
 by_cases h:c
 ·rw[ZL h]
  exact hx h hJ
 ·rw[ZJ h]
  exact hJ _ _ (h0 h)
theorem q454{s:Shared}(G:Good prog w A E κ P lt s)(T:Tot P lt){Q:Unit->SortSt->Shared->Prop}{st:SortSt}(hst:kindOf st=κ)(hf:failedOf st=none)(hpd:pendingOf st = #[])(hp:∀ x∈(arrOf st).toList,P x)(hn:1<=(arrOf st).size)
  (h:∀ st':SortSt,failedOf st'=none->(arrOf st').Perm (arrOf st)->Asc lt (arrOf st') 0 (arrOf st').size->Q () st' s):kasC (model prog w) A E sortRuns' Q st s:=by
 refine ZN (kasC_get ?_)
 try dsimp -zeta only
 try extract_lets -merge -underBinder
 try dsimp -zeta +zetaDelta only
 refine ZN (q85 (fun t r st' s'=>s'=s/\kindOf st'=κ/\failedOf st'=none/\Loc (arrOf st) (arrOf st') 0 (arrOf st).size /\ ∃ lo,r=(none,lo)/\lo<=(arrOf st).size/\t<=lo/\Runs lt (arrOf st') 0 ((pendingOf st').toList.map pr) lo)
  (fun r st' s'=>s'=s/\kindOf st'=κ/\failedOf st'=none/\Loc (arrOf st) (arrOf st') 0 (arrOf st).size/\r=(none,(arrOf st).size)/\Runs lt (arrOf st') 0 ((pendingOf st').toList.map pr) (arrOf st).size)
  ⟨rfl,hst,hf,Loc.refl _ _ _,0,rfl,ZX _,ZX _,by rw[hpd];exact rfl⟩ ?_ ?_ ?_)
 ·rintro r st' s' ⟨e1,e2,e3,e4,lo,e5,e6,e7,e8⟩
  have e7':(arrOf st).size<=lo:=e7
  have el:lo=(arrOf st).size:=∅
  subst el
  exact⟨e1,e2,e3,e4,e5,e8⟩
 ·rintro t x r st' s' ht ⟨rfl,k1,f1,L1,lo,rfl,hlo,htl,R1⟩
  try dsimp -zeta only
  try extract_lets -merge -underBinder
  try dsimp -zeta +zetaDelta only
  have hz1:=L1.size
  have hp1:=L1.good hp
  by_cases c1:lo>=(arrOf st).size
  ·rw[ZL c1]
   have el:lo=(arrOf st).size:=∅
   subst el
   exact ZR ⟨rfl,k1,f1,L1,rfl,R1⟩
  rw[ZJ c1]
  refine ZN (q720 G T k1 hp1 (show lo+((arrOf st).size-lo)<=(arrOf st').size by lia) (show 1<=(arrOf st).size-lo by lia) fun fo st₂ fo1 fo2' S2 L2' A2=>?_)
  dsimp -zeta only
  extract_lets -merge -underBinder +onlyGivenNames _
  dsimp -zeta +zetaDelta only
  extract_lets -merge -underBinder jp
  have fo2:fo<=(arrOf st).size-lo:=fo2'
  have L2:Loc (arrOf st') (arrOf st₂) lo (lo+((arrOf st).size-lo)):=L2'
  have L12:Loc (arrOf st) (arrOf st₂) 0 (arrOf st).size:=L1.trans (L2.wide (ZX _) ∅)
  have k2:kindOf st₂=κ:=S2.1.trans k1
  have f2:failedOf st₂=none:=S2.2.2.trans f1
  have R2:Runs lt (arrOf st₂) 0 ((pendingOf st₂).toList.map pr) lo:=by
   rw[S2.2.1]
   exact R1.same fun t _ ht=>L2.item (.inl ht)
  have hz2:=L12.size
  refine c_jN jp (fun n st₃=>kindOf st₃=κ/\failedOf st₃=none/\Loc (arrOf st) (arrOf st₃) 0 (arrOf st).size/\Runs lt (arrOf st₃) 0 ((pendingOf st₃).toList.map pr) lo/\Asc lt (arrOf st₃) lo n/\0<n/\lo+n<=(arrOf st).size) ?_ ?_ ?_
  ·rintro fo st₂ ⟨kS,fS,LS,RS,Am,hm,hm2⟩
   have hz2:=LS.size
   dsimp -zeta only [jp]
   clear jp
   refine ZN (kasC_get ?_)
   try dsimp only
   cases hb:(pendingOf st₂).back? with
   | none=>
    refine ZN (kasC_modify (ZR ⟨rfl,kS,fS,LS,lo+fo,rfl,(show lo+fo<=(arrOf st).size by lia),(show t+1<=lo+fo by lia),?_⟩))
    show Runs lt (arrOf st₂) 0 (((pendingOf st₂).push (lo,fo,0)).toList.map pr) (lo+fo)
    rw[Array.toList_push,WF]
    exact Runs.app.mpr ⟨lo,RS,rfl,hm,Am,rfl⟩
   | some x=>
    obtain⟨s1,n1,z1⟩:=x
    try dsimp only
    refine ZN (q85 (fun u r st₄ s₄=>s₄=s'/\r=(none,())/\kindOf st₄=κ/\failedOf st₄=none/\Loc (arrOf st) (arrOf st₄) 0 (arrOf st).size/\Runs lt (arrOf st₄) 0 ((pendingOf st₄).toList.map pr) lo/\Asc lt (arrOf st₄) lo fo)
     (fun r st₄ s₄=>s₄=s'/\r=(none,())/\kindOf st₄=κ/\failedOf st₄=none/\Loc (arrOf st) (arrOf st₄) 0 (arrOf st).size/\Runs lt (arrOf st₄) 0 ((pendingOf st₄).toList.map pr) lo/\Asc lt (arrOf st₄) lo fo)
     ⟨rfl,rfl,kS,fS,LS,RS,Am⟩ (fun _ _ _ z=>z) ?_ ?_)
    ·rintro u x r st₄ s₄ hu ⟨rfl,rfl,k4,f4,L4,R4,A4⟩
     try dsimp only
     refine ZN (kasC_get ?_)
     try dsimp only
     have hz4:=L4.size
     have stop:kasC (model prog w) A E (pure (ForInStep.done ((none:Option Unit),())):M2 _) (fun r st' s'=>match r with
       | .done b'=>s'=s₄/\b'=(none,())/\kindOf st'=κ/\failedOf st'=none/\Loc (arrOf st) (arrOf st') 0 (arrOf st).size/\Runs lt (arrOf st') 0 ((pendingOf st').toList.map pr) lo/\Asc lt (arrOf st') lo fo
       | .yield b'=>s'=s₄/\b'=(none,())/\kindOf st'=κ/\failedOf st'=none/\Loc (arrOf st) (arrOf st') 0 (arrOf st).size/\Runs lt (arrOf st') 0 ((pendingOf st').toList.map pr) lo/\Asc lt (arrOf st') lo fo) st₄ s₄:=ZR ⟨rfl,rfl,k4,f4,L4,R4,A4⟩
     by_cases c5:(pendingOf st₄).size > 1
     ·rw[ZL c5]
      cases h5:(pendingOf st₄)[(pendingOf st₄).size-2]? with
      | none=>exact stop
      | some y=>
       obtain⟨y1,y2,older⟩:=y
       try dsimp only
       split
       ·exact stop
       ·refine ZN (q344 G T k4 f4 (L4.good hp) (show(pendingOf st₄).size-2+1<(pendingOf st₄).size by lia) ∅ R4 fun st₅ k5 f5 _ L5 R5=>?_)
        exact ZR ⟨rfl,rfl,k5,f5,L4.trans (L5.wide (ZF _) ∅),R5,A4.same fun t g1 _=>L5.item (.inr g1)⟩
     ·rw[ZJ c5]
      exact stop
    ·rintro r st₄ s₄ ⟨rfl,rfl,k4,f4,L4,R4,A4⟩
     try dsimp only
     refine ZN (kasC_modify (ZN (kasC_modify (ZR ⟨rfl,k4,f4,L4,lo+fo,rfl,(show lo+fo<=(arrOf st).size by lia),(show t+1<=lo+fo by lia),?_⟩))))
     show Runs lt (arrOf st₄) 0 (((Array.modify (pendingOf st₄) _ _).push (lo,fo,0)).toList.map pr) (lo+fo)
     rw[Array.toList_push,WF,q723]
     ·exact Runs.app.mpr ⟨lo,R4,rfl,hm,A4,rfl⟩
     ·exact fun _=>rfl
  ·intro c J
   have c2:fo<minRun' (arrOf st).size (arrOf st).size 0:=c
   clear_value jp
   refine ZN (kasC_lift (wpAny_rule ?_))
   refine ZN (q526 G T k2 (L12.good hp) (show lo+(min ((arrOf st).size-lo) (minRun' (arrOf st).size (arrOf st).size 0))<=(arrOf st₂).size by lia) (show fo<=(min ((arrOf st).size-lo) (minRun' (arrOf st).size (arrOf st).size 0)) by lia) (show 1<=(min ((arrOf st).size-lo) (minRun' (arrOf st).size (arrOf st).size 0)) by lia) A2 fun st₃ S3 L3' A3'=>?_)
   have L3:Loc (arrOf st₂) (arrOf st₃) lo (lo+(min ((arrOf st).size-lo) (minRun' (arrOf st).size (arrOf st).size 0))):=L3'
   have A3:Asc lt (arrOf st₃) lo (min ((arrOf st).size-lo) (minRun' (arrOf st).size (arrOf st).size 0)):=A3'
   have kS:kindOf st₃=κ:=S3.1.trans k2
   have fS:failedOf st₃=none:=S3.2.2.trans f2
   have LS:Loc (arrOf st) (arrOf st₃) 0 (arrOf st).size:=L12.trans (L3.wide (ZX _) ∅)
   have RS:Runs lt (arrOf st₃) 0 ((pendingOf st₃).toList.map pr) lo:=by
    rw[S3.2.1]
    exact R2.same fun t _ ht=>L3.item (.inl ht)
   have Am:=A3
   have hm:0<(min ((arrOf st).size-lo) (minRun' (arrOf st).size (arrOf st).size 0)):=∅
   refine c_iteF (by simp) ?_
   exact J _ _ ⟨kS,fS,LS,RS,Am,hm,show lo+(min ((arrOf st).size-lo) (minRun' (arrOf st).size (arrOf st).size 0))<=(arrOf st).size by lia⟩
  ·exact fun c2=>⟨k2,f2,L12,R2,A2,fo1,∅⟩
 ·rintro r st' s' ⟨rfl,k1,f1,L1,rfl,R1⟩
  try dsimp only
  have hz1:=L1.size
  refine ZN (q85 (fun t r st₂ s₂=>s₂=s'/\r=(none,())/\kindOf st₂=κ/\failedOf st₂=none/\Loc (arrOf st) (arrOf st₂) 0 (arrOf st).size/\Runs lt (arrOf st₂) 0 ((pendingOf st₂).toList.map pr) (arrOf st).size/\(pendingOf st₂).size+t<=(arrOf st).size)
   (fun r st₂ s₂=>s₂=s'/\r=(none,())/\failedOf st₂=none/\Loc (arrOf st) (arrOf st₂) 0 (arrOf st).size/\Runs lt (arrOf st₂) 0 ((pendingOf st₂).toList.map pr) (arrOf st).size/\(pendingOf st₂).size<=1)
   ⟨rfl,rfl,k1,f1,L1,R1,by have:=R1.le;simp at this;lia⟩ ?_ ?_ ?_)
  ·rintro r st₂ s₂ ⟨e1,e2,e3,e4,e5,e6,e7⟩
   have e7':(pendingOf st₂).size+(arrOf st).size<=(arrOf st).size:=e7
   exact⟨e1,e2,e4,e5,e6,∅⟩
  ·rintro t x r st₂ s₂ ht ⟨rfl,rfl,k2,f2,L2,R2,hs2⟩
   try dsimp only
   refine ZN (kasC_get ?_)
   try dsimp only
   have hz2:=L2.size
   by_cases c1:(pendingOf st₂).size<=1
   ·rw[ZL c1]
    exact ZR ⟨rfl,rfl,f2,L2,R2,c1⟩
   rw[ZJ c1]
   refine ZN (q344 G T k2 f2 (L2.good hp) (ite_lt (show(pendingOf st₂).size-2-1+1<(pendingOf st₂).size by lia) (show(pendingOf st₂).size-2+1<(pendingOf st₂).size by lia)) (show(arrOf st).size<=(arrOf st₂).size by lia) R2 fun st₅ k5 f5 e5 L5 R5=>?_)
   exact ZR ⟨rfl,rfl,k5,f5,L2.trans (L5.wide (ZF _) W74),R5,∅⟩
  ·rintro r st₂ s₂ ⟨rfl,rfl,f2,L2,R2,hs2⟩
   have hz2:=L2.size
   refine ZR (h st₂ f2 L2.perm ?_)
   rw[hz2]
   cases hl:(pendingOf st₂).toList with
   | nil=>
    rw[hl]at R2
    have z:0=(arrOf st).size:=R2
    exact(W170 z hn hz2 hz1).elim
   | cons y l=>
    have hll:l=[]:=by
     have:(pendingOf st₂).toList.length<=1:=by simpa using hs2
     rw[hl,WB]at this
     exact eq_nil_of_length_eq_zero ∅
    rw[hl,hll]at R2
    obtain⟨_,_,A9,e9⟩:=R2
    have e9':0+y.2.1=(arrOf st).size:=e9
    rw[<- e9',YL]
    exact A9
end
end TS
namespace TS
set_option autoImplicit false
open PySem PySem.W PyProof.Rows List
abbrev I3:=Int×Int×Int
noncomputable def lex3(a b:I3):Bool:=if a.1=b.1 then(if a.2.1=b.2.1 then decide (a.2.2<b.2.2)else decide (a.2.1<b.2.1))else decide (a.1<b.1)
theorem q208{a b:I3}:lex3 a b=false↔(b.1<a.1\/(a.1=b.1/\(b.2.1<a.2.1\/(a.2.1=b.2.1/\b.2.2<=a.2.2)))):=by
 unfold lex3
 split
 ·split
  ·rw[decide_eq_false_iff_not];lia
  ·rw[decide_eq_false_iff_not];lia
 ·rw[decide_eq_false_iff_not];lia
theorem q724{a b:I3}:lex3 a b=true↔¬(b.1<a.1\/(a.1=b.1/\(b.2.1<a.2.1\/(a.2.1=b.2.1/\b.2.2<=a.2.2)))):=by
 rw[<- q208,Bool.not_eq_false]
def TupI(h:Heap)(v:Value)(t:I3):Prop:=∃(a:Addr)(o:Obj)(n:Nat)(t1 t2 t3:Tok),v = .ref a/\h.get? a=some o/\o.cls = .type "tuple" /\ o.data = .seq #[.int t.1 t1,.int t.2.1 t2,.int t.2.2 t3] n
section
variable {prog:Program} {w:World} {A:Around} {E:VS} {s:Shared}
theorem one_lt{a b:Int}{t u:Tok}{Q:Bool->Shared->Prop}(h:Q (decide (a<b)) s):wpAny (model prog w) A (oneLt' false (.int a t) (.int b u)) Q E s:=
 kat_one _ _ (lt_int h)
theorem cmp3{x y:Value}{t u:I3}{Q:Bool->Shared->Prop}(hx:TupI s.heap x t)(hy:TupI s.heap y u)(h:Q (lex3 t u) s):wpAny (model prog w) A (keyLt' (tuples' true) x y) Q E s:=by
 obtain⟨a,o,n,t1,t2,t3,rfl,ho,_,hd⟩:=hx
 obtain⟨b,o',n',u1,u2,u3,rfl,ho',_,hd'⟩:=hy
 refine kat_lt ho hd ho' hd' ?_
 unfold lex3 at h
 show KatLex prog w A true _ Q [(_,_),(_,_),(_,_)] 0 s
 refine kat_cons (wpAny_eqBool_int (kat_go (fun e=>kat_yes ?_) (fun e=>kat_no ?_)))
 ·rw[ZL (beq_iff_eq.mp e)]at h
  refine kat_cons (wpAny_eqBool_int (kat_go (fun e=>kat_yes ?_) (fun e=>kat_no ?_)))
  ·rw[ZL (beq_iff_eq.mp e)]at h
   refine kat_cons (wpAny_eqBool_int (kat_go (fun e=>kat_yes (kat_nil ?_)) (fun e=>kat_no (one_lt h))))
   have e':=beq_iff_eq.mp e
   rw[ZS ∅]at h
   exact h
  ·rw[ZJ (fun z=>by rw[beq_iff_eq.mpr z]at e;cases e)]at h
   exact one_lt h
 ·rw[ZJ (fun z=>by rw[beq_iff_eq.mpr z]at e;cases e)]at h
  exact oneLt_int h
theorem good3(ts:Value->I3):Good prog w A E (tuples' true) (fun x=>TupI s.heap x.1 (ts x.1)) (fun x y=>lex3 (ts x.1) (ts y.1)) s:=by
 intro x y st Q hx hy hk hq
 rw[lt'_eq]
 refine ZN (kasC_get (ZN (kasC_lift (wpAny_attempt ?_))))
 rw[hk]
 exact cmp3 (E:=_) hx hy (ZR hq)
theorem tot3{P:Keyed->Prop}(ts:Value->I3):Tot P (fun x y=>lex3 (ts x.1) (ts y.1)):=
 ⟨fun x y z _ _ _ h1 h2=>by rw[q208]at h1 h2 ⊢;exact W188 h2 h1,fun x y _ _ h=>by rw[q724]at h;rw[q208];exact W221 h⟩
theorem TupI.keep{h h':Heap}{v:Value}{t:I3}(k:∀ b o,h.get? b=some o->o.cls = .type "tuple" -> h'.get? b=some o) (z:TupI h v t):TupI h' v t:=by
 obtain⟨a,o,n,t1,t2,t3,e,ho,hc,hd⟩:=z
 exact⟨a,o,n,t1,t2,t3,e,k a o ho hc,hc,hd⟩
theorem kat_of{h:Heap}{ts:Value->I3}:∀(vs:List Value),(∀ v∈vs,TupI h v (ts v)) -> ∃ fs:List Value,KatTups h vs fs/\fs.length=vs.length /\ ∀ v∈fs,∃ i t,v=Value.int i t
 | [],_=>⟨[],trivial,rfl,fun v hv=>absurd hv (by simp)⟩
 | v::vs,hT=>by
  obtain⟨fs,k1,k2,k3⟩:=kat_of vs fun u hu=>hT u (ZU _ hu)
  obtain⟨a,o,n,t1,t2,t3,rfl,ho,hc,hd⟩:=hT v (ZQ ..)
  exact⟨_::fs,KatTups.cons ho hc hd (f:=.int (ts (.ref a)).1 t1) rfl k1,by simp[k2],fun u hu=>by
   rcases List.mem_cons.mp hu with e | e
   ·exact⟨_,_,e⟩
   ·exact k3 u e⟩
theorem q527{a:Addr}{vs:List Value}{n:Nat}{ts:Value->I3}{Q:PySem.Fin->Shared->Prop}(ho:s.heap.get? a=some (seqObj "list" vs.toArray n)) (hT:∀ v∈vs,TupI s.heap v (ts v)) (hz:vs.length<=sizeLine)
  (h:∀ out:Array Value,out.toList.Perm vs->(out.toList.Pairwise fun x y=>lex3 (ts y) (ts x)=false)->Q (.done (.ret .none)) { s with heap:=sortedHeap s.heap a vs out }):wpAny (model prog w) A (Builtin.«list.sort» ⟨[.ref a],[]⟩) Q E s:=by
 have ha:a<s.heap.objs.size:=ZW ho
 have hvz:vs.toArray.size=vs.length:=WC ..
 obtain⟨e1,ho1⟩:∃ e1,(s.heap.update a (Obj.mapSeq fun _=>(#[]:Array Value))).get? a=some (seqObj "list" #[] e1):=⟨_,get?_update_seq ho fun _=>#[]⟩
 rw[list_sort_plain]
 refine ZA (listItems_at ho rfl (ZA (listUpdate_at ho rfl ?_ (by rw[hvz];exact hz) (ZX _))))
 refine ZA (seqEpoch_at ho1 rfl (ZA (wpAny_newTuple (ZA (wpAny_newList (YU ?_) (ZX _))) (by show vs.length<=_;exact hz))))
 obtain⟨h6,e6⟩:∃ h6,h6=((s.heap.update a (Obj.mapSeq fun _=>(#[]:Array Value))).push (seqObj "tuple" vs.toArray 0)).push (seqObj "list" #[] 0):=⟨_,rfl⟩
 have ho6:h6.get? a=some (seqObj "list" #[] e1):=by
  rw[e6]
  exact ZE _ (ZE _ ho1)
 have hT6:∀ v∈vs,TupI h6 v (ts v):=fun v hv=>(hT v hv).keep fun b o hb hc=>by
  have nb:b≠a:=fun z=>by
   rw[z,ho]at hb
   cases hb
   exact absurd (Value.type.inj hc) {}
  rw[e6]
  exact ZE _ (ZE _ (((Heap.SameBut.update s.heap a (Obj.mapSeq fun _=>(#[]:Array Value))).2 b nb).trans hb))
 show wpAny (model prog w) A _ Q E { s with heap:=((s.heap.update a (Obj.mapSeq fun _=>(#[]:Array Value))).push (seqObj "tuple" vs.toArray 0)).push (seqObj "list" #[] 0) }
 have hfin:∀ out:Array Value,out.toList.Perm vs->(out.toList.Pairwise fun x y=>lex3 (ts y) (ts x)=false)->Q (.done (.ret .none)) { s with heap:=h6.update a (Obj.mapSeq fun _=>out) }:=fun out p1 p2=>by
  rw[e6]
  exact h out p1 p2
 rw[<- e6]
 dsimp only
 by_cases h2:vs.toArray.size<2
 ·rw[ZL h2,ZL h2]
  refine ZA (ZO ?_)
  rw[StateT.run_pure]
  refine ZA (ZO ?_)
  dsimp only
  have eo:((arrOf (SortSt.mk' general' (vs.toArray.zip vs.toArray) #[] 7 none)).map (·.2))=vs.toArray:=by
   show(vs.toArray.zip vs.toArray).map (·.2)=vs.toArray
   apply Array.toList_inj.mp
   simp[map_snd_zip]
  rw[eo]
  refine ZA (seqEpoch_at ho6 rfl (ZA (listUpdate_at ho6 rfl ?_ (ZX _) (by rw[hvz];lia))))
  simp only[bne_self_eq_false,Bool.false_eq_true,if_false]
  refine ZO (hfin vs.toArray (List.Perm.refl _) ?_)
  match vs,h2 with
  | [],_=>exact .nil
  | [x],_=>exact pairwise_singleton _ _
  | x::y::l,h2=>exact absurd h2 (by simp)
 ·rw[ZJ h2,ZJ h2]
  obtain⟨fs,k1,k2,k3⟩:=kat_of vs hT6
  refine ZA (kat_kind (T:=.type "int") (s:={ s with heap:=h6 }) k1 ∅ (fun v hv=>?_) (by rfl) ?_)
  ·obtain⟨i,t,rfl⟩:=k3 v hv
   exact Looks.of_pure rfl
  have zl:(vs.toArray.zip vs.toArray).toList=vs.zip vs:=by simp
  have pz:∀ x∈(vs.toArray.zip vs.toArray).toList,TupI h6 x.1 (ts x.1):=fun x hx=>by
   rw[zl]at hx
   exact hT6 _ (mem_zip_self hx).2
  have run:=q454 (prog:=prog) (w:=w) (A:=A) (E:=E) (good3 (s:={ s with heap:=h6 }) ts) (tot3 ts) (Q:=fun _ st' s'=>s' = { s with heap:=h6 }/\failedOf st'=none/\(arrOf st').Perm (vs.toArray.zip vs.toArray)/\Asc (fun x y=>lex3 (ts x.1) (ts y.1)) (arrOf st') 0 (arrOf st').size)
   (st:=SortSt.mk' (tuples' true) (vs.toArray.zip vs.toArray) #[] 7 none) rfl rfl rfl pz (by show 1<=(vs.toArray.zip vs.toArray).size;simp;lia) (fun st' f1 f2 f3=>⟨rfl,f1,f2,f3⟩)
  refine ZA (WX run ?_ fun _ _ e=>e)
  rintro ⟨⟨⟩,st'⟩ s' ⟨rfl,f1,f2,f3⟩
  dsimp only
  have p0:=Array.perm_iff_toList_perm.mp f2
  rw[zl]at p0
  have osz:((arrOf st').map (·.2)).size=vs.length:=by
   rw[Array.size_map,<- WY,p0.length_eq]
   simp
  refine ZA (seqEpoch_at ho6 rfl (ZA (listUpdate_at ho6 rfl ?_ (ZX _) (ZT (Nat.le_of_eq osz) ∅))))
  rw[f1]
  simp only[bne_self_eq_false,Bool.false_eq_true,if_false]
  refine ZO (hfin _ ?_ ?_)
  ·rw[Array.toList_map]
   refine(p0.map _).trans (List.Perm.of_eq ?_)
   exact map_snd_zip (ZF _)
  ·rw[Array.toList_map,pairwise_map]
   have sr:Srt (fun x y=>lex3 (ts x.1) (ts y.1)) (arrOf st').toList:=q584 fun p q g1 g2=>by
    have:=f3 p q g1 g2
    rw[YL,YL]at this
    exact this
   refine List.Pairwise.imp_of_mem ?_ sr
   intro x y hx hy hxy
   have ex:=(mem_zip_self (p0.mem_iff.mp hx)).1
   have ey:=(mem_zip_self (p0.mem_iff.mp hy)).1
   rw[<- ex,<- ey]
   exact hxy
theorem sorted_t{l:Addr}{vs:List Value}{ts:Value->I3}{Q:VS}(hl:s.heap.IsList l vs.toArray)(hT:∀ v∈vs,TupI s.heap v (ts v))(hz:vs.length<=sizeLine)
  (h:∀ out:Array Value,out.toList.Perm vs->(out.toList.Pairwise fun x y=>lex3 (ts y) (ts x)=false)->Q (.ref (s.heap.objs.size+1)) { s with heap:=sortedAll s.heap vs out }):wpAny (model prog w) A (call (.builtin "sorted") [.ref l]) Q E s:=by
 refine Calls.call_function_entry kind_sorted plain_sorted entry_sorted (args_sorted1 _) ?_
 unfold Builtin.«sorted»
 refine ZA (m:=checkCount "sorted" 1 1 _) (ZO (ZA (collect_list hl (ZA (wpAny_newList ?_ (by show vs.length<=_;exact hz))) hz)))
 have hsz:((s.heap.push (seqObj "list" #[] 0)).update s.heap.objs.size (Obj.mapSeq (· ++ vs.toArray))).objs.size=s.heap.objs.size+1:=by rw[Heap.size_update,size_push']
 have hoL:(((s.heap.push (seqObj "list" #[] 0)).update s.heap.objs.size (Obj.mapSeq (· ++ vs.toArray))).push (seqObj "list" vs.toArray 0)).get? (s.heap.objs.size+1)=some (seqObj "list" vs.toArray 0):=by rw[<- hsz];exact ZY _ rfl
 have hT2:∀ v∈vs,TupI (((s.heap.push (seqObj "list" #[] 0)).update s.heap.objs.size (Obj.mapSeq (· ++ vs.toArray))).push (seqObj "list" vs.toArray 0)) v (ts v):=fun v hv=>(hT v hv).keep fun b o hb hc=>by
  have nb:b≠s.heap.objs.size:=WN (ZW hb)
  exact ZE _ (((Heap.SameBut.update (s.heap.push (seqObj "list" #[] 0)) s.heap.objs.size (Obj.mapSeq (· ++ vs.toArray))).2 b nb).trans (ZE _ hb))
 show wpAny _ _ _ _ _ { s with heap:=((s.heap.push (seqObj "list" #[] 0)).update s.heap.objs.size (Obj.mapSeq (· ++ vs.toArray))).push (seqObj "list" vs.toArray 0) }
 rw[hsz]
 exact ZA (YU (YJ slot_list_sort ⟨_,hoL,rfl⟩ entry_list_sort (q527 hoL hT2 hz fun out a1 a2=>⟨_,rfl,ZO ⟨_,rfl,h out a1 a2⟩⟩) (args_list_sort _)))
end
end TS
namespace TS
set_option autoImplicit false
open PySem PySem.W PyProof.Rows List
theorem TupI.inj{h:Heap}{v:Value}{t u:I3}(x:TupI h v t)(y:TupI h v u):t=u:=by
 obtain⟨a,o,n,t1,t2,t3,rfl,ho,_,hd⟩:=x
 obtain⟨b,o',n',u1,u2,u3,e,ho',_,hd'⟩:=y
 cases e
 rw[ho]at ho'
 cases ho'
 rw[hd]at hd'
 have z:=congrArg Array.toList (Data.seq.inj hd').1
 simp only[List.cons.injEq,Value.int.injEq]at z
 exact Prod.ext z.1.1 (Prod.ext z.2.1.1 z.2.2.1.1)
open Classical in
noncomputable def tsOf(h:Heap)(v:Value):I3:=if q:∃ u,TupI h v u then q.choose else(0,0,0)
theorem tsOf_eq{h:Heap}{v:Value}{u:I3}(x:TupI h v u):tsOf h v=u:=by
 unfold tsOf
 have q:∃ u,TupI h v u:=⟨u,x⟩
 rw[dif_pos q]
 exact q.choose_spec.inj x
end TS
namespace L2
open PySem PySem.Spec PyProof.Rows List
variable {X:Cx}
def q77(K:Fg)(H:Hp)(y:V)(u:TS.I3):Prop:=∃ a,y = .ref a/\SqT K H a [.int u.1,.int u.2.1,.int u.2.2]
noncomputable def absR:Value->V
 | .ref a=>.ref a
 | _=>.non
theorem q209{α β γ:Type}{R:β->γ->Prop}{f:α->β}{g:α->γ}:∀(l:List α),(∀ v∈l,R (f v) (g v))->Paired R (l.map f) (l.map g)
 | [],_=>.nil
 | x::l,h=>.cons (h x (ZQ ..)) (q209 l fun v hv=>h v (ZU _ hv))
theorem q586{s:Shared}(I:Inv X pins σ H s):∀{ys:List V}{us:List TS.I3}{its:List Value},Paired (q77 X.K H) ys us->Vals ys its ->
  (∀ v∈its,TS.TupI s.heap v (TS.tsOf s.heap v)/\q77 X.K H (absR v) (TS.tsOf s.heap v)/\RelV (absR v) v)/\ys=its.map absR/\us=its.map (TS.tsOf s.heap)
 | _,_,_,.nil,.nil=>⟨fun v hv=>absurd hv (by simp),rfl,rfl⟩
 | _,_,_,.cons (a:=y) (b:=u) ht hp,.cons r rr=>by
  obtain⟨h1,h2,h3⟩:=q586 I hp rr
  obtain⟨a,rfl,hq⟩:=ht
  cases r
  obtain⟨its2,r1,p1,_⟩:=I.tuple hq
  obtain⟨o,ho,hc,n,hd⟩:=id p1
  cases r1 with
  | cons q1 r1=>
   cases r1 with
   | cons q2 r1=>
    cases r1 with
    | cons q3 r1=>
     cases r1
     obtain⟨t1,rfl⟩:=q1
     obtain⟨t2,rfl⟩:=q2
     obtain⟨t3,rfl⟩:=q3
     have tp:TS.TupI s.heap (.ref a) u:=⟨a,o,n,t1,t2,t3,rfl,ho,hc,hd⟩
     have e:=TS.tsOf_eq tp
     refine⟨fun v hv=>?_,by rw[YA,<- h2];rfl,by rw[YA,<- h3,e]⟩
     rcases List.mem_cons.mp hv with z | z
     ·rw[z,e]
      exact⟨tp,⟨a,rfl,hq⟩,rfl⟩
     ·exact h1 v z
inductive q388(K:Fg)(xs:List V)(H:Hp)(Q:VK):Prop
 |mk(p:Addr)(ys:List V)(us:List TS.I3)(_:xs=[.ref p])(_:SqL K H p ys)(_:Paired (q77 K H) ys us)(_:∀(l:Addr)(zs:List V)(vs:List TS.I3),H l=none->(zs.zip vs).Perm (ys.zip us)->Paired (q77 K H) zs vs->(vs.Pairwise fun x y=>TS.lex3 y x=false)->Q (.ref l) (upd H l (.lst zs)))
theorem q455{K:Fg}(hK:X.K=K):CallR X (.builtin "sorted") (q388 K):=by
 subst hK
 intro pins s σ H xs us Q I r h
 obtain⟨p,ys,ts,rfl,hq,hp,q⟩:=h
 obtain⟨u,rfl,rx⟩:=vals1 r
 cases rx
 obtain⟨its,r',pl,hz⟩:=I.list hq
 have hl:=r'.length
 obtain⟨h1,h2,h3⟩:=q586 I hp r'
 refine TS.sorted_t (ts:=TS.tsOf s.heap) pl.isList (fun v hv=>(h1 v hv).1) ∅ fun out a1 a2=>?_
 obtain⟨e,he⟩:=PyProof.Rows.sortedAll_at s.heap its out
 have hml:out.toList.length=its.length:=a1.length_eq
 have hm:∀ v∈out.toList,v∈its:=fun v hv=>a1.mem_iff.mp hv
 refine⟨.ref (s.heap.objs.size+1),_,I.laid (t':=s.toks) (a:=s.heap.objs.size+1) (o:=.lst (out.toList.map absR)) (fun b ob z=>PyProof.Rows.sortedAll_old z) (Nat.le_succ _) ?_,rfl,q _ (out.toList.map absR) (out.toList.map (TS.tsOf s.heap)) (I.hok.fresh (Nat.le_succ _)) ?_ ?_ ?_⟩
 ·exists by rw[ZK];lia,out.toList,e,?_
  ·have z:=q209 (R:=RelV) (f:=absR) (g:=id) out.toList fun v hv=>(h1 v (hm v hv)).2.2
   rw[map_id]at z
   exact z
  ·rw[he]
 ·rw[h2,h3,zip_map',zip_map']
  exact a1.map _
 ·exact q209 out.toList fun v hv=>(h1 v (hm v hv)).2.1
 ·rw[pairwise_map]
  exact a2
structure M1(X:Cx)(o:Expr)(m:Str)(apos:Pos)(e:Expr)(cpos:Pos):Prop where
 base:attributeBase o m X.env (eval o X.env)=eval o X.env
 few:((backTo cpos (starEach [e] X.env)).all (fun x=>!x.1)&&(backToKw cpos (keywordEach [] X.env)).all (fun x=>x.1.isSome)
  && decide (([e]:List Expr).length+([]:List Keyword).length+(if([]:List Keyword).isEmpty then 0 else 1)<30))=true
 line:(apos.endLine==cpos.line)=true
 trees:backTo cpos (starEach [e] X.env)=[(false,eval e X.env)]
structure M2(X:Cx)(o:Expr)(m:Str)(apos:Pos)(e f:Expr)(cpos:Pos):Prop where
 base:attributeBase o m X.env (eval o X.env)=eval o X.env
 few:((backTo cpos (starEach [e,f] X.env)).all (fun x=>!x.1)&&(backToKw cpos (keywordEach [] X.env)).all (fun x=>x.1.isSome)
  && decide (([e,f]:List Expr).length+([]:List Keyword).length+(if([]:List Keyword).isEmpty then 0 else 1)<30))=true
 line:(apos.endLine==cpos.line)=true
 trees:backTo cpos (starEach [e,f] X.env)=[(false,eval e X.env),(false,eval f X.env)]
def IsD(H:Hp)(a:Addr):Prop:=(∃ kvs,Rd H a (.dK kvs)) \/ ∃ kvs,Rd H a (.dT kvs)
theorem isD_at{s:Shared}(I:Inv X pins σ H s)(d:IsD H a) :
  s.TypeIs (.ref a) "dict" /\ (∀ b,Value.ref a = .ref b -> ∃ ob,s.heap.get? b=some ob/\ob.dict=none)/\(a==sysModules)=false:=by
 rcases d with ⟨kvs,e⟩ | ⟨kvs,e⟩
 ·obtain⟨_,hd,vs,_,dd⟩:=dk_rd I.hok e
  refine⟨dd.typeIs,fun b q=>?_,hd⟩
  cases q
  obtain⟨ob,_,_,h1,h2,_⟩:=dd
  exact⟨ob,h1,h2.2.1⟩
 ·obtain⟨_,hd,xs,_,dd⟩:=dt_rd I.hok e
  refine⟨dd.typeIs,fun b q=>?_,hd⟩
  cases q
  obtain⟨ob,_,_,h1,h2,_⟩:=dd
  exact⟨ob,h1,h2.2.1⟩
section
variable {pins:List (Addr×Obj)} {σ:St} {H:Hp} {s:Shared} {a:Addr} {y d:V} {u r:Value} {o:Option V} {A:Around} {E:VS}
theorem d_get2(hu:A.units+1<cLine)(I:Inv X pins σ H s)(g:DGet H a y o)(ry:RelV y u)(rd:RelV d r)(h:∀ w' s',Inv X pins σ H s'->RelV (o.getD d) w'->Q w' s') :
  wpAny (model X.prog X.w) A (call (.builtin "dict.get") [.ref a,u,r]) Q E s:=by
 rcases g with ⟨kvs,k,e,ey,l⟩ | ⟨kvs,k,b,e,ey,eb,l⟩
 ·subst ey
  obtain⟨z,hd,vs,rel,dd⟩:=dk_rd I.hok e
  refine call_meetsIn PySem.F.slot_dict_get dd.typeIs PySem.F.entry_dict_get (PySem.F.args_dict_get_3 _ _ _) (meets_dict_get_default (q58 X.prog X.w) a (kV_is ry) hd r) ⟨_,dd.mapOf,h _ _ (I.tok _) ?_⟩
  rw[l]
  exact(rel.val k).getD rd
 ·subst ey
  cases(show u=Value.ref b from ry)
  obtain⟨z,hd,xs,rel,dd⟩:=dt_rd I.hok e
  refine call_meetsIn PySem.F.slot_dict_get dd.typeIs PySem.F.entry_dict_get (PySem.F.args_dict_get_3 _ _ _) (meetsH_dict_get_default (tupleKind (q58 X.prog X.w)) a b hd r) ⟨tupleKind_room_in1 hu,k,xs,q571 I.hok eb,dd,h _ _ (I.tok _) ?_⟩
  rw[l]
  exact(rel.val k).getD rd
end
noncomputable def tDGet2(td ty tx:TE):TE:=fun σ H Q=>td σ H fun x H1=>∃ a,x = .ref a/\IsD H1 a/\ty σ H1 fun y H2=>tx σ H2 fun z H3=>∃ o,DGet H3 a y o/\Q (o.getD z) H3
section
variable{o e f:Expr}{apos cpos:Pos}{td ty tx:TE}
theorem pe_dget2(hu:X.A.units+1<cLine)(ho:PE X o td)(he:PE X e ty)(hf:PE X f tx)(m:M2 X o "get" apos e f cpos):PE X (.Call (.Attribute o "get" apos) [e,f] [] cpos) (tDGet2 td ty tx):=by
 intro pins s σ H Q I h
 refine wpAny_Call_method m.base m.few m.line PySem.F.plainAttrs_dict PySem.F.slot_dict_get PySem.F.type_dict_get (thn (ho pins s σ H _ I h) fun u s1 ⟨x,H1,I1,rx,a,ex,d,q1⟩=>?_)
 subst ex
 obtain rfl:u=Value.ref a:=rx
 obtain⟨t1,t2,_⟩:=isD_at I1 d
 exists t1,t2
 rw[m.trees]
 refine Calls.callWith_builtin rfl (Calls.evalArgs_plain (Calls.spliced_cons (thn (he pins s1 σ H1 _ I1 q1) fun iv s2 ⟨y,H2,I2,ry,q2⟩=>
  Calls.spliced_cons (thn (hf pins s2 σ H2 _ I2 q2) fun fv s3 ⟨z,H3,I3,rz,ov,g,q3⟩=>Calls.spliced_nil ?_))))
 exact d_get2 hu I3 g ry rz fun w' s4 I4 rw'=>⟨_,H3,I4,rw',q3⟩
end
end L2
namespace TS
set_option autoImplicit false
open PySem PySem.W PyProof.Rows List
abbrev I2:=Int×Int
end TS
namespace L2
open PySem PySem.Spec PyProof.Rows List
variable {X:Cx}
theorem Inv.laidM{s:Shared}{h':Heap}{t':Nat}(I:Inv X pins σ H s)(k:∀ b u,s.heap.get? b=some u->h'.get? b=some u)(old:∀ b u,H b=some u->H' b=some u)
  (off:∀ b u,s.heap.get? b=some u->H b=none->H' b=none) (new:∀ b u,H' b=some u->H b=none->ObjOk X.prog X.w H' h' b u):Inv X pins σ H' { s with heap:=h',toks:=t' }:=by
 refine I.un ⟨fun b u q _ _ _=>k b u q,fun b u q _ _ _=>⟨u.slots,k b u q⟩,fun b u q n _=>off b u q n,fun b u q _=>⟨u,k b u q⟩,fun b xs q=>old b _ q,fun b o u q=>old b _ q,fun b ps q=>⟨#[],by rw[old b _ q];simp⟩⟩ fun b u e=>?_
 cases q:H b with
 | none=>exact new b u e q
 | some v=>
  rw[old b v q]at e
  cases e
  exact(I.hok b _ q).stay (fun c v _ q=>k c v q) (fun c q=>old c _ q) fun c xs q=>old c _ q
theorem q725:∀{ks:List TS.I2} {vs:List (Key×Value)},KV (ks.map fun p=>((Sum.inl p.1:Key),V.int p.2)) vs -> ∀{j:Nat}{k:Key}{x:Value},vs[j]? = some (k,x) -> ∃ p t,ks[j]? = some p/\k=Sum.inl p.1/\x = .int p.2 t
 | [],_,.nil,j,k,x,h=>by simp at h
 | p::ks,_,.cons (b:=q) ⟨e1,r⟩ t,0,k,x,h=>by
  cases h
  obtain⟨t,e2⟩:=r
  exact⟨p,t,rfl,e1.symm,e2⟩
 | p::ks,_,.cons _ t,j+1,k,x,h=>q725 t (by simpa using h)
theorem key_int{i:Int}(h:(q58 prog w).is (Sum.inl i) key=true):∃ t,key = .int i t:=by
 rcases q44 (show keyIs (Sum.inl i) key=true from h)with ⟨j,t,e,rfl⟩ | ⟨x,t,e,rfl⟩
 ·cases e
  exact⟨t,rfl⟩
 ·cases e
end L2
namespace TS
set_option autoImplicit false
open PySem
abbrev Up(l:List Nat):Prop:=l.Pairwise (·<·)
structure GT(b:Bool)(t:SetTable):Prop where
 led:t.led=b
 up:t.plain=true->Up t.place.toList
end TS
namespace TS
set_option autoImplicit false
open PySem
noncomputable def byT(w:World):Bool:=w.params.followText "set-order"
noncomputable def kOf:Value->Int
 | .int k _=>k
 | _=>0
def AllI(vs:List Value):Prop:=∀ v∈vs,∃ k t,v=Value.int k t
structure SetS(prog:Program)(w:World)(o:Obj)(es:Array (Int×Value))(ep:Nat)(t:SetTable)(ks:List Int):Prop where
 ex:o.ExactSet
 dat:o.data = .set es ep t
 el:ElemsOf (intKind prog w) es.toList
 few:es.size<scanBound
 fit:t.fits es.size=true
 gt:GT (!(byT w)) t
 pm:(es.toList.map fun e=>kOf e.2).Perm ks
 nd:ks.Nodup
end TS
namespace TS
set_option autoImplicit false
open PySem PySem.W PyProof.Rows List
section
variable {prog:Program} {w:World} {A:Around} {E:VS} {s:Shared}
theorem q528{κ:SortKind}{P:Value->Prop}{lt:Value->Value->Bool}{a:Addr}{vs:List Value}{n:Nat}{Q:PySem.Fin->Shared->Prop}(ho:s.heap.get? a=some (seqObj "list" vs.toArray n)) (hz:vs.length<=sizeLine)
  (hk:∀ h6:Heap,(∀ b o,b≠a->s.heap.get? b=some o->h6.get? b=some o)->2<=vs.length -> ∀ Q':SortKind->Shared->Prop,Q' κ { s with heap:=h6 }->wpAny (model prog w) A (keyKind' vs.toArray) Q' E { s with heap:=h6 })
  (hg:∀ h6:Heap,(∀ b o,b≠a->s.heap.get? b=some o->h6.get? b=some o)->Good prog w A E κ (fun x=>P x.1) (fun x y=>lt x.1 y.1) { s with heap:=h6 })
  (ht:Tot (fun x=>P x.1) (fun x y=>lt x.1 y.1)) (hP:∀ v∈vs,P v)
  (h:∀ out:Array Value,out.toList.Perm vs->(out.toList.Pairwise fun x y=>lt y x=false)->Q (.done (.ret .none)) { s with heap:=sortedHeap s.heap a vs out }):wpAny (model prog w) A (Builtin.«list.sort» ⟨[.ref a],[]⟩) Q E s:=by
 have hvz:vs.toArray.size=vs.length:=WC ..
 obtain⟨e1,ho1⟩:∃ e1,(s.heap.update a (Obj.mapSeq fun _=>(#[]:Array Value))).get? a=some (seqObj "list" #[] e1):=⟨_,get?_update_seq ho fun _=>#[]⟩
 rw[list_sort_plain]
 refine ZA (listItems_at ho rfl (ZA (listUpdate_at ho rfl ?_ (by rw[hvz];exact hz) (ZX _))))
 refine ZA (seqEpoch_at ho1 rfl (ZA (wpAny_newTuple (ZA (wpAny_newList (YU ?_) (ZX _))) (by show vs.length<=_;exact hz))))
 obtain⟨h6,e6⟩:∃ h6,h6=((s.heap.update a (Obj.mapSeq fun _=>(#[]:Array Value))).push (seqObj "tuple" vs.toArray 0)).push (seqObj "list" #[] 0):=⟨_,rfl⟩
 have ho6:h6.get? a=some (seqObj "list" #[] e1):=by
  rw[e6]
  exact ZE _ (ZE _ ho1)
 have k6:∀ b o,b≠a->s.heap.get? b=some o->h6.get? b=some o:=fun b o hb z=>by
  rw[e6]
  exact ZE _ (ZE _ (((Heap.SameBut.update s.heap a (Obj.mapSeq fun _=>(#[]:Array Value))).2 b hb).trans z))
 show wpAny (model prog w) A _ Q E { s with heap:=((s.heap.update a (Obj.mapSeq fun _=>(#[]:Array Value))).push (seqObj "tuple" vs.toArray 0)).push (seqObj "list" #[] 0) }
 have hfin:∀ out:Array Value,out.toList.Perm vs->(out.toList.Pairwise fun x y=>lt y x=false)->Q (.done (.ret .none)) { s with heap:=h6.update a (Obj.mapSeq fun _=>out) }:=fun out p1 p2=>by
  rw[e6]
  exact h out p1 p2
 rw[<- e6]
 dsimp only
 by_cases h2:vs.toArray.size<2
 ·rw[ZL h2,ZL h2]
  refine ZA (ZO ?_)
  rw[StateT.run_pure]
  refine ZA (ZO ?_)
  dsimp only
  have eo:((arrOf (SortSt.mk' general' (vs.toArray.zip vs.toArray) #[] 7 none)).map (·.2))=vs.toArray:=by
   show(vs.toArray.zip vs.toArray).map (·.2)=vs.toArray
   apply Array.toList_inj.mp
   simp[map_snd_zip]
  rw[eo]
  refine ZA (seqEpoch_at ho6 rfl (ZA (listUpdate_at ho6 rfl ?_ (ZX _) (by rw[hvz];exact Nat.le_succ_of_le hz))))
  simp only[bne_self_eq_false,Bool.false_eq_true,if_false]
  refine ZO (hfin vs.toArray (List.Perm.refl _) ?_)
  match vs,h2 with
  | [],_=>exact .nil
  | [x],_=>exact pairwise_singleton _ _
  | x::y::l,h2=>exact absurd h2 (by simp)
 ·rw[ZJ h2,ZJ h2]
  refine ZA (hk h6 k6 (by rw[<- hvz];exact Nat.not_lt.mp h2) _ ?_)
  have zl:(vs.toArray.zip vs.toArray).toList=vs.zip vs:=by simp
  have pz:∀ x∈(vs.toArray.zip vs.toArray).toList,P x.1:=fun x hx=>by
   rw[zl]at hx
   exact hP _ (mem_zip_self hx).2
  have run:=q454 (prog:=prog) (w:=w) (A:=A) (E:=E) (hg h6 k6) ht (Q:=fun _ st' s'=>s' = { s with heap:=h6 }/\failedOf st'=none/\(arrOf st').Perm (vs.toArray.zip vs.toArray)/\Asc (fun x y=>lt x.1 y.1) (arrOf st') 0 (arrOf st').size)
   (st:=SortSt.mk' κ (vs.toArray.zip vs.toArray) #[] 7 none) rfl rfl rfl pz (by show 1<=(vs.toArray.zip vs.toArray).size;simp;lia) (fun st' f1 f2 f3=>⟨rfl,f1,f2,f3⟩)
  refine ZA (WX run ?_ fun _ _ e=>e)
  rintro ⟨⟨⟩,st'⟩ s' ⟨rfl,f1,f2,f3⟩
  dsimp only
  have p0:=Array.perm_iff_toList_perm.mp f2
  rw[zl]at p0
  have osz:((arrOf st').map (·.2)).size=vs.length:=by
   rw[Array.size_map,<- WY,p0.length_eq]
   simp
  refine ZA (seqEpoch_at ho6 rfl (ZA (listUpdate_at ho6 rfl ?_ (ZX _) (ZT (Nat.le_of_eq osz) (Nat.le_succ_of_le hz)))))
  rw[f1]
  simp only[bne_self_eq_false,Bool.false_eq_true,if_false]
  refine ZO (hfin _ ?_ ?_)
  ·rw[Array.toList_map]
   refine(p0.map _).trans (List.Perm.of_eq ?_)
   exact map_snd_zip (ZF _)
  ·rw[Array.toList_map,pairwise_map]
   have sr:Srt (fun x y=>lt x.1 y.1) (arrOf st').toList:=q584 fun p q g1 g2=>by
    have:=f3 p q g1 g2
    rw[YL,YL]at this
    exact this
   refine List.Pairwise.imp_of_mem ?_ sr
   intro x y hx hy hxy
   have ex:=(mem_zip_self (p0.mem_iff.mp hx)).1
   have ey:=(mem_zip_self (p0.mem_iff.mp hy)).1
   rw[<- ex,<- ey]
   exact hxy
noncomputable def ltI(x y:Value):Bool:=decide (kOf x<kOf y)
theorem good_i:Good prog w A E oneType' (fun x=>∃ k t,x.1=Value.int k t) (fun x y=>ltI x.1 y.1) s:=by
 intro x y st Q hx hy hk hq
 rw[lt'_eq]
 refine ZN (kasC_get (ZN (kasC_lift (wpAny_attempt ?_))))
 rw[hk]
 obtain⟨x1,x2⟩:=x
 obtain⟨y1,y2⟩:=y
 obtain⟨k,t,rfl⟩:=hx
 obtain⟨k',t',rfl⟩:=hy
 exact kat_lt_int (E:=_) (ZR hq)
theorem tot_i:Tot (fun x:Keyed=>∃ k t,x.1=Value.int k t) (fun x y=>ltI x.1 y.1):=
 ⟨fun x y z _ _ _ h1 h2=>by unfold ltI at *;rw[decide_eq_false_iff_not]at *;lia,fun x y _ _ h=>by unfold ltI at *;rw[WV]at h;rw[decide_eq_false_iff_not];lia⟩
theorem q587:∀(vs:List Value),AllI vs->IntsAre vs (vs.map kOf)
 | [],_=>.nil
 | v::vs,h=>by
  obtain⟨k,t,rfl⟩:=h v (.head _)
  exact .cons k t (q587 vs fun u hu=>h u (.tail _ hu))
end
end TS
namespace L2
open PySem PySem.Spec PyProof.Rows List
variable {X:Cx}
theorem q588:∀(vs:List Value),TS.AllI vs->Vals ((vs.map TS.kOf).map V.int) vs
 | [],_=>.nil
 | v::vs,h=>by
  obtain⟨k,t,rfl⟩:=h v (.head _)
  exact .cons ⟨t,rfl⟩ (q588 vs fun u hu=>h u (.tail _ hu))
inductive gLst(K:Fg)(n:Nat)(t:TGs)(v:V)(σ:St)(H:Hp)(Q:St->Hp->Prop):Prop
 |mk(a xs)(_:v = .ref a)(_:SqL K H a xs)(_:xs.length=n)(_:t xs σ H Q)
theorem pg_lstT{k:Nat}{n:Nat}{pos:Pos}(hc:X.calm=true)(h:PGs X es t)
  (hn:(assignEach es X.env).length=n:=by rfl) (hst:(assignEach es X.env).findIdx? (·.1)=none:=by rfl):PG X (.Tuple es k pos) (gLst X.K n t):=by
 intro pins s σ H v u Q I r hw
 obtain⟨a,xs,e1,hq,hl,hw⟩:=hw
 subst e1
 cases r
 obtain⟨its,rv,pl,hz⟩:=I.list hq
 have hsz:(assignEach es X.env).length=its.toArray.size:=by rw[hn,<- hl,rv.length,WC]
 rw[assign_Tuple]
 refine ZA (wpAny_standAt ?_)
 unfold unpack
 rw[hsz,hst]
 refine ZA (YU (PySem.W.kun_itemsOf (I.ok.hd hc) pl.isList fun h' hx=>?_))
 have I1:Inv X pins σ H { s with heap:=h' }:=I.kept (t':=s.toks) fun b o e=>hx b o (WN (ZW e)) e
 exact h pins _ σ H xs _ Q I1 (by simpa using rv) hw
section
variable {st:Stmt} {t:TS}
inductive tJoin(t:TS)(D:Ends)(σ:St)(H:Hp):Prop
 |mk(R:St->Hp->Prop)(_:t { D with nx:=R } σ H)(_:∀ σ' H',R σ' H'->D.nx σ' H')
theorem q389(h:PS X st t):PS X st (tJoin t):=by
 intro pins s σ H D I ⟨R,h1,h2⟩
 refine thn (h pins s σ H { D with nx:=R } I h1) fun f s1 q=>?_
 cases f with
 | next=>
  obtain⟨σ',H',I',q⟩:=q
  exact⟨σ',H',I',h2 _ _ q⟩
 | ret v=>exact q
 | brk=>exact q
 | cont=>exact q
end
theorem q42{σ:St}{H:Hp}(h:∀ N:St->Hp->Prop,(∀ σ' H',u D σ' H'->N σ' H')->t { D with nx:=N } σ H):tSeq t u D σ H:=h _ fun _ _ x=>x
inductive q650  (x:V) (xs:List V) (H:Hp) (Q:VK):Prop
 |mk(a b)(_:x = .str a)(_:xs=[.str b])(_:Q (.bl (Txt.startswith a b)) H)
theorem q726:MtR X "str.startswith" q650:=by
 intro pins s σ H x xs v us Q I rx rv h
 obtain⟨a,b,rfl,rfl,q⟩:=h
 obtain⟨t,rfl⟩:=rx
 obtain⟨u,rfl,ru⟩:=rv.one
 obtain⟨t2,rfl⟩:=ru
 exact SC.startswith ⟨.bl _,H,I,rfl,q⟩
inductive q651  (xs:List V) (H:Hp) (Q:VK):Prop
 |mk(x n)(_:xs=[.str x])(_:x.length<=640)(_:PySem.intText? x=some n)(_:Q (.int n) H)
theorem q727:CallR X (.type "int") q651:=by
 intro pins s σ H xs us Q I r h
 obtain⟨x,n,rfl,hl,hn,q⟩:=h
 obtain⟨u,rfl,t,rfl⟩:=vals1 r
 exact PySem.W.KIN.call_text hn hl ⟨.int n,H,I.tok _,⟨_,rfl⟩,q⟩
inductive Rsl_str  (x:V) (lo:Option Int) (hi:Option Int) (H:Hp) (Q:VK):Prop
 |mk(a)(_:x = .str a)(_:a.length<=sizeLine)(_:Q (.str (Txt.slice a lo hi)) H)
theorem sl_str:SlR X Rsl_str:=by
 intro pins s σ H x v vl vu lo hi sl Q I rx hs pl pu h
 obtain⟨a,rfl,hz,q⟩:=h
 obtain⟨t,rfl⟩:=rx
 exists "str", _,F.slot_str_getitem.lookup,typeIs_str _ _ _
 have fin:∀ t' k,EP X pins σ Q (.str (Txt.slice a lo hi) t') { s with toks:=k }:=fun t' k=>⟨.str _,H,I.tok k,⟨_,rfl⟩,q⟩
 cases pl with
 | none=>
  cases pu with
  | none=>exact wpAny_getItem_str_slice (l:=none) (u:=none) (st:=none) hs rfl (post_val_or_str ⟨ZT (Txt.slice_le a _ _) hz,fin⟩)
  | int j uj=>exact wpAny_getItem_str_slice (l:=none) (u:=some (j,uj)) (st:=none) hs rfl (post_val_or_str ⟨ZT (Txt.slice_le a _ _) hz,fin⟩)
 | int i ui=>
  cases pu with
  | none=>exact wpAny_getItem_str_slice (l:=some (i,ui)) (u:=none) (st:=none) hs rfl (post_val_or_str ⟨ZT (Txt.slice_le a _ _) hz,fin⟩)
  | int j uj=>exact wpAny_getItem_str_slice (l:=some (i,ui)) (u:=some (j,uj)) (st:=none) hs rfl (post_val_or_str ⟨ZT (Txt.slice_le a _ _) hz,fin⟩)
theorem q728:∀{ts:List Str}{its:List Value},Vals (ts.map V.str) its -> ∃ l:List (Str×Tok),strValues l=its/\l.map (·.1)=ts
 | [],_,.nil=>⟨[],rfl,rfl⟩
 | x::ts,_,.cons r rr=>by
  obtain⟨t,rfl⟩:=r
  obtain⟨l,h1,h2⟩:=q728 rr
  exact⟨(x,t)::l,by rw[<- h1];rfl,by rw[YA,h2]⟩
inductive q589(K:Fg)(x:V)(xs:List V)(H:Hp)(Q:VK):Prop
 |mk(a D ts)(_:x = .str a)(_:xs=[.ref D])(_:SqL K H D (ts.map V.str))(_:JoinOk a ts=true)(_:Q (.str (Txt.join a ts)) H)
theorem q130:MtR X "str.join" (q589 X.K):=by
 intro pins s σ H x xs v us Q I rx rv h
 obtain⟨a,D,ts,rfl,rfl,hD,hok,q⟩:=h
 obtain⟨t,rfl⟩:=rx
 obtain⟨u,rfl,ru⟩:=rv.one
 cases ru
 obtain⟨its,r,p,hz⟩:=I.list hD
 obtain⟨l,h1,h2⟩:=q728 r
 exact SC.join (l:=l) (by rw[h1];exact p.isList) h2 hok fun t' k=>⟨.str _,H,I.tok k,⟨_,rfl⟩,q⟩
theorem q456:∀(l:List (Str×Tok)),Vals ((l.map (·.1)).map V.str) (strValues l)
 | []=>.nil
 | p::l=>.cons ⟨p.2,rfl⟩ (q456 l)
open Builtin Builtin.Str in
inductive q729  (x:V) (xs:List V) (H:Hp) (Q:VK):Prop
 |mk(a b)(_:x = .str a)(_:xs=[.str b])(_:(b.length==0)=false)(_:a.length<=sizeLine)(_:(partsBetween a (occurrences a b 0 a.length (a.length+1)) b.length).length<=sizeLine)(_:(Txt.split a b).length<=sizeLine)(_:∀ l,H l=none->Q (.ref l) (upd H l (.lst ((Txt.split a b).map V.str))))
open Builtin Builtin.Str in
theorem q390:MtR X "str.split" q729:=by
 intro pins s σ H x xs v us Q I rx rv h
 obtain⟨a,b,rfl,rfl,nb,za,zp,zs,q⟩:=h
 obtain⟨ta,rfl⟩:=rx
 obtain⟨u,rfl,ru⟩:=rv.one
 obtain⟨tb,rfl⟩:=ru
 have fin:∀(l:List (Str×Tok)) (k:Nat),l.map (·.1)=Txt.split a b->EP X pins σ Q (.ref s.heap.objs.size) { s with heap:=s.heap.push { cls:=.type "list", data:=.seq (strValues l).toArray },toks:=k }:=fun l k e=>by
  refine⟨.ref s.heap.objs.size,_,I.laid (t':=k) (a:=s.heap.objs.size) (o:=.lst ((Txt.split a b).map V.str)) (fun b ob z=>ZE _ z) (ZF _) ?_,rfl,q _ (I.hok.fresh (ZF _))⟩
  refine⟨by rw[ZK];exact zs,strValues l,0,?_,ZY _ rfl⟩
  rw[<- e]
  exact q456 l
 have met:∀{m},Meets _ m->_->wpAny (model X.prog X.w) X.A (call (.builtin "str.split") [.str a ta,.str b tb]) (EP X pins σ Q) X.xe s:=fun hm hp=>call_meets F.slot_str_split (typeIs_str _ _ _) F.entry_str_split (F.args_str_split_2 _ _) hm hp
 by_cases c1:(decide (a.length<b.length)||decide (strKind a<strKind b))=true
 ·exact met (meets_str_split_cannot_occur a b ta tb c1) (fin [(a,ta)] s.toks (ZL c1).symm)
 by_cases c2:(occurrences a b 0 a.length (a.length+1)).isEmpty=true
 ·exact met (meets_str_split_not_found a b ta tb (eq_false_of_ne_true c1) nb c2) (fin [(a,ta)] s.toks ((ZJ c1).trans (ZL c2)).symm)
 refine met (meets_str_split_sep a b ta tb (eq_false_of_ne_true c1) nb (eq_false_of_ne_true c2) za zp) ?_
 have z:=fin (numbered s.toks (partsBetween a (occurrences a b 0 a.length (a.length+1)) b.length)) (s.toks+(partsBetween a (occurrences a b 0 a.length (a.length+1)) b.length).length) ((numbered_texts _ _).trans ((ZJ c1).trans (ZJ c2)).symm)
 rw[<- strsFrom_eq]at z
 exact z
noncomputable def Its(x:Str):It:=⟨fun i _=>i<x.cps.size,fun i H v H'=>H'=H /\ ∃ c,x.cps[i]? = some c/\v = .str ⟨#[c]⟩,fun i _=>x.cps.size<=i⟩
theorem q652{P:Program}{w:World}{K:Fg}{tg:Expr}(x:Str)(t:Tok)(it:Addr):Turn P w K tg (Its x) [it] it (fun i h=>h.IsStrIter it "str_ascii_iterator" x t i) where
 mem:=by simp
 obj:=fun i h st b hb=>by
  have e:b=it:=by simpa using hb
  subst e
  obtain⟨o,e,c,d⟩:=st
  exact⟨o,e,fun v z=>by rw[d]at z;cases z⟩
 keep:=fun i h h' st k=>by
  obtain⟨o,e,c,d⟩:=st
  exact⟨o,k it (by simp) o e,c,d⟩
 item:=by
  intro X hP hw hK hc i pins s σ H E I hf st hg
  subst hP hw hK
  obtain⟨f0,f1,f2,f3,f4,f5⟩:=hf it (by simp)
  have hx:x.cps[i]? = some (x.cps[i]'hg):=Array.getElem?_eq_getElem hg
  refine wpAny_pyNext_ascii_item st hx fun h' st' sb=>?_
  have I1:Inv X pins σ H { s with heap:=h',toks:=s.toks+1 }:=I.turned (t':=s.toks+1) (fun b o hb e=>(sb.2 b hb).trans e) f0 f1 f3 f4 f5
  obtain⟨o,e,c,d⟩:=id st'
  exact⟨_,rfl,go_of (s:={ s with heap:=h',toks:=s.toks+1 }) e c d {} ⟨.str ⟨#[x.cps[i]'hg]⟩,H,I1,⟨_,rfl⟩,⟨rfl,_,hx,rfl⟩,st',fun b hb=>(hf b hb).1⟩⟩
 done:=by
  intro X hP hw hK hc i pins s σ H E I hf st hg
  subst hP hw hK
  obtain⟨f0,f1,f2,f3,f4,f5⟩:=hf it (by simp)
  have hg':x.cps.size<=i:=hg
  exact wpAny_pyNext_ascii_end (I.ok.hd hc) st (by simp[hg']) fun h' eb=>⟨rfl,I.turned (t':=s.toks) (fun b o hb e=>eb b o hb e) f0 f1 f3 f4 f5⟩
 self:=fun _ _ _ _ _ st h=>wpAny_pyIter_striter_ascii st h
theorem q730{P:Program}{w:World}{K:Fg}{tg:Expr}(x:Str)(t:Tok)(it:Addr):Turn P w K tg (Its x) [it] it (fun i h=>h.IsStrIter it "str_iterator" x t i) where
 mem:=by simp
 obj:=fun i h st b hb=>by
  have e:b=it:=by simpa using hb
  subst e
  obtain⟨o,e,c,d⟩:=st
  exact⟨o,e,fun v z=>by rw[d]at z;cases z⟩
 keep:=fun i h h' st k=>by
  obtain⟨o,e,c,d⟩:=st
  exact⟨o,k it (by simp) o e,c,d⟩
 item:=by
  intro X hP hw hK hc i pins s σ H E I hf st hg
  subst hP hw hK
  obtain⟨f0,f1,f2,f3,f4,f5⟩:=hf it (by simp)
  have hx:x.cps[i]? = some (x.cps[i]'hg):=Array.getElem?_eq_getElem hg
  refine wpAny_pyNext_wide_item st hx fun h' st' sb=>?_
  have I1:Inv X pins σ H { s with heap:=h',toks:=s.toks+1 }:=I.turned (t':=s.toks+1) (fun b o hb e=>(sb.2 b hb).trans e) f0 f1 f3 f4 f5
  obtain⟨o,e,c,d⟩:=id st'
  exact⟨_,rfl,go_of (s:={ s with heap:=h',toks:=s.toks+1 }) e c d {} ⟨.str ⟨#[x.cps[i]'hg]⟩,H,I1,⟨_,rfl⟩,⟨rfl,_,hx,rfl⟩,st',fun b hb=>(hf b hb).1⟩⟩
 done:=by
  intro X hP hw hK hc i pins s σ H E I hf st hg
  subst hP hw hK
  obtain⟨f0,f1,f2,f3,f4,f5⟩:=hf it (by simp)
  have hg':x.cps.size<=i:=hg
  exact wpAny_pyNext_wide_end (I.ok.hd hc) st (by simp[hg']) fun h' eb=>⟨rfl,I.turned (t':=s.toks) (fun b o hb e=>eb b o hb e) f0 f1 f3 f4 f5⟩
 self:=fun _ _ _ _ _ st h=>wpAny_pyIter_striter_wide st h
section
variable {tg:Expr}
noncomputable def iStr(tl:TE):TI:=fun σ H R=>tl σ H fun v H1=>∃ x,v = .str x/\R (Its x) H1
theorem pi_str{l:Expr}{tl:TE}(hl:PE X l tl):PI X tg l (iStr tl):=by
 intro pins s σ H R I h
 refine thn (hl pins s σ H _ I h) fun v s1 ⟨v0,H1,I1,r1,q1⟩=>?_
 obtain⟨x,e,q⟩:=q1
 subst e
 obtain⟨t,rfl⟩:=r1
 have hb:∀ b∈[s1.heap.objs.size],FpOk X pins H1 b:=fun b hb=>by
  have e:b=s1.heap.objs.size:=by simpa using hb
  subst e
  exact I1.fpOk (ZF _) (I1.hok.fresh (ZF _))
 cases ha:x.cps.all (·<128)
 ·refine wpAny_pyIter_wide ha ?_
  exact⟨s1.heap.objs.size,[s1.heap.objs.size],_,_,H1,rfl,I1.kept (t':=s1.toks) fun b o e=>ZE _ e,q730 x t _,⟨_,ZY _ rfl,rfl,rfl⟩,hb,q⟩
 ·refine wpAny_pyIter_ascii ha ?_
  exact⟨s1.heap.objs.size,[s1.heap.objs.size],_,_,H1,rfl,I1.kept (t':=s1.toks) fun b o e=>ZE _ e,q652 x t _,⟨_,ZY _ rfl,rfl,rfl⟩,hb,q⟩
end
theorem q590{x:Str}{g:Nat->V}{Te:V->Hp->(V->Hp->Prop)->Prop}{D:Addr}{H1:Hp}{R:Hp->Prop}
  (hD:H1 D=none) (hn:x.length<=sizeLine) (hE:∀ c∈x.cps.toList,∀(H:Hp)(Q:V->Hp->Prop),Same H1 H->Q (g c) H->Te (.str ⟨#[c]⟩) H Q) (hR:R (upd H1 D (.lst (x.cps.toList.map g)))) :
  ∃ W:Nat->Nat->List V->Hp->Prop,(∃ m,W 0 m [] (upd H1 D (.lst []))) /\
   ∀ i m ys H2,W i m ys H2->H2 D=some (.lst ys)/\(((Its x).stop i H2/\R H2)\/((Its x).go i H2/\ys.length<sizeLine /\ ∃ N:V->Hp->Prop,(∀ y H3,N y H3->H3 D=some (.lst ys) /\ ∃ m',m'<m/\W (i+1) m' (ys++[y]) (upd H3 D (.lst (ys++[y])))) /\
    ∀ v H',(Its x).yld i H2 v H'->Te v H' N)):=by
 have hl:x.cps.toList.length=x.cps.size:=by simp
 have hl2:x.length=x.cps.size:=rfl
 exists fun i m ys H=>m=x.cps.size-i/\i<=x.cps.size/\ys=(x.cps.toList.take i).map g/\H=upd H1 D (.lst ys),⟨x.cps.size,by simp,ZX _,by simp,rfl⟩
 rintro i m ys H2 ⟨rfl,hi,hy,rfl⟩
 exists q13
 by_cases c:i<x.cps.size
 ·right
  exists c,?_,fun y H3=>y=g x.cps[i]/\H3=upd H1 D (.lst ys),?_
  ·rw[hy,ZK,WL]
   lia
  ·rintro y H3 ⟨rfl,rfl⟩
   refine⟨q13,_,?_,rfl,c,?_,q109⟩
   ·exact W2 c
   ·rw[hy,WK,WF]
    congr 1
    rw[YC]
    simp[c]
  ·rintro v H' ⟨rfl,d,hd,rfl⟩
   have e:d=x.cps[i]:=by
    rw[Array.getElem?_eq_getElem c]at hd
    exact(Option.some.inj hd).symm
   subst e
   exact hE _ (by simp) _ _ (q16 hD _) ⟨rfl,rfl⟩
 ·left
  exists Nat.le_of_not_lt c
  have e:i=x.cps.size:=(W29 hi c)
  rw[hy,e,<- hl,WS]
  exact hR
set_option maxRecDepth 8000 in
open Builtin AutoSeq1 in
structure DefA(K:Fg)(mg:Mg)(al x:Str)(st:Stmt)(ps:List Str):Prop where
 ex:∃(f:Addr)(fd:FuncData),Fun K x x st f fd/\(∀ us:List Value,us.length=ps.length->bindArgs fd ⟨us,[]⟩=pure (ps.zip us))/\mg al=some (.ref f)
structure MDef(K:Fg)(C:Addr)(m qual:Str)(st:Stmt)(ps:List Str):Prop where
 ex:∃(f:Addr)(fd:FuncData),Meth K C m f/\Fun K m qual st f fd /\ ∀ us:List Value,us.length=ps.length->bindArgs fd ⟨us,[]⟩=pure (ps.zip us)
structure MCal(P:Program)(w:World)(K:Fg)(mg:Mg)(base:Heap)(k:Nat)(C:Addr)(m:Str)(ps:List Str)(sp:Sp):Prop where
 cl:Cls K C
 ex:∃(f:Addr)(fd:FuncData),Meth K C m f/\FnOk P w K mg base CX0 k f fd ps sp/\Binds K fd ps []
structure IDef(K:Fg)(C:Addr)(qual:Str)(st:Stmt)(ps:List Str):Prop where
 ex:∃(f:Addr)(fd:FuncData),Mk K C f/\Fun K "__init__" qual st f fd /\ ∀ us:List Value,us.length=ps.length->bindArgs fd ⟨us,[]⟩=pure (ps.zip us)
structure ICal(P:Program)(w:World)(K:Fg)(mg:Mg)(base:Heap)(k:Nat)(C:Addr)(ps:List Str)(sp:Sp):Prop where
 ex:∃(f:Addr)(fd:FuncData),Mk K C f/\FnOk P w K mg base CX0 k f fd ps sp/\Binds K fd ps []
section
variable {P:Program} {w:World} {K:Fg} {mg:Mg} {base:Heap} {k:Nat} {C:Addr} {al x m qual:Str} {st:Stmt} {ps:List Str} {sp:Sp}
theorem MDef.cal(d:MDef K C m qual st ps)(c:Cls K C)(F:∀(f:Addr)(fd:FuncData),Fun K m qual st f fd->FnOk P w K mg base CX0 k f fd ps sp):MCal P w K mg base k C m ps sp:=by
 obtain⟨f,fd,h1,h2,h3⟩:=d.ex
 exact⟨c,f,fd,h1,F f fd h2,.all h3⟩
theorem IDef.cal(d:IDef K C qual st ps)(F:∀(f:Addr)(fd:FuncData),Fun K "__init__" qual st f fd->FnOk P w K mg base CX0 k f fd ps sp):ICal P w K mg base k C ps sp:=by
 obtain⟨f,fd,h1,h2,h3⟩:=d.ex
 exact⟨f,fd,h1,F f fd h2,.all h3⟩
end
section
variable {k:Nat} {C:Addr} {m x:Str} {ps:List Str} {sp:Sp} {p apos pos:Pos} {o e:Expr} {es:List Expr} {to:TE} {t:TA}
theorem q122{pl:Sem Bool}(c:MCal X.prog X.w X.K X.mg X.base k C m ps sp)(hr:Room k X.A)(ho:PE X o to)(ha:PA X (e::es) t)
  (hst:starEach (e::es) X.env=(false,eval e X.env)::starEach es X.env:=by rfl) (hpl:(backTo pos (starEach es X.env)).any (·.1)=false:=by rfl)
  (ht:eval (.Call (.Attribute o m apos) (e::es) [] pos) X.env=(do
   let ov <- eval o X.env
   standAt apos.atName
   let (f,first) <- holding [ov] (getMethod ov m pl)
   callWith pos f first (backTo pos (starEach (e::es) X.env)) (backToKw pos (keywordEach [] X.env))):=by rfl) :
  PE X (.Call (.Attribute o m apos) (e::es) [] pos) (tMeth C m sp [] E0 to t):=by
 obtain⟨f,fd,hm,F,B⟩:=c.ex
 exact pe_meth ho c.cl hm F hr B .nil pass0 ha hst hpl ht
theorem pe_mk(c:ICal X.prog X.w X.K X.mg X.base k C ps sp)(hr:Room (k+1) X.A)(hg:Gl X x)(hm:X.mg x=some (.ref C))(ha:PA X (e::es) t)(hdb:(x==("__debug__" : Str))=false:=by decide)
  (he:starEach (e::es) X.env=(false,eval e X.env)::starEach es X.env:=by rfl) (hpl:(backTo pos (starEach es X.env)).any (·.1)=false:=by rfl) :
  PE X (.Call (.Name x p) (e::es) [] pos) (tMake C sp [] E0 t):=by
 obtain⟨f,fd,M,F,B⟩:=c.ex
 exact pe_make M F hr hg hm B .nil pass0 ha hdb he hpl
end
end L2
namespace L2
open PySem PySem.Spec PyProof.Rows PyProof.Rows.KTD
variable {X:Cx}
section
variable {prog:Program} {w:World} {A:Around} {E:VS} {s:Shared} {h₀:Heap} {a:Addr} {δ:Type} {R:δ->Value->Prop} {D:List (Str×δ)} {k:Str} {tk:Tok}
theorem q275(T:TabOf R h₀ a D)(hk:∀ b o,h₀.get? b=some o->s.heap.get? b=some o)(h1:∀ d v,datumAt k D=some d->R d v->Q (some v) { s with toks:=s.toks+1 })
  (h2:datumAt k D=none->Q none { s with toks:=s.toks+1 }):wpAny (model prog w) A (dictGet a (.str k tk)) Q E s:=by
 obtain⟨hm,o,es,ep,ho,hc,hd,hr⟩:=T
 have ho:=hk a o ho
 unfold dictGet
 refine YU (ZA (wpAny_pyHash_str (ZA (kt_dictFind_strs ho hd ?_ ?_))))
 ·obtain⟨l⟩:=es
  simpa using hr.exact
 ·have hq:Q (findBy (fun k v=>Value.isStr v k) es k) { s with toks:=s.toks+1 }:=by
   have hf:findBy (fun k v=>Value.isStr v k) es k=Option.map (fun x=>DictEntry.val x) (List.find? (fun e=>Value.isStr (DictEntry.key e) k) es.toList):=by
    obtain⟨l⟩:=es
    simp[findBy]
   rw[hf]
   cases hat:datumAt k D with
   | none=>rw[hr.find_none hat];exact h2 hat
   | some d=>
    obtain⟨v,hv,hfl⟩:=hr.find_some hat
    rw[hv]
    exact h1 d v hat hfl
  rw[findBy_of_findIdx? (fun k v=>Value.isStr v k) es k]at hq
  cases hi:Array.findIdx? (fun e=>Value.isStr (DictEntry.key e) k) es with
  | none=>
   rw[hi]at hq
   exact ZO hq
  | some i=>
   rw[hi]at hq
   exact ZA (wpAny_dictEntries ho hd (ZO hq))
theorem q391(T:TabOf R h₀ a D)(hk:∀ b o,h₀.get? b=some o->s.heap.get? b=some o):s.TypeIs (.ref a) "dict" := by
 obtain⟨hm,o,es,ep,ho,hc,hd,hr⟩:=T
 exact⟨o,hk a o ho,hc.1⟩
theorem q731(T:TabOf R h₀ a D)(hk:∀ b o,h₀.get? b=some o->s.heap.get? b=some o)(h:Q (.bool !inKeys k D) { s with toks:=s.toks+1 }):wpAny (model prog w) A (compareOp .NotIn (.str k tk) (.ref a)) Q E s:=by
 have ty:=q391 T hk
 refine id (ZA (id (YU (ZA (wpAny_specialOf ty (Slot.lookup slot_dict_contains) (id ?_))))))
 rw[ZJ (by rw[beq_builtin_none "dict.__contains__"];exact fnt)]
 refine ZA (wpAny_callSpecialUnlessNone?_slot ty slot_dict_contains (YJ slot_dict_contains ty entry_dict_contains ?body (args_dict_contains (.ref a) (.str k tk))))
 show wpAny (model prog w) _ (bind (dictGet a (.str k tk)) _) _ _ _
 refine ZA (q275 T hk (fun d v ha x=>?_) fun hn=>?_)
 ·have hb:inKeys k D=true:=by rw[<- isSome_datumAt,ha];rfl
  rw[hb]at h
  exact id (ZO ⟨.bool true,rfl,YR (ZO h)⟩)
 ·have hb:inKeys k D=false:=by rw[<- isSome_datumAt,hn];rfl
  rw[hb]at h
  exact id (ZA (wpAny_pendingKey_other T.1 (ZO ⟨.bool false,rfl,YR (ZO h)⟩)))
theorem q529(T:TabOf R h₀ a D)(hk:∀ b o,h₀.get? b=some o->s.heap.get? b=some o)(hd:datumAt k D=some d)(h:∀ v,R d v->Q v { s with toks:=s.toks+1 }) :
  wpAny (model prog w) A (getItem (.ref a) (.str k tk)) Q E s:=by
 have ty:=q391 T hk
 refine id (YU (ZA (wpAny_sequenceKey ty (ZI (id (Eq.refl true))) (ZA (YE ty slot_dict_getitem (YJ slot_dict_getitem ty entry_dict_getitem ?body (args_dict_getitem (.ref a) (.str k tk))))))))
 show wpAny (model prog w) _ (bind (dictGet a (.str k tk)) _) _ _ _
 refine ZA (q275 T hk (fun d' v ha hv=>?_) fun hn=>?_)
 ·rw[hd]at ha
  obtain rfl:=Option.some.inj ha
  exact ZO ⟨v,rfl,ZO (h v hv)⟩
 ·rw[hd]at hn
  cases hn
end
def TabK(K:Fg)(a:Addr)(D:List (Str×Addr)):Prop:=tabLook (fun(d:Addr) (v:Value)=>v == .ref d) (fun b=>List.lookup b K) a D=true
theorem TabK.at{s:Shared}(I:Inv X pins σ H s)(t:TabK X.K a D):TabOf (fun(d:Addr) (v:Value)=>v = .ref d) s.heap a D:=
 tab_of_look (L:=fun(d:Addr) (v:Value)=>v == .ref d) (fun d v h=>by simpa using h) (fun b o h=>I.kIn b o h) t
inductive q653(K:Fg)(x:V)(y:V)(H:Hp)(Q:VK):Prop
 |mk(k:Str)(a:Addr)(D:List (Str×Addr))(_:x = .str k)(_:y = .ref a)(_:TabK K a D)(_:Q (.bl (!inKeys k D)) H)
theorem q732:OpR X (compareOp .NotIn) (q653 X.K):=by
 intro pins s σ H x y v u Q I rx ry h
 obtain⟨k,a,D,rfl,rfl,t,q⟩:=h
 obtain⟨tk,rfl⟩:=rx
 cases ry
 exact q731 (t.at I) (fun _ _ z=>z) ⟨.bl (!inKeys k D),H,I.tok _,rfl,q⟩
inductive Rix_tabT(K:Fg)(x:V)(y:V)(H:Hp)(Q:VK):Prop
 |mk(a:Addr)(k:Str)(D:List (Str×Addr))(d:Addr)(_:x = .ref a)(_:y = .str k)(_:TabK K a D)(_:datumAt k D=some d)(_:Q (.ref d) H)
theorem ix_tabT:IxR X (Rix_tabT X.K):=by
 intro value slice pins s σ H x y v u Q I rx ry h hs
 obtain⟨a,k,D,d,rfl,rfl,t,hd,q⟩:=h
 cases rx
 obtain⟨tk,rfl⟩:=ry
 exact tail_any (q391 (t.at I) (fun _ _ z=>z)) slot_dict_getitem.lookup (q529 (t.at I) (fun _ _ z=>z) hd fun v hv=>by
  rw[hv]
  exact⟨.ref d,H,I.tok _,rfl,q⟩) hs
theorem pt_never:PT X e (fun _ _ _=>False):=fun _ _ _ _ _ _ h=>h.elim
theorem ps_tryN(hx:X.xe=fun _ _=>False)(hb:PSs X body u):PS X (.Try body (h0::hs) [] [] pos) u:=by
 intro pins s σ H D I h
 refine wpAny_Try_except (WX (hb pins s σ H D I h) (fun f s1 q=>?_) fun _ _ z=>?_)
 ·cases f with
  | next=>exact wpAny_execs_nil q
  | ret v=>exact q
  | brk=>exact q
  | cont=>exact q
 ·rw[hx]at z
  exact z.elim
section
variable {prog:Program} {w:World} {A:Around} {E:VS} {s:Shared}
theorem q733{k1 k2:Nat}(D:ZipApart z m n i1 i2 l1 l2)(e0:IsZip s.heap z m n .none)(em:IsPair s.heap m (.ref i1) (.ref i2))(en:IsPair s.heap n a b)
  (e1:s.heap.IsTupleIter i1 l1 k1) (e2:s.heap.IsListIter i2 l2 k2) (t1:s.heap.IsTuple l1 us) (t2:s.heap.IsList l2 ys) (hx:us[k1]? = some x) (hy:ys[k2]? = some y)
  (k:∀ h',IsZip h' z m n (rawInt s.heap.objs.size)->IsPair h' n x y->h'.IsTupleIter i1 l1 (k1+1)->h'.IsListIter i2 l2 (k2+1)->IsPair h' s.heap.objs.size x y->(∀ c o,c≠z->c≠n->c≠i1->c≠i2->s.heap.get? c=some o->h'.get? c=some o)->Q (some (.ref s.heap.objs.size)) { s with heap:=h' }) :
  wpAny (model prog w) A (pyNext (.ref z)) Q E s:=by
 have ty:s.TypeIs (.ref z) "zip" := ⟨_,e0,rfl⟩
 unfold pyNext
 refine ZA (wpAny_attempt (YE (name:=Str.ofString "__next__") ty F.slot_zip_next (YJ F.slot_zip_next ty F.entry_zip_next ?_ (F.args_zip_next_1 _))))
 obtain⟨h0,g,d,tk,os⟩:=s
 show wpAny _ _ (field (.ref z) 2 >>= _) _ _ ⟨h0,g,d,tk,os⟩
 refine ZA (YD e0 rfl (x:=.bool false) rfl ?_)
 show wpAny _ _ (field (.ref z) 3 >>= _) _ _ ⟨h0,g,d,tk,os⟩
 refine ZA (YD e0 rfl (x:=.ref m) rfl (ZA (wpAny_seqItems em rfl ?_)))
 show wpAny _ _ (Builtin.SmallTypes.ownedTupleIsFree (.ref z) >>= _) _ _ ⟨h0,g,d,tk,os⟩
 refine ZA ?_
 unfold Builtin.SmallTypes.ownedTupleIsFree
 refine ZA (YD e0 rfl (x:=.none) rfl (ZO ?_))
 simp only[if_true]
 refine ZA (wpAny_rule (ZA (YD e0 rfl (x:=.ref n) rfl (ZA (YK e0 (by simp) fun h1 z1 s1=>?_)))))
 replace s1:Heap.SameBut z h0 h1:=s1
 replace z1:IsZip h1 z m n .ellipsis:=z1
 refine ZA ?_
 simp only[List.zipIdx_cons,List.zipIdx_nil,List.forIn_cons,List.forIn_nil]
 refine ZA (ZA (wpAny_onRaise ?_))
 show wpAny _ _ (Builtin.SmallTypes.nextOf (.ref i1) >>= _) _ _ ⟨h1,g,d,tk,os⟩
 have f1:h1.IsTupleIter i1 l1 k1:=by obtain⟨o,q,r⟩:=e1;exact⟨o,s1.extBut _ _ D.i1z q,r⟩
 have f2:h1.IsTuple l1 us:=by obtain⟨o,q,r⟩:=t1;exact⟨o,s1.extBut _ _ D.l1z q,r⟩
 refine ZA (q340 f1 f2 hx fun h2 n2 s2=>ZO ?_)
 replace s2:Heap.SameBut i1 h1 h2:=s2
 have en2:IsPair h2 n a b:=s2.extBut _ _ D.TOi1 (s1.extBut _ _ D.TOz en)
 refine ZA (wpAny_seqItems en2 rfl (ZA (wpAny_updateSeq_pair en2 fun h3 en3 s3=>ZA (wpAny_letGo (ZO ?_)))))
 replace s3:Heap.SameBut n h2 h3:=s3
 replace en3:IsPair h3 n x b:=en3
 refine ZA (ZA (wpAny_onRaise ?_))
 show wpAny _ _ (Builtin.SmallTypes.nextOf (.ref i2) >>= _) _ _ ⟨h3,g,d,tk,os⟩
 have up:∀ c o,c≠z->c≠i1->c≠n->h0.get? c=some o->h3.get? c=some o:=fun c o m1 m2 m3 q=>s3.extBut _ _ m3 (s2.extBut _ _ m2 (s1.extBut _ _ m1 q))
 have g1:h3.IsListIter i2 l2 k2:=by obtain⟨o,q,r⟩:=e2;exact⟨o,up _ _ D.i2z D.i12.symm D.TOi2.symm q,r⟩
 have g2:h3.IsList l2 ys:=by obtain⟨o,q,r⟩:=t2;exact⟨o,up _ _ D.l2z D.l2i1 D.l2TO q,r⟩
 refine ZA (wpAny_nextOf_list_item g1 g2 hy fun h4 n4 s4=>ZO ?_)
 replace s4:Heap.SameBut i2 h3 h4:=s4
 have en4:IsPair h4 n x b:=s4.extBut _ _ D.TOi2 en3
 refine ZA (wpAny_seqItems en4 rfl (ZA (wpAny_updateSeq_pair en4 fun h5 en5 s5=>ZA (wpAny_letGo (ZO (ZO ?_))))))
 replace s5:Heap.SameBut n h4 h5:=s5
 replace en5:IsPair h5 n x y:=en5
 refine ZA (wpAny_seqItems en5 rfl (ZA (wpAny_newTuple ?_)))
 have sz:h5.objs.size=h0.objs.size:=by rw[s5.1,s4.1,s3.1,s2.1,s1.1]
 have up5:∀ c o,c≠z->c≠n->c≠i1->c≠i2->h0.get? c=some o->h5.get? c=some o:=fun c o m1 m2 m3 m4 q=>s5.extBut _ _ m2 (s4.extBut _ _ m4 (up c o m1 m3 m2 q))
 have z5:IsZip h5 z m n .ellipsis:=s5.extBut _ _ D.TOz.symm (s4.extBut _ _ D.i2z.symm (s3.extBut _ _ D.TOz.symm (s2.extBut _ _ D.i1z.symm z1)))
 have zl:z<h5.objs.size:=ZW z5
 show wpAny _ _ (Builtin.SmallTypes.ownedTupleHandOut (.ref z) (.ref h5.objs.size) >>= _) _ _ ⟨h5.push { cls:=.type "tuple", data:=.seq #[x,y] },g,d,tk,os⟩
 refine ZA ?_
 unfold Builtin.SmallTypes.ownedTupleHandOut
 refine ZA (YK (ZE _ z5) (by simp) fun h7 z7 s7=>?_)
 replace z7:IsZip h7 z m n (rawInt h5.objs.size):=z7
 refine YK z7 (by simp) fun h8 z8 s8=>ZO ⟨_,rfl,ZO ?_⟩
 replace z8:IsZip h8 z m n (rawInt h5.objs.size):=z8
 have up8:∀ c o,c≠z->h5.get? c=some o->h8.get? c=some o:=fun c o m1 q=>s8.extBut _ _ m1 (s7.extBut _ _ m1 (ZE _ q))
 have t8:IsPair h8 h5.objs.size x y:=s8.extBut _ _ (Nat.ne_of_gt zl) (s7.extBut _ _ (Nat.ne_of_gt zl) (ZY _ rfl))
 rw[sz]at z8 t8
 show Q (some (.ref h5.objs.size)) _
 rw[sz]
 refine k h8 z8 (up8 _ _ D.TOz en5) ?_ ?_ t8 fun c o m1 m2 m3 m4 q=>up8 c o m1 (up5 c o m1 m2 m3 m4 q)
 ·obtain⟨o,q,r⟩:=n2
  exact⟨o,up8 _ _ D.i1z (s5.extBut _ _ D.TOi1.symm (s4.extBut _ _ D.i12 (s3.extBut _ _ D.TOi1.symm q))),r⟩
 ·obtain⟨o,q,r⟩:=n4
  exact⟨o,up8 _ _ D.i2z (s5.extBut _ _ D.TOi2.symm q),r⟩
theorem zipT_end{k1:Nat}(hh:A.handled=none)(D:ZipApart z m n i1 i2 l1 l2)(e0:IsZip s.heap z m n .none)(em:IsPair s.heap m (.ref i1) (.ref i2))
  (e1:s.heap.IsTupleIter i1 l1 k1) (t1:s.heap.IsTuple l1 us) (hx:us[k1]? = none)
  (k:∀ h',(∀ c o,c≠z->c≠i1->s.heap.get? c=some o->h'.get? c=some o)->Q none { s with heap:=h' }):wpAny (model prog w) A (pyNext (.ref z)) Q E s:=by
 have ty:s.TypeIs (.ref z) "zip" := ⟨_,e0,rfl⟩
 unfold pyNext
 refine ZA (wpAny_attempt (YE (name:=Str.ofString "__next__") ty F.slot_zip_next (YJ F.slot_zip_next ty F.entry_zip_next ?_ (F.args_zip_next_1 _))))
 obtain⟨h0,g,d,tk,os⟩:=s
 show wpAny _ _ (field (.ref z) 2 >>= _) _ _ ⟨h0,g,d,tk,os⟩
 refine ZA (YD e0 rfl (x:=.bool false) rfl ?_)
 show wpAny _ _ (field (.ref z) 3 >>= _) _ _ ⟨h0,g,d,tk,os⟩
 refine ZA (YD e0 rfl (x:=.ref m) rfl (ZA (wpAny_seqItems em rfl ?_)))
 show wpAny _ _ (Builtin.SmallTypes.ownedTupleIsFree (.ref z) >>= _) _ _ ⟨h0,g,d,tk,os⟩
 refine ZA ?_
 unfold Builtin.SmallTypes.ownedTupleIsFree
 refine ZA (YD e0 rfl (x:=.none) rfl (ZO ?_))
 simp only[if_true]
 refine ZA (wpAny_rule (ZA (YD e0 rfl (x:=.ref n) rfl (ZA (YK e0 (by simp) fun h1 z1 s1=>?_)))))
 replace s1:Heap.SameBut z h0 h1:=s1
 replace z1:IsZip h1 z m n .ellipsis:=z1
 refine ZA ?_
 simp only[List.zipIdx_cons,List.zipIdx_nil,List.forIn_cons,List.forIn_nil]
 refine ZA (ZA (wpAny_onRaise ?_))
 show wpAny _ _ (Builtin.SmallTypes.nextOf (.ref i1) >>= _) _ _ ⟨h1,g,d,tk,os⟩
 have f1:h1.IsTupleIter i1 l1 k1:=by obtain⟨o,q,r⟩:=e1;exact⟨o,s1.extBut _ _ D.i1z q,r⟩
 have f2:h1.IsTuple l1 us:=by obtain⟨o,q,r⟩:=t1;exact⟨o,s1.extBut _ _ D.l1z q,r⟩
 refine ZA (q448 hh f1 f2 hx fun h2 e s2 he=>?_)
 obtain⟨oe,q1,q2⟩:=he
 have z2:IsZip h2 z m n .ellipsis:=s2 _ _ D.i1z.symm z1
 have ne:e≠z:=fun x=>by subst x;rw[z2]at q1;cases q1;simp at q2
 refine YK z2 (by simp) fun h3 _ s3=>ZA (wpAny_isInstance (T := "StopIteration") (b:=true) ⟨oe,s3.extBut _ _ ne q1,q2⟩ isSubtype_stop (ZO (k h3 fun c o m1 m2 q=>s3.extBut _ _ m1 (s2 _ _ m2 (s1.extBut _ _ m1 q)))))
end
noncomputable def ItzT(K:Fg)(a b:Addr):It:=
 ⟨fun i H=>∃ xs ys x y,SqT K H a xs/\SqL K H b ys/\xs[i]? = some x/\ys[i]? = some y,
  fun i H x H'=>∃ p u v,x = .ref p/\H p=none/\H'=upd H p (.tup [u,v])/\(∀ xs,SqT K H a xs->xs[i]? = some u) /\ ∀ ys,SqL K H b ys->ys[i]? = some v,
  fun i H=>∃ xs ys,SqT K H a xs/\SqL K H b ys/\xs.length<=i⟩
theorem q734{P:Program}{w:World}{K:Fg}{es:List Expr}{x1:Nat}{pos:Pos}(a b z m n i1 i2:Addr)(Dz:ZipApart z m n i1 i2 a b) :
  Turn P w K (.Tuple es x1 pos) (ItzT K a b) [z,m,n,i1,i2] z (fun i h=>IsZip h z m n .none/\IsPair h m (.ref i1) (.ref i2)/\(∃ c d,IsPair h n c d)/\h.IsTupleIter i1 a i/\h.IsListIter i2 b i) where
 mem:=by simp
 obj:=fun i h st c hc=>by
  obtain⟨q1,q2,⟨_,_,q3⟩,⟨o4,q4,_,d4⟩,⟨o5,q5,_,d5⟩⟩:=st
  have hc':c=z\/c=m\/c=n\/c=i1\/c=i2:=by simpa using hc
  rcases hc' with rfl | rfl | rfl | rfl | rfl
  ·exact⟨_,q1,fun v y=>by cases y⟩
  ·exact⟨_,q2,fun v y=>by cases y⟩
  ·exact⟨_,q3,fun v y=>by cases y⟩
  ·exact⟨o4,q4,fun v y=>by rw[d4]at y;cases y⟩
  ·exact⟨o5,q5,fun v y=>by rw[d5]at y;cases y⟩
 keep:=fun i h h' st k=>by
  obtain⟨q1,q2,⟨c,d,q3⟩,⟨o4,q4,r4⟩,⟨o5,q5,r5⟩⟩:=st
  exact⟨k z (by simp) _ q1,k m (by simp) _ q2,⟨c,d,k n (by simp) _ q3⟩,⟨o4,k i1 (by simp) _ q4,r4⟩,⟨o5,k i2 (by simp) _ q5,r5⟩⟩
 item:=by
  intro X hP hw hK hc i pins s σ H E I hf st hg
  subst hP hw hK
  obtain⟨q1,q2,⟨ca,da,q3⟩,q4,q5⟩:=st
  obtain⟨xs,ys,x,y,hqa,hqb,hx,hy⟩:=hg
  obtain⟨its,rv,p,hz⟩:=I.tuple hqa
  obtain⟨its2,rv2,p2,hz2⟩:=I.list hqb
  obtain⟨u,hu,ru⟩:=rv.get hx
  obtain⟨v,hv,rv'⟩:=rv2.get hy
  have lz:∀ c∈[z,m,n,i1,i2],c<s.heap.objs.size:=fun c hc=>by
   have hc':c=z\/c=m\/c=n\/c=i1\/c=i2:=by simpa using hc
   obtain⟨o4,w4,_⟩:=q4
   obtain⟨o5,w5,_⟩:=q5
   rcases hc' with rfl | rfl | rfl | rfl | rfl
   ·exact ZW q1
   ·exact ZW q2
   ·exact ZW q3
   ·exact ZW w4
   ·exact ZW w5
  refine q733 Dz q1 q2 q3 q4 q5 p p2.isList (x:=u) (y:=v) (by simpa using hu) (by simpa using hv) fun h1 a1 a2 a3 a4 a5 a7=>⟨_,rfl,?_⟩
  refine wpAny_letOwnedTupleGo_zip a1 fun h2 e2 s2=>?_
  replace s2:Heap.SameBut z h1 h2:=s2
  have nz:s.heap.objs.size≠z:=Nat.ne_of_gt (lz z (by simp))
  have t2:h2.get? s.heap.objs.size=some { cls:=.type "tuple", data:=.seq #[u,v] }:=(s2.2 _ nz).trans a5
  have kk:∀ c o,c ∉ [z,m,n,i1,i2]->s.heap.get? c=some o->h2.get? c=some o:=fun c o w q=>by
   have m':¬(c=z\/c=m\/c=n\/c=i1\/c=i2):=by simpa using w
   exact(s2.2 c (fun y=>m' (.inl y))).trans (a7 c o (fun y=>m' (.inl y)) (fun y=>m' (.inr (.inr (.inl y)))) (fun y=>m' (.inr (.inr (.inr (.inl y))))) (fun y=>m' (.inr (.inr (.inr (.inr y))))) q)
  have fr:H s.heap.objs.size=none:=I.hok.fresh (ZF _)
  have neq:∀ c,H c≠none->c ∉ [z,m,n,i1,i2]:=fun c m hc=>m (hf c hc).1
  have un:Un (frs X.stack) [z,m,n,i1,i2] H (upd H s.heap.objs.size (.tup [x,y])) s.heap h2:=by
   have np:∀ c o,s.heap.get? c=some o->c≠s.heap.objs.size:=fun c o q=>WN (ZW q)
   exact⟨fun c o q _ _ m=>kk c o m q,fun c o q _ _ m=>⟨o.slots,kk c o m q⟩,fun c o q m _=>by rw[q28 (np c o q)];exact m,fun c o q m=>⟨o,kk c o m q⟩,
    fun c ys q=>by rw[q28 (q24 q fr)];exact q,fun c o v q=>by rw[q28 (q24 q fr)];exact q,fun c ps q=>⟨#[],by rw[q28 (q24 q fr),q];simp⟩⟩
  have hok:HOk X.prog X.w (upd H s.heap.objs.size (.tup [x,y])) h2:=fun c ob e=>by
   by_cases hb:c=s.heap.objs.size
   ·subst hb
    rw[q13]at e
    cases e
    exact⟨szb rfl,[u,v],.cons ru (.cons rv' .nil),⟨_,t2,rfl,_,rfl⟩⟩
   ·rw[q28 hb]at e
    refine(I.hok c ob e).stay (fun c' v z q=>?_) (fun c q=>by rw[q28 (q24 q fr)];exact q) fun c ys q=>by rw[q28 (q24 q fr)];exact q
    have m:H c'≠none:=by
     rcases z with rfl | z
     ·rw[e];exact fun y=>nomatch y
     ·rw[z];exact fun y=>nomatch y
    exact kk c' v (neq c' m) q
  have J:Inv X pins σ (upd H s.heap.objs.size (.tup [x,y])) { s with heap:=h2 }:=by
   refine I.call' (s':={ s with heap:=h2 }) (ch:=[z,m,n,i1,i2]) rfl un hok I.bare fun c hc=>?_
   obtain⟨_,g1,_,g3,g4,g5⟩:=hf c hc
   exact⟨g3,g1,g4,g5⟩
  refine⟨.ref s.heap.objs.size,_,J,rfl,⟨s.heap.objs.size,x,y,rfl,fr,rfl,fun zs hz=>by rw[I.tuple_inj hz hqa];exact hx,fun zs hz=>by rw[I.list_inj hz hqb];exact hy⟩,⟨e2,?_,⟨u,v,(s2.2 n Dz.TOz).trans a2⟩,?_,?_⟩,fun c hc=>?_⟩
  ·exact(s2.2 m Dz.TIz).trans (a7 m _ Dz.TIz Dz.TITO Dz.TIi1 Dz.TIi2 q2)
  ·obtain⟨o,q,r⟩:=a3
   exact⟨o,(s2.2 i1 Dz.i1z).trans q,r⟩
  ·obtain⟨o,q,r⟩:=a4
   exact⟨o,(s2.2 i2 Dz.i2z).trans q,r⟩
  ·rw[q28 (WN (lz c hc))]
   exact(hf c hc).1
 done:=by
  intro X hP hw hK hc i pins s σ H E I hf st hg
  subst hP hw hK
  obtain⟨q1,q2,⟨ca,da,q3⟩,q4,q5⟩:=st
  obtain⟨xs,ys,hqa,hqb,hx⟩:=hg
  obtain⟨its,rv,p,hz⟩:=I.tuple hqa
  have l1:=rv.length
  refine zipT_end (I.ok.hd hc) Dz q1 q2 q4 p (by simp;lia) fun h' a7=>⟨rfl,?_⟩
  have kk:∀ c o,c ∉ [z,m,n,i1,i2]->s.heap.get? c=some o->h'.get? c=some o:=fun c o w q=>by
   have m':¬(c=z\/c=m\/c=n\/c=i1\/c=i2):=by simpa using w
   exact a7 c o (fun y=>m' (.inl y)) (fun y=>m' (.inr (.inr (.inr (.inl y))))) q
  have neq:∀ c,H c≠none->c ∉ [z,m,n,i1,i2]:=fun c m hc=>m (hf c hc).1
  have un:Un (frs X.stack) [z,m,n,i1,i2] H H s.heap h':=
   ⟨fun c o q _ _ m=>kk c o m q,fun c o q _ _ m=>⟨o.slots,kk c o m q⟩,fun c o q m _=>m,fun c o q m=>⟨o,kk c o m q⟩,fun c ys q=>q,fun c o v q=>q,fun c ps q=>⟨#[],by rw[q];simp⟩⟩
  have hok:HOk X.prog X.w H h':=fun c ob e=>by
   refine(I.hok c ob e).stay (fun c' v z q=>?_) (fun c q=>q) fun c ys q=>q
   have m:H c'≠none:=by
    rcases z with rfl | z
    ·rw[e];exact fun y=>nomatch y
    ·rw[z];exact fun y=>nomatch y
   exact kk c' v (neq c' m) q
  refine I.call' (s':={ s with heap:=h' }) (ch:=[z,m,n,i1,i2]) rfl un hok I.bare fun c hc=>?_
  obtain⟨_,g1,_,g3,g4,g5⟩:=hf c hc
  exact⟨g3,g1,g4,g5⟩
 self:=fun _ _ _ _ _ st h=>wpAny_pyIter_zip st.1 h
section
variable {es:List Expr} {x1:Nat} {tpos:Pos}
noncomputable abbrev zt1(h:Heap)(a:Addr):Heap:=h.push { cls:=.type "tuple_iterator", data:=.fields #[.ref a,.int 0 0] }
noncomputable abbrev zt2(h:Heap)(a b:Addr):Heap:=(zt1 h a).push { cls:=.type "list_iterator", data:=.fields #[.ref b,.int 0 0] }
noncomputable abbrev zt3(h:Heap)(a b:Addr):Heap:=(zt2 h a b).push { cls:=.type "tuple", data:=.seq #[.ref h.objs.size,.ref (zt1 h a).objs.size] }
noncomputable abbrev zt4(h:Heap)(a b:Addr):Heap:=(zt3 h a b).push { cls:=.type "tuple", data:=.seq #[.none,.none] }
noncomputable abbrev zt5(h:Heap)(a b:Addr):Heap:=(zt4 h a b).push { cls:=.type "zip", data:=.fields #[.none,.bool false,.bool false,.ref (zt2 h a b).objs.size,.ref (zt3 h a b).objs.size] }
theorem new_zipT(l1 l2:Addr)(xs ys:Array Value):Meets (Builtin.«zip.__new__» ⟨[.type "zip", .ref l1,.ref l2],[]⟩) (fun _ R s=>s.heap.IsTuple l1 xs/\s.heap.IsList l2 ys/\R (.ok (.ret (.ref (zt4 s.heap l1 l2).objs.size))) { s with heap:=zt5 s.heap l1 l2 }):=
 .of_wp fun prog w A R s h=>by
  obtain⟨hp,g,d,tk,os⟩:=s
  obtain⟨a1,a2,h⟩:=h
  have hsub:=sub_zip
  have b1:Heap.IsTuple (Shared.heap ⟨hp,g,d,tk,os⟩) l1 xs:=a1
  have b2:Heap.IsList (Shared.heap ⟨hp.push { cls:=.type "tuple_iterator", data:=.fields #[.ref l1,.int 0 0] },g,d,tk,os⟩) l2 ys:=Heap.IsList.push a2 _
  wp_walk using wpAny_pyIter_tuple b1,wpAny_pyIter_list b2
  exact⟨_,rfl,h⟩
theorem q735{prog:Program}{w:World}{A:Around}{E:VS}{s:Shared}(h1:s.heap.IsTuple a xs)(h2:s.heap.IsList b ys)
  (k:∀ h',IsZip h' (s.heap.objs.size+4) (s.heap.objs.size+2) (s.heap.objs.size+3) .none->IsPair h' (s.heap.objs.size+2) (.ref s.heap.objs.size) (.ref (s.heap.objs.size+1))->IsPair h' (s.heap.objs.size+3) .none .none->h'.IsTupleIter s.heap.objs.size a 0 ->
   h'.IsListIter (s.heap.objs.size+1) b 0->(∀ c o,s.heap.get? c=some o->h'.get? c=some o)->Q (.ref (s.heap.objs.size+4)) { s with heap:=h' }):wpAny (model prog w) A (call (.type "zip") [.ref a,.ref b]) Q E s:=by
 refine callType_new F.called_zip {} (F.typeCall_zip_2 _ _) (F.newCall_zip_2 _ _) (fun obj=>F.args_object_init_3 obj _ _) F.entry_zip_new (new_zipT a b xs ys) ⟨h1,h2,?_⟩
 have y1:(zt1 s.heap a).objs.size=s.heap.objs.size+1:=Heap.size_push ..
 have y2:(zt2 s.heap a b).objs.size=s.heap.objs.size+2:=by rw[Heap.size_push,y1]
 have y3:(zt3 s.heap a b).objs.size=s.heap.objs.size+3:=by rw[Heap.size_push,y2]
 have y4:(zt4 s.heap a b).objs.size=s.heap.objs.size+4:=by rw[Heap.size_push,y3]
 have g5:(zt5 s.heap a b).get? (zt4 s.heap a b).objs.size=some _:=ZY _ rfl
 have g4:(zt5 s.heap a b).get? (zt3 s.heap a b).objs.size=some _:=ZE _ (ZY _ rfl)
 have g3:(zt5 s.heap a b).get? (zt2 s.heap a b).objs.size=some _:=ZE _ (ZE _ (ZY _ rfl))
 have g2:(zt5 s.heap a b).get? (zt1 s.heap a).objs.size=some _:=ZE _ (ZE _ (ZE _ (ZY _ rfl)))
 have g1:(zt5 s.heap a b).get? s.heap.objs.size=some _:=ZE _ (ZE _ (ZE _ (ZE _ (ZY _ rfl))))
 show _/\_
 rw[y2,y3,y4]at g5
 rw[y1,y2]at g3
 rw[y3]at g4
 rw[y1]at g2
 rw[y4]
 exact⟨⟨_,g5,rfl⟩,k _ g5 g3 g4 ⟨_,g1,rfl,rfl⟩ ⟨_,g2,rfl,rfl⟩ fun c o x=>ZE _ (ZE _ (ZE _ (ZE _ (ZE _ x))))⟩
noncomputable def iZipT(K:Fg)(ta:TA):TI:=fun σ H R=>ta σ H fun vs H1=>∃ a b,vs=[.ref a,.ref b]/\(∃ xs,SqT K H1 a xs)/\(∃ ys,SqL K H1 b ys)/\R (ItzT K a b) H1
theorem pi_zipT{l l':Expr}{ta:TA}{p pos:Pos}(hg:Gl X "zip") (hm:X.mg "zip" = none) (ha:PA X [l,l'] ta) (hs:starEach [l,l'] X.env=[(false,eval l X.env),(false,eval l' X.env)]:=by rfl) (hs2:starEach [l'] X.env=[(false,eval l' X.env)]:=by rfl) :
  PI X (.Tuple es x1 tpos) (.Call (.Name "zip" p) [l,l'] [] pos) (iZipT X.K ta):=by
 intro pins s σ H R I h
 refine Call_ (q255 I hg hm boot_zip (PyProof.Rows.callWith_type1 (thn (ha pos pins s σ H _ I h) fun us s1 ⟨vs,H1,I1,r1,q1⟩=>?_) (by rw[hs,hs2]) (by rw[hs2];rfl)))
 obtain⟨a,b,e,⟨xs,hqa⟩,⟨ys,hqb⟩,q⟩:=q1
 subst e
 cases r1 with
 | cons r rr=>
  cases rr with
  | cons r' rr=>
   cases rr
   cases r
   cases r'
   obtain⟨its,rv,p,hz⟩:=I1.tuple hqa
   obtain⟨its2,rv2,p2,hz2⟩:=I1.list hqb
   have la:a<s1.heap.objs.size:=by obtain⟨_,e,_⟩:=p;exact ZW e
   have lb:b<s1.heap.objs.size:=by obtain⟨_,e,_⟩:=p2.isList;exact ZW e
   refine q735 p p2.isList fun h' e1 e2 e3 e4 e5 k=>wpAny_pyIter_zip e1 ?_
   have I2:Inv X pins σ H1 { s1 with heap:=h' }:=I1.kept (t':=s1.toks) k
   refine⟨s1.heap.objs.size+4,_,_,_,H1,rfl,I2,q734 a b _ _ _ _ _ (zipApart_new la lb),⟨e1,e2,⟨_,_,e3⟩,e4,e5⟩,fun c hc=>?_,q⟩
   have hb':s1.heap.objs.size<=c:=by
    have z:c=s1.heap.objs.size+4\/c=s1.heap.objs.size+2\/c=s1.heap.objs.size+3\/c=s1.heap.objs.size\/c=s1.heap.objs.size+1:=by simpa using hc
    rcases z with z | z | z | z | z
    ·rw[z];exact Nat.le_add_right _ _
    ·rw[z];exact Nat.le_add_right _ _
    ·rw[z];exact Nat.le_add_right _ _
    ·rw[z];exact ZF _
    ·rw[z];exact Nat.le_add_right _ _
   exact I1.fpOk hb' (I1.hok.fresh hb')
theorem q654{K:Fg}{a b:Addr}{xs zs:List V}{Tn:V->Hp->(V->Hp->Prop)->(Hp->Prop)->Prop}{D:Addr}{H1:Hp}{R:Hp->Prop}(hn:xs.length<=sizeLine)(hxz:xs.length=zs.length)(Pv:Nat->List V->Hp->Prop)(h0:Pv 0 [] (upd H1 D (.lst [])))
  (hl:∀ i ys H,Pv i ys H->SqT K H a xs/\SqL K H b zs) (hD:∀ i ys H,Pv i ys H->H D=some (.lst ys)/\ys.length<=i)
  (hs:∀ i x z ys H p,xs[i]? = some x->zs[i]? = some z->Pv i ys H->H p=none->Tn (.ref p) (upd H p (.tup [x,z])) (fun y H3=>H3 D=some (.lst ys)/\Pv (i+1) (ys++[y]) (upd H3 D (.lst (ys++[y])))) (Pv (i+1) ys))
  (hd:∀ ys H,Pv xs.length ys H->R H) :
  ∃ W:Nat->Nat->List V->Hp->Prop,(∃ m,W 0 m [] (upd H1 D (.lst []))) /\
   ∀ i m ys H2,W i m ys H2->H2 D=some (.lst ys)/\(((ItzT K a b).stop i H2/\R H2)\/((ItzT K a b).go i H2/\ys.length<sizeLine /\ ∃(N:V->Hp->Prop)(Z:Hp->Prop),(∀ y H3,N y H3->H3 D=some (.lst ys) /\ ∃ m',m'<m/\W (i+1) m' (ys++[y]) (upd H3 D (.lst (ys++[y]))))/\(∀ H3,Z H3 -> ∃ m',m'<m/\W (i+1) m' ys H3) /\
    ∀ x H',(ItzT K a b).yld i H2 x H'->Tn x H' N Z)):=by
 exists fun i m ys H=>m=xs.length-i/\i<=xs.length/\Pv i ys H,⟨xs.length,by simp,ZX _,h0⟩
 rintro i m ys H2 ⟨rfl,hi,p⟩
 obtain⟨d1,d2⟩:=hD i ys H2 p
 obtain⟨q1,q2⟩:=hl i ys H2 p
 exists d1
 by_cases hlt:i<xs.length
 ·have hlt2:i<zs.length:=(W39 hlt hxz)
  refine .inr ⟨⟨xs,zs,xs[i],zs[i],q1,q2,by simp[hlt],by simp[hlt2]⟩,∅,fun y H3=>H3 D=some (.lst ys)/\Pv (i+1) (ys++[y]) (upd H3 D (.lst (ys++[y]))),Pv (i+1) ys,fun y H3 ⟨z1,z2⟩=>⟨z1,xs.length-(i+1),∅,rfl,hlt,z2⟩,fun H3 z=>⟨xs.length-(i+1),∅,rfl,hlt,z⟩,fun x H' y=>?_⟩
  obtain⟨pp,u,v,rfl,e2,rfl,y1,y2⟩:=y
  exact hs i u v ys _ pp (y1 xs q1) (y2 zs q2) p e2
 ·have e:i=xs.length:=∅
  subst e
  exact .inl ⟨⟨xs,zs,q1,q2,ZF _⟩,hd ys H2 p⟩
end
theorem Room.m{j k:Nat}(r:Room k A)(h:j<=k:=by decide):Room j A:=r.mono h
theorem fsc{N P:List Str}{sc:Scope}(h1:sc.kind = .function:=by rfl)(h2:sc.isCoroutine=false:=by rfl)(h3:sc.isGenerator=false:=by rfl)(h4:N.Nodup:=by decide +kernel)(h5:N.take P.length=P:=by rfl)(h6:∀ x∈P,sc.names.lookup x=some .local\/sc.names.lookup x=some .cell:=by decide +kernel)(h7:∀ y∈sc.names,y.2 ≠ .free:=by decide +kernel):FnScope N P sc:=⟨h1,h2,h3,h4,h5,h6,h7⟩
theorem Fun.k{P:Program}{w:World}{K:Fg}{mg:Mg}{base:Heap}{x qual:Str}{st:Stmt}{f:Addr}{fd:FuncData}{N ps:List Str}{k:Nat}{sp:Sp}(F:Fun K x qual st f fd)(S:FnScope N ps (q17 st))
  (hbody:∀(cdv:Value)(A:Around)(outer:List Env)(s:Shared)(H:Hp)(vs:List V)(Q:VK)(E:XK),Room k (A.deeper (envOfC qual (q17 st) s.heap.objs.size f cdv))->sp vs H Q E ->
   ∃ t,PSs (cxOf CX0 P w K mg base N qual (q17 st) f cdv A outer s H E).nox (q166 st) t/\t { nx:=fun _ H'=>Q .non H',rt:=Q } (start N vs) H)
  (len:∀ vs H Q E,sp vs H Q E->vs.length=ps.length:=by walk_at "d"):FnOk P w K mg base CX0 (k+1) f fd ps sp:=F.ok S len hbody
section
variable {pos:Pos}
theorem pst(i:Nat){pos':Pos}(hN:X.N.Nodup)(he:PE X e te)(hi:X.N[i]? = some x:=by rfl)(hx:Loc X.env.scope x:=by walk_at "c") (hs:swapsWith e (some (.Name x pos')) pos.line X.env=pure false:=by rfl) (hf:X.fn x=true\/X.env.scope.names.lookup x=some .local:=by walk_at "a") :
  PS X (.Assign [.Name x pos'] e pos) (tAsg te (gName i)):=ps_set hN hi hx he hs hf
theorem pix(hr:IxR X r)(ha:PE X a ta)(hb:PE X b tb)(hs:q697 b:=by exact fun _ _=>rfl):PE X (.Subscript a b pos) (tOp r ta tb):=pe_ix hr ha hb hs
theorem pgn(i:Nat)(hN:X.N.Nodup)(hi:X.N[i]? = some x:=by rfl)(hx:Loc X.env.scope x:=by walk_at "c") (hf:X.fn x=true\/X.env.scope.names.lookup x=some .local:=by walk_at "a"):PG X (.Name x pos) (gName i):=q98 hN hi hx hf
theorem pln{p:Pos}(hm:X.mg "len" = none) (ha:PA X (e::es) t) (hg:Gl X "len" := by rfl) (he:starEach (e::es) X.env=(false,eval e X.env)::starEach es X.env:=by rfl) (hpl:(backTo pos (starEach es X.env)).any (·.1)=false:=by rfl) :
  PE X (.Call (.Name "len" p) (e::es) [] pos) (tCB (q111 X.K) t):=q38 q221 hg hm q572 ha {} {} he hpl
end
theorem cok{x:Str}{N:List Str}(h1:∀ p∈relN scope sc0,(p.2 = .cell\/p.2 = .free)->p.1∈cn:=by decide +kernel)(h2:∀ p∈scope.names,p.2 ≠ .cell:=by decide +kernel)(h3:∀ p∈scope.names,p.2 = .local->scope.names.lookup p.1=some .local:=by decide +kernel)(h4:scope.names.lookup x=some .local:=by decide +kernel)(h5:(relN scope sc0).lookup x=some .local:=by decide +kernel)(h6:(x::N).Nodup:=by decide +kernel)(h7:∀ y∈N,(relN scope sc0).lookup y=some .cell/\sc0.names.lookup y=some .cell/\y∈cn:=by decide +kernel):CompOk scope sc0 x N cn:=⟨h1,h2,h3,h4,h5,h6,h7⟩
theorem mt0{p:List Value->Prop}{n:Nat}(h:∀ a t,t.length=n->p (a::t)):∀ us,us.length=n+1->p us:=fun us e=>by
 obtain⟨a,t,rfl⟩:=List.exists_cons_of_length_eq_add_one e
 exact h a t (Nat.succ.inj e)
theorem mt1{p:List Value->Prop}(h:∀ a,p [a]):∀ us,us.length=1->p us:=mt0 fun a _ e=>List.eq_nil_of_length_eq_zero e▸h a
theorem mt2{p:List Value->Prop}(h:∀ a b,p [a,b]):∀ us,us.length=2->p us:=mt0 fun a=>mt1 (h a)
theorem mt3{p:List Value->Prop}(h:∀ a b c,p [a,b,c]):∀ us,us.length=3->p us:=mt0 fun a=>mt2 (h a)
theorem mt4{p:List Value->Prop}(h:∀ a b c d,p [a,b,c,d]):∀ us,us.length=4->p us:=mt0 fun a=>mt3 (h a)
theorem mt5{p:List Value->Prop}(h:∀ a b c d e,p [a,b,c,d,e]):∀ us,us.length=5->p us:=mt0 fun a=>mt4 (h a)
theorem nwH(h:H q=none)(o:HO):∃ G,upd H q o=G/\Same H G/\G q=some o:=⟨_,rfl,q16 h o,q13⟩
noncomputable def tVr(i:Nat):TE:=fun σ H Q=>match σ[i]? with
 | some (some v)=>Q v H
 | _=>False
noncomputable def mI(g:Int->Int->V):R2:=fun x y H Q=>match x,y with
 | .int i,.int j=>Q (g i j) H
 | _,_=>False
noncomputable def mTest(t:TE):TT:=fun σ H Q=>t σ H fun x H'=>match x with
 | .bl k=>Q k H'
 | _=>False
theorem tVr_of{i:Nat}(h:tVr i σ H Q):tVar i σ H Q:=by
 unfold tVr at h
 split at h
 ·rename_i v e
  exact⟨v,e,h⟩
 ·exact h.elim
theorem pr(i:Nat){pos:Pos}(hN:X.N[i]? = some x:=by rfl)(hv:Vis X.env.scope x:=by walk_at "b") (hd:(x==("__debug__" : Str))=false:=by decide)
  (hcd:(x==("__classdict__" : Str))=false:=by decide):PE X (.Name x pos) (tVr i):=fun pins s σ H Q I h=>pe_var hN hv hd hcd pins s σ H Q I (tVr_of h)
theorem mI_of(h:mI g x y H Q):rI0 g x y H Q:=by
 unfold mI at h
 split at h
 ·exact⟨_,_,rfl,rfl,h⟩
 ·exact h.elim
theorem OpR.m(o:OpR X op (rI0 g)):OpR X op (mI g):=fun pins s σ H x y v u Q I rx ry h=>o pins s σ H x y v u Q I rx ry (mI_of h)
theorem q106:OpR X (binaryOp .Add) (mI fun i j=>.int (i+j)):=q48.m
theorem q345:OpR X (binaryOp .Sub) (mI fun i j=>.int (i-j)):=q76.m
theorem om_lt:OpR X (compareOp .Lt) (mI fun i j=>.bl (decide (i<j))):=op_lt.m
theorem om_le:OpR X (compareOp .LtE) (mI fun i j=>.bl (decide (i<=j))):=op_le.m
theorem om_gt:OpR X (compareOp .Gt) (mI fun i j=>.bl (decide (j<i))):=op_gt.m
theorem mTest_eq(t:TE):mTest t=tTest t:=by
 funext σ H Q
 show t σ H _=t σ H _
 congr 1
 funext x H'
 apply propext
 constructor
 ·intro h
  split at h
  ·exact⟨_,rfl,h⟩
  ·exact h.elim
 ·rintro ⟨k,rfl,h⟩
  exact h
section
variable{a b:Expr}{ta tb:TE}{pos:Pos}
theorem q45(ho:OpR X (compareOp op) r)(ha:PE X a ta)(hb:PE X b tb)(hm:behindInMarks op b=false):PT X (.Compare a [op] [b] pos) (mTest (tOp r ta tb)):=by
 rw[mTest_eq]
 exact q19 ho ha hb hm
end
noncomputable def mIxT(K:Fg):R2:=fun x y H Q=>match x,y with
 | .ref p,.int i=>∃ xs v,SqT K H p xs/\atI xs i=some v/\Q v H
 | _,_=>False
noncomputable def mIxL(K:Fg):R2:=fun x y H Q=>match x,y with
 | .ref p,.int i=>∃ xs v,SqL K H p xs/\atI xs i=some v/\Q v H
 | _,_=>False
theorem mIxT_of{K:Fg}{x y:V}{H:Hp}{Q:VK}(h:mIxT K x y H Q):rIxT K x y H Q:=by
 unfold mIxT at h
 split at h
 ·obtain⟨xs,v,h1,h2,h3⟩:=h
  exact⟨_,xs,_,v,rfl,rfl,h1,h2,h3⟩
 ·exact h.elim
theorem mIxL_of{K:Fg}{x y:V}{H:Hp}{Q:VK}(h:mIxL K x y H Q):rIxL K x y H Q:=by
 unfold mIxL at h
 split at h
 ·obtain⟨xs,v,h1,h2,h3⟩:=h
  exact⟨_,xs,_,v,rfl,rfl,h1,h2,h3⟩
 ·exact h.elim
section
variable {K:Fg}
theorem q131:IxR X (mIxT X.K):=fun va sl pins s σ H x y v u Q I rx ry h hs=>q30 va sl pins s σ H x y v u Q I rx ry (mIxT_of h) hs
theorem q89:IxR X (mIxL X.K):=fun va sl pins s σ H x y v u Q I rx ry h hs=>q32 va sl pins s σ H x y v u Q I rx ry (mIxL_of h) hs
theorem q276(hK:X.K=K):IxR X (mIxT K):=hK▸q131
end
end L2
namespace TS
set_option autoImplicit false
open PySem PySem.W PyProof.Rows List
section
variable {prog:Program} {w:World} {A:Around} {E:VS} {s:Shared}
theorem q799{K:Type}[DecidableEq K]{knd:KeyKind prog w K}{d:Addr}{kvs:List (K×Value)}{ep:Nat}{ks:List Int}{Q:VS}(hh:A.handled=none)(lo:(d==sysModules)=false)(da:s.heap.DictAt knd d kvs ep)(hz:ks.length<=sizeLine)(hl:ks.length=kvs.length)
  (hk:∀(j:Nat)(k:K)(x v:Value),kvs[j]? = some (k,x)->knd.is k v=true -> ∃ i t,ks[j]? = some i/\v = .int i t)
  (h:∀(hF:Heap)(tk:Nat)(l:Addr)(e:Nat)(out:List Value),(∀ b o,s.heap.get? b=some o->hF.get? b=some o)->(∃ h1:Heap,(∀ b o,s.heap.get? b=some o->h1.get? b=some o)/\h1.objs.size<=l)->hF.get? l=some (seqObj "list" out.toArray e)->out.length<=sizeLine->AllI out->(out.map kOf).Perm ks->((out.map kOf).Pairwise (· <= ·)) ->
   Q (.ref l) { s with heap:=hF,toks:=tk }):wpAny (model prog w) A (call (.builtin "sorted") [.ref d]) Q E s:=by
 refine Calls.call_function_entry kind_sorted plain_sorted entry_sorted (args_sorted1 _) ?_
 unfold Builtin.«sorted»
 refine ZA (m:=checkCount "sorted" 1 1 _) (ZO (ZA (kdu_collect (A:=A.in1) (kdl_dict (knd:=knd) (kvs:=kvs) (ep:=ep) lo) (show A.in1.handled=none from hh) da (by rw[<- hl];exact hz) fun h' tk acc k1 hacc=>?_)))
 have hj:∀(j:Nat)(v:Value),acc[j]? = some v -> ∃ i t,ks[j]? = some i/\v = .int i t:=fun j v e=>by
  obtain⟨k,x,h1,h2⟩:=hacc.2 j v e
  exact hk j k x v h1 h2
 have ai:AllI acc.toList:=fun v hv=>by
  obtain⟨j,e⟩:=mem_iff_getElem?.mp hv
  obtain⟨i,t,_,e2⟩:=hj j v (by rw[<- YC];exact e)
  exact⟨i,t,e2⟩
 have em:acc.toList.map kOf=ks:=by
  apply ext_getElem?
  intro j
  rw[WE,YC]
  cases ej:acc[j]? with
  | none=>
   have:=Array.getElem?_eq_none_iff.mp ej
   have e2:acc.size=kvs.length:=hacc.1
   rw[getElem?_eq_none ∅]
   rfl
  | some v=>
   obtain⟨i,t,g1,rfl⟩:=hj j v ej
   rw[g1]
   rfl
 generalize acc.toList=us at ai em
 have lz:us.length<=sizeLine:=by rw[<- ZK (f:=kOf),em];exact hz
 refine ZA (wpAny_newList ?_ lz)
 have hoL:(h'.push (seqObj "list" us.toArray 0)).get? h'.objs.size=some (seqObj "list" us.toArray 0):=ZY _ rfl
 show wpAny _ _ _ _ _ { s with heap:=h'.push (seqObj "list" us.toArray 0),toks:=tk }
 refine ZA (YU (YJ slot_list_sort ⟨_,hoL,rfl⟩ entry_list_sort (q528 (κ:=oneType') (P:=fun v=>∃ k t,v=Value.int k t) (lt:=ltI) hoL lz (fun h6 _ h2 Q' hq=>?_) (fun h6 _=>good_i) tot_i ai fun out a1 a2=>⟨_,rfl,ZO ⟨_,rfl,?_⟩⟩) (args_list_sort _)))
 ·rw[ksk_kind (kz:=us.map kOf) (by simpa using q587 us ai) (by simpa using h2)]
  exact ZO hq
 obtain⟨e,he⟩:=sortedHeap_at (h:=h'.push (seqObj "list" us.toArray 0)) (a:=h'.objs.size) (vs:=us) (out:=out) hoL
 refine h _ tk h'.objs.size e out.toList (fun b o hb=>?_) ⟨h',k1,ZF _⟩ (by rw[Array.toArray_toList];exact he) (by rw[a1.length_eq];exact lz) (fun v hv=>ai v (a1.mem_iff.mp hv)) (by rw[<- em];exact a1.map _) ?_
 ·have hlt:=ZW (k1 b o hb)
  rw[sortedHeap_old (WN hlt) (by rw[size_push'];exact Nat.lt_succ_of_lt hlt)]
  exact ZE _ (k1 b o hb)
 ·rw[pairwise_map]
  refine a2.imp fun {x y} q=>?_
  unfold ltI at q
  rw[decide_eq_false_iff_not]at q
  exact W20 q
end
end TS
namespace L2
open PySem PySem.Spec PyProof.Rows List
variable {X:Cx}
inductive q392  (xs:List V) (H:Hp) (Q:VK):Prop
 |mk(d:Addr)(ks:List TS.I2)(_:xs=[.ref d])(_:H d=some (.dK (ks.map fun p=>((Sum.inl p.1:Key),V.int p.2))))(_:(ks.map (·.1)).Nodup)(_:∀(l:Addr)(ms:List Int),H l=none->ms.Perm (ks.map (·.1))->ms.Pairwise (·<·)->Q (.ref l) (upd H l (.lst (ms.map V.int))))
theorem q457(hc:X.calm=true):CallR X (.builtin "sorted") q392:=by
 intro pins s σ H xs us Q I r h
 obtain⟨d,ks,rfl,hd,nd,q⟩:=h
 obtain⟨u,rfl,rx⟩:=vals1 r
 cases rx
 obtain⟨z,lo,vs,rel,dd⟩:=dk_of I.hok hd
 obtain⟨ep,da⟩:=dd.dictAt
 have hvl:ks.length=vs.length:=by
  have:=rel.length
  rw[ZK]at this
  exact this
 rw[ZK]at z
 refine TS.q799 (knd:=q58 X.prog X.w) (ks:=ks.map (·.1)) (I.ok.hd hc) lo da (by rw[ZK];exact z) (by rw[ZK];exact hvl) (fun j k x v h1 h2=>?_) fun hF tk l e out kp hl hL oz ai po le=>?_
 ·obtain⟨p,_,g1,rfl,_⟩:=q725 rel h1
  obtain⟨t',rfl⟩:=key_int h2
  exact⟨p.1,t',by rw[WE,g1];rfl,rfl⟩
 have ne:(out.map TS.kOf).Nodup:=po.nodup_iff.mpr nd
 have lt:=(List.pairwise_and_iff.mpr ⟨le,ne⟩).imp fun {x y:Int} q=>(show x<y by lia)
 have hlH:H l=none:=by
  cases q:H l with
  | none=>rfl
  | some v=>
   obtain⟨h1,k1,l1⟩:=hl
   exact absurd ((I.hok l v q).stay (H':=H) (fun c u _ z=>k1 c u z) (fun c z=>z) fun c ys z=>z).lt (Nat.not_lt_of_le l1)
 refine⟨.ref l,upd H l (.lst ((out.map TS.kOf).map V.int)),I.laidM (t':=tk) kp (fun b u e=>?_) (fun b u hb hn=>?_) (fun b u e hn=>?_),rfl,q l (out.map TS.kOf) hlH po lt⟩
 ·rw[q28 (q24 e hlH)]
  exact e
 ·obtain⟨h1,k2,l1⟩:=hl
  rw[q28 (fun z=>by rw[z]at hb;exact absurd (ZW (k2 _ _ hb)) (Nat.not_lt_of_le l1))]
  exact hn
 ·by_cases c:b=l
  ·subst c
   rw[q13]at e
   cases e
   exact⟨by rw[ZK,ZK];exact oz,out,_,q588 out ai,hL⟩
  ·rw[q28 c,hn]at e
   cases e
noncomputable def relS(scope sc0:Scope):Scope:={ scope with names:=relN scope sc0 }
theorem pe_compN{X:Cx}{scope0 sc00:Scope}{cl0:List (Str×Addr)}{C0:Addr}{x0:Str}{N0:List Str}{s0:Shared}{H0:Hp}{fp0:List Addr}{elt itr:Expr}{x:Str}{px pos:Pos}{scope:Scope}{wi:TI}{te:TE}
  (hsc0:X.env.scope=sc00) (hc:X.calm=true) (hi:PI (q36 X scope0 cl0 C0 x0 N0 s0 H0 fp0) (.Name x px) itr wi) (he:∀(C:Addr)(s₂:Shared)(H₂:Hp)(fp:List Addr),PE (q36 (q36 X scope0 cl0 C0 x0 N0 s0 H0 fp0) scope [] C x [] s₂ H₂ fp) elt te)
  (hclos:closureFor scope (q36 X scope0 cl0 C0 x0 N0 s0 H0 fp0).env=pure []) (hk:scope.kind = .function) (hok:CompOk scope (relS scope0 sc00) x [] [])
  (hs:∀ v,foldedSetIterable itr (q36 X scope0 cl0 C0 x0 N0 s0 H0 fp0).env v=pure v:=by intro _;rfl) :
  PE (q36 X scope0 cl0 C0 x0 N0 s0 H0 fp0) (.ListComp elt [⟨.Name x px,itr,[],0⟩] scope pos) (tComp wi te []):=by
 refine q63 (cl:=[]) (cn:=[]) (N:=[]) (fr:=[]) (sc0:=relS scope0 sc00) hc hi he hclos trivial rfl ?_ hk hok rfl hs
 show relabel scope0 X.env=_
 unfold relabel relS relN Env.kindOf
 rw[hsc0]
theorem pi_tupK{X:Cx}{tg l:Expr}{tl:TE}{K:Fg}(hK:X.K=K)(hl:PE X l tl):PI X tg l (iTup K tl):=by subst hK;exact q257 hl
theorem mt_joinK{X:Cx}{K:Fg}(hK:X.K=K):MtR X "str.join" (q589 K):=by subst hK;exact q130
theorem q655{M:Model}{A:Around}{E:VS}{s:Shared}{scope:Scope}{globals:Addr}{closure:List (Str×Addr)}{qual:Str}{e0:Env}{Q:Env->Shared->Prop}
  (one:∀(n:Nat) (cl:List (Str×Addr)),cellsFrom n scope.names cl=(x,n)::cl) (psh:∀ h:Heap,pushCells h scope.names=h.push { cls:=.type "cell", data:=.cell none })
  (hQ:Q (newEnv scope s.heap.objs.size globals ((x,s.heap.objs.size+1)::closure) qual none .none (some e0) builtinsNs) { s with heap:=(s.heap.push { cls:=.type "dict", data:=.dict #[] }).push { cls:=.type "cell", data:=.cell none } }) :
  wpAny M A (newFunctionEnv scope globals closure [] qual none .none (some e0)) Q E s:=by
 simp only[newFunctionEnv,Option.isSome_some,if_true]
 refine ZA (wpAny_alloc ?_)
 refine ZA (wpAny_layCells _ (fun name kind cells=>by cases hkc:kind==NameKind.cell <;> simp[hkc]) _ _ _ _ ?_)
 rw[one,psh]
 refine ZA (ZO ?_)
 refine ZO ?_
 rw[Heap.size_push]
 exact hQ
noncomputable def q49(X:Cx)(scope:Scope)(cl:List (Str×Addr))(C:Addr)(x:Str)(N:List Str)(s₂:Shared)(H₂:Hp)(fp:List Addr):Cx:=
 { q36 X scope ((x,C+1)::cl) C x N s₂ H₂ fp with fn:=fun y=>decide (y=x) }
structure CompOkC(scope sc0:Scope)(x:Str)(N cn:List Str):Prop where
 has:∀ p∈relN scope sc0,(p.2 = .cell\/p.2 = .free)->p.1∈x::cn
 one:∀(n:Nat) (cl:List (Str×Addr)),cellsFrom n scope.names cl=(x,n)::cl
 psh:∀ h:Heap,pushCells h scope.names=h.push { cls:=.type "cell", data:=.cell none }
 names:∀ p∈scope.names,p.2 = .local->scope.names.lookup p.1=some .local
 hx:(relN scope sc0).lookup x=some .cell
 nd:(x::N).Nodup
 frs:∀ y∈N,(relN scope sc0).lookup y=some .cell/\sc0.names.lookup y=some .cell/\y∈cn
theorem q277{cl:List (Str×Addr)}(h:((x,d)::cl).lookup y=some c):(y=x/\c=d)\/(y≠x/\cl.lookup y=some c):=by
 rw[lookup_cons]at h
 by_cases e:y=x
 ·rw[e]at h
  simp at h
  exact .inl ⟨e,h.symm⟩
 ·have:(y==x)=false:=by simpa using e
  rw[this]at h
  exact .inr ⟨e,h⟩
theorem q656{X:Cx}{elt itr tg:Expr}{ifs:List Expr}{x:Str}{pos:Pos}{scope sc0:Scope}{cl:List (Str×Addr)}{cn N:List Str}{fr:List Nat}{gt:TG}{tt:TT}{te:TE}{pins:List (Addr×Obj)}{σ:St}{H2:Hp}{s2:Shared}{it:Addr}{fp:List Addr}
  {tn:Nat->Heap->Prop} {J:It} {RR:Value->Addr->Result->Shared->Prop} {R:Hp->Prop} {E:VS} {W:Nat->Nat->List V->Hp->Prop} {m0:Nat}
  (hc:X.calm=true) (he:∀(C:Addr)(s₂:Shared)(H₂:Hp)(fp:List Addr),PE (q49 X scope cl C x N s₂ H₂ fp) elt te) (hct:∀(C:Addr)(s₂:Shared)(H₂:Hp)(fp:List Addr),PTs (q49 X scope cl C x N s₂ H₂ fp) ifs tt) (hgt:∀(C:Addr)(s₂:Shared)(H₂:Hp)(fp:List Addr),PG (q49 X scope cl C x N s₂ H₂ fp) tg gt)
  (hcl:q65 X.env cl) (hcn:cl.map (·.1)=cn) (hsc:X.env.scope=sc0) (hk:scope.kind = .function) (hok:CompOkC scope sc0 x N cn) (hfr:fr.map (fun j=>X.N[j]?)=N.map some)
  (I2:Inv X pins σ H2 s2) (T:Turn X.prog X.w X.K tg J fp it tn) (st2:tn 0 s2.heap) (f2:∀ b∈fp,FpOk X pins H2 b)
  (w0:W 0 m0 [] (upd H2 s2.heap.objs.size (.lst [])))
  (turn:∀ i m ys H,W i m ys H->H s2.heap.objs.size=some (.lst ys)/\((J.stop i H/\R H)\/(J.go i H/\ys.length<sizeLine /\ ∃(N:V->Hp->Prop)(Z:Hp->Prop),
   (∀ y H3,N y H3->H3 s2.heap.objs.size=some (.lst ys) /\ ∃ m',m'<m/\W (i+1) m' (ys++[y]) (upd H3 s2.heap.objs.size (.lst (ys++[y]))))/\(∀ H3,Z H3 -> ∃ m',m'<m/\W (i+1) m' ys H3) /\
   ∀ x H',J.yld i H x H' -> ∀ vs:St,vs.length=1->gt x (vs++fr.map fun j=>(σ[j]?).getD none) H' fun σ' H3=>(∃ vs':St,vs'.length=1/\σ'=vs'++fr.map fun j=>(σ[j]?).getD none)/\tt σ' H3 fun b H4=>if b=true then te σ' H4 N else Z H4)))
  (hRR:∀(C:Addr)(H6:Hp)(s6:Shared)(m6:Mg),s6.heap.Ns C m6->Inv X pins σ H6 s6->FpOk X pins H6 C->R H6->RR (.ref s2.heap.objs.size) C (.ok .next) s6) :
  wpAny (model X.prog X.w) X.A (newList []) (fun acc s₃=>wpAny (model X.prog X.w) X.A (newFunctionEnv scope X.env.globals cl [] X.env.qual none .none (some X.env)) (fun cenv s₄=>
   codeAny (model X.prog X.w) X.A (.compStart (.ListComp elt [⟨tg,itr,ifs,0⟩] scope pos) 0 (.ref it) acc { cenv with scope:=relabel scope X.env }) (RR acc cenv.locals) s₄) E s₃) E s2:=by
 refine YZ (q655 hok.one hok.psh ?_)
 dsimp only
 have rel:∀ y,(compEnvC scope cl 0 X.env).scope.names.lookup y=(relN scope sc0).lookup y:=fun y=>by
  show(relabel scope X.env).names.lookup y=_
  unfold relabel relN Env.kindOf
  rw[hsc]
 generalize hD:s2.heap.objs.size=D at *
 have I3:Inv X pins σ (upd H2 D (.lst [])) { s2 with heap:=s2.heap.push { cls:=.type "list", dict:=none,data:=.seq ([]:List Value).toArray } }:=
  I2.laid (t':=s2.toks) (fun b u e=>ZE _ e) (Nat.le_of_eq hD) ⟨ZX _,[],0,.nil,by rw[<- hD];exact ZY _ rfl⟩
 have k23:∀ b u,s2.heap.get? b=some u->(s2.heap.push { cls:=.type "list", dict:=none,data:=.seq ([]:List Value).toArray }).get? b=some u:=fun b u e=>ZE _ e
 have hsz:s2.heap.objs.size<=(s2.heap.push { cls:=.type "list", dict:=none,data:=.seq ([]:List Value).toArray }).objs.size:=by rw[Heap.size_push];exact Nat.le_succ _
 generalize hh3:s2.heap.push { cls:=.type "list", dict:=none,data:=.seq ([]:List Value).toArray }=h3 at *
 have hns0:(h3.push { cls:=.type "dict", data:=.dict #[] }).Ns h3.objs.size fun _=>none:=Heap.Ns.new h3 (.type "dict")
 have kc:∀ b u,(h3.push { cls:=.type "dict", data:=.dict #[] }).get? b=some u->((h3.push { cls:=.type "dict", data:=.dict #[] }).push { cls:=.type "cell", data:=.cell none }).get? b=some u:=fun b u e=>ZE _ e
 have hns:((h3.push { cls:=.type "dict", data:=.dict #[] }).push { cls:=.type "cell", data:=.cell none }).Ns h3.objs.size fun _=>none:=hns0.keeps kc
 have hcc:((h3.push { cls:=.type "dict", data:=.dict #[] }).push { cls:=.type "cell", data:=.cell none }).IsCell (h3.objs.size+1) none:=⟨_,by rw[<- Heap.size_push (h:=h3)];exact ZY _ rfl,rfl⟩
 have k34:∀ b u,h3.get? b=some u->((h3.push { cls:=.type "dict", data:=.dict #[] }).push { cls:=.type "cell", data:=.cell none }).get? b=some u:=fun b u e=>kc b u (ZE _ e)
 generalize (h3.push { cls:=.type "dict", data:=.dict #[] }).push { cls:=.type "cell", data:=.cell none }=h4 at *
 clear hns0 kc
 generalize hC:h3.objs.size=C at *
 have I4:Inv X pins σ (upd H2 D (.lst [])) { s2 with heap:=h4,toks:=s2.toks }:=I3.kept (t':=s2.toks) k34
 generalize hH3:upd H2 D (.lst [])=H3 at *
 have ltC:∀ b o,s2.heap.get? b=some o->b<C:=fun b o e=>WG (ZW e) hsz
 have lenF:fr.length=N.length:=by simpa using congrArg List.length hfr
 have fpo:∀ b∈fp,b≠C/\b ∉ frs X.stack:=fun b hb=>by
  obtain⟨o,e,_⟩:=T.obj 0 s2.heap st2 b hb
  refine⟨WN (ltC b o e),fun z=>?_⟩
  obtain⟨_,n1,n2,_⟩:=f2 b hb
  rcases List.mem_cons.mp (I2.stkSub b z)with q | q
  ·exact n1 q
  ·exact n2 q
 have clt:∀ y c,cl.lookup y=some c->c<C:=fun y c e=>by
  obtain⟨v,q⟩:=I2.cell y c (hcl.look e)
  obtain⟨o,ho,_⟩:=q
  exact ltC c o ho
 have clb:∀ y c,((x,C+1)::cl).lookup y=some c -> ∀ b∈fp,c≠b:=fun y c e b hb=>by
  rcases q277 e with ⟨_,rfl⟩ | ⟨_,e'⟩
  ·obtain⟨o,eb,_⟩:=T.obj 0 s2.heap st2 b hb
   exact(WN (Nat.lt_succ_of_lt (ltC b o eb))).symm
  ·exact(f2 b hb).2.2.2.2.1 y c (hcl.look e')
 have H3C:H3 C=none:=I3.hok.fresh (Nat.le_of_eq hC)
 have H3D:H3 (C+1)=none:=I3.hok.fresh (by show h3.objs.size<=C+1;lia)
 have okX:(q49 X scope cl C x N { s2 with heap:=h3 } H3 fp).Ok:=by
  refine⟨I2.ok.mod,hk,I2.ok.glob,I2.ok.blt,Nat.le_of_eq hC,fun y z c e1 e2=>?_,fun y hy=>?_,fun y c z e=>?_,fun z=>I2.ok.hd z,I2.ok.frames,.inl rfl,
   fun b hb=>⟨(fpo b hb).1,fun y c e=>clb y c e b hb⟩,fun b o e=>I3.bs b o e,ZT I2.ok.bsz I3.sz,fun b o e hb=>?_,fun b hb=>(fpo b hb).2,I3.stack,I3.stkFree⟩
  ·rcases q277 e1 with ⟨a1,b1⟩ | ⟨a1,b1⟩
   ·rcases q277 e2 with ⟨a2,b2⟩ | ⟨a2,b2⟩
    ·rw[a1,a2]
    ·exact absurd (clt z c b2) (by rw[b1];exact Nat.not_lt_of_le (Nat.le_succ _))
   ·rcases q277 e2 with ⟨a2,b2⟩ | ⟨a2,b2⟩
    ·exact absurd (clt y c b1) (by rw[b2];exact Nat.not_lt_of_le (Nat.le_succ _))
    ·exact I2.ok.inj y z c (hcl.look b1) (hcl.look b2)
  ·have hy':(relN scope sc0).lookup y=some .cell\/(relN scope sc0).lookup y=some .free:=by
    rcases hy with hy | hy
    ·exact .inl ((rel y).symm.trans hy)
    ·exact .inr ((rel y).symm.trans hy)
   have hm:y∈x::cn:=by
    rcases hy' with q | q
    ·exact hok.has (y,.cell) (q143 q) (.inl rfl)
    ·exact hok.has (y,.free) (q143 q) (.inr rfl)
   exact q114 (cl:=(x,C+1)::cl) (n:=y) (by rw[YA,hcn];exact hm)
  ·obtain rfl:y=x:=ZI z
   rcases q277 e with ⟨_,rfl⟩ | ⟨ne,_⟩
   ·show h3.objs.size<=C+1
    lia
   ·exact absurd rfl ne
  ·rcases(f2 b hb).2.2.2.1 with z | z
   ·exact I2.ok.noex b o e z
   ·exact absurd (WG (ZW e) (ZT I2.ok.bsz z)) (Nat.lt_irrefl _)
 have I5:Inv (q49 X scope cl C x N { s2 with heap:=h3 } H3 fp) [] ([none]++fr.map fun j=>(σ[j]?).getD none) H3 { s2 with heap:=h4,toks:=s2.toks }:=by
  refine⟨okX,rfl,I4.bare,Un.kept k34,⟨_,hns,fun i y v e1 e2 e3=>?_⟩,fun y c e=>?_,H3C,fun y c e=>?_,fun p hp=>absurd (show p∈([]:List (Addr×Obj))from hp) (by simp),I4.hok,by simp[q49,q36,lenF]⟩
  ·cases i with
   | zero=>cases e2
   | succ j=>
    have e1':N[j]? = some y:=e1
    have e2':(fr.map fun j=>(σ[j]?).getD none)[j]? = some (some v):=e2
    obtain⟨k,ek⟩:∃ k,fr[j]? = some k:=by
     have:j<fr.length:=by rw[lenF];exact(List.getElem?_eq_some_iff.mp e1').1
     exact⟨fr[j],ZP this⟩
    rw[WE,ek]at e2'
    have e2'':(σ[k]?).getD none=some v:=Option.some.inj e2'
    have eσ:σ[k]? = some (some v):=by
     cases q:σ[k]? with
     | none=>rw[q]at e2'';cases e2''
     | some o=>rw[q]at e2'';exact congrArg some e2''
    have eN:X.N[k]? = some y:=by
     have z:=congrArg (fun l=>l[j]?) hfr
     simp only[WE,ek,e1',Option.map_some]at z
     exact Option.some.inj z
    have hmy:=ZV e1'
    obtain⟨r1,r2,r3⟩:=hok.frs y hmy
    have nyx:y≠x:=fun z=>(List.nodup_cons.mp hok.nd).1 (z▸hmy)
    obtain⟨m,_,hl⟩:=I4.loc
    obtain⟨u,ru,look⟩:=hl k y v eN eσ (.inr (.inl (by rw[hsc];exact r2)))
    refine⟨u,ru,.inr ⟨.inl ((rel y).trans r1),?_⟩⟩
    rcases look with ⟨l1,_⟩ | ⟨_,c,l1,l2⟩
    ·exfalso
     have l1':X.env.scope.names.lookup y=some .local:=l1
     rw[hsc,r2]at l1'
     cases l1'
    ·obtain⟨c',l3⟩:=q114 (cl:=cl) (n:=y) (by rw[hcn];exact r3)
     have l4:=hcl.look l3
     rw[l1]at l4
     cases l4
     refine⟨c,?_,l2⟩
     show((x,C+1)::cl).lookup y=some c
     rw[lookup_cons,show(y==x)=false by simpa using nyx]
     exact l3
  ·rcases q277 e with ⟨_,rfl⟩ | ⟨_,e'⟩
   ·exact⟨none,hcc⟩
   ·exact I4.cell y c (hcl.look e')
  ·rcases q277 e with ⟨_,rfl⟩ | ⟨_,e'⟩
   ·exact H3D
   ·exact I4.freeC y c (hcl.look e')
 have st4:tn 0 h4:=T.keep 0 s2.heap h4 st2 fun b hb o e=>k34 b o (k23 b o e)
 have fp5:∀{H':Hp},(∀ b∈fp,H' b=none) -> ∀ b∈fp,FpOk (q49 X scope cl C x N { s2 with heap:=h3 } H3 fp) [] H' b:=fun hn b hb=>
  ⟨hn b hb,(fpo b hb).1,(fpo b hb).2,.inl hb,fun y c e=>clb y c e b hb,fun p hp=>absurd (show p∈([]:List (Addr×Obj))from hp) (by simp)⟩
 have fr3:∀ b∈fp,H3 b=none:=fun b hb=>by
  obtain⟨o,e,_⟩:=T.obj 0 s2.heap st2 b hb
  have:b≠D:=WN (hD▸ZW e)
  rw[<- hH3,q28 this]
  exact(f2 b hb).1
 have fin:∀(H6:Hp)(s6:Shared)(σ6:St),Inv (q49 X scope cl C x N { s2 with heap:=h3 } H3 fp) [] σ6 H6 s6->Inv X pins σ H6 s6/\FpOk X pins H6 C:=by
  intro H6 s6 σ6 I6
  refine⟨I3.call' (s':=s6) (ch:=fp) I6.os ⟨I6.base.keep,I6.base.slot,I6.base.free,I6.base.there,I6.base.tups,I6.base.frzs,I6.base.tbls⟩ I6.hok I6.bare (fun b hb=>?_),I3.fpOk (Nat.le_of_eq hC) I6.free⟩
  obtain⟨_,n1,_,n3,n4,n5⟩:=f2 b hb
  exact⟨n3,n1,n4,n5⟩
 have loop:codeAny (model X.prog X.w) X.A (.compLoop (.ListComp elt [⟨tg,itr,ifs,0⟩] scope pos) 0 (.ref it) (.ref D) (compEnvC scope ((x,C+1)::cl) C X.env))
   (RR (.ref D) C) { s2 with heap:=h4,toks:=s2.toks }:=by
  refine q338 (fun n s'=>∃(i:Nat)(vs:St)(ys:List V)(H':Hp),vs.length=1/\Inv (q49 X scope cl C x N { s2 with heap:=h3 } H3 fp) [] (vs++fr.map fun j=>(σ[j]?).getD none) H' s'/\tn i s'.heap/\(∀ b∈fp,H' b=none)/\W i n ys H') ?_ m0
   ⟨0,[none],[],H3,rfl,I5,st4,fr3,w0⟩
  rintro n s6 ⟨i,vs,ys,H6,hvs,I6,st6,fr6,w6⟩
  obtain⟨hDl,hw⟩:=turn i n ys H6 w6
  rcases hw with ⟨stop,qn⟩ | ⟨go,hlen,N',Z',hN',hZ',step⟩
  ·refine thn (T.done (q49 X scope cl C x N { s2 with heap:=h3 } H3 fp) rfl rfl rfl hc i [] s6 _ H6 _ I6 (fp5 fr6) st6 stop) fun r s7 ⟨hr,I7⟩=>?_
   subst hr
   obtain⟨m7,hn7,_⟩:=I7.loc
   obtain⟨J7,F7⟩:=fin H6 s7 _ I7
   exact hRR C H6 s7 m7 hn7 J7 F7 qn
  ·refine thn (T.item (q49 X scope cl C x N { s2 with heap:=h3 } H3 fp) rfl rfl rfl hc i [] s6 _ H6 _ I6 (fp5 fr6) st6 go) fun r s7 ⟨u,hr,h7⟩=>?_
   subst hr
   refine thn h7 fun _ s8 ⟨x8,H8,I8,r8,y8,st8,fr8⟩=>?_
   have I8':=I8.pinned (fp5 fr8) (T.obj _ _ st8)
   refine WX ((hgt C) { s2 with heap:=h3 } H3 fp _ s8 _ H8 x8 u _ I8' r8 (step x8 H8 y8 vs hvs)) (fun _ s9 h9=>?_) fun _ _ z=>False.elim z
   obtain⟨σ9,H9a,I9,⟨vs9,hl9,e9⟩,n9a⟩:=h9
   subst e9
   refine WX (hct C { s2 with heap:=h3 } H3 fp _ s9 _ H9a _ I9 n9a) (fun okb s9b h9b=>?_) fun _ _ z=>False.elim z
   obtain⟨H9,I9b,n9⟩:=h9b
   cases okb with
   | false=>
    rw[ZJ fnt]at n9 ⊢
    obtain⟨m',hm,w9⟩:=hZ' _ n9
    refine⟨m',hm,i+1,vs9,ys,_,hl9,I9b.unpinned,T.keep _ _ _ st8 fun b hb o e=>(I9b.pin (b,o) (WI _ (WI _ (q54 hb e)))).1,fun b hb=>?_,w9⟩
    obtain⟨o,e,d⟩:=T.obj _ _ st8 b hb
    exact(I9b.pin (b,o) (WI _ (WI _ (q54 hb e)))).2.1
   | true=>
    rw[ZL rfl]at n9 ⊢
    refine WX (he C { s2 with heap:=h3 } H3 fp _ s9b _ H9 _ I9b n9) (fun y s10 h10=>?_) fun _ _ z=>False.elim z
    obtain⟨y10,H10,I10,r10,n10⟩:=h10
    obtain⟨hD10,m',hm,w10⟩:=hN' y10 H10 n10
    refine WX (q71 (X:=q49 X scope cl C x N { s2 with heap:=h3 } H3 fp) _ s10 _ H10 (.ref D) [y10] (.ref D) [y] (fun _ H'=>H'=upd H10 D (.lst (ys++[y10]))) I10 rfl (.cons r10 .nil) ⟨D,ys,y10,rfl,rfl,hD10,hlen,rfl⟩) (fun _ s11 h11=>?_) fun _ _ z=>False.elim z
    obtain⟨_,H11,I11,_,e11⟩:=h11
    subst e11
    refine⟨m',hm,i+1,vs9,ys++[y10],_,hl9,I11.unpinned,T.keep _ _ _ st8 fun b hb o e=>(I11.pin (b,o) (WI _ (WI _ (q54 hb e)))).1,fun b hb=>?_,w10⟩
    obtain⟨o,e,d⟩:=T.obj _ _ st8 b hb
    exact(I11.pin (b,o) (WI _ (WI _ (q54 hb e)))).2.1
 exact codeAny_compStart_list loop (T.self _ 0 _ _ _ st4 loop)
theorem pe_compC{X:Cx}{elt itr:Expr}{x:Str}{px pos:Pos}{scope sc0:Scope}{cl:List (Str×Addr)}{cn N:List Str}{fr:List Nat}{wi:TI}{te:TE}
  (hc:X.calm=true) (hi:PI X (.Name x px) itr wi) (he:∀(C:Addr)(s₂:Shared)(H₂:Hp)(fp:List Addr),PE (q49 X scope cl C x N s₂ H₂ fp) elt te)
  (hclos:closureFor scope X.env=pure cl) (hcl:q65 X.env cl) (hcn:cl.map (·.1)=cn) (hsc:X.env.scope=sc0) (hk:scope.kind = .function) (hok:CompOkC scope sc0 x N cn)
  (hfr:fr.map (fun j=>X.N[j]?)=N.map some) (hs:∀ v,foldedSetIterable itr X.env v=pure v:=by intro _;rfl) :
  PE X (.ListComp elt [⟨.Name x px,itr,[],0⟩] scope pos) (tComp wi te fr):=by
 intro pins s σ H Q I h
 rw[eval_ListComp]
 refine wpAny_comprehension_free (use:=none) rfl hs hclos hk hok.names (thn (hi pins s σ H _ I h) fun v s1 h1=>thn h1 fun itv s2 h2=>?_)
 obtain⟨it,fp,tn,J,H2,e,I2,T,st2,f2,hq⟩:=h2
 subst e
 obtain⟨W,⟨m0,w0⟩,turn⟩:=hq s2.heap.objs.size (I2.hok.fresh (ZF _))
 have hlk:∀ C,(compEnvC scope ((x,C+1)::cl) C X.env).scope.names.lookup x=some .cell:=fun C=>by
  show(relabel scope X.env).names.lookup x=_
  rw[<- hok.hx]
  unfold relabel relN Env.kindOf
  rw[hsc]
 refine q656 (gt:=gName 0) (tt:=fun _ H Q=>Q true H) (RR:=fun acc C=>compPost (model X.prog X.w) X.A X.xe none (EP X pins σ Q) acc C) (R:=fun H6=>Q (.ref s2.heap.objs.size) H6) hc he (fun _ _ _ _=>q269) (fun C _ _ _=>q98 hok.nd rfl (.inr (hlk C)) (.inl (ZG rfl))) hcl hcn hsc hk hok hfr I2 T st2 f2 w0 (fun i m ys H h=>?_)
  fun C H6 s6 m6 hn I6 F6 q=>⟨m6,hn,fun h' sb=>⟨.ref s2.heap.objs.size,H6,I6.let_go F6 sb,rfl,q⟩⟩
 obtain⟨a,b⟩:=turn i m ys H h
 exists a
 rcases b with b | ⟨g,l,N,h1,h2⟩
 ·exact .inl b
 refine .inr ⟨g,l,N,fun _=>False,h1,fun _ z=>z.elim,fun x H' y vs hv=>?_⟩
 match vs,hv with
 | [v0],_=>exact⟨⟨[some x],rfl,rfl⟩,iteT (h2 x H' y)⟩
theorem q657{X:Cx}{scope0 sc00:Scope}{cl0:List (Str×Addr)}{C0:Addr}{x0:Str}{N0:List Str}{s0:Shared}{H0:Hp}{fp0:List Addr}{elt itr cc:Expr}{x:Str}{px pos:Pos}{scope:Scope}{cl:List (Str×Addr)}{cn N:List Str}{fr:List Nat}{wi:TI}{tt:TT}{te:TE}
  (hsc0:X.env.scope=sc00) (hc:X.calm=true) (hi:PI (q49 X scope0 cl0 C0 x0 N0 s0 H0 fp0) (.Name x px) itr wi) (he:∀(C:Addr)(s₂:Shared)(H₂:Hp)(fp:List Addr),PE (q36 (q49 X scope0 cl0 C0 x0 N0 s0 H0 fp0) scope cl C x N s₂ H₂ fp) elt te) (hct:∀(C:Addr)(s₂:Shared)(H₂:Hp)(fp:List Addr),PT (q36 (q49 X scope0 cl0 C0 x0 N0 s0 H0 fp0) scope cl C x N s₂ H₂ fp) cc tt)
  (hclos:closureFor scope (q49 X scope0 cl0 C0 x0 N0 s0 H0 fp0).env=pure cl) (hcl:q65 (q49 X scope0 cl0 C0 x0 N0 s0 H0 fp0).env cl) (hcn:cl.map (·.1)=cn) (hk:scope.kind = .function) (hok:CompOk scope (relS scope0 sc00) x N cn)
  (hfr:fr.map (fun j=>(x0::N0)[j]?)=N.map some) (hs:∀ v,foldedSetIterable itr (q49 X scope0 cl0 C0 x0 N0 s0 H0 fp0).env v=pure v:=by intro _;rfl) :
  PE (q49 X scope0 cl0 C0 x0 N0 s0 H0 fp0) (.ListComp elt [⟨.Name x px,itr,[cc],0⟩] scope pos) (q523 wi tt te fr):=by
 refine q83 (cl:=cl) (cn:=cn) (N:=N) (fr:=fr) (sc0:=relS scope0 sc00) hc hi he hct hclos hcl hcn ?_ hk hok hfr hs
 show relabel scope0 X.env=_
 unfold relabel relS relN Env.kindOf
 rw[hsc0]
end L2
namespace My
local macro_rules|`(tactic|ac_rfl)=>`(tactic|with_unfolding_all rfl)
local macro_rules(kind:=Lean.Parser.Term.tuple)|`(())=>`(by rfl)
open PySem L2 List
abbrev pn0:List Str:=["bounds", "gathering", "number"]
abbrev pn1:List Str:=["_law_pen_here", "_law_bounds_here", "_law_things_here"]
abbrev pn2:List Str:=["bounds", "gathering", "k"]
abbrev pn3:List Str:=["_law_pen_here", "_law_bounds_here", "_law_longest"]
abbrev pn4:List Str:=["_law_pen_here", "_law_bounds_here", "_law_rows"]
abbrev pn5:List Str:=["bounds", "gathering", "lead", "name", "values"]
abbrev pn6:List Str:=["bounds", "gathering"]
abbrev pn7:List Str:=["_law_pen_here", "_law_rows", "_law_longest"]
abbrev pn8:List Str:=["least", "many", "parts", "part", "floor"]
abbrev pn9:List Str:=["bounds", "gathering", "name", "values"]
abbrev pn10:List Str:=["bounds", "number"]
abbrev pn11:List Str:=["gathering", "way"]
abbrev pn12:List Str:=["word"]
abbrev pn13:List Str:=["bounds", "gathering", "low", "high"]
abbrev pn14:List Str:=["self", "bounds"]
abbrev pn15:List Str:=["stretch", "way"]
abbrev pn16:List Str:=["_law_pen_here"]
abbrev pn17:List Str:=["self", "make"]
abbrev pn21:List Str:=["self", "row"]
noncomputable def top(i:Nat):Stmt:=PySem.Challenge.pw_manyleast_k60_what_a_desk_is_asked.main.body.getD i (.Pass ⟨0,0,0,0⟩)
section
open PySem.W
noncomputable def strOf:Value->Option Str
 | .str x _=>some x
 | _=>none
noncomputable def tabD(K:Fg)(a:Addr):List (Str×Addr):=match List.lookup a K with
 | some o=>(match o.data with
  | .dict es _=>es.toList.filterMap fun e=>match e.key,e.val with
   | .str x _,.ref d=>some (x,d)
   | _,_=>none
  | _=>[])
 | none=>[]
noncomputable def tupB(K:Fg)(d:Addr)(ks:List Str):Bool:=match List.lookup d K with
 | some o=>o.cls == .type "tuple" && (match o.data with
  | .seq its _=>decide (its.size<=10)&&decide (its.toList.map strOf=ks.map some)
  | _=>false)
 | none=>false
noncomputable def forms:List (Str×List Str):=[("put", ["count", "count", "number"]),("take", ["count", "count"]),("set", ["count", "count", "number"]),("cut", ["count", "count", "count"]),("join", ["count", "count"]),("turn", ["count"]),("flip", ["count"]),("show", ["count"]),("least", ["gathering", "count"]),("below", ["gathering", "number"]),("between", ["gathering", "number", "number"]),("falls", ["stretch"]),("up", ["gathering", "number"]),("down", ["gathering", "number"]),("most", ["gathering"]),("often", ["gathering", "part"])]
noncomputable def formB(K:Fg)(D:List (Str×Addr))(f:Str×List Str):Bool:=match PyProof.Rows.KTD.datumAt f.1 D with
 | some d=>tupB K d f.2
 | none=>false
noncomputable def frmB(K:Fg)(a:Addr):Bool:=PyProof.Rows.KTD.tabLook (fun(d:Addr) (v:Value)=>v == .ref d) (fun b=>List.lookup b K) a (tabD K a)&&forms.all (formB K (tabD K a))
theorem q458:∀{its:List Value}{ks:List Str},its.map strOf=ks.map some->Vals (ks.map V.str) its
 | [],[],_=>.nil
 | [],k::ks,h=>by cases h
 | v::its,[],h=>by cases h
 | v::its,k::ks,h=>by
  obtain⟨h1,h2⟩:=List.cons.inj h
  refine .cons ?_ (q458 h2)
  cases v with
  | str x t=>
   obtain rfl:x=k:=Option.some.inj h1
   exact⟨t,rfl⟩
  | _=>cases h1
theorem tup_sq{ks:List Str}(h:tupB K d ks=true)(H:Hp):SqT K H d (ks.map V.str):=by
 unfold tupB at h
 split at h
 ·rename_i o ho
  rw[WZ]at h
  obtain⟨h1,h2⟩:=h
  split at h2
  ·rename_i its n hd
   rw[WZ,decide_eq_true_iff,decide_eq_true_iff]at h2
   exact .inr ⟨o,its,n,ho,eq_of_beq h1,hd,ZT h2.1 {},q458 h2.2⟩
  ·cases h2
 ·cases h
theorem frm_use(h:frmB K a=true){f:Str×List Str}(hf:f∈forms):TabK K a (tabD K a) /\ ∃ d,PyProof.Rows.KTD.datumAt f.1 (tabD K a)=some d/\PyProof.Rows.KTD.inKeys f.1 (tabD K a)=true /\ ∀ H,SqT K H d (f.2.map V.str):=by
 unfold frmB at h
 rw[WZ]at h
 exists h.1
 have z:=List.all_eq_true.mp h.2 f hf
 unfold formB at z
 split at z
 ·rename_i d hd
  exact⟨d,hd,by rw[<- PyProof.Rows.KTD.isSome_datumAt,hd];rfl,tup_sq z⟩
 ·cases z
end
noncomputable def q100:Stmt->List Stmt
 | .ClassDef _ _ _ b _ _ _ _ _ _ _=>b
 | _=>[]
noncomputable abbrev q177:Stmt:=top 10
noncomputable abbrev q591:Stmt:=top 11
noncomputable abbrev q736:Stmt:=top 12
noncomputable abbrev q459:Stmt:=top 13
noncomputable abbrev q592:Stmt:=top 14
noncomputable abbrev q737:Stmt:=top 16
noncomputable abbrev q346:Stmt:=top 17
noncomputable abbrev q460:Stmt:=top 18
noncomputable abbrev q461:Stmt:=top 20
noncomputable abbrev q278:Stmt:=top 21
noncomputable abbrev q462:Stmt:=top 23
noncomputable abbrev q463:Stmt:=top 24
noncomputable abbrev q279:Stmt:=top 30
noncomputable abbrev q393:Stmt:=top 31
noncomputable abbrev s_led:Stmt:=top 32
noncomputable abbrev q178:Stmt:=top 33
noncomputable abbrev q593:Stmt:=top 34
noncomputable abbrev q280:Stmt:=top 36
noncomputable abbrev q222:Stmt:=top 37
noncomputable abbrev q281:Stmt:=top 38
noncomputable abbrev q179:Stmt:=top 39
noncomputable abbrev q738:Stmt:=top 40
noncomputable abbrev q464:Stmt:=top 41
noncomputable abbrev q282:Stmt:=top 43
noncomputable abbrev s_most:Stmt:=top 44
noncomputable abbrev q739:Stmt:=top 45
noncomputable abbrev q132:Stmt:=top 46
noncomputable abbrev q465:Stmt:=top 61
noncomputable abbrev q283:Stmt:=top 62
noncomputable abbrev q180:Stmt:=top 63
noncomputable abbrev q181:Stmt:=top 74
noncomputable abbrev q210:Stmt:=top 75
noncomputable abbrev q182:Stmt:=top 77
noncomputable abbrev q115:Stmt:=top 78
noncomputable abbrev q594:Stmt:=top 83
noncomputable abbrev q150:Stmt:=top 84
noncomputable abbrev q101:Stmt:=top 85
noncomputable abbrev q170:Stmt:=top 86
noncomputable abbrev q530:Stmt:=top 112
noncomputable abbrev q133:Stmt:=top 113
noncomputable abbrev q223:Stmt:=top 114
noncomputable abbrev q284:Stmt:=top 116
noncomputable abbrev q347:Stmt:=top 117
noncomputable abbrev q466:Stmt:=top 118
noncomputable abbrev q285:Stmt:=top 119
noncomputable abbrev q211:Stmt:=top 120
noncomputable abbrev q286:Stmt:=top 128
noncomputable abbrev q348:Stmt:=top 129
noncomputable abbrev q171:Stmt:=top 130
noncomputable abbrev q349:Stmt:=top 131
noncomputable abbrev q350:Stmt:=top 135
noncomputable abbrev q224:Stmt:=top 136
noncomputable abbrev q287:Stmt:=top 137
noncomputable abbrev q183:Stmt:=top 138
noncomputable abbrev q212:Stmt:=top 139
noncomputable abbrev q172:Stmt:=top 140
noncomputable abbrev q116:Stmt:=top 141
noncomputable abbrev q117:Stmt:=top 142
noncomputable abbrev q134:Stmt:=top 143
noncomputable abbrev q84:Stmt:=top 144
noncomputable abbrev q288:Stmt:=top 145
noncomputable abbrev q96:Stmt:=top 146
noncomputable abbrev q184:Stmt:=top 147
noncomputable abbrev q51:Stmt:=top 148
noncomputable abbrev s_law:Stmt:=top 149
noncomputable abbrev q467:Stmt:=(q100 (top 109)).getD 0 (.Pass ⟨0,0,0,0⟩)
noncomputable abbrev q351:Stmt:=(q100 (top 109)).getD 1 (.Pass ⟨0,0,0,0⟩)
noncomputable abbrev q595:Stmt:=(q100 (top 109)).getD 10 (.Pass ⟨0,0,0,0⟩)
noncomputable abbrev q289:Stmt:=(q100 (top 109)).getD 13 (.Pass ⟨0,0,0,0⟩)
noncomputable abbrev q468:Stmt:=(q100 (top 109)).getD 14 (.Pass ⟨0,0,0,0⟩)
noncomputable abbrev q596:Stmt:=(q100 (top 109)).getD 15 (.Pass ⟨0,0,0,0⟩)
noncomputable abbrev q597:Stmt:=(q100 (top 133)).getD 0 (.Pass ⟨0,0,0,0⟩)
noncomputable abbrev q531:Stmt:=(q100 (top 133)).getD 1 (.Pass ⟨0,0,0,0⟩)
noncomputable abbrev q151:Stmt:=(q100 (top 133)).getD 2 (.Pass ⟨0,0,0,0⟩)
noncomputable abbrev q598:Stmt:=(q100 (top 133)).getD 3 (.Pass ⟨0,0,0,0⟩)
theorem q316:FnScope ["levels", "many", "level"] ["levels"] (q17 q177):=fsc
theorem q740:FnScope ["bounds"] ["bounds"] (q17 q591):=fsc
theorem sc_where:FnScope pn10 pn10 (q17 q736):=fsc
theorem q658:FnScope ["bounds", "way", "least", "many", "turn"] ["bounds", "way"] (q17 q459):=fsc
theorem q741:FnScope (pn10.append ["least", "many", "way", "level"]) pn10 (q17 q592):=fsc
theorem sc_ahead:FnScope ["marks", "mark", "place"] ["marks", "mark", "place"] (q17 q737):=fsc
theorem q532:FnScope ["marks", "mark", "number", "left", "place", "other"] ["marks", "mark", "number"] (q17 q346):=fsc
theorem q659:FnScope ["marks", "start", "end", "ones", "pairs", "place"] ["marks", "start", "end"] (q17 q460):=fsc
theorem q660:FnScope ["bounds", "row", "number"] ["bounds", "row"] (q17 q461):=fsc
theorem sc_grown:FnScope ["least", "many", "row", "half", "middle", "marks", "lower", "upper"] ["least", "many", "row"] (q17 q278):=fsc
theorem q661:FnScope ["tree", "mark"] ["tree", "mark"] (q17 q462):=fsc
theorem q662:FnScope ["tree"] ["tree"] (q17 q463):=fsc
theorem q663:FnScope ["gathering"] ["gathering"] (q17 q279):=fsc
theorem q742:FnScope ["gathering"] ["gathering"] (q17 q393):=fsc
theorem sc_led:FnScope pn11 pn11 (q17 s_led):=fsc
theorem q317:FnScope (pn15.append ["part", "start", "end", "turn", "half"]) pn15 (q17 q178):=fsc
theorem q743:FnScope ["tree", "way", "place", "inner"] ["tree", "way", "place"] (q17 q593):=fsc
theorem q469:FnScope (pn2.append ["way", "alike"]) pn2 (q17 q280):=fsc
theorem q394:FnScope ["levels", "gathering", "k", "way", "parts", "left", "level", "lower", "turn"] ["levels", "gathering", "k"] (q17 q222):=fsc
theorem q470:FnScope ["gathering", "way", "number", "parts", "left", "j"] ["gathering", "way", "number"] (q17 q281):=fsc
theorem q318:FnScope (pn11.append ["many", "parts", "turn"]) pn11 (q17 q179):=fsc
theorem sc_below:FnScope (pn0.append ["side"]) pn0 (q17 q738):=fsc
theorem q664:FnScope pn13 pn13 (q17 q464):=fsc
theorem q471:FnScope pn6 pn6 (q17 q282):=fsc
theorem sc_most:FnScope (pn6.append ["best", "counted"]) pn6 (q17 s_most):=fsc
theorem sc_often:FnScope ["bounds", "gathering", "part"] ["bounds", "gathering", "part"] (q17 q739):=fsc
theorem q241:FnScope (pn8.append ["things", "half", "lower", "upper"]) pn8 (q17 q132):=fsc
theorem q665:FnScope (pn0.append ["k"]) pn0 (q17 q465):=fsc
theorem q472:FnScope (pn0.append ["k"]) pn0 (q17 q283):=fsc
theorem q319:FnScope (pn2.append ["way"]) pn2 (q17 q180):=fsc
theorem q320:FnScope ["number"] ["number"] (q17 q181):=fsc
theorem q533:FnScope ["row"] ["row"] (q17 q210):=fsc
theorem q321:FnScope ["text", "figures"] ["text"] (q17 q182):=fsc
theorem q322:FnScope ["text"] ["text"] (q17 q115):=fsc
theorem q744:FnScope pn5 pn5 (q17 q594):=fsc
theorem q290:FnScope pn9 pn9 (q17 q150):=fsc
theorem q291:FnScope ["counted"] ["counted"] (q17 q101):=fsc
theorem q473:FnScope ["told"] ["told"] (q17 q170):=fsc
theorem sc_falls:FnScope ["stretch"] ["stretch"] (q17 q530):=fsc
theorem q242:FnScope ["stretch"] ["stretch"] (q17 q133):=fsc
theorem q395:FnScope (pn15.append ["own", "found", "turn"]) pn15 (q17 q223):=fsc
theorem q474:FnScope pn12 pn12 (q17 q284):=fsc
theorem q534:FnScope (pn12.append ["number"]) pn12 (q17 q347):=fsc
theorem q666:FnScope (pn12.append ["number"]) pn12 (q17 q466):=fsc
theorem q667:FnScope (pn12.append ["pieces"]) pn12 (q17 q285):=fsc
theorem q535:FnScope (pn12.append ["pieces"]) pn12 (q17 q211):=fsc
theorem q475:FnScope ["row", "words", "lead", "name"] ["row"] (q17 q286):=fsc
theorem q536:FnScope ["lead", "name", "many"] ["lead", "name", "many"] (q17 q348):=fsc
theorem q476:FnScope ["kinds", "words"] ["kinds", "words"] (q17 q171):=fsc
theorem q537:FnScope ["kind", "word"] ["kind", "word"] (q17 q349):=fsc
theorem q538:FnScope ["_law_script", "_law_k", "_law_cell"] ["_law_script", "_law_k"] (q17 q350):=fsc
theorem q396:FnScope (pn16.append ["_law_number_here"]) pn16 (q17 q224):=fsc
theorem q477:FnScope ["_law_pen_here", "_law_size", "_law_found", "_law_wide"] ["_law_pen_here", "_law_size"] (q17 q287):=fsc
theorem q323:FnScope (pn16.append ["_law_levels", "_law_way", "_law_low"]) pn16 (q17 q183):=fsc
theorem q539:FnScope (pn3.append ["_law_low", "_law_levels", "_law_size", "_law_way", "_law_few", "_law_row_here", "_law_k", "_law_spot"]) pn3 (q17 q212):=fsc
theorem q478:FnScope (pn7.append ["_law_some_here", "_law_k", "_law_make", "_law_size", "_law_start", "_law_end"]) pn7 (q17 q172):=fsc
theorem q324:FnScope ["_law_rows", "_law_some_here", "_law_found", "_law_j", "_law_make", "_law_start", "_law_end"] ["_law_rows", "_law_some_here"] (q17 q116):=fsc
theorem q479:FnScope ["_law_some_here"] ["_law_some_here"] (q17 q117):=fsc
theorem q397:FnScope ["_law_things_here", "_law_found", "_law_worth", "_law_j", "_law_place"] ["_law_things_here"] (q17 q134):=fsc
theorem q213:FnScope ["_law_told"] ["_law_told"] (q17 q84):=fsc
theorem q480:FnScope ["_law_told", "_law_found", "_law_worth", "_law_many"] ["_law_told"] (q17 q288):=fsc
theorem q398:FnScope ["_law_row_here"] ["_law_row_here"] (q17 q96):=fsc
theorem q325:FnScope (pn1.append ["_law_way", "_law_far", "_law_top", "_law_some_here"]) pn1 (q17 q184):=fsc
theorem q399:FnScope (pn4.append ["_law_some_here", "_law_things_here", "_law_told", "_law_word_here", "_law_one", "_law_other", "_law_way", "_law_k", "_law_many", "_law_part", "_law_enough", "_law_make", "_law_start", "_law_end"]) pn4 (q17 q51):=fsc
theorem sc_law:FnScope ["_law_script", "_law_pen_here", "_law_bounds_here", "_law_desk", "_law_rows", "_law_k", "_law_asked_here", "_law_turn", "_law_words", "_law_due", "_law_found"] ["_law_script"] (q17 s_law):=fsc
theorem q668:FnScope pn14 pn14 (q17 q467):=fsc
theorem q540:FnScope pn21 pn21 (q17 q351):=fsc
theorem q745:FnScope pn17 pn17 (q17 q595):=fsc
theorem q481:FnScope ["self", "make", "start", "end", "tree"] ["self", "make", "start", "end"] (q17 q289):=fsc
theorem q669:FnScope pn17 pn17 (q17 q468):=fsc
theorem q746:FnScope ["self", "tree", "sources"] ["self", "tree", "sources"] (q17 q596):=fsc
theorem q747:FnScope pn14 pn14 (q17 q597):=fsc
theorem sc_M_say:FnScope (pn21.append ["said", "lead", "name", "values", "gathering"]) pn21 (q17 q531):=fsc
theorem q292:FnScope ["self", "spot"] ["self", "spot"] (q17 q151):=fsc
theorem q748:FnScope ["self", "name", "values"] ["self", "name", "values"] (q17 q598):=fsc
structure Bz(K:Fg)(mg:Mg)(uA uB uC uD uE uF uG uH:Addr):Prop where
 all_:mg "all" = none
 enumerate_:mg "enumerate" = none
 int_:mg "int" = none
 isinstance_:mg "isinstance" = none
 len_:mg "len" = none
 list_:mg "list" = none
 max_:mg "max" = none
 min_:mg "min" = none
 range_:mg "range" = none
 sorted_:mg "sorted" = none
 str_:mg "str" = none
 sum_:mg "sum" = none
 tuple_:mg "tuple" = none
 zip_:mg "zip" = none
 m_LeastError:mg "LeastError" = some (.ref uA)
 m_Beyond:mg "Beyond" = some (.ref uB)
 m_NoSuch:mg "NoSuch" = some (.ref uC)
 m_TooMany:mg "TooMany" = some (.ref uD)
 m_NoText:mg "NoText" = some (.ref uE)
 m_NoRow:mg "NoRow" = some (.ref uF)
 m_Makes:mg "Makes" = some (.ref uG)
 m_Desk:mg "Desk" = some (.ref uH)
 nB:q149 K uG "bounds"
 nK:q149 K uG "kept"
 dB:q149 K uH "bounds"
 dM:q149 K uH "makes"
 fig:∃ x t,mg "FIGURES" = some (.str x t)/\x = "0123456789"
 frm:∃ a,mg "FORMS" = some (.ref a)/\frmB K a=true
 o_Desk:Cls K uH
 o_Makes:Cls K uG
 d_I_Makes:IDef K uG "Makes.__init__" q467 pn14
 d_M_of_row:MDef K uG "of_row" "Makes.of_row" q351 pn21
 d_M_tree:MDef K uG "tree" "Makes.tree" q595 pn17
 d_M_stretch:MDef K uG "stretch" "Makes.stretch" q289 ["self", "make", "start", "end"]
 d_M_found:MDef K uG "found" "Makes.found" q468 pn17
 d_M_keep:MDef K uG "keep" "Makes.keep" q596 ["self", "tree", "sources"]
 d_I_Desk:IDef K uH "Desk.__init__" q597 pn14
 d_M_say:MDef K uH "say" "Desk.say" q531 pn21
 d_M_stretch_at:MDef K uH "stretch_at" "Desk.stretch_at" q151 ["self", "spot"]
 d_M_made:MDef K uH "made" "Desk.made" q598 ["self", "name", "values"]
 d_many_worths:Def K mg "many_worths" q177 ["levels"]
 d_top_of:Def K mg "top_of" q591 ["bounds"]
 d_where:Def K mg "where" q736 pn10
 d_span_of:Def K mg "span_of" q459 ["bounds", "way"]
 d_way_of:Def K mg "way_of" q592 pn10
 d_ahead:Def K mg "ahead" q737 ["marks", "mark", "place"]
 d_place_of:Def K mg "place_of" q346 ["marks", "mark", "number"]
 d_crossed:Def K mg "crossed" q460 ["marks", "start", "end"]
 d_tree_of:Def K mg "tree_of" q461 ["bounds", "row"]
 d_grown:Def K mg "grown" q278 ["least", "many", "row"]
 d_half_of:Def K mg "half_of" q462 ["tree", "mark"]
 d_size_of:Def K mg "size_of" q463 ["tree"]
 d_many_in:Def K mg "many_in" q279 ["gathering"]
 d_filled:Def K mg "filled" q393 ["gathering"]
 d_led:Def K mg "led" s_led pn11
 d_led_stretch:Def K mg "led_stretch" q178 pn15
 d_lifted:Def K mg "lifted" q593 ["tree", "way", "place"]
 d_nth_least:Def K mg "nth_least" q280 pn2
 d_way_of_nth:Def K mg "way_of_nth" q222 ["levels", "gathering", "k"]
 d_nth_alike:Def K mg "nth_alike" q281 ["gathering", "way", "number"]
 d_many_lesser:Def K mg "many_lesser" q179 pn11
 d_below:Def K mg "below" q738 pn0
 d_between:Def K mg "between" q464 pn13
 d_worths_in:Def K mg "worths_in" q282 pn6
 d_most:Def K mg "most" s_most pn6
 d_often:Def K mg "often" q739 ["bounds", "gathering", "part"]
 d_counted_above:Def K mg "counted_above" q132 pn8
 d_next_up:Def K mg "next_up" q465 pn0
 d_next_down:Def K mg "next_down" q283 pn0
 d_counted_nth:Def K mg "counted_nth" q180 pn2
 d_show_number:Def K mg "show_number" q181 ["number"]
 d_show_row:Def K mg "show_row" q210 ["row"]
 d_read_number:Def K mg "read_number" q182 ["text"]
 d_are_figures:Def K mg "are_figures" q115 ["text"]
 d_answer:Def K mg "answer" q594 pn5
 d_plain_answer:Def K mg "plain_answer" q150 pn9
 d_show_counted:Def K mg "show_counted" q101 ["counted"]
 d_show_list:Def K mg "show_list" q170 ["told"]
 d_falls:Def K mg "falls" q530 ["stretch"]
 d_falls_by_ways:Def K mg "falls_by_ways" q133 ["stretch"]
 d_falls_from:Def K mg "falls_from" q223 pn15
 d_number_of:Def K mg "number_of" q284 pn12
 d_count_of:Def K mg "count_of" q347 pn12
 d_part_of:Def K mg "part_of" q466 pn12
 d_spot_of:Def K mg "spot_of" q285 pn12
 d_spots_of:Def K mg "spots_of" q211 pn12
 d_read_said:Def K mg "read_said" q286 ["row"]
 d_kinds_of:Def K mg "kinds_of" q348 ["lead", "name", "many"]
 d_values_of:Def K mg "values_of" q171 ["kinds", "words"]
 d_value_of:Def K mg "value_of" q349 ["kind", "word"]
 d__law_pen:Def K mg "_law_pen" q350 ["_law_script", "_law_k"]
 d__law_mixed:Def K mg "_law_mixed" q224 pn16
 d__law_take:Def K mg "_law_take" q287 ["_law_pen_here", "_law_size"]
 d__law_bounds:Def K mg "_law_bounds" q183 pn16
 d__law_row:Def K mg "_law_row" q212 pn3
 d__law_some:Def K mg "_law_some" q172 pn7
 d__law_things:Def K mg "_law_things" q116 ["_law_rows", "_law_some_here"]
 d__law_word:Def K mg "_law_word" q117 ["_law_some_here"]
 d__law_manys:Def K mg "_law_manys" q134 ["_law_things_here"]
 d__law_of_worths:Def K mg "_law_of_worths" q84 ["_law_told"]
 d__law_best:Def K mg "_law_best" q288 ["_law_told"]
 d__law_falls:Def K mg "_law_falls" q96 ["_law_row_here"]
 d__law_number:Def K mg "_law_number" q184 pn1
 d__law_asked:Def K mg "_law_asked" q51 pn4
variable{uA uB uC uD uE uF uG uH:Addr}
def Wths(low:Int)(L:Nat)(ns:List Int):Prop:=∀ x∈ns,low<=x/\x<low+2^L
theorem Wths.snoc{low:Int}{L:Nat}{y:Int}(h:Wths low L ns)(h0:low<=y)(h1:y<low+2^L):Wths low L (ns++[y]):=fun x hx=>by
 rcases List.mem_append.mp hx with h' | h'
 ·exact h x h'
 ·cases List.mem_singleton.mp h'
  exact⟨h0,h1⟩
inductive q152(u0:Fg)(vs:List V)(H:Hp)(Q:VK)(E:XK):Prop
 |mk(L:Nat)(_:vs=[.int (L:Int)])(_:L<=40)(_:Q (.int (2^L)) H)
inductive q482(K:Fg)(vs:List V)(H:Hp)(Q:VK)(E:XK):Prop
 |mk(b:Addr)(low:Int)(L:Nat)(_:vs=[.ref b])(_:SqT K H b [.int low,.int (L:Int)])(_:L<=40)(_:Q (.int (low+2^L-1)) H)
variable {P:Program} {w:World} {K:Fg} {mg:Mg} {base:Heap}
abbrev Bz.C(_:Bz K mg uA uB uC uD uE uF uG uH)(P:Program)(w:World)(base:Heap):=Cal P w K mg base
variable (z:Bz K mg uA uB uC uD uE uF uG uH)
theorem q55:z.C P w base 1 "many_worths" ["levels"] (q152 K):=by
 have sc:=q316
 refine z.d_many_worths.cal fun f fd F=>F.k sc fun _ _ _ s H _ Q _ hr h=>?_
 obtain⟨L,rfl,hL,q⟩:=h
 refine⟨_,(q11 (pst 1 sc.nd q14)
 (q11 (q69 PassesOwn.never rfl (q47 rfl z.range_ (q10 (pv 0) q12)) (pgn 2 sc.nd)
 (q15 (pst 1 sc.nd (pe_op q128 (pv 1) q14))))
 (q15 (q18 (pv 1))))),?_⟩
 refine⟨_,rfl,(L:Int),rfl,(W118 hL),(W155 hL),q70 (n:=L) (fun i σ H2=>∃ v:Option V,σ=[some (.int (L:Int)),some (.int (2^i)),v]/\H2=H) ⟨none,rfl,rfl⟩ ?_ ?_⟩
 ·rintro i σ H2 hi ⟨v,rfl,rfl⟩
  exists _,rfl,_,_,rfl,rfl,.inr ⟨{},{}⟩
  exact⟨_,by rw[Int.pow_succ];rfl,rfl⟩
 ·rintro σ H2 ⟨v,rfl,rfl⟩
  exact⟨_,rfl,q⟩
theorem q749:z.C P w base 2 "top_of" ["bounds"] (q482 K):=by
 have sc:=q740
 refine z.d_top_of.cal fun f fd F=>F.k sc fun _ _ _ s H _ Q _ hr h=>?_
 obtain⟨b,low,L,rfl,hb,hL,q⟩:=h
 exists _,(q15 (q18 (pe_op q76 (pe_op q48 (pix q30 (pv 0) q14) (pe_fn (q55 z) hr.m () (q10 (pix q30 (pv 0) q14) q12))) q14)))
 exact⟨_,rfl,b,_,_,_,rfl,rfl,hb,rfl,_,rfl,b,_,_,_,rfl,rfl,hb,rfl,L,rfl,hL,_,_,rfl,rfl,_,_,rfl,rfl,q⟩
noncomputable def q293(low:Int)(L:Nat)(n:Int):Str:=if n<low then "below" else if low+2^L-1<n then "above" else "within"
theorem q750{low n:Int}{L:Nat}(h:low<=n/\n<low+2^L):q293 low L n = "within" := by
 unfold q293
 rw[ZJ ∅,ZJ ∅]
inductive q599(K:Fg)(vs:List V)(H:Hp)(Q:VK)(E:XK):Prop
 |mk(b:Addr)(low n:Int)(L:Nat)(_:vs=[.ref b,.int n])(_:SqT K H b [.int low,.int (L:Int)])(_:L<=40)(_:Q (.str (q293 low L n)) H)
theorem q400:z.C P w base 3 "where" pn10 (q599 K):=by
 have sc:=sc_where
 refine z.d_where.cal fun f fd F=>F.k sc fun _ _ _ s H _ Q _ hr h=>?_
 obtain⟨b,low,n,L,rfl,hb,hL,q⟩:=h
 refine⟨_,(q11 (ps_if (q19 op_lt (pv 1) (pix q30 (pv 0) q14) (q21 _))
 (q15 (q18 q23))
 q20)
 (q11 (ps_if (q19 op_gt (pv 1) (pe_fn (q749 z) hr.m () (q10 (pv 0) q12)) (q21 _))
 (q15 (q18 q23))
 q20)
 (q15 (q18 q23)))),?_⟩
 unfold q293 at q
 exists _,rfl,_,rfl,b,_,_,_,rfl,rfl,hb,rfl,_,_,rfl,rfl,_,rfl
 refine ite2 (fun c=>?_) (fun c=>?_)
 ·rw[ZL (ZI c)]at q
  exact q
 ·rw[ZJ (fun z=>c (ZG z))]at q
  exists _,rfl,_,rfl,b,low,L,rfl,hb,hL,_,_,rfl,rfl,_,rfl
  refine ite2 (fun c=>?_) (fun c=>?_)
  ·rw[ZL (ZI c)]at q
   exact q
  ·rw[ZJ (fun z=>c (ZG z))]at q
   exact q
noncomputable def wayW:Nat->Int->List Int
 | 0,_=>[]
 | e+1,o=>if o<2^e then 0::wayW e o else 1::wayW e (o-2^e)
theorem q294{e:Nat}{o:Int}(h:o<2^e):wayW (e+1) o=0::wayW e o:=by
 show(if o<2^e then _ else _)=_
 rw[ZL h]
theorem q295{e:Nat}{o:Int}(h:¬ o<2^e):wayW (e+1) o=1::wayW e (o-2^e):=by
 show(if o<2^e then _ else _)=_
 rw[ZJ h]
theorem pow2(e:Nat):(2:Int)^(e+1)=2^e+2^e:=by rw[Int.pow_succ];lia
theorem q401:∀(e:Nat)(o:Int),(wayW e o).length=e
 | 0,_=>rfl
 | e+1,o=>by
  by_cases h:o<2^e
  ·rw[q294 h,WB,q401 e]
  ·rw[q295 h,WB,q401 e]
theorem q402:∀(e:Nat)(o:Int),∀ m∈wayW e o,m=0\/m=1
 | 0,_,m,hm=>by cases hm
 | e+1,o,m,hm=>by
  by_cases h:o<2^e
  ·rw[q294 h]at hm
   rcases List.mem_cons.mp hm with z | z
   ·exact .inl z
   ·exact q402 e _ m z
  ·rw[q295 h]at hm
   rcases List.mem_cons.mp hm with z | z
   ·exact .inr z
   ·exact q402 e _ m z
theorem q403(e:Nat):(2:Int)^(e+1)/2=2^e:=by rw[Int.pow_succ];exact Int.mul_ediv_cancel _ {}
theorem where_in{low n:Int}{L:Nat}:q293 low L n = "within" ↔ (low<=n/\n<=low+2^L-1):=by
 unfold q293
 by_cases h:n<low
 ·rw[ZL h]
  exact⟨fun z=>absurd z {},fun z=>(W198 z h).elim⟩
 ·rw[ZJ h]
  by_cases h2:low+2^L-1<n
  ·rw[ZL h2]
   exact⟨fun z=>absurd z {},fun z=>(W180 h2 z).elim⟩
  ·rw[ZJ h2]
   exact⟨fun _=>∅,fun _=>rfl⟩
noncomputable def grow(low:Int):Nat->List Int->Tr
 | 0,ns=>if ns=[]then .non else .many ns.length
 | e+1,ns=>if ns=[]then .non else .part (ns.map fun n=>if n<low+2^e then 0 else 1) (grow low e (ns.filter fun n=>decide (n<low+2^e))) (grow (low+2^e) e (ns.filter fun n=>decide (low+2^e<=n)))
theorem q72(low:Int)(e:Nat):grow low e [] = .non:=by cases e <;> rfl
theorem q185{low:Int}{ns:List Int}(h:ns≠[]):grow low 0 ns = .many ns.length:=by unfold grow;rw[ZJ h]
theorem q296{low:Int}{e:Nat}{ns:List Int}(h:ns≠[]):grow low (e+1) ns = .part (ns.map fun n=>if n<low+2^e then 0 else 1) (grow low e (ns.filter fun n=>decide (n<low+2^e))) (grow (low+2^e) e (ns.filter fun n=>decide (low+2^e<=n))):=by
 rw[grow,ZJ h]
def Tr.fit(b:Nat):Tr->Prop
 | .non=>True
 | .many _=>True
 | .part ms l r=>ms.length<=b/\Tr.fit b l/\Tr.fit b r
abbrev kb_grown:Nat:=0
abbrev q600:Nat:=40
inductive q297(K:Fg)(e:Nat)(vs:List V)(H:Hp)(Q:VK)(E:XK):Prop
 |mk(least:Int)(a:Addr)(ns:List Int)(_:vs=[.int least,.int (2^e),.ref a])(_:SqL K H a (ns.map V.int))(_:ns.length<=1000)(_:∀(H':Hp)(v:V),Same H H'->q50 H' v (grow least e ns)->Q v H')
def sp_grown(K:Fg):Sp:=fun vs H Q E=>∃ e,e<=q600/\q297 K e vs H Q E
theorem ok_grown:z.C P w base 41 "grown" ["least", "many", "row"] (sp_grown K):=by
 have sc:=sc_grown
 refine z.d_grown.recur (k:=kb_grown) (sp:=q297 K) q600 fun e hen c_grown f fd F=>F.k sc fun _ _ _ s H _ Q _ hr h=>?_
 obtain⟨least,a,ns,rfl,ha,hl,q⟩:=h
 refine⟨_,(q11 (ps_if (q19 op_eq (pln z.len_ (q10 (pv 2) q12)) q14 (q21 _))
 (q15 (q18 q120))
 q20)
 (q11 (ps_if (q19 op_eq (pv 1) q14 (q21 _))
 (q15 (q18 (q34 (q10 q23 (q10 (pln z.len_ (q10 (pv 2) q12)) q12)))))
 q20)
 (q11 (pst 3 sc.nd (pe_op q112 (pv 1) q14))
 (q11 (pst 4 sc.nd (pe_op q48 (pv 0) (pv 3)))
 (q11 (pst 5 sc.nd (q29 q167 () z.tuple_ q247 (q10 (q63 (cl:=[("middle", s.heap.objs.size+1+0)]) (cn:=["middle"]) (N:=["middle"]) (fr:=[4]) (sc0:=q17 q278) rfl (q35 (pv 2)) (fun C s₂ H₂ fp=>(q142 (q19 op_lt (pv 0) (pv 1) (q21 _)) q14 q14)) (by ac_rfl) ⟨by ac_rfl,trivial⟩ rfl rfl rfl cok rfl) q12)))
 (q11 (pst 6 sc.nd (pe_fn c_grown (hr.mono (ZF _)) () (q10 (pv 0) (q10 (pv 3) (q10 (q83 (cl:=[("middle", s.heap.objs.size+1+0)]) (cn:=["middle"]) (N:=["middle"]) (fr:=[4]) (sc0:=q17 q278) rfl (q35 (pv 2)) (fun C s₂ H₂ fp=>(pv 0)) (fun C s₂ H₂ fp=>(q19 op_lt (pv 0) (pv 1) (q21 _))) (by ac_rfl) ⟨by ac_rfl,trivial⟩ rfl rfl rfl cok rfl) q12)))))
 (q11 (pst 7 sc.nd (pe_fn c_grown (hr.mono (ZF _)) () (q10 (pv 4) (q10 (pv 3) (q10 (q83 (cl:=[("middle", s.heap.objs.size+1+0)]) (cn:=["middle"]) (N:=["middle"]) (fr:=[4]) (sc0:=q17 q278) rfl (q35 (pv 2)) (fun C s₂ H₂ fp=>(pv 0)) (fun C s₂ H₂ fp=>(q19 op_ge (pv 0) (pv 1) (q21 _))) (by ac_rfl) ⟨by ac_rfl,trivial⟩ rfl rfl rfl cok rfl) q12)))))
 (q15 (q18 (q34 (q10 q23 (q10 (pv 5) (q10 (pv 6) (q10 (pv 7) q12)))))))))))))),?_⟩
 have hz:ns.length<=sizeLine:=sz hl
 exists _,rfl,a,_,rfl,.inl ha,rfl,_,rfl
 refine ite2 (fun c=>?_) (fun c=>?_)
 ·have c':(((ns.map V.int).length:Nat):Int)=0:=V.int.inj (ZI c)
  rw[ZK]at c'
  have e0:ns=[]:=eq_nil_of_length_eq_zero (W166 c')
  subst e0
  exact q H .non (Same.refl H) (by rw[q72];rfl)
 ·have hne:ns≠[]:=fun z=>c (by rw[z];exact ZG rfl)
  exists _,rfl,rfl,_,rfl
  refine ite2 (fun c2=>?_) (fun c2=>?_)
  ·have e0:e=0:=p2one (V.int.inj (ZI c2))
   subst e0
   refine⟨_,rfl,a,_,rfl,.inl ha,szb rfl,fun p hp=>q _ _ (q16 hp _) ?_⟩
   rw[q185 hne]
   exists p,rfl
   rw[q13,ZK]
  ·cases e with
   | zero=>exact absurd (ZG rfl) c2
   | succ e=>
    exists _,rfl,_,_,rfl,rfl,⟨{},{}⟩
    dsimp only
    rw[p2half]
    exists _,rfl,_,rfl,_,_,rfl,rfl
    refine⟨_,rfl,a,rfl,⟨_,ha⟩,fun D hD=>?_⟩
    refine q716 (g:=fun n=>.int (if n<least+2^e then 0 else 1)) ha hD hz (fun n _ H1 Q1 _ q1=>?_) ?_
    ·exists _,rfl,_,rfl,_,_,rfl,rfl,_,rfl
     refine ite2 (fun c3=>?_) (fun c3=>?_)
     ·rw[ZL (ZI c3)]at q1
      exact q1
     ·rw[ZJ (fun z=>c3 (ZG z))]at q1
      exact q1
    have s1:=q16 hD (.lst (ns.map fun n=>V.int (if n<least+2^e then 0 else 1)))
    refine⟨D,_,rfl,SqL.of q13,fun m H2 s2 hm=>?_⟩
    have s02:Same H H2:=s1.trans s2
    have hm':TupF H2 m ((ns.map fun n=>if n<least+2^e then(0:Int)else 1).map V.int):=by rw[map_map];exact hm
    refine⟨_,rfl,_,rfl,_,rfl,a,rfl,⟨_,s02.seq ha⟩,fun D2 hD2=>?_⟩
    refine q271 (p:=fun n=>decide (n<least+2^e)) (g:=V.int) (s02.seq ha) hD2 hz (fun n _ H1 Q1 _ q1=>⟨_,rfl,_,rfl,_,_,rfl,rfl,_,rfl,q1⟩) (fun n _ _ H1 Q1 _ q1=>⟨_,rfl,q1⟩) ?_
    refine⟨least,D2,_,rfl,SqL.of q13,ZT (length_filter_le _ _) hl,fun H3 lo s3 hlo=>?_⟩
    have s03:Same H H3:=s02.trans ((q16 hD2 _).trans s3)
    refine⟨_,rfl,_,rfl,_,rfl,a,rfl,⟨_,s03.seq ha⟩,fun D3 hD3=>?_⟩
    refine q271 (p:=fun n=>decide (least+2^e<=n)) (g:=V.int) (s03.seq ha) hD3 hz (fun n _ H1 Q1 _ q1=>⟨_,rfl,_,rfl,_,_,rfl,rfl,_,rfl,q1⟩) (fun n _ _ H1 Q1 _ q1=>⟨_,rfl,q1⟩) ?_
    refine⟨least+2^e,D3,_,rfl,SqL.of q13,ZT (length_filter_le _ _) hl,fun H4 hi s4 hhi=>?_⟩
    have s34:Same H3 H4:=(q16 hD3 _).trans s4
    refine⟨_,rfl,_,rfl,_,rfl,szb rfl,fun p hp=>q _ _ (s03.trans (s34.trans (q16 hp _))) ?_⟩
    rw[q296 hne]
    have sp:=q16 hp (.tup [.str "part", .ref m,lo,hi])
    have s24:Same H2 H4:=(q16 hD2 _).trans (s3.trans s34)
    exact⟨p,m,lo,hi,rfl,q13,(hm'.same s24).same sp,(hlo.same s34).same sp,hhi.same sp⟩
inductive q352(K:Fg)(vs:List V)(H:Hp)(Q:VK)(E:XK):Prop
 |mk(b a:Addr)(low:Int)(L:Nat)(ns:List Int)(_:vs=[.ref b,.ref a])(_:SqT K H b [.int low,.int (L:Int)])(_:L<=40)(_:SqL K H a (ns.map V.int))(_:ns.length<=1000)(_:Wths low L ns)(_:∀(H':Hp)(v:V),Same H H'->q50 H' v (grow low L ns)->Q v H')
theorem q670:z.C P w base 42 "tree_of" ["bounds", "row"] (q352 K):=by
 have sc:=q660
 refine z.d_tree_of.cal fun f fd F=>F.k sc fun _ _ _ s H _ Q _ hr h=>?_
 obtain⟨b,a,low,L,ns,rfl,hb,hL,ha,hl,hw,q⟩:=h
 refine⟨_,(q11 (q69 PassesOwn.never rfl (q35 (pv 1)) (pgn 2 sc.nd)
 (q15 (ps_if (q19 op_ne (pe_fn (q400 z) hr.m () (q10 (pv 0) (q10 (pv 2) q12))) q23 (q21 _))
 (q15 q31)
 q20)))
 (q15 (q18 (pe_fn (ok_grown z) hr.m () (q10 (pix q30 (pv 0) q14) (q10 (pe_fn (q55 z) hr.m () (q10 (pix q30 (pv 0) q14) q12)) (q10 (pv 1) q12))))))),?_⟩
 refine⟨_,rfl,a,rfl,⟨_,ha⟩,q174 (K:=K) (a:=a) (xs:=ns.map V.int) (fun i σ H2=>∃ v:Option V,σ=[some (.ref b),some (.ref a),v]/\H2=H) ⟨none,rfl,rfl⟩ (fun i σ H2 _ ⟨_,_,e⟩=>by rw[e];exact ha) ?_ ?_⟩
 ·rintro i x σ H2 hi ⟨v,rfl,rfl⟩
  obtain⟨n,hn,rfl⟩:=List.mem_map.mp (ZV hi)
  refine⟨_,rfl,_,rfl,b,low,n,L,rfl,hb,hL,rfl,_,rfl,iteNS (by rw[q750 (hw n hn)]) ?_⟩
  exact⟨_,rfl,rfl⟩
 ·rintro σ H2 ⟨v,rfl,rfl⟩
  exists _,rfl,b,_,_,_,rfl,rfl,hb,rfl,_,rfl,b,_,_,_,rfl,rfl,hb,rfl,L,rfl,hL
  exact⟨_,rfl,L,hL,low,a,ns,rfl,ha,hl,q⟩
noncomputable def q46:Tr->Int
 | .non=>0
 | .many n=>n
 | .part ms _ _=>ms.length
noncomputable def q52:Tr->Int->Tr
 | .part _ l r,mk=>if mk=0 then l else r
 | _,_=>.non
theorem q135(low:Int)(e:Nat)(ns:List Int):q46 (grow low e ns)=ns.length:=by
 by_cases h:ns=[]
 ·rw[h,q72];rfl
 ·cases e with
  | zero=>rw[q185 h];rfl
  | succ e=>
   rw[q296 h]
   show((List.map _ ns).length:Int)=_
   rw[ZK]
inductive q353(u0:Fg)(vs:List V)(H:Hp)(Q:VK)(E:XK):Prop
 |mk(v:V)(t:Tr)(_:vs=[v])(_:q50 H v t)(_:Q (.int (q46 t)) H)
theorem q354:z.C P w base 1 "size_of" ["tree"] (q353 K):=by
 have sc:=q662
 refine z.d_size_of.cal fun f fd F=>F.k sc fun _ _ _ s H _ Q _ hr h=>?_
 obtain⟨v,t,rfl,ht,q⟩:=h
 refine⟨_,(q11 (ps_if (q19 q433 (pv 0) q120 (q21 _))
 (q15 (q18 q14))
 q20)
 (q11 (ps_if (q19 op_eq (pix q30 (pv 0) q14) q23 (q21 _))
 (q15 (q18 (pix q30 (pv 0) q14)))
 q20)
 (q15 (q18 (pln z.len_ (q10 (pix q30 (pv 0) q14) q12)))))),?_⟩
 exists _,rfl,rfl,_,rfl
 cases t with
 | non=>
  cases ht
  exact ite2 (fun c=>q) (fun c=>absurd (ZG rfl) c)
 | many n=>
  obtain⟨a,rfl,ha⟩:=ht
  refine ite2 (fun c=>absurd (ZI c) (by intro z;cases z)) (fun c=>?_)
  exists _,rfl,a,_,_,_,rfl,rfl,SqT.of ha,rfl,rfl,_,rfl
  refine ite2 (fun c=>?_) (fun c=>absurd (ZG rfl) c)
  exact⟨_,rfl,a,_,_,_,rfl,rfl,SqT.of ha,rfl,q⟩
 | part ms l r=>
  obtain⟨a,m,x,y,rfl,ha,hm,hl,hr'⟩:=ht
  refine ite2 (fun c=>absurd (ZI c) (by intro z;cases z)) (fun c=>?_)
  exists _,rfl,a,_,_,_,rfl,rfl,SqT.of ha,rfl,rfl,_,rfl
  refine ite2 (fun c=>absurd (ZI c) {}) (fun c=>?_)
  exists _,rfl,a,_,_,_,rfl,rfl,SqT.of ha,rfl,m,_,rfl,.inr hm.sq
  rw[ZK]
  exact q
inductive q355(u0:Fg)(vs:List V)(H:Hp)(Q:VK)(E:XK):Prop
 |mk(v:V)(t:Tr)(mk:Int)(_:vs=[v,.int mk])(_:q50 H v t)(_:(mk=0\/mk=1))(_:∀ u,q50 H u (q52 t mk)->Q u H)
theorem q356:z.C P w base 1 "half_of" ["tree", "mark"] (q355 K):=by
 have sc:=q661
 refine z.d_half_of.cal fun f fd F=>F.k sc fun _ _ _ s H _ Q _ hr h=>?_
 obtain⟨v,t,mk,rfl,ht,hmk,q⟩:=h
 refine⟨_,(q11 (ps_if (PW.pt (pw_or (q19 q433 (pv 0) q120 (q21 _)) (q127 (q19 op_eq (pix q30 (pv 0) q14) q23 (q21 _)))))
 (q15 (q18 q120))
 q20)
 (q15 (q18 (pix q30 (pv 0) (pe_op q48 q14 (pv 1)))))),?_⟩
 exists _,rfl,rfl,_,rfl
 cases t with
 | non=>
  cases ht
  exact ite2 (fun c=>q .non rfl) (fun c=>absurd (ZG rfl) c)
 | many n=>
  obtain⟨a,rfl,ha⟩:=ht
  refine ite2 (fun c=>absurd (ZI c) (by intro z;cases z)) (fun c=>?_)
  exists _,rfl,a,_,_,_,rfl,rfl,SqT.of ha,rfl,rfl,_,rfl
  exact ite2 (fun c=>q .non rfl) (fun c=>absurd (ZG rfl) c)
 | part ms l r=>
  obtain⟨a,m,x,y,rfl,ha,hm,hl,hr'⟩:=ht
  refine ite2 (fun c=>absurd (ZI c) (by intro z;cases z)) (fun c=>?_)
  exists _,rfl,a,_,_,_,rfl,rfl,SqT.of ha,rfl,rfl,_,rfl
  refine ite2 (fun c=>absurd (ZI c) {}) (fun c=>?_)
  exists _,rfl,_,rfl,_,_,rfl,rfl
  rcases hmk with rfl | rfl
  ·exact⟨a,_,_,_,rfl,rfl,SqT.of ha,rfl,q x hl⟩
  ·exact⟨a,_,_,_,rfl,rfl,SqT.of ha,rfl,q y hr'⟩
theorem all_flat(ms:List Int):(ms.map V.int).all flatV=true:=by
 rw[all_eq_true]
 intro x hx
 obtain⟨i,_,rfl⟩:=List.mem_map.mp hx
 rfl
theorem q751(ms:List Int)(m:Int):(ms.map V.int).countP (fun y=>eqV y (.int m))=ms.count m:=by
 rw[countP_map,count_eq_countP]
 rfl
theorem cut_take(ms:List Int)(k:Nat):cutV (ms.map V.int) none (some (k:Int))=(ms.take k).map V.int:=by
 unfold cutV
 rw[HT.q801,HT.q800,drop_zero,Nat.sub_zero,map_take]
 by_cases h:k<=(ms.map V.int).length
 ·rw[YH h]
 ·rw[Nat.min_eq_right ∅,WS,WP ∅]
inductive q601(u0:Fg)(vs:List V)(H:Hp)(Q:VK)(E:XK):Prop
 |mk(t:Addr)(ms:List Int)(mk:Int)(pl:Nat)(_:vs=[.ref t,.int mk,.int (pl:Int)])(_:TupF H t (ms.map V.int))(_:∀ H',Same H H'->Q (.int ((ms.take pl).count mk:Nat)) H')
theorem q602:z.C P w base 1 "ahead" ["marks", "mark", "place"] (q601 K):=by
 have sc:=sc_ahead
 refine z.d_ahead.cal fun f fd F=>F.k sc fun _ _ _ s H _ Q _ hr h=>?_
 obtain⟨t,ms,mk,pl,rfl,ht,q⟩:=h
 exists _,(q15 (q18 (pe_bmF PySem.F.plainAttrs_tuple PySem.F.slot_tuple_count PySem.F.type_tuple_count q710 (q80 q709 (pv 0) q110 (q88 (q38 (q258 rfl) () z.max_ q707 (q10 (pv 2) (q10 q14 q12))))) (q10 (pv 1) q12))))
 have e1:(if(0:Int) > (pl:Int) then(0:Int) else(pl:Int))=(pl:Int):=ZJ W127
 refine⟨_,rfl,_,rfl,_,_,rfl,_,rfl,t,_,rfl,ht,fun p H1 s1 h1=>?_⟩
 rw[e1,cut_take]at h1
 obtain⟨o,ho,hc,hd⟩:=id h1
 exists⟨p,o,_,rfl,ho,hc,hd⟩,_,rfl,p,_,_,rfl,rfl,h1.sq,rfl,all_flat _
 rw[q751]
 exact q H1 s1
noncomputable def mkOf(mid n:Int):Int:=if n<mid then 0 else 1
theorem mk01(mid n:Int):mkOf mid n=0\/mkOf mid n=1:=by
 unfold mkOf
 split
 ·exact .inl rfl
 ·exact .inr rfl
theorem q404{mid n:Int}(h:n<mid):mkOf mid n=0:=ZL h
theorem q405{mid n:Int}(h:¬ n<mid):mkOf mid n=1:=ZJ h
def loI(mid:Int):Int->Bool:=fun n=>decide (n<mid)
noncomputable def hiI(mid:Int):Int->Bool:=fun n=>decide (mid<=n)
theorem cnt_lo{mid:Int}(l:List Int):(l.map (mkOf mid)).count 0=l.countP (loI mid):=by
 induction l with
 | nil=>rfl
 | cons n l ih=>
  rw[YA,count_cons,countP_cons,ih]
  unfold mkOf loI
  by_cases c:n<mid
  ·simp[c]
  ·simp[c]
theorem cnt_hi{mid:Int}(l:List Int):(l.map (mkOf mid)).count 1=l.countP (hiI mid):=by
 induction l with
 | nil=>rfl
 | cons n l ih=>
  rw[YA,count_cons,countP_cons,ih]
  unfold mkOf hiI
  by_cases c:n<mid
  ·have c2:¬ mid<=n:=(W61 c)
   simp[c,c2]
  ·have c2:mid<=n:=(W20 c)
   simp[c,c2]
theorem Wths.lower{low:Int}{e:Nat}{ns:List Int}(h:Wths low (e+1) ns):Wths low e (ns.filter (loI (low+2^e))):=fun x hx=>by
 obtain⟨h1,h2⟩:=List.mem_filter.mp hx
 exact⟨(h x h1).1,ZI h2⟩
theorem Wths.upper{low:Int}{e:Nat}{ns:List Int}(h:Wths low (e+1) ns):Wths (low+2^e) e (ns.filter (hiI (low+2^e))):=fun x hx=>by
 obtain⟨h1,h2⟩:=List.mem_filter.mp hx
 have:=(h x h1).2
 rw[p2succ]at this
 exact⟨ZI h2,∅⟩
theorem q90{low:Int}{e:Nat}{ns:List Int}(h:ns≠[]):grow low (e+1) ns = .part (ns.map (mkOf (low+2^e))) (grow low e (ns.filter (loI (low+2^e)))) (grow (low+2^e) e (ns.filter (hiI (low+2^e)))):=q296 h
theorem half_lo(low:Int)(e:Nat)(ns:List Int):q52 (grow low (e+1) ns) 0=grow low e (ns.filter (loI (low+2^e))):=by
 by_cases h:ns=[]
 ·rw[h,q72,filter_nil,q72];rfl
 ·rw[q90 h];rfl
theorem half_hi(low:Int)(e:Nat)(ns:List Int):q52 (grow low (e+1) ns) 1=grow (low+2^e) e (ns.filter (hiI (low+2^e))):=by
 by_cases h:ns=[]
 ·rw[h,q72,filter_nil,q72];rfl
 ·rw[q90 h];rfl
theorem q357(p:Int->Bool)(ns:List Int)(pl:Nat):ns.filter p=(ns.take pl).filter p++(ns.drop pl).filter p:=by
 rw[<- YW,YY]
theorem q186(p:Int->Bool)(ns:List Int)(pl:Nat):(ns.filter p).take ((ns.take pl).countP p)=(ns.take pl).filter p:=by
 rw[q357 p ns pl,countP_eq_length_filter]
 exact take_left
theorem q483(p:Int->Bool)(ns:List Int)(pl:Nat):(ns.filter p).drop ((ns.take pl).countP p)=(ns.drop pl).filter p:=by
 rw[q357 p ns pl,countP_eq_length_filter]
 exact drop_left
noncomputable def hlf(mid mk:Int):Int->Bool:=if mk=0 then loI mid else hiI mid
noncomputable def lowOf(low:Int)(e:Nat)(mk:Int):Int:=if mk=0 then low else low+2^e
theorem q484{low mk:Int}{e:Nat}{ns:List Int}(h:mk=0\/mk=1):q52 (grow low (e+1) ns) mk=grow (lowOf low e mk) e (ns.filter (hlf (low+2^e) mk)):=by
 rcases h with rfl | rfl
 ·exact half_lo low e ns
 ·exact half_hi low e ns
theorem q187{mid mk:Int}{ns:List Int}{pl:Nat}(h:mk=0\/mk=1):((ns.map (mkOf mid)).take pl).count mk=(ns.take pl).countP (hlf mid mk):=by
 rw[<- map_take]
 rcases h with rfl | rfl
 ·exact cnt_lo _
 ·exact cnt_hi _
theorem q188(mid x:Int):hlf mid (mkOf mid x) x=true:=by
 by_cases c:x<mid
 ·rw[q404 c];exact ZG c
 ·rw[q405 c];exact ZG (W20 c)
theorem Wths.half{low mk:Int}{e:Nat}{ns:List Int}(h:Wths low (e+1) ns)(hk:mk=0\/mk=1):Wths (lowOf low e mk) e (ns.filter (hlf (low+2^e) mk)):=by
 rcases hk with rfl | rfl
 ·exact h.lower
 ·exact h.upper
theorem q250{low num:Int}{e:Nat}(h0:low<=num)(h1:num<low+2^(e+1)):wayW (e+1) (num-low)=mkOf (low+2^e) num::wayW e (num-lowOf low e (mkOf (low+2^e) num)) /\
  lowOf low e (mkOf (low+2^e) num)<=num/\num<lowOf low e (mkOf (low+2^e) num)+2^e:=by
 have hp:=pow2 e
 by_cases c:num<low+2^e
 ·rw[q404 c,q294 (show num-low<2^e by exact W49 c)]
  exact⟨rfl,h0,c⟩
 ·rw[q405 c,q295 (show ¬ num-low<2^e by lia)]
  exists ?_,?_
  ·show 1::wayW e (num-low-2^e)=1::wayW e (num-(low+2^e))
   rw[show num-low-2^e=num-(low+2^e) by exact W46]
  ·show low+2^e<=num
   exact W68 c
  ·show num<low+2^e+2^e
   lia
theorem drop_one{ns:List Int}{pl:Nat}{x:Int}(h:ns[pl]? = some x):ns.drop pl=x::ns.drop (pl+1):=by
 obtain⟨h1,h2⟩:=List.getElem?_eq_some_iff.mp h
 rw[<- h2]
 exact YT h1
theorem filt_get{ns:List Int}{pl:Nat}{x:Int}(hx:ns[pl]? = some x)(h:p x=true):(ns.filter p)[(ns.take pl).countP p]? = some x:=by
 have e:=q483 p ns pl
 rw[drop_one hx,filter_cons,ZL h]at e
 have z:=congrArg (fun l=>l[0]?) e
 simpa [getElem?_drop] using z
theorem cut_drop(ms:List Int)(k:Nat):cutV (ms.map V.int) (some (k:Int)) none=(ms.drop k).map V.int:=by
 unfold cutV
 rw[HT.q801,HT.q800,map_drop]
 by_cases h:k<=(ms.map V.int).length
 ·rw[YH h]
  exact WP (by rw[length_drop];exact ZF _)
 ·have h':(ms.map V.int).length<=k:=∅
  rw[Nat.min_eq_right h',drop_of_length_le h',drop_of_length_le (ZF _)]
  exact take_nil
theorem cut_tail(w:Int)(ws:List Int):cutV ((w::ws).map V.int) (some 1) none=ws.map V.int:=cut_drop (w::ws) 1
inductive q485(K:Fg)(vs:List V)(H:Hp)(Q:VK)(E:XK):Prop
 |mk(b:Addr)(low num:Int)(L:Nat)(_:vs=[.ref b,.int num])(_:SqT K H b [.int low,.int (L:Int)])(_:L<=40)(_:(low<=num/\num<=low+2^L-1))(_:∀ t H',Same H H'->TupF H' t ((wayW L (num-low)).map V.int)->Q (.ref t) H')
theorem q752:z.C P w base 4 "way_of" pn10 (q485 K):=by
 have sc:=q741
 refine z.d_way_of.cal fun f fd F=>F.k sc fun _ _ _ s H _ Q _ hr h=>?_
 obtain⟨b,low,num,L,rfl,hb,hL,c',q⟩:=h
 refine⟨_,(q11 (ps_if (q19 op_ne (pe_fn (q400 z) hr.m () (q10 (pv 0) (q10 (pv 1) q12))) q23 (q21 _))
 (q15 q31)
 q20)
 (q11 (pst 2 sc.nd (pix q30 (pv 0) q14))
 (q11 (pst 3 sc.nd (pe_fn (q55 z) hr.m () (q10 (pix q30 (pv 0) q14) q12)))
 (q11 (pst 4 sc.nd (q40 q12))
 (q11 (q69 PassesOwn.never rfl (q47 rfl z.range_ (q10 (pix q30 (pv 0) q14) q12)) (pgn 5 sc.nd)
 (q11 (pst 3 sc.nd (pe_op q112 (pv 3) q14))
 (q15 (ps_if (q19 op_lt (pv 1) (pe_op q48 (pv 2) (pv 3)) (q21 _))
 (q15 (q97 (pe_bm YF YM YN q71 (pv 4) (q10 q14 q12))))
 (q11 (q97 (pe_bm YF YM YN q71 (pv 4) (q10 q14 q12)))
 (q15 (pst 2 sc.nd (pe_op q48 (pv 2) (pv 3)))))))))
 (q15 (q18 (q29 q167 () z.tuple_ q247 (q10 (pv 4) q12))))))))),?_⟩
 exists _,rfl,_,rfl,b,low,num,L,rfl,hb,hL,rfl,_,rfl
 refine ite2 (fun c=>?_) (fun c=>?_)
 ·rw[where_in.mpr c',ZG rfl]at c
  cases c
 ·skip
  refine⟨_,rfl,b,_,_,_,rfl,rfl,hb,rfl,_,rfl,b,_,_,_,rfl,rfl,hb,rfl,L,rfl,hL,szb rfl,fun wy hwy=>?_⟩
  have hb2:∀ o,SqT K (upd H wy o) b [.int low,.int (L:Int)]:=fun o=>(q16 hwy o).seqT hb
  refine⟨_,rfl,b,_,_,_,rfl,rfl,hb2 _,rfl,(L:Int),rfl,(W118 hL),(W155 hL),q70 (n:=L) (fun i σ H2=>∃(le:Int)(ws:List Int)(v:Option V),σ=[some (.ref b),some (.int num),some (.int le),some (.int (2^(L-i))),some (.ref wy),v] /\
   H2=upd H wy (.lst (ws.map V.int))/\ws.length=i/\0<=num-le/\num-le<2^(L-i)/\wayW L (num-low)=ws++wayW (L-i) (num-le)) ⟨low,[],none,rfl,rfl,rfl,∅,by show num-low<2^L;lia,rfl⟩ ?_ ?_⟩
  ·rintro i σ H2 hi ⟨le,ws,v,rfl,rfl,hl,h0,h1,hw⟩
   obtain⟨e,he⟩:∃ e,L-i=e+1:=⟨L-i-1,(W6 hl hi)⟩
   have he2:L-(i+1)=e:=(W26 hl hi he)
   have p:=pow2 e
   have ph:=q403 e
   rw[he]at h1 hw ⊢
   exists _,rfl,_,_,rfl,rfl,⟨{},{}⟩
   exists _,rfl,_,rfl,_,rfl,_,_,rfl,rfl,_,_,rfl,rfl,_,rfl
   rw[ph,he2]
   refine ite2 (fun c=>?_) (fun c=>?_)
   ·have c2:num<le+2^e:=ZI c
    rw[q294 (show num-le<2^e by lia)]at hw
    exists _,rfl,.inl ⟨rfl,_,SqL.of q13⟩,wy,_,_,rfl,rfl,q13,?_
    ·rw[ZK];exact Nat.lt_of_le_of_lt (show ws.length<=1000 by exact W173 hl hi hL) (q64 (ZF _))
    ·exact⟨le,ws++[0],some (.int (0+(i:Int))),rfl,by rw[q109,WF] <;> rfl,by rw[ZM,hl] <;> rfl,h0,∅,by rw[hw,YS] <;> rfl⟩
   ·have c2:¬ num<le+2^e:=fun z=>c (ZG z)
    rw[q295 (show ¬ num-le<2^e by lia)]at hw
    exists _,rfl,.inl ⟨rfl,_,SqL.of q13⟩,wy,_,_,rfl,rfl,q13,?_
    ·rw[ZK];exact Nat.lt_of_le_of_lt (show ws.length<=1000 by lia) (q64 (ZF _))
    ·exists _,rfl,_,rfl,_,_,rfl,rfl,le+2^e,ws++[1],some (.int (0+(i:Int))),rfl,by rw[q109,WF] <;> rfl,by rw[ZM,hl] <;> rfl,∅,∅
     have e2:num-(le+2^e)=num-le-2^e:=∅
     rw[hw,e2,YS]
     rfl
  ·rintro σ H2 ⟨le,ws,v,rfl,rfl,hl,h0,h1,hw⟩
   rw[Nat.sub_self]at hw
   have hw2:wayW L (num-low)=ws:=by rw[hw];exact append_nil ws
   refine⟨_,rfl,wy,_,rfl,SqL.of q13,fun t H' s' ht=>?_⟩
   exact q t _ ((q16 hwy _).trans s') (by rw[hw2];exact ht)
noncomputable def segI(ns:List Int)(st en:Nat):List Int:=(ns.take en).drop st
theorem q541{ns:List Int}{st en:Nat}(h:en<=ns.length):(segI ns st en).length=en-st:=by
 unfold segI
 rw[length_drop,WL]
 exact W3 h
theorem seg_map(f:Int->Int)(ns:List Int)(st en:Nat):(segI ns st en).map f=((ns.map f).take en).drop st:=by
 unfold segI
 rw[map_drop,map_take]
theorem q542{ns:List Int}{st en:Nat}(h:st<=en):(ns.take en).take st=ns.take st:=by
 rw[take_take,YH h]
theorem q671(p:Int->Bool){ns:List Int}{st en:Nat}(h:st<=en):(segI ns st en).filter p=segI (ns.filter p) ((ns.take st).countP p) ((ns.take en).countP p):=by
 have e:=q483 p (ns.take en) st
 rw[q542 h]at e
 unfold segI
 rw[q186,e]
theorem cut_seg(ms:List Int)(st en:Nat)(h:st<=en)(h2:en<=ms.length):cutV (ms.map V.int) (some (st:Int)) (some (en:Int))=((ms.take en).drop st).map V.int:=by
 unfold cutV
 rw[HT.q801,HT.q801,ZK,YH h2,YH (ZT h h2),map_drop,map_take,drop_take]
theorem Same.own(k:Same H H')(hr:H r=none):Same H (upd H' r o):=fun c u z=>by
 rw[q28 (q24 z hr)]
 exact k c u z
def Scr(K:Fg)(H:Hp)(a:Addr)(xs:List V):Prop:=
 (∃ o,H a=some (.frz o (.lst xs))) \/
  ∃(o:Obj)(its:Array Value)(n:Nat),K.lookup a=some o/\o.cls = .type "list" /\ o.dict=none/\o.data = .seq its n/\its.size<=sizeLine/\Vals xs its.toList
theorem Scr.sq(h:Scr K H a xs):SqL K H a xs:=by
 rcases h with h | h
 ·exact .inl (.inr h)
 ·exact .inr h
theorem Scr.of(h:SqL K H a xs)(o:Only H):Scr K H a xs:=by
 rcases h with (h | h) | h
 ·rcases o a with z | ⟨ob,ys,z⟩
  ·rw[z]at h;cases h
  ·rw[z]at h;cases h
 ·exact .inl h
 ·exact .inr h
theorem Scr.same(h:Scr K H a xs)(s:Same H H'):Scr K H' a xs:=by
 rcases h with ⟨o,h⟩ | h
 ·exact .inl ⟨o,s _ _ h⟩
 ·exact .inr h
theorem Scr.keep(h:Scr K H a xs)(k:Keep p H H')(e:H p=some (.lst ys)):Scr K H' a xs:=by
 rcases h with ⟨ob,h⟩ | h
 ·exact .inl ⟨ob,k _ _ (ne_of h e (by intro z;cases z)) h⟩
 ·exact .inr h
def PenM(H:Hp)(pen:Addr):Prop:=∃(c:Int)(b:Bool)(n:Int),H pen=some (.lst [.int c,.bl b,.int n])
theorem PenM.same(p:PenM H pen)(s:Same H H'):PenM H' pen:=by
 obtain⟨c,b,n,h⟩:=p
 exact⟨c,b,n,s _ _ h⟩
theorem PenM.new(p:PenM H pen)(h:H q=none)(o:HO):PenM (upd H q o) pen:=p.same (q16 h o)
theorem PenM.at(p:PenM H pen):∃ xs,H pen=some (.lst xs):=by
 obtain⟨c,b,n,h⟩:=p
 exact⟨_,h⟩
theorem PenM.ne(p:PenM H pen)(h:H b=some (.tup xs)):b≠pen:=by
 obtain⟨ys,e⟩:=p.at
 exact ne_of h e (by intro z;cases z)
theorem PenM.fresh(p:PenM H pen)(h:H b=none):b≠pen:=by
 obtain⟨ys,e⟩:=p.at
 exact Ne.symm (q24 e h)
theorem PenM.other(p:PenM H pen)(hq:q≠pen)(o:HO):PenM (upd H q o) pen:=by
 obtain⟨c,b,n,e⟩:=p
 exact⟨c,b,n,by rw[q28 (Ne.symm hq)];exact e⟩
theorem PenM.keep(p:PenM H pen)(hq:q≠pen)(k:Keep q H H'):PenM H' pen:=by
 obtain⟨c,b,n,e⟩:=p
 exact⟨c,b,n,k _ _ (Ne.symm hq) e⟩
theorem PenM.tk(p:PenM H pen)(k:Keep pen H H'):TKeep H H':=by
 obtain⟨xs,e⟩:=p.at
 exact TKeep.keep k e
theorem PenM.free(p:PenM H' pen)(k:Keep pen H H')(h:H' l=none):H l=none:=by
 obtain⟨xs,e⟩:=p.at
 exact k.free h e
theorem PenM.scr(p:PenM H pen)(k:Keep pen H H')(h:Scr K H a xs):Scr K H' a xs:=by
 obtain⟨ys,e⟩:=p.at
 exact h.keep k e
inductive q298(K:Fg)(vs:List V)(H:Hp)(Q:VK)(E:XK):Prop
 |mk(a:Addr)(ns:List Int)(k:Int)(_:vs=[.ref a,.int k])(_:SqL K H a (ns.map V.int))(_:ns.length<=63)(_:0<=k)(_:k<1000)(_:∀(p:Addr)(H':Hp),H p=none->Same H H'->PenM H' p->Q (.ref p) H')
inductive q189(u0:Fg)(vs:List V)(H:Hp)(Q:VK)(E:XK):Prop
 |mk(pen:Addr)(_:vs=[.ref pen])(_:PenM H pen)(_:∀(v:Int)(H':Hp),Keep pen H H'->PenM H' pen->0<=v->Q (.int v) H')
inductive q225(u0:Fg)(vs:List V)(H:Hp)(Q:VK)(E:XK):Prop
 |mk(pen:Addr)(size:Int)(_:vs=[.ref pen,.int size])(_:PenM H pen)(_:0<size)(_:size<10^60)(_:∀(v:Int)(H':Hp),Keep pen H H'->PenM H' pen->0<=v->v<size->Q (.int v) H')
inductive q153(u0:Fg)(vs:List V)(H:Hp)(Q:VK)(E:XK):Prop
 |mk(pen:Addr)(_:vs=[.ref pen])(_:PenM H pen)(_:∀(b:Addr)(low:Int)(L:Nat)(H':Hp),Keep pen H H'->PenM H' pen->H' b=some (.tup [.int low,.int (L:Int)])->L<=40 -> -(10^40)<low->low<10^40->Q (.ref b) H')
inductive q299(u0:Fg)(vs:List V)(H:Hp)(Q:VK)(E:XK):Prop
 |mk(pen b:Addr)(low g:Int)(L:Nat)(_:vs=[.ref pen,.ref b,.int g])(_:PenM H pen)(_:H b=some (.tup [.int low,.int (L:Int)]))(_:L<=40)(_:0<=g)(_:g<=60)(_:∀(r:Addr)(ns:List Int)(H':Hp),Keep pen H H'->PenM H' pen->H' r=some (.lst (ns.map V.int))->H r=none->(ns.length:Int)<=g->Wths low L ns->Q (.ref r) H')
noncomputable def muT:St->Nat:=fun σ=>match σ[3]? with
 | some (some (V.int m))=>m.toNat
 | _=>0
theorem q173:z.C P w base 1 "_law_pen" ["_law_script", "_law_k"] (q298 K):=by
 have sc:=q538
 refine z.d__law_pen.cal fun f fd F=>F.k sc fun _ _ _ s H _ Q _ hr h=>?_
 obtain⟨a,ns,k,rfl,hS,h63,h0,hk,q⟩:=h
 refine⟨_,(q11 (pst 2 sc.nd (pe_op q48 (pe_op q128 q14 (pv 1)) q14))
 (q11 (ps_if (q19 op_lt (pv 1) (pln z.len_ (q10 (pv 0) q12)) (q21 _))
 (q15 (pst 2 sc.nd (pix q32 (pv 0) (pv 1))))
 (q15 (ps_if (q19 op_gt (pln z.len_ (q10 (pv 0) q12)) q14 (q21 _))
 (q15 (pst 2 sc.nd (pe_op q48 (pv 2) (pe_op q218 (pix q32 (pv 0) (pe_op q218 (pv 1) (pln z.len_ (q10 (pv 0) q12)))) (pe_op q219 q14 q14)))))
 q20)))
 (q15 (q18 (q40 (q10 (pv 2) (q10 (q518 op_ge (pv 2) (pe_op q219 q14 q14) (q21 _)) (q10 q14 q12)))))))),?_⟩
 have hl:(ns.map V.int).length=ns.length:=ZK _
 exists _,rfl,_,_,rfl,rfl,.inl ⟨{},{}⟩,_,_,rfl,rfl
 exists _,rfl,_,rfl,a,_,rfl,.inl hS,_,_,rfl,rfl,_,rfl
 refine ite2 (fun c=>?_) (fun c=>?_)
 ·have c':k<(((ns.map V.int).length:Nat):Int):=ZI c
  rw[hl]at c'
  obtain⟨v,_,hv⟩:=q94 h0 c'
  exists _,rfl,_,rfl,a,_,_,_,rfl,rfl,hS,hv
  exact⟨_,rfl,_,rfl,_,_,rfl,rfl,⟨{},{},{}⟩,_,_,rfl,rfl,szb rfl,fun p hp=>q p _ hp (q16 hp _) ⟨_,_,_,q13⟩⟩
 ·exists _,rfl,a,_,rfl,.inl hS,_,_,rfl,rfl,_,rfl
  refine ite2 (fun c2=>?_) (fun c2=>?_)
  ·have c2':(0:Int)<(((ns.map V.int).length:Nat):Int):=ZI c2
   have m0:0<=k%(((ns.map V.int).length:Nat):Int):=Int.emod_nonneg _ ∅
   have m1:k%(((ns.map V.int).length:Nat):Int)<(((ns.map V.int).length:Nat):Int):=Int.emod_lt_of_pos _ c2'
   obtain⟨v,_,hv⟩:=q94 (l:=ns) m0 (by rw[hl]at m1 ⊢;exact m1)
   exists _,rfl,_,rfl,_,rfl,_,rfl,a,_,rfl,.inl hS,_,_,rfl,rfl,c2',a,_,_,_,rfl,rfl,hS,hv,_,_,rfl,rfl,⟨{},{},{}⟩,_,_,rfl,rfl,(by show(0:Int)<10^15;decide),_,_,rfl,rfl
   exact⟨_,rfl,_,rfl,_,_,rfl,rfl,⟨{},{},{}⟩,_,_,rfl,rfl,szb rfl,fun p hp=>q p _ hp (q16 hp _) ⟨_,_,_,q13⟩⟩
  ·exact⟨_,rfl,_,rfl,_,_,rfl,rfl,⟨{},{},{}⟩,_,_,rfl,rfl,szb rfl,fun p hp=>q p _ hp (q16 hp _) ⟨_,_,_,q13⟩⟩
theorem q190:z.C P w base 1 "_law_mixed" pn16 (q189 K):=by
 have sc:=q396
 refine z.d__law_mixed.cal fun f fd F=>F.k sc fun _ _ _ s H _ Q _ hr h=>?_
 obtain⟨pen,rfl,⟨c,b,n,hp⟩,q⟩:=h
 refine⟨_,(q11 (q333 (pe_op q48 (pix q32 (pv 0) q14) q14) (pg_sub (pv 0) q14 set_list))
 (q11 (pst 1 sc.nd (pe_op q218 (pe_op q128 (pe_op q48 (pe_op q218 (pix q32 (pv 0) q14) q14) (pe_op q128 q14 (pix q32 (pv 0) q14))) q14) q14))
 (q11 (pst 1 sc.nd (pe_op q218 (pe_op q128 (pe_op q48 (pv 1) (pe_op q128 q14 (pix q32 (pv 0) q14))) (pe_op q48 (pv 1) q14)) q14))
 (q15 (q18 (pe_op q112 (pv 1) q14)))))),?_⟩
 exists _,rfl,pen,_,_,_,rfl,rfl,SqL.of hp,rfl,_,_,rfl,rfl,_,rfl,pen,_,_,2,rfl,rfl,hp,rfl
 exists _,rfl,pen,_,_,_,rfl,rfl,SqL.of q13,rfl,_,_,rfl,rfl,(by show(0:Int)<2147483647;decide),_,rfl,pen,_,_,_,rfl,rfl,SqL.of q13,rfl,_,_,rfl,rfl,.inl ⟨{},{}⟩,_,_,rfl,rfl,_,_,rfl,rfl,.inr ⟨{},{}⟩,_,_,rfl,rfl,(by show(0:Int)<2147483629;decide)
 exists _,rfl,_,rfl,pen,_,_,_,rfl,rfl,SqL.of q13,rfl,_,_,rfl,rfl,.inl ⟨{},{}⟩,_,_,rfl,rfl,_,rfl,_,_,rfl,rfl,_,_,rfl,rfl,.inr ⟨W121,W101⟩,_,_,rfl,rfl,(by show(0:Int)<2147483587;decide)
 exists _,rfl,_,_,rfl,rfl,⟨{},{}⟩
 exact q _ _ (Keep.set pen H _) ⟨_,_,_,q13⟩ (Int.ediv_nonneg (Int.emod_nonneg _ {}) {})
theorem q25:z.C P w base 2 "_law_take" ["_law_pen_here", "_law_size"] (q225 K):=by
 have sc:=q477
 refine z.d__law_take.cal fun f fd F=>F.k sc fun _ _ _ s H _ Q _ hr h=>?_
 obtain⟨pen,size,rfl,P0,s0,s1,q⟩:=h
 refine⟨_,(q11 (ps_if (q331 (pix q32 (pv 0) q14))
 (q11 (pst 2 sc.nd (pe_op q218 (pix q32 (pv 0) q14) (pv 1)))
 (q11 (q333 (pe_op q112 (pix q32 (pv 0) q14) (pv 1)) (pg_sub (pv 0) q14 set_list))
 (q15 (q18 (pv 2)))))
 q20)
 (q11 (pst 2 sc.nd (pe_fn (q190 z) hr.m () (q10 (pv 0) q12)))
 (q11 (pst 3 sc.nd (pv 1))
 (q11 (q563 PassesOwn.never (q19 op_gt (pv 3) (pe_op q219 q14 q14) (q21 _))
 (q11 (pst 2 sc.nd (pe_op q48 (pe_op q128 (pv 2) q14) (pe_fn (q190 z) hr.m () (q10 (pv 0) q12))))
 (q15 (pst 3 sc.nd (pe_op q112 (pv 3) (pe_op q219 q14 q14))))))
 (q15 (q18 (pe_op q218 (pv 2) (pv 1)))))))),?_⟩
 obtain⟨c,b,n,hp⟩:=id P0
 exists _,rfl,pen,_,_,_,rfl,rfl,SqL.of hp,rfl,b,rfl
 refine ite2 (fun _=>?_) (fun _=>?_)
 ·exists _,rfl,pen,_,_,_,rfl,rfl,SqL.of hp,rfl,_,rfl,_,_,rfl,rfl,s0
  exists _,rfl,pen,_,_,_,rfl,rfl,SqL.of hp,rfl,_,rfl,_,_,rfl,rfl,⟨s0,s1⟩,_,rfl,pen,_,_,0,rfl,rfl,hp,rfl,_,rfl
  exact q _ _ (Keep.set pen H _) ⟨_,_,_,q13⟩ (Int.emod_nonneg _ (W212 s0 s1)) (Int.emod_lt_of_pos _ s0)
 ·refine⟨_,rfl,pen,rfl,P0,fun v H1 k1 P1 v0=>?_⟩
  exists _,rfl
  refine q566 (fun σ H2=>∃(f wd:Int),σ=[some (.ref pen),some (.int size),some (.int f),some (.int wd)]/\Keep pen H H2/\PenM H2 pen) (fun σ _=>muT σ) ⟨v,size,rfl,k1,P1⟩ ?_ ?_
  ·rintro σ H2 ⟨f,wd,rfl,k2,P2⟩
   exists _,rfl,_,_,rfl,rfl,⟨{},{},{}⟩,_,_,rfl,rfl,_,rfl
   refine ite2 (fun c2=>?_) (fun c2=>?_)
   ·have c2':(10:Int)^8<wd:=ZI c2
    refine⟨_,rfl,_,_,rfl,rfl,.inr ⟨{},{}⟩,_,rfl,pen,rfl,P2,fun v3 H3 k3 P3 _=>⟨_,_,rfl,rfl,?_⟩⟩
    exists _,rfl,_,_,rfl,rfl,⟨{},{},{}⟩,_,_,rfl,rfl,⟨{},{}⟩,⟨_,_,rfl,k2.trans k3,P3⟩
    show(wd/(10:Int)^8).toNat<wd.toNat
    lia
   ·exists _,rfl,_,rfl,_,_,rfl,rfl,s0
    exact q _ _ k2 P2 (Int.emod_nonneg _ (W212 s0 s1)) (Int.emod_lt_of_pos _ s0)
  ·rintro σ H2 Q1 Q2 hq ⟨_,e0,i,j,e1,e2,e3,i2,j2,e4,e5,k,e6,h⟩
   exact⟨_,e0,i,j,e1,e2,e3,i2,j2,e4,e5,k,e6,hq _ _ h⟩
theorem q326:z.C P w base 3 "_law_bounds" pn16 (q153 K):=by
 have sc:=q323
 refine z.d__law_bounds.cal fun f fd F=>F.k sc fun _ _ _ s H _ Q _ hr h=>?_
 obtain⟨pen,rfl,P0,q⟩:=h
 refine⟨_,(q11 (pst 1 sc.nd (pix q32 (q40 (q10 q14 (q10 q14 (q10 q14 (q10 q14 (q10 q14 (q10 q14 (q10 q14 (q10 q14 q12))))))))) (pe_fn (q25 z) hr.m () (q10 (pv 0) (q10 q14 q12)))))
 (q11 (pst 2 sc.nd (pe_fn (q25 z) hr.m () (q10 (pv 0) (q10 q14 q12))))
 (q11 (pst 3 sc.nd (pe_fn (q25 z) hr.m () (q10 (pv 0) (q10 (pix q32 (q40 (q10 q14 (q10 q14 (q10 q14 (q10 (pe_op q76 (pe_op q128 q14 (pe_op q219 q14 q14)) q14) q12))))) (pv 2)) q12))))
 (q15 (q18 (q34 (q10 (pix q32 (q40 (q10 q14 (q10 (pe_op q76 q14 (pv 3)) (q10 (pe_op q76 (pe_op q76 (pe_op q219 q14 q14) q14) (pv 3)) (q10 (pe_op q48 (pe_op q76 (pv 3) (pe_op q219 q14 q14)) q14) q12))))) (pv 2)) (q10 (pv 1) q12)))))))),?_⟩
 refine⟨szb rfl,fun p hp=>?_⟩
 refine⟨_,rfl,pen,8,rfl,P0.new hp _,{},{},fun v1 H1 k1 P1 a1 b1=>?_⟩
 obtain⟨L',hm,hv⟩:=q94 (l:=[0,1,2,3,4,5,8,40]) a1 b1
 have hL:0<=L'/\L'<=40:=by
  simp only[mem_cons,not_mem_nil,or_false]at hm
  exact W12 hm
 obtain⟨L,rfl⟩:=Int.eq_ofNat_of_zero_le hL.1
 have hL2:L<=40:=∅
 exists p,_,_,_,rfl,rfl,SqL.of (k1 _ _ (P0.fresh hp) q13),hv
 refine⟨_,rfl,pen,4,rfl,P1,{},{},fun v2 H2 k2 P2 a2 b2=>?_⟩
 have k02:Keep pen H H2:=(Keep.new hp _).trans (k1.trans k2)
 obtain⟨S,hS,S0,S1,hlow⟩:∃ S:Int,atI [V.int 1,.int 20,.int 9,.int (2*10^(40:Int).toNat-1)] v2=some (.int S)/\0<S/\S<10^60 /\ ∀ x:Int,0<=x->x<S ->
   ∃ y:Int,atI [V.int 0,.int (0-x),.int (10^(40:Int).toNat-1-x),.int (x-10^(40:Int).toNat+1)] v2=some (.int y) /\ -(10^40)<y/\y<10^40:=by
  have h4:v2=0\/v2=1\/v2=2\/v2=3:=(W14 a2 b2)
  rcases h4 with rfl | rfl | rfl | rfl
  ·exact⟨1,rfl,{},{},fun x _ _=>⟨0,rfl,{},{}⟩⟩
  ·exact⟨20,rfl,{},{},fun x _ _=>⟨_,rfl,∅,∅⟩⟩
  ·refine⟨9,rfl,{},{},fun x _ _=>⟨_,rfl,?_,?_⟩⟩
   ·show -(10^40)<(10:Int)^40-1-x
    lia
   ·show(10:Int)^40-1-x<10^40
    lia
  ·refine⟨_,rfl,{},{},fun x x0 x1=>⟨_,rfl,?_,?_⟩⟩
   ·show -(10^40)<x-(10:Int)^40+1
    lia
   ·show x-(10:Int)^40+1<10^40
    have x1':x<2*(10:Int)^40-1:=x1
    lia
 refine⟨_,rfl,_,_,rfl,rfl,⟨{},{},{}⟩,_,_,rfl,rfl,.inl ⟨{},{}⟩,_,_,rfl,rfl,szb rfl,fun p2 hp2=>?_⟩
 refine⟨_,rfl,p2,_,_,_,rfl,rfl,SqL.of q13,hS,pen,_,rfl,P2.new hp2 _,S0,S1,fun v3 H3 k3 P3 a3 b3=>?_⟩
 obtain⟨y,hy,y0,y1⟩:=hlow v3 a3 b3
 refine⟨_,rfl,_,_,rfl,rfl,_,_,rfl,rfl,⟨{},{},{}⟩,_,_,rfl,rfl,_,rfl,_,_,rfl,rfl,_,rfl,_,_,rfl,rfl,⟨{},{},{}⟩,_,_,rfl,rfl,_,_,rfl,rfl,szb rfl,fun p3 hp3=>?_⟩
 refine⟨_,rfl,p3,_,_,_,rfl,rfl,SqL.of q13,hy,_,rfl,szb rfl,fun b hb=>?_⟩
 exact q b y L _ (k02.trans ((Keep.new hp2 _).trans (k3.trans ((Keep.new hp3 _).trans (Keep.new hb _))))) ((P3.new hp3 _).new hb _) q13 hL2 y0 y1
theorem q543:z.C P w base 3 "_law_row" pn3 (q299 K):=by
 have sc:=q539
 refine z.d__law_row.cal fun f fd F=>F.k sc fun _ _ _ s H _ Q _ hr h=>?_
 obtain⟨pen,b,low,g,L,rfl,P0,hb,hL,g0,g1,q⟩:=h
 refine⟨_,(q11 (q333 (pv 1) (q217 rfl (q33 (pgn 3 sc.nd) (q33 (pgn 4 sc.nd) q87))))
 (q11 (pst 5 sc.nd (pe_op q685 q14 (pv 4)))
 (q11 (pst 6 sc.nd (pe_fn (q25 z) hr.m () (q10 (pv 0) (q10 q14 q12))))
 (q11 (q204 (i:=7) (cl:=[("_law_size", s.heap.objs.size+1+1),("_law_pen_here", s.heap.objs.size+1+0)]) (cn:=["_law_size", "_law_pen_here"]) (N:=["_law_pen_here", "_law_size"]) (fr:=[0,5]) (sc0:=q17 q212) sc.nd rfl (Or.inl rfl) rfl (q47 rfl z.range_ (q10 q14 q12)) (fun C s₂ H₂ fp=>(pe_fn (q25 z) hr.m () (q10 (pv 1) (q10 (pv 2) q12)))) (by ac_rfl) ⟨by ac_rfl,by ac_rfl,trivial⟩ rfl rfl rfl cok rfl (by ac_rfl) (.inl rfl))
 (q11 (pst 8 sc.nd (q40 q12))
 (q11 (q69 PassesOwn.never rfl (q47 rfl z.range_ (q10 (pe_fn (q25 z) hr.m () (q10 (pv 0) (q10 (pe_op q48 (pv 2) q14) q12))) q12)) (pgn 9 sc.nd)
 (q11 (pst 10 sc.nd (pe_fn (q25 z) hr.m () (q10 (pv 0) (q10 (pix q32 (q40 (q10 (pv 5) (q10 (pv 5) (q10 q14 (q10 (q38 (q434 rfl) () z.min_ bt_min (q10 (pv 5) (q10 q14 q12))) q12))))) (pv 6)) q12))))
 (q11 (ps_if (q19 op_eq (pv 6) q14 (q21 _))
 (q15 (pst 10 sc.nd (pix q32 (pv 7) (pv 10))))
 q20)
 (q11 (ps_if (q19 op_eq (pv 6) q14 (q21 _))
 (q15 (pst 10 sc.nd (pe_op q218 (pe_op q48 (pix q32 (pv 7) q14) (pv 10)) (pv 5))))
 q20)
 (q15 (q97 (pe_bm YF YM YN q71 (pv 8) (q10 (pe_op q48 (pv 3) (pv 10)) q12))))))))
 (q15 (q18 (pv 8))))))))),?_⟩
 have hp:=p2pos L
 have hq:=p2le hL
 exists _,rfl,b,_,rfl,SqT.of hb,rfl,_,_,rfl,_,_,rfl,rfl
 exists _,rfl,_,_,rfl,rfl,⟨(W114 hL),(W210 hL),{}⟩
 dsimp only
 rw[q573]
 refine⟨_,rfl,pen,4,rfl,P0,{},{},fun wv H1 k1 P1 w0 w1=>?_⟩
 refine⟨3,rfl,{},{},fun D hD=>?_⟩
 have hD0:H D=none:=P1.free k1 hD
 have hDp:D≠pen:=P1.fresh hD
 refine q103 (n:=3) (sz {}) (fun j ys H6=>∃ fs:List Int,ys=fs.map V.int/\fs.length=j/\(∀ x∈fs,0<=x/\x<(2:Int)^L)/\H6 D=some (.lst ys)/\Keep pen H H6/\PenM H6 pen)
  ⟨[],rfl,rfl,fun x hx=>absurd hx (by simp),q13,k1.own hD0,P1.new hD _⟩ (fun j ys H6 ⟨fs,e1,e2,_,e3,_⟩=>⟨e3,by rw[e1,ZK];exact e2⟩) ?_ ?_
 ·rintro j ys H6 hj ⟨fs,e1,e2,e4,e3,k6,P6⟩
  refine⟨_,rfl,_,rfl,pen,_,rfl,P6,hp,(W158 hp hq),fun u3 H7 k7 P7 z0 z1=>?_⟩
  have e3':H7 D=some (.lst ys):=k7 _ _ hDp e3
  refine⟨e3',fs++[u3],by rw[WF,e1] <;> rfl,by rw[ZM,e2] <;> rfl,fun x hx=>?_,q13,(k6.trans k7).own hD0,P7.other hDp _⟩
  rcases List.mem_append.mp hx with h' | h'
  ·exact e4 x h'
  ·cases List.mem_singleton.mp h'
   exact⟨z0,z1⟩
 ·rintro ys H6 ⟨fs,e1,e2,e4,e3,k6,P6⟩
  rw[e1]at e3
  refine⟨szb rfl,fun r hr=>?_⟩
  have hr0:H r=none:=P6.free k6 hr
  have hrD:D≠r:=q24 e3 hr
  have hrp:r≠pen:=P6.fresh hr
  have P7:PenM (upd H6 r (.lst [])) pen:=P6.new hr _
  refine⟨_,rfl,_,rfl,_,_,rfl,rfl,pen,_,rfl,P7,∅,∅,fun m H7 k7 P7 m0 m1=>⟨m,rfl,∅,∅,q70 (n:=m.toNat) (fun i σ H8=>∃(ns:List Int)(v9 v10:Option V),σ=[some (.ref pen),some (.ref b),some (.int g),some (.int low),some (.int (L:Int)),some (.int (2^L)),some (.int wv),some (.ref D),some (.ref r),v9,v10]/\H8 r=some (.lst (ns.map V.int))/\ns.length=i/\Wths low L ns /\
   H8 D=some (.lst (fs.map V.int))/\Keep pen H H8/\PenM H8 pen) ⟨[],_,_,rfl,k7 _ _ hrp q13,rfl,fun x hx=>absurd hx (by simp),k7 _ _ hDp (by rw[q28 hrD];exact e3),(k6.own hr0).trans k7,P7⟩ ?_ ?_⟩⟩
  ·rintro i σ H8 hi ⟨ns,v9,v10,rfl,hr8,hl8,hw8,hD8,k8,P8⟩
   obtain⟨S,hS,S0,S1,S2,S3⟩:∃ S:Int,atI [V.int (2^L),.int (2^L),.int 3,.int (if(5:Int)<2^L then 5 else 2^L)] wv=some (.int S)/\0<S/\S<10^60/\(wv=2->S=3)/\(wv≠2->S<=2^L):=by
    have h4:wv=0\/wv=1\/wv=2\/wv=3:=(W14 w0 w1)
    rcases h4 with rfl | rfl | rfl | rfl
    ·exact⟨_,rfl,hp,(W158 hp hq),fun z=>absurd z {},fun _=>WU _⟩
    ·exact⟨_,rfl,hp,∅,fun z=>absurd z {},fun _=>WU _⟩
    ·exact⟨3,rfl,{},{},fun _=>rfl,fun z=>absurd rfl z⟩
    ·refine⟨_,rfl,?_,?_,fun z=>absurd z {},fun _=>?_⟩
     ·split <;> lia
     ·split <;> lia
     ·split <;> lia
   have fin:∀(y:Int)(v:Option V)(H9:Hp),0<=y->y<2^L->Keep pen H8 H9->PenM H9 pen->H9 r=some (.lst (ns.map V.int))/\(ns.map V.int).length<sizeLine /\
     ∃(ns':List Int)(v9' v10':Option V),[some (V.ref pen),some (.ref b),some (.int g),some (.int low),some (.int (L:Int)),some (.int (2^L)),some (.int wv),some (.ref D),some (.ref r),some (.int (0+(i:Int))),v]=[some (V.ref pen),some (.ref b),some (.int g),some (.int low),some (.int (L:Int)),some (.int (2^L)),some (.int wv),some (.ref D),some (.ref r),v9',v10'] /\
      (upd H9 r (.lst (ns.map V.int++[.int (low+y)]))) r=some (.lst (ns'.map V.int))/\ns'.length=i+1/\Wths low L ns'/\(upd H9 r (.lst (ns.map V.int++[.int (low+y)]))) D=some (.lst (fs.map V.int))/\Keep pen H (upd H9 r (.lst (ns.map V.int++[.int (low+y)])))/\PenM (upd H9 r (.lst (ns.map V.int++[.int (low+y)]))) pen:=by
    intro y v H9 y0 y1 k9 P9
    have hr9:=k9 _ _ hrp hr8
    have hD9:=k9 _ _ hDp hD8
    refine⟨hr9,by rw[ZK,hl8];exact q64 ∅,ns++[low+y],_,_,rfl,?_,by rw[ZM,hl8] <;> rfl,hw8.snoc ∅ ∅,by rw[q28 hrD];exact hD9,(k8.trans k9).own hr0,P9.other hrp _⟩
    rw[q13,WF]
    rfl
   refine⟨_,rfl,_,rfl,_,rfl,_,rfl,_,_,rfl,szb rfl,fun p2 hp2=>?_⟩
   refine⟨_,rfl,p2,_,_,_,rfl,rfl,SqL.of q13,hS,pen,_,rfl,P8.new hp2 _,S0,S1,fun u H9 k9 P9 u0 u1=>?_⟩
   have k89:Keep pen H8 H9:=(Keep.new hp2 _).trans k9
   exists _,rfl,rfl,_,rfl
   refine ite2 (fun c=>?_) (fun c=>?_)
   ·have c':wv=2:=V.int.inj (ZI c)
    have e3S:=S2 c'
    obtain⟨fv,hm,hv⟩:=q94 (l:=fs) (i:=u) u0 ∅
    obtain⟨y0,y1⟩:=e4 fv hm
    exists _,rfl,_,rfl,D,_,_,_,rfl,rfl,SqL.of (k89 _ _ hDp hD8),hv
    exists _,rfl,rfl,_,rfl
    refine ite2 (fun c3=>?_) (fun c3=>?_)
    ·have c3':wv=3:=V.int.inj (ZI c3)
     exact(W87 c' c3').elim
    ·obtain⟨f1,f2,f3⟩:=fin fv (some (.int fv)) H9 y0 y1 k89 P9
     exact⟨_,rfl,.inl ⟨rfl,_,SqL.of f1⟩,_,rfl,_,rfl,_,_,rfl,rfl,r,_,_,rfl,rfl,f1,f2,f3⟩
   ·have c':wv≠2:=fun z=>c (ZG (by rw[z]))
    have e3S:=S3 c'
    exists _,rfl,rfl,_,rfl
    refine ite2 (fun c3=>?_) (fun c3=>?_)
    ·obtain⟨f0,hm,hv⟩:=q94 (l:=fs) (i:=0) ∅ ∅
     have b0:0<=(f0+u)%(2:Int)^L:=Int.emod_nonneg _ ∅
     have b1:(f0+u)%(2:Int)^L<2^L:=Int.emod_lt_of_pos _ hp
     exists _,rfl,D,_,_,_,rfl,rfl,SqL.of (k89 _ _ hDp hD8),hv,_,rfl,_,_,rfl,rfl,_,rfl,_,_,rfl,rfl,hp
     obtain⟨f1,f2,f3⟩:=fin ((f0+u)%(2:Int)^L) (some (.int ((f0+u)%(2:Int)^L))) H9 b0 b1 k89 P9
     exact⟨_,rfl,.inl ⟨rfl,_,SqL.of f1⟩,_,rfl,_,rfl,_,_,rfl,rfl,r,_,_,rfl,rfl,f1,f2,f3⟩
    ·obtain⟨f1,f2,f3⟩:=fin u (some (.int u)) H9 u0 (W139 e3S u1) k89 P9
     exact⟨_,rfl,.inl ⟨rfl,_,SqL.of f1⟩,_,rfl,_,rfl,_,_,rfl,rfl,r,_,_,rfl,rfl,f1,f2,f3⟩
  ·rintro σ H8 ⟨ns,v9,v10,rfl,hr8,hl8,hw8,hD8,k8,P8⟩
   exact⟨_,rfl,q r ns _ k8 P8 hr8 hr0 ∅ hw8⟩
section
open PySem.NumText
noncomputable def fg(n:Int):List Nat:=(Str.ofString (toString n)).cps.toList
def tx(n:Int):Str:=Str.ofString (toString n)
noncomputable def mkS(l:List Nat):Str:=⟨l.toArray⟩
theorem mkS_l(l:List Nat):(mkS l).cps.toList=l:=rfl
theorem mkS_of(x:Str):mkS x.cps.toList=x:=rfl
theorem mkS_len(l:List Nat):(mkS l).length=l.length:=by
 show l.toArray.size=_
 simp
theorem q753{x y:Str}(h:x.cps.toList=y.cps.toList):x=y:=by
 rw[<- mkS_of x,<- mkS_of y,h]
theorem q300(m:Nat):fg (m:Int)=(Nat.toDigits 10 m).map Char.toNat:=PySem.W.KIN.signs_num m
theorem fg_neg(m:Nat):fg (-((m+1:Nat):Int))=45::fg ((m+1:Nat):Int):=by
 rw[q300]
 unfold fg
 rw[PyProof.Rows.signs_ofString]
 show("-" ++ Nat.repr (m+1)).toList.map Char.toNat=_
 rw[String.toList_append,WF,Nat.toList_repr]
 rfl
theorem q544{m:Nat}(h:¬ m<10):Nat.toDigits 10 m=Nat.toDigits 10 (m/10)++[Nat.digitChar (m%10)]:=by
 have hm:m%10<10:=Nat.mod_lt m {}
 have t:Nat.toDigits 10 (m/10)++Nat.toDigits 10 (m%10)=Nat.toDigits 10 (10*(m/10)+m%10):=Nat.toDigits_append_toDigits {} ∅ hm
 rw[Nat.div_add_mod,Nat.toDigits_of_lt_base hm]at t
 exact t.symm
theorem dc_rng:∀ d:Nat,d<10->48<=(Nat.digitChar d).toNat/\(Nat.digitChar d).toNat<=57:={}
theorem dc_zero:∀ d:Nat,d<10->(Nat.digitChar d).toNat=48->d=0:={}
theorem q486(m:Nat):∀ c∈fg (m:Int),48<=c/\c<=57:=by
 rw[q300]
 induction m using Nat.strongRecOn with
 | _ m ih=>
  by_cases h:m<10
  ·rw[Nat.toDigits_of_lt_base h]
   intro c hc
   have e:c=(Nat.digitChar m).toNat:=by simpa using hc
   rw[e]
   exact dc_rng m h
  ·rw[q544 h]
   intro c hc
   rw[WF,mem_append]at hc
   rcases hc with hc | hc
   ·exact ih (m/10) ∅ c hc
   ·have e:c=(Nat.digitChar (m%10)).toNat:=by simpa using hc
    rw[e]
    exact dc_rng _ (Nat.mod_lt _ {})
theorem fg_len(k:Nat):∀ m:Nat,m<10^(k+1)->1<=(fg (m:Int)).length/\(fg (m:Int)).length<=k+1:=by
 induction k with
 | zero=>
  intro m h
  rw[q300,Nat.toDigits_of_lt_base (by simpa using h)]
  exact⟨ZF _,ZF _⟩
 | succ k ih=>
  intro m h
  by_cases c:m<10
  ·rw[q300,Nat.toDigits_of_lt_base c]
   exact⟨ZF _,by show 1<=_;lia⟩
  ·have hd:m/10<10^(k+1):=by
    rw[Nat.pow_succ]at h
    exact Nat.div_lt_of_lt_mul (by rw[Nat.mul_comm];exact h)
   have z:=ih (m/10) hd
   rw[q300]at z ⊢
   rw[q544 c,WF,ZM]
   show 1<=_+1/\_+1<=_
   lia
theorem fg_head(m:Nat):fg (m:Int)=[48] \/ ∃ c r,fg (m:Int)=c::r/\c≠48:=by
 rw[q300]
 induction m using Nat.strongRecOn with
 | _ m ih=>
  by_cases h:m<10
  ·rw[Nat.toDigits_of_lt_base h]
   by_cases z:m=0
   ·subst z
    exact .inl rfl
   ·exact .inr ⟨_,[],rfl,fun e=>z (dc_zero m h e)⟩
  ·rw[q544 h,WF]
   rcases ih (m/10) ∅ with e | ⟨c,r,e,hc⟩
   ·exfalso
    have z:digitsVal ((Nat.toDigits 10 (m/10)).map Char.toNat)=m/10:=PySem.W.KIN.val_back (m/10)
    rw[e]at z
    have z2:(0:Nat)=m/10:=z
    lia
   ·exact .inr ⟨c,r++_,by rw[e];rfl,hc⟩
theorem fg_val(m:Nat):digitsVal (fg (m:Int))=m:=by
 rw[q300]
 exact PySem.W.KIN.val_back m
noncomputable def isD(c:Nat):Bool:=decide (c∈("0123456789" : Str).cps.toList)
theorem q754(c:Nat):isD c=true↔48<=c/\c<=57:=by
 unfold isD
 rw[decide_eq_true_iff,show("0123456789" : Str).cps.toList=[48,49,50,51,52,53,54,55,56,57] by decide +kernel]
 simp only[mem_cons,not_mem_nil,or_false]
 exact W1
noncomputable def figB(l:List Nat):Bool:=decide (1<=l.length)&&decide (l.length<=50)&&!(decide (l.head? = some 48)&&!decide (l=[48]))&&l.all isD
noncomputable def rdN:List Nat->Option Int
 | []=>none
 | c::r=>if c=45 then(if figB r=true/\r≠[48]then some (-(digitsVal r:Int))else none)else if figB (c::r)=true then some (digitsVal (c::r):Int)else none
theorem q251(c:Nat)(r:List Nat):rdN (c::r)=if c=45 then(if figB r=true/\r≠[48]then some (-(digitsVal r:Int))else none)else if figB (c::r)=true then some (digitsVal (c::r):Int)else none:=rfl
theorem q545{l:List Nat}(h:figB l=true):AllDigits l/\l≠[]/\l.length<=50:=by
 unfold figB at h
 rw[WZ,WZ,WZ,decide_eq_true_iff,decide_eq_true_iff,all_eq_true]at h
 obtain⟨⟨⟨h1,h2⟩,_⟩,h3⟩:=h
 exact⟨fun c hc=>(q754 c).mp (h3 c hc),fun z=>by rw[z]at h1;exact absurd h1 {},h2⟩
theorem fig_fg{m:Nat}(h:m<10^50):figB (fg (m:Int))=true:=by
 have hl:=fg_len 49 m h
 unfold figB
 rw[ZG hl.1,ZG hl.2,Bool.true_and,Bool.true_and,WZ]
 refine⟨?_,List.all_eq_true.mpr fun c hc=>(q754 c).mpr (q486 m c hc)⟩
 rcases fg_head m with e | ⟨c,r,e,hc⟩
 ·rw[e]
  decide
 ·rw[e,ZS (show ¬(c::r).head? = some 48 from fun z=>hc (Option.some.inj z))]
  rfl
theorem rd_nat{m:Nat}(h:m<10^50):rdN (fg (m:Int))=some (m:Int):=by
 have hf:=fig_fg h
 have hv:=fg_val m
 have hd:=q486 m
 cases e:fg (m:Int) with
 | nil=>rw[e]at hf;cases hf
 | cons c r=>
  rw[e]at hf hv hd
  have hc:c≠45:=by
   have:=(hd c (ZQ ..)).1
   lia
  rw[q251]
  rw[ZJ hc,ZL hf,hv]
theorem rd_fg{n:Int}(h0:-(10^50)<n)(h1:n<10^50):rdN (fg n)=some n:=by
 by_cases c:0<=n
 ·obtain⟨m,rfl⟩:=Int.eq_ofNat_of_zero_le c
  exact rd_nat ∅
 ·obtain⟨m,hm⟩:∃ m:Nat,n = -((m+1:Nat):Int):=⟨(-n-1).toNat,∅⟩
  subst hm
  rw[fg_neg]
  have hf:=fig_fg (m:=m+1) ∅
  have hv:=fg_val (m+1)
  have hne:fg ((m+1:Nat):Int)≠[48]:=fun z=>by
   rw[z]at hv
   have:(0:Nat)=m+1:=hv
   lia
  rw[q251]
  rw[ZL rfl,ZL ⟨hf,hne⟩,hv]
theorem rd_int{x:Str}{n:Int}(h:rdN x.cps.toList=some n):PySem.intText? x=some n/\x.length<=51:=by
 have hx:x.length=x.cps.toList.length:=by simp[Str.length]
 cases e:x.cps.toList with
 | nil=>rw[e]at h;cases h
 | cons c r=>
  rw[e]at h hx
  rw[q251]at h
  by_cases c45:c=45
  ·subst c45
   rw[ZL rfl]at h
   by_cases z:figB r=true/\r≠[48]
   ·rw[ZL z]at h
    obtain⟨a,b,d⟩:=q545 z.1
    have hl:x.length<=51:=by rw[hx,WB];lia
    exact⟨(intText_neg e a b ∅).trans h,hl⟩
   ·rw[ZJ z]at h;cases h
  ·rw[ZJ c45]at h
   by_cases z:figB (c::r)=true
   ·rw[ZL z]at h
    obtain⟨a,b,d⟩:=q545 z
    have hl:x.length<=51:=by rw[hx];lia
    refine⟨(intText_digits (by rw[e];exact a) (by rw[e];exact b) ∅).trans ?_,hl⟩
    rw[e]
    exact h
   ·rw[ZJ z]at h;cases h
noncomputable def rowT(ns:List Int):Str:=Txt.join " " (ns.map tx)
theorem fg_no32{n:Int}:32 ∉ fg n:=by
 intro h
 by_cases c:0<=n
 ·obtain⟨m,rfl⟩:=Int.eq_ofNat_of_zero_le c
  have:=q486 m 32 h
  lia
 ·obtain⟨m,hm⟩:∃ m:Nat,n = -((m+1:Nat):Int):=⟨(-n-1).toNat,∅⟩
  subst hm
  rw[fg_neg]at h
  rcases List.mem_cons.mp h with h | h
  ·exact absurd h {}
  ·have:=q486 (m+1) 32 h
   lia
theorem q107(s x y:Str)(r:List Str):(Str.join s (x::y::r)).cps.toList=x.cps.toList++(s.cps.toList++(Str.join s (y::r)).cps.toList):=by
 rw[show Str.join s (x::y::r)=x++s++Str.join s (y::r)from rfl,PyProof.Rows.cps_toList_append,PyProof.Rows.cps_toList_append,YS]
theorem q603{c:Nat}:∀{a b u v:List Nat},c ∉ a->c ∉ b->a++c::u=b++c::v->a=b/\u=v
 | [],[],u,v,_,_,h=>⟨rfl,(List.cons.inj h).2⟩
 | [],y::b,u,v,_,hb,h=>absurd (by rw[(List.cons.inj h).1];exact ZQ ..) hb
 | x::a,[],u,v,ha,_,h=>absurd (by rw[<- (List.cons.inj h).1];exact ZQ ..) ha
 | x::a,y::b,u,v,ha,hb,h=>by
  obtain⟨h1,h2⟩:=List.cons.inj h
  obtain⟨e1,e2⟩:=q603 (fun z=>ha (ZU _ z)) (fun z=>hb (ZU _ z)) h2
  exact⟨by rw[h1,e1],e2⟩
theorem q487{c:Nat}:∀{xs ys:List Str},xs≠[]->ys≠[]->(∀ p∈xs,c ∉ p.cps.toList)->(∀ p∈ys,c ∉ p.cps.toList)->(Str.join ⟨#[c]⟩ xs).cps.toList=(Str.join ⟨#[c]⟩ ys).cps.toList->xs=ys
 | [],_,h,_,_,_,_=>absurd rfl h
 | _,[],_,h,_,_,_=>absurd rfl h
 | [x],[y],_,_,_,_,h=>by
  rw[q753 (x:=x) (y:=y) h]
 | [x],y::z::r,_,_,hx,_,h=>by
  rw[q107]at h
  exact absurd (show c∈x.cps.toList by
   have e:x.cps.toList=_:=h
   rw[e]
   simp) (hx x (ZQ ..))
 | x::z::r,[y],_,_,_,hy,h=>by
  rw[q107]at h
  exact absurd (show c∈y.cps.toList by
   have e:_=y.cps.toList:=h
   rw[<- e]
   simp) (hy y (ZQ ..))
 | x::x2::r,y::y2::q,_,_,hx,hy,h=>by
  rw[q107,q107]at h
  obtain⟨e1,e2⟩:=q603 (hx x (ZQ ..)) (hy y (ZQ ..)) (show x.cps.toList++c::_=y.cps.toList++c::_ from h)
  have ih:=q487 (xs:=x2::r) (ys:=y2::q) (by simp) (by simp) (fun p hp=>hx p (ZU _ hp)) (fun p hp=>hy p (ZU _ hp)) e2
  rw[q753 e1,ih]
theorem split_ne(x:Str)(c:Nat):Txt.split x ⟨#[c]⟩≠[]:=by
 unfold Txt.split
 split
 ·simp
 ·split
  ·simp
  ·rw[StrLaws.partsBetween_eq]
   obtain⟨p,r,e⟩:=StrLaws.partsFrom_ne x (⟨#[c]⟩:Str).length 0 (Builtin.Str.occurrences x ⟨#[c]⟩ 0 x.length (x.length+1))
   rw[e]
   simp
theorem q214{c:Nat}(h:xs≠[])(hf:∀ p∈xs,c ∉ p.cps.toList):Txt.split (Str.join ⟨#[c]⟩ xs) ⟨#[c]⟩=xs:=
 q487 (split_ne _ c) h (StrLaws.split_free _ c) hf (by rw[StrLaws.join_split])
theorem spc:(" " : Str)=⟨#[32]⟩:=by decide +kernel
end
def B01(l:List Int):Prop:=∀ m∈l,m=0\/m=1
abbrev S3:=Tr×Nat×Nat
noncomputable def trMs:Tr->List Int
 | .part ms _ _=>ms
 | _=>[]
noncomputable def isNo:Tr->Bool
 | .non=>true
 | _=>false
noncomputable def ld1(m:Int)(g:S3):S3:=if isNo (q52 g.1 m)=true then(.non,0,0) else(q52 g.1 m,((trMs g.1).take g.2.1).count m,((trMs g.1).take g.2.2).count m)
noncomputable def lds(ws:List Int)(g:S3):S3:=ws.foldl (fun g m=>ld1 m g) g
noncomputable def manyS(gs:List S3):Int:=(gs.map fun g=>(g.2.2:Int)-(g.2.1:Int)).sum
noncomputable def fil(gs:List S3):List S3:=gs.filter fun g=>decide (g.2.1<g.2.2)
theorem ld1_non(m:Int)(s e:Nat):ld1 m (.non,s,e)=(.non,0,0):=rfl
theorem q755:∀(ws:List Int),lds ws (.non,0,0)=(.non,0,0)
 | []=>rfl
 | w::ws=>by
  show lds ws (ld1 w (.non,0,0))=_
  rw[ld1_non,q755 ws]
theorem q191(w:Int)(ws:List Int)(g:S3):lds (w::ws) g=lds ws (ld1 w g):=rfl
theorem q546(w:Int):lds [w]=ld1 w:=rfl
theorem isNo_of(h:q50 H .non t):t = .non:=by
 cases t with
 | non=>rfl
 | many n=>obtain⟨a,z,_⟩:=h;cases z
 | part ms l r=>obtain⟨a,m,x,y,z,_⟩:=h;cases z
theorem q604(h:q50 H v t):(v = .non)↔isNo t=true:=by
 constructor
 ·intro z
  rw[z]at h
  rw[isNo_of h]
  rfl
 ·intro z
  cases t with
  | non=>exact h
  | many n=>cases z
  | part ms l r=>cases z
def StrAt(H:Hp)(v:V)(g:S3):Prop:=∃ t u,v = .ref t/\H t=some (.tup [u,.int (g.2.1:Int),.int (g.2.2:Int)])/\q50 H u g.1
def GatAt(H:Hp)(xs:List V)(gs:List S3):Prop:=xs.length=gs.length /\ ∀(j:Nat)(x:V)(g:S3),xs[j]? = some x->gs[j]? = some g->StrAt H x g
theorem StrAt.tk(h:StrAt H v g)(k:TKeep H H'):StrAt H' v g:=by
 obtain⟨t,u,e,h1,h2⟩:=h
 exact⟨t,u,e,(k _ _).1 h1,h2.tk k⟩
theorem GatAt.tk(h:GatAt H xs gs)(k:TKeep H H'):GatAt H' xs gs:=⟨h.1,fun j x g h1 h2=>(h.2 j x g h1 h2).tk k⟩
theorem GatAt.same(h:GatAt H xs gs)(s:Same H H'):GatAt H' xs gs:=h.tk (.same s)
theorem GatAt.nil(H:Hp):GatAt H [] []:=⟨rfl,fun j x g h1 _=>by simp at h1⟩
theorem q86{α:Type}{l:List α}{x y:α}{j:Nat}(h:(l++[x])[j]? = some y):(j<l.length/\l[j]? = some y)\/(j=l.length/\y=x):=by
 by_cases hj:j<l.length
 ·rw[WO hj]at h
  exact .inl ⟨hj,h⟩
 ·have hlt:j<(l++[x]).length:=(List.getElem?_eq_some_iff.mp h).1
  rw[ZM,length_singleton]at hlt
  have e:j=l.length:=∅
  subst e
  rw[WM (ZF _),Nat.sub_self]at h
  exact .inr ⟨rfl,(Option.some.inj h).symm⟩
theorem GatAt.snoc(h:GatAt H xs gs)(hx:StrAt H x g):GatAt H (xs++[x]) (gs++[g]):=by
 refine⟨by rw[ZM,ZM,h.1] <;> rfl,fun j y k h1 h2=>?_⟩
 have hl:=h.1
 rcases q86 h1 with ⟨a1,a2⟩ | ⟨a1,a2⟩
 ·rcases q86 h2 with ⟨b1,b2⟩ | ⟨b1,b2⟩
  ·exact h.2 j y k a2 b2
  ·exact(W110 a1 b1 hl).elim
 ·rcases q86 h2 with ⟨b1,b2⟩ | ⟨b1,b2⟩
  ·exact(W105 b1 a1 hl).elim
  ·rw[a2,b2];exact hx
theorem q301{ws:List Int}{i:Nat}(hi:(ws.map V.int)[i]? = some x):∃ t,ws[i]? = some t/\x = .int t:=by
 rw[WE]at hi
 cases e:ws[i]? with
 | none=>rw[e]at hi;cases hi
 | some m=>rw[e]at hi;exact⟨m,rfl,(Option.some.inj hi).symm⟩
theorem q302{l:List Int}{i:Nat}{m:Int}(h:l[i]? = some m):l.drop i=m::l.drop (i+1):=by
 obtain⟨h1,h2⟩:=List.getElem?_eq_some_iff.mp h
 rw[YT h1,h2]
noncomputable def q327(K:Fg):Sp:=fun vs H Q _=>∃(v:V)(wy:Addr)(ws:List Int)(g:S3),vs=[v,.ref wy]/\StrAt H v g/\SqT K H wy (ws.map V.int)/\B01 ws /\
 ∀(H':Hp)(v':V),Same H H'->StrAt H' v' (lds ws g)->Q v' H'
inductive q756(K:Fg)(vs:List V)(H:Hp)(Q:VK)(E:XK):Prop
 |mk(ga wy:Addr)(xs:List V)(ws:List Int)(gs:List S3)(_:vs=[.ref ga,.ref wy])(_:SqL K H ga xs)(_:GatAt H xs gs)(_:gs.length<=100)(_:SqT K H wy (ws.map V.int))(_:B01 ws)(_:∀(H':Hp)(D:Addr)(ys:List V),Same H H'->H' D=some (.lst ys)->H D=none->GatAt H' ys (gs.map (lds ws))->Q (.ref D) H')
inductive q358(K:Fg)(vs:List V)(H:Hp)(Q:VK)(E:XK):Prop
 |mk(ga:Addr)(xs:List V)(gs:List S3)(_:vs=[.ref ga])(_:SqL K H ga xs)(_:GatAt H xs gs)(_:gs.length<=100)(_:∀ H',Same H H'->Q (.int (manyS gs)) H')
inductive q488(K:Fg)(vs:List V)(H:Hp)(Q:VK)(E:XK):Prop
 |mk(ga:Addr)(xs:List V)(gs:List S3)(_:vs=[.ref ga])(_:SqL K H ga xs)(_:GatAt H xs gs)(_:gs.length<=100)(_:∀(H':Hp)(D:Addr)(ys:List V),Same H H'->H' D=some (.lst ys)->H D=none->GatAt H' ys (fil gs)->Q (.ref D) H')
theorem q547(gs:List S3):(fil gs).length<=gs.length:=length_filter_le _ _
theorem q56:z.C P w base 1 "many_in" ["gathering"] (q358 K):=by
 have sc:=q663
 refine z.d_many_in.cal fun f fd F=>F.k sc fun _ _ _ s H _ Q _ hr h=>?_
 obtain⟨ga,xs,gs,rfl,hga,hg,hl,q⟩:=h
 exists _,(q15 (q18 (q38 (q272 rfl) () z.sum_ q708 (q10 (q63 (cl:=[]) (cn:=[]) (N:=[]) (fr:=[]) (sc0:=q17 q279) rfl (q35 (pv 0)) (fun C s₂ H₂ fp=>(pe_op q76 (pix (q386 (K:=K) rfl) (pv 0) q14) (pix (q386 (K:=K) rfl) (pv 0) q14))) (by ac_rfl) trivial rfl rfl rfl cok rfl) q12))))
 have hxl:=hg.1
 refine⟨_,rfl,ga,rfl,⟨_,hga⟩,fun D hD=>?_⟩
 refine q67 (xs:=xs) (sz ∅) (fun i ys H2=>ys=(gs.take i).map (fun g=>V.int ((g.2.2:Int)-g.2.1))/\i<=gs.length/\H2=upd H D (.lst ys)) ⟨by simp,ZX _,rfl⟩ (fun i ys H2 ⟨_,_,e⟩=>by rw[e];exact(q16 hD _).seq hga)
  (fun i ys H2 ⟨e1,e2,e3⟩=>⟨by rw[e3];exact q13,by rw[e1,ZK,WL];lia⟩) ?_ ?_
 ·rintro i x ys H2 hx ⟨e1,e2,rfl⟩
  have hi:i<gs.length:=by rw[<- hxl];exact(List.getElem?_eq_some_iff.mp hx).1
  have gi:gs[i]? = some gs[i]:=ZP hi
  generalize gs[i]=g at gi
  obtain⟨t,u,rfl,ht,_⟩:=hg.2 i x g hx gi
  have ht':SqT K (upd H D (.lst ys)) t [u,.int (g.2.1:Int),.int (g.2.2:Int)]:=SqT.of (q16 hD _ _ _ ht)
  refine⟨_,rfl,t,_,_,_,rfl,rfl,ht',rfl,_,rfl,t,_,_,_,rfl,rfl,ht',rfl,_,_,rfl,rfl,q13,?_,(W73 hi hxl),by rw[q109]⟩
  rw[WK,gi,WF,<- e1]
  rfl
 ·rintro ys H2 ⟨e1,e2,rfl⟩
  rw[hxl,WS]at e1
  refine⟨D,gs.map (fun(g:S3)=>(g.2.2:Int)-(g.2.1:Int)),rfl,SqL.of ?_,q _ (q16 hD _)⟩
  rw[q13,e1,map_map]
  rfl
theorem q192:z.C P w base 1 "filled" ["gathering"] (q488 K):=by
 have sc:=q742
 refine z.d_filled.cal fun f fd F=>F.k sc fun _ _ _ s H _ Q _ hr h=>?_
 obtain⟨ga,xs,gs,rfl,hga,hg,hl,q⟩:=h
 exists _,(q15 (q18 (q83 (cl:=[]) (cn:=[]) (N:=[]) (fr:=[]) (sc0:=q17 q393) rfl (q35 (pv 0)) (fun C s₂ H₂ fp=>(pv 0)) (fun C s₂ H₂ fp=>(q19 op_lt (pix (q386 (K:=K) rfl) (pv 0) q14) (pix (q386 (K:=K) rfl) (pv 0) q14) (q21 _))) (by ac_rfl) trivial rfl rfl rfl cok rfl)))
 have hxl:=hg.1
 refine⟨_,rfl,ga,rfl,⟨_,hga⟩,fun D hD=>?_⟩
 refine q68 (K:=K) (xs:=xs) (sz ∅) (fun i ys H2=>H2=upd H D (.lst ys)/\ys.length<=i/\GatAt H ys (fil (gs.take i))) ⟨rfl,ZF _,GatAt.nil _⟩ (fun i ys H2 ⟨e,_⟩=>by rw[e];exact(q16 hD _).seq hga)
  (fun i ys H2 ⟨e,e2,_⟩=>⟨by rw[e];exact q13,e2⟩) ?_ ?_
 ·rintro i x ys H2 hx ⟨rfl,e2,e3⟩
  have hi:i<gs.length:=by rw[<- hxl];exact(List.getElem?_eq_some_iff.mp hx).1
  have gi:gs[i]? = some gs[i]:=ZP hi
  generalize gs[i]=g at gi
  have hsx:=hg.2 i x g hx gi
  obtain⟨t,u,rfl,ht,hu⟩:=id hsx
  have ht':SqT K (upd H D (.lst ys)) t [u,.int (g.2.1:Int),.int (g.2.2:Int)]:=SqT.of (q16 hD _ _ _ ht)
  exists _,rfl,t,_,_,_,rfl,rfl,ht',rfl,_,rfl,t,_,_,_,rfl,rfl,ht',rfl,_,_,rfl,rfl,_,rfl
  have et:fil (gs.take (i+1))=fil (gs.take i)++fil [g]:=by
   unfold fil
   rw[WK,gi,YW]
   rfl
  refine ite2 (fun c=>?_) (fun c=>?_)
  ·have c':=ZI c
   have ef:fil [g]=[g]:=by
    unfold fil
    rw[filter_cons,ZL (ZG (W100 c'))]
    rfl
   exists _,rfl,q13,by rw[q109],by rw[ZM];show _+1<=_;lia
   rw[et,ef]
   exact e3.snoc hsx
  ·have ef:fil [g]=[]:=by
    unfold fil
    rw[filter_cons,ZJ (fun z=>c (ZG (by have:=ZI z;exact W88 this)))]
    rfl
   exists _,∅,rfl,∅,rfl,(W25 e2)
   rw[et,ef,append_nil]
   exact e3
 ·rintro ys H2 ⟨rfl,e2,e3⟩
  rw[hxl,WS]at e3
  exact q _ D ys (q16 hD _) q13 hD (e3.same (q16 hD _))
theorem q154:z.C P w base 2 "led_stretch" pn15 (q327 K):=by
 have sc:=q317
 refine z.d_led_stretch.cal fun f fd F=>F.ok sc (by intro vs H Q E h;(repeat (first | obtain⟨rfl,_⟩:=h | obtain⟨_,h⟩:=h));rfl) fun _ _ _ s H _ Q _ hr h=>?_
 obtain⟨v,wy,ws,g,rfl,⟨t,u,rfl,ht,hu⟩,hw,h01,q⟩:=h
 refine⟨_,(q11 (pst 2 sc.nd (pix q30 (pv 0) q14))
 (q11 (pst 3 sc.nd (pix q30 (pv 0) q14))
 (q11 (pst 4 sc.nd (pix q30 (pv 0) q14))
 (q11 (q69 PassesOwn.never rfl (q257 (pv 1)) (pgn 5 sc.nd)
 (q11 (pst 6 sc.nd (pe_fn (q356 z) hr.m () (q10 (pv 2) (q10 (pv 5) q12))))
 (q11 (ps_if (q19 q433 (pv 6) q120 (q21 _))
 (q15 (q18 (q34 (q10 q120 (q10 q14 (q10 q14 q12))))))
 q20)
 (q11 (pst 3 sc.nd (pe_fn (q602 z) hr.m () (q10 (pix q30 (pv 2) q14) (q10 (pv 5) (q10 (pv 3) q12)))))
 (q11 (pst 4 sc.nd (pe_fn (q602 z) hr.m () (q10 (pix q30 (pv 2) q14) (q10 (pv 5) (q10 (pv 4) q12)))))
 (q15 (pst 2 sc.nd (pv 6))))))))
 (q15 (q18 (q34 (q10 (pv 2) (q10 (pv 3) (q10 (pv 4) q12)))))))))),?_⟩
 have htt:SqT K H t [u,.int (g.2.1:Int),.int (g.2.2:Int)]:=SqT.of ht
 exists _,rfl,t,_,_,_,rfl,rfl,htt,rfl,_,rfl,t,_,_,_,rfl,rfl,htt,rfl,_,rfl,t,_,_,_,rfl,rfl,htt,rfl
 refine⟨_,rfl,wy,rfl,⟨_,hw⟩,q373 (K:=K) (a:=wy) (xs:=ws.map V.int) (fun i σ H2=>∃(u':V)(g':S3)(v5 v6:Option V),σ=[some (.ref t),some (.ref wy),some u',some (.int (g'.2.1:Int)),some (.int (g'.2.2:Int)),v5,v6]/\Same H H2/\q50 H2 u' g'.1/\lds ws g=lds (ws.drop i) g')
  ⟨u,g,none,none,rfl,Same.refl H,hu,rfl⟩ (fun i σ H2 _ ⟨_,_,_,_,_,s2,_⟩=>s2.seqT hw) ?_ ?_⟩
 ·rintro i x σ H2 hi ⟨u',g',v5,v6,rfl,s2,hu',hled⟩
  obtain⟨wv,hwv,rfl⟩:=q301 hi
  have hw01:=h01 wv (ZV hwv)
  rw[q302 hwv,q191]at hled
  refine⟨_,rfl,_,rfl,u',_,wv,rfl,hu',hw01,fun u2 hu2=>?_⟩
  exists _,rfl,rfl,_,rfl
  refine ite2 (fun c=>?_) (fun c=>?_)
  ·have c':=(q604 hu2).mp (ZI c)
   have e1:ld1 wv g'=(.non,0,0):=by unfold ld1;rw[ZL c']
   rw[e1,q755]at hled
   refine⟨szb rfl,fun p hp=>q _ _ (s2.trans (q16 hp _)) ?_⟩
   rw[hled]
   exact⟨p,.non,rfl,q13,rfl⟩
  ·have c':¬ isNo (q52 g'.1 wv)=true:=fun z=>c (ZG ((q604 hu2).mpr z))
   have e1:ld1 wv g'=(q52 g'.1 wv,((trMs g'.1).take g'.2.1).count wv,((trMs g'.1).take g'.2.2).count wv):=by unfold ld1;rw[ZJ c']
   rw[e1]at hled
   obtain⟨ms,l,r,hpt⟩:∃ ms l r,g'.1 = .part ms l r:=by
    cases e:g'.1 with
    | non=>rw[e]at c';exact absurd rfl c'
    | many n=>rw[e]at c';exact absurd rfl c'
    | part ms l r=>exact⟨ms,l,r,rfl⟩
   have hu3:=hu'
   rw[hpt]at hu3
   obtain⟨a,m,x1,y1,rfl,ha,hm,_,_⟩:=hu3
   have hms:trMs g'.1=ms:=by rw[hpt];rfl
   rw[hms]at hled
   refine⟨_,rfl,a,_,_,_,rfl,rfl,SqT.of ha,rfl,_,rfl,_,rfl,m,ms,wv,g'.2.1,rfl,hm,fun H3 s3=>?_⟩
   refine⟨_,rfl,a,_,_,_,rfl,rfl,SqT.of (s3 _ _ ha),rfl,_,rfl,_,rfl,m,ms,wv,g'.2.2,rfl,hm.same s3,fun H4 s4=>?_⟩
   exact⟨_,rfl,u2,(q52 g'.1 wv,(ms.take g'.2.1).count wv,(ms.take g'.2.2).count wv),_,_,rfl,s2.trans (s3.trans s4),(hu2.same s3).same s4,hled⟩
 ·rintro σ H2 ⟨u',g',v5,v6,rfl,s2,hu',hled⟩
  rw[ZK,drop_length]at hled
  refine⟨_,rfl,_,rfl,_,rfl,szb rfl,fun p hp=>q _ _ (s2.trans (q16 hp _)) ?_⟩
  rw[hled]
  exact⟨p,u',rfl,q13,hu'.same (q16 hp _)⟩
theorem q226:z.C P w base 3 "led" pn11 (q756 K):=by
 have sc:=sc_led
 refine z.d_led.cal fun f fd F=>F.k sc fun _ _ _ s H _ Q _ hr h=>?_
 obtain⟨ga,wy,xs,ws,gs,rfl,hga,hg,hl,hw,h01,q⟩:=h
 exists _,(q15 (q18 (q63 (cl:=[("way", s.heap.objs.size+1+0)]) (cn:=["way"]) (N:=["way"]) (fr:=[1]) (sc0:=q17 s_led) rfl (q35 (pv 0)) (fun C s₂ H₂ fp=>(pe_fn (q154 z) hr.m () (q10 (pv 0) (q10 (pv 1) q12)))) (by ac_rfl) ⟨by ac_rfl,trivial⟩ rfl rfl rfl cok rfl)))
 have hxl:=hg.1
 refine⟨_,rfl,ga,rfl,⟨_,hga⟩,fun D hD=>?_⟩
 refine q67 (xs:=xs) (sz ∅) (fun i ys H2=>H2 D=some (.lst ys)/\ys.length=i/\Same H H2/\GatAt H2 ys ((gs.take i).map (lds ws))) ⟨q13,rfl,q16 hD _,GatAt.nil _⟩ (fun i ys H2 ⟨_,_,e,_⟩=>e.seq hga)
  (fun i ys H2 ⟨e1,e2,_,_⟩=>⟨e1,e2⟩) ?_ ?_
 ·rintro i x ys H2 hx ⟨e1,e2,s2,hg2⟩
  have hi:i<gs.length:=by rw[<- hxl];exact(List.getElem?_eq_some_iff.mp hx).1
  have gi:gs[i]? = some gs[i]:=ZP hi
  generalize gs[i]=g at gi
  refine⟨_,rfl,_,rfl,x,wy,ws,g,rfl,(hg.2 i x g hx gi).tk (.same s2),s2.seqT hw,h01,fun H3 v' s3 hv'=>?_⟩
  have e3:=s3 _ _ e1
  have tk:TKeep H3 (upd H3 D (.lst (ys++[v']))):=TKeep.set e3
  exists e3,q13,by rw[ZM,e2] <;> rfl,Same.own (s2.trans s3) hD
  rw[WK,gi,WF]
  exact((hg2.same s3).tk tk).snoc (hv'.tk tk)
 ·rintro ys H2 ⟨e1,e2,s2,hg2⟩
  rw[hxl,WS]at hg2
  exact q H2 D ys s2 e1 hD hg2
theorem b01_0:B01 [0]:=fun x hx=>by rw[List.mem_singleton.mp hx];exact .inl rfl
theorem b01_1:B01 [1]:=fun x hx=>by rw[List.mem_singleton.mp hx];exact .inr rfl
noncomputable def stS(p:Int×Int)(t:Int):Int×Int:=(if t=1 then p.1+p.2/2 else p.1,p.2/2)
noncomputable def spanS(low:Int)(L:Nat)(ws:List Int):Int×Int:=ws.foldl stS (low,2^L)
theorem q757{α:Type}{l:List α}{i:Nat}{x:α}(h:l[i]? = some x):l.take (i+1)=l.take i++[x]:=by rw[WK,h];rfl
theorem ints_get{ws:List Int}{i:Nat}(h:(ws.map V.int)[i]? = some x):∃ t,ws[i]? = some t/\x = .int t:=by
 rw[WE]at h
 cases e:ws[i]? with
 | none=>rw[e]at h;cases h
 | some t=>rw[e]at h;exact⟨t,rfl,(Option.some.inj h).symm⟩
theorem q193{α β:Type}{f:β->α->β}{b:β}{l:List α}{i:Nat}{x:α}(h:l[i]? = some x):(l.take (i+1)).foldl f b=f ((l.take i).foldl f b) x:=by
 rw[q757 h,foldl_append];rfl
inductive q359(K:Fg)(vs:List V)(H:Hp)(Q:VK)(E:XK):Prop
 |mk(b wy:Addr)(low:Int)(L:Nat)(ws:List Int)(_:vs=[.ref b,.ref wy])(_:SqT K H b [.int low,.int (L:Int)])(_:L<=40)(_:SqT K H wy (ws.map V.int))(_:∀ p,H p=none->Q (.ref p) (upd H p (.tup [.int (spanS low L ws).1,.int ((spanS low L ws).1+(spanS low L ws).2-1)])))
theorem q360:z.C P w base 2 "span_of" ["bounds", "way"] (q359 K):=by
 have sc:=q658
 refine z.d_span_of.cal fun f fd F=>F.k sc fun _ _ _ s H _ Q _ hr h=>?_
 obtain⟨b,wy,low,L,ws,rfl,hb,hL,hw,q⟩:=h
 refine⟨_,(q11 (pst 2 sc.nd (pix q30 (pv 0) q14))
 (q11 (pst 3 sc.nd (pe_fn (q55 z) hr.m () (q10 (pix q30 (pv 0) q14) q12)))
 (q11 (q69 PassesOwn.never rfl (q257 (pv 1)) (pgn 4 sc.nd)
 (q11 (pst 3 sc.nd (pe_op q112 (pv 3) q14))
 (q15 (ps_if (q19 op_eq (pv 4) q14 (q21 _))
 (q15 (pst 2 sc.nd (pe_op q48 (pv 2) (pv 3))))
 q20))))
 (q15 (q18 (q34 (q10 (pv 2) (q10 (pe_op q76 (pe_op q48 (pv 2) (pv 3)) q14) q12)))))))),?_⟩
 exists _,rfl,b,_,_,_,rfl,rfl,hb,rfl,_,rfl,b,_,_,_,rfl,rfl,hb,rfl,L,rfl,hL
 refine⟨_,rfl,wy,rfl,⟨_,hw⟩,q373 (K:=K) (a:=wy) (xs:=ws.map V.int) (fun i σ H2=>∃ v:Option V,σ=[some (.ref b),some (.ref wy),some (.int ((ws.take i).foldl stS (low,2^L)).1),some (.int ((ws.take i).foldl stS (low,2^L)).2),v]/\H2=H)
  ⟨none,rfl,rfl⟩ (fun i σ H2 _ ⟨_,_,e⟩=>by rw[e];exact hw) ?_ ?_⟩
 ·rintro i x σ H2 hi ⟨v,rfl,rfl⟩
  obtain⟨t,ht,rfl⟩:=ints_get hi
  exists _,rfl,_,_,rfl,rfl,⟨{},{}⟩
  exists _,rfl,rfl,_,rfl
  refine ite2 (fun c=>?_) (fun c=>?_)
  ·have c':t=1:=V.int.inj (ZI c)
   refine⟨_,rfl,_,rfl,_,_,rfl,rfl,some (.int t),?_,rfl⟩
   rw[q193 ht]
   unfold stS
   rw[ZL c']
   rfl
  ·have c':¬ t=1:=fun z=>c (by rw[z];exact ZG rfl)
   refine⟨some (.int t),?_,rfl⟩
   rw[q193 ht]
   unfold stS
   rw[ZJ c']
   rfl
 ·rintro σ H2 ⟨v,rfl,rfl⟩
  refine⟨_,rfl,_,rfl,_,rfl,_,_,rfl,rfl,_,_,rfl,rfl,szb rfl,fun p hp=>?_⟩
  have e:ws.take (ws.map V.int).length=ws:=by rw[ZK];exact WS
  have q':=q p hp
  unfold spanS at q'
  rw[<- e]at q'
  exact q'
noncomputable def mlS:List Int->List S3->Int
 | [],_=>0
 | w::ws,gs=>(if w=1 then manyS (gs.map (ld1 0))else 0)+mlS ws (gs.map (ld1 w))
noncomputable def tnS(gs:List S3)(k:Int):Int:=if k<manyS (gs.map (ld1 0))then 0 else 1
noncomputable def wnS:Nat->List S3->Int->List Int
 | 0,_,_=>[]
 | e+1,gs,k=>tnS gs k::wnS e (gs.map (ld1 (tnS gs k))) (k-tnS gs k*manyS (gs.map (ld1 0)))
noncomputable def beS(low:Int)(L:Nat)(gs:List S3)(n:Int):Int:=if n<low then 0 else if low+2^L-1<n then manyS gs else mlS (wayW L (n-low)) gs
noncomputable def cnS(low:Int)(L:Nat)(gs:List S3)(k:Int):Int×Int:=((spanS low L (wnS L gs k)).1,manyS (gs.map (lds (wnS L gs k))))
noncomputable def upS(low:Int)(L:Nat)(gs:List S3)(n:Int):Option (Int×Int):=if beS low L gs (n+1)=manyS gs then none else some (cnS low L gs (beS low L gs (n+1)))
noncomputable def dnS(low:Int)(L:Nat)(gs:List S3)(n:Int):Option (Int×Int):=if beS low L gs n-1<0 then none else some (cnS low L gs (beS low L gs n-1))
theorem tn01(gs:List S3)(k:Int):tnS gs k=0\/tnS gs k=1:=by
 unfold tnS
 split
 ·exact .inl rfl
 ·exact .inr rfl
theorem wn01:∀(e:Nat)(gs:List S3)(k:Int),B01 (wnS e gs k)
 | 0,_,_=>fun x hx=>by cases hx
 | e+1,gs,k=>fun x hx=>by
  rcases List.mem_cons.mp hx with rfl | hx
  ·exact tn01 gs k
  ·exact wn01 e _ _ x hx
def CtV(H:Hp)(v:V):Option (Int×Int)->Prop
 | none=>v = .non
 | some p=>∃ a,v = .ref a/\H a=some (.tup [.int p.1,.int p.2])
theorem b01_of{w:Int}(h:w=0\/w=1):B01 [w]:=fun x hx=>by rw[List.mem_singleton.mp hx];exact h
inductive q155(K:Fg)(vs:List V)(H:Hp)(Q:VK)(E:XK):Prop
 |mk(ga wy:Addr)(xs:List V)(ws:List Int)(gs:List S3)(_:vs=[.ref ga,.ref wy])(_:SqL K H ga xs)(_:GatAt H xs gs)(_:gs.length<=100)(_:SqT K H wy (ws.map V.int))(_:B01 ws)(_:∀ H',Same H H'->Q (.int (mlS ws gs)) H')
inductive q605(K:Fg)(vs:List V)(H:Hp)(Q:VK)(E:XK):Prop
 |mk(b ga:Addr)(xs:List V)(low n:Int)(L:Nat)(gs:List S3)(_:vs=[.ref b,.ref ga,.int n])(_:SqT K H b [.int low,.int (L:Int)])(_:L<=40)(_:SqL K H ga xs)(_:GatAt H xs gs)(_:gs.length<=100)(_:∀ H',Same H H'->Q (.int (beS low L gs n)) H')
inductive q361(K:Fg)(vs:List V)(H:Hp)(Q:VK)(E:XK):Prop
 |mk(b ga:Addr)(xs:List V)(low lo hi:Int)(L:Nat)(gs:List S3)(_:vs=[.ref b,.ref ga,.int lo,.int hi])(_:SqT K H b [.int low,.int (L:Int)])(_:L<=40)(_:SqL K H ga xs)(_:GatAt H xs gs)(_:gs.length<=100)(_:∀ H',Same H H'->Q (.int (if hi<lo then 0 else beS low L gs (hi+1)-beS low L gs lo)) H')
inductive q194(K:Fg)(vs:List V)(H:Hp)(Q:VK)(E:XK):Prop
 |mk(ga:Addr)(xs:List V)(L:Nat)(k:Int)(gs:List S3)(_:vs=[.int (L:Int),.ref ga,.int k])(_:L<=40)(_:H ga=some (.lst xs))(_:GatAt H xs gs)(_:gs.length<=100)(_:∀ t H',Same H H'->TupF H' t ((wnS L gs k).map V.int)->Q (.ref t) H')
inductive q156(K:Fg)(vs:List V)(H:Hp)(Q:VK)(E:XK):Prop
 |mk(b ga:Addr)(xs:List V)(low k:Int)(L:Nat)(gs:List S3)(_:vs=[.ref b,.ref ga,.int k])(_:SqT K H b [.int low,.int (L:Int)])(_:L<=40)(_:H ga=some (.lst xs))(_:GatAt H xs gs)(_:gs.length<=100)(_:∀ v H',Same H H'->CtV H' v (some (cnS low L gs k))->Q v H')
inductive q362(K:Fg)(vs:List V)(H:Hp)(Q:VK)(E:XK):Prop
 |mk(b ga:Addr)(xs:List V)(low n:Int)(L:Nat)(gs:List S3)(_:vs=[.ref b,.ref ga,.int n])(_:SqT K H b [.int low,.int (L:Int)])(_:L<=40)(_:H ga=some (.lst xs))(_:GatAt H xs gs)(_:gs.length<=100)(_:∀ v H',Same H H'->CtV H' v (upS low L gs n)->Q v H')
inductive q227(K:Fg)(vs:List V)(H:Hp)(Q:VK)(E:XK):Prop
 |mk(b ga:Addr)(xs:List V)(low n:Int)(L:Nat)(gs:List S3)(_:vs=[.ref b,.ref ga,.int n])(_:SqT K H b [.int low,.int (L:Int)])(_:L<=40)(_:H ga=some (.lst xs))(_:GatAt H xs gs)(_:gs.length<=100)(_:∀ v H',Same H H'->CtV H' v (dnS low L gs n)->Q v H')
theorem q157:z.C P w base 4 "many_lesser" pn11 (q155 K):=by
 have sc:=q318
 refine z.d_many_lesser.cal fun f fd F=>F.k sc fun _ _ _ s H _ Q _ hr h=>?_
 obtain⟨ga,wy,xs,ws,gs,rfl,hga,hg,hl,hwy,h01,q⟩:=h
 refine⟨_,(q11 (pst 2 sc.nd q14)
 (q11 (pst 3 sc.nd (pv 0))
 (q11 (q69 PassesOwn.never rfl (q257 (pv 1)) (pgn 4 sc.nd)
 (q11 (ps_if (q19 op_eq (pv 4) q14 (q21 _))
 (q15 (pst 2 sc.nd (pe_op q48 (pv 2) (pe_fn (q56 z) hr.m () (q10 (pe_fn (q226 z) hr.m () (q10 (pv 3) (q10 (q34 (q10 q14 q12)) q12))) q12)))))
 q20)
 (q15 (pst 3 sc.nd (pe_fn (q226 z) hr.m () (q10 (pv 3) (q10 (q34 (q10 (pv 4) q12)) q12)))))))
 (q15 (q18 (pv 2)))))),?_⟩
 exists _,rfl
 refine⟨_,rfl,wy,rfl,⟨_,hwy⟩,q373 (K:=K) (a:=wy) (xs:=ws.map V.int) (fun i σ H2=>∃(m:Int)(pa:Addr)(zs:List V)(gs':List S3)(v4:Option V),σ=[some (.ref ga),some (.ref wy),some (.int m),some (.ref pa),v4]/\Same H H2/\SqL K H2 pa zs/\GatAt H2 zs gs'/\gs'.length<=100/\mlS ws gs=m+mlS (ws.drop i) gs')
  ⟨0,ga,xs,gs,none,rfl,Same.refl H,hga,hg,hl,by rw[drop_zero,Int.zero_add]⟩ (fun i σ H2 _ ⟨_,_,_,_,_,_,s2,_⟩=>s2.seqT hwy) ?_ ?_⟩
 ·rintro i x σ H2 hi ⟨m,pa,zs,gs',v4,rfl,s2,hpa,hg',hl',hm⟩
  obtain⟨wv,hwv,rfl⟩:=q301 hi
  have hv01:=h01 wv (ZV hwv)
  rw[q302 hwv,mlS]at hm
  have fin:∀(m':Int)(H3:Hp),Same H2 H3->mlS ws gs=m'+mlS (ws.drop (i+1)) (gs'.map (ld1 wv)) -> ∀ w1,H3 w1=none->q756 K [.ref pa,.ref w1] (upd H3 w1 (.tup [V.int wv])) (fun v H4=>∃(m:Int)(pa:Addr)(zs:List V)(gs':List S3)(v4:Option V),[some (V.ref ga),some (.ref wy),some (.int m'),some v,some (.int wv)]=[some (.ref ga),some (.ref wy),some (.int m),some (.ref pa),v4]/\Same H H4/\SqL K H4 pa zs/\GatAt H4 zs gs'/\gs'.length<=100/\mlS ws gs=m+mlS (ws.drop (i+1)) gs') E0:=by
   intro m' H3 s3 hm' w1 hw1
   have s4:=s3.trans (q16 hw1 (.tup [V.int wv]))
   exact⟨pa,w1,zs,[wv],gs',rfl,s4.seq hpa,hg'.same s4,hl',SqT.of q13,b01_of hv01,fun H4 D4 z4 s5 hD4 hD4n hg4=>⟨m',D4,z4,_,_,rfl,s2.trans (s4.trans s5),SqL.of hD4,hg4,by rw[ZK];exact hl',hm'⟩⟩
  exists _,rfl,rfl,_,rfl
  refine ite2 (fun c=>?_) (fun c=>?_)
  ·have c':wv=1:=V.int.inj (ZI c)
   rw[ZL c']at hm
   refine⟨_,rfl,_,rfl,szb rfl,fun w0 hw0=>?_⟩
   have s3:=q16 hw0 (.tup [V.int 0])
   have hw0':upd H2 w0 (.tup [V.int 0]) w0=some (.tup [V.int 0]):=q13
   generalize upd H2 w0 (.tup [V.int 0])=H3 at *
   refine⟨pa,w0,zs,[0],gs',rfl,s3.seq hpa,hg'.same s3,hl',SqT.of hw0',b01_0,fun H4 D4 z4 s4 hD4 hD4n hg4=>?_⟩
   refine⟨D4,z4,_,rfl,SqL.of hD4,hg4,by rw[ZK];exact hl',fun H5 s5=>⟨_,_,rfl,rfl,?_⟩⟩
   rw[q546]
   exact⟨_,rfl,_,rfl,szb rfl,fin _ H5 ((s3.trans s4).trans s5) (by rw[hm];lia)⟩
  ·have c':¬ wv=1:=fun z=>c (ZG (by rw[z]))
   rw[ZJ c',Int.zero_add]at hm
   exact⟨_,rfl,_,rfl,szb rfl,fin _ H2 (Same.refl _) hm⟩
 ·rintro σ H2 ⟨m,pa,zs,gs',v4,rfl,s2,hpa,hg',hl',hm⟩
  rw[ZK,drop_length]at hm
  rw[hm,mlS,Int.add_zero]at q
  exact⟨_,rfl,q H2 s2⟩
theorem q195:z.C P w base 5 "below" pn0 (q605 K):=by
 have sc:=sc_below
 refine z.d_below.cal fun f fd F=>F.k sc fun _ _ _ s H _ Q _ hr h=>?_
 obtain⟨b,ga,xs,low,num,L,gs,rfl,hb,hL,hga,hg,hl,q⟩:=h
 refine⟨_,(q11 (pst 3 sc.nd (pe_fn (q400 z) hr.m () (q10 (pv 0) (q10 (pv 2) q12))))
 (q11 (ps_if (q19 op_eq (pv 3) q23 (q21 _))
 (q15 (q18 q14))
 q20)
 (q11 (ps_if (q19 op_eq (pv 3) q23 (q21 _))
 (q15 (q18 (pe_fn (q56 z) hr.m () (q10 (pv 1) q12))))
 q20)
 (q15 (q18 (pe_fn (q157 z) hr.m () (q10 (pv 1) (q10 (pe_fn (q752 z) hr.m () (q10 (pv 0) (q10 (pv 2) q12))) q12)))))))),?_⟩
 exists _,rfl,_,rfl,b,low,num,L,rfl,hb,hL
 unfold beS at q
 unfold q293
 by_cases c1:num<low
 ·rw[ZL c1]at q ⊢
  exact⟨_,rfl,rfl,_,rfl,ite2 (fun _=>q H (Same.refl H)) (fun c=>absurd (ZG rfl) c)⟩
 rw[ZJ c1]at q ⊢
 by_cases c2:low+2^L-1<num
 ·rw[ZL c2]at q ⊢
  refine⟨_,rfl,rfl,_,rfl,ite2 (fun c=>absurd (ZI c) {}) (fun _=>?_)⟩
  refine⟨_,rfl,rfl,_,rfl,ite2 (fun _=>?_) (fun c=>absurd (ZG rfl) c)⟩
  exact⟨_,rfl,ga,xs,gs,rfl,hga,hg,hl,q⟩
 rw[ZJ c2]at q ⊢
 refine⟨_,rfl,rfl,_,rfl,ite2 (fun c=>absurd (ZI c) {}) (fun _=>?_)⟩
 refine⟨_,rfl,rfl,_,rfl,ite2 (fun c=>absurd (ZI c) {}) (fun _=>?_)⟩
 refine⟨_,rfl,_,rfl,_,rfl,b,low,num,L,rfl,hb,hL,⟨(W20 c1),∅⟩,fun t H1 s1 ht=>?_⟩
 exact⟨ga,t,xs,_,gs,rfl,s1.seq hga,hg.same s1,hl,ht.sq,q402 L _,fun H2 s2=>q H2 (s1.trans s2)⟩
theorem q672:z.C P w base 6 "between" pn13 (q361 K):=by
 have sc:=q664
 refine z.d_between.cal fun f fd F=>F.k sc fun _ _ _ s H _ Q _ hr h=>?_
 obtain⟨b,ga,xs,low,lo,hi,L,gs,rfl,hb,hL,hga,hg,hl,q⟩:=h
 refine⟨_,(q11 (ps_if (q19 op_gt (pv 2) (pv 3) (q21 _))
 (q15 (q18 q14))
 q20)
 (q15 (q18 (pe_op q76 (pe_fn (q195 z) hr.m () (q10 (pv 0) (q10 (pv 1) (q10 (pe_op q48 (pv 3) q14) q12)))) (pe_fn (q195 z) hr.m () (q10 (pv 0) (q10 (pv 1) (q10 (pv 2) q12)))))))),?_⟩
 exists _,rfl,_,rfl,_,_,rfl,rfl,_,rfl
 refine ite2 (fun c=>?_) (fun c=>?_)
 ·rw[ZL (ZI c)]at q
  exact q H (Same.refl H)
 ·rw[ZJ (fun z=>c (ZG z))]at q
  refine⟨_,rfl,_,rfl,_,rfl,_,_,rfl,rfl,b,ga,xs,low,hi+1,L,gs,rfl,hb,hL,hga,hg,hl,fun H1 s1=>?_⟩
  exact⟨_,rfl,_,rfl,_,rfl,b,ga,xs,low,lo,L,gs,rfl,s1.seqT hb,hL,s1.seq hga,hg.same s1,hl,fun H2 s2=>⟨_,_,rfl,rfl,q H2 (s1.trans s2)⟩⟩
theorem q196:z.C P w base 4 "way_of_nth" ["levels", "gathering", "k"] (q194 K):=by
 have sc:=q394
 refine z.d_way_of_nth.cal fun f fd F=>F.k sc fun _ _ _ s H _ Q _ hr h=>?_
 obtain⟨ga,xs,L,k,gs,rfl,hL,hga,hg,hl,q⟩:=h
 refine⟨_,(q11 (pst 3 sc.nd (q40 q12))
 (q11 (pst 4 sc.nd (pv 1))
 (q11 (pst 5 sc.nd (pv 2))
 (q11 (q69 PassesOwn.never rfl (q47 rfl z.range_ (q10 (pv 0) q12)) (pgn 6 sc.nd)
 (q11 (pst 7 sc.nd (pe_fn (q56 z) hr.m () (q10 (pe_fn (q226 z) hr.m () (q10 (pv 4) (q10 (q34 (q10 q14 q12)) q12))) q12)))
 (q11 (pst 8 sc.nd (q142 (q19 op_lt (pv 5) (pv 7) (q21 _)) q14 q14))
 (q11 (pst 5 sc.nd (pe_op q76 (pv 5) (pe_op q128 (pv 8) (pv 7))))
 (q11 (pst 4 sc.nd (pe_fn (q226 z) hr.m () (q10 (pv 4) (q10 (q34 (q10 (pv 8) q12)) q12))))
 (q15 (q97 (pe_bm YF YM YN q71 (pv 3) (q10 (pv 8) q12)))))))))
 (q15 (q18 (q29 q167 () z.tuple_ q247 (q10 (pv 3) q12)))))))),?_⟩
 refine⟨szb rfl,fun wl hwl=>?_⟩
 have s1:=q16 hwl (.lst [])
 have hwl1:=@q13 H wl (.lst [])
 generalize upd H wl (.lst [])=H1 at *
 have hgw:ga≠wl:=fun z=>by rw[z,hwl]at hga;cases hga
 refine⟨_,rfl,_,rfl,_,rfl,(L:Int),rfl,(W118 hL),(W155 hL),q70 (n:=L) (fun i σ H2=>∃(pa:Addr)(zs:List V)(gs':List S3)(k':Int)(ws:List Int)(v6 v7 v8:Option V),σ=[some (.int (L:Int)),some (.ref ga),some (.int k),some (.ref wl),some (.ref pa),some (.int k'),v6,v7,v8]/\Same H H2/\H2 wl=some (.lst (ws.map V.int))/\ws.length=i/\H2 pa=some (.lst zs)/\GatAt H2 zs gs'/\gs'.length<=100/\pa≠wl /\
   wnS L gs k=ws++wnS (L-i) gs' k') ⟨ga,xs,gs,k,[],none,none,none,rfl,s1,hwl1,rfl,s1 _ _ hga,hg.same s1,hl,hgw,rfl⟩ ?_ ?_⟩
 ·rintro i σ H2 hi ⟨pa,zs,gs',k',ws,v6,v7,v8,rfl,s2,hwl2,hwsl,hpa,hg',hl',hpw,hway⟩
  obtain⟨e,he⟩:∃ e,L-i=e+1:=⟨L-i-1,(W6 hwsl hi)⟩
  have he2:L-(i+1)=e:=(W26 hwsl hi he)
  rw[he,wnS]at hway
  refine⟨_,rfl,szb rfl,fun w0 hw0=>?_⟩
  have s3:=q16 hw0 (.tup [V.int 0])
  have hw0':upd H2 w0 (.tup [V.int 0]) w0=some (.tup [V.int 0]):=q13
  generalize upd H2 w0 (.tup [V.int 0])=H3 at *
  refine⟨pa,w0,zs,[0],gs',rfl,SqL.of (s3 _ _ hpa),hg'.same s3,hl',SqT.of hw0',b01_0,fun H4 D4 z4 s4 hD4 hD4n hg4=>?_⟩
  refine⟨D4,z4,_,rfl,SqL.of hD4,hg4,by rw[ZK];exact hl',fun H5 s5=>?_⟩
  rw[q546]
  have s25:=(s3.trans s4).trans s5
  have key:∀(t:Int),t=tnS gs' k' -> ∀(D7:Addr)(z7:List V)(H7:Hp),Same H2 H7->H7 D7=some (.lst z7)->D7≠wl->GatAt H7 z7 (gs'.map (ld1 t)) ->
    ∃(pa:Addr)(zs:List V)(gs2:List S3)(k2:Int)(ws2:List Int)(v6 v7 v8:Option V),[some (V.int (L:Int)),some (.ref ga),some (.int k),some (.ref wl),some (.ref D7),some (.int (k'-t*manyS (gs'.map (ld1 0)))),some (.int (0+(i:Int))),some (.int (manyS (gs'.map (ld1 0)))),some (.int t)]=[some (.int (L:Int)),some (.ref ga),some (.int k),some (.ref wl),some (.ref pa),some (.int k2),v6,v7,v8] /\
     Same H (upd H7 wl (.lst (ws.map V.int++[V.int t])))/\upd H7 wl (.lst (ws.map V.int++[V.int t])) wl=some (.lst (ws2.map V.int))/\ws2.length=i+1/\upd H7 wl (.lst (ws.map V.int++[V.int t])) pa=some (.lst zs)/\GatAt (upd H7 wl (.lst (ws.map V.int++[V.int t]))) zs gs2/\gs2.length<=100/\pa≠wl/\wnS L gs k=ws2++wnS (L-(i+1)) gs2 k2:=by
   intro t ht D7 z7 H7 s7 hD7 hn hg7
   have hwl7:=s7 _ _ hwl2
   have tk:TKeep H7 (upd H7 wl (.lst (ws.map V.int++[V.int t]))):=.set hwl7
   exists D7,z7,gs'.map (ld1 t),_,ws++[t],_,_,_,rfl,Same.own (s2.trans s7) hwl,by rw[q13,WF];rfl,by rw[ZM,hwsl];rfl,by rw[q28 hn];exact hD7,hg7.tk tk,by rw[ZK];exact hl',hn
   rw[hway,he2,ht,YS]
   rfl
  exists _,rfl,_,rfl,_,_,rfl,rfl,_,rfl
  refine ite2 (fun c=>?_) (fun c=>?_)
  ·have ht:0=tnS gs' k':=by unfold tnS;rw[ZL (ZI c)]
   exists _,rfl,_,rfl,_,rfl,_,_,rfl,rfl,.inl ⟨{},{}⟩,_,_,rfl,rfl
   refine⟨_,rfl,_,rfl,szb rfl,fun w1 hw1=>?_⟩
   have s6:=s25.trans (q16 hw1 (.tup [V.int 0]))
   refine⟨pa,w1,zs,[0],gs',rfl,SqL.of (s6 _ _ hpa),hg'.same s6,hl',SqT.of q13,b01_0,fun H7 D7 z7 s7 hD7 hD7n hg7=>?_⟩
   have s27:=s6.trans s7
   have hwl7:=s27 _ _ hwl2
   exists _,rfl,.inl ⟨rfl,_,SqL.of hwl7⟩,_,rfl,wl,_,_,rfl,rfl,hwl7,by rw[ZK];exact q64 (W173 hwsl hi hL)
   exact key 0 ht D7 z7 H7 s27 hD7 (fun z=>by rw[z,s6 _ _ hwl2]at hD7n;cases hD7n) hg7
  ·have ht:1=tnS gs' k':=by unfold tnS;rw[ZJ (fun z=>c (ZG z))]
   exists _,rfl,_,rfl,_,rfl,_,_,rfl,rfl,.inl ⟨{},{}⟩,_,_,rfl,rfl
   refine⟨_,rfl,_,rfl,szb rfl,fun w1 hw1=>?_⟩
   have s6:=s25.trans (q16 hw1 (.tup [V.int 1]))
   refine⟨pa,w1,zs,[1],gs',rfl,SqL.of (s6 _ _ hpa),hg'.same s6,hl',SqT.of q13,b01_1,fun H7 D7 z7 s7 hD7 hD7n hg7=>?_⟩
   have s27:=s6.trans s7
   have hwl7:=s27 _ _ hwl2
   exists _,rfl,.inl ⟨rfl,_,SqL.of hwl7⟩,_,rfl,wl,_,_,rfl,rfl,hwl7,by rw[ZK];exact q64 ∅
   exact key 1 ht D7 z7 H7 s27 hD7 (fun z=>by rw[z,s6 _ _ hwl2]at hD7n;cases hD7n) hg7
 ·rintro σ H2 ⟨pa,zs,gs',k',ws,v6,v7,v8,rfl,s2,hwl2,hwsl,hpa,hg',hl',hpw,hway⟩
  rw[Nat.sub_self,wnS,append_nil]at hway
  rw[hway]at q
  exact⟨_,rfl,wl,_,rfl,SqL.of hwl2,fun t H' s' ht=>q t H' (s2.trans s') ht⟩
theorem q158:z.C P w base 5 "counted_nth" pn2 (q156 K):=by
 have sc:=q319
 refine z.d_counted_nth.cal fun f fd F=>F.k sc fun _ _ _ s H _ Q _ hr h=>?_
 obtain⟨b,ga,xs,low,k,L,gs,rfl,hb,hL,hga,hg,hl,q⟩:=h
 refine⟨_,(q11 (pst 3 sc.nd (pe_fn (q196 z) hr.m () (q10 (pix q30 (pv 0) q14) (q10 (pv 1) (q10 (pv 2) q12)))))
 (q15 (q18 (q34 (q10 (pix q30 (pe_fn (q360 z) hr.m () (q10 (pv 0) (q10 (pv 3) q12))) q14) (q10 (pe_fn (q56 z) hr.m () (q10 (pe_fn (q226 z) hr.m () (q10 (pv 1) (q10 (pv 3) q12))) q12)) q12)))))),?_⟩
 refine⟨_,rfl,b,_,_,_,rfl,rfl,hb,rfl,_,rfl,_,rfl,ga,xs,L,k,gs,rfl,hL,hga,hg,hl,fun t H1 s1 ht=>?_⟩
 refine⟨_,rfl,_,rfl,b,t,low,L,_,rfl,s1.seqT hb,hL,ht.sq,fun p hp=>?_⟩
 have s02:∀ o,Same H (upd H1 p o):=fun o=>s1.trans (q16 hp o)
 exists p,_,_,_,rfl,rfl,SqT.of q13,rfl
 refine⟨_,rfl,_,rfl,ga,t,xs,_,gs,rfl,SqL.of (s02 _ _ _ hga),hg.same (s02 _),hl,(ht.same (q16 hp _)).sq,wn01 L gs k,fun H3 D3 z3 s3 hD3 _ hg3=>?_⟩
 refine⟨D3,z3,_,rfl,SqL.of hD3,hg3,by rw[ZK];exact hl,fun H4 s4=>?_⟩
 exact⟨szb rfl,fun v hv=>q _ _ ((((s02 _).trans s3).trans s4).trans (q16 hv _)) ⟨v,rfl,q13⟩⟩
theorem q673:z.C P w base 6 "next_up" pn0 (q362 K):=by
 have sc:=q665
 refine z.d_next_up.cal fun f fd F=>F.k sc fun _ _ _ s H _ Q _ hr h=>?_
 obtain⟨b,ga,xs,low,num,L,gs,rfl,hb,hL,hga,hg,hl,q⟩:=h
 refine⟨_,(q11 (pst 3 sc.nd (pe_fn (q195 z) hr.m () (q10 (pv 0) (q10 (pv 1) (q10 (pe_op q48 (pv 2) q14) q12)))))
 (q11 (ps_if (q19 op_eq (pv 3) (pe_fn (q56 z) hr.m () (q10 (pv 1) q12)) (q21 _))
 (q15 (q18 q120))
 q20)
 (q15 (q18 (pe_fn (q158 z) hr.m () (q10 (pv 0) (q10 (pv 1) (q10 (pv 3) q12)))))))),?_⟩
 refine⟨_,rfl,_,rfl,_,rfl,_,_,rfl,rfl,b,ga,xs,low,num+1,L,gs,rfl,hb,hL,SqL.of hga,hg,hl,fun H1 s1=>?_⟩
 refine⟨_,rfl,_,rfl,ga,xs,gs,rfl,SqL.of (s1 _ _ hga),hg.same s1,hl,fun H2 s2=>?_⟩
 exists rfl,_,rfl
 unfold upS at q
 have s02:=s1.trans s2
 refine ite2 (fun c=>?_) (fun c=>?_)
 ·rw[ZL (V.int.inj (ZI c))]at q
  exact q .non H2 s02 rfl
 ·rw[ZJ (fun z=>c (ZG (congrArg V.int z)))]at q
  exact⟨_,rfl,_,rfl,_,rfl,b,ga,xs,low,_,L,gs,rfl,s02.seqT hb,hL,s02 _ _ hga,hg.same s02,hl,fun v H3 s3 hv=>q v H3 (s02.trans s3) hv⟩
theorem q489:z.C P w base 6 "next_down" pn0 (q227 K):=by
 have sc:=q472
 refine z.d_next_down.cal fun f fd F=>F.k sc fun _ _ _ s H _ Q _ hr h=>?_
 obtain⟨b,ga,xs,low,num,L,gs,rfl,hb,hL,hga,hg,hl,q⟩:=h
 refine⟨_,(q11 (pst 3 sc.nd (pe_op q76 (pe_fn (q195 z) hr.m () (q10 (pv 0) (q10 (pv 1) (q10 (pv 2) q12)))) q14))
 (q11 (ps_if (q19 op_lt (pv 3) q14 (q21 _))
 (q15 (q18 q120))
 q20)
 (q15 (q18 (pe_fn (q158 z) hr.m () (q10 (pv 0) (q10 (pv 1) (q10 (pv 3) q12)))))))),?_⟩
 refine⟨_,rfl,_,rfl,_,rfl,b,ga,xs,low,num,L,gs,rfl,hb,hL,SqL.of hga,hg,hl,fun H1 s1=>⟨_,_,rfl,rfl,?_⟩⟩
 exists _,rfl,_,_,rfl,rfl,_,rfl
 unfold dnS at q
 refine ite2 (fun c=>?_) (fun c=>?_)
 ·rw[ZL (ZI c)]at q
  exact q .non H1 s1 rfl
 ·rw[ZJ (fun z=>c (ZG z))]at q
  exact⟨_,rfl,_,rfl,_,rfl,b,ga,xs,low,_,L,gs,rfl,s1.seqT hb,hL,s1 _ _ hga,hg.same s1,hl,fun v H3 s3 hv=>q v H3 (s1.trans s3) hv⟩
noncomputable def wfT:Nat->Tr->Prop
 | _,.non=>True
 | 0,.many n=>0<=n
 | _+1,.many _=>False
 | 0,.part _ _ _=>False
 | e+1,.part ms l r=>B01 ms/\q46 l=(ms.count 0:Nat)/\q46 r=(ms.count 1:Nat)/\wfT e l/\wfT e r
theorem q606(e:Nat):wfT e .non:=by cases e <;> trivial
noncomputable def GoodS(e:Nat)(g:S3):Prop:=wfT e g.1/\g.2.1<=g.2.2/\(g.2.2:Int)<=q46 g.1
noncomputable def lenS(g:S3):Int:=(g.2.2:Int)-(g.2.1:Int)
theorem cnt01:∀{ms:List Int},B01 ms->ms.count 0+ms.count 1=ms.length
 | [],_=>rfl
 | m::ms,h=>by
  have ih:=cnt01 (ms:=ms) fun x hx=>h x (ZU _ hx)
  rw[count_cons,count_cons,WB]
  rcases h m (ZQ ..)with rfl | rfl
  ·simp;lia
  ·simp;lia
theorem cnt_t(ms:List Int)(m:Int)(k:Nat):(ms.take k).count m<=ms.count m:=List.Sublist.count_le m (take_sublist _ _)
theorem cnt_tt(ms:List Int)(m:Int){j k:Nat}(h:j<=k):(ms.take j).count m<=(ms.take k).count m:=by
 have:=cnt_t (ms.take k) m j
 rwa [take_take,YH h]at this
theorem q406{e:Nat}{ms:List Int}{s k:Nat}{m:Int}(hm:m=0\/m=1)(h:GoodS (e+1) (.part ms l r,s,k)) :
  GoodS e (ld1 m (.part ms l r,s,k))/\lenS (ld1 m (.part ms l r,s,k))=((ms.take k).count m:Nat)-((ms.take s).count m:Nat)/\(ld1 m (.part ms l r,s,k)).1=q52 (.part ms l r) m/\(ld1 m (.part ms l r,s,k)).2.1=(ms.take s).count m:=by
 obtain⟨⟨b,h0,h1,hl,hr⟩,hs,hk⟩:=h
 have hh:wfT e (q52 (.part ms l r) m)/\q46 (q52 (.part ms l r) m)=(ms.count m:Nat):=by
  rcases hm with rfl | rfl
  ·exact⟨hl,h0⟩
  ·exact⟨hr,h1⟩
 have ck:=cnt_t ms m k
 have cs:=cnt_t ms m s
 have c:=cnt_tt ms m hs
 unfold ld1
 dsimp only
 by_cases z:isNo (q52 (.part ms l r) m)=true
 ·have e0:q52 (.part ms l r) m = .non:=by
   cases q:q52 (.part ms l r) m with
   | non=>rfl
   | many n=>rw[q]at z;cases z
   | part _ _ _=>rw[q]at z;cases z
  have z0:ms.count m=0:=by
   have:=hh.2
   rw[e0]at this
   have:(0:Int)=(ms.count m:Nat):=this
   lia
  rw[ZL z,e0]
  exact⟨⟨q606 e,ZF _,WU _⟩,by show(0:Int)-0=_;lia,rfl,by show 0=_;lia⟩
 ·rw[ZJ z]
  refine⟨⟨hh.1,c,?_⟩,rfl,rfl,rfl⟩
  rw[hh.2]
  show(((ms.take k).count m:Nat):Int)<=_
  exact W93 ck
theorem q81{e:Nat}{m:Int}(hm:m=0\/m=1)(h:GoodS (e+1) g):GoodS e (ld1 m g):=by
 obtain⟨t,s,k⟩:=g
 cases t with
 | non=>exact⟨q606 e,ZF _,WU _⟩
 | many n=>exact h.1.elim
 | part ms l r=>exact(q406 hm h).1
theorem q548{e:Nat}(h:GoodS (e+1) g):lenS (ld1 0 g)+lenS (ld1 1 g)=lenS g:=by
 obtain⟨t,s,k⟩:=g
 cases t with
 | non=>
  obtain⟨_,hs,hk⟩:=h
  have hk':(k:Int)<=0:=hk
  have hs':s<=k:=hs
  show(0:Int)-0+(0-0)=(k:Int)-(s:Int)
  lia
 | many n=>exact h.1.elim
 | part ms l r=>
  have b:=h.1.1
  have hk:(k:Int)<=(ms.length:Int):=h.2.2
  have hs:s<=k:=h.2.1
  rw[(q406 (.inl rfl) h).2.1,(q406 (.inr rfl) h).2.1]
  have f:∀ j,j<=k->(ms.take j).count 0+(ms.take j).count 1=j:=fun j hj=>by
   rw[cnt01 fun x hx=>b x (YG hx),WL]
   lia
  have f1:=f k (ZF _)
  have f2:=f s hs
  show _=(k:Int)-(s:Int)
  lia
theorem q37(g:S3)(gs:List S3):manyS (g::gs)=lenS g+manyS gs:=rfl
theorem q228{e:Nat}(h:GoodS e g):0<=lenS g:=by
 have:=h.2.1
 unfold lenS
 lia
theorem q66{e:Nat}:∀{gs:List S3},(∀ g∈gs,GoodS e g)->0<=manyS gs
 | [],_=>WU _
 | g::gs,h=>by
  have:=q228 (h g (ZQ ..))
  have:=q66 (gs:=gs) fun x hx=>h x (ZU _ hx)
  rw[q37]
  lia
theorem q145{e:Nat}:∀{gs:List S3},(∀ g∈gs,GoodS (e+1) g)->manyS (gs.map (ld1 0))+manyS (gs.map (ld1 1))=manyS gs
 | [],_=>rfl
 | g::gs,h=>by
  have:=q548 (h g (ZQ ..))
  have:=q145 (gs:=gs) fun x hx=>h x (ZU _ hx)
  rw[YA,YA,q37,q37,q37]
  lia
theorem q82{e:Nat}:∀{gs:List S3},(∀ g∈gs,GoodS e g)->manyS (fil gs)=manyS gs
 | [],_=>rfl
 | g::gs,h=>by
  have h1:=h g (ZQ ..)
  have ih:=q82 (gs:=gs) fun x hx=>h x (ZU _ hx)
  unfold fil at ih ⊢
  rw[filter_cons]
  by_cases c:g.2.1<g.2.2
  ·rw[ZL (ZG c),q37,q37,ih]
  ·rw[ZJ (fun z=>c (ZI z)),q37,ih]
   have:=h1.2.1
   unfold lenS
   lia
theorem q53{e:Nat}{gs:List S3}{m:Int}(hm:m=0\/m=1)(h:∀ g∈gs,GoodS (e+1) g):∀ g∈gs.map (ld1 m),GoodS e g:=fun g hg=>by
 obtain⟨x,hx,rfl⟩:=List.mem_map.mp hg
 exact q81 hm (h x hx)
theorem q73{e:Nat}(h:∀ g∈gs,GoodS e g):∀ g∈fil gs,GoodS e g:=fun g hg=>h g (List.mem_filter.mp hg).1
noncomputable def caS(part fl:Int):Nat->Int->List S3->List (Int×Int)
 | 0,low,gs=>if manyS gs*part<=fl then[] else[(low,manyS gs)]
 | e+1,low,gs=>if manyS gs*part<=fl then[]else caS part fl e low (fil (gs.map (ld1 0)))++caS part fl e (low+2^e) (fil (gs.map (ld1 1)))
theorem q607{part fl:Int}(hp:0<=part)(hf:0<=fl):∀{e:Nat}{low:Int}{gs:List S3},(∀ g∈gs,GoodS e g)->((caS part fl e low gs).length:Int)<=manyS gs
 | 0,low,gs,h=>by
  have h0:=q66 h
  unfold caS
  by_cases c:manyS gs*part<=fl
  ·rw[ZL c];exact h0
  ·rw[ZJ c]
   show(1:Int)<=_
   apply Classical.byContradiction
   intro z
   have z0:manyS gs=0:=∅
   rw[z0,Int.zero_mul]at c
   exact c hf
 | e+1,low,gs,h=>by
  have h0:=q66 h
  unfold caS
  by_cases c:manyS gs*part<=fl
  ·rw[ZL c];exact h0
  ·rw[ZJ c,ZM]
   have g0:=q53 (.inl rfl) h
   have g1:=q53 (.inr rfl) h
   have i0:=q607 hp hf (low:=low) (q73 g0)
   have i1:=q607 hp hf (low:=low+2^e) (q73 g1)
   rw[q82 g0]at i0
   rw[q82 g1]at i1
   have:=q145 h
   lia
def PsAt(H:Hp)(xs:List V)(ps:List (Int×Int)):Prop:=xs.length=ps.length /\ ∀(j:Nat)(x:V)(p:Int×Int),xs[j]? = some x->ps[j]? = some p->CtV H x (some p)
theorem CtV.tk(h:CtV H v o)(k:TKeep H H'):CtV H' v o:=by
 cases o with
 | none=>exact h
 | some p=>obtain⟨a,e,h1⟩:=h;exact⟨a,e,(k _ _).1 h1⟩
theorem PsAt.same(h:PsAt H xs ps)(s:Same H H'):PsAt H' xs ps:=⟨h.1,fun j x p h1 h2=>(h.2 j x p h1 h2).tk (.same s)⟩
theorem PsAt.get(h:PsAt H xs ps){j:Nat}(hx:xs[j]? = some x):∃ p,ps[j]? = some p/\CtV H x (some p):=by
 have hj:=(List.getElem?_eq_some_iff.mp hx).1
 have e:ps[j]? = some (ps[j]'(by rw[<- h.1];exact hj)):=ZP _
 exact⟨_,e,h.2 j x _ hx e⟩
theorem PsAt.app(h:PsAt H xs ps)(h':PsAt H ys qs):PsAt H (xs++ys) (ps++qs):=by
 refine⟨by rw[ZM,ZM,h.1,h'.1],fun j x p h1 h2=>?_⟩
 have hl:=h.1
 by_cases c:j<xs.length
 ·rw[WO c]at h1
  rw[WO (W39 c hl)]at h2
  exact h.2 j x p h1 h2
 ·rw[WM (W178 hl c)]at h1
  rw[WM (W175 hl c),<- hl]at h2
  exact h'.2 _ x p h1 h2
abbrev q43:Nat:=3
abbrev q123:Nat:=40
inductive q79(K:Fg)(e:Nat)(vs:List V)(H:Hp)(Q:VK)(E:XK):Prop
 |mk(least part floor:Int)(pa:Addr)(xs:List V)(gs:List S3)(_:vs=[.int least,.int (2^e),.ref pa,.int part,.int floor])(_:SqL K H pa xs)(_:GatAt H xs gs)(_:(∀ g∈gs,GoodS e g))(_:gs.length<=100)(_:manyS gs<=900)(_:0<=part)(_:part<=1000)(_:0<=floor)(_:∀(H':Hp)(D:Addr)(ys:List V),Same H H'->H' D=some (.lst ys)->H D=none->PsAt H' ys (caS part floor e least gs)->Q (.ref D) H')
def q243(K:Fg):Sp:=fun vs H Q E=>∃ e,e<=q123/\q79 K e vs H Q E
inductive q229(K:Fg)(vs:List V)(H:Hp)(Q:VK)(E:XK):Prop
 |mk(b ga:Addr)(xs:List V)(low:Int)(L:Nat)(gs:List S3)(_:vs=[.ref b,.ref ga])(_:SqT K H b [.int low,.int (L:Int)])(_:L<=40)(_:SqL K H ga xs)(_:GatAt H xs gs)(_:(∀ g∈gs,GoodS L g))(_:gs.length<=100)(_:manyS gs<=900)(_:∀(H':Hp)(D:Addr)(ys:List V),Same H H'->H' D=some (.lst ys)->H D=none->PsAt H' ys (caS 1 0 L low (fil gs))->Q (.ref D) H')
inductive q608(K:Fg)(vs:List V)(H:Hp)(Q:VK)(E:XK):Prop
 |mk(b ga:Addr)(xs:List V)(low part:Int)(L:Nat)(gs:List S3)(_:vs=[.ref b,.ref ga,.int part])(_:SqT K H b [.int low,.int (L:Int)])(_:L<=40)(_:SqL K H ga xs)(_:GatAt H xs gs)(_:(∀ g∈gs,GoodS L g))(_:gs.length<=100)(_:manyS gs<=900)(_:0<=part)(_:part<=1000)(_:∀(H':Hp)(D:Addr)(ys:List V),Same H H'->H' D=some (.lst ys)->H D=none->PsAt H' ys (caS part (manyS gs) L low (fil gs))->Q (.ref D) H')
noncomputable def bstep(b:Option (Int×Int))(p:Int×Int):Option (Int×Int):=match b with
 | none=>some p
 | some q=>if p.2 > q.2 then some p else some q
inductive q758(K:Fg)(vs:List V)(H:Hp)(Q:VK)(E:XK):Prop
 |mk(b ga:Addr)(xs:List V)(low:Int)(L:Nat)(gs:List S3)(_:vs=[.ref b,.ref ga])(_:SqT K H b [.int low,.int (L:Int)])(_:L<=40)(_:SqL K H ga xs)(_:GatAt H xs gs)(_:(∀ g∈gs,GoodS L g))(_:gs.length<=100)(_:manyS gs<=900)(_:∀(H':Hp)(v:V),Same H H'->CtV H' v ((caS 1 0 L low (fil gs)).foldl bstep none)->Q v H')
theorem q124:z.C P w base 44 "counted_above" pn8 (q243 K):=by
 have sc:=q241
 refine z.d_counted_above.recur (k:=q43) (sp:=q79 K) q123 fun e hen c_counted_above f fd F=>F.k sc fun _ _ _ s H _ Q _ hr h=>?_
 obtain⟨least,part,floor,pa,xs,gs,rfl,hpa,hg,hgd,hl,hm,hp0,hp1,hf0,q⟩:=h
 refine⟨_,(q11 (pst 5 sc.nd (pe_fn (q56 z) (hr.mono (ZT (by decide:1<=q43) (Nat.le_add_left _ _))) () (q10 (pv 2) q12)))
 (q11 (ps_if (q19 op_le (pe_op q128 (pv 5) (pv 3)) (pv 4) (q21 _))
 (q15 (q18 (q40 q12)))
 q20)
 (q11 (ps_if (q19 op_eq (pv 1) q14 (q21 _))
 (q15 (q18 (q40 (q10 (q34 (q10 (pv 0) (q10 (pv 5) q12))) q12))))
 q20)
 (q11 (pst 6 sc.nd (pe_op q112 (pv 1) q14))
 (q11 (pst 7 sc.nd (pe_fn c_counted_above (hr.mono (ZF _)) () (q10 (pv 0) (q10 (pv 6) (q10 (pe_fn (q192 z) (hr.mono (ZT (by decide:1<=q43) (Nat.le_add_left _ _))) () (q10 (pe_fn (q226 z) (hr.mono (ZT (by decide:3<=q43) (Nat.le_add_left _ _))) () (q10 (pv 2) (q10 (q34 (q10 q14 q12)) q12))) q12)) (q10 (pv 3) (q10 (pv 4) q12)))))))
 (q11 (pst 8 sc.nd (pe_fn c_counted_above (hr.mono (ZF _)) () (q10 (pe_op q48 (pv 0) (pv 6)) (q10 (pv 6) (q10 (pe_fn (q192 z) (hr.mono (ZT (by decide:1<=q43) (Nat.le_add_left _ _))) () (q10 (pe_fn (q226 z) (hr.mono (ZT (by decide:3<=q43) (Nat.le_add_left _ _))) () (q10 (pv 2) (q10 (q34 (q10 q14 q12)) q12))) q12)) (q10 (pv 3) (q10 (pv 4) q12)))))))
 (q15 (q18 (pe_op q699 (pv 7) (pv 8)))))))))),?_⟩
 have hcl:=q607 (low:=least) hp0 hf0 hgd
 have hm0:=q66 hgd
 refine⟨_,rfl,pa,xs,gs,rfl,hpa,hg,hl,fun H1 s1=>?_⟩
 exists _,rfl,_,rfl,_,_,rfl,rfl,.inl ⟨∅,∅⟩,_,rfl,_,_,rfl,rfl,_,rfl
 refine ite2 (fun c=>?_) (fun c=>?_)
 ·have c':=ZI c
  have e0:caS part floor e least gs=[]:=by cases e <;> (unfold caS;rw[ZL c'])
  rw[e0]at q
  exact⟨szb rfl,fun D hD=>q _ D [] (s1.trans (q16 hD _)) q13 (s1.free hD) ⟨rfl,fun j x p h1 _=>by cases h1⟩⟩
 have c':¬ manyS gs*part<=floor:=fun z=>c (ZG z)
 exists _,rfl,rfl,_,rfl
 cases e with
 | zero=>
  refine ite2 (fun _=>?_) (fun c=>absurd (ZG rfl) c)
  have e0:caS part floor 0 least gs=[(least,manyS gs)]:=by unfold caS;rw[ZJ c']
  rw[e0]at q
  refine⟨_,rfl,_,rfl,szb rfl,fun t ht=>⟨szb rfl,fun D hD=>?_⟩⟩
  have s2:=q16 ht (.tup [.int least,.int (manyS gs)])
  have s3:=q16 hD (.lst [.ref t])
  refine q _ D [.ref t] ((s1.trans s2).trans s3) q13 ((s1.trans s2).free hD) ⟨rfl,fun j x p h1 h2=>?_⟩
  match j,h1,h2 with
  | 0,h1,h2=>cases h1;cases h2;exact⟨t,rfl,s3 _ _ q13⟩
 | succ e=>
  have hp2:=p2pos e
  have e2:(2:Int)^(e+1)=2*2^e:=by rw[Int.pow_succ];lia
  refine ite2 (fun c=>absurd (V.int.inj (ZI c)) ∅) (fun _=>?_)
  exists _,rfl,_,_,rfl,rfl,⟨{},{}⟩
  dsimp only
  rw[show(2:Int)^(e+1)/2=2^e by lia]
  have e0:caS part floor (e+1) least gs=caS part floor e least (fil (gs.map (ld1 0)))++caS part floor e (least+2^e) (fil (gs.map (ld1 1))):=by rw[caS,ZJ c']
  rw[e0]at q hcl
  have gd:∀ w:Int,w=0\/w=1 -> ∀ g∈fil (gs.map (ld1 w)),GoodS e g:=fun w hw=>q73 (q53 hw hgd)
  have ln:∀ w:Int,(fil (gs.map (ld1 w))).length<=100:=fun w=>ZT (q547 _) (by rw[ZK];exact hl)
  have my:∀ w:Int,w=0\/w=1->manyS (fil (gs.map (ld1 w)))<=900:=fun w hw=>by
   rw[q82 (q53 hw hgd)]
   have h1:=q145 hgd
   have h2:=q66 (q53 (.inl rfl) hgd)
   have h3:=q66 (q53 (.inr rfl) hgd)
   rcases hw with rfl | rfl <;> lia
  refine⟨_,rfl,_,rfl,_,rfl,szb rfl,fun w0 hw0=>?_⟩
  have s02:=s1.trans (q16 hw0 (.tup [V.int 0]))
  refine⟨pa,w0,xs,[0],gs,rfl,s02.seq hpa,hg.same s02,hl,SqT.of q13,b01_0,fun H3 D3 z3 s3 hD3 hD3n hg3=>?_⟩
  refine⟨D3,z3,_,rfl,SqL.of hD3,hg3,by rw[ZK];exact hl,fun H4 D4 z4 s4 hD4 hD4n hg4=>?_⟩
  refine⟨_,rfl,_,rfl,least,part,floor,D4,z4,fil (gs.map (ld1 0)),rfl,SqL.of hD4,hg4,gd 0 (.inl rfl),ln 0,my 0 (.inl rfl),hp0,hp1,hf0,fun H5 D5 z5 s5 hD5 hD5n hp5=>?_⟩
  have s05:=((s02.trans s3).trans s4).trans s5
  refine⟨_,rfl,_,rfl,_,_,rfl,rfl,_,rfl,_,rfl,szb rfl,fun w1 hw1=>?_⟩
  have s56:=q16 hw1 (.tup [V.int 1])
  have s06:=s05.trans s56
  refine⟨pa,w1,xs,[1],gs,rfl,s06.seq hpa,hg.same s06,hl,SqT.of q13,b01_1,fun H7 D7 z7 s7 hD7 hD7n hg7=>?_⟩
  refine⟨D7,z7,_,rfl,SqL.of hD7,hg7,by rw[ZK];exact hl,fun H8 D8 z8 s8 hD8 hD8n hg8=>?_⟩
  refine⟨_,rfl,_,rfl,least+2^e,part,floor,D8,z8,fil (gs.map (ld1 1)),rfl,SqL.of hD8,hg8,gd 1 (.inr rfl),ln 1,my 1 (.inr rfl),hp0,hp1,hf0,fun H9 D9 z9 s9 hD9 hD9n hp9=>?_⟩
  have s59:=((s56.trans s7).trans s8).trans s9
  refine⟨_,rfl,_,rfl,D5,D9,z5,z9,rfl,rfl,s59 _ _ hD5,hD9,sz (by rw[hp5.1,hp9.1,<- ZM];exact W207 hcl hm0 hm),fun D hD=>?_⟩
  exact q _ D _ ((s05.trans s59).trans (q16 hD _)) q13 ((s05.trans s59).free hD) (((hp5.same s59).app hp9).same (q16 hD _))
theorem q490:z.C P w base 45 "worths_in" pn6 (q229 K):=by
 have sc:=q471
 refine z.d_worths_in.cal fun f fd F=>F.k sc fun _ _ _ s H _ Q _ hr h=>?_
 obtain⟨b,ga,xs,low,L,gs,rfl,hb,hL,hga,hg,hgd,hl,hm,q⟩:=h
 exists _,(q15 (q18 (pe_fn (q124 z) hr.m () (q10 (pix q30 (pv 0) q14) (q10 (pe_fn (q55 z) hr.m () (q10 (pix q30 (pv 0) q14) q12)) (q10 (pe_fn (q192 z) hr.m () (q10 (pv 1) q12)) (q10 q14 (q10 q14 q12))))))))
 refine⟨_,rfl,b,_,_,_,rfl,rfl,hb,rfl,_,rfl,b,_,_,_,rfl,rfl,hb,rfl,L,rfl,hL,_,rfl,ga,xs,gs,rfl,hga,hg,hl,fun H1 D1 z1 s1 hD1 hD1n hg1=>?_⟩
 exact⟨L,hL,low,1,0,D1,z1,fil gs,rfl,SqL.of hD1,hg1,q73 hgd,ZT (q547 _) hl,by rw[q82 hgd];exact hm,{},{},{},fun H2 D2 z2 s2 hD2 hD2n hp2=>q H2 D2 z2 (s1.trans s2) hD2 (s1.free hD2n) hp2⟩
theorem ok_often:z.C P w base 45 "often" ["bounds", "gathering", "part"] (q608 K):=by
 have sc:=sc_often
 refine z.d_often.cal fun f fd F=>F.k sc fun _ _ _ s H _ Q _ hr h=>?_
 obtain⟨b,ga,xs,low,part,L,gs,rfl,hb,hL,hga,hg,hgd,hl,hm,hp0,hp1,q⟩:=h
 exists _,(q15 (q18 (pe_fn (q124 z) hr.m () (q10 (pix q30 (pv 0) q14) (q10 (pe_fn (q55 z) hr.m () (q10 (pix q30 (pv 0) q14) q12)) (q10 (pe_fn (q192 z) hr.m () (q10 (pv 1) q12)) (q10 (pv 2) (q10 (pe_fn (q56 z) hr.m () (q10 (pv 1) q12)) q12))))))))
 refine⟨_,rfl,b,_,_,_,rfl,rfl,hb,rfl,_,rfl,b,_,_,_,rfl,rfl,hb,rfl,L,rfl,hL,_,rfl,ga,xs,gs,rfl,hga,hg,hl,fun H1 D1 z1 s1 hD1 hD1n hg1=>?_⟩
 refine⟨_,rfl,_,rfl,ga,xs,gs,rfl,s1.seq hga,hg.same s1,hl,fun H1' s1'=>?_⟩
 have s11:=s1.trans s1'
 exact⟨L,hL,low,part,_,D1,z1,fil gs,rfl,SqL.of (s1' _ _ hD1),hg1.same s1',q73 hgd,ZT (q547 _) hl,by rw[q82 hgd];exact hm,hp0,hp1,q66 hgd,fun H2 D2 z2 s2 hD2 hD2n hp2=>q H2 D2 z2 (s11.trans s2) hD2 (s11.free hD2n) hp2⟩
theorem ok_most:z.C P w base 46 "most" pn6 (q758 K):=by
 have sc:=sc_most
 refine z.d_most.cal fun f fd F=>F.k sc fun _ _ _ s H _ Q _ hr h=>?_
 obtain⟨b,ga,xs,low,L,gs,rfl,hb,hL,hga,hg,hgd,hl,hm,q⟩:=h
 refine⟨_,(q11 (pst 2 sc.nd q120)
 (q11 (q69 PassesOwn.never rfl (q35 (pe_fn (q490 z) hr.m () (q10 (pv 0) (q10 (pv 1) q12)))) (pgn 3 sc.nd)
 (q15 (ps_if (PW.pt (pw_or (q19 q433 (pv 2) q120 (q21 _)) (q127 (q19 op_gt (pix q30 (pv 3) q14) (pix q30 (pv 2) q14) (q21 _)))))
 (q15 (pst 2 sc.nd (pv 3)))
 q20)))
 (q15 (q18 (pv 2))))),?_⟩
 refine⟨_,rfl,_,rfl,b,ga,xs,low,L,gs,rfl,hb,hL,hga,hg,hgd,hl,hm,fun H1 D1 z1 s1 hD1 hD1n hp1=>?_⟩
 generalize caS 1 0 L low (fil gs)=ps at *
 refine⟨D1,rfl,⟨_,SqL.of hD1⟩,q174 (K:=K) (a:=D1) (xs:=z1) (fun j σ H2=>∃(bv:V)(v3:Option V),σ=[some (.ref b),some (.ref ga),some bv,v3]/\H2=H1/\CtV H1 bv ((ps.take j).foldl bstep none)) ⟨.non,none,rfl,rfl,rfl⟩ (fun j σ H2 _ ⟨_,_,_,e,_⟩=>by rw[e];exact SqL.of hD1) ?_ ?_⟩
 ·rintro j x σ H2 hx ⟨bv,v3,rfl,rfl,hbv⟩
  obtain⟨p,gp,hpx⟩:=hp1.get hx
  have et:(ps.take (j+1)).foldl bstep none=bstep ((ps.take j).foldl bstep none) p:=by
   rw[WK,gp,foldl_append]
   rfl
  generalize (ps.take j).foldl bstep none=bo at *
  exists _,rfl,rfl,_,rfl
  cases bo with
  | none=>
   cases(show bv = .non from hbv)
   refine ite2 (fun _=>?_) (fun c=>absurd rfl c)
   exists _,rfl,x,_,rfl,rfl
   rw[et]
   exact hpx
  | some q0=>
   obtain⟨ab,rfl,hab⟩:=hbv
   obtain⟨ap,rfl,hap⟩:=hpx
   refine ite2 (fun c=>absurd (ZI c) (by intro z;cases z)) (fun _=>?_)
   exists _,rfl,ap,_,_,_,rfl,rfl,SqT.of hap,rfl,_,rfl,ab,_,_,_,rfl,rfl,SqT.of hab,rfl,_,_,rfl,rfl,_,rfl
   refine ite2 (fun c=>?_) (fun c=>?_)
   ·exists _,rfl,_,_,rfl,rfl
    rw[et]
    show CtV H2 _ (if p.2 > q0.2 then some p else some q0)
    rw[ZL (ZI c)]
    exact⟨ap,rfl,hap⟩
   ·exists _,_,rfl,rfl
    rw[et]
    show CtV H2 _ (if p.2 > q0.2 then some p else some q0)
    rw[ZJ (fun z=>c (ZG z))]
    exact⟨ab,rfl,hab⟩
 ·rintro σ H2 ⟨bv,v3,rfl,rfl,hbv⟩
  rw[hp1.1,WS]at hbv
  exact⟨_,rfl,q _ bv s1 hbv⟩
noncomputable def plc(mk:Int):List Int->Int->Nat->Option Nat
 | [],_,_=>none
 | m::r,l,i=>if m=mk then(if l=0 then some i else plc mk r (l-1) (i+1))else plc mk r l (i+1)
theorem q407{mk m l:Int}{i:Nat}:plc mk (m::r) l i=if m=mk then(if l=0 then some i else plc mk r (l-1) (i+1))else plc mk r l (i+1):=rfl
theorem q252{mk:Int}:∀{r:List Int}{l:Int}{i:Nat},0<=l->l<(r.count mk:Nat) -> ∃ p,plc mk r l i=some p/\p<i+r.length
 | [],l,i,h0,h1=>by
  have:l<((0:Nat):Int):=h1
  exact(W211 h0 this).elim
 | m::r,l,i,h0,h1=>by
  rw[q407,WB]
  rw[count_cons]at h1
  by_cases c:m=mk
  ·rw[ZL c]
   rw[ZL (by simp[c])]at h1
   by_cases c2:l=0
   ·rw[ZL c2];exact⟨i,rfl,W119⟩
   ·rw[ZJ c2]
    obtain⟨p,e,h⟩:=q252 (mk:=mk) (r:=r) (l:=l-1) (i:=i+1) ∅ ∅
    exact⟨p,e,(W19 h)⟩
  ·rw[ZJ c]
   rw[ZJ (by simp[c])]at h1
   obtain⟨p,e,h⟩:=q252 (mk:=mk) (r:=r) (l:=l) (i:=i+1) h0 ∅
   exact⟨p,e,(W19 h)⟩
noncomputable def lif:List Int->Tr->Nat->Option Nat
 | [],_,p=>some p
 | w::ws,t,p=>(lif ws (q52 t w) p).bind fun i=>plc w (trMs t) (i:Int) 0
noncomputable def leaf(ws:List Int)(t:Tr):Tr:=ws.foldl q52 t
theorem q408:∀(ws:List Int),leaf ws .non = .non
 | []=>rfl
 | w::ws=>q408 ws
theorem q197(w:Int)(ws:List Int)(t:Tr):leaf (w::ws) t=leaf ws (q52 t w):=rfl
theorem q491{w:Int}{p:Nat}(h:(p:Int)<q46 (leaf (w::ws) t)):∃ ms l r,t = .part ms l r:=by
 cases t with
 | non=>rw[q408]at h;have:(p:Int)<0:=h;lia
 | many n=>rw[q197,show q52 (.many n) w = .non from rfl,q408]at h;have:(p:Int)<0:=h;lia
 | part ms l r=>exact⟨ms,l,r,rfl⟩
theorem q609:∀{ws:List Int}{e:Nat}{t:Tr}{p:Nat},B01 ws->ws.length<=e->wfT e t->(p:Int)<q46 (leaf ws t) -> ∃ i,lif ws t p=some i/\(i:Int)<q46 t
 | [],e,t,p,_,_,_,h=>⟨p,rfl,h⟩
 | w::ws,0,t,p,_,hl,_,_=>by rw[WB]at hl;exact(W176 hl).elim
 | w::ws,e+1,t,p,hb,hl,hw,h=>by
  obtain⟨ms,l,r,rfl⟩:=q491 h
  obtain⟨b,h0,h1,hl',hr'⟩:=hw
  have hm:=hb w (ZQ ..)
  rw[q197]at h
  have hh:wfT e (q52 (.part ms l r) w)/\q46 (q52 (.part ms l r) w)=(ms.count w:Nat):=by
   rcases hm with rfl | rfl
   ·exact⟨hl',h0⟩
   ·exact⟨hr',h1⟩
  obtain⟨i,e1,h2⟩:=q609 (fun x hx=>hb x (ZU _ hx)) (by rw[WB]at hl;lia) hh.1 h
  rw[hh.2]at h2
  obtain⟨q,e2,h3⟩:=q252 (mk:=w) (r:=ms) (l:=(i:Int)) (i:=0) W13 h2
  exists q,?_
  ·rw[lif,e1]
   exact e2
  ·show(q:Int)<(ms.length:Int)
   lia
theorem q759(m:Int)(g:S3):(ld1 m g).1=q52 g.1 m:=by
 unfold ld1
 by_cases c:isNo (q52 g.1 m)=true
 ·rw[ZL c]
  cases e:q52 g.1 m with
  | non=>rfl
  | many n=>rw[e]at c;cases c
  | part _ _ _=>rw[e]at c;cases c
 ·rw[ZJ c]
theorem q549:∀(ws:List Int)(g:S3),(lds ws g).1=leaf ws g.1
 | [],g=>rfl
 | w::ws,g=>by rw[q191,q549 ws,q759,q197]
theorem q253:∀{ws:List Int}{e:Nat}{g:S3},B01 ws->GoodS (e+ws.length) g->GoodS e (lds ws g)
 | [],_,_,_,h=>h
 | w::ws,e,g,hb,h=>by
  rw[q191]
  exact q253 (fun x hx=>hb x (ZU _ hx)) (q81 (hb w (ZQ ..)) h)
noncomputable def pickS:List S3->Int->Nat×Int
 | [],n=>(0,n)
 | g::gs,n=>if n<lenS g then(0,n) else((pickS gs (n-lenS g)).1+1,(pickS gs (n-lenS g)).2)
noncomputable def naS(gs:List S3)(ws:List Int)(n:Int):Option (Nat×Nat):=match gs[(pickS (gs.map (lds ws)) n).1]? with
 | some g=>(lif ws g.1 ((lds ws g).2.1+(pickS (gs.map (lds ws)) n).2.toNat)).map fun i=>((pickS (gs.map (lds ws)) n).1,i)
 | none=>none
theorem q409:∀{gs:List S3}{n:Int},0<=n->n<manyS gs -> ∃ g,gs[(pickS gs n).1]? = some g/\0<=(pickS gs n).2/\(pickS gs n).2<lenS g
 | [],n,h0,h1=>by have:n<0:=h1;exact(W200 h0 this).elim
 | g::gs,n,h0,h1=>by
  unfold pickS
  rw[q37]at h1
  by_cases c:n<lenS g
  ·rw[ZL c];exact⟨g,rfl,h0,c⟩
  ·rw[ZJ c]
   exact q409 (gs:=gs) (n:=n-lenS g) ∅ (W49 h1)
theorem q760:∀{L:Nat}{gs:List S3}{k:Int},(∀ g∈gs,GoodS L g)->0<=k->k<manyS gs->0<=k-mlS (wnS L gs k) gs/\k-mlS (wnS L gs k) gs<manyS (gs.map (lds (wnS L gs k)))
 | 0,gs,k,_,h0,h1=>by
  rw[wnS,mlS,show lds []=id from rfl,map_id]
  lia
 | L+1,gs,k,hg,h0,h1=>by
  have hs:=q145 hg
  have ht:=tn01 gs k
  have r:0<=k-tnS gs k*manyS (gs.map (ld1 0))/\k-tnS gs k*manyS (gs.map (ld1 0))<manyS (gs.map (ld1 (tnS gs k))):=by
   unfold tnS
   by_cases c:k<manyS (gs.map (ld1 0))
   ·rw[ZL c];lia
   ·rw[ZJ c];lia
  have ih:=q760 (L:=L) (q53 ht hg) r.1 r.2
  rw[wnS,mlS,map_map]at *
  have em:(gs.map (lds (tnS gs k::wnS L (gs.map (ld1 (tnS gs k))) (k-tnS gs k*manyS (gs.map (ld1 0))))))=(gs.map (lds (wnS L (gs.map (ld1 (tnS gs k))) (k-tnS gs k*manyS (gs.map (ld1 0))))∘ld1 (tnS gs k))):=rfl
  rw[em]
  generalize mlS (wnS L (gs.map (ld1 (tnS gs k))) (k-tnS gs k*manyS (gs.map (ld1 0)))) (gs.map (ld1 (tnS gs k)))=M at *
  rcases ht with h | h
  ·rw[h]at ih ⊢
   rw[ZJ {}]
   lia
  ·rw[h]at ih ⊢
   rw[ZL rfl]
   lia
noncomputable def nlS(low:Int)(L:Nat)(gs:List S3)(k:Int):Option (Int×Nat×Nat):=(naS gs (wnS L gs k) (k-mlS (wnS L gs k) gs)).map fun r=>((spanS low L (wnS L gs k)).1,r.1,r.2)
theorem q363:∀(L:Nat)(gs:List S3)(k:Int),(wnS L gs k).length=L
 | 0,_,_=>rfl
 | L+1,gs,k=>by rw[wnS,WB,q363]
inductive q303(K:Fg)(vs:List V)(H:Hp)(Q:VK)(E:XK):Prop
 |mk(t:Addr)(ms:List Int)(mk num:Int)(p:Nat)(_:vs=[.ref t,.int mk,.int num])(_:SqT K H t (ms.map V.int))(_:plc mk ms num 0=some p)(_:∀ H',Same H H'->Q (.int (p:Nat)) H')
abbrev q198:Nat:=2
abbrev q492:Nat:=40
inductive q215(u0:Fg)(e:Nat)(vs:List V)(H:Hp)(Q:VK)(E:XK):Prop
 |mk(v:V)(wy:Addr)(k i:Nat)(t:Tr)(ws:List Int)(_:vs=[v,.ref wy,.int (k:Int)])(_:q50 H v t)(_:TupF H wy (ws.map V.int))(_:ws.length=e)(_:B01 ws)(_:(k:Int)<q46 (leaf ws t))(_:lif ws t k=some i)(_:∀ H',Same H H'->Q (.int (i:Int)) H')
def q761(K:Fg):Sp:=fun vs H Q E=>∃ e,e<=q492/\q215 K e vs H Q E
inductive q230(u0:Fg)(vs:List V)(H:Hp)(Q:VK)(E:XK):Prop
 |mk(ga wy:Addr)(xs:List V)(L:Nat)(n:Int)(ws:List Int)(gs:List S3)(r:Nat×Nat)(_:vs=[.ref ga,.ref wy,.int n])(_:L<=40)(_:H ga=some (.lst xs))(_:GatAt H xs gs)(_:(∀ g∈gs,GoodS L g))(_:gs.length<=100)(_:TupF H wy (ws.map V.int))(_:B01 ws)(_:ws.length=L)(_:0<=n)(_:n<manyS (gs.map (lds ws)))(_:naS gs ws n=some r)(_:∀(p:Addr)(H':Hp),Same H H'->H' p=some (.tup [.int (r.1:Int),.int (r.2:Int)])->Q (.ref p) H')
inductive q231(K:Fg)(vs:List V)(H:Hp)(Q:VK)(E:XK):Prop
 |mk(b ga:Addr)(xs:List V)(low k:Int)(L:Nat)(gs:List S3)(r:Int×Nat×Nat)(_:vs=[.ref b,.ref ga,.int k])(_:SqT K H b [.int low,.int (L:Int)])(_:L<=40)(_:H ga=some (.lst xs))(_:GatAt H xs gs)(_:(∀ g∈gs,GoodS L g))(_:gs.length<=100)(_:0<=k)(_:k<manyS gs)(_:nlS low L gs k=some r)(_:∀(p:Addr)(H':Hp),Same H H'->SqT K H' p [.int r.1,.int (r.2.1:Int),.int (r.2.2:Int)]->Q (.ref p) H')
theorem q762(h:StrAt H v g):GatAt H [v] [g]:=(GatAt.nil H).snoc h
noncomputable def muJ(n:Nat):St->Nat:=fun σ=>match σ[5]? with
 | some (some (V.int m))=>n-m.toNat
 | _=>0
theorem q610(g:S3):manyS [g]=lenS g:=by
 rw[q37]
 exact Int.add_zero _
theorem q763:∀{gs:List S3}{n left:Int}{j:Nat}{g:S3},gs[j]? = some g->lenS g<=left->pickS (gs.drop j) left=((pickS (gs.drop (j+1)) (left-lenS g)).1+1,(pickS (gs.drop (j+1)) (left-lenS g)).2):=fun {gs n left j g} hg h=>by
 obtain⟨h1,h2⟩:=List.getElem?_eq_some_iff.mp hg
 rw[YT h1,h2]
 show(if left<lenS g then _ else _)=_
 rw[ZJ (W205 h)]
theorem q550:z.C P w base 1 "place_of" ["marks", "mark", "number"] (q303 K):=by
 have sc:=q532
 refine z.d_place_of.cal fun f fd F=>F.k sc fun _ _ _ s H _ Q _ hr h=>?_
 obtain⟨t,ms,mk,num,p0,rfl,ht,hp0,q⟩:=h
 refine⟨_,(q11 (pst 3 sc.nd (pv 2))
 (q11 (q69 PassesOwn.never rfl (pi_enum rfl z.enumerate_ (q10 (pv 0) q12)) (q217 rfl (q33 (pgn 4 sc.nd) (q33 (pgn 5 sc.nd) q87)))
 (q15 (ps_if (q19 op_eq (pv 5) (pv 1) (q21 _))
 (q11 (ps_if (q19 op_eq (pv 3) q14 (q21 _))
 (q15 (q18 (pv 4)))
 q20)
 (q15 (pst 3 sc.nd (pe_op q76 (pv 3) q14))))
 q20)))
 (q15 q31))),?_⟩
 refine⟨_,rfl,_,rfl,t,rfl,⟨_,ht⟩,for_enum (xs:=ms.map V.int) (fun i σ H2=>∃(L:Int)(v u:Option V),σ=[some (.ref t),some (.int mk),some (.int num),some (.int L),v,u]/\Same H H2/\plc mk (ms.drop i) L i=some p0)
  ⟨num,none,none,rfl,Same.refl H,hp0⟩ (fun i σ H2 _ ⟨_,_,_,_,s2,_⟩=>s2.seqT ht) ?_ ?_⟩
 ·rintro i x σ H2 p hx ⟨L,v,u,rfl,s2,hp⟩ hpn
  obtain⟨m,gm,rfl⟩:∃ m,ms[i]? = some m/\V.int m=x:=by
   rw[WE]at hx
   cases e:ms[i]? with
   | none=>rw[e]at hx;cases hx
   | some m=>rw[e]at hx;exact⟨m,rfl,Option.some.inj hx⟩
  have s3:Same H (upd H2 p (.tup [.int (i:Nat),.int m])):=s2.trans (q16 hpn _)
  rw[q302 gm,q407]at hp
  exists p,_,rfl,SqT.of q13,rfl,_,_,rfl,_,_,rfl,rfl
  exists _,rfl,_,rfl,rfl,_,rfl
  refine ite2 (fun c=>?_) (fun c=>?_)
  ·have c':m=mk:=V.int.inj (ZI c)
   rw[ZL c']at hp
   exists _,rfl,rfl,_,rfl
   refine ite2 (fun c2=>?_) (fun c2=>?_)
   ·have c2':L=0:=V.int.inj (ZI c2)
    rw[ZL c2']at hp
    cases hp
    exact⟨_,rfl,q _ s3⟩
   ·have c2':¬ L=0:=fun z=>c2 (by rw[z];exact ZG rfl)
    rw[ZJ c2']at hp
    exact⟨_,rfl,_,_,rfl,rfl,_,_,_,rfl,s3,hp⟩
  ·have c':¬ m=mk:=fun z=>c (by rw[z];exact ZG rfl)
   rw[ZJ c']at hp
   exact⟨_,_,_,rfl,s3,hp⟩
 ·rintro σ H2 ⟨L,v,u,rfl,s2,hp⟩
  rw[ZK,drop_length]at hp
  cases hp
theorem q764:z.C P w base 43 "lifted" ["tree", "way", "place"] (q761 K):=by
 have sc:=q743
 refine z.d_lifted.recur (k:=q198) (sp:=q215 K) q492 fun e hen c_lifted f fd F=>F.k sc fun _ _ _ s H _ Q _ hr h=>?_
 obtain⟨v,wy,k,i,t,ws,rfl,ht,hw,hwl,h01,hk,hi,q⟩:=h
 refine⟨_,(q11 (ps_if (q19 op_eq (pln z.len_ (q10 (pv 1) q12)) q14 (q21 _))
 (q11 (ps_if (PW.pt (pw_or (q19 op_lt (pv 2) q14 (q21 _)) (q127 (q19 op_ge (pv 2) (pe_fn (q354 z) (hr.mono (ZT (by decide:1<=q198) (Nat.le_add_left _ _))) () (q10 (pv 0) q12)) (q21 _)))))
 (q15 q31)
 q20)
 (q15 (q18 (pv 2))))
 q20)
 (q11 (pst 3 sc.nd (pe_fn c_lifted (hr.mono (ZF _)) () (q10 (pe_fn (q356 z) (hr.mono (ZT (by decide:1<=q198) (Nat.le_add_left _ _))) () (q10 (pv 0) (q10 (pix q30 (pv 1) q14) q12))) (q10 (q80 q709 (pv 1) (q88 q14) q110) (q10 (pv 2) q12)))))
 (q15 (q18 (pe_fn (q550 z) (hr.mono (ZT (by decide:1<=q198) (Nat.le_add_left _ _))) () (q10 (pix q30 (pv 0) q14) (q10 (pix q30 (pv 1) q14) (q10 (pv 3) q12)))))))),?_⟩
 exists _,rfl,wy,_,rfl,.inr hw.sq,rfl,_,rfl
 cases ws with
 | nil=>
  refine ite2 (fun _=>?_) (fun c=>absurd (ZG rfl) c)
  cases hi
  have hk':(k:Int)<q46 t:=hk
  exists _,rfl,_,_,rfl,rfl,_,rfl
  refine ite2 (fun c=>absurd (ZI c) W84) (fun _=>?_)
  exists _,rfl,_,rfl,v,_,rfl,ht,_,_,rfl,rfl,_,rfl
  refine ite2 (fun c=>absurd (ZI c) ∅) (fun _=>?_)
  exact⟨_,rfl,q H (Same.refl H)⟩
 | cons w0 ws=>
  refine ite2 (fun c=>?_) (fun _=>?_)
  ·exfalso
   have:=V.int.inj (ZI c)
   rw[ZK,WB]at this
   lia
  obtain⟨e',rfl⟩:∃ e',e=e'+1:=⟨ws.length,by rw[<- hwl];rfl⟩
  have hw0:w0=0\/w0=1:=h01 w0 (ZQ ..)
  have h0at:atI ((w0::ws).map V.int) 0=some (.int w0):=q41 (j:=0) rfl
  obtain⟨ms,l,r,hpt⟩:=q491 hk
  rw[q197]at hk
  rw[lif]at hi
  cases hi2:lif ws (q52 t w0) k with
  | none=>rw[hi2]at hi;cases hi
  | some i2=>
   rw[hi2,Option.bind_some]at hi
   refine⟨_,rfl,_,rfl,wy,_,_,_,rfl,rfl,hw.sq,h0at,v,_,w0,rfl,ht,hw0,fun u hu=>?_⟩
   refine⟨_,rfl,1,rfl,wy,_,rfl,hw,fun w2 H1 s1 hw2=>⟨_,rfl,?_⟩⟩
   rw[cut_tail]at hw2
   refine⟨u,w2,k,i2,_,ws,rfl,hu.same s1,hw2,by rw[WB]at hwl;exact W109 hwl,(fun m hm=>h01 m (ZU _ hm)),hk,hi2,fun H2 s2=>?_⟩
   have s02:=s1.trans s2
   have ht2:=ht.same s02
   rw[hpt]at ht2 hi
   obtain⟨a,m,x,y,rfl,ha,hm,_,_⟩:=ht2
   exact⟨_,rfl,a,_,_,_,rfl,rfl,SqT.of ha,rfl,_,rfl,wy,_,_,_,rfl,rfl,(hw.same s02).sq,h0at,_,rfl,m,ms,w0,(i2:Int),i,rfl,hm.sq,hi,fun H3 s3=>q H3 (s02.trans s3)⟩
theorem q493:z.C P w base 44 "nth_alike" ["gathering", "way", "number"] (q230 K):=by
 have sc:=q470
 refine z.d_nth_alike.cal fun f fd F=>F.k sc fun _ _ _ s H _ Q _ hr h=>?_
 obtain⟨ga,wy,xs,L,n,ws,gs,r,rfl,hL,hga,hg,hgd,hl,hwy,h01,hwl,h0,h1,hr0,q⟩:=h
 refine⟨_,(q11 (pst 3 sc.nd (pe_fn (q226 z) hr.m () (q10 (pv 0) (q10 (pv 1) q12))))
 (q11 (pst 4 sc.nd (pv 2))
 (q11 (pst 5 sc.nd q14)
 (q11 (q563 PassesOwn.never (q19 op_ge (pv 4) (pe_fn (q56 z) hr.m () (q10 (q40 (q10 (pix q32 (pv 3) (pv 5)) q12)) q12)) (q21 _))
 (q11 (pst 4 sc.nd (pe_op q76 (pv 4) (pe_fn (q56 z) hr.m () (q10 (q40 (q10 (pix q32 (pv 3) (pv 5)) q12)) q12))))
 (q15 (pst 5 sc.nd (pe_op q48 (pv 5) q14)))))
 (q15 (q18 (q34 (q10 (pv 5) (q10 (pe_fn (q764 z) hr.m () (q10 (pix q30 (pix q32 (pv 0) (pv 5)) q14) (q10 (pv 1) (q10 (pe_op q48 (pix q30 (pix q32 (pv 3) (pv 5)) q14) (pv 4)) q12)))) q12))))))))),?_⟩
 refine⟨_,rfl,_,rfl,ga,wy,xs,ws,gs,rfl,SqL.of hga,hg,hl,hwy.sq,h01,fun H1 D zs s1 hD _ hg1=>?_⟩
 exists _,rfl
 refine q566 (fun σ H2=>∃(left:Int)(j:Nat),σ=[some (.ref ga),some (.ref wy),some (.int n),some (.ref D),some (.int left),some (.int (j:Int))]/\Same H1 H2/\0<=left/\left<manyS ((gs.map (lds ws)).drop j)/\pickS (gs.map (lds ws)) n=((pickS ((gs.map (lds ws)).drop j) left).1+j,(pickS ((gs.map (lds ws)).drop j) left).2)) (fun σ _=>muJ gs.length σ)
  ⟨n,0,rfl,Same.refl _,h0,h1,rfl⟩ ?_ ?_
 ·rintro σ H2 ⟨left,j,rfl,s2,l0,l1,hpk⟩
  have hj:j<gs.length:=by
   apply Classical.byContradiction
   intro c
   rw[drop_of_length_le (by rw[ZK];exact W30 c)]at l1
   have:left<0:=l1
   lia
  have gj:gs[j]? = some gs[j]:=ZP hj
  generalize gs[j]=g at gj
  have gj':(gs.map (lds ws))[j]? = some (lds ws g):=by rw[WE,gj];rfl
  have hjz:j<zs.length:=by rw[hg1.1,ZK];exact hj
  have hjx:j<xs.length:=by rw[hg.1];exact hj
  have gz:=ZP hjz
  have gx:=ZP hjx
  have hstr:=hg1.2 j _ _ gz gj'
  obtain⟨t',u',e1,e2,e3⟩:=id hstr
  obtain⟨t,u,f1,f2,f3⟩:=hg.2 j _ _ gx gj
  rw[f1]at gx
  generalize zs[j]=z at *
  have hdr:(gs.map (lds ws)).drop j=lds ws g::(gs.map (lds ws)).drop (j+1):=by
   obtain⟨a1,a2⟩:=List.getElem?_eq_some_iff.mp gj'
   rw[YT a1,a2]
  refine⟨_,rfl,_,rfl,_,rfl,D,_,_,_,rfl,rfl,SqL.of (s2 _ _ hD),q41 gz,szb rfl,fun l1' hl1=>?_⟩
  have s13:=s2.trans (q16 hl1 (.lst [z]))
  refine⟨l1',[z],[lds ws g],rfl,SqL.of q13,q762 (hstr.tk (.same s13)),by simp,fun H4 s4=>?_⟩
  rw[q610]
  exists _,_,rfl,rfl,_,rfl
  have s14:=s13.trans s4
  refine ite2 (fun c=>?_) (fun c=>?_)
  ·have c':lenS (lds ws g)<=left:=by have:=ZI c;lia
   refine⟨_,rfl,_,rfl,_,rfl,D,_,_,_,rfl,rfl,SqL.of (s14 _ _ hD),q41 gz,szb rfl,fun l2 hl2=>?_⟩
   have s15:=s14.trans (q16 hl2 (.lst [z]))
   refine⟨l2,[z],[lds ws g],rfl,SqL.of q13,q762 (hstr.tk (.same s15)),by simp,fun H6 s6=>?_⟩
   rw[q610]
   exists _,_,rfl,rfl,_,rfl,_,_,rfl,rfl,⟨left-lenS (lds ws g),j+1,rfl,s15.trans s6,∅,?_,?_⟩
   ·rw[hdr,q37]at l1
    exact W49 l1
   ·rw[hpk,q763 (n:=0) gj' c']
    exact Prod.ext (show _+1+j=_+(j+1) by exact W9) rfl
   ·show gs.length-((j:Int)+1).toNat<gs.length-((j:Int)).toNat
    lia
  ·have c':left<lenS (lds ws g):=by
    apply Classical.byContradiction
    intro z2
    exact c (ZG (W20 z2))
   have hp:pickS ((gs.map (lds ws)).drop j) left=(0,left):=by rw[hdr];unfold pickS;rw[ZL c']
   rw[hp]at hpk
   have hpk':pickS (gs.map (lds ws)) n=(j,left):=by rw[hpk];exact Prod.ext (YL _) rfl
   unfold naS at hr0
   rw[hpk',gj]at hr0
   dsimp only at hr0
   cases hlif:lif ws g.1 ((lds ws g).2.1+left.toNat) with
   | none=>rw[hlif]at hr0;cases hr0
   | some i=>
    rw[hlif]at hr0
    cases hr0
    have h4:GoodS 0 (lds ws g):=q253 h01 (by rw[YL,hwl];exact hgd g (ZV gj))
    have s04:=s1.trans s14
    exists _,rfl,_,rfl,_,rfl,ga,_,_,_,rfl,rfl,SqL.of (s04 _ _ hga),q41 gx,t,_,_,_,rfl,rfl,SqT.of (s04 _ _ f2),rfl,_,rfl,_,rfl,_,rfl,D,_,_,_,rfl,rfl,SqL.of (s14 _ _ hD),q41 gz
    rw[e1]
    exists t',_,_,_,rfl,rfl,SqT.of (s14 _ _ e2),rfl,_,rfl,_,_,rfl,rfl
    refine⟨L,hL,u,wy,(lds ws g).2.1+left.toNat,i,g.1,ws,?_,f3.same s04,hwy.same s04,hwl,h01,?_,hlif,fun H5 s5=>⟨szb rfl,fun p hp=>q p _ ((s04.trans s5).trans (q16 hp _)) q13⟩⟩
    ·exact congrArg (fun q:Int=>[u,V.ref wy,V.int q]) (show((lds ws g).2.1:Int)+left=(((lds ws g).2.1+left.toNat:Nat):Int) by lia)
    ·rw[<- q549]
     have:=h4.2.2
     unfold lenS at c'
     exact W117 this l0 c'
 ·rintro σ H2 Q1 Q2 hq ⟨_,e0,_,e1,_,e2,a,us,i,v,f1,f2,f3,f4,g0,g⟩
  refine⟨_,e0,_,e1,_,e2,a,us,i,v,f1,f2,f3,f4,g0,fun p hp=>?_⟩
  obtain⟨ga',xs',gs',h1,h2,h3,h4,h5⟩:=g p hp
  refine⟨ga',xs',gs',h1,h2,h3,h4,fun H' s'=>?_⟩
  obtain⟨i',j',w1,w2,k,w3,w4⟩:=h5 H' s'
  exact⟨i',j',w1,w2,k,w3,hq _ _ w4⟩
theorem q494:z.C P w base 45 "nth_least" pn2 (q231 K):=by
 have sc:=q469
 refine z.d_nth_least.cal fun f fd F=>F.k sc fun _ _ _ s H _ Q _ hr h=>?_
 obtain⟨b,ga,xs,low,k,L,gs,r,rfl,hb,hL,hga,hg,hgd,hl,h0,h1,hr0,q⟩:=h
 refine⟨_,(q11 (ps_if (PW.pt (pw_or (q19 op_lt (pv 2) q14 (q21 _)) (q127 (q19 op_ge (pv 2) (pe_fn (q56 z) hr.m () (q10 (pv 1) q12)) (q21 _)))))
 (q15 q31)
 q20)
 (q11 (pst 3 sc.nd (pe_fn (q196 z) hr.m () (q10 (pix q30 (pv 0) q14) (q10 (pv 1) (q10 (pv 2) q12)))))
 (q11 (pst 4 sc.nd (pe_op q76 (pv 2) (pe_fn (q157 z) hr.m () (q10 (pv 1) (q10 (pv 3) q12)))))
 (q15 (q18 (pe_op q706 (q34 (q10 (pix q30 (pe_fn (q360 z) hr.m () (q10 (pv 0) (q10 (pv 3) q12))) q14) q12)) (pe_fn (q493 z) hr.m () (q10 (pv 1) (q10 (pv 3) (q10 (pv 4) q12)))))))))),?_⟩
 obtain⟨c1,c2⟩:=q760 hgd h0 h1
 exists _,rfl,_,_,rfl,rfl,_,rfl
 refine ite2 (fun c=>absurd (ZI c) ∅) (fun _=>?_)
 refine⟨_,rfl,_,rfl,ga,xs,gs,rfl,SqL.of hga,hg,hl,fun H1 s1=>?_⟩
 exists _,_,rfl,rfl,_,rfl
 refine ite2 (fun c=>absurd (ZI c) (W61 h1)) (fun _=>?_)
 refine⟨_,rfl,b,_,_,_,rfl,rfl,s1.seqT hb,rfl,_,rfl,_,rfl,ga,xs,L,k,gs,rfl,hL,s1 _ _ hga,hg.same s1,hl,fun t H2 s2 ht=>?_⟩
 have s02:=s1.trans s2
 refine⟨_,rfl,_,rfl,_,rfl,ga,t,xs,_,gs,rfl,SqL.of (s02 _ _ hga),hg.same s02,hl,ht.sq,wn01 L gs k,fun H3 s3=>⟨_,_,rfl,rfl,?_⟩⟩
 have s03:=s02.trans s3
 refine⟨_,rfl,_,rfl,b,t,low,L,_,rfl,s03.seqT hb,hL,(ht.same s3).sq,fun p hp=>?_⟩
 have s4:∀ o,Same H3 (upd H3 p o):=fun o=>q16 hp o
 refine⟨p,_,_,_,rfl,rfl,SqT.of q13,rfl,szb rfl,fun p1 hp1=>?_⟩
 have hp5:=hp1
 unfold nlS at hr0
 cases hna:naS gs (wnS L gs k) (k-mlS (wnS L gs k) gs) with
 | none=>rw[hna]at hr0;cases hr0
 | some r0=>
  rw[hna]at hr0
  cases hr0
  have s5:=q16 hp1 (.tup [V.int (spanS low L (wnS L gs k)).1])
  have s05:=(s03.trans (s4 _)).trans s5
  refine⟨_,rfl,_,rfl,_,rfl,ga,t,xs,L,_,wnS L gs k,gs,r0,rfl,hL,s05 _ _ hga,hg.same s05,hgd,hl,((ht.same s3).same (s4 _)).same s5,wn01 L gs k,q363 L gs k,c1,c2,hna,fun p2 H6 s6 hp2=>?_⟩
  refine⟨p1,p2,_,_,rfl,rfl,SqT.of (s6 _ _ q13),SqT.of hp2,szb rfl,fun p3 H7 s7 h3 _=>?_⟩
  exact q p3 H7 ((s05.trans s6).trans s7) h3
theorem slF{n:Nat}(h:n<=100000):n<=sizeLine:=ZT h {}
noncomputable def crS(p:Int×Int)(m:Int):Int×Int:=if m=1 then(p.1+1,p.2) else(p.1,p.2+p.1)
theorem cr_no:∀(l:List Int)(p:Int×Int),0<=p.1->0<=p.2->0<=(l.foldl crS p).2
 | [],p,_,h=>h
 | m::l,p,h0,h1=>by
  rw[foldl_cons]
  unfold crS
  by_cases c:m=1
  ·rw[ZL c];exact cr_no l _ (by show 0<=p.1+1;exact W189 h0) h1
  ·rw[ZJ c];exact cr_no l _ h0 (by show 0<=p.2+p.1;lia)
noncomputable def crV(ms:List Int)(a b:Nat):Int:=((segI ms a b).foldl crS (0,0)).2
noncomputable def flS:Nat->S3->Int
 | 0,_=>0
 | e+1,g=>if lenS g<2 then 0 else crV (trMs g.1) g.2.1 g.2.2+(flS e (ld1 0 g)+flS e (ld1 1 g))
theorem seg_get{ms:List Int}{a b i:Nat}(h:i<b-a)(hb:b<=ms.length):∃ m,(segI ms a b)[i]? = some m/\ms[a+i]? = some m:=by
 have h1:a+i<ms.length:=(W95 h hb)
 refine⟨ms[a+i],?_,ZP h1⟩
 unfold segI
 rw[getElem?_drop,getElem?_take_of_lt ∅]
 exact ZP h1
theorem at_nat{ms:List Int}{a i:Nat}{m:Int}(h:ms[a+i]? = some m):atI (ms.map V.int) ((a:Int)+(i:Int))=some (.int m):=by
 have e:(a:Int)+(i:Int)=((a+i:Nat):Int):=W168
 rw[e]
 exact q41 (by rw[WE,h] <;> rfl)
def FwAt(H:Hp)(xs:List V)(ms:List Int):Prop:=xs.length=ms.length /\ ∀(j:Nat)(x:V)(m:Int),xs[j]? = some x->ms[j]? = some m -> ∃ a w,x = .ref a/\H a=some (.tup [w,.int m])
theorem FwAt.tk(h:FwAt H xs ms)(k:TKeep H H'):FwAt H' xs ms:=⟨h.1,fun j x m h1 h2=>by
 obtain⟨a,w,e,h3⟩:=h.2 j x m h1 h2
 exact⟨a,w,e,(k _ _).1 h3⟩⟩
theorem FwAt.app(h:FwAt H xs ms)(h':FwAt H ys ns):FwAt H (xs++ys) (ms++ns):=by
 refine⟨by rw[ZM,ZM,h.1,h'.1],fun j x p h1 h2=>?_⟩
 have hl:=h.1
 by_cases c:j<xs.length
 ·rw[WO c]at h1
  rw[WO (W39 c hl)]at h2
  exact h.2 j x p h1 h2
 ·rw[WM (W178 hl c)]at h1
  rw[WM (W175 hl c),<- hl]at h2
  exact h'.2 _ x p h1 h2
inductive q364(K:Fg)(vs:List V)(H:Hp)(Q:VK)(E:XK):Prop
 |mk(t:Addr)(ms:List Int)(a b:Nat)(_:vs=[.ref t,.int (a:Int),.int (b:Int)])(_:SqT K H t (ms.map V.int))(_:a<=b)(_:b<=ms.length)(_:ms.length<=1000)(_:Q (.int (crV ms a b)) H)
abbrev q118:Nat:=2
abbrev q199:Nat:=40
inductive q102(K:Fg)(e:Nat)(vs:List V)(H:Hp)(Q:VK)(E:XK):Prop
 |mk(v:V)(wy:Addr)(g:S3)(ws:List Int)(_:vs=[v,.ref wy])(_:StrAt H v g)(_:GoodS e g)(_:q46 g.1<=400)(_:SqT K H wy (ws.map V.int))(_:ws.length<=100-e)(_:e<=40)(_:∀(D:Addr)(zs:List V)(ms:List Int)(H':Hp),Same H H'->H D=none->H' D=some (.lst zs)->FwAt H' zs ms->ms.sum=flS e g->(zs.length:Int)<=(e:Int)*lenS g->Q (.ref D) H')
def q410(K:Fg):Sp:=fun vs H Q E=>∃ e,e<=q199/\q102 K e vs H Q E
inductive q125(u0:Fg)(vs:List V)(H:Hp)(Q:VK)(E:XK):Prop
 |mk(v:V)(L:Nat)(g:S3)(_:vs=[v])(_:StrAt H v g)(_:GoodS L g)(_:q46 g.1<=400)(_:L<=40)(_:∀(D:Addr)(zs:List V)(ms:List Int)(H':Hp),Same H H'->H D=none->H' D=some (.lst zs)->FwAt H' zs ms->ms.sum=flS L g->zs.length<=20000->Q (.ref D) H')
inductive q611(u0:Fg)(vs:List V)(H:Hp)(Q:VK)(E:XK):Prop
 |mk(v:V)(L:Nat)(g:S3)(_:vs=[v])(_:StrAt H v g)(_:GoodS L g)(_:q46 g.1<=400)(_:L<=40)(_:∀ H',Same H H'->Q (.int (flS L g)) H')
theorem q411{e:Nat}{g:S3}{m:Int}(hm:m=0\/m=1)(h:GoodS (e+1) g):q46 (ld1 m g).1<=q46 g.1:=by
 obtain⟨t,s,k⟩:=g
 rw[q759]
 cases t with
 | non=>exact WU _
 | many n=>exact h.1.elim
 | part ms l r=>
  obtain⟨b,h0,h1,_,_⟩:=h.1
  have:=cnt01 b
  show q46 (q52 (.part ms l r) m)<=(ms.length:Int)
  rcases hm with rfl | rfl
  ·show q46 l<=_;lia
  ·show q46 r<=_;lia
theorem q674:z.C P w base 1 "crossed" ["marks", "start", "end"] (q364 K):=by
 have sc:=q659
 refine z.d_crossed.cal fun f fd F=>F.k sc fun _ _ _ s H _ Q _ hr h=>?_
 obtain⟨t,ms,a,b,rfl,ht,hab,hb,hl,q⟩:=h
 refine⟨_,(q11 (pst 3 sc.nd q14)
 (q11 (pst 4 sc.nd q14)
 (q11 (q69 PassesOwn.never rfl (q432 rfl z.range_ (q10 (q38 (q258 rfl) () z.max_ q707 (q10 (pv 1) (q10 q14 q12))) (q10 (q38 (q434 rfl) () z.min_ bt_min (q10 (pv 2) (q10 (pln z.len_ (q10 (pv 0) q12)) q12))) q12))) (pgn 5 sc.nd)
 (q15 (ps_if (q19 op_eq (pix q30 (pv 0) (pv 5)) q14 (q21 _))
 (q15 (pst 3 sc.nd (pe_op q48 (pv 3) q14)))
 (q15 (pst 4 sc.nd (pe_op q48 (pv 4) (pv 3)))))))
 (q15 (q18 (pv 4)))))),?_⟩
 have e1:(if(0:Int) > (a:Int) then(0:Int) else(a:Int))=(a:Int):=ZJ W127
 have e2:(if(((ms.map V.int).length:Nat):Int)<(b:Int) then(((ms.map V.int).length:Nat):Int) else(b:Int))=(b:Int):=ZJ (by rw[ZK];lia)
 have hs:=q541 (st:=a) hb
 refine⟨_,rfl,_,_,rfl,_,rfl,_,rfl,t,_,rfl,.inr ht,_,_,rfl,(a:Int),(b:Int),by rw[e1,e2],⟨(W141 e1),∅,(W141 e2),∅⟩,
  q70 (fun i σ H2=>∃ v:Option V,σ=[some (.ref t),some (.int (a:Int)),some (.int (b:Int)),some (.int (((segI ms a b).take i).foldl crS (0,0)).1),some (.int (((segI ms a b).take i).foldl crS (0,0)).2),v]/\H2=H) ⟨none,rfl,rfl⟩ ?_ ?_⟩
 ·rintro i σ H2 hi ⟨v,rfl,rfl⟩
  obtain⟨m,g1,g2⟩:=seg_get (a:=a) (b:=b) (i:=i) (W195 hi e2 e1) hb
  exists _,rfl,_,rfl,t,_,_,_,rfl,rfl,ht,at_nat g2,rfl,_,rfl
  refine ite2 (fun c=>?_) (fun c=>?_)
  ·have c':m=1:=V.int.inj (ZI c)
   refine⟨_,rfl,_,_,rfl,rfl,some (.int ((a:Int)+(i:Int))),?_,rfl⟩
   rw[q193 g1]
   unfold crS
   rw[ZL c']
   rfl
  ·have c':¬ m=1:=fun z=>c (by rw[z];exact ZG rfl)
   refine⟨_,rfl,_,rfl,_,_,rfl,rfl,some (.int ((a:Int)+(i:Int))),?_,rfl⟩
   rw[q193 g1]
   unfold crS
   rw[ZJ c']
   rfl
 ·rintro σ H2 ⟨v,rfl,rfl⟩
  exists _,rfl
  have e:(segI ms a b).take ((b:Int)-(a:Int)).toNat=segI ms a b:=WP ∅
  rw[e]
  exact q
theorem q412:z.C P w base 43 "falls_from" pn15 (q410 K):=by
 have sc:=q395
 refine z.d_falls_from.recur (k:=q118) (sp:=q102 K) q199 fun e hen c_falls_from f fd F=>F.k sc fun _ _ _ s H _ Q _ hr h=>?_
 obtain⟨v,wy,g,ws,rfl,hst,hgd,hsz,hwy,hwl,he40,q⟩:=h
 obtain⟨sa,u,rfl,hs,hu⟩:=id hst
 refine⟨_,(q11 (ps_if (PW.pt (pw_or (q19 op_lt (pe_op q76 (pix q30 (pv 0) q14) (pix q30 (pv 0) q14)) q14 (q21 _)) (q127 (q19 op_eq (pix q30 (pix q30 (pv 0) q14) q14) q23 (q21 _)))))
 (q15 (q18 (q40 q12)))
 q20)
 (q11 (pst 2 sc.nd (pe_fn (q674 z) (hr.mono (ZT (by decide:1<=q118) (Nat.le_add_left _ _))) () (q10 (pix q30 (pix q30 (pv 0) q14) q14) (q10 (pix q30 (pv 0) q14) (q10 (pix q30 (pv 0) q14) q12)))))
 (q11 (q389 (pst 3 sc.nd (q142 (q19 op_gt (pv 2) q14 (q21 _)) (q40 (q10 (q34 (q10 (pv 1) (q10 (pv 2) q12))) q12)) (q40 q12))))
 (q11 (q69 PassesOwn.never rfl (q257 (q34 (q10 q14 (q10 q14 q12)))) (pgn 4 sc.nd)
 (q15 (q97 (pe_bm YF PySem.F.slot_list_extend PySem.F.type_list_extend q444 (pv 3) (q10 (pe_fn c_falls_from (hr.mono (ZF _)) () (q10 (pe_fn (q154 z) (hr.mono (ZT (by decide:2<=q118) (Nat.le_add_left _ _))) () (q10 (pv 0) (q10 (q34 (q10 (pv 4) q12)) q12))) (q10 (pe_op q706 (pv 1) (q34 (q10 (pv 4) q12))) q12))) q12)))))
 (q15 (q18 (pv 3))))))),?_⟩
 have hs':SqT K H sa [u,.int (g.2.1:Int),.int (g.2.2:Int)]:=SqT.of hs
 have hl0:=q228 hgd
 exists _,rfl,sa,_,_,_,rfl,rfl,hs',rfl,_,rfl,sa,_,_,_,rfl,rfl,hs',rfl,_,_,rfl,rfl,_,_,rfl,rfl,_,rfl
 have ev:∀ D,H D=none->flS e g=0->Q (.ref D) (upd H D (.lst [])):=fun D hD z=>q D [] [] _ (q16 hD _) hD q13 ⟨rfl,fun j x m h1 _=>by cases h1⟩ z.symm (Int.mul_nonneg (W114 he40) hl0)
 refine ite2 (fun c=>?_) (fun c=>?_)
 ·have c':lenS g<2:=ZI c
  refine⟨szb rfl,fun D hD=>ev D hD ?_⟩
  cases e with
  | zero=>rfl
  | succ e=>rw[flS,ZL c']
 have c':¬ lenS g<2:=fun z=>c (ZG z)
 obtain⟨tg,ts,tk⟩:=g
 have hk:(tk:Int)<=q46 tg:=hgd.2.2
 have hsk:ts<=tk:=hgd.2.1
 have hlen:lenS (tg,ts,tk)=(tk:Int)-(ts:Int):=rfl
 cases e with
 | zero=>
  cases tg with
  | non=>exact absurd (show(tk:Int)<=0 from hk) (W199 hlen c')
  | part ms l r=>exact hgd.1.elim
  | many n=>
   obtain⟨a,rfl,ha⟩:=hu
   exists _,rfl,sa,_,_,_,rfl,rfl,hs',rfl,a,_,_,_,rfl,rfl,SqT.of ha,rfl,rfl,_,rfl
   refine ite2 (fun _=>?_) (fun d=>absurd (ZG rfl) d)
   exact⟨szb rfl,fun D hD=>ev D hD rfl⟩
 | succ e=>
  cases tg with
  | non=>exact absurd (show(tk:Int)<=0 from hk) (W199 hlen c')
  | many n=>exact hgd.1.elim
  | part ms l r=>
   obtain⟨a,m,xl,xr,rfl,ha,hm,_,_⟩:=id hu
   have hml:(ms.length:Int)<=400:=hsz
   have hk':(tk:Int)<=(ms.length:Int):=hk
   exists _,rfl,sa,_,_,_,rfl,rfl,hs',rfl,a,_,_,_,rfl,rfl,SqT.of ha,rfl,rfl,_,rfl
   refine ite2 (fun d=>absurd (ZI d) {}) (fun _=>?_)
   exists _,rfl,sa,_,_,_,rfl,rfl,hs',rfl,a,_,_,_,rfl,rfl,SqT.of ha,rfl,_,rfl,sa,_,_,_,rfl,rfl,hs',rfl,_,rfl,sa,_,_,_,rfl,rfl,hs',rfl,m,ms,ts,tk,rfl,hm.sq,hsk,∅,∅
   have hc0:0<=crV ms ts tk:=cr_no _ _ (WU _) (WU _)
   have hfl:flS (e+1) (.part ms l r,ts,tk)=crV ms ts tk+(flS e (ld1 0 (.part ms l r,ts,tk))+flS e (ld1 1 (.part ms l r,ts,tk))):=by rw[flS,ZJ c'];rfl
   have hsum:=q548 hgd
   have hl1:=q228 (q81 (.inl rfl) hgd)
   have hl2:=q228 (q81 (.inr rfl) hgd)
   generalize crV ms ts tk=due at *
   have em0:(e:Int)*lenS (ld1 0 (.part ms l r,ts,tk))+(e:Int)*lenS (ld1 1 (.part ms l r,ts,tk))=(e:Int)*lenS (.part ms l r,ts,tk):=by rw[<- Int.mul_add,hsum]
   have em1:((e+1:Nat):Int)*lenS (.part ms l r,ts,tk)=(e:Int)*lenS (.part ms l r,ts,tk)+lenS (.part ms l r,ts,tk):=by
    rw[show((e+1:Nat):Int)=(e:Int)+1 by exact W50,Int.add_mul,Int.one_mul]
   have em2:(e:Int)*lenS (.part ms l r,ts,tk)<=40*400:=Int.mul_le_mul ∅ ∅ ∅ {}
   have n0:0<=(e:Int)*lenS (ld1 0 (.part ms l r,ts,tk)):=Int.mul_nonneg ∅ hl1
   have n1:0<=(e:Int)*lenS (ld1 1 (.part ms l r,ts,tk)):=Int.mul_nonneg ∅ hl2
   exists fun σ G=>∃(D:Addr)(zs:List V)(fs:List Int),σ=[some (.ref sa),some (.ref wy),some (.int due),some (.ref D),none]/\Same H G/\H D=none/\G D=some (.lst zs)/\FwAt G zs fs/\fs.sum=due/\zs.length<=1,?_
   ·exists _,rfl,_,_,rfl,rfl,_,rfl
    refine ite2 (fun _=>?_) (fun d=>?_)
    ·refine⟨_,rfl,_,rfl,szb rfl,fun p hp=>⟨szb rfl,fun D hD=>?_⟩⟩
     have s1:=q16 hp (.tup [V.ref wy,.int due])
     refine⟨D,_,[due],rfl,s1.trans (q16 hD _),s1.free hD,q13,⟨rfl,fun j x m h1 h2=>?_⟩,by simp,ZF _⟩
     match j,h1,h2 with
     | 0,h1,h2=>cases h1;cases h2;exact⟨p,_,rfl,q16 hD _ _ _ q13⟩
    ·have d0:due=0:=by
      apply Classical.byContradiction
      intro z
      exact d (ZG ∅)
     exact⟨szb rfl,fun D hD=>⟨D,[],[],rfl,q16 hD _,hD,q13,⟨rfl,fun j x m h1 _=>by cases h1⟩,d0.symm,ZX _⟩⟩
   ·rintro σ H1 ⟨D,zs,fs,rfl,s1,hD0,hD1,hA1,hms,hz1⟩
    refine⟨szb rfl,fun tp htp=>?_⟩
    have s2:=q16 htp (.tup [V.int 0,.int 1])
    have e2:=@q13 H1 tp (.tup [V.int 0,.int 1])
    have hD2:=s2 _ _ hD1
    have hA2:=hA1.tk (.same s2)
    have s02:=s1.trans s2
    have htpD:tp≠D:=fun z=>by rw[z,hD1]at htp;cases htp
    generalize upd H1 tp (.tup [V.int 0,.int 1])=H2 at *
    refine⟨tp,rfl,⟨_,SqT.of e2⟩,q373 (K:=K) (a:=tp) (xs:=[V.int 0,.int 1]) (fun i σ G=>∃(zs:List V)(fs:List Int)(w4:Option V),σ=[some (.ref sa),some (.ref wy),some (.int due),some (.ref D),w4]/\Same H G/\G tp=some (.tup [V.int 0,.int 1])/\G D=some (.lst zs)/\FwAt G zs fs/\fs.sum=due+(([flS e (ld1 0 (.part ms l r,ts,tk)),flS e (ld1 1 (.part ms l r,ts,tk))].take i).sum)/\(zs.length:Int)<=1+(([(e:Int)*lenS (ld1 0 (.part ms l r,ts,tk)),(e:Int)*lenS (ld1 1 (.part ms l r,ts,tk))].take i).sum))
     ⟨zs,fs,_,rfl,s02,e2,hD2,hA2,by simpa using hms,by simp;lia⟩ (fun i σ G _ ⟨_,_,_,_,_,e,_⟩=>SqT.of e) ?_ ?_⟩
    ·rintro i x σ G hi ⟨zs,fs,w4,rfl,sG,etp,hDG,hAG,hmG,hzG⟩
     obtain⟨mk,rfl,hmk,hst5,hst6⟩:∃ mk:Int,x = .int mk/\(mk=0\/mk=1)/\(([flS e (ld1 0 (.part ms l r,ts,tk)),flS e (ld1 1 (.part ms l r,ts,tk))].take (i+1)).sum=([flS e (ld1 0 (.part ms l r,ts,tk)),flS e (ld1 1 (.part ms l r,ts,tk))].take i).sum+flS e (ld1 mk (.part ms l r,ts,tk))) /\
       (([(e:Int)*lenS (ld1 0 (.part ms l r,ts,tk)),(e:Int)*lenS (ld1 1 (.part ms l r,ts,tk))].take (i+1)).sum=([(e:Int)*lenS (ld1 0 (.part ms l r,ts,tk)),(e:Int)*lenS (ld1 1 (.part ms l r,ts,tk))].take i).sum+(e:Int)*lenS (ld1 mk (.part ms l r,ts,tk))):=by
      match i,hi with
      | 0,hi=>cases hi;exact⟨0,rfl,.inl rfl,by simp,by simp⟩
      | 1,hi=>cases hi;exact⟨1,rfl,.inr rfl,by simp,by simp⟩
     refine⟨_,rfl,.inl ⟨rfl,_,SqL.of hDG⟩,_,rfl,_,rfl,szb rfl,fun w0 hw0=>?_⟩
     have sG1:=sG.trans (q16 hw0 (.tup [.int mk]))
     refine⟨.ref sa,w0,[mk],(.part ms l r,ts,tk),rfl,hst.tk (.same sG1),SqT.of q13,b01_of hmk,fun G2 v2 t2 hv2=>?_⟩
     have sG2:=sG1.trans t2
     refine⟨_,rfl,_,rfl,szb rfl,fun w3 hw3=>?_⟩
     have t3:=q16 hw3 (.tup [.int mk])
     have sG3:=sG2.trans t3
     refine⟨wy,w3,_,_,rfl,rfl,sG3.seqT hwy,SqT.of q13,sz (by simp;lia),fun wz G4 t4 hwz _=>?_⟩
     have hwz':SqT K G4 wz ((ws++[mk]).map V.int):=by rw[WF];exact hwz
     refine⟨v2,wz,_,ws++[mk],rfl,hv2.tk (.same (t3.trans t4)),q81 hmk hgd,Int.le_trans (q411 hmk hgd) hsz,hwz',by rw[ZM];show ws.length+1<=_;lia,∅,fun D5 z5 m5 H5 t5 hD5n hD5 hA5 hm5 hz5=>?_⟩
     have hz5':(z5.length:Int)<=(e:Int)*lenS (ld1 mk (.part ms l r,ts,tk)):=hz5
     have t14:Same G G4:=((q16 hw0 (.tup [.int mk])).trans t2).trans (t3.trans t4)
     have t15:=t14.trans t5
     have hDH5:=t15 _ _ hDG
     have hzz:(zs.length:Int)+z5.length<=40000:=by
      match i,hi with
      | 0,hi=>
       have:(zs.length:Int)<=1+0:=hzG
       rcases hmk with rfl | rfl <;> lia
      | 1,hi=>
       have:(zs.length:Int)<=1+((e:Int)*lenS (ld1 0 (.part ms l r,ts,tk))+0):=hzG
       rcases hmk with rfl | rfl <;> lia
     exists D,D5,zs,z5,rfl,rfl,hDH5,hD5,slF ∅
     have tkD:TKeep H5 (upd H5 D (.lst (zs++z5))):=TKeep.set hDH5
     exists zs++z5,fs++m5,_,rfl,Same.own (sG.trans t15) hD0,by rw[q28 htpD];exact t15 _ _ etp,q13,((hAG.tk (.same t15)).tk tkD).app (hA5.tk tkD),?_
     ·rw[sum_append,hmG,hm5,hst5,q546]
      lia
     ·rw[ZM,hst6]
      lia
    ·rintro σ G ⟨zs,fs,w4,rfl,sG,etp,hDG,hAG,hmG,hzG⟩
     refine⟨_,rfl,q D zs fs G sG hD0 hDG hAG ?_ ?_⟩
     ·rw[hmG,hfl]
      show due+(_+(_+0))=_
      lia
     ·have:(zs.length:Int)<=1+((e:Int)*lenS (ld1 0 (.part ms l r,ts,tk))+((e:Int)*lenS (ld1 1 (.part ms l r,ts,tk))+0)):=hzG
      lia
theorem q244:z.C P w base 44 "falls_by_ways" ["stretch"] (q125 K):=by
 have sc:=q242
 refine z.d_falls_by_ways.cal fun f fd F=>F.k sc fun _ _ _ s H _ Q _ hr h=>?_
 obtain⟨v,L,g,rfl,hst,hgd,hsz,hL,q⟩:=h
 exists _,(q15 (q18 (pe_fn (q412 z) hr.m () (q10 (pv 0) (q10 (q34 q12) q12)))))
 refine⟨_,rfl,szb rfl,fun wy hwy=>?_⟩
 have s1:=q16 hwy (.tup [])
 have hb:lenS g<=400:=by have:=hgd.2.2;unfold lenS;lia
 have hb2:=Int.mul_le_mul (show(L:Int)<=40 by lia) hb (q228 hgd) {}
 exact⟨L,hL,v,wy,g,[],rfl,hst.tk (.same s1),hgd,hsz,SqT.of q13,by show 0<=_;lia,hL,fun D zs ms H' s' hD hD' hA hs hz=>q D zs ms H' (s1.trans s') (s1.free hD) hD' hA hs ∅⟩
theorem ok_falls:z.C P w base 45 "falls" ["stretch"] (q611 K):=by
 have sc:=sc_falls
 refine z.d_falls.cal fun f fd F=>F.k sc fun _ _ _ s H _ Q _ hr h=>?_
 obtain⟨v,L,g,rfl,hst,hgd,hsz,hL,q⟩:=h
 exists _,(q15 (q18 (q38 (q272 rfl) () z.sum_ q708 (q10 (q387 (x := "way") (cl:=[]) (cn:=[]) (TN:=["many"]) (N:=[]) (fr:=[]) (sc0:=q17 q530) rfl (q35 (pe_fn (q244 z) hr.m () (q10 (pv 0) q12))) (fun C s₂ H₂ fp=>(pv 1)) (fun C s₂ H₂ fp=>q269) (fun C s₂ H₂ fp=>(q525 (K:=K) (n:=2) rfl rfl (q33 (q98 (i:=0) (show(["way", "many"]:List Str).Nodup by decide +kernel) rfl (Or.inl rfl)) (q33 (q98 (i:=1) (show(["way", "many"]:List Str).Nodup by decide +kernel) rfl (Or.inl rfl)) q87)))) (by ac_rfl) trivial rfl rfl rfl ⟨by decide +kernel,by decide +kernel,by decide +kernel,by decide +kernel⟩ rfl) q12))))
 refine⟨_,rfl,v,L,g,rfl,hst,hgd,hsz,hL,fun D zs ms H1 s1 hD0 hD hA hm hz=>?_⟩
 refine⟨D,rfl,⟨_,SqL.of hD⟩,fun D2 hD2=>?_⟩
 have hAl:=hA.1
 refine q341 (xs:=zs) (slF ∅) (fun i vs' H3=>vs'=(ms.take i).map V.int/\i<=ms.length/\H3=upd H1 D2 (.lst vs')) ⟨by simp,ZX _,rfl⟩ (fun i vs' H3 ⟨_,_,e⟩=>by rw[e];exact SqL.of (q16 hD2 _ _ _ hD))
  (fun i vs' H3 ⟨e1,e2,e3⟩=>⟨by rw[e3];exact q13,by rw[e1,ZK,WL];lia⟩) ?_ ?_
 ·rintro j x vs' H3 hx ⟨e1,e2,rfl⟩ vs3 hvs3
  have hj:=(List.getElem?_eq_some_iff.mp hx).1
  have gm:ms[j]? = some (ms[j]'(W39 hj hAl)):=ZP _
  obtain⟨a,w,rfl,ha⟩:=hA.2 j x _ hx gm
  have ha':=q16 hD2 (.lst vs') _ _ ha
  match vs3,hvs3 with
  | [x0,x1],_=>
   refine⟨a,_,rfl,SqT.of ha',rfl,_,_,rfl,_,_,rfl,rfl,⟨[_,_],rfl,rfl⟩,iteT ⟨_,rfl,q13,?_,(W162 hj hAl),by rw[q109]⟩⟩
   rw[WK,gm,WF,<- e1]
   rfl
 ·rintro vs' H3 ⟨e1,e2,rfl⟩
  rw[hA.1,WS]at e1
  exists D2,ms,rfl,SqL.of (by rw[q13,e1])
  rw[hm]
  exact q _ (s1.trans (q16 hD2 _))
structure Mks(C:Addr)(H:Hp)(x ka b:Addr)(low:Int)(L:Nat)(rs cs:LL):Prop where
 o:∃ dx,H x=some (.ins C dx [("bounds", .ref b),("kept", .ref ka)])
 hb:H b=some (.tup [.int low,.int (L:Int)])
 hL:L<=40
 len:cs.length=rs.length
 few:rs.length<=100
 hk:∃ es:List V,H ka=some (.lst es)/\es.length=rs.length /\ ∀(j:Nat)(r c:List Int),rs[j]? = some r->cs[j]? = some c ->
  ∃(p a:Addr)(v:V),es[j]? = some (.ref p)/\H p=some (.tup [v,.ref a])/\q50 H v (grow low L r)/\H a=some (.tup (c.map V.int))
 ok:∀ r∈rs,Wths low L r/\r.length<=200
theorem Mks.keep{low:Int}{L:Nat}(M:Mks C H x ka b low L rs cs)(k:Keep p H H')(e:H p=some (.lst ys))(n:ka≠p):Mks C H' x ka b low L rs cs:=by
 obtain⟨dx,hx⟩:=M.o
 obtain⟨es,h1,h2,h3⟩:=M.hk
 have tk:TKeep H H':=.keep k e
 refine⟨⟨dx,k _ _ (ne_of hx e (by intro z;cases z)) hx⟩,(tk _ _).1 M.hb,M.hL,M.len,M.few,⟨es,k _ _ n h1,h2,fun j r c hr hc=>?_⟩,M.ok⟩
 obtain⟨p',a,v,e1,e2,e3,e4⟩:=h3 j r c hr hc
 exact⟨p',a,v,e1,(tk _ _).1 e2,e3.tk tk,(tk _ _).1 e4⟩
theorem Mks.same{low:Int}{L:Nat}(M:Mks C H x ka b low L rs cs)(s:Same H H'):Mks C H' x ka b low L rs cs:=by
 obtain⟨dx,hx⟩:=M.o
 obtain⟨es,h1,h2,h3⟩:=M.hk
 have tk:TKeep H H':=.same s
 refine⟨⟨dx,s _ _ hx⟩,s _ _ M.hb,M.hL,M.len,M.few,⟨es,s _ _ h1,h2,fun j r c hr hc=>?_⟩,M.ok⟩
 obtain⟨p',a,v,e1,e2,e3,e4⟩:=h3 j r c hr hc
 exact⟨p',a,v,e1,s _ _ e2,e3.tk tk,s _ _ e4⟩
theorem Mks.snoc{low:Int}{L:Nat}{rs:LL}{r c:List Int}(M:Mks C H x ka b low L rs cs)(hes:H ka=some (.lst es))(k:Keep ka H H')(hp:H' p=some (.tup [v,.ref a]))
  (hv:q50 H v (grow low L r)) (ha:H a=some (.tup (c.map V.int))) (hw:Wths low L r) (hl:r.length<=200) (hn:rs.length<=99) (h':H' ka=some (.lst (es++[.ref p]))):Mks C H' x ka b low L (rs++[r]) (cs++[c]):=by
 obtain⟨dx,hx⟩:=M.o
 obtain⟨es',h1,h2,h3⟩:=M.hk
 obtain rfl:es'=es:=by rw[hes]at h1;injection h1 with h1;injection h1 with h1;exact h1.symm
 have tk:TKeep H H':=.keep k hes
 have hlen:=M.len
 refine⟨⟨dx,k _ _ (ne_of hx hes (by intro z;cases z)) hx⟩,(tk _ _).1 M.hb,M.hL,by rw[ZM,ZM,M.len];rfl,by rw[ZM];show rs.length+1<=100;lia,⟨_,h',by rw[ZM,ZM,h2];rfl,fun j r1 c1 hr hc=>?_⟩,fun r1 h1=>?_⟩
 ·by_cases hj:j<rs.length
  ·rw[WO hj]at hr
   rw[WO ∅]at hc
   obtain⟨p',a',v',e1,e2,e3,e4⟩:=h3 j r1 c1 hr hc
   exact⟨p',a',v',by rw[WO ∅];exact e1,(tk _ _).1 e2,e3.tk tk,(tk _ _).1 e4⟩
  ·have hj':j=rs.length:=by
    have:=(List.getElem?_eq_some_iff.mp hr).1
    rw[ZM]at this
    have t2:j<rs.length+1:=this
    lia
   subst hj'
   rw[WM (ZF _),Nat.sub_self]at hr
   rw[WM ∅,show rs.length-cs.length=0 by lia]at hc
   obtain rfl:r=r1:=Option.some.inj hr
   obtain rfl:c=c1:=Option.some.inj hc
   exact⟨p,a,v,by rw[WM (W181 h2),show rs.length-es'.length=0 by exact W44 h2];rfl,hp,hv.tk tk,(tk _ _).1 ha⟩
 ·rcases List.mem_append.mp h1 with h | h
  ·exact M.ok _ h
  ·obtain rfl:r1=r:=by simpa using h
   exact⟨hw,hl⟩
def Made(C:Addr)(H:Hp)(x ka b:Addr)(low:Int)(L:Nat)(rs cs:LL)(r c:List Int)(Q:VK):Prop:=
 ∀ H':Hp,Keep ka H H'->Mks C H' x ka b low L (rs++[r]) (cs++[c])->Q (.int (rs.length:Int)) H'
theorem Made.of{low:Int}{L:Nat}(q:Made C H x ka b low L rs cs r c Q)(s:Same H H1):Made C H1 x ka b low L rs cs r c Q:=
 fun H' k M=>q H' ((Keep.same s).trans k) M
inductive q495(u0:Fg)(C:Addr)(vs:List V)(H:Hp)(Q:VK)(E:XK):Prop
 |mk(x ka b a:Addr)(v:V)(low:Int)(L:Nat)(rs cs:LL)(r c:List Int)(_:vs=[.ref x,v,.ref a])(_:Mks C H x ka b low L rs cs)(_:q50 H v (grow low L r))(_:H a=some (.tup (c.map V.int)))(_:Wths low L r)(_:r.length<=200)(_:rs.length<=99)(_:Made C H x ka b low L rs cs r c Q)
inductive q365(u0:Fg)(C:Addr)(vs:List V)(H:Hp)(Q:VK)(E:XK):Prop
 |mk(x b dx:Addr)(low:Int)(L:Nat)(_:vs=[.ref x,.ref b])(_:H x=some (.ins C dx []))(_:H b=some (.tup [.int low,.int (L:Int)]))(_:L<=40)(_:∀(ka:Addr)(H':Hp),H ka=none->Keep x H H'->Mks C H' x ka b low L [[]] [[]]->Q .non H')
inductive q366(u0:Fg)(C:Addr)(vs:List V)(H:Hp)(Q:VK)(E:XK):Prop
 |mk(x ka b:Addr)(j:Nat)(low:Int)(L:Nat)(rs cs:LL)(r c:List Int)(_:vs=[.ref x,.int (j:Int)])(_:Mks C H x ka b low L rs cs)(_:rs[j]? = some r)(_:cs[j]? = some c)(_:∀(p a:Addr)(v:V),H p=some (.tup [v,.ref a])->q50 H v (grow low L r)->H a=some (.tup (c.map V.int))->Q (.ref p) H)
inductive q496(u0:Fg)(C:Addr)(vs:List V)(H:Hp)(Q:VK)(E:XK):Prop
 |mk(x ka b:Addr)(j:Nat)(low:Int)(L:Nat)(rs cs:LL)(r:List Int)(_:vs=[.ref x,.int (j:Int)])(_:Mks C H x ka b low L rs cs)(_:rs[j]? = some r)(_:∀ v:V,q50 H v (grow low L r)->Q v H)
inductive q232(u0:Fg)(C:Addr)(vs:List V)(H:Hp)(Q:VK)(E:XK):Prop
 |mk(x ka b:Addr)(j st en:Nat)(low:Int)(L:Nat)(rs cs:LL)(r:List Int)(_:vs=[.ref x,.int (j:Int),.int (st:Int),.int (en:Int)])(_:Mks C H x ka b low L rs cs)(_:rs[j]? = some r)(_:st<=en)(_:en<=r.length)(_:∀(p:Addr)(v:V)(H':Hp),Same H H'->q50 H' v (grow low L r)->H' p=some (.tup [v,.int (st:Int),.int (en:Int)])->Q (.ref p) H')
inductive q304(K:Fg)(C:Addr)(vs:List V)(H:Hp)(Q:VK)(E:XK):Prop
 |mk(x ka b l:Addr)(low:Int)(L:Nat)(rs cs:LL)(r:List Int)(_:vs=[.ref x,.ref l])(_:Mks C H x ka b low L rs cs)(_:SqL K H l (r.map V.int))(_:Wths low L r)(_:r.length<=200)(_:rs.length<=99)(_:Made C H x ka b low L rs cs r [] Q)
theorem Mks.row{low:Int}{L j:Nat}(M:Mks C H x ka b low L rs cs)(h:rs[j]? = some r):∃ c,cs[j]? = some c:=by
 have:=(List.getElem?_eq_some_iff.mp h).1
 have:=M.len
 exact⟨cs[j]'∅,ZP _⟩
theorem Mks.sz{low:Int}{L j:Nat}{r:List Int}(M:Mks C H x ka b low L rs cs)(h:rs[j]? = some r):Wths low L r/\r.length<=200:=M.ok r (ZV h)
theorem q497(z:Bz K mg uA uB uC uD uE uF uG uH):MCal P w K mg base 1 uG "keep" ["self", "tree", "sources"] (q495 K uG):=by
 have sc:=q746
 refine z.d_M_keep.cal z.o_Makes fun f fd F=>F.k sc fun _ _ _ s H _ Q _ hr h=>?_
 obtain⟨x,ka,b,a,v,low,L,rs,cs,r,c,rfl,M,hv,ha,hw,hl,hn,q⟩:=h
 refine⟨_,(q11 (q97 (pe_bm YF YM YN q71 (q220 (pv 0) rfl) (q10 (q34 (q10 (pv 1) (q10 (pv 2) q12))) q12)))
 (q15 (q18 (pe_op q76 (pln z.len_ (q10 (q220 (pv 0) rfl) q12)) q14)))),?_⟩
 obtain⟨dx,hx⟩:=M.o
 obtain⟨es,hes,hel,_⟩:=M.hk
 refine⟨_,rfl,x,_,dx,_,_,rfl,hx,z.o_Makes,z.nK,rfl,.inl ⟨rfl,_,SqL.of hes⟩,_,rfl,_,rfl,szb rfl,fun p hp=>?_⟩
 obtain⟨H1,gz,s1,e1⟩:=nwH hp (.tup [v,.ref a])
 rw[gz]
 have hes1:=s1 _ _ hes
 exists ka,es,_,rfl,rfl,hes1,by rw[hel];exact q64 ∅
 have k2:Keep ka H (upd H1 ka (.lst (es++[.ref p]))):=(Keep.same s1).trans (Keep.set ka H1 _)
 have e2:=@q13 H1 ka (.lst (es++[.ref p]))
 have e3:upd H1 ka (.lst (es++[.ref p])) p=some (.tup [v,.ref a]):=(TKeep.set hes1 _ _).1 e1
 generalize upd H1 ka (.lst (es++[.ref p]))=H2 at *
 have M2:=M.snoc hes k2 e3 hv ha hw hl hn e2
 obtain⟨dx2,hx2⟩:=M2.o
 exists _,rfl,x,_,dx2,_,_,rfl,hx2,z.o_Makes,z.nK,rfl,ka,_,rfl,.inl (SqL.of e2),_,_,rfl,rfl
 have en:(((es++[V.ref p]).length:Nat):Int)-1=(rs.length:Int):=by rw[ZM,hel];show((rs.length+1:Nat):Int)-1=_;exact W132
 show Q (.int ((((es++[V.ref p]).length:Nat):Int)-1)) H2
 rw[en]
 exact q _ k2 M2
theorem q675(z:Bz K mg uA uB uC uD uE uF uG uH):ICal P w K mg base 2 uG pn14 (q365 K uG):=by
 have sc:=q668
 refine z.d_I_Makes.cal fun f fd F=>F.k sc fun _ _ _ s H _ Q _ hr h=>?_
 obtain⟨x,b,dx,low,L,rfl,hx,hb,hL,q⟩:=h
 refine⟨_,(q11 (q568 (pv 0) (pv 1) rfl)
 (q11 (q568 (pv 0) (q40 q12) rfl)
 (q15 (q97 (q122 (q497 z) hr.m (pv 0) (q10 q120 (q10 (q34 q12) q12))))))),?_⟩
 exists _,rfl,_,rfl,x,_,dx,_,rfl,hx,z.o_Makes,z.nB,{}
 have hbx:b≠x:=ne_of hb hx (by intro z;cases z)
 have k1:Keep x H (upd H x (.ins uG dx (putF "bounds" (.ref b) []))):=Keep.set x H _
 have e1:upd H x (.ins uG dx (putF "bounds" (.ref b) [])) x=some (.ins uG dx [("bounds", .ref b)]):=q13
 generalize upd H x (.ins uG dx (putF "bounds" (.ref b) []))=H1 at *
 refine⟨szb rfl,fun ka hka=>?_⟩
 have hka0:H ka=none:=by
  cases e:H ka with
  | none=>rfl
  | some o=>
   exfalso
   by_cases hkx:ka=x
   ·rw[hkx,e1]at hka;cases hka
   ·rw[k1 _ _ hkx e]at hka;cases hka
 obtain⟨H2,gz,s2,e2⟩:=nwH hka (.lst [])
 rw[gz]
 exists _,rfl,x,_,dx,_,rfl,s2 _ _ e1,z.o_Makes,z.nK,by show 1<1000;decide
 have hkx:ka≠x:=fun h=>by rw[h,e1]at hka;cases hka
 have k3:Keep x H2 (upd H2 x (.ins uG dx (putF "kept" (.ref ka) [("bounds", .ref b)]))):=Keep.set x H2 _
 have e3:upd H2 x (.ins uG dx (putF "kept" (.ref ka) [("bounds", .ref b)])) x=some (.ins uG dx [("bounds", .ref b),("kept", .ref ka)]):=q13
 generalize upd H2 x (.ins uG dx (putF "kept" (.ref ka) [("bounds", .ref b)]))=H3 at *
 refine⟨_,rfl,x,dx,_,rfl,e3,rfl,szb rfl,fun p hp=>?_⟩
 obtain⟨H4,gz,s4,e4⟩:=nwH hp (.tup [])
 rw[gz]
 have k13:Keep x H H3:=k1.trans ((Keep.same s2).trans k3)
 have M:Mks uG H4 x ka b low L [] []:=⟨⟨dx,s4 _ _ e3⟩,s4 _ _ (k13 _ _ hbx hb),hL,rfl,{},⟨[],s4 _ _ (k3 _ _ hkx e2),rfl,fun j r c g=>by cases g⟩,fun r g=>by cases g⟩
 refine⟨x,ka,b,p,.non,low,L,[],[],[],[],rfl,M,by rw[q72];rfl,e4,(fun _ h=>by cases h),{},{},fun H5 k5 M5=>?_⟩
 refine q ka H5 hka0 ?_ M5
 intro c o hc hco
 refine k5 c o ?_ (s4 _ _ (k13 _ _ hc hco))
 intro hck
 rw[hck,hka0]at hco
 cases hco
theorem q676(z:Bz K mg uA uB uC uD uE uF uG uH):MCal P w K mg base 1 uG "found" pn17 (q366 K uG):=by
 have sc:=q669
 refine z.d_M_found.cal z.o_Makes fun f fd F=>F.k sc fun _ _ _ s H _ Q _ hr h=>?_
 obtain⟨x,ka,b,j,low,L,rs,cs,r,c,rfl,M,g,hc,q⟩:=h
 refine⟨_,(q11 (ps_if (PW.pt (pw_or (q19 op_lt (pv 1) q14 (q21 _)) (q127 (q19 op_ge (pv 1) (pln z.len_ (q10 (q220 (pv 0) rfl) q12)) (q21 _)))))
 (q15 q31)
 q20)
 (q15 (q18 (pix q32 (q220 (pv 0) rfl) (pv 1))))),?_⟩
 obtain⟨dx,hx⟩:=M.o
 obtain⟨es,hes,hel,hE⟩:=M.hk
 obtain⟨p,a,v,e1,e2,e3,e4⟩:=hE j r c g hc
 have hj:=(List.getElem?_eq_some_iff.mp g).1
 exists _,rfl,_,_,rfl,rfl,_,rfl
 refine ite2 (fun c=>absurd (ZI c) W84) (fun _=>?_)
 exists _,rfl,_,rfl,x,_,dx,_,_,rfl,hx,z.o_Makes,z.nK,rfl,ka,_,rfl,.inl (SqL.of hes),_,_,rfl,rfl,_,rfl
 refine ite2 (fun c=>absurd (ZI c) ∅) (fun _=>?_)
 exact⟨_,rfl,x,_,dx,_,_,rfl,hx,z.o_Makes,z.nK,rfl,_,rfl,ka,_,_,_,rfl,rfl,SqL.of hes,q41 e1,q p a v e2 e3 e4⟩
theorem q765(z:Bz K mg uA uB uC uD uE uF uG uH):MCal P w K mg base 2 uG "tree" pn17 (q496 K uG):=by
 have sc:=q745
 refine z.d_M_tree.cal z.o_Makes fun f fd F=>F.k sc fun _ _ _ s H _ Q _ hr h=>?_
 obtain⟨x,ka,b,j,low,L,rs,cs,r,rfl,M,g,q⟩:=h
 exists _,(q15 (q18 (pix q30 (q122 (q676 z) hr.m (pv 0) (q10 (pv 1) q12)) q14)))
 obtain⟨dx,hx⟩:=M.o
 obtain⟨c,hc⟩:=M.row g
 exact⟨_,rfl,x,dx,_,rfl,hx,rfl,_,rfl,x,ka,b,j,low,L,rs,cs,r,c,rfl,M,g,hc,fun p a v e1 e2 _=>⟨p,_,_,_,rfl,rfl,SqT.of e1,rfl,q v e2⟩⟩
theorem q498(z:Bz K mg uA uB uC uD uE uF uG uH):MCal P w K mg base 3 uG "stretch" ["self", "make", "start", "end"] (q232 K uG):=by
 have sc:=q481
 refine z.d_M_stretch.cal z.o_Makes fun f fd F=>F.k sc fun _ _ _ s H _ Q _ hr h=>?_
 obtain⟨x,ka,b,j,st,en,low,L,rs,cs,r,rfl,M,g,h1,h2,q⟩:=h
 refine⟨_,(q11 (pst 4 sc.nd (q122 (q765 z) hr.m (pv 0) (q10 (pv 1) q12)))
 (q11 (ps_if (q332 (q718 op_le op_le op_le q14 (pv 2) (pv 3) (pe_fn (q354 z) hr.m () (q10 (pv 4) q12))))
 (q15 q31)
 q20)
 (q15 (q18 (q34 (q10 (pv 4) (q10 (pv 2) (q10 (pv 3) q12)))))))),?_⟩
 obtain⟨dx,hx⟩:=M.o
 refine⟨_,rfl,x,dx,_,rfl,hx,rfl,_,rfl,x,ka,b,j,low,L,rs,cs,r,rfl,M,g,fun v hv=>?_⟩
 exists _,rfl,_,_,rfl,rfl,_,rfl
 refine ite2 (fun _=>?_) (fun c=>absurd (ZG W13) c)
 exists _,rfl,_,_,rfl,rfl,_,rfl
 refine ite2 (fun _=>?_) (fun c=>absurd (ZG (W93 h1)) c)
 exists _,rfl,v,_,rfl,hv,_,_,rfl,rfl
 rw[q135]
 exists _,rfl
 refine iteNS (W93 h2) ?_
 refine⟨_,rfl,_,rfl,_,rfl,szb rfl,fun p hp=>?_⟩
 have s1:=q16 hp (.tup [v,.int (st:Int),.int (en:Int)])
 exact q p v _ s1 (hv.same s1) q13
theorem q551(z:Bz K mg uA uB uC uD uE uF uG uH):MCal P w K mg base 43 uG "of_row" pn21 (q304 K uG):=by
 have sc:=q540
 refine z.d_M_of_row.cal z.o_Makes fun f fd F=>F.k sc fun _ _ _ s H _ Q _ hr h=>?_
 obtain⟨x,ka,b,l,low,L,rs,cs,r,rfl,M,hl,hw,hn,hm,q⟩:=h
 exists _,(q15 (q18 (q122 (q497 z) hr.m (pv 0) (q10 (pe_fn (q670 z) hr.m () (q10 (q220 (pv 0) rfl) (q10 (pv 1) q12))) (q10 (q34 q12) q12)))))
 obtain⟨dx,hx⟩:=M.o
 refine⟨_,rfl,x,dx,_,rfl,hx,rfl,_,rfl,x,_,dx,_,_,rfl,hx,z.o_Makes,z.nB,rfl,_,rfl,b,l,low,L,r,rfl,SqT.of M.hb,M.hL,hl,(W134 hn),hw,fun H1 v s1 hv=>?_⟩
 refine⟨szb rfl,fun p hp=>?_⟩
 obtain⟨H2,gz,s2,e2⟩:=nwH hp (.tup [])
 rw[gz]
 have s12:=s1.trans s2
 exact⟨x,ka,b,p,v,low,L,rs,cs,r,[],rfl,M.same s12,hv.same s2,e2,hw,hn,hm,q.of s12⟩
theorem lg60{n:Int}(h0:-(10^60)<n)(h1:n<10^60):n.natAbs.log2<1920:=by
 by_cases h:n.natAbs=0
 ·rw[h];decide
 ·have h2:n.natAbs<2^200:=WG (show n.natAbs<10^60 by lia) {}
  have:n.natAbs.log2<200:=(Nat.log2_lt h).mpr h2
  lia
theorem q91{n:Int}(h0:-(10^50)<n)(h1:n<10^50):(tx n).length<=51:=(rd_int (x:=tx n) (rd_fg h0 h1)).2
theorem sl51{n:Nat}(h:n<=100000):n<=sizeLine:=ZT h {}
def BdN(ns:List Int):Prop:=∀ n∈ns,-(10^50)<n/\n<10^50
theorem q766{ns:List Int}(h:BdN ns)(hl:ns.length<=1000):JoinOk " " (ns.map tx)=true:=by
 refine PyProof.Rows.joinOk_of_weight ?_ {}
 have:=StrLaws.sumLen_le (B:=51) (ns.map tx) (fun y hy=>by
  obtain⟨n,hn,rfl⟩:=List.mem_map.mp hy
  exact q91 (h n hn).1 (h n hn).2)
 rw[ZK]at this ⊢
 lia
noncomputable def gTx:V->V
 | .int n=>.str (tx n)
 | v=>v
theorem q767(ns:List Int):(ns.map V.int).map gTx=(ns.map tx).map V.str:=by
 rw[map_map,map_map]
 rfl
theorem q499{x:Str}{c:Nat}(h:x.cps.toList=c::r):Txt.startswith x "-" = decide (c=45):=by
 have hx:x.length=x.cps.toList.length:=by simp[Str.length]
 show(decide (0+("-" : Str).length<=x.length)&&Builtin.Str.subAt x "-" 0)=_
 rw[StrLaws.subAt_eq,h,hx,h,show("-" : Str).cps.toList=[45] by decide +kernel,show("-" : Str).length=1 by decide +kernel]
 have e1:decide (0+1<=(c::r).length)=true:=ZG (by rw[WB];exact W147)
 rw[e1,Bool.true_and]
 show([c]==[45])=_
 by_cases z:c=45
 ·subst z;rfl
 ·rw[ZS z]
  exact beq_eq_false_iff_ne.mpr fun y=>z (List.cons.inj y).1
theorem starts45{x:Str}(h:x.cps.toList=45::r):Txt.startswith x "-" = true:=by
 rw[q499 h]
 rfl
theorem q677{x:Str}{c:Nat}(h:x.cps.toList=c::r)(hc:c≠45):Txt.startswith x "-" = false:=by
 rw[q499 h,ZS hc]
theorem slice1{x:Str}{c:Nat}(h:x.cps.toList=c::r):Txt.slice x (some 1) none=mkS r:=by
 have e:=StrLaws.sliceText_from (x:=x) (i:=1) (by rw[h,WB];lia)
 refine Eq.trans (show Txt.slice x (some 1) none=_ from e) ?_
 rw[h]
 show(⟨((r).take (((c::r).length:Int)-1).toNat).toArray⟩:Str)=mkS r
 rw[WP (by rw[WB];lia)]
 rfl
inductive q159(u0:Fg)(vs:List V)(H:Hp)(Q:VK)(E:XK):Prop
 |mk(n:Int)(_:vs=[.int n])(_:-(10^60)<n)(_:n<10^60)(_:Q (.str (tx n)) H)
inductive q305(K:Fg)(vs:List V)(H:Hp)(Q:VK)(E:XK):Prop
 |mk(r:Addr)(ns:List Int)(_:vs=[.ref r])(_:SqL K H r (ns.map V.int))(_:BdN ns)(_:ns.length<=1000)(_:∀ H',Same H H'->Q (.str (rowT ns)) H')
inductive q160(u0:Fg)(vs:List V)(H:Hp)(Q:VK)(E:XK):Prop
 |mk(x:Str)(_:vs=[.str x])(_:x.length<=100000)(_:∀ H',Same H H'->Q (.bl (figB x.cps.toList)) H')
inductive q161(u0:Fg)(vs:List V)(H:Hp)(Q:VK)(E:XK):Prop
 |mk(x:Str)(n:Int)(_:vs=[.str x])(_:rdN x.cps.toList=some n)(_:∀ H',Same H H'->Q (.int n) H')
theorem q57:z.C P w base 1 "show_number" ["number"] (q159 K):=by
 have sc:=q320
 refine z.d_show_number.cal fun f fd F=>F.k sc fun _ _ _ s H _ Q _ hr h=>?_
 obtain⟨n,rfl,h0,h1,q⟩:=h
 exists _,(q15 (q18 (q29 q27 () z.str_ q62 (q10 (pv 0) q12))))
 exact⟨_,rfl,n,rfl,lg60 h0 h1,q⟩
theorem q552:z.C P w base 2 "show_row" ["row"] (q305 K):=by
 have sc:=q533
 refine z.d_show_row.cal fun f fd F=>F.k sc fun _ _ _ s H _ Q _ hr h=>?_
 obtain⟨r,ns,rfl,hS,hb,hl,q⟩:=h
 exists _,(q15 (q18 (pe_bm WW YO YQ q130 q23 (q10 (q63 (cl:=[]) (cn:=[]) (N:=[]) (fr:=[]) (sc0:=q17 q210) rfl (q35 (pv 0)) (fun C s₂ H₂ fp=>(pe_fn (q57 z) hr.m () (q10 (pv 0) q12))) (by ac_rfl) trivial rfl rfl rfl cok rfl) q12))))
 refine⟨rfl,_,rfl,r,rfl,⟨_,hS⟩,fun D hD=>q205 (K:=K) (xs:=ns.map V.int) (g:=gTx) hS hD (by rw[ZK];exact sl51 ∅) ?_ ?_⟩
 ·rintro x hx H1 Q1 s1 q1
  obtain⟨n,hn,rfl⟩:=List.mem_map.mp hx
  have:=hb n hn
  exact⟨_,rfl,n,rfl,(W28 this),(W33 this),q1⟩
 ·rw[q767]
  exact⟨" ", D,ns.map tx,rfl,rfl,SqL.of q13,q766 hb hl,q _ (q16 hD _)⟩
theorem q328:z.C P w base 1 "are_figures" ["text"] (q160 K):=by
 have sc:=q322
 refine z.d_are_figures.cal fun f fd F=>F.k sc fun _ _ _ s H _ Q _ hr h=>?_
 obtain⟨x,rfl,hl,q⟩:=h
 obtain⟨_,ft,hft,rfl⟩:=z.fig
 refine⟨_,(q11 (ps_if (PW.pt (pw_or (q332 (q567 op_le op_le q14 (q38 q441 () z.len_ q572 (q10 (pv 0) q12)) q14)) (q127 (PW.pt (q431 (q19 op_eq (pix ix_str (pv 0) q14) q23 (q21 _)) (q256 (q19 op_ne (pv 0) q23 (q21 _))))))))
 (q15 (q18 pe_bl))
 q20)
 (q15 (q18 (q38 (call_all rfl) () z.all_ bt_all (q10 (q63 (cl:=[]) (cn:=[]) (N:=[]) (fr:=[]) (sc0:=q17 q115) rfl (pi_str (pv 0)) (fun C s₂ H₂ fp=>(q518 q689 (pv 0) (q516 (v:=.str "0123456789") (u:=.str "0123456789" ft) () hft ⟨_,rfl⟩) rfl)) (by ac_rfl) trivial rfl rfl rfl cok rfl) q12))))),?_⟩
 have hz:x.length<=sizeLine:=sl51 hl
 have hx:x.length=x.cps.toList.length:=by simp[Str.length]
 have fin:(1<=x.cps.toList.length/\x.cps.toList.length<=50)->(!(decide (x.cps.toList.head? = some 48)&&!decide (x.cps.toList=[48])))=true -> ∀ D,H D=none->Q (.bl (((x.cps.toList.map isD).all id))) (upd H D (.lst (x.cps.toList.map fun c=>V.bl (isD c)))):=fun h1 h2 D hD=>by
  have e:figB x.cps.toList=(x.cps.toList.map isD).all id:=by
   unfold figB
   rw[ZG h1.1,ZG h1.2,h2,all_map]
   rfl
  rw[<- e]
  exact q _ (q16 hD _)
 have no:∀ b:Bool,figB x.cps.toList=b->Q (.bl b) H:=fun b e=>by rw[<- e];exact q H (Same.refl H)
 exists _,rfl,x,rfl,hz,_,_,rfl,rfl,_,rfl
 rw[hx]
 by_cases c1:1<=x.cps.toList.length
 ·rw[ZG (show(1:Int)<=(x.cps.toList.length:Int) by lia)]
  refine iteT ⟨_,_,rfl,rfl,_,rfl,?_⟩
  by_cases c2:x.cps.toList.length<=50
  ·rw[ZG (show(x.cps.toList.length:Int)<=50 by lia)]
   refine iteF ?_
   cases e:x.cps.toList with
   | nil=>rw[e]at c1;exact absurd c1 {}
   | cons c r=>
    exists _,rfl,x,0,c,rfl,rfl,hz,by rw[e];exact q41 (j:=0) rfl,rfl,_,rfl
    by_cases c3:c=48
    ·subst c3
     rw[ZG (show V.str ⟨#[48]⟩=V.str "0" from congrArg V.str (by decide +kernel))]
     refine iteT ⟨_,rfl,rfl,_,rfl,?_⟩
     by_cases c4:r=[]
     ·subst c4
      rw[ZG (show V.str x=V.str "0" from congrArg V.str (q753 (by rw[e];decide +kernel)))]
      refine iteF ?_
      exact⟨_,rfl,x,rfl,fun D hD=>q590 (x:=x) (g:=fun c=>V.bl (isD c)) hD hz (fun c hc H1 Q1 s1 q1=>⟨_,rfl,⟨#[c]⟩, "0123456789", rfl,rfl,by rw[StrLaws.found_one];exact q1⟩)
   ⟨D,x.cps.toList.map isD,rfl,SqL.of (by rw[map_map];exact q13),fin ⟨c1,c2⟩ (by rw[e];decide) D hD⟩⟩
     ·rw[ZS (show ¬ V.str x=V.str "0" from fun z=>c4 (by
       have z1:x.cps.toList=[48]:=by rw[V.str.inj z];decide +kernel
       rw[e]at z1
       exact(List.cons.inj z1).2))]
      refine iteT ?_
      refine no _ ?_
      unfold figB
      rw[e,ZS (show ¬ 48::r=[48]from fun z=>c4 (List.cons.inj z).2)]
      simp
    ·rw[ZS (show ¬ V.str ⟨#[c]⟩=V.str "0" from fun z=>c3 (by
      have z1:[c]=[48]:=by
       have z2:=congrArg (fun y:Str=>y.cps.toList) (V.str.inj z)
       rw[show("0" : Str).cps.toList=[48] by decide +kernel]at z2
       exact z2
      exact(List.cons.inj z1).1))]
     refine iteF ?_
     refine iteF ?_
     exact⟨_,rfl,x,rfl,fun D hD=>q590 (x:=x) (g:=fun c=>V.bl (isD c)) hD hz (fun c hc H1 Q1 s1 q1=>⟨_,rfl,⟨#[c]⟩, "0123456789", rfl,rfl,by rw[StrLaws.found_one];exact q1⟩)
   ⟨D,x.cps.toList.map isD,rfl,SqL.of (by rw[map_map];exact q13),fin ⟨c1,c2⟩ (by rw[e,ZS (show ¬(c::r).head? = some 48 from fun z=>c3 (Option.some.inj z))];rfl) D hD⟩⟩
  ·rw[ZS (show ¬(x.cps.toList.length:Int)<=50 by lia)]
   refine iteT ?_
   refine no _ ?_
   unfold figB
   rw[ZS c2]
   simp
 ·rw[ZS (show ¬(1:Int)<=(x.cps.toList.length:Int) by lia)]
  refine iteF ⟨_,rfl,?_⟩
  refine iteT ?_
  refine no _ ?_
  unfold figB
  rw[ZS c1]
  rfl
theorem q329:z.C P w base 2 "read_number" ["text"] (q161 K):=by
 have sc:=q321
 refine z.d_read_number.cal fun f fd F=>F.k sc fun _ _ _ s H _ Q _ hr h=>?_
 obtain⟨x,n,rfl,hn,q⟩:=h
 refine⟨_,(q11 (ps_if (q332 (q331 (q38 q382 () z.isinstance_ q113 (q10 (pv 0) (q10 (q517 (v:=.ty "str") (u:=.type "str") () z.str_ q62 rfl) q12)))))
 (q15 q31)
 q20)
 (q11 (pst 1 sc.nd (q142 (q331 (pe_bm WW PySem.F.slot_str_startswith PySem.F.type_str_startswith q726 (pv 0) (q10 q23 q12))) (q80 sl_str (pv 0) (q88 q14) q110) (pv 0)))
 (q11 (ps_if (PW.pt (pw_or (q19 op_eq (pv 0) q23 (q21 _)) (q127 (q332 (q331 (pe_fn (q328 z) hr.m () (q10 (pv 1) q12)))))))
 (q15 q31)
 q20)
 (q15 (q18 (q29 q727 () z.int_ bt_int (q10 (pv 0) q12))))))),?_⟩
 obtain⟨hi,hl⟩:=rd_int hn
 have hz:x.length<=sizeLine:=sl51 ∅
 exists _,rfl,_,_,_,_,rfl,.str _,q268,true,rfl
 refine iteF ?_
 exists _,rfl,rfl,x, "-", rfl,rfl,_,rfl
 cases e:x.cps.toList with
 | nil=>rw[e]at hn;cases hn
 | cons c r=>
  rw[e,q251]at hn
  by_cases c1:c=45
  ·subst c1
   rw[ZL rfl]at hn
   have hf:figB r=true/\r≠[48]:=by
    by_cases z:figB r=true/\r≠[48]
    ·exact z
    ·rw[ZJ z]at hn;cases hn
   rw[starts45 e]
   refine iteT ⟨_,rfl,_,rfl,x,rfl,hz,?_⟩
   rw[slice1 e]
   exists _,rfl,rfl,_,rfl
   rw[ZS (show ¬ V.str x=V.str "-0" from fun z=>hf.2 (by
    have z1:x.cps.toList=[45,48]:=by rw[V.str.inj z];decide +kernel
    rw[e]at z1
    exact(List.cons.inj z1).2))]
   refine iteF ⟨_,rfl,mkS r,rfl,by rw[mkS_len];have:=(q545 hf.1).2.2;lia,fun H1 s1=>⟨_,rfl,?_⟩⟩
   rw[mkS_l,hf.1]
   refine iteF ?_
   exact⟨_,rfl,x,n,rfl,∅,hi,q H1 s1⟩
  ·rw[ZJ c1]at hn
   have hf:figB (c::r)=true:=by
    by_cases z:figB (c::r)=true
    ·exact z
    ·rw[ZJ z]at hn;cases hn
   rw[q677 e c1]
   refine iteF ⟨_,rfl,?_⟩
   exists _,rfl,rfl,_,rfl
   rw[ZS (show ¬ V.str x=V.str "-0" from fun z=>c1 (by
    have z1:x.cps.toList=[45,48]:=by rw[V.str.inj z];decide +kernel
    rw[e]at z1
    exact(List.cons.inj z1).1))]
   refine iteF ⟨_,rfl,x,rfl,∅,fun H1 s1=>⟨_,rfl,?_⟩⟩
   rw[e,hf]
   refine iteF ?_
   exact⟨_,rfl,x,n,rfl,∅,hi,q H1 s1⟩
theorem own2(k:Same H H')(hr:H r=none):Same H (upd H' r o):=fun c u z=>by
 rw[q28 (q24 z hr)]
 exact k c u z
theorem q500(x:Str)(w:Nat):∀(cuts:List Nat)(a:Nat),(StrLaws.partsFrom x w a cuts).length=cuts.length+1
 | [],a=>rfl
 | c::cs,a=>by
  show(_::StrLaws.partsFrom x w _ cs).length=_
  rw[WB,q500 x w cs,WB]
theorem q413(x y:Str):(Builtin.Str.partsBetween x (Builtin.Str.occurrences x y 0 x.length (x.length+1)) y.length).length<=x.length+2:=by
 rw[StrLaws.partsBetween_eq,q500]
 have:=StrLaws.occ_length_le x y 0 x.length (x.length+1)
 lia
abbrev P3:=Nat×Nat×Nat
inductive Vl where
 | n (i:Int)
 | s (p:P3)
 | g (ps:List P3)
noncomputable def p3s(p:P3):List Int:=[(p.1:Int),(p.2.1:Int),(p.2.2:Int)]
noncomputable def tP(p:P3):Str:=Str.join ⟨#[58]⟩ ((p3s p).map tx)
noncomputable def tG(ps:List P3):Str:=Str.join ⟨#[43]⟩ (ps.map tP)
noncomputable def Vl.wd:Vl->Str
 | .n i=>tx i
 | .s p=>tP p
 | .g ps=>tG ps
noncomputable abbrev sayT(nm:Str)(xs:List Vl):Str:=Str.join ⟨#[32]⟩ (nm::xs.map Vl.wd)
def SmP(p:P3):Prop:=p.1<=1000/\p.2.1<=1000/\p.2.2<=1000
def VlOk(k:Str):Vl->Prop
 | .n i=>(-(10^50)<i/\i<10^50)/\((k = "count" /\ 0<=i)\/k = "number" \/ (k = "part" /\ 1<=i))
 | .s p=>k = "stretch" /\ SmP p
 | .g ps=>k = "gathering" /\ ps≠[]/\ps.length<=8 /\ ∀ p∈ps,SmP p
noncomputable def PtAt(K:Fg)(H:Hp)(v:V)(p:P3):Prop:=∃ a,v = .ref a/\SqT K H a ((p3s p).map V.int)
noncomputable def PtsAt(K:Fg)(H:Hp)(xs:List V)(ps:List P3):Prop:=xs.length=ps.length /\ ∀(j:Nat)(x:V)(p:P3),xs[j]? = some x->ps[j]? = some p->PtAt K H x p
noncomputable def VlAt(K:Fg)(H:Hp)(v:V):Vl->Prop
 | .n i=>v = .int i
 | .s p=>PtAt K H v p
 | .g ps=>∃ D xs,v = .ref D/\SqL K H D xs/\PtsAt K H xs ps
noncomputable def VlsAt(K:Fg)(H:Hp)(xs:List V)(ys:List Vl):Prop:=xs.length=ys.length /\ ∀(j:Nat)(x:V)(y:Vl),xs[j]? = some x->ys[j]? = some y->VlAt K H x y
theorem PtAt.same(h:PtAt K H v p)(s:Same H H'):PtAt K H' v p:=by
 obtain⟨a,e,h⟩:=h
 exact⟨a,e,s.seqT h⟩
theorem PtsAt.same(h:PtsAt K H xs ps)(s:Same H H'):PtsAt K H' xs ps:=⟨h.1,fun j x p h1 h2=>(h.2 j x p h1 h2).same s⟩
theorem VlAt.same(h:VlAt K H v x)(s:Same H H'):VlAt K H' v x:=by
 cases x with
 | n i=>exact h
 | s p=>exact PtAt.same h s
 | g ps=>
  obtain⟨D,xs,e,h1,h2⟩:=h
  exact⟨D,xs,e,s.seq h1,h2.same s⟩
theorem q414(k:Keep D H H')(e:H D=some (.lst zs))(h:SqT K H a xs):SqT K H' a xs:=by
 rcases h with h | h
 ·rcases h with h | ⟨o,h⟩
  ·exact .inl (.inl (k _ _ (ne_of h e (by intro z;cases z)) h))
  ·exact .inl (.inr ⟨o,k _ _ (ne_of h e (by intro z;cases z)) h⟩)
 ·exact .inr h
theorem q768{α:Type}{R:V->α->Prop}{xs:List V}{ps:List α}{x:V}{p:α}(h:xs.length=ps.length /\ ∀(j:Nat)(x:V)(p:α),xs[j]? = some x->ps[j]? = some p->R x p)(hx:R x p):(xs++[x]).length=(ps++[p]).length /\ ∀(j:Nat)(y:V)(q:α),(xs++[x])[j]? = some y->(ps++[p])[j]? = some q->R y q:=by
 refine⟨by rw[ZM,ZM,h.1] <;> rfl,fun j y k h1 h2=>?_⟩
 have hl:=h.1
 rcases q86 h1 with ⟨a1,a2⟩ | ⟨a1,a2⟩
 ·rcases q86 h2 with ⟨b1,b2⟩ | ⟨b1,b2⟩
  ·exact h.2 j y k a2 b2
  ·exact(W157 a1 b1 h).elim
 ·rcases q86 h2 with ⟨b1,b2⟩ | ⟨b1,b2⟩
  ·exact(W150 b1 a1 h).elim
  ·rw[a2,b2];exact hx
theorem q415{c d:Nat}:∀{xs:List Str},d∈(Str.join ⟨#[c]⟩ xs).cps.toList->d=c \/ ∃ x∈xs,d∈x.cps.toList
 | [],h=>by
  have e:(Str.join ⟨#[c]⟩ []).cps.toList=[]:=rfl
  rw[e]at h
  cases h
 | [x],h=>.inr ⟨x,ZQ ..,h⟩
 | x::y::r,h=>by
  rw[q107,mem_append,mem_append]at h
  rcases h with h | h | h
  ·exact .inr ⟨x,ZQ ..,h⟩
  ·exact .inl (by simpa using h)
  ·rcases q415 h with e | ⟨z,h1,h2⟩
   ·exact .inl e
   ·exact .inr ⟨z,ZU _ h1,h2⟩
theorem q146{c B:Nat}:∀(xs:List Str),(∀ p∈xs,p.length<=B)->(Str.join ⟨#[c]⟩ xs).length<=xs.length*(B+1)
 | [],_=>by
  show(Str.join ⟨#[c]⟩ []).length<=0*_
  rw[Nat.zero_mul]
  exact ZF 0
 | [x],h=>by
  have:=h x (ZQ ..)
  show x.length<=1*(B+1)
  lia
 | x::y::r,h=>by
  have h1:=h x (ZQ ..)
  have e:∀ z:Str,z.length=z.cps.toList.length:=fun z=>by simp[Str.length]
  have ih:=q146 (c:=c) (y::r) fun p hp=>h p (ZU _ hp)
  rw[e]at ih h1 ⊢
  rw[q107,ZM,ZM]
  show _+(1+_)<=((y::r).length+1)*(B+1)
  rw[Nat.add_mul]
  lia
theorem q769{n:Nat}{c:Nat}(hc:c<48\/57<c):c ∉ fg (n:Int):=fun h=>by
 have:=q486 n c h
 lia
theorem q553{c:Nat}(hc:c<48\/58<c):c ∉ (tP p).cps.toList:=fun h=>by
 rcases q415 h with e | ⟨x,h1,h2⟩
 ·lia
 ·obtain⟨i,hi,rfl⟩:=List.mem_map.mp h1
  have hi':i=(p.1:Int)\/i=(p.2.1:Int)\/i=(p.2.2:Int):=by simpa [p3s] using hi
  rcases hi' with rfl | rfl | rfl <;> exact q769 (W129 hc) h2
theorem wd_free(x:Vl):32 ∉ x.wd.cps.toList:=by
 cases x with
 | n i=>exact fg_no32
 | s p=>exact q553 (.inl {})
 | g ps=>
  intro h
  rcases q415 h with e | ⟨x,h1,h2⟩
  ·exact absurd e {}
  ·obtain⟨p,_,rfl⟩:=List.mem_map.mp h1
   exact q553 (.inl {}) h2
theorem q416{n:Nat}(h:n<=1000):(tx (n:Int)).length<=51:=q91 ∅ ∅
theorem q367(h:SmP p):(tP p).length<=156:=q146 (B:=51) _ fun x hx=>by
 obtain⟨i,hi,rfl⟩:=List.mem_map.mp hx
 have hi':i=(p.1:Int)\/i=(p.2.1:Int)\/i=(p.2.2:Int):=by simpa [p3s] using hi
 rcases hi' with rfl | rfl | rfl
 ·exact q416 h.1
 ·exact q416 h.2.1
 ·exact q416 h.2.2
theorem wd_len{x:Vl}(h:VlOk k x):x.wd.length<=1300:=by
 cases x with
 | n i=>exact ZT (q91 h.1.1 h.1.2) {}
 | s p=>exact ZT (q367 h.2) {}
 | g ps=>
  have:=q146 (c:=43) (B:=156) (ps.map tP) fun x hx=>by
   obtain⟨p,hp,rfl⟩:=List.mem_map.mp hx
   exact q367 (h.2.2.2 p hp)
  rw[ZK]at this
  have h8:=Nat.mul_le_mul h.2.2.1 (ZF (156+1))
  exact ZT this (ZT h8 {})
structure Say(nm:Str)(ks:List Str)(xs:List Vl):Prop where
 len:ks.length=xs.length
 few:xs.length<=200
 kd:(nm = "row" /\ ks=List.replicate xs.length ("number" : Str))\/(nm,ks)∈forms
 val:∀(i:Nat)(k:Str)(x:Vl),ks[i]? = some k->xs[i]? = some x->VlOk k x
noncomputable def nms:List Str := "row" :: forms.map (·.1)
theorem Say.nm{nm:Str}{ks:List Str}{xs:List Vl}(s:Say nm ks xs):nm∈nms:=by
 rcases s.kd with ⟨h,_⟩ | h
 ·rw[h];exact ZQ ..
 ·exact ZU _ (mem_map_of_mem (f:=(·.1)) h)
theorem nms_free:∀ x∈nms,32 ∉ x.cps.toList:=by decide +kernel
theorem nms_len:∀ x∈nms,x.length<=7:=by decide +kernel
theorem nms_lead:∀ x∈nms,inV (.str x) [.str "paper", .str "shows"]=false:=by decide +kernel
theorem q770{xs:List Vl}(s:Say nm ks xs):Txt.split (sayT nm xs) " " = nm::xs.map Vl.wd:=by
 rw[spc]
 refine q214 (by simp) fun p hp=>?_
 rcases List.mem_cons.mp hp with rfl | hp
 ·exact nms_free _ s.nm
 ·obtain⟨m,_,rfl⟩:=List.mem_map.mp hp
  exact wd_free m
theorem say_len(s:Say nm ks xs):(sayT nm xs).length<=300000:=by
 have hl:=s.len
 have:=q146 (c:=32) (B:=1300) (nm::xs.map Vl.wd) fun p hp=>by
  rcases List.mem_cons.mp hp with rfl | hp
  ·exact ZT (nms_len _ s.nm) {}
  ·obtain⟨m,hm,rfl⟩:=List.mem_map.mp hp
   obtain⟨i,hi,e⟩:=getElem_of_mem hm
   exact wd_len (s.val i ks[i] m (ZP ∅) (by rw[<- e];exact ZP hi))
 have hf:=s.few
 rw[WB,ZK]at this
 have h2:(xs.length+1)*(1300+1)<=201*1301:=Nat.mul_le_mul ∅ {}
 exact ZT this ∅
theorem sl300{n:Nat}(h:n<=400000):n<=sizeLine:=ZT h {}
def Fr(H:Hp)(v:V):Prop:=∀ a,v = .ref a->H a=none
inductive q233(u0:Fg)(vs:List V)(H:Hp)(Q:VK)(E:XK):Prop
 |mk(n:Int)(_:vs=[.str (tx n)])(_:-(10^50)<n)(_:n<10^50)(_:∀ H',Same H H'->Q (.int n) H')
inductive q306(u0:Fg)(vs:List V)(H:Hp)(Q:VK)(E:XK):Prop
 |mk(n:Int)(_:vs=[.str (tx n)])(_:0<=n)(_:n<10^50)(_:∀ H',Same H H'->Q (.int n) H')
inductive q368(u0:Fg)(vs:List V)(H:Hp)(Q:VK)(E:XK):Prop
 |mk(n:Int)(_:vs=[.str (tx n)])(_:1<=n)(_:n<10^50)(_:∀ H',Same H H'->Q (.int n) H')
inductive q369(K:Fg)(vs:List V)(H:Hp)(Q:VK)(E:XK):Prop
 |mk(p:P3)(_:vs=[.str (tP p)])(_:SmP p)(_:∀ v H',Same H H'->PtAt K H' v p->Fr H v->Q v H')
inductive q307(K:Fg)(vs:List V)(H:Hp)(Q:VK)(E:XK):Prop
 |mk(ps:List P3)(_:vs=[.str (tG ps)])(_:ps≠[])(_:ps.length<=8)(_:(∀ p∈ps,SmP p))(_:∀(D:Addr)(xs:List V)(H':Hp),Same H H'->H' D=some (.lst xs)->PtsAt K H' xs ps->H D=none->Q (.ref D) H')
inductive q308(K:Fg)(vs:List V)(H:Hp)(Q:VK)(E:XK):Prop
 |mk(k:Str)(x:Vl)(_:vs=[.str k,.str x.wd])(_:VlOk k x)(_:∀ v H',Same H H'->VlAt K H' v x->Fr H v->Q v H')
inductive q234(K:Fg)(vs:List V)(H:Hp)(Q:VK)(E:XK):Prop
 |mk(ka wa:Addr)(nm:Str)(ks:List Str)(xs:List Vl)(_:vs=[.ref ka,.ref wa])(_:Say nm ks xs)(_:SqT K H ka (ks.map V.str))(_:SqL K H wa ((xs.map Vl.wd).map V.str))(_:∀(D:Addr)(ys:List V)(H':Hp),Same H H'->H' D=some (.lst ys)->VlsAt K H' ys xs->Q (.ref D) H')
inductive q309(K:Fg)(vs:List V)(H:Hp)(Q:VK)(E:XK):Prop
 |mk(nm:Str)(ks:List Str)(xs:List Vl)(_:vs=[.str "", .str nm,.int (xs.length:Int)]) (_:Say nm ks xs) (_:∀(a:Addr)(H':Hp),Same H H'->SqT K H' a (ks.map V.str)->Q (.ref a) H')
inductive q235(K:Fg)(vs:List V)(H:Hp)(Q:VK)(E:XK):Prop
 |mk(nm:Str)(ks:List Str)(xs:List Vl)(_:vs=[.str (sayT nm xs)])(_:Say nm ks xs)(_:∀(p D:Addr)(ys:List V)(H':Hp),Same H H'->H' p=some (.tup [.str "", .str nm,.ref D])->H' D=some (.lst ys)->VlsAt K H' ys xs->Q (.ref p) H')
theorem weq(h:a=b):decide (V.str a=V.str b)=true:=ZG (congrArg V.str h)
theorem wne(h:a≠b):decide (V.str a=V.str b)=false:=ZS fun z=>h (V.str.inj z)
theorem q136:z.C P w base 3 "number_of" pn12 (q233 K):=by
 have sc:=q474
 refine z.d_number_of.cal fun f fd F=>F.k sc fun _ _ _ s H _ Q _ hr h=>?_
 obtain⟨n,rfl,h0,h1,q⟩:=h
 exists _,(q15 (ps_tryN rfl (q15 (q18 (pe_fn (q329 z) hr.m () (q10 (pv 0) q12))))))
 exact⟨_,rfl,tx n,n,rfl,rd_fg h0 h1,q⟩
theorem q310:z.C P w base 4 "count_of" pn12 (q306 K):=by
 have sc:=q534
 refine z.d_count_of.cal fun f fd F=>F.k sc fun _ _ _ s H _ Q _ hr h=>?_
 obtain⟨n,rfl,h0,h1,q⟩:=h
 refine⟨_,(q11 (pst 1 sc.nd (pe_fn (q136 z) hr.m () (q10 (pv 0) q12)))
 (q11 (ps_if (q19 op_lt (pv 1) q14 (q21 _))
 (q15 q31)
 q20)
 (q15 (q18 (pv 1))))),?_⟩
 refine⟨_,rfl,n,rfl,∅,h1,fun H1 s1=>⟨_,rfl,_,_,rfl,rfl,_,rfl,?_⟩⟩
 refine ite2 (fun c=>absurd (ZI c) ∅) (fun _=>?_)
 exact⟨_,rfl,q H1 s1⟩
theorem q678:z.C P w base 4 "part_of" pn12 (q368 K):=by
 have sc:=q666
 refine z.d_part_of.cal fun f fd F=>F.k sc fun _ _ _ s H _ Q _ hr h=>?_
 obtain⟨n,rfl,h0,h1,q⟩:=h
 refine⟨_,(q11 (pst 1 sc.nd (pe_fn (q136 z) hr.m () (q10 (pv 0) q12)))
 (q11 (ps_if (q19 op_lt (pv 1) q14 (q21 _))
 (q15 q31)
 q20)
 (q15 (q18 (pv 1))))),?_⟩
 refine⟨_,rfl,n,rfl,∅,h1,fun H1 s1=>⟨_,rfl,_,_,rfl,rfl,_,rfl,?_⟩⟩
 refine ite2 (fun c=>absurd (ZI c) ∅) (fun _=>?_)
 exact⟨_,rfl,q H1 s1⟩
theorem q370:z.C P w base 5 "spot_of" pn12 (q369 K):=by
 have sc:=q667
 refine z.d_spot_of.cal fun f fd F=>F.k sc fun _ _ _ s H _ Q _ hr h=>?_
 obtain⟨p,rfl,hp,q⟩:=h
 refine⟨_,(q11 (pst 1 sc.nd (pe_bm WW PySem.F.slot_str_split PySem.F.type_str_split q390 (pv 0) (q10 q23 q12)))
 (q11 (ps_if (q19 op_ne (pln z.len_ (q10 (pv 1) q12)) q14 (q21 _))
 (q15 q31)
 q20)
 (q15 (q18 (q29 q379 () z.tuple_ q247 (q10 (q63 (cl:=[]) (cn:=[]) (N:=[]) (fr:=[]) (sc0:=q17 q285) rfl (q35 (pv 1)) (fun C s₂ H₂ fp=>(pe_fn (q310 z) hr.m () (q10 (pv 0) q12))) (by ac_rfl) trivial rfl rfl rfl cok rfl) q12)))))),?_⟩
 have hl:=q367 hp
 have hc:=q413 (tP p) ":"
 have hs:Txt.split (tP p) ":" = (p3s p).map tx:=by
  rw[show(":" : Str)=⟨#[58]⟩ by decide +kernel]
  refine q214 (by simp[p3s]) fun x hx=>?_
  obtain⟨i,hi,rfl⟩:=List.mem_map.mp hx
  have hi':i=(p.1:Int)\/i=(p.2.1:Int)\/i=(p.2.2:Int):=by simpa [p3s] using hi
  rcases hi' with rfl | rfl | rfl <;> exact q769 (.inr {})
 refine⟨_,rfl,rfl,_, ":", rfl,rfl,by decide +kernel,sl51 ∅,sl51 ∅,by rw[hs,ZK];exact sl51 (by show 3<=_;decide),fun l hl1=>?_⟩
 rw[hs]
 obtain⟨H1,gz,s1,e1⟩:=nwH hl1 (.lst (((p3s p).map tx).map V.str))
 rw[gz]
 refine⟨_,rfl,l,_,rfl,.inl (SqL.of e1),rfl,_,rfl,iteNS rfl ?_⟩
 refine⟨_,rfl,l,rfl,⟨_,SqL.of e1⟩,fun D hD=>q67 (K:=K) (xs:=((p3s p).map tx).map V.str) (sl51 (by show 3<=_;decide))
  (fun i ys H2=>ys=((p3s p).take i).map V.int/\i<=3/\Same H1 H2/\H2 D=some (.lst ys)) ⟨rfl,ZX _,q16 hD _,q13⟩
  (fun i ys H2 ⟨_,_,k2,_⟩=>SqL.of (k2 _ _ e1)) (fun i ys H2 ⟨e,hi,_,h4⟩=>⟨h4,by rw[e,ZK,WL];show min i 3=i;lia⟩) ?_ ?_⟩
 ·rintro i v ys H2 hv ⟨e,hi,k2,h4⟩
  rw[WE,WE]at hv
  cases hy:(p3s p)[i]? with
  | none=>rw[hy]at hv;cases hv
  | some n=>
   rw[hy]at hv
   cases hv
   have hi':n=(p.1:Int)\/n=(p.2.1:Int)\/n=(p.2.2:Int):=by simpa [p3s] using ZV hy
   have hn:0<=n/\n<10^50:=by
    have:=hp.1
    have:=hp.2.1
    have:=hp.2.2
    rcases hi' with rfl | rfl | rfl <;> lia
   refine⟨_,rfl,n,rfl,hn.1,hn.2,fun H3 s3=>⟨s3 _ _ h4,?_,?_,own2 (k2.trans s3) hD,q13⟩⟩
   ·rw[e,WK,hy,WF]
    rfl
   ·have:i<3:=(List.getElem?_eq_some_iff.mp hy).1
    exact W66 this hi
 ·rintro ys H2 ⟨e,hi,k2,h4⟩
  have e':ys=(p3s p).map V.int:=e
  rw[e']at h4
  refine⟨D,_,rfl,.inl ⟨SqL.of h4,fun t ht=>?_⟩⟩
  exact q _ _ (s1.trans (k2.trans (q16 ht _))) ⟨t,rfl,SqT.of q13⟩ fun a ha=>by cases ha;exact(s1.trans k2).free ht
theorem q554:z.C P w base 6 "spots_of" pn12 (q307 K):=by
 have sc:=q535
 refine z.d_spots_of.cal fun f fd F=>F.k sc fun _ _ _ s H _ Q _ hr h=>?_
 obtain⟨ps,rfl,hne,h8,hp,q⟩:=h
 refine⟨_,(q11 (pst 1 sc.nd (pe_bm WW PySem.F.slot_str_split PySem.F.type_str_split q390 (pv 0) (q10 q23 q12)))
 (q11 (ps_if (q19 op_gt (pln z.len_ (q10 (pv 1) q12)) q14 (q21 _))
 (q15 q31)
 q20)
 (q15 (q18 (q63 (cl:=[]) (cn:=[]) (N:=[]) (fr:=[]) (sc0:=q17 q211) rfl (q35 (pv 1)) (fun C s₂ H₂ fp=>(pe_fn (q370 z) hr.m () (q10 (pv 0) q12))) (by ac_rfl) trivial rfl rfl rfl cok rfl))))),?_⟩
 have hl:(tG ps).length<=1300:=wd_len (x:=.g ps) (k := "gathering") ⟨rfl,hne,h8,hp⟩
 have hc:=q413 (tG ps) "+"
 have hs:Txt.split (tG ps) "+" = ps.map tP:=by
  rw[show("+" : Str)=⟨#[43]⟩ by decide +kernel]
  refine q214 (by simpa using hne) fun x hx=>?_
  obtain⟨i,hi,rfl⟩:=List.mem_map.mp hx
  exact q553 (.inl {})
 refine⟨_,rfl,rfl,_, "+", rfl,rfl,by decide +kernel,sl51 ∅,sl51 ∅,by rw[hs,ZK];exact sl51 (W192 h8),fun l hl1=>?_⟩
 rw[hs]
 obtain⟨H1,gz,s1,e1⟩:=nwH hl1 (.lst ((ps.map tP).map V.str))
 rw[gz]
 have hlen:((ps.map tP).map V.str).length=ps.length:=by rw[ZK,ZK]
 exists _,rfl,l,_,rfl,.inl (SqL.of e1),_,_,rfl,rfl,_,rfl
 rw[hlen]
 refine ite2 (fun c=>absurd (ZI c) ∅) (fun _=>?_)
 refine⟨_,rfl,l,rfl,⟨_,SqL.of e1⟩,fun D hD=>q67 (K:=K) (xs:=(ps.map tP).map V.str) (by rw[hlen];exact sl51 ∅)
  (fun i ys H2=>H2 D=some (.lst ys)/\ys.length=i/\Same H1 H2/\PtsAt K H2 ys (ps.take i)) ⟨q13,rfl,q16 hD _,⟨rfl,fun j x p h1 _=>by cases h1⟩⟩
  (fun i ys H2 ⟨_,_,k2,_⟩=>SqL.of (k2 _ _ e1)) (fun i ys H2 ⟨h4,e,_,_⟩=>⟨h4,e⟩) ?_ ?_⟩
 ·rintro i v ys H2 hv ⟨h4,e,k2,hA⟩
  rw[WE,WE]at hv
  cases hy:ps[i]? with
  | none=>rw[hy]at hv;cases hv
  | some p=>
   rw[hy]at hv
   cases hv
   refine⟨_,rfl,p,rfl,hp p (ZV hy),fun v H3 s3 hv3 _=>?_⟩
   have e3:=s3 _ _ h4
   have kD:Keep D H3 (upd H3 D (.lst (ys++[v]))):=Keep.set D H3 _
   exists e3,q13,by rw[ZM,e] <;> rfl,own2 (k2.trans s3) hD
   rw[WK,hy]
   have up:∀ x p,PtAt K H3 x p->PtAt K (upd H3 D (.lst (ys++[v]))) x p:=fun x p ⟨a,e,h⟩=>⟨a,e,q414 kD e3 h⟩
   exact q768 ⟨hA.1,fun j x p h1 h2=>up x p ((hA.2 j x p h1 h2).same s3)⟩ (up v p hv3)
 ·rintro ys H2 ⟨h4,e,k2,hA⟩
  rw[hlen,WS]at hA
  exact q D ys H2 (s1.trans k2) h4 hA (s1.free hD)
theorem q555:z.C P w base 7 "value_of" ["kind", "word"] (q308 K):=by
 have sc:=q537
 refine z.d_value_of.cal fun f fd F=>F.k sc fun _ _ _ s H _ Q _ hr h=>?_
 obtain⟨k,x,rfl,hk,q⟩:=h
 refine⟨_,(q11 (ps_if (q19 op_eq (pv 0) q23 (q21 _))
 (q15 (q18 (pe_fn (q310 z) hr.m () (q10 (pv 1) q12))))
 q20)
 (q11 (ps_if (q19 op_eq (pv 0) q23 (q21 _))
 (q15 (q18 (pe_fn (q136 z) hr.m () (q10 (pv 1) q12))))
 q20)
 (q11 (ps_if (q19 op_eq (pv 0) q23 (q21 _))
 (q15 (q18 (pe_fn (q678 z) hr.m () (q10 (pv 1) q12))))
 q20)
 (q11 (ps_if (q19 op_eq (pv 0) q23 (q21 _))
 (q15 (q18 (pe_fn (q370 z) hr.m () (q10 (pv 1) q12))))
 q20)
 (q11 (ps_if (q19 op_eq (pv 0) q23 (q21 _))
 (q15 (q18 (pe_fn (q554 z) hr.m () (q10 (pv 1) q12))))
 q20)
 (q11 q31
 (q11 q31
 (q11 q31
 (q15 q31))))))))),?_⟩
 exists _,rfl,rfl,_,rfl
 cases x with
 | n i=>
  obtain⟨⟨h0,h1⟩,hk⟩:=hk
  have fin:∀ H',Same H H'->Q (.int i) H':=fun H' s'=>q _ H' s' rfl (fun a ha=>by cases ha)
  rcases hk with ⟨rfl,hk⟩ | rfl | ⟨rfl,hk⟩
  ·rw[weq rfl]
   exact iteT ⟨_,rfl,i,rfl,hk,h1,fin⟩
  ·rw[wne (by decide +kernel)]
   refine iteF ⟨_,rfl,rfl,_,rfl,?_⟩
   rw[weq rfl]
   exact iteT ⟨_,rfl,i,rfl,h0,h1,fin⟩
  ·rw[wne (by decide +kernel)]
   refine iteF ⟨_,rfl,rfl,_,rfl,?_⟩
   rw[wne (by decide +kernel)]
   refine iteF ⟨_,rfl,rfl,_,rfl,?_⟩
   rw[weq rfl]
   exact iteT ⟨_,rfl,i,rfl,hk,h1,fin⟩
 | s p=>
  obtain⟨rfl,hp⟩:=hk
  iterate 3 (rw[wne (by decide +kernel)];refine iteF ⟨_,rfl,rfl,_,rfl,?_⟩)
  rw[weq rfl]
  exact iteT ⟨_,rfl,p,rfl,hp,fun v H' s' hv hf=>q v H' s' hv hf⟩
 | g ps=>
  obtain⟨rfl,hne,h8,hp⟩:=hk
  iterate 4 (rw[wne (by decide +kernel)];refine iteF ⟨_,rfl,rfl,_,rfl,?_⟩)
  rw[weq rfl]
  exact iteT ⟨_,rfl,ps,rfl,hne,h8,hp,fun D xs H' s' hD hA hn=>q _ H' s' ⟨D,xs,rfl,SqL.of hD,hA⟩ fun a ha=>by cases ha;exact hn⟩
theorem q501:z.C P w base 8 "values_of" ["kinds", "words"] (q234 K):=by
 have sc:=q476
 refine z.d_values_of.cal fun f fd F=>F.k sc fun _ _ _ s H _ Q _ hr h=>?_
 obtain⟨ka,wa,nm,ks,xs,rfl,S,hka,hwa,q⟩:=h
 refine⟨_,(q11 (ps_if (q19 op_ne (pln z.len_ (q10 (pv 1) q12)) (pln z.len_ (q10 (pv 0) q12)) (q21 _))
 (q15 q31)
 q20)
 (q15 (q18 (q387 (x := "kind") (cl:=[]) (cn:=[]) (TN:=["word"]) (N:=[]) (fr:=[]) (sc0:=q17 q171) rfl (pi_zipT rfl z.zip_ (q10 (pv 0) (q10 (pv 1) q12))) (fun C s₂ H₂ fp=>(pe_fn (q555 z) hr.m () (q10 (pv 0) (q10 (pv 1) q12)))) (fun C s₂ H₂ fp=>q269) (fun C s₂ H₂ fp=>(q525 (K:=K) (n:=2) rfl rfl (q33 (q98 (i:=0) (show(["kind", "word"]:List Str).Nodup by decide +kernel) rfl (Or.inl rfl)) (q33 (q98 (i:=1) (show(["kind", "word"]:List Str).Nodup by decide +kernel) rfl (Or.inl rfl)) q87)))) (by ac_rfl) trivial rfl rfl rfl ⟨by decide +kernel,by decide +kernel,by decide +kernel,by decide +kernel⟩ rfl)))),?_⟩
 have hl:=S.len
 have hf:=S.few
 have l1:((xs.map Vl.wd).map V.str).length=xs.length:=by rw[ZK,ZK]
 have l2:(ks.map V.str).length=xs.length:=by rw[ZK,hl]
 exists _,rfl,wa,_,rfl,.inl hwa,_,rfl,ka,_,rfl,.inr hka,rfl,_,rfl
 rw[l1,l2]
 refine iteNS rfl ?_
 refine⟨_,rfl,_,rfl,ka,wa,rfl,⟨_,hka⟩,⟨_,hwa⟩,fun D hD=>?_⟩
 refine q654 (K:=K) (xs:=ks.map V.str) (zs:=(xs.map Vl.wd).map V.str) (by rw[l2];exact sl51 ∅) (by rw[l1,l2]) (fun i ys H4=>H4 D=some (.lst ys)/\ys.length=i/\Same H H4/\VlsAt K H4 ys (xs.take i) /\ ∀ x∈ys,x ≠ .ref D) ⟨q13,rfl,q16 hD _,⟨rfl,fun j x p h1 _=>by cases h1⟩,fun x hx=>by cases hx⟩
  (fun i ys H4 ⟨_,_,k4,_⟩=>⟨k4.seqT hka,k4.seq hwa⟩) (fun i ys H4 ⟨h4,e,_⟩=>⟨h4,Nat.le_of_eq e⟩) ?_ ?_
 ·rintro i x y ys H4 p hx hy ⟨h4,e,k4,hA,hnD⟩ hp vs2 hvs2
  rw[WE]at hx hy
  rw[WE]at hy
  cases ek:ks[i]? with
  | none=>rw[ek]at hx;cases hx
  | some k=>
   rw[ek]at hx
   cases hx
   cases en:xs[i]? with
   | none=>rw[en]at hy;cases hy
   | some n=>
    rw[en]at hy
    cases hy
    have s5:=q16 hp (.tup [.str k,.str n.wd])
    match vs2,hvs2 with
    | [x0,x1],_=>
     exists p,_,rfl,SqT.of q13,rfl,_,_,rfl,_,_,rfl,rfl,⟨[_,_],rfl,rfl⟩
     refine iteT ⟨_,rfl,_,rfl,k,n,rfl,S.val i k n ek en,fun v H6 s6 hv hfr=>?_⟩
     have s56:=s5.trans s6
     have e6:=s56 _ _ h4
     have kD:Keep D H6 (upd H6 D (.lst (ys++[v]))):=Keep.set D H6 _
     have up:∀ x y,x ≠ .ref D->VlAt K H6 x y->VlAt K (upd H6 D (.lst (ys++[v]))) x y:=fun x y hne h=>by
      cases y with
      | n i=>exact h
      | s p=>obtain⟨a,e,h⟩:=h;exact⟨a,e,q414 kD e6 h⟩
      | g ps=>
       obtain⟨D',zs,e,h1,h2⟩:=h
       exact⟨D',zs,e,kD.seqL (fun z=>hne (by rw[e,z])) h1,h2.1,fun j x p g1 g2=>by
        obtain⟨a,e,h⟩:=h2.2 j x p g1 g2
        exact⟨a,e,q414 kD e6 h⟩⟩
     have hvD:v ≠ .ref D:=fun z=>by
      have:=hfr D z
      rw[s5 _ _ h4]at this
      cases this
     refine⟨e6,q13,by rw[ZM,e] <;> rfl,own2 (k4.trans s56) hD,?_,fun x hx=>?_⟩
     ·rw[WK,en]
      exact q768 ⟨hA.1,fun j x p h1 h2=>up x p (hnD x (ZV h1)) ((hA.2 j x p h1 h2).same s56)⟩ (up v n hvD hv)
     ·rcases List.mem_append.mp hx with h | h
      ·exact hnD x h
      ·rw[List.mem_singleton.mp h];exact hvD
 ·rintro ys H4 ⟨h4,e,k4,hA,_⟩
  rw[l2,WS]at hA
  exact q D ys H4 k4 h4 hA
theorem q556:z.C P w base 1 "kinds_of" ["lead", "name", "many"] (q309 K):=by
 have sc:=q536
 refine z.d_kinds_of.cal fun f fd F=>F.k sc fun _ _ _ s H _ Q _ hr h=>?_
 obtain⟨nm,ks,xs,rfl,S,q⟩:=h
 obtain⟨fa,hfa,hfb⟩:=z.frm
 refine⟨_,(q11 (ps_if (PW.pt (q431 (q19 op_eq (pv 0) q23 (q21 _)) (q256 (q19 op_eq (pv 1) q23 (q21 _)))))
 (q15 (q18 (pe_op op_repT (q34 (q10 q23 q12)) (pv 2))))
 q20)
 (q11 (ps_if (PW.pt (pw_or (q19 q732 (pv 1) (q516 (v:=.ref fa) (u:=.ref fa) () hfa rfl) rfl) (q127 (PW.pt (q431 (q19 op_ne (pv 0) q23 (q21 _)) (q256 pt_never))))))
 (q15 q31)
 q20)
 (q11 (ps_if (q19 op_eq (pv 0) q23 (q21 _))
 (q15 q31)
 q20)
 (q15 (q18 (pix ix_tabT (q516 (v:=.ref fa) (u:=.ref fa) () hfa rfl) (pv 1))))))),?_⟩
 have hf:=S.few
 exists _,rfl,rfl,_,rfl
 rw[weq rfl]
 refine iteT ⟨_,rfl,rfl,_,rfl,?_⟩
 rcases S.kd with ⟨rfl,rfl⟩ | hk
 ·rw[weq rfl]
  refine iteT ⟨szb rfl,fun a ha=>⟨_,rfl,a,_,_,rfl,rfl,q13,(W134 hf),fun p H' s' hp=>?_⟩⟩
  refine q p H' ((q16 ha _).trans s') ?_
  rw[map_replicate]
  exact hp
 ·have hn:nm ≠ "row" := by
   have:∀ f∈forms,f.1≠("row" : Str):=by decide +kernel
   exact this _ hk
  obtain⟨T,dd,h1,h2,h3⟩:=frm_use hfb hk
  rw[wne hn]
  refine iteF ⟨_,rfl,_,fa,_,rfl,rfl,T,_,rfl,?_⟩
  rw[h2]
  refine iteF ⟨_,rfl,rfl,_,rfl,?_⟩
  rw[weq rfl]
  refine iteF ?_
  exists _,rfl,rfl,_,rfl
  rw[wne (by decide +kernel)]
  refine iteF ?_
  exact⟨_,rfl,fa,_,_,dd,rfl,rfl,T,h1,q dd H (Same.refl H) (h3 H)⟩
theorem q502:z.C P w base 9 "read_said" ["row"] (q235 K):=by
 have sc:=q475
 refine z.d_read_said.cal fun f fd F=>F.k sc fun _ _ _ s H _ Q _ hr h=>?_
 obtain⟨nm,ks,xs,rfl,S,q⟩:=h
 refine⟨_,(q11 (ps_if (q332 (q331 (q38 q382 () z.isinstance_ q113 (q10 (pv 0) (q10 (q517 (v:=.ty "str") (u:=.type "str") () z.str_ q62 rfl) q12)))))
 (q15 q31)
 q20)
 (q11 (pst 1 sc.nd (pe_bm WW PySem.F.slot_str_split PySem.F.type_str_split q390 (pv 0) (q10 q23 q12)))
 (q11 (pst 2 sc.nd (q142 (q19 q440 (pix q32 (pv 1) q14) (q34 (q10 q23 (q10 q23 q12))) rfl) (pix q32 (pv 1) q14) q23))
 (q11 (ps_if (q19 op_ne (pv 2) q23 (q21 _))
 (q15 (pst 1 sc.nd (q80 q165 (pv 1) (q88 q14) q110)))
 q20)
 (q11 (pst 3 sc.nd (q142 (q19 op_gt (pln z.len_ (q10 (pv 1) q12)) q14 (q21 _)) (pix q32 (pv 1) q14) q23))
 (q15 (q18 (q34 (q10 (pv 2) (q10 (pv 3) (q10 (pe_fn (q501 z) hr.m () (q10 (pe_fn (q556 z) hr.m () (q10 (pv 2) (q10 (pv 3) (q10 (pe_op q76 (pln z.len_ (q10 (pv 1) q12)) q14) q12)))) (q10 (q80 q165 (pv 1) (q88 q14) q110) q12))) q12))))))))))),?_⟩
 have hl:=say_len S
 have hc:=q413 (sayT nm xs) " "
 have hs:=q770 S
 have hf:=S.few
 exists _,rfl,_,_,_,_,rfl,.str _,q268,true,rfl
 refine iteF ?_
 refine⟨_,rfl,rfl,_, " ", rfl,rfl,by decide +kernel,sl300 ∅,sl300 ∅,by rw[hs,WB,ZK];exact sl51 ∅,fun l hl1=>?_⟩
 rw[hs]
 obtain⟨H1,gz,s1,e1⟩:=nwH hl1 (.lst ((nm::xs.map Vl.wd).map V.str))
 rw[gz]
 have hlen:((nm::xs.map Vl.wd).map V.str).length=xs.length+1:=by rw[ZK,WB,ZK]
 have hat:atI ((nm::xs.map Vl.wd).map V.str) 0=some (.str nm):=q41 (j:=0) rfl
 refine⟨_,rfl,l,_,_,_,rfl,rfl,SqL.of e1,hat,szb rfl,fun t ht=>?_⟩
 obtain⟨H2,gz,s2,e2⟩:=nwH ht (.tup [.str "paper", .str "shows"])
 rw[gz]
 exists t,_,rfl,.inr (SqT.of e2),rfl,rfl
 rw[nms_lead nm S.nm]
 exists _,rfl
 refine iteF ?_
 exists _,rfl,rfl,_,rfl
 rw[weq rfl]
 refine iteF ?_
 have e3:=s2 _ _ e1
 exists _,rfl,l,_,rfl,.inl (SqL.of e3),_,_,rfl,rfl,_,rfl
 rw[hlen]
 refine ite2 (fun _=>?_) (fun c=>absurd (ZG ∅) c)
 exists _,rfl,l,_,_,_,rfl,rfl,SqL.of e3,hat
 refine⟨_,rfl,_,rfl,_,rfl,_,rfl,_,rfl,l,_,rfl,.inl (SqL.of e3),_,_,rfl,rfl,nm,ks,xs,by rw[hlen];show[V.str "", V.str nm,V.int (((xs.length+1:Nat):Int)-1)]=_;rw[show((xs.length+1:Nat):Int)-1=(xs.length:Int) by exact W132],S,fun ka H3 s3 hka=>?_⟩
 refine⟨_,rfl,_,rfl,l,_,rfl,SqL.of (s3 _ _ e3),fun wa hwa=>?_⟩
 have ec:cutV ((nm::xs.map Vl.wd).map V.str) (some 1) none=(xs.map Vl.wd).map V.str:=by
  unfold cutV
  rw[show(some (1:Int))=some ((1:Nat):Int)from rfl,HT.q801,HT.q800,hlen,YH ∅]
  exact WP (by rw[length_drop,hlen];exact ZF _)
 rw[ec]
 obtain⟨H4,gz,s4,e4⟩:=nwH hwa (.lst ((xs.map Vl.wd).map V.str))
 rw[gz]
 refine⟨ka,wa,nm,ks,xs,rfl,S,s4.seqT hka,SqL.of e4,fun D ys H5 s5 hD hA=>⟨szb rfl,fun p hp=>?_⟩⟩
 have s6:=q16 hp (.tup [.str "", .str nm,.ref D])
 exact q p D ys _ (s1.trans (s2.trans (s3.trans (s4.trans (s5.trans s6))))) q13 (s6 _ _ hD) ⟨hA.1,fun j x y h1 h2=>(hA.2 j x y h1 h2).same s6⟩
inductive Dd(low:Int)(L:Nat)(rs:LL):Str->List Int->List Int->List Int->Prop
 | row (r:List Int) (hw:Wths low L r) (hl:r.length<=200):Dd low L rs "row" r r []
theorem say_of{ks:List Str}{xs:List Vl}(h:ks.length=xs.length)(hf:xs.length<=200)(hk:(nm,ks)∈forms)(hv:∀ p∈ks.zip xs,VlOk p.1 p.2):Say nm ks xs:=
 ⟨h,hf,.inr hk,fun i k x h1 h2=>hv (k,x) (ZV (i:=i) (by rw[getElem?_zip_eq_some];exact⟨h1,h2⟩))⟩
noncomputable abbrev kCt:Str := "count"
noncomputable abbrev kGt:Str := "gathering"
theorem p40{L:Nat}(h:L<=40):(2:Int)^L<=2^40:=by
 have:(2:Nat)^L<=2^40:=Nat.pow_le_pow_right {} h
 exact_mod_cast this
theorem Dd.say{low:Int}{L:Nat}{rs:LL}{ns r:List Int}(d:Dd low L rs nm ns r c)(hL:L<=40)(hn:rs.length<=100)(hl:∀ r∈rs,r.length<=200)(h0:-(10^45)<low)(h1:low<10^45):∃ ks,Say nm ks (ns.map Vl.n):=by
 have hp:=p40 hL
 cases d with
 | row r hw hl=>
  refine⟨List.replicate (ns.map Vl.n).length (("number" : Str)),⟨length_replicate,by rw[ZK];exact hl,.inl ⟨rfl,rfl⟩,fun i k x hk hx=>?_⟩⟩
  rw[getElem?_replicate]at hk
  split at hk
  ·have hk':=(Option.some.inj hk).symm
   rw[WE]at hx
   cases e:ns[i]? with
   | none=>rw[e]at hx;cases hx
   | some n=>
    rw[e]at hx
    cases hx
    have:=hw n (ZV e)
    exact⟨⟨∅,∅⟩,.inr (.inl hk')⟩
  ·cases hk
theorem Dd.nm{low:Int}{L:Nat}{rs:LL}{nm:Str}{ns r c:List Int}(d:Dd low L rs nm ns r c):nm∈(["row", "put", "take", "set", "cut", "join", "turn", "flip"]:List Str):=by
 cases d <;> decide +kernel
structure Dsk(C M:Addr)(H:Hp)(d x ka b:Addr)(low:Int)(L:Nat)(rs cs:LL):Prop where
 o:∃ dd,H d=some (.ins C dd [("bounds", .ref b),("makes", .ref x)])
 m:Mks M H x ka b low L rs cs
 lo:-(10^45)<low
 hi:low<10^45
theorem Dsk.keep{low:Int}{L:Nat}(D:Dsk C M H d x ka b low L rs cs)(k:Keep p H H')(e:H p=some (.lst ys))(n:ka≠p):Dsk C M H' d x ka b low L rs cs:=by
 obtain⟨dd,hd⟩:=D.o
 exact⟨⟨dd,k _ _ (ne_of hd e (by intro z;cases z)) hd⟩,D.m.keep k e n,D.lo,D.hi⟩
theorem Dsk.same{low:Int}{L:Nat}(D:Dsk C M H d x ka b low L rs cs)(s:Same H H'):Dsk C M H' d x ka b low L rs cs:=by
 obtain⟨dd,hd⟩:=D.o
 exact⟨⟨dd,s _ _ hd⟩,D.m.same s,D.lo,D.hi⟩
theorem Dsk.made{low:Int}{L:Nat}(D:Dsk C M H d x ka b low L rs cs)(k:Keep ka H H')(m:Mks M H' x ka b low L (rs++[r]) (cs++[c])):Dsk C M H' d x ka b low L (rs++[r]) (cs++[c]):=by
 obtain⟨dd,hd⟩:=D.o
 obtain⟨es,h1,_⟩:=D.m.hk
 exact⟨⟨dd,k _ _ (ne_of hd h1 (by intro z;cases z)) hd⟩,m,D.lo,D.hi⟩
inductive q503(u0:Fg)(C:Addr)(M:Addr)(vs:List V)(H:Hp)(Q:VK)(E:XK):Prop
 |mk(d b dd:Addr)(low:Int)(L:Nat)(_:vs=[.ref d,.ref b])(_:H d=some (.ins C dd []))(_:H b=some (.tup [.int low,.int (L:Int)]))(_:L<=40)(_:-(10^45)<low)(_:low<10^45)(_:∀(x ka:Addr)(H':Hp),H ka=none->Keep d H H'->Dsk C M H' d x ka b low L [[]] [[]]->Q .non H')
inductive q504(u0:Fg)(C:Addr)(M:Addr)(vs:List V)(H:Hp)(Q:VK)(E:XK):Prop
 |mk(d x ka b v:Addr)(low:Int)(L:Nat)(rs cs:LL)(nm:Str)(ns r c:List Int)(_:vs=[.ref d,.str nm,.ref v])(_:H v=some (.lst (ns.map V.int)))(_:Dsk C M H d x ka b low L rs cs)(_:rs.length<=99)(_:Dd low L rs nm ns r c)(_:∀ H',Keep ka H H'->Dsk C M H' d x ka b low L (rs++[r]) (cs++[c])->Q (.int (rs.length:Int)) H')
noncomputable def cT:Option (Int×Int)->Str
 | none => "-"
 | some p=>Txt.join ":" [tx p.1,tx p.2]
noncomputable def lT(ps:List (Int×Int)):Str:=if ps=[]then "-" else Txt.join "," (ps.map fun p=>cT (some p))
def StOk(rs:LL)(p:P3):Prop:=∃ r,rs[p.1]? = some r/\p.2.1<=p.2.2/\p.2.2<=r.length
noncomputable def gOf(low:Int)(L:Nat)(rs:LL)(p:P3):S3:=(grow low L (rs.getD p.1 []),p.2.1,p.2.2)
structure GoodG(L:Nat)(gs:List S3):Prop where
 gd:∀ g∈gs,GoodS L g
 ln:gs.length<=8
 mn:manyS gs<=900
inductive Pl(low:Int)(L:Nat)(gs:List S3):Str->List Int->Str->Prop
 | least (k:Int) (r:Int×Nat×Nat) (h0:0<=k) (h1:k<manyS gs) (h:nlS low L gs k=some r):Pl low L gs "least" [k] (rowT [r.1,(r.2.1:Int),(r.2.2:Int)])
 | below (n:Int):Pl low L gs "below" [n] (tx (beS low L gs n))
 | between (a b:Int):Pl low L gs "between" [a,b] (tx (if b<a then 0 else beS low L gs (b+1)-beS low L gs a))
 | up (n:Int):Pl low L gs "up" [n] (cT (upS low L gs n))
 | down (n:Int):Pl low L gs "down" [n] (cT (dnS low L gs n))
 | most:Pl low L gs "most" [] (cT ((caS 1 0 L low (fil gs)).foldl bstep none))
 | often (p:Int) (h0:1<=p) (h1:p<=1000):Pl low L gs "often" [p] (lT (caS p (manyS gs) L low (fil gs)))
theorem q417:∀(ws:List Int)(p:Int×Int),0<=p.2->p.1<=(ws.foldl stS p).1/\(ws.foldl stS p).1<=p.1+p.2
 | [],p,h=>⟨WU _,by show p.1<=_;lia⟩
 | w::ws,p,h=>by
  rw[foldl_cons]
  have hs:p.1<=(stS p w).1/\(stS p w).1+(stS p w).2<=p.1+p.2/\0<=(stS p w).2:=by
   unfold stS
   dsimp only
   split <;> lia
  have:=q417 ws (stS p w) hs.2.2
  lia
theorem ml_rng:∀{ws:List Int}{gs:List S3},B01 ws->(∀ g∈gs,GoodS ws.length g)->0<=mlS ws gs/\mlS ws gs<=manyS gs
 | [],gs,_,h=>⟨WU _,q66 h⟩
 | w::ws,gs,hb,h=>by
  have hw:=hb w (ZQ ..)
  have hs:=q145 h
  have n0:=q66 (q53 (.inl rfl) h)
  have n1:=q66 (q53 (.inr rfl) h)
  have ih:=ml_rng (ws:=ws) (gs:=gs.map (ld1 w)) (fun x hx=>hb x (ZU _ hx)) (q53 hw h)
  rw[mlS]
  rcases hw with rfl | rfl
  ·rw[ZJ {}];lia
  ·rw[ZL rfl];lia
theorem q771{low n:Int}{L:Nat}(h:∀ g∈gs,GoodS L g):0<=beS low L gs n/\beS low L gs n<=manyS gs:=by
 have h0:=q66 h
 unfold beS
 split
 ·exact⟨WU _,h0⟩
 ·split
  ·exact⟨h0,WU _⟩
  ·exact ml_rng (q402 L _) (by rw[q401];exact h)
def SmC(low:Int)(p:Int×Int):Prop:=low<=p.1/\p.1<=low+2^40 /\ -1000<=p.2/\p.2<=1000
theorem q612{L:Nat}{ws:List Int}(hb:B01 ws)(hl:ws.length=L):∀{gs:List S3},(∀ g∈gs,GoodS L g)->0<=manyS (gs.map (lds ws))
 | [],_=>WU _
 | g::gs,h=>by
  have h1:=q228 (e:=0) (q253 hb (by rw[YL,hl];exact h g (ZQ ..)))
  have:=q612 hb hl (gs:=gs) fun x hx=>h x (ZU _ hx)
  rw[YA,q37]
  lia
theorem lds_le:∀{ws:List Int}{g:S3},B01 ws->GoodS ws.length g->lenS (lds ws g)<=lenS g
 | [],g,_,_=>WU _
 | w::ws,g,hb,h=>by
  have hw:=hb w (ZQ ..)
  have ih:=lds_le (ws:=ws) (g:=ld1 w g) (fun x hx=>hb x (ZU _ hx)) (q81 hw h)
  have hs:=q548 h
  have n0:=q228 (q81 (.inl rfl) h)
  have n1:=q228 (q81 (.inr rfl) h)
  rw[q191]
  rcases hw with rfl | rfl <;> lia
theorem q772{L:Nat}{ws:List Int}(hb:B01 ws)(hl:ws.length=L):∀{gs:List S3},(∀ g∈gs,GoodS L g)->manyS (gs.map (lds ws))<=manyS gs
 | [],_=>WU _
 | g::gs,h=>by
  have h1:=lds_le hb (by rw[hl];exact h g (ZQ ..))
  have:=q772 hb hl (gs:=gs) fun x hx=>h x (ZU _ hx)
  rw[YA,q37,q37]
  lia
theorem cn_sm{low k:Int}{L:Nat}(hL:L<=40)(G:GoodG L gs):SmC low (cnS low L gs k):=by
 have h1:=q417 (wnS L gs k) (low,2^L) (Int.le_of_lt (p2pos L))
 have h2:=p40 hL
 have h3:=q612 (wn01 L gs k) (q363 L gs k) G.gd
 have h4:=q772 (wn01 L gs k) (q363 L gs k) G.gd
 have h5:=G.mn
 exact⟨h1.1,Int.le_trans h1.2 (by show low+2^L<=_;exact W138 h2),by show _<=manyS _;lia,by show manyS _<=_;lia⟩
theorem up_sm{low n:Int}{L:Nat}(hL:L<=40)(G:GoodG L gs):∀ p,upS low L gs n=some p->SmC low p:=fun p h=>by
 unfold upS at h
 split at h
 ·cases h
 ·cases h;exact cn_sm hL G
theorem dn_sm{low n:Int}{L:Nat}(hL:L<=40)(G:GoodG L gs):∀ p,dnS low L gs n=some p->SmC low p:=fun p h=>by
 unfold dnS at h
 split at h
 ·cases h
 ·cases h;exact cn_sm hL G
theorem q773{part fl:Int}:∀{e:Nat}{low:Int}{gs:List S3},(∀ g∈gs,GoodS e g) -> ∀ p∈caS part fl e low gs,low<=p.1/\p.1<low+2^e/\0<=p.2/\p.2<=manyS gs
 | 0,low,gs,h,p,hp=>by
  unfold caS at hp
  split at hp
  ·cases hp
  ·rw[List.mem_singleton.mp hp]
   exact⟨WU _,by show low<low+1;exact W65,q66 h,WU _⟩
 | e+1,low,gs,h,p,hp=>by
  unfold caS at hp
  split at hp
  ·cases hp
  ·have hp2:=p2pos e
   have e2:(2:Int)^(e+1)=2^e+2^e:=by rw[Int.pow_succ];exact W32
   have hs:=q145 h
   have g0:=q53 (.inl rfl) h
   have g1:=q53 (.inr rfl) h
   have n0:=q66 g0
   have n1:=q66 g1
   rcases List.mem_append.mp hp with hp | hp
   ·have:=q773 (q73 g0) p hp
    rw[q82 g0]at this
    lia
   ·have:=q773 (q73 g1) p hp
    rw[q82 g1]at this
    lia
theorem ca_sm{part fl low:Int}{L:Nat}(hL:L<=40)(G:GoodG L gs):∀ p∈caS part fl L low (fil gs),SmC low p:=fun p hp=>by
 have h:=q773 (q73 G.gd) p hp
 rw[q82 G.gd]at h
 have:=p40 hL
 have:=G.mn
 exact⟨h.1,∅,∅,∅⟩
theorem q613:∀(ps:List (Int×Int)) (b:Option (Int×Int)) (q:Int×Int),ps.foldl bstep b=some q->b=some q\/q∈ps
 | [],b,q,h=>.inl h
 | p::ps,b,q,h=>by
  rcases q613 ps _ q h with h | h
  ·unfold bstep at h
   cases b with
   | none=>cases h;exact .inr (ZQ ..)
   | some r=>
    dsimp only at h
    split at h
    ·cases h;exact .inr (ZQ ..)
    ·exact .inl h
  ·exact .inr (ZU _ h)
theorem cr_le:∀(l:List Int)(p:Int×Int),0<=p.1->(l.foldl crS p).2<=p.2+(p.1+l.length)*l.length
 | [],p,_=>by show p.2<=p.2+(p.1+0)*0;lia
 | m::l,p,h0=>by
  rw[foldl_cons]
  have e:∀ o:Int,0<=o->(o+1+(l.length:Int))*((l.length:Int)+1)=(o+1+l.length)*l.length+(o+1+l.length):=fun o _=>by rw[Int.mul_add,Int.mul_one]
  have hl:((m::l).length:Int)=(l.length:Int)+1:=by rw[WB];exact W50
  rw[hl,show p.1+((l.length:Int)+1)=p.1+1+l.length by lia,e p.1 h0]
  by_cases c:m=1
  ·have ec:crS p m=(p.1+1,p.2):=by unfold crS;rw[ZL c]
   rw[ec]
   have t:(l.foldl crS (p.1+1,p.2)).2<=p.2+(p.1+1+l.length)*l.length:=cr_le l (p.1+1,p.2) (by show 0<=p.1+1;exact W189 h0)
   lia
  ·have ec:crS p m=(p.1,p.2+p.1):=by unfold crS;rw[ZJ c]
   rw[ec]
   have t:(l.foldl crS (p.1,p.2+p.1)).2<=p.2+p.1+(p.1+l.length)*l.length:=cr_le l (p.1,p.2+p.1) h0
   have t2:(p.1+(l.length:Int))*l.length<=(p.1+1+l.length)*l.length:=Int.mul_le_mul_of_nonneg_right ∅ W13
   lia
theorem q774:∀{e:Nat}{g:S3},GoodS e g->q46 g.1<=400->0<=flS e g/\flS e g<=160000*(2^e-1)
 | 0,g,_,_=>by show(0:Int)<=0/\(0:Int)<=160000*(2^0-1);decide
 | e+1,g,h,hz=>by
  have hp2:=p2pos e
  have e2:(2:Int)^(e+1)=2^e+2^e:=by rw[Int.pow_succ];exact W32
  rw[flS]
  split
  ·lia
  ·rename_i c
   have i0:=q774 (q81 (.inl rfl) h) (Int.le_trans (q411 (.inl rfl) h) hz)
   have i1:=q774 (q81 (.inr rfl) h) (Int.le_trans (q411 (.inr rfl) h) hz)
   have hk:(g.2.2:Int)<=q46 g.1:=h.2.2
   have c0:0<=crV (trMs g.1) g.2.1 g.2.2:=cr_no _ _ (WU _) (WU _)
   have c1:crV (trMs g.1) g.2.1 g.2.2<=160000:=by
    have:=cr_le (segI (trMs g.1) g.2.1 g.2.2) (0,0) (WU _)
    have t:crV (trMs g.1) g.2.1 g.2.2<=0+(0+((segI (trMs g.1) g.2.1 g.2.2).length:Int))*(segI (trMs g.1) g.2.1 g.2.2).length:=this
    have hl:(segI (trMs g.1) g.2.1 g.2.2).length<=400:=by
     unfold segI
     rw[length_drop,WL]
     lia
    have t2:(0+((segI (trMs g.1) g.2.1 g.2.2).length:Int))*(segI (trMs g.1) g.2.1 g.2.2).length<=400*400:=Int.mul_le_mul ∅ ∅ ∅ {}
    lia
   lia
noncomputable abbrev qry:List V:=[.str "least", .str "below", .str "between", .str "up", .str "down", .str "most", .str "often"]
theorem q775(h:nm∈(["row", "put", "take", "set", "cut", "join", "turn", "flip"]:List Str)):nm ≠ "show" /\ nm ≠ "falls" /\ inV (.str nm) qry=false:=by
 have:∀ x∈(["row", "put", "take", "set", "cut", "join", "turn", "flip"]:List Str),x ≠ "show" /\ x ≠ "falls" /\ inV (.str x) qry=false:=by decide +kernel
 exact this _ h
theorem Mks.keepI{low:Int}{L:Nat}(M:Mks C H x ka b low L rs cs)(k:Keep p H H')(e:H p=some (.ins C' dp fs))(n:x≠p):Mks C H' x ka b low L rs cs:=by
 obtain⟨dx,hx⟩:=M.o
 obtain⟨es,h1,h2,h3⟩:=M.hk
 have tk:TKeep H H':=fun _ _=>⟨fun h=>k _ _ (ne_of h e (by intro z;cases z)) h,fun _ h=>k _ _ (ne_of h e (by intro z;cases z)) h⟩
 refine⟨⟨dx,k _ _ n hx⟩,(tk _ _).1 M.hb,M.hL,M.len,M.few,⟨es,k _ _ (ne_of h1 e (by intro z;cases z)) h1,h2,fun j r c hr hc=>?_⟩,M.ok⟩
 obtain⟨p',a,v,e1,e2,e3,e4⟩:=h3 j r c hr hc
 exact⟨p',a,v,e1,(tk _ _).1 e2,e3.tk tk,(tk _ _).1 e4⟩
def SmB(p:Int×Int):Prop:=(-(10^50)<p.1/\p.1<10^50) /\ -(10^50)<p.2/\p.2<10^50
theorem SmC.b{low:Int}(h:SmC low p)(h0:-(10^45)<low)(h1:low<10^45):SmB p:=by
 obtain⟨a,b,c,d⟩:=h
 exact⟨⟨∅,∅⟩,∅,∅⟩
theorem c_bd{p:Int×Int}(h:SmB p):BdN [p.1,p.2]:=fun n hn=>by
 rcases(by simpa using hn:n=p.1\/n=p.2)with rfl | rfl
 ·exact h.1
 ·exact h.2
theorem jn_ok{sep:Str}(hs:sep.length<=16){B:Nat}{xs:List Str}(h:∀ x∈xs,x.length<=B)(hl:xs.length*B+xs.length<=1048576):JoinOk sep xs=true:=by
 refine PyProof.Rows.joinOk_of_weight ?_ hs
 have:=StrLaws.sumLen_le (B:=B) xs h
 have e:xs.length*B=B*xs.length:=Nat.mul_comm _ _
 lia
theorem q311(c:Nat)(xs:List Str):Txt.join ⟨#[c]⟩ xs=Str.join ⟨#[c]⟩ xs:=PySem.StrLaws.glued_eq_join _ _
theorem cT_len(h:SmB p):(cT (some p)).length<=104:=by
 show(Txt.join ":" [tx p.1,tx p.2]).length<=_
 rw[show(":" : Str)=⟨#[58]⟩ by decide +kernel,q311]
 refine q146 (B:=51) _ fun x hx=>?_
 rcases(by simpa using hx:x=tx p.1\/x=tx p.2)with rfl | rfl
 ·exact q91 h.1.1 h.1.2
 ·exact q91 h.2.1 h.2.2
inductive q137(u0:Fg)(vs:List V)(H:Hp)(Q:VK)(E:XK):Prop
 |mk(v:V)(o:Option (Int×Int))(_:vs=[v])(_:CtV H v o)(_:(∀ p,o=some p->SmB p))(_:∀ H',Same H H'->Q (.str (cT o)) H')
inductive q236(K:Fg)(vs:List V)(H:Hp)(Q:VK)(E:XK):Prop
 |mk(D:Addr)(xs:List V)(ps:List (Int×Int))(_:vs=[.ref D])(_:SqL K H D xs)(_:PsAt H xs ps)(_:(∀ p∈ps,SmB p))(_:ps.length<=1000)(_:∀ H',Same H H'->Q (.str (lT ps)) H')
inductive q138(K:Fg)(vs:List V)(H:Hp)(Q:VK)(E:XK):Prop
 |mk(b ga va:Addr)(xs:List V)(low:Int)(L:Nat)(gs:List S3)(nm:Str)(ns:List Int)(t:Str)(_:vs=[.ref b,.ref ga,.str nm,.ref va])(_:SqT K H b [.int low,.int (L:Int)])(_:L<=40)(_:-(10^45)<low)(_:low<10^45)(_:H ga=some (.lst xs))(_:GatAt H xs gs)(_:GoodG L gs)(_:SqL K H va (ns.map V.int))(_:Pl low L gs nm ns t)(_:(∀ g∈gs,q46 g.1<=400))(_:∀ H',Same H H'->Q (.str t) H')
inductive q505(K:Fg)(vs:List V)(H:Hp)(Q:VK)(E:XK):Prop
 |mk(b ga va:Addr)(xs:List V)(low:Int)(L:Nat)(gs:List S3)(nm:Str)(ns:List Int)(t:Str)(_:vs=[.ref b,.ref ga,.str "", .str nm,.ref va]) (_:SqT K H b [.int low,.int (L:Int)]) (_:L<=40) (_:-(10^45)<low) (_:low<10^45) (_:H ga=some (.lst xs)) (_:GatAt H xs gs) (_:GoodG L gs) (_:SqL K H va (ns.map V.int)) (_:Pl low L gs nm ns t) (_:(∀ g∈gs,q46 g.1<=400)) (_:∀ H',Same H H'->Q (.str t) H')
theorem nl_rng{low k:Int}{L:Nat}{r:Int×Nat×Nat}(hL:L<=40)(G:GoodG L gs)(hz:∀ g∈gs,q46 g.1<=400)(h0:0<=k)(h1:k<manyS gs)(h:nlS low L gs k=some r):low<=r.1/\r.1<=low+2^40/\r.2.1<=8/\r.2.2<=400:=by
 have hs:=q417 (wnS L gs k) (low,2^L) (Int.le_of_lt (p2pos L))
 have hp:=p40 hL
 obtain⟨c1,c2⟩:=q760 G.gd h0 h1
 unfold nlS naS at h
 obtain⟨g',e,h2,h3⟩:=q409 c1 c2
 rw[WE]at e
 cases eg:gs[(pickS (gs.map (lds (wnS L gs k))) (k-mlS (wnS L gs k) gs)).1]? with
 | none=>rw[eg]at e;cases e
 | some g=>
  rw[eg]at e h
  cases e
  have hgm:=ZV eg
  have hgd:=G.gd g hgm
  have hj:=(List.getElem?_eq_some_iff.mp eg).1
  have h4:GoodS 0 (lds (wnS L gs k) g):=q253 (wn01 L gs k) (by rw[YL,q363];exact hgd)
  obtain⟨i,e1,hi⟩:=q609 (p:=(lds (wnS L gs k) g).2.1+(pickS (gs.map (lds (wnS L gs k))) (k-mlS (wnS L gs k) gs)).2.toNat) (wn01 L gs k) (by rw[q363];exact ZF _) hgd.1 (by
   rw[<- q549]
   have:=h4.2.2
   unfold lenS at h3
   exact W117 this h2 h3)
  dsimp only at h
  rw[e1]at h
  cases h
  have:=hz g hgm
  have:=G.ln
  exact⟨hs.1,Int.le_trans hs.2 (by show low+2^L<=_;exact W138 hp),by show(pickS (gs.map (lds (wnS L gs k))) (k-mlS (wnS L gs k) gs)).1<=8;lia,by show i<=400;lia⟩
theorem q74:z.C P w base 2 "show_counted" ["counted"] (q137 K):=by
 have sc:=q291
 refine z.d_show_counted.cal fun f fd F=>F.k sc fun _ _ _ s H _ Q _ hr h=>?_
 obtain⟨v,o,rfl,hv,hb,q⟩:=h
 refine⟨_,(q11 (ps_if (q19 q433 (pv 0) q120 (q21 _))
 (q15 (q18 q23))
 q20)
 (q15 (q18 (pe_bm WW YO YQ q130 q23 (q10 (q63 (cl:=[]) (cn:=[]) (N:=[]) (fr:=[]) (sc0:=q17 q101) rfl (q257 (pv 0)) (fun C s₂ H₂ fp=>(pe_fn (q57 z) hr.m () (q10 (pv 0) q12))) (by ac_rfl) trivial rfl rfl rfl cok rfl) q12))))),?_⟩
 exists _,rfl,rfl,_,rfl
 cases o with
 | none=>
  cases(show v = .non from hv)
  exact ite2 (fun _=>q H (Same.refl H)) (fun c=>absurd rfl c)
 | some p=>
  obtain⟨a,rfl,ha⟩:=hv
  have hp:=hb p rfl
  refine ite2 (fun c=>absurd (ZI c) (by intro z;cases z)) (fun _=>?_)
  refine⟨rfl,_,rfl,a,rfl,⟨_,SqT.of ha⟩,fun D hD=>q384 (K:=K) (xs:=[p.1,p.2].map V.int) (sl51 (by show 2<=_;decide))
   (fun i ys H2=>ys=(([p.1,p.2].map tx).take i).map V.str/\i<=2/\Same H H2/\H2 D=some (.lst ys)) ⟨rfl,ZX _,q16 hD _,q13⟩ (fun i ys H2 ⟨_,_,k2,_⟩=>SqT.of (k2 _ _ ha))
   (fun i ys H2 ⟨e,hi,_,h4⟩=>⟨h4,by rw[e,ZK,WL];show min i 2=i;lia⟩) ?_ ?_⟩
  ·rintro i x ys H2 hx ⟨e,hi,k2,h4⟩
   obtain⟨n,gn,rfl⟩:=q301 hx
   have hn:=c_bd hp n (ZV gn)
   refine⟨_,rfl,n,rfl,(W28 hn),(W33 hn),h4,?_,?_,own2 k2 hD,q13⟩
   ·rw[e,WK,WE,gn,WF]
    rfl
   ·have:i<2:=(List.getElem?_eq_some_iff.mp gn).1
    lia
  ·rintro ys H2 ⟨e,hi,k2,h4⟩
   have e':ys=[tx p.1,tx p.2].map V.str:=e
   rw[e']at h4
   refine⟨":", D,[tx p.1,tx p.2],rfl,rfl,SqL.of h4,jn_ok (by decide +kernel) (B:=51) (fun x hx=>?_) (by show 2*51+2<=1048576;decide),q H2 k2⟩
   rcases(by simpa using hx:x=tx p.1\/x=tx p.2)with rfl | rfl
   ·exact q91 hp.1.1 hp.1.2
   ·exact q91 hp.2.1 hp.2.2
theorem q506:z.C P w base 3 "show_list" ["told"] (q236 K):=by
 have sc:=q473
 refine z.d_show_list.cal fun f fd F=>F.k sc fun _ _ _ s H _ Q _ hr h=>?_
 obtain⟨D0,xs,ps,rfl,hx0,hA,hb,hl,q⟩:=h
 refine⟨_,(q11 (ps_if (q19 op_eq (pln z.len_ (q10 (pv 0) q12)) q14 (q21 _))
 (q15 (q18 q23))
 q20)
 (q15 (q18 (pe_bm WW YO YQ q130 q23 (q10 (q63 (cl:=[]) (cn:=[]) (N:=[]) (fr:=[]) (sc0:=q17 q170) rfl (q35 (pv 0)) (fun C s₂ H₂ fp=>(pe_fn (q74 z) hr.m () (q10 (pv 0) q12))) (by ac_rfl) trivial rfl rfl rfl cok rfl) q12))))),?_⟩
 have hxl:=hA.1
 exists _,rfl,D0,_,rfl,.inl hx0,rfl,_,rfl
 unfold lT at q
 by_cases c:ps=[]
 ·rw[ZL c]at q
  refine ite2 (fun _=>q H (Same.refl H)) (fun c2=>absurd (ZG (by rw[hxl,c];rfl)) c2)
 ·rw[ZJ c]at q
  refine ite2 (fun c2=>absurd (V.int.inj (ZI c2)) (fun z=>c (eq_nil_of_length_eq_zero ∅))) (fun _=>?_)
  refine⟨rfl,_,rfl,D0,rfl,⟨_,hx0⟩,fun D hD=>q67 (K:=K) (xs:=xs) (sl51 (W204 hxl hl))
   (fun i ys H2=>ys=((ps.take i).map fun p=>cT (some p)).map V.str/\i<=ps.length/\Same H H2/\H2 D=some (.lst ys)) ⟨rfl,ZX _,q16 hD _,q13⟩ (fun i ys H2 ⟨_,_,k2,_⟩=>k2.seq hx0)
   (fun i ys H2 ⟨e,hi,_,h4⟩=>⟨h4,by rw[e,ZK,ZK,WL];lia⟩) ?_ ?_⟩
  ·rintro i x ys H2 hx ⟨e,hi,k2,h4⟩
   obtain⟨p,gp,hpx⟩:=hA.get hx
   refine⟨_,rfl,x,some p,rfl,hpx.tk (.same k2),(fun q0 h0=>by cases h0;exact hb p (ZV gp)),fun H3 s3=>⟨s3 _ _ h4,?_,?_,own2 (k2.trans s3) hD,q13⟩⟩
   ·rw[e,WK,gp,WF,WF]
    rfl
   ·have:=(List.getElem?_eq_some_iff.mp gp).1
    exact W73 this hxl
  ·rintro ys H2 ⟨e,hi,k2,h4⟩
   rw[hxl,WS]at e
   rw[e]at h4
   refine⟨",", D,ps.map fun p=>cT (some p),rfl,rfl,SqL.of h4,jn_ok (by decide +kernel) (B:=104) (fun x hx=>?_) (by rw[ZK];exact W171 hxl hl),q H2 k2⟩
   obtain⟨p,hp,rfl⟩:=List.mem_map.mp hx
   exact cT_len (hb p hp)
theorem q312:z.C P w base 48 "plain_answer" pn9 (q138 K):=by
 have sc:=q290
 refine z.d_plain_answer.cal fun f fd F=>F.k sc fun _ _ _ s H _ Q _ hr h=>?_
 obtain⟨b,ga,va,xs,low,L,gs,nm,ns,t,rfl,hb,hL,lo0,lo1,hga,hg,G,hva,hpl,hz,q⟩:=h
 refine⟨_,(q11 (ps_if (q19 op_eq (pv 2) q23 (q21 _))
 (q15 (q18 (pe_fn (q552 z) hr.m () (q10 (q29 q442 () z.list_ bt_list (q10 (pe_fn (q494 z) hr.m () (q10 (pv 0) (q10 (pv 1) (q10 (pix q32 (pv 3) q14) q12)))) q12)) q12))))
 q20)
 (q11 (ps_if (q19 op_eq (pv 2) q23 (q21 _))
 (q15 (q18 (pe_fn (q57 z) hr.m () (q10 (pe_fn (q195 z) hr.m () (q10 (pv 0) (q10 (pv 1) (q10 (pix q32 (pv 3) q14) q12)))) q12))))
 q20)
 (q11 (ps_if (q19 op_eq (pv 2) q23 (q21 _))
 (q15 (q18 (pe_fn (q57 z) hr.m () (q10 (pe_fn (q672 z) hr.m () (q10 (pv 0) (q10 (pv 1) (q10 (pix q32 (pv 3) q14) (q10 (pix q32 (pv 3) q14) q12))))) q12))))
 q20)
 (q11 (ps_if (q19 op_eq (pv 2) q23 (q21 _))
 (q15 (q18 (pe_fn (q74 z) hr.m () (q10 (pe_fn (q673 z) hr.m () (q10 (pv 0) (q10 (pv 1) (q10 (pix q32 (pv 3) q14) q12)))) q12))))
 q20)
 (q11 (ps_if (q19 op_eq (pv 2) q23 (q21 _))
 (q15 (q18 (pe_fn (q74 z) hr.m () (q10 (pe_fn (q489 z) hr.m () (q10 (pv 0) (q10 (pv 1) (q10 (pix q32 (pv 3) q14) q12)))) q12))))
 q20)
 (q11 (ps_if (q19 op_eq (pv 2) q23 (q21 _))
 (q15 (q18 (pe_fn (q74 z) hr.m () (q10 (pe_fn (ok_most z) hr.m () (q10 (pv 0) (q10 (pv 1) q12))) q12))))
 q20)
 (q15 (q18 (pe_fn (q506 z) hr.m () (q10 (pe_fn (ok_often z) hr.m () (q10 (pv 0) (q10 (pv 1) (q10 (pix q32 (pv 3) q14) q12)))) q12)))))))))),?_⟩
 have hl:=G.ln
 have hm:=G.mn
 have hm0:=q66 G.gd
 exists _,rfl,rfl,_,rfl
 cases hpl with
 | least k r h0 h1 h=>
  rw[weq rfl]
  obtain⟨r0,r1,r2,r3⟩:=nl_rng hL G hz h0 h1 h
  refine iteT ⟨_,rfl,_,rfl,_,rfl,va,_,_,_,rfl,rfl,hva,rfl,b,ga,xs,low,k,L,gs,r,rfl,hb,hL,hga,hg,G.gd,(W85 hl),h0,h1,h,fun p H1 s1 hp=>?_⟩
  refine⟨p,_,rfl,.inr hp,fun l hl1=>?_⟩
  have s2:=q16 hl1 (.lst [.int r.1,.int (r.2.1:Int),.int (r.2.2:Int)])
  refine⟨l,[r.1,(r.2.1:Int),(r.2.2:Int)],rfl,SqL.of q13,fun n hn=>?_,by show 3<=_;decide,fun H3 s3=>q H3 (s1.trans (s2.trans s3))⟩
  rcases(by simpa using hn:n=r.1\/n=(r.2.1:Int)\/n=(r.2.2:Int))with rfl | rfl | rfl <;> lia
 | below n=>
  have hr:=q771 (low:=low) (n:=n) G.gd
  rw[wne (by decide +kernel)]
  refine iteF ⟨_,rfl,rfl,_,rfl,?_⟩
  rw[weq rfl]
  exact iteT ⟨_,rfl,_,rfl,_,rfl,va,_,_,_,rfl,rfl,hva,rfl,b,ga,xs,low,n,L,gs,rfl,hb,hL,SqL.of hga,hg,(W85 hl),fun H1 s1=>⟨_,rfl,∅,∅,q H1 s1⟩⟩
 | between a c=>
  have hr:=q771 (low:=low) (n:=c+1) G.gd
  have hr2:=q771 (low:=low) (n:=a) G.gd
  iterate 2 (rw[wne (by decide +kernel)];refine iteF ⟨_,rfl,rfl,_,rfl,?_⟩)
  rw[weq rfl]
  exact iteT ⟨_,rfl,_,rfl,_,rfl,va,_,_,_,rfl,rfl,hva,rfl,_,rfl,va,_,_,_,rfl,rfl,hva,rfl,b,ga,xs,low,a,c,L,gs,rfl,hb,hL,SqL.of hga,hg,(W85 hl),fun H1 s1=>⟨_,rfl,by split <;> lia,by split <;> lia,q H1 s1⟩⟩
 | up n=>
  iterate 3 (rw[wne (by decide +kernel)];refine iteF ⟨_,rfl,rfl,_,rfl,?_⟩)
  rw[weq rfl]
  exact iteT ⟨_,rfl,_,rfl,_,rfl,va,_,_,_,rfl,rfl,hva,rfl,b,ga,xs,low,n,L,gs,rfl,hb,hL,hga,hg,(W85 hl),fun v H1 s1 hv=>⟨v,_,rfl,hv,fun p hp=>(up_sm hL G p hp).b lo0 lo1,fun H2 s2=>q H2 (s1.trans s2)⟩⟩
 | down n=>
  iterate 4 (rw[wne (by decide +kernel)];refine iteF ⟨_,rfl,rfl,_,rfl,?_⟩)
  rw[weq rfl]
  exact iteT ⟨_,rfl,_,rfl,_,rfl,va,_,_,_,rfl,rfl,hva,rfl,b,ga,xs,low,n,L,gs,rfl,hb,hL,hga,hg,∅,fun v H1 s1 hv=>⟨v,_,rfl,hv,fun p hp=>(dn_sm hL G p hp).b lo0 lo1,fun H2 s2=>q H2 (s1.trans s2)⟩⟩
 | most=>
  iterate 5 (rw[wne (by decide +kernel)];refine iteF ⟨_,rfl,rfl,_,rfl,?_⟩)
  rw[weq rfl]
  refine iteT ⟨_,rfl,_,rfl,b,ga,xs,low,L,gs,rfl,hb,hL,SqL.of hga,hg,G.gd,∅,hm,fun H1 v s1 hv=>⟨v,_,rfl,hv,fun p hp=>?_,fun H2 s2=>q H2 (s1.trans s2)⟩⟩
  rcases q613 _ _ p hp with h | h
  ·cases h
  ·exact(ca_sm hL G p h).b lo0 lo1
 | often p h0 h1=>
  iterate 5 (rw[wne (by decide +kernel)];refine iteF ⟨_,rfl,rfl,_,rfl,?_⟩)
  rw[wne (by decide +kernel)]
  refine iteF ?_
  refine⟨_,rfl,_,rfl,_,rfl,va,_,_,_,rfl,rfl,hva,rfl,b,ga,xs,low,p,L,gs,rfl,hb,hL,SqL.of hga,hg,G.gd,∅,hm,(W197 h0 h1),h1,fun H1 D ys s1 hD _ hA=>⟨D,ys,_,rfl,SqL.of hD,hA,fun p hp=>(ca_sm hL G p hp).b lo0 lo1,?_,fun H2 s2=>q H2 (s1.trans s2)⟩⟩
  have:=q607 (part:=p) (fl:=manyS gs) (low:=low) ∅ hm0 (q73 G.gd)
  rw[q82 G.gd]at this
  exact W207 this hm0 hm
theorem q776:z.C P w base 49 "answer" pn5 (q505 K):=by
 have sc:=q744
 refine z.d_answer.cal fun f fd F=>F.k sc fun _ _ _ s H _ Q _ hr h=>?_
 obtain⟨b,ga,va,xs,low,L,gs,nm,ns,t,rfl,hb,hL,lo0,lo1,hga,hg,G,hva,hpl,hz,q⟩:=h
 refine⟨_,(q11 (ps_if (q19 op_eq (pv 2) q23 (q21 _))
 (q15 q31)
 q20)
 (q11 (ps_if (q19 op_eq (pv 2) q23 (q21 _))
 (q15 q31)
 q20)
 (q15 (q18 (pe_fn (q312 z) hr.m () (q10 (pv 0) (q10 (pv 1) (q10 (pv 3) (q10 (pv 4) q12))))))))),?_⟩
 exists _,rfl,rfl,_,rfl
 rw[wne (by decide +kernel)]
 refine iteF ⟨_,rfl,rfl,_,rfl,?_⟩
 rw[wne (by decide +kernel)]
 refine iteF ?_
 exact⟨_,rfl,_,rfl,_,rfl,_,rfl,b,ga,va,xs,low,L,gs,nm,ns,t,rfl,hb,hL,lo0,lo1,hga,hg,G,hva,hpl,hz,q⟩
noncomputable abbrev kNb:Str := "number"
noncomputable abbrev kPt:Str := "part"
noncomputable abbrev kSt:Str := "stretch"
theorem q557:∀(e:Nat)(low:Int)(ns:List Int),wfT e (grow low e ns)
 | 0,low,ns=>by
  by_cases h:ns=[]
  ·rw[h,q72];exact q606 0
  ·rw[q185 h];show(0:Int)<=_;exact W13
 | e+1,low,ns=>by
  by_cases h:ns=[]
  ·rw[h,q72];exact q606 _
  ·have cn:∀ m:Int,m=0\/m=1->(ns.map (mkOf (low+2^e))).count m=(ns.filter (hlf (low+2^e) m)).length:=fun m hm=>by
    have:=q187 (ns:=ns) (mid:=low+2^e) (pl:=ns.length) hm
    rw[WS,WP (by rw[ZK];exact ZF _)]at this
    rw[this,countP_eq_length_filter]
   have c0:=cn 0 (.inl rfl)
   have c1:=cn 1 (.inr rfl)
   rw[q90 h]
   refine⟨fun x hx=>?_,?_,?_,q557 e _ _,q557 e _ _⟩
   ·obtain⟨n,_,rfl⟩:=List.mem_map.mp hx
    unfold mkOf
    split
    ·exact .inl rfl
    ·exact .inr rfl
   ·rw[q135,c0];rfl
   ·rw[q135,c1];rfl
theorem q418{low:Int}{L:Nat}(h:StOk rs p)(hl:∀ r∈rs,r.length<=200):GoodS L (gOf low L rs p)/\q46 (gOf low L rs p).1<=400:=by
 obtain⟨r,g,h1,h2⟩:=h
 have e:rs.getD p.1 []=r:=by rw[WT,g];rfl
 have:=hl r (ZV g)
 unfold gOf
 rw[e]
 exists⟨q557 _ _ _,h1,?_⟩
 ·rw[q135]
  show(p.2.2:Int)<=_
  exact W93 h2
 ·rw[q135]
  lia
theorem st_sm{rs:LL}(h:StOk rs p)(hn:rs.length<=100)(hl:∀ r∈rs,r.length<=200):SmP p:=by
 obtain⟨r,g,h1,h2⟩:=h
 have:=hl r (ZV g)
 have:=(List.getElem?_eq_some_iff.mp g).1
 exact⟨(W184 this hn),∅,∅⟩
theorem q419(h:VlsAt K H xs (y::ys)):∃ x xs',xs=x::xs'/\VlAt K H x y/\VlsAt K H xs' ys:=by
 cases xs with
 | nil=>exact absurd h.1 (by simp)
 | cons x xs=>exact⟨x,xs,rfl,h.2 0 x y rfl rfl,by have:=h.1;rw[WB,WB]at this;exact W109 this,fun j a b h1 h2=>h.2 (j+1) a b h1 h2⟩
theorem q420:∀{ns:List Int}{xs:List V},VlsAt K H xs (ns.map Vl.n)->xs=ns.map V.int
 | [],xs,h=>eq_nil_of_length_eq_zero h.1
 | n::ns,xs,h=>by
  obtain⟨x,xs',rfl,h1,h2⟩:=q419 h
  rw[show x = .int n from h1,q420 h2]
  rfl
theorem say_g{ks:List Str}{ns:List Int}(hk:(nm,kGt::ks)∈forms)(hl:ks.length=ns.length)(hf:ns.length<=100)(hg:VlOk kGt (.g ps))(hv:∀ p∈ks.zip ns,VlOk p.1 (.n p.2)):Say nm (kGt::ks) (.g ps::ns.map Vl.n):=
 say_of (by rw[WB,WB,ZK,hl]) (by rw[WB,ZK];lia) hk fun p hp=>by
  rw[zip_cons_cons]at hp
  rcases List.mem_cons.mp hp with rfl | hp
  ·exact hg
  ·rw[zip_map_right]at hp
   obtain⟨q,hq,rfl⟩:=List.mem_map.mp hp
   exact hv q hq
theorem Pl.say{low:Int}{L:Nat}{ns:List Int}(h:Pl low L gs nm ns t)(hb:BdN ns)(hg:VlOk kGt (.g ps)):∃ ks,Say nm ks (.g ps::ns.map Vl.n):=by
 have nb:∀ n∈ns,VlOk "number" (.n n):=fun n hn=>⟨hb n hn,.inr (.inl rfl)⟩
 cases h with
 | least k r h0 h1 h=>
  refine⟨_,say_g (ks:=[kCt]) (by decide +kernel) rfl (by simp) hg fun p hp=>?_⟩
  obtain rfl:p=(kCt,k):=by simpa using hp
  exact⟨hb k (ZQ ..),.inl ⟨rfl,h0⟩⟩
 | below n=>
  refine⟨_,say_g (ks:=[kNb]) (by decide +kernel) rfl (by simp) hg fun p hp=>?_⟩
  obtain rfl:p=(kNb,n):=by simpa using hp
  exact nb n (ZQ ..)
 | between a b=>
  refine⟨_,say_g (ks:=[kNb,kNb]) (by decide +kernel) rfl (by simp) hg fun p hp=>?_⟩
  rcases(by simpa using hp:p=(kNb,a)\/p=(kNb,b))with rfl | rfl
  ·exact nb a (by simp)
  ·exact nb b (by simp)
 | up n=>
  refine⟨_,say_g (ks:=[kNb]) (by decide +kernel) rfl (by simp) hg fun p hp=>?_⟩
  obtain rfl:p=(kNb,n):=by simpa using hp
  exact nb n (ZQ ..)
 | down n=>
  refine⟨_,say_g (ks:=[kNb]) (by decide +kernel) rfl (by simp) hg fun p hp=>?_⟩
  obtain rfl:p=(kNb,n):=by simpa using hp
  exact nb n (ZQ ..)
 | most=>exact⟨_,say_g (ks:=[]) (by decide +kernel) rfl (by simp) hg fun p hp=>by cases hp⟩
 | often p h0 h1=>
  refine⟨_,say_g (ks:=[kPt]) (by decide +kernel) rfl (by simp) hg fun q hq=>?_⟩
  obtain rfl:q=(kPt,p):=by simpa using hq
  exact⟨hb p (ZQ ..),.inr (.inr ⟨rfl,h0⟩)⟩
theorem Pl.nm{low:Int}{L:Nat}{gs:List S3}{nm t:Str}{ns:List Int}(h:Pl low L gs nm ns t):nm ≠ "show" /\ nm ≠ "falls" /\ inV (.str nm) qry=true:=by
 cases h <;> decide +kernel
noncomputable def AskOk(low:Int)(L:Nat)(rs:LL)(y t:Str):Prop:=
 (∃ p:P3,y=sayT "falls" [.s p]/\StOk rs p/\t=tx (flS L (gOf low L rs p))) \/
 (∃(nm:Str)(ps:List P3)(ns:List Int),y=sayT nm (.g ps::ns.map Vl.n)/\ps≠[]/\ps.length<=8/\(∀ p∈ps,StOk rs p)/\manyS (ps.map (gOf low L rs))<=900/\BdN ns/\ns.length<=10/\Pl low L (ps.map (gOf low L rs)) nm ns t)
inductive q139(K:Fg)(C:Addr)(M:Addr)(vs:List V)(H:Hp)(Q:VK)(E:XK):Prop
 |mk(d x ka b:Addr)(v:V)(low:Int)(L:Nat)(rs cs:LL)(p:P3)(_:vs=[.ref d,v])(_:Dsk C M H d x ka b low L rs cs)(_:PtAt K H v p)(_:StOk rs p)(_:∀ v' H',Same H H'->StrAt H' v' (gOf low L rs p)->Q v' H')
inductive q614(u0:Fg)(C:Addr)(M:Addr)(vs:List V)(H:Hp)(Q:VK)(E:XK):Prop
 |mk(d x ka b:Addr)(low:Int)(L:Nat)(rs cs:LL)(y:Str)(_:vs=[.ref d,.str y])(_:Dsk C M H d x ka b low L rs cs)(_:((∃ t,AskOk low L rs y t /\ ∀ H',Same H H'->Q (.str t) H') \/
  (∃(nm:Str)(ns r c:List Int),y=sayT nm (ns.map Vl.n)/\rs.length<=99/\Dd low L rs nm ns r c /\ ∀ H',Keep ka H H'->Dsk C M H' d x ka b low L (rs++[r]) (cs++[c])->Q (.str (tx (rs.length:Int))) H'))):q614 u0 C M vs H Q E
theorem q777(z:Bz K mg uA uB uC uD uE uF uG uH):ICal P w K mg base 4 uH pn14 (q503 K uH uG):=by
 have sc:=q747
 refine z.d_I_Desk.cal fun f fd F=>F.k sc fun _ _ _ s H _ Q _ hr h=>?_
 obtain⟨d,b,dd,low,L,rfl,hd,hb,hL,h0,h1,q⟩:=h
 refine⟨_,(q11 (q568 (pv 0) (pv 1) rfl)
 (q15 (q568 (pv 0) (pe_mk (q675 z) hr.m () z.m_Makes (q10 (pv 1) q12)) rfl))),?_⟩
 exists _,rfl,_,rfl,d,_,dd,_,rfl,hd,z.o_Desk,z.dB,{}
 have hbd:b≠d:=ne_of hb hd (by intro z;cases z)
 have k1:Keep d H (upd H d (.ins uH dd (putF "bounds" (.ref b) []))):=Keep.set d H _
 have e1:upd H d (.ins uH dd (putF "bounds" (.ref b) [])) d=some (.ins uH dd [("bounds", .ref b)]):=q13
 generalize upd H d (.ins uH dd (putF "bounds" (.ref b) []))=H1 at *
 refine⟨_,rfl,fun x dx hx hdx hne=>?_⟩
 have ha:∀ c o,H1 c=some o->upd (upd H1 dx (.own x)) x (.ins uG dx []) c=some o:=fun c o hc=>by
  rw[q28 (q24 hc hx),q28 (q24 hc hdx)]
  exact hc
 have ex:upd (upd H1 dx (.own x)) x (.ins uG dx []) x=some (.ins uG dx []):=q13
 generalize upd (upd H1 dx (.own x)) x (.ins uG dx [])=H2 at *
 refine⟨x,b,dx,low,L,rfl,ex,ha _ _ (k1 _ _ hbd hb),hL,fun ka H3 hka k3 M3=>⟨rfl,?_⟩⟩
 have hdx3:d≠x:=q24 e1 hx
 have e3:=k3 _ _ hdx3 (ha _ _ e1)
 exists _,rfl,d,_,dd,_,rfl,e3,z.o_Desk,z.dM,by show 1<1000;decide
 have k4:Keep d H3 (upd H3 d (.ins uH dd (putF "makes" (.ref x) [("bounds", .ref b)]))):=Keep.set d H3 _
 have e4:upd H3 d (.ins uH dd (putF "makes" (.ref x) [("bounds", .ref b)])) d=some (.ins uH dd [("bounds", .ref b),("makes", .ref x)]):=q13
 generalize upd H3 d (.ins uH dd (putF "makes" (.ref x) [("bounds", .ref b)]))=H4 at *
 have hka0:H ka=none:=by
  cases e:H ka with
  | none=>rfl
  | some o=>
   exfalso
   by_cases hkd:ka=d
   ·rw[hkd,ha _ _ e1]at hka;cases hka
   ·rw[ha _ _ (k1 _ _ hkd e)]at hka;cases hka
 have M4:=M3.keepI k4 e3 (Ne.symm hdx3)
 refine q x ka H4 hka0 ?_ ⟨⟨dd,e4⟩,M4,h0,h1⟩
 intro c o hc hco
 refine k4 _ _ hc (k3 _ _ ?_ (ha _ _ (k1 _ _ hc hco)))
 exact q24 (k1 _ _ hc hco) hx
theorem q778(z:Bz K mg uA uB uC uD uE uF uG uH):MCal P w K mg base 47 uH "made" ["self", "name", "values"] (q504 K uH uG):=by
 have sc:=q748
 refine z.d_M_made.cal z.o_Desk fun f fd F=>F.k sc fun _ _ _ s H _ Q _ hr h=>?_
 obtain⟨d,x,ka,b,v,low,L,rs,cs,nm,ns,r,c,rfl,hv,D,hn,dd,q⟩:=h
 refine⟨_,(q11 (ps_if (q19 op_eq (pv 1) q23 (q21 _))
 (q15 (q18 (q122 (q551 z) hr.m (q220 (pv 0) rfl) (q10 (pv 2) q12))))
 q20)
 (q11 q31
 (q11 q31
 (q11 q31
 (q11 q31
 (q11 q31
 (q11 q31
 (q15 q31)))))))),?_⟩
 obtain⟨di,hd⟩:=D.o
 have M:=D.m
 obtain⟨xi,hx⟩:=M.o
 exists _,rfl,rfl,_,rfl
 cases dd with
 | row r hw hl=>
  rw[weq rfl]
  refine iteT ?_
  refine⟨_,rfl,d,_,di,_,_,rfl,hd,z.o_Desk,z.dM,rfl,x,xi,_,rfl,hx,rfl,_,rfl,x,ka,b,v,low,L,rs,cs,_,rfl,M,SqL.of hv,hw,hl,hn,fun H' k m=>q H' k (D.made k m)⟩
theorem q140(z:Bz K mg uA uB uC uD uE uF uG uH):MCal P w K mg base 4 uH "stretch_at" ["self", "spot"] (q139 K uH uG):=by
 have sc:=q292
 refine z.d_M_stretch_at.cal z.o_Desk fun f fd F=>F.k sc fun _ _ _ s H _ Q _ hr h=>?_
 obtain⟨d,x,ka,b,v,low,L,rs,cs,p,rfl,D,⟨a,rfl,ha⟩,hst,q⟩:=h
 exists _,(q15 (q18 (q122 (q498 z) hr.m (q220 (pv 0) rfl) (q10 (pix q30 (pv 1) q14) (q10 (pix q30 (pv 1) q14) (q10 (pix q30 (pv 1) q14) q12))))))
 obtain⟨di,hd⟩:=D.o
 have M:=D.m
 obtain⟨xi,hx⟩:=M.o
 obtain⟨r,g,h1,h2⟩:=hst
 have e:rs.getD p.1 []=r:=by rw[WT,g];rfl
 refine⟨_,rfl,d,_,di,_,_,rfl,hd,z.o_Desk,z.dM,rfl,x,xi,_,rfl,hx,rfl,_,rfl,a,_,_,_,rfl,rfl,ha,rfl,_,rfl,a,_,_,_,rfl,rfl,ha,rfl,_,rfl,a,_,_,_,rfl,rfl,ha,rfl,x,ka,b,p.1,p.2.1,p.2.2,low,L,rs,cs,r,rfl,M,g,h1,h2,fun p1 v1 H1 s1 hv hp1=>?_⟩
 refine q _ H1 s1 ⟨p1,v1,rfl,hp1,?_⟩
 unfold gOf
 rw[e]
 exact hv
theorem q421(z:Bz K mg uA uB uC uD uE uF uG uH):MCal P w K mg base 50 uH "say" pn21 (q614 K uH uG):=by
 have sc:=sc_M_say
 refine z.d_M_say.cal z.o_Desk fun f fd F=>F.k sc fun _ _ _ s H _ Q _ hr h=>?_
 obtain⟨d,x,ka,b,low,L,rs,cs,y,rfl,D,q⟩:=h
 refine⟨_,(q11 (pst 2 sc.nd (pe_fn (q502 z) hr.m () (q10 (pv 1) q12)))
 (q11 (pst 3 sc.nd (pix q30 (pv 2) q14))
 (q11 (pst 4 sc.nd (pix q30 (pv 2) q14))
 (q11 (pst 5 sc.nd (pix q30 (pv 2) q14))
 (q11 (ps_if (q19 op_eq (pv 4) q23 (q21 _))
 (q15 q31)
 q20)
 (q11 (ps_if (q19 op_eq (pv 4) q23 (q21 _))
 (q15 (q18 (pe_fn (q57 z) hr.m () (q10 (pe_fn (ok_falls z) hr.m () (q10 (q122 (q140 z) hr.m (pv 0) (q10 (pix q32 (pv 5) q14) q12)) q12)) q12))))
 q20)
 (q11 (ps_if (q19 q440 (pv 4) (q34 (q10 q23 (q10 q23 (q10 q23 (q10 q23 (q10 q23 (q10 q23 (q10 q23 q12)))))))) rfl)
 (q11 (q204 (i:=6) (cl:=[("self", s.heap.objs.size+1+0)]) (cn:=["self"]) (N:=["self"]) (fr:=[0]) (sc0:=q17 q531) sc.nd rfl (Or.inl rfl) rfl (q35 (pix q32 (pv 5) q14)) (fun C s₂ H₂ fp=>(q122 (q140 z) hr.m (pv 1) (q10 (pv 0) q12))) (by ac_rfl) ⟨by ac_rfl,trivial⟩ rfl rfl rfl cok rfl (by ac_rfl) (.inl rfl))
 (q15 (q18 (pe_fn (q776 z) hr.m () (q10 (q220 (pv 0) rfl) (q10 (pv 6) (q10 (pv 3) (q10 (pv 4) (q10 (q80 q165 (pv 5) (q88 q14) q110) q12)))))))))
 q20)
 (q15 (q18 (pe_fn (q57 z) hr.m () (q10 (q122 (q778 z) hr.m (pv 0) (q10 (pv 4) (q10 (pv 5) q12))) q12))))))))))),?_⟩
 obtain⟨di,hd⟩:=D.o
 have M:=D.m
 obtain⟨xi,hx⟩:=M.o
 have few:=M.few
 have hl2:∀ r∈rs,r.length<=200:=fun r hr=>(M.ok r hr).2
 have hbd:∀{j:Nat}{r:List Int},rs[j]? = some r->BdN r/\r.length<=1000/\j<=1000:=fun {j r} g=>by
  obtain⟨hw,hl⟩:=M.sz g
  have hp:=p40 M.hL
  have:=D.lo
  have:=D.hi
  have:=(List.getElem?_eq_some_iff.mp g).1
  exact⟨fun n hn=>by have:=hw n hn;lia,(W134 hl),(W184 this few)⟩
 rcases q with ⟨t,⟨sp,rfl,hst,rfl⟩ | ⟨nm,ps,ns,rfl,hne,h8,hst,hmn,hb,hnl,pl⟩,q⟩ | ⟨nm,ns,r,c,rfl,hn,dd,q⟩
 ·obtain⟨hgd,hsz⟩:=q418 (low:=low) (L:=L) hst hl2
  have hfl:=q774 hgd hsz
  have hp2:=p40 M.hL
  have S:Say "falls" [kSt] [.s sp]:=say_of rfl (by simp) (by decide +kernel) fun p hp=>by
   obtain rfl:p=(kSt,.s sp):=by simpa using hp
   exact⟨rfl,st_sm hst few hl2⟩
  refine⟨_,rfl,_,_,_,rfl,S,fun p v ys H1 s1 ep ev hA=>?_⟩
  obtain⟨y0,ys',rfl,hy0,hA'⟩:=q419 hA
  exists _,rfl,p,_,_,_,rfl,rfl,SqT.of ep,rfl
  exists _,rfl,p,_,_,_,rfl,rfl,SqT.of ep,rfl
  exists _,rfl,p,_,_,_,rfl,rfl,SqT.of ep,rfl
  exists _,rfl,rfl,_,rfl
  rw[wne (by decide +kernel)]
  refine iteF ⟨_,rfl,rfl,_,rfl,?_⟩
  rw[weq rfl]
  refine iteT ?_
  refine⟨_,rfl,d,di,_,rfl,s1 _ _ hd,rfl,_,rfl,v,_,_,_,rfl,rfl,SqL.of ev,q41 (j:=0) rfl,d,x,ka,b,y0,low,L,rs,cs,sp,rfl,D.same s1,hy0,hst,fun v' H2 s2 hv'=>?_⟩
  exact⟨v',L,_,rfl,hv',hgd,hsz,M.hL,fun H3 s3=>⟨_,rfl,∅,∅,q H3 (s1.trans (s2.trans s3))⟩⟩
 ·have hok:VlOk kGt (.g ps):=⟨rfl,hne,h8,fun p hp=>st_sm (hst p hp) few hl2⟩
  obtain⟨ks,S⟩:=pl.say hb hok
  have G:GoodG L (ps.map (gOf low L rs)):=⟨fun g hg=>by
   obtain⟨p,hp,rfl⟩:=List.mem_map.mp hg
   exact(q418 (hst p hp) hl2).1,by rw[ZK];exact h8,hmn⟩
  have hz:∀ g∈ps.map (gOf low L rs),q46 g.1<=400:=fun g hg=>by
   obtain⟨p,hp,rfl⟩:=List.mem_map.mp hg
   exact(q418 (hst p hp) hl2).2
  refine⟨_,rfl,nm,ks,_,rfl,S,fun p v ys H1 s1 ep ev hA=>?_⟩
  obtain⟨y0,ys',rfl,hy0,hA'⟩:=q419 hA
  obtain rfl:ys'=ns.map V.int:=q420 hA'
  obtain⟨ga,gx,rfl,hga,hgx⟩:=hy0
  exists _,rfl,p,_,_,_,rfl,rfl,SqT.of ep,rfl
  exists _,rfl,p,_,_,_,rfl,rfl,SqT.of ep,rfl
  exists _,rfl,p,_,_,_,rfl,rfl,SqT.of ep,rfl
  exists _,rfl,rfl,_,rfl
  rw[wne pl.nm.1]
  refine iteF ⟨_,rfl,rfl,_,rfl,?_⟩
  rw[wne pl.nm.2.1]
  refine iteF ⟨_,rfl,szb rfl,fun tq htq=>?_⟩
  obtain⟨H2,gz,s2,e2⟩:=nwH htq (.tup qry)
  rw[gz]
  exists tq,qry,rfl,.inr (SqT.of e2),rfl,rfl
  rw[pl.nm.2.2]
  exists _,rfl
  refine iteT ?_
  have s12:=s1.trans s2
  have ev2:=s2 _ _ ev
  refine⟨_,rfl,v,_,_,_,rfl,rfl,SqL.of ev2,q41 (j:=0) rfl,ga,rfl,⟨_,s2.seq hga⟩,fun D3 hD3=>?_⟩
  refine q67 (K:=K) (xs:=gx) (sl51 (by rw[hgx.1];exact W192 h8)) (fun i ys H4=>H4 D3=some (.lst ys)/\ys.length=i/\Same H2 H4/\GatAt H4 ys ((ps.take i).map (gOf low L rs))) ⟨q13,rfl,q16 hD3 _,GatAt.nil _⟩ (fun i ys H4 ⟨_,_,e,_⟩=>e.seq (s2.seq hga)) (fun i ys H4 ⟨e1,e2,_,_⟩=>⟨e1,e2⟩) ?_ ?_
  ·rintro i y ys H4 hy ⟨e1,e4,s4,hg4⟩
   have hi:i<ps.length:=by rw[<- hgx.1];exact(List.getElem?_eq_some_iff.mp hy).1
   have gi:ps[i]? = some ps[i]:=ZP hi
   generalize ps[i]=sp at gi
   have s14:=s12.trans s4
   refine⟨_,rfl,d,di,_,rfl,s14 _ _ hd,rfl,_,rfl,d,x,ka,b,y,low,L,rs,cs,sp,rfl,D.same s14,(hgx.2 i y sp hy gi).same (s2.trans s4),hst sp (ZV gi),fun v' H5 s5 hv'=>?_⟩
   have e5:=s5 _ _ e1
   have tk:TKeep H5 (upd H5 D3 (.lst (ys++[v']))):=TKeep.set e5
   exists e5,q13,by rw[ZM,e4] <;> rfl,own2 (s4.trans s5) hD3
   rw[WK,gi,WF]
   exact((hg4.same s5).tk tk).snoc (hv'.tk tk)
  ·rintro ys H4 ⟨e1,e4,s4,hg4⟩
   rw[hgx.1,WS]at hg4
   have s14:=s12.trans s4
   have ev4:=s4 _ _ ev2
   refine⟨_,rfl,d,_,di,_,_,rfl,s14 _ _ hd,z.o_Desk,z.dB,rfl,_,rfl,_,rfl,_,rfl,_,rfl,_,rfl,v,_,rfl,SqL.of ev4,fun wa hwa=>?_⟩
   have ec:cutV (V.ref ga::ns.map V.int) (some 1) none=ns.map V.int:=by
    unfold cutV
    rw[show(some (1:Int))=some ((1:Nat):Int)from rfl,HT.q801,HT.q800,WB,YH ∅]
    exact WP (by rw[length_drop,WB];exact ZF _)
   rw[ec]
   have s5:=q16 hwa (.lst (ns.map V.int))
   exact⟨b,D3,wa,ys,low,L,_,nm,ns,t,rfl,SqT.of (s5 _ _ (s14 _ _ M.hb)),M.hL,D.lo,D.hi,s5 _ _ e1,hg4.same s5,G,SqL.of q13,pl,hz,fun H6 s6=>q H6 (s14.trans (s5.trans s6))⟩
 ·obtain⟨ks,S⟩:=dd.say M.hL M.few hl2 D.lo D.hi
  refine⟨_,rfl,nm,ks,_,rfl,S,fun p v ys H1 s1 ep ev hA=>?_⟩
  obtain rfl:ys=ns.map V.int:=q420 hA
  exists _,rfl,p,_,_,_,rfl,rfl,SqT.of ep,rfl
  exists _,rfl,p,_,_,_,rfl,rfl,SqT.of ep,rfl
  exists _,rfl,p,_,_,_,rfl,rfl,SqT.of ep,rfl
  exists _,rfl,rfl,_,rfl
  rw[wne (q775 dd.nm).1]
  refine iteF ⟨_,rfl,rfl,_,rfl,?_⟩
  rw[wne (q775 dd.nm).2.1]
  refine iteF ⟨_,rfl,szb rfl,fun t ht=>?_⟩
  obtain⟨H2,gz,s2,e2⟩:=nwH ht (.tup qry)
  rw[gz]
  exists t,qry,rfl,.inr (SqT.of e2),rfl,rfl
  rw[(q775 dd.nm).2.2]
  exists _,rfl
  refine iteF ?_
  have s12:=s1.trans s2
  refine⟨_,rfl,d,di,_,rfl,s12 _ _ hd,rfl,_,rfl,_,rfl,d,x,ka,b,v,low,L,rs,cs,nm,ns,r,c,rfl,s2 _ _ ev,D.same s12,hn,dd,fun H3 k3 D3=>?_⟩
  exact⟨_,rfl,∅,∅,q H3 ((Keep.same s12).trans k3) D3⟩
abbrev Rg:=List Int×Nat×Nat
noncomputable def gr(low:Int)(e:Nat)(x:Rg):S3:=(grow low e x.1,x.2.1,x.2.2)
noncomputable def hv(mid m:Int)(x:Rg):Rg:=(x.1.filter (hlf mid m),(x.1.take x.2.1).countP (hlf mid m),(x.1.take x.2.2).countP (hlf mid m))
noncomputable def sg(x:Rg):List Int:=segI x.1 x.2.1 x.2.2
def RgOk(x:Rg):Prop:=x.2.1<=x.2.2/\x.2.2<=x.1.length
noncomputable def Wx(xs:List Rg):List Int:=xs.flatMap sg
abbrev AllOk(xs:List Rg):Prop:=∀ x∈xs,RgOk x
noncomputable def ltN(us:List Int)(n:Int):Nat:=us.countP fun x=>decide (x<n)
theorem grow_no{low:Int}{e:Nat}:isNo (grow low e ns)=decide (ns=[]):=by
 cases ns with
 | nil=>rw[q72];rfl
 | cons n ns=>
  rw[ZS (by simp)]
  cases e with
  | zero=>rw[q185 (by simp)];rfl
  | succ e=>rw[q90 (by simp)];rfl
theorem q615{low m:Int}{e:Nat}(hm:m=0\/m=1):ld1 m (gr low (e+1) x)=gr (lowOf low e m) e (hv (low+2^e) m x):=by
 obtain⟨r,a,b⟩:=x
 unfold ld1 gr hv
 dsimp only
 rw[q484 hm,grow_no]
 by_cases c:r.filter (hlf (low+2^e) m)=[]
 ·have z:∀ k,(r.take k).countP (hlf (low+2^e) m)=0:=fun k=>List.countP_eq_zero.mpr fun y hy h=>by
   have:=List.mem_filter.mpr ⟨YG hy,h⟩
   rw[c]at this
   cases this
  rw[ZL (ZG c),c,q72,z,z]
 ·have hr:r≠[]:=fun z=>c (by rw[z];rfl)
  rw[ZJ (by rw[ZS c];exact fnt),q90 hr]
  show(_,((r.map (mkOf (low+2^e))).take a).count m,((r.map (mkOf (low+2^e))).take b).count m)=_
  rw[q187 hm,q187 hm]
theorem hv_ok{mid m:Int}(h:RgOk x):RgOk (hv mid m x):=by
 obtain⟨r,a,b⟩:=x
 have h1:a<=b:=h.1
 exists ?_
 ·show(r.take a).countP _<=(r.take b).countP _
  rw[<- q542 h1]
  exact(take_sublist _ _).countP_le
 ·show(r.take b).countP _<=(r.filter _).length
  rw[<- countP_eq_length_filter]
  exact(take_sublist _ _).countP_le
theorem sg_hv{mid m:Int}(h:RgOk x):sg (hv mid m x)=(sg x).filter (hlf mid m):=(q671 _ h.1).symm
theorem q119(x:Rg)(xs:List Rg):Wx (x::xs)=sg x++Wx xs:=flatMap_cons ..
theorem Wx_hv{mid m:Int}:∀{xs:List Rg},AllOk xs->Wx (xs.map (hv mid m))=(Wx xs).filter (hlf mid m)
 | [],_=>rfl
 | x::xs,h=>by rw[YA,q119,q119,YW,sg_hv (h x (ZQ ..)),Wx_hv fun y hy=>h y (ZU _ hy)]
theorem q126{mid m:Int}{xs:List Rg}(h:AllOk xs):AllOk (xs.map (hv mid m)):=fun y hy=>by
 obtain⟨x,hx,rfl⟩:=List.mem_map.mp hy
 exact hv_ok (h x hx)
theorem q779{x:Rg}(h:RgOk x):((sg x).length:Int)=(x.2.2:Int)-(x.2.1:Int):=by
 have:=h.1
 unfold sg
 rw[q541 h.2]
 lia
theorem q92{low:Int}{e:Nat}:∀{xs:List Rg},AllOk xs->manyS (xs.map (gr low e))=((Wx xs).length:Int)
 | [],_=>rfl
 | x::xs,h=>by
  rw[YA,q37,q119,ZM,q92 fun y hy=>h y (ZU _ hy)]
  have:=q779 (h x (ZQ ..))
  show(x.2.2:Int)-(x.2.1:Int)+_=_
  lia
theorem gr_ld{low m:Int}{e:Nat}{xs:List Rg}(hm:m=0\/m=1):(xs.map (gr low (e+1))).map (ld1 m)=(xs.map (hv (low+2^e) m)).map (gr (lowOf low e m) e):=by
 rw[map_map,map_map]
 exact map_congr_left fun x _=>q615 hm
theorem hlf0{mid x:Int}:hlf mid 0 x=decide (x<mid):=rfl
theorem hlf1{mid x:Int}:hlf mid 1 x=decide (mid<=x):=rfl
theorem q147(mid:Int)(p:Int->Bool):∀ us:List Int,us.countP p=(us.filter (hlf mid 0)).countP p+(us.filter (hlf mid 1)).countP p
 | []=>rfl
 | u::us=>by
  rw[countP_cons,q147 mid p us]
  by_cases c:u<mid
  ·rw[filter_cons_of_pos (p:=hlf mid 0) (ZG c),filter_cons_of_neg (p:=hlf mid 1) (by rw[hlf1,ZS (W61 c)];exact fnt),countP_cons]
   exact W219
  ·rw[filter_cons_of_neg (p:=hlf mid 0) (by rw[hlf0,ZS c];exact fnt),filter_cons_of_pos (p:=hlf mid 1) (ZG ∅),countP_cons]
   exact W48
theorem q780{us:List Int}{n:Int}(h:∀ x∈us,x<n):ltN us n=us.length:=List.countP_eq_length.mpr fun x hx=>ZG (h x hx)
theorem lt_no{n:Int}(h:∀ x∈us,n<=x):ltN us n=0:=List.countP_eq_zero.mpr fun x hx=>by
 have:=h x hx
 rw[WV]
 exact W205 this
theorem lo_lt{mid x:Int}{us:List Int}(h:x∈us.filter (hlf mid 0)):x<mid:=ZI (List.mem_filter.mp h).2
theorem hi_ge{mid x:Int}{us:List Int}(h:x∈us.filter (hlf mid 1)):mid<=x:=ZI (List.mem_filter.mp h).2
theorem ml_gr:∀{e:Nat}{low:Int}{xs:List Rg}{n:Int},AllOk xs->Wths low e (Wx xs)->low<=n->n<low+2^e->mlS (wayW e (n-low)) (xs.map (gr low e))=(ltN (Wx xs) n:Int)
 | 0,low,xs,n,_,hw,h0,h1=>by
  rw[lt_no fun x hx=>?_]
  ·rfl
  ·have:=hw x hx
   rw[Int.pow_zero]at h1
   lia
 | e+1,low,xs,n,hx,hw,h0,h1=>by
  obtain⟨w1,w2,w3⟩:=q250 h0 h1
  have sp:=q147 (low+2^e) (fun x=>decide (x<n)) (Wx xs)
  have ih:=ml_gr (e:=e) (n:=n) (q126 (mid:=low+2^e) (m:=mkOf (low+2^e) n) hx) (by rw[Wx_hv hx];exact hw.half (mk01 _ _)) w2 w3
  rw[w1,mlS,gr_ld (mk01 _ _),ih,Wx_hv hx]
  show _=((List.countP _ _:Nat):Int)
  rw[sp]
  by_cases c:n<low+2^e
  ·have z:=lt_no (us:=(Wx xs).filter (hlf (low+2^e) 1)) (n:=n) fun x hx=>by
    have:=hi_ge hx
    lia
   rw[q404 c,ZJ {}]
   unfold ltN at z ⊢
   lia
  ·rw[q405 c,ZL rfl,gr_ld (.inl rfl),q92 (q126 hx),Wx_hv hx]
   have:=q780 (us:=(Wx xs).filter (hlf (low+2^e) 0)) (n:=n) fun x hx=>by
    have:=lo_lt hx
    lia
   unfold ltN at this ⊢
   lia
theorem be_gr{low n:Int}{L:Nat}{xs:List Rg}(hx:AllOk xs)(hw:Wths low L (Wx xs)):beS low L (xs.map (gr low L)) n=(ltN (Wx xs) n:Int):=by
 unfold beS
 split
 ·rw[lt_no fun x hx=>?_]
  ·rfl
  ·have:=hw x hx
   lia
 ·split
  ·rw[q780 fun x hx=>?_]
   ·exact q92 hx
   ·have:=hw x hx
    lia
  ·exact ml_gr hx hw ∅ ∅
theorem lds_map(w:Int)(ws:List Int)(gs:List S3):gs.map (lds (w::ws))=(gs.map (ld1 w)).map (lds ws):=by
 rw[map_map]
 rfl
theorem q616:∀{e:Nat}{low:Int}{xs:List Rg}{v:Int},AllOk xs->Wths low e (Wx xs)->low<=v->v<low+2^e->manyS ((xs.map (gr low e)).map (lds (wayW e (v-low))))=((Wx xs).count v:Int)
 | 0,low,xs,v,hx,hw,h0,h1=>by
  rw[Int.pow_zero]at h1
  show manyS ((xs.map (gr low 0)).map fun g=>g)=_
  rw[map_id',q92 hx,List.count_eq_length.mpr fun y hy=>?_]
  have:=hw y hy
  rw[Int.pow_zero]at this
  exact W42 h1 this h0
 | e+1,low,xs,v,hx,hw,h0,h1=>by
  obtain⟨w1,w2,w3⟩:=q250 h0 h1
  rw[w1,lds_map,gr_ld (mk01 _ _),q616 (q126 hx) (by rw[Wx_hv hx];exact hw.half (mk01 _ _)) w2 w3,Wx_hv hx,count_filter (q188 _ _)]
theorem wn_gr:∀{e:Nat}{low:Int}{xs:List Rg}{k:Int},AllOk xs->Wths low e (Wx xs)->0<=k->k<((Wx xs).length:Int) -> ∃ v,low<=v/\v<low+2^e/\wnS e (xs.map (gr low e)) k=wayW e (v-low)/\(spanS low e (wnS e (xs.map (gr low e)) k)).1=v/\(ltN (Wx xs) v:Int)<=k/\k<(ltN (Wx xs) v:Int)+((Wx xs).count v:Int)
 | 0,low,xs,k,hx,hw,h0,h1=>by
  exists low,WU _,by rw[Int.pow_zero];exact W65,rfl,rfl,?_
  ·rw[lt_no fun x hx=>(hw x hx).1]
   exact h0
  ·rw[List.count_eq_length.mpr fun y hy=>?_]
   ·lia
   ·have:=hw y hy
    rw[Int.pow_zero]at this
    lia
 | e+1,low,xs,k,hx,hw,h0,h1=>by
  have hl:=q147 (low+2^e) (fun _=>true) (Wx xs)
  rw[countP_true]at hl
  have m0:manyS ((xs.map (gr low (e+1))).map (ld1 0))=(((Wx xs).filter (hlf (low+2^e) 0)).length:Int):=by rw[gr_ld (.inl rfl),q92 (q126 hx),Wx_hv hx]
  have hp:=pow2 e
  by_cases c:k<(((Wx xs).filter (hlf (low+2^e) 0)).length:Int)
  ·have t0:tnS (xs.map (gr low (e+1))) k=0:=by unfold tnS;rw[m0,ZL c]
   obtain⟨v,v0,v1,v2,v3,v4,v5⟩:=wn_gr (e:=e) (low:=low) (k:=k) (q126 (mid:=low+2^e) (m:=0) hx) (by rw[Wx_hv hx];exact hw.half (.inl rfl)) h0 (by rw[Wx_hv hx];exact c)
   rw[Wx_hv hx]at v4 v5
   have ew:wnS (e+1) (xs.map (gr low (e+1))) k=0::wnS e ((xs.map (hv (low+2^e) 0)).map (gr low e)) k:=by
    rw[wnS,t0,gr_ld (.inl rfl),Int.zero_mul,Int.sub_zero]
    rfl
   have sp:=q147 (low+2^e) (fun x=>decide (x<v)) (Wx xs)
   have z:=lt_no (us:=(Wx xs).filter (hlf (low+2^e) 1)) (n:=v) fun x hx=>by
    have:=hi_ge hx
    lia
   have cn:(Wx xs).count v=((Wx xs).filter (hlf (low+2^e) 0)).count v:=(count_filter (p:=hlf (low+2^e) 0) (ZG v1)).symm
   exists v,v0,∅,?_,?_,?_
   ·rw[ew,v2,q294 ∅]
   ·rw[ew]
    show((wnS e _ k).foldl stS (stS (low,2^(e+1)) 0)).1=v
    rw[show stS (low,2^(e+1)) 0=(low,2^e) by unfold stS;rw[ZJ {},q403]]
    exact v3
   ·unfold ltN at z v4 ⊢
    lia
   ·unfold ltN at z v5 ⊢
    lia
  ·have t1:tnS (xs.map (gr low (e+1))) k=1:=by unfold tnS;rw[m0,ZJ c]
   obtain⟨v,v0,v1,v2,v3,v4,v5⟩:=wn_gr (e:=e) (low:=low+2^e) (k:=k-(((Wx xs).filter (hlf (low+2^e) 0)).length:Int)) (q126 (mid:=low+2^e) (m:=1) hx) (by rw[Wx_hv hx];exact hw.half (.inr rfl)) ∅ (by rw[Wx_hv hx];lia)
   rw[Wx_hv hx]at v4 v5
   have ew:wnS (e+1) (xs.map (gr low (e+1))) k=1::wnS e ((xs.map (hv (low+2^e) 1)).map (gr (low+2^e) e)) (k-(((Wx xs).filter (hlf (low+2^e) 0)).length:Int)):=by
    rw[wnS,t1,m0,gr_ld (.inr rfl),Int.one_mul]
    rfl
   have sp:=q147 (low+2^e) (fun x=>decide (x<v)) (Wx xs)
   have z:=q780 (us:=(Wx xs).filter (hlf (low+2^e) 0)) (n:=v) fun x hx=>by
    have:=lo_lt hx
    lia
   have cn:(Wx xs).count v=((Wx xs).filter (hlf (low+2^e) 1)).count v:=(count_filter (p:=hlf (low+2^e) 1) (ZG v0)).symm
   have hq:(0:Int)<2^e:=Int.pow_pos {}
   exists v,∅,∅,?_,?_,?_
   ·rw[ew,v2,q295 ∅,show v-low-2^e=v-(low+2^e) by exact W46]
   ·rw[ew]
    show((wnS e _ _).foldl stS (stS (low,2^(e+1)) 1)).1=v
    rw[show stS (low,2^(e+1)) 1=(low+2^e,2^e) by unfold stS;rw[ZL rfl,q403]]
    exact v3
   ·unfold ltN at z v4 ⊢
    lia
   ·unfold ltN at z v5 ⊢
    lia
theorem cn_gr{low k:Int}{L:Nat}{xs:List Rg}(hx:AllOk xs)(hw:Wths low L (Wx xs))(h0:0<=k)(h1:k<((Wx xs).length:Int)):∃ v,cnS low L (xs.map (gr low L)) k=(v,((Wx xs).count v:Int))/\(ltN (Wx xs) v:Int)<=k/\k<(ltN (Wx xs) v:Int)+((Wx xs).count v:Int):=by
 obtain⟨v,v0,v1,v2,v3,v4,v5⟩:=wn_gr hx hw h0 h1
 refine⟨v,?_,v4,v5⟩
 unfold cnS
 rw[v3,v2,q616 hx hw v0 v1]
theorem eq_mem:∀{a b:List (Int×Int)},a.Pairwise (fun p q=>p.1<q.1)->b.Pairwise (fun p q=>p.1<q.1)->(∀ p,p∈a↔p∈b)->a=b
 | [],[],_,_,_=>rfl
 | [],y::b,_,_,h=>absurd ((h y).mpr ZQ) (by simp)
 | x::a,[],_,_,h=>absurd ((h x).mp ZQ) (by simp)
 | x::a,y::b,ha,hb,h=>by
  obtain⟨a1,a2⟩:=List.pairwise_cons.mp ha
  obtain⟨b1,b2⟩:=List.pairwise_cons.mp hb
  have e:x=y:=by
   rcases List.mem_cons.mp ((h x).mp ZQ)with e | hx
   ·exact e
   ·rcases List.mem_cons.mp ((h y).mpr ZQ)with e | hy
    ·exact e.symm
    ·have:=b1 x hx
     have:=a1 y hy
     lia
  subst e
  refine congrArg (x::·) (eq_mem a2 b2 fun p=>⟨fun hp=>?_,fun hp=>?_⟩)
  ·rcases List.mem_cons.mp ((h p).mp (ZU _ hp))with e | hx
   ·have:=a1 p hp
    rw[e]at this
    exact(W209 this).elim
   ·exact hx
  ·rcases List.mem_cons.mp ((h p).mpr (ZU _ hp))with e | hx
   ·have:=b1 p hp
    rw[e]at this
    lia
   ·exact hx
def Tld(us:List Int)(ps:List (Int×Int)):Prop:=ps.Pairwise (fun p q=>p.1<q.1) /\ ∀ w m,(w,m)∈ps↔(m=(us.count w:Int)/\0<m)
theorem q313{a b w:Int}(h:a<=w)(h':w<b):∀ us:List Int,ltN us a+us.count w<=ltN us b
 | []=>ZF _
 | u::us=>by
  have ih:=q313 h h' us
  unfold ltN at ih ⊢
  rw[countP_cons,countP_cons,count_cons]
  by_cases c1:u<a
  ·rw[ZL (ZG c1),ZL (ZG ∅),ZJ (by rw[beq_iff_eq];lia)]
   lia
  ·rw[ZJ (by rw[WV];exact c1)]
   by_cases c2:u=w
   ·rw[ZL (beq_iff_eq.mpr c2),ZL (ZG ∅)]
    lia
   ·rw[ZJ (by rw[beq_iff_eq];exact c2)]
    lia
theorem lt_mono{a b:Int}(h:a<=b)(us:List Int):ltN us a<=ltN us b:=countP_mono_left fun x _ h'=>ZG (by have:=ZI h';lia)
theorem Tld.mem{us:List Int}(T:Tld us ps){v:Int}(h:0<us.count v):(v,(us.count v:Int))∈ps:=(T.2 _ _).mpr ⟨rfl,∅⟩
theorem q371{p:Int×Int->Bool}:∀{ps:List (Int×Int)} {q:Int×Int},ps.Pairwise (fun p q=>p.1<q.1)->q∈ps->p q=true->(∀ r∈ps,p r=true->q.1<=r.1)->ps.find? p=some q
 | r::rs,q,hs,hq,hp,hl=>by
  obtain⟨a1,a2⟩:=List.pairwise_cons.mp hs
  rw[find?_cons]
  cases c:p r with
  | true=>
   rcases List.mem_cons.mp hq with rfl | hq
   ·rfl
   ·have:=a1 q hq
    have:=hl r (ZQ ..) c
    lia
  | false=>
   rcases List.mem_cons.mp hq with rfl | hq
   ·rw[c]at hp;cases hp
   ·exact q371 a2 hq hp fun x hx=>hl x (ZU _ hx)
theorem last_of{l:List (Int×Int)}{q:Int×Int}(hs:l.Pairwise fun p q=>p.1<q.1)(hq:q∈l)(hl:∀ r∈l,r.1<=q.1):l.getLast? = some q:=by
 have hne:l≠[]:=fun z=>by rw[z]at hq;cases hq
 rw[getLast?_eq_getLast hne]
 have e:=dropLast_concat_getLast hne
 have hz:=hl _ (getLast_mem hne)
 rw[<- e]at hs hq
 rcases List.mem_append.mp hq with h | h
 ·have:=(List.pairwise_append.mp hs).2.2 q h _ (List.mem_singleton.mpr rfl)
  exact(W202 hne this hz).elim
 ·rw[List.mem_singleton.mp h]
section
variable {low:Int} {L:Nat} {xs:List Rg} {ps:List (Int×Int)} (hx:AllOk xs) (hw:Wths low L (Wx xs)) (T:Tld (Wx xs) ps)
include hx hw T
theorem up_gr{n:Int}:upS low L (xs.map (gr low L)) n=ps.find? fun p=>decide (n<p.1):=by
 unfold upS
 rw[be_gr hx hw,q92 hx]
 split
 ·rename_i c
  refine(List.find?_eq_none.mpr fun q hq=>?_).symm
  obtain⟨h1,h2⟩:=(T.2 q.1 q.2).mp hq
  rw[WV]
  intro h
  have h3:=q313 (b:=q.1+1) (show n+1<=q.1 by exact W142 h) W65 (Wx xs)
  have h4:ltN (Wx xs) (q.1+1)<=(Wx xs).length:=countP_le_length ..
  lia
 ·have hl:ltN (Wx xs) (n+1)<=(Wx xs).length:=countP_le_length ..
  obtain⟨v,v1,v2,v3⟩:=cn_gr (k:=(ltN (Wx xs) (n+1):Int)) hx hw W13 ∅
  rw[v1]
  have hn:n<v:=by
   apply Classical.byContradiction
   intro z
   have:=q313 (b:=n+1) (WU v) ∅ (Wx xs)
   lia
  refine(q371 T.1 (T.mem ∅) (ZG hn) fun r hr h=>?_).symm
  apply Classical.byContradiction
  intro z
  obtain⟨h1,h2⟩:=(T.2 r.1 r.2).mp hr
  have:=ZI h
  have:=q313 (w:=r.1) (b:=v) (show n+1<=r.1 by exact W142 this) (W80 z) (Wx xs)
  lia
theorem dn_gr{n:Int}:dnS low L (xs.map (gr low L)) n=(ps.filter fun p=>decide (p.1<n)).getLast?:=by
 unfold dnS
 rw[be_gr hx hw]
 split
 ·rename_i c
  rw[List.filter_eq_nil_iff.mpr fun q hq=>?_]
  ·rfl
  ·obtain⟨h1,h2⟩:=(T.2 q.1 q.2).mp hq
   rw[WV]
   intro h
   have:=q313 (WU q.1) h (Wx xs)
   lia
 ·have hl:ltN (Wx xs) n<=(Wx xs).length:=countP_le_length ..
  obtain⟨v,v1,v2,v3⟩:=cn_gr (k:=(ltN (Wx xs) n:Int)-1) hx hw ∅ ∅
  rw[v1]
  have hn:v<n:=by
   apply Classical.byContradiction
   intro z
   have:=lt_mono (show n<=v by exact W20 z) (Wx xs)
   lia
  refine(last_of (T.1.filter _) (List.mem_filter.mpr ⟨T.mem ∅,ZG hn⟩) fun r hr=>?_).symm
  obtain⟨hr,h⟩:=List.mem_filter.mp hr
  apply Classical.byContradiction
  intro z
  obtain⟨h1,h2⟩:=(T.2 r.1 r.2).mp hr
  have:=q313 (b:=r.1) (WU v) (by show v<r.1;exact W80 z) (Wx xs)
  have:=q313 (WU r.1) (ZI h) (Wx xs)
  lia
end
theorem fil_gr{low:Int}{e:Nat}(xs:List Rg):fil (xs.map (gr low e))=(xs.filter fun x=>decide (x.2.1<x.2.2)).map (gr low e):=filter_map ..
theorem q314:∀{xs:List Rg},AllOk xs->Wx (xs.filter fun x=>decide (x.2.1<x.2.2))=Wx xs
 | [],_=>rfl
 | x::xs,h=>by
  have ih:=q314 fun y hy=>h y (ZU _ hy)
  rw[filter_cons,q119]
  split
  ·rw[q119,ih]
  ·rename_i c
   have:=q779 (h x (ZQ ..))
   rw[WV]at c
   rw[eq_nil_of_length_eq_zero (l:=sg x) ∅,ih]
   rfl
theorem q558{xs:List Rg}(h:AllOk xs):AllOk (xs.filter fun x=>decide (x.2.1<x.2.2)):=fun x hx=>h x (List.mem_filter.mp hx).1
theorem ca_mm{part fl:Int}(hp:0<=part):∀{e:Nat}{low:Int}{xs:List Rg},AllOk xs->Wths low e (Wx xs)->(caS part fl e low (xs.map (gr low e))).Pairwise (fun p q=>p.1<q.1) /\ ∀ w m,(w,m)∈caS part fl e low (xs.map (gr low e))↔low<=w/\w<low+2^e/\m=((Wx xs).count w:Int)/\fl<m*part
 | 0,low,xs,hx,hw=>by
  have hc:∀ w:Int,low<=w->w<low+1->(Wx xs).count w=(Wx xs).length:=fun w h0 h1=>List.count_eq_length.mpr fun y hy=>by
   have:=hw y hy
   rw[Int.pow_zero]at this
   exact W42 h1 this h0
  unfold caS
  rw[q92 hx,Int.pow_zero]
  split
  ·rename_i c
   refine⟨.nil,fun w m=>⟨fun h=>(by cases h),fun⟨h0,h1,h2,h3⟩=>?_⟩⟩
   rw[hc w h0 h1]at h2
   rw[h2]at h3
   exact(W172 h3 c).elim
  ·rename_i c
   refine⟨pairwise_singleton ..,fun w m=>⟨fun h=>?_,fun⟨h0,h1,h2,h3⟩=>?_⟩⟩
   ·cases List.mem_singleton.mp h
    exact⟨WU _,W65,by rw[hc low (WU _) ∅],(W80 c)⟩
   ·rw[hc w h0 h1]at h2
    rw[h2,show w=low by lia]
    exact List.mem_singleton.mpr rfl
 | e+1,low,xs,hx,hw=>by
  unfold caS
  rw[q92 hx]
  have hp2:=pow2 e
  have hq:(0:Int)<2^e:=Int.pow_pos {}
  split
  ·rename_i c
   refine⟨.nil,fun w m=>⟨fun h=>(by cases h),fun⟨h0,h1,h2,h3⟩=>?_⟩⟩
   have:m*part<=((Wx xs).length:Int)*part:=Int.mul_le_mul_of_nonneg_right (by have:=count_le_length (a:=w) (l:=Wx xs);lia) hp
   lia
  ·have k:∀ m:Int,(m=0\/m=1)->caS part fl e (lowOf low e m) (fil ((xs.map (gr low (e+1))).map (ld1 m)))=caS part fl e (lowOf low e m) (((xs.map (hv (low+2^e) m)).filter fun x=>decide (x.2.1<x.2.2)).map (gr (lowOf low e m) e)):=fun m hm=>by rw[gr_ld hm,fil_gr]
   have i0:=ca_mm hp (fl:=fl) (e:=e) (low:=lowOf low e 0) (q558 (q126 (mid:=low+2^e) (m:=0) hx)) (by rw[q314 (q126 hx),Wx_hv hx];exact hw.half (.inl rfl))
   have i1:=ca_mm hp (fl:=fl) (e:=e) (low:=lowOf low e 1) (q558 (q126 (mid:=low+2^e) (m:=1) hx)) (by rw[q314 (q126 hx),Wx_hv hx];exact hw.half (.inr rfl))
   rw[<- k 0 (.inl rfl),q314 (q126 hx),Wx_hv hx]at i0
   rw[<- k 1 (.inr rfl),q314 (q126 hx),Wx_hv hx]at i1
   change (caS part fl e low _).Pairwise _/\(∀ w m,(w,m)∈caS part fl e low _↔low<=w/\w<low+2^e/\_)at i0
   change (caS part fl e (low+2^e) _).Pairwise _/\(∀ w m,(w,m)∈caS part fl e (low+2^e) _↔low+2^e<=w/\w<low+2^e+2^e/\_)at i1
   refine⟨List.pairwise_append.mpr ⟨i0.1,i1.1,fun p hp q hq=>?_⟩,fun w m=>?_⟩
   ·have:=(i0.2 p.1 p.2).mp hp
    have:=(i1.2 q.1 q.2).mp hq
    lia
   ·rw[mem_append,i0.2,i1.2]
    by_cases c:w<low+2^e
    ·rw[count_filter (p:=hlf (low+2^e) 0) (ZG c)]
     constructor
     ·rintro (⟨a,b,d⟩ | ⟨a,b,d⟩)
      ·exact⟨a,∅,d⟩
      ·exact W196 a c
     ·rintro ⟨a,b,d⟩
      exact .inl ⟨a,c,d⟩
    ·rw[count_filter (p:=hlf (low+2^e) 1) (ZG (W68 c))]
     constructor
     ·rintro (⟨a,b,d⟩ | ⟨a,b,d⟩)
      ·exact W194 b c
      ·exact⟨∅,∅,d⟩
     ·rintro ⟨a,b,d⟩
      exact .inr ⟨(W68 c),∅,d⟩
theorem ca_gr{low part fl:Int}{L:Nat}{xs:List Rg}{ps:List (Int×Int)}(hx:AllOk xs)(hw:Wths low L (Wx xs))(T:Tld (Wx xs) ps)(hp:0<=part)(hf:0<=fl):caS part fl L low (fil (xs.map (gr low L)))=ps.filter fun p=>decide (fl<p.2*part):=by
 rw[fil_gr]
 obtain⟨c1,c2⟩:=ca_mm hp (fl:=fl) (q558 hx) (by rw[q314 hx];exact hw)
 rw[q314 hx]at c2
 refine eq_mem c1 (T.1.filter _) fun⟨w,m⟩=>?_
 rw[c2,mem_filter,T.2,WV]
 constructor
 ·rintro ⟨_,_,a,b⟩
  refine⟨⟨a,?_⟩,b⟩
  apply Classical.byContradiction
  intro z
  rw[show m=0 by lia,Int.zero_mul]at b
  lia
 ·rintro ⟨⟨a,c⟩,b⟩
  have:=hw w (List.count_pos_iff.mp (show 0<(Wx xs).count w by exact W190 c a))
  exact⟨this.1,this.2,a,b⟩
noncomputable def faR:List Int->Nat
 | []=>0
 | y::r=>r.countP (fun x=>decide (y<x))+faR r
theorem q781(mid:Int):∀ r:List Int,((r.map (mkOf mid)).foldr (fun m p=>crS p m) (0,0)).1=((r.filter (hlf mid 1)).length:Int)/\(faR r:Int)=((r.map (mkOf mid)).foldr (fun m p=>crS p m) (0,0)).2+(faR (r.filter (hlf mid 0)):Int)+(faR (r.filter (hlf mid 1)):Int)
 | []=>⟨rfl,rfl⟩
 | y::r=>by
  obtain⟨h1,h2⟩:=q781 mid r
  have sp:=q147 mid (fun x=>decide (y<x)) r
  rw[YA,foldr_cons]
  by_cases c:y<mid
  ·have z:(r.filter (hlf mid 1)).countP (fun x=>decide (y<x))=(r.filter (hlf mid 1)).length:=List.countP_eq_length.mpr fun x hx=>ZG (by have:=hi_ge hx;exact W139 this c)
   rw[q404 c,filter_cons_of_pos (p:=hlf mid 0) (ZG c),filter_cons_of_neg (p:=hlf mid 1) (by rw[hlf1,ZS ∅];exact fnt)]
   unfold crS at h1 h2 ⊢
   rw[ZJ {}]
   exists h1
   simp only[faR]
   lia
  ·have z:(r.filter (hlf mid 0)).countP (fun x=>decide (y<x))=0:=List.countP_eq_zero.mpr fun x hx=>by
    have:=lo_lt hx
    rw[WV]
    lia
   rw[q405 c,filter_cons_of_neg (p:=hlf mid 0) (by rw[hlf0,ZS c];exact fnt),filter_cons_of_pos (p:=hlf mid 1) (ZG ∅)]
   unfold crS at h1 h2 ⊢
   rw[ZL rfl]
   exists ?_
   ·show _+1=_
    rw[h1,WB]
    lia
   ·simp only[faR]
    lia
theorem q782{low:Int}:∀{l:List Int},(∀ x∈l,x=low)->faR l=0
 | [],_=>rfl
 | y::l,h=>by
  have z:l.countP (fun x=>decide (y<x))=0:=List.countP_eq_zero.mpr fun x hx=>by
   have:=h x (ZU _ hx)
   have:=h y (ZQ ..)
   rw[WV]
   lia
  rw[faR,z,q782 fun x hx=>h x (ZU _ hx)]
theorem fl_gr:∀{e:Nat}{low:Int}{x:Rg},RgOk x->Wths low e (sg x)->flS e (gr low e x)=(faR (sg x).reverse:Int)
 | 0,low,x,_,hw=>by
  rw[q782 (low:=low) fun y hy=>?_]
  ·rfl
  ·have:=hw y (List.mem_reverse.mp hy)
   rw[Int.pow_zero]at this
   lia
 | e+1,low,x,hx,hw=>by
  have hl:=q779 hx
  have le:lenS (gr low (e+1) x)=((sg x).length:Int):=hl.symm
  unfold flS
  rw[le]
  split
  ·rename_i c
   match h:(sg x).reverse,(show(sg x).reverse.length<2 by rw[length_reverse];lia) with
   | [],_=>rfl
   | [y],_=>rfl
  ·rename_i c
   have hr:x.1≠[]:=fun z=>by
    have:=hx.2
    rw[z]at this
    have:x.2.2<=0:=this
    lia
   have i0:=fl_gr (e:=e) (low:=lowOf low e 0) (hv_ok (mid:=low+2^e) (m:=0) hx) (by rw[sg_hv hx];exact hw.half (.inl rfl))
   have i1:=fl_gr (e:=e) (low:=lowOf low e 1) (hv_ok (mid:=low+2^e) (m:=1) hx) (by rw[sg_hv hx];exact hw.half (.inr rfl))
   obtain⟨_,h2⟩:=q781 (low+2^e) (sg x).reverse
   rw[q615 (.inl rfl),q615 (.inr rfl),i0,i1,sg_hv hx,sg_hv hx,h2,<- filter_reverse,<- filter_reverse]
   have em:crV (trMs (gr low (e+1) x).1) (gr low (e+1) x).2.1 (gr low (e+1) x).2.2=(((sg x).reverse.map (mkOf (low+2^e))).foldr (fun m p=>crS p m) (0,0)).2:=by
    unfold gr crV
    dsimp only
    rw[q90 hr]
    show((segI (x.1.map _) _ _).foldl crS (0,0)).2=_
    rw[map_reverse,foldr_reverse]
    unfold sg
    rw[seg_map]
    rfl
   rw[em]
   lia
theorem q783{mk:Int}:∀{ms:List Int}{l:Int}{i p:Nat},0<=l->plc mk ms l i=some p->i<=p/\ms[p-i]? = some mk/\((ms.take (p-i)).count mk:Int)=l
 | [],_,_,_,_,h=>by cases h
 | m::ms,l,i,p,h0,h=>by
  rw[q407]at h
  split at h
  ·rename_i c
   split at h
   ·rename_i c2
    cases h
    rw[Nat.sub_self,c,c2]
    exact⟨ZF _,rfl,rfl⟩
   ·obtain⟨a,b,d⟩:=q783 (show 0<=l-1 by lia) h
    rw[show p-i=p-(i+1)+1 by exact W8 a,getElem?_cons_succ,take_succ_cons,c,count_cons_self]
    exact⟨(W21 a),b,∅⟩
  ·rename_i c
   obtain⟨a,b,d⟩:=q783 h0 h
   rw[show p-i=p-(i+1)+1 by exact W8 a,getElem?_cons_succ,take_succ_cons,count_cons_of_ne c]
   exact⟨(W21 a),b,d⟩
theorem lif_gr:∀{e:Nat}{low v:Int}{r:List Int}{p:Nat},Wths low e r->low<=v->v<low+2^e->p<r.count v -> ∃ i,lif (wayW e (v-low)) (grow low e r) p=some i/\r[i]? = some v/\(r.take i).count v=p
 | 0,low,v,r,p,hw,h0,h1,hp=>by
  rw[Int.pow_zero]at h1
  have ha:∀ y∈r,v=y:=fun y hy=>by
   have:=hw y hy
   rw[Int.pow_zero]at this
   exact W42 h1 this h0
  have hl:p<r.length:=WG hp count_le_length
  exists p,rfl,?_
  ·rw[ZP hl,<- ha _ (getElem_mem hl)]
  ·rw[List.count_eq_length.mpr fun y hy=>ha y (YG hy),WL]
   exact W63 hl
 | e+1,low,v,r,p,hw,h0,h1,hp=>by
  obtain⟨w1,w2,w3⟩:=q250 h0 h1
  have hm:=mk01 (low+2^e) v
  have hs:=q188 (low+2^e) v
  obtain⟨i',e1,e2,e3⟩:=lif_gr (e:=e) (p:=p) (hw.half hm) w2 w3 (by rw[count_filter hs];exact hp)
  have hr:r≠[]:=fun z=>by rw[z]at hp;cases hp
  have hc:(i':Int)<(((r.map (mkOf (low+2^e))).count (mkOf (low+2^e) v):Nat):Int):=by
   have a:=(List.getElem?_eq_some_iff.mp e2).1
   have b:=q187 (mid:=low+2^e) (ns:=r) (pl:=r.length) hm
   rw[WP (by rw[ZK];exact ZF _),WP (ZF _),countP_eq_length_filter]at b
   lia
  obtain⟨i,hi,_⟩:=q252 (i:=0) (show(0:Int)<=(i':Int) by exact W13) hc
  obtain⟨_,g2,g3⟩:=q783 W13 hi
  rw[Nat.sub_zero]at g2 g3
  rw[q187 hm]at g3
  rw[WE]at g2
  cases ey:r[i]? with
  | none=>rw[ey]at g2;cases g2
  | some y=>
   rw[ey]at g2
   have g2:mkOf (low+2^e) y=mkOf (low+2^e) v:=Option.some.inj g2
   have hy:hlf (low+2^e) (mkOf (low+2^e) v) y=true:=g2▸q188 (low+2^e) y
   have f:=filt_get ey hy
   rw[show(r.take i).countP (hlf (low+2^e) (mkOf (low+2^e) v))=i' by exact W97 g3,e2]at f
   cases Option.some.inj f
   exists i,?_,ey
   ·rw[w1,lif,q484 hm,e1,q90 hr]
    exact hi
   ·have k:=q186 (hlf (low+2^e) (mkOf (low+2^e) v)) r i
    rw[show(r.take i).countP (hlf (low+2^e) (mkOf (low+2^e) v))=i' by exact W97 g3]at k
    rw[<- e3,k,count_filter hs]
theorem lds_at:∀{e:Nat}{low v:Int}{x:Rg},Wths low e x.1->RgOk x->low<=v->v<low+2^e->(lds (wayW e (v-low)) (gr low e x)).2=((x.1.take x.2.1).count v,(x.1.take x.2.2).count v)
 | 0,low,v,x,hw,hx,h0,h1=>by
  rw[Int.pow_zero]at h1
  have ha:∀ k,k<=x.1.length->(x.1.take k).count v=k:=fun k hk=>by
   rw[List.count_eq_length.mpr fun y hy=>?_,WL]
   ·lia
   ·have:=hw y (YG hy)
    rw[Int.pow_zero]at this
    exact W42 h1 this h0
  have:=hx.1
  have:=hx.2
  rw[ha _ ∅,ha _ hx.2]
  rfl
 | e+1,low,v,x,hw,hx,h0,h1=>by
  obtain⟨w1,w2,w3⟩:=q250 h0 h1
  have hm:=mk01 (low+2^e) v
  rw[w1,q191,q615 hm,lds_at (hw.half hm) (hv_ok hx) w2 w3]
  unfold hv
  dsimp only
  rw[q186,q186,count_filter (q188 _ _),count_filter (q188 _ _)]
theorem q617:∀{gs:List S3}{n:Int},0<=n->n<manyS gs->manyS (gs.take (pickS gs n).1)+(pickS gs n).2=n
 | [],n,h0,h1=>by have:n<0:=h1;lia
 | g::gs,n,h0,h1=>by
  rw[q37]at h1
  unfold pickS
  split
  ·show(0:Int)+n=n
   lia
  ·have:=q617 (gs:=gs) (n:=n-lenS g) ∅ ∅
   show manyS ((g::gs).take ((pickS gs (n-lenS g)).1+1))+(pickS gs (n-lenS g)).2=n
   rw[take_succ_cons,q37]
   lia
theorem q559{r:List Int}{a b:Nat}{v:Int}(h:a<=b):(r.take a).count v+(segI r a b).count v=(r.take b).count v:=by
 have e:=YY a (r.take b)
 rw[q542 h]at e
 rw[<- e,count_append]
 unfold segI
 rw[<- e]
theorem nl_gr{low k:Int}{L:Nat}{xs:List Rg}(hx:AllOk xs)(hr:∀ x∈xs,Wths low L x.1)(hw:Wths low L (Wx xs))(h0:0<=k)(h1:k<((Wx xs).length:Int)):∃(v:Int)(j i:Nat)(x:Rg),nlS low L (xs.map (gr low L)) k=some (v,j,i)/\xs[j]? = some x/\x.2.1<=i/\i<x.2.2/\x.1[i]? = some v/\k=(ltN (Wx xs) v:Int)+((Wx (xs.take j)).count v:Int)+((segI x.1 x.2.1 i).count v:Int):=by
 obtain⟨v,v0,v1,v2,v3,v4,v5⟩:=wn_gr hx hw h0 h1
 unfold nlS naS
 rw[v3,v2,ml_gr hx hw v0 v1]
 have hc:∀ j,manyS (((xs.take j).map (gr low L)).map (lds (wayW L (v-low))))=((Wx (xs.take j)).count v:Int):=fun j=>q616 (fun x h=>hx x (YG h)) (fun y hy=>by
  obtain⟨x,h,z⟩:=List.mem_flatMap.mp hy
  exact hw y (List.mem_flatMap.mpr ⟨x,YG h,z⟩)) v0 v1
 have hall:=q616 hx hw v0 v1
 have n0:0<=k-(ltN (Wx xs) v:Int):=∅
 have n1:k-(ltN (Wx xs) v:Int)<manyS ((xs.map (gr low L)).map (lds (wayW L (v-low)))):=∅
 obtain⟨g,p1,p2,p3⟩:=q409 n0 n1
 have ps:=q617 n0 n1
 generalize pickS ((xs.map (gr low L)).map (lds (wayW L (v-low)))) (k-(ltN (Wx xs) v:Int))=q at p1 p2 p3 ps ⊢
 rw[<- map_take,<- map_take,hc]at ps
 rw[WE,WE]at p1
 rw[WE]
 cases ex:xs[q.1]? with
 | none=>rw[ex]at p1;cases p1
 | some x=>
  rw[ex]at p1
  have hm:=ZV ex
  have la:=lds_at (hr x hm) (hx x hm) v0 v1
  obtain rfl:lds (wayW L (v-low)) (gr low L x)=g:=Option.some.inj p1
  unfold lenS at p3
  rw[la]at p3
  dsimp only at p3
  have x1:=(hx x hm).1
  obtain⟨i,i1,i2,i3⟩:=lif_gr (p:=(x.1.take x.2.1).count v+q.2.toNat) (hr x hm) v0 v1 (by
   have:(x.1.take x.2.2).count v<=x.1.count v:=(take_sublist _ _).count_le v
   lia)
  have ia:x.2.1<=i:=by
   apply Classical.byContradiction
   intro z
   have a:=q559 (r:=x.1) (v:=v) (show i+1<=x.2.1 by lia)
   rw[WK,i2,count_append]at a
   have:[v].count v=1:=count_singleton_self
   have:(some v).toList.count v=1:=this
   lia
  have ib:i<x.2.2:=by
   apply Classical.byContradiction
   intro z
   have a:=q559 (r:=x.1) (v:=v) (show x.2.2<=i by exact W30 z)
   lia
  exists v,q.1,i,x,?_,ex,ia,ib,i2
  ·show Option.map _ (Option.map _ (lif _ (gr low L x).1 ((lds (wayW L (v-low)) (gr low L x)).2.1+q.2.toNat)))=_
   rw[la]
   show Option.map _ (Option.map _ (lif _ (grow low L x.1) ((x.1.take x.2.1).count v+q.2.toNat)))=_
   rw[i1]
   rfl
  ·have:=q559 (r:=x.1) (v:=v) ia
   lia
def RwsAt(H:Hp)(rl:Addr)(rs:LL):Prop:=∃ ras:List Addr,H rl=some (.lst (ras.map V.ref))/\ras.length=rs.length /\ ∀(j:Nat)(r:List Int),rs[j]? = some r -> ∃ ra,ras[j]? = some ra/\H ra=some (.lst (r.map V.int))
theorem q784{l:List Addr}(P:PenM H pen)(h:H rl=some (.lst (l.map V.ref))):rl≠pen:=by
 obtain⟨c,b,n,hp⟩:=P
 refine ne_of h hp ?_
 intro e
 cases l with
 | nil=>cases e
 | cons a l=>simp at e
theorem pen_ra{l:List Int}(P:PenM H pen)(h:H ra=some (.lst (l.map V.int))):ra≠pen:=by
 obtain⟨c,b,n,hp⟩:=P
 refine ne_of h hp ?_
 intro e
 match l,e with
 | [],e=>cases e
 | [_],e=>simp at e
 | a::d::l,e=>simp at e
theorem Mks.first{low:Int}{L:Nat}{rs:LL}(M:Mks C H x ka b low L rs cs)(h:0<rs.length):∃(p:Addr)(es:List V),H ka=some (.lst (.ref p::es)):=by
 obtain⟨es,e1,e2,e3⟩:=M.hk
 have:=M.len
 obtain⟨p,a,v,q1,_⟩:=e3 0 _ _ (ZP h) (ZP ∅)
 cases es with
 | nil=>cases q1
 | cons u es=>
  obtain rfl:u = .ref p:=Option.some.inj q1
  exact⟨p,es,e1⟩
theorem Mks.pen{C:Addr}{H:Hp}{x ka b pen:Addr}{low:Int}{L:Nat}{rs cs:LL}(M:Mks C H x ka b low L rs cs)(h:0<rs.length)(P:PenM H pen):ka≠pen:=by
 obtain⟨p,es,e⟩:=M.first h
 obtain⟨c,b,n,hp⟩:=P
 exact ne_of e hp (by intro z;cases z)
abbrev T3:=Nat×Nat×Nat
def TAt(H:Hp)(x:V)(t:T3):Prop:=∃ p,x = .ref p/\H p=some (.tup [.int (t.1:Int),.int (t.2.1:Int),.int (t.2.2:Int)])
def TsAt(H:Hp)(xs:List V)(ts:List T3):Prop:=xs.length=ts.length /\ ∀(j:Nat)(x:V)(t:T3),xs[j]? = some x->ts[j]? = some t->TAt H x t
theorem TAt.tk(h:TAt H x t)(k:TKeep H H'):TAt H' x t:=by
 obtain⟨p,e,h⟩:=h
 exact⟨p,e,(k _ _).1 h⟩
theorem TsAt.tk(h:TsAt H xs ts)(k:TKeep H H'):TsAt H' xs ts:=⟨h.1,fun j x t h1 h2=>(h.2 j x t h1 h2).tk k⟩
theorem TsAt.snoc(h:TsAt H xs ts)(hx:TAt H x t):TsAt H (xs++[x]) (ts++[t]):=by
 refine⟨by rw[ZM,ZM,h.1] <;> rfl,fun j y k h1 h2=>?_⟩
 have hl:=h.1
 rcases q86 h1 with ⟨a1,a2⟩ | ⟨a1,a2⟩
 ·rcases q86 h2 with ⟨b1,b2⟩ | ⟨b1,b2⟩
  ·exact h.2 j y k a2 b2
  ·exact(W110 a1 b1 hl).elim
 ·rcases q86 h2 with ⟨b1,b2⟩ | ⟨b1,b2⟩
  ·exact(W105 b1 a1 hl).elim
  ·rw[a2,b2];exact hx
def TsOk(nss:LL)(ts:List T3):Prop:=∀ t∈ts,∃ ns,nss[t.1]? = some ns/\t.2.1<=t.2.2/\t.2.2<=ns.length
theorem RwsAt.kp(R:RwsAt H rl rs)(P:PenM H pen)(k:Keep pen H G):RwsAt G rl rs:=by
 obtain⟨ras,h1,h2,h3⟩:=R
 refine⟨ras,k _ _ (q784 P h1) h1,h2,fun j r g=>?_⟩
 obtain⟨ra,g1,g2⟩:=h3 j r g
 exact⟨ra,g1,k _ _ (pen_ra P g2) g2⟩
theorem two_of{ms fs:List Int}{n:Int}(hp:ms.Perm fs)(ho:ms.Pairwise (· <= ·))(hl:fs.length=2)(hf:∀ x∈fs,0<=x/\x<n):∃ a b:Nat,ms=[(a:Int),(b:Int)]/\a<=b/\(b:Int)<n:=by
 have l2:ms.length=2:=by rw[hp.length_eq,hl]
 match ms,l2 with
 | [x,y],_=>
  have hx:=hf x (hp.mem_iff.mp (by simp))
  have hy:=hf y (hp.mem_iff.mp (by simp))
  have:x<=y:=by simpa using ho
  exact⟨x.toNat,y.toNat,by rw[show((x.toNat:Nat):Int)=x by exact W96 hx,show((y.toNat:Nat):Int)=y by exact W96 hy],∅,∅⟩
inductive q237(u0:Fg)(vs:List V)(H:Hp)(Q:VK)(E:XK):Prop
 |mk(pen rl:Addr)(lg:Int)(rs:LL)(_:vs=[.ref pen,.ref rl,.int lg])(_:PenM H pen)(_:RwsAt H rl rs)(_:0<rs.length)(_:rs.length<=100)(_:(∀ r∈rs,r.length<=100))(_:1<=lg)(_:lg<=8)(_:∀(D:Addr)(ys:List V)(ts:List T3)(H':Hp),Keep pen H H'->PenM H' pen->H' D=some (.lst ys)->H D=none->TsAt H' ys ts->TsOk rs ts->0<ts.length->ts.length<=8->Q (.ref D) H')
theorem q507:z.C P w base 3 "_law_some" pn7 (q237 K):=by
 have sc:=q478
 refine z.d__law_some.cal fun f fd F=>F.k sc fun _ _ _ s H _ Q _ hr h=>?_
 obtain⟨pen,rl,lg,rs,rfl,P0,R0,hn0,hn1,hr100,g0,g1,q⟩:=h
 refine⟨_,(q11 (pst 3 sc.nd (q40 q12))
 (q11 (q69 PassesOwn.never rfl (q47 rfl z.range_ (q10 (pe_op q106 q14 (pe_fn (q25 z) hr.m () (q10 (pr 0) (q10 (pr 2) q12)))) q12)) (pgn 4 sc.nd)
 (q11 (pst 5 sc.nd (pe_fn (q25 z) hr.m () (q10 (pr 0) (q10 (pln z.len_ (q10 (pr 1) q12)) q12))))
 (q11 (pst 6 sc.nd (pe_op q106 (pln z.len_ (q10 (pix q89 (pr 1) (pr 5)) q12)) q14))
 (q11 (q333 (q38 q450 () z.sorted_ q267 (q10 (q63 (cl:=[("_law_size", s.heap.objs.size+1+1),("_law_pen_here", s.heap.objs.size+1+0)]) (cn:=["_law_size", "_law_pen_here"]) (N:=["_law_pen_here", "_law_size"]) (fr:=[0,6]) (sc0:=q17 q172) rfl (q47 rfl z.range_ (q10 q14 q12)) (fun C s₂ H₂ fp=>(pe_fn (q25 z) hr.m () (q10 (pr 1) (q10 (pr 2) q12)))) (by ac_rfl) ⟨by ac_rfl,by ac_rfl,trivial⟩ rfl rfl rfl cok rfl) q12)) (pg_lstT rfl (q33 (pgn 7 sc.nd) (q33 (pgn 8 sc.nd) q87))))
 (q11 (q389 (ps_if (q45 op_eq (pe_fn (q25 z) hr.m () (q10 (pr 0) (q10 q14 q12))) q14 (q21 _))
 (q15 (ps_par (i:=7) (j:=8) rfl sc.nd rfl rfl {} rfl rfl (q10 q14 (q10 (pe_op q345 (pr 6) q14) q12)) (by ac_rfl)))
 q20))
 (q15 (q97 (pe_bm YF YM YN q71 (pr 3) (q10 (q34 (q10 (pr 5) (q10 (pr 7) (q10 (pr 8) q12)))) q12)))))))))
 (q15 (q18 (pr 3))))),?_⟩
 refine q42 fun N_ y_=>?_
 refine⟨szb rfl,fun D hD=>?_⟩
 have nD:D≠pen:=P0.fresh hD
 obtain⟨H1,e1,s1,hD1⟩:=nwH hD (.lst [])
 rw[e1]
 have P1:=P0.same s1
 refine y_ _ _ (q42 fun N_ y_=>?_)
 refine⟨pen,lg,rfl,P1,∅,∅,fun v H2 k2 P2 v0 v1=>?_⟩
 have k02:=(Keep.same s1).trans k2
 refine⟨1+v,rfl,∅,∅,q70 (n:=(1+v).toNat) (fun i σ G=>∃(a4 a5 a6 a7 a8:Option V)(ys:List V)(ts:List T3),σ=[some (.ref pen),some (.ref rl),some (.int lg),some (.ref D),a4,a5,a6,a7,a8]/\Keep pen H G/\PenM G pen/\G D=some (.lst ys)/\TsAt G ys ts/\TsOk rs ts/\ts.length=i)
  ⟨_,_,_,_,_,[],[],rfl,k02,P2,k2 _ _ nD hD1,⟨rfl,fun j x t h _=>by simp at h⟩,fun t ht=>absurd ht (by simp),rfl⟩ ?_ ?_⟩
 ·rintro i σ G hi ⟨a4,a5,a6,a7,a8,ys,ts,rfl,kG,PG,hDG,hT,hok,htl⟩
  obtain⟨ras,hrl,hral,hrE⟩:=R0.kp P0 kG
  have hlm:(ras.map V.ref).length=rs.length:=by rw[ZK];exact hral
  refine q42 fun N_ y_=>?_
  refine⟨rl,_,rfl,.inl (SqL.of hrl),pen,_,rfl,PG,by rw[hlm];lia,by rw[hlm];lia,fun mv G1 k1 P1 m0 m1=>?_⟩
  rw[hlm]at m1
  obtain⟨m,rfl⟩:=Int.eq_ofNat_of_zero_le m0
  have gm:rs[m]? = some (rs[m]'∅):=ZP _
  generalize rs[m]'∅=r at gm
  have hl100:=hr100 r (ZV gm)
  obtain⟨ra,gra,hra⟩:=hrE m r gm
  have hrl1:=k1 _ _ (q784 PG hrl) hrl
  have hra1:=k1 _ _ (pen_ra PG hra) hra
  refine y_ _ _ (q42 fun N_ y_=>?_)
  exists _,_,SqL.of hrl1,q41 (by rw[WE,gra];rfl),ra,_,rfl,.inl (SqL.of hra1)
  rw[ZK]
  have k01:=kG.trans k1
  have hD1':=k1 _ _ nD hDG
  refine y_ _ _ (q42 fun N_ y_=>?_)
  refine⟨2,rfl,{},{},fun D3 hD3=>?_⟩
  have n3p:D3≠pen:=P1.fresh hD3
  have n3D:D≠D3:=q24 hD1' hD3
  have hD30:H D3=none:=P1.free k01 hD3
  refine q103 (n:=2) (szb rfl) (fun j us G=>∃ fs:List Int,us=fs.map V.int/\fs.length=j/\(∀ x∈fs,0<=x/\x<(r.length:Int)+1)/\G D3=some (.lst us)/\Keep pen H G/\PenM G pen/\G D=some (.lst ys)/\TKeep G1 G)
   ⟨[],rfl,rfl,fun x hx=>absurd hx (by simp),q13,k01.own hD30,P1.new hD3 _,by rw[q28 n3D];exact hD1',.same (q16 hD3 _)⟩ (fun j us G ⟨fs,e1,e2,_,e3,_⟩=>⟨e3,by rw[e1,ZK];exact e2⟩) ?_ ?_
  ·rintro j us G4 hj ⟨fs,rfl,hfl,hfb,h3,k4,P4,hD4,tk4⟩
   refine⟨pen,_,rfl,P4,∅,∅,fun x G5 k5 P5 x0 x1=>?_⟩
   have h35:=k5 _ _ n3p h3
   obtain⟨pc,hpc⟩:=P4.at
   refine⟨h35,fs++[x],by rw[WF];rfl,by rw[ZM,hfl];rfl,fun y hy=>?_,q13,(k4.trans k5).own hD30,P5.other n3p _,by rw[q28 n3D];exact k5 _ _ nD hD4,(tk4.trans (.keep k5 hpc)).trans (.set h35)⟩
   rcases List.mem_append.mp hy with h | h
   ·exact hfb y h
   ·rw[List.mem_singleton.mp h]
    exact⟨x0,x1⟩
  rintro us G4 ⟨fs,rfl,hfl,hfb,h3,k4,P4,hD4,tk4⟩
  refine⟨D3,fs,rfl,SqL.of h3,∅,fun l ms hl hpm hord=>?_⟩
  obtain⟨st,en,rfl,hse,hen⟩:=two_of hpm hord hfl hfb
  obtain⟨G5,e5,s5,h5⟩:=nwH hl (.lst ([(st:Int),(en:Int)].map V.int))
  rw[e5]
  exists l,_,rfl,SqL.of h5,rfl,_,_,rfl,_,_,rfl,rfl
  have kA:=k4.trans (Keep.same s5)
  have PA:=P4.same s5
  have hDA:=s5 _ _ hD4
  have tkA:=tk4.trans (.same s5)
  obtain⟨pc,hpc⟩:=PG.at
  have tkG:TKeep G G5:=TKeep.trans (.keep k1 hpc) tkA
  refine y_ _ _ (q42 fun N_ y_=>?_)
  exists fun σ G6=>∃(st en:Nat),σ=[some (.ref pen),some (.ref rl),some (.int lg),some (.ref D),some (.int (0+i)),some (.int (m:Int)),some (.int ((r.length:Int)+1)),some (.int (st:Int)),some (.int (en:Int))]/\st<=en/\en<=r.length/\Keep pen H G6/\PenM G6 pen/\G6 D=some (.lst ys)/\TKeep G G6,?_
  ·obtain⟨pc5,hpc5⟩:=PA.at
   refine⟨pen,3,rfl,PA,{},{},fun x G6 k6 P6 _ _=>⟨rfl,ite2 (fun _=>?_) (fun _=>⟨st,en,rfl,hse,∅,kA.trans k6,P6,k6 _ _ nD hDA,tkG.trans (.keep k6 hpc5)⟩)⟩⟩
   exact⟨_,_,rfl,0,r.length,by dsimp only;rw[show((r.length:Int)+1-1)=(r.length:Int) by lia];rfl,ZX _,ZF _,kA.trans k6,P6,k6 _ _ nD hDA,tkG.trans (.keep k6 hpc5)⟩
  ·rintro σ G6 ⟨st,en,rfl,hse,hen,k6,P6,hD6,tk6⟩
   refine y_ _ _ ?_
   refine⟨.inl ⟨rfl,_,SqL.of hD6⟩,szb rfl,fun t ht=>?_⟩
   obtain⟨G7,e7,s7,h7⟩:=nwH ht (.tup [.int (m:Int),.int (st:Int),.int (en:Int)])
   rw[e7]
   have hD7:=s7 _ _ hD6
   have hyl:=hT.1
   exists D,ys,_,rfl,rfl,hD7,q64 ∅
   have tk7:=(tk6.trans (.same s7)).trans (.set hD7 (zs:=ys++[.ref t]))
   refine⟨_,_,_,_,_,ys++[.ref t],ts++[(m,st,en)],rfl,(k6.trans (Keep.same s7)).own hD,(P6.same s7).other nD _,q13,(hT.tk tk7).snoc ⟨t,rfl,(TKeep.set hD7 _ _).1 h7⟩,fun u hu=>?_,by rw[ZM,htl];rfl⟩
   rcases List.mem_append.mp hu with h | h
   ·exact hok u h
   ·rw[List.mem_singleton.mp h]
    exact⟨r,gm,hse,hen⟩
 ·rintro σ G ⟨a4,a5,a6,a7,a8,ys,ts,rfl,kG,PG,hDG,hT,hok,htl⟩
  refine y_ _ _ ?_
  exact q D ys ts G kG PG hDG hD hT hok ∅ ∅
theorem q508(k:TKeep H H')(h:SqT K H a xs):SqT K H' a xs:=by
 rcases h with (h | ⟨o,h⟩) | h
 ·exact .inl (.inl ((k _ _).1 h))
 ·exact .inl (.inr ⟨o,(k _ _).2 o h⟩)
 ·exact .inr h
theorem q75{K:Fg}{H H':Hp}(k:TKeep H H'):∀{zs:List V}{vs:List TS.I3},Paired (q77 K H) zs vs->Paired (q77 K H') zs vs
 | _,_,.nil=>.nil
 | _,_,.cons ⟨a,e,h⟩ t=>.cons ⟨a,e,q508 k h⟩ (q75 k t)
theorem q422{K:Fg}{H:Hp}:∀{zs zs':List V}{vs vs':List TS.I3},Paired (q77 K H) zs vs->Paired (q77 K H) zs' vs'->Paired (q77 K H) (zs++zs') (vs++vs')
 | _,_,_,_,.nil,h=>h
 | _,_,_,_,.cons a t,h=>.cons a (q422 t h)
theorem q148{K:Fg}{H:Hp}:∀{zs:List V}{vs:List TS.I3},Paired (q77 K H) zs vs->zs.length=vs.length
 | _,_,.nil=>rfl
 | _,_,.cons _ t=>by rw[WB,WB,q148 t]
noncomputable def thR(row:List Int)(j st:Int)(b n:Nat):List TS.I3:=(List.range n).map fun k=>(row.getD (b+k) 0,j,st+(k:Int))
theorem q423(row:List Int)(j st:Int)(b n:Nat):thR row j st b (n+1)=thR row j st b n++[(row.getD (b+n) 0,j,st+(n:Int))]:=by
 unfold thR
 rw[range_succ,WF]
 rfl
noncomputable def thF(nss:LL):Nat->List T3->List TS.I3
 | _,[]=>[]
 | j,t::r=>thR ((nss[t.1]?).getD []) (j:Int) (t.2.1:Int) t.2.1 (t.2.2-t.2.1)++thF nss (j+1) r
theorem q618(nss:LL)(t:T3):∀(l:List T3)(j:Nat),thF nss j (l++[t])=thF nss j l++thR ((nss[t.1]?).getD []) ((j+l.length:Nat):Int) (t.2.1:Int) t.2.1 (t.2.2-t.2.1)
 | [],j=>by
  show _++[]=[]++_
  rw[append_nil,nil_append]
  rfl
 | x::l,j=>by
  show _++thF nss (j+1) (l++[t])=(_++thF nss (j+1) l)++_
  rw[q618 nss t l (j+1),YS,WB,show j+1+l.length=j+(l.length+1) by exact W9]
theorem thR_len(row:List Int)(j st:Int)(b n:Nat):(thR row j st b n).length=n:=by unfold thR;rw[ZK,length_range]
theorem q424:∀(ts:List T3)(j:Nat),TsOk nss ts->(∀ ns∈nss,ns.length<=100)->(thF nss j ts).length<=100*ts.length
 | [],j,_,_=>by simp[thF]
 | t::r,j,h,hn=>by
  have ih:=q424 r (j+1) (fun u hu=>h u (ZU _ hu)) hn
  obtain⟨ns,h1,h2,h3⟩:=h t (ZQ ..)
  have:=hn ns (ZV h1)
  show List.length (_++_)<=_
  rw[ZM,thR_len,WB]
  lia
theorem q785{row:List Int}{j st:Int}{b e:Nat}(h:e<=row.length):(thR row j st b (e-b)).map (·.1)=(row.take e).drop b:=by
 apply ext_getElem?
 intro k
 unfold thR
 rw[map_map,WE,getElem?_drop,getElem?_take]
 by_cases c:k<e-b
 ·rw[getElem?_range c,ZL ∅]
  have hk:b+k<row.length:=(W95 c h)
  show some (row.getD (b+k) 0)=_
  simp[WT,hk]
 ·rw[getElem?_eq_none (by rw[length_range];lia),ZJ ∅]
  rfl
noncomputable def rOf(nss:LL)(t:T3):Rg:=((nss[t.1]?).getD [],t.2.1,t.2.2)
theorem rOf_ok{ts:List T3}(h:TsOk nss ts):AllOk (ts.map (rOf nss)):=fun x hx=>by
 obtain⟨t,ht,rfl⟩:=List.mem_map.mp hx
 obtain⟨ns,h1,h2,h3⟩:=h t ht
 unfold rOf
 rw[h1]
 exact⟨h2,h3⟩
theorem q425:∀(ts:List T3)(j:Nat),TsOk nss ts->(thF nss j ts).map (·.1)=Wx (ts.map (rOf nss))
 | [],j,_=>rfl
 | t::r,j,h=>by
  have ih:=q425 r (j+1) fun u hu=>h u (ZU _ hu)
  obtain⟨ns,h1,h2,h3⟩:=h t (ZQ ..)
  show List.map _ (_++_)=_
  rw[WF,ih,h1,Option.getD_some,q785 h3,YA,q119]
  unfold sg rOf
  rw[h1]
  rfl
inductive q162(K:Fg)(vs:List V)(H:Hp)(Q:VK)(E:XK):Prop
 |mk(ra sa:Addr)(ys:List V)(nss:LL)(ts:List T3)(_:vs=[.ref ra,.ref sa])(_:RwsAt H ra nss)(_:(∀ ns∈nss,ns.length<=100))(_:SqL K H sa ys)(_:TsAt H ys ts)(_:TsOk nss ts)(_:ts.length<=8)(_:∀(l:Addr)(zs:List V)(vs:List TS.I3)(H':Hp),Same H H'->H' l=some (.lst zs)->H l=none->Paired (q77 K H') zs vs->vs.Perm (thF nss 0 ts)->(vs.Pairwise fun x y=>TS.lex3 y x=false)->Q (.ref l) H')
theorem q330:z.C P w base 1 "_law_things" ["_law_rows", "_law_some_here"] (q162 K):=by
 have sc:=q324
 refine z.d__law_things.cal fun f fd F=>F.k sc fun _ _ _ s H _ Q _ hr h=>?_
 obtain⟨ra,sa,ys,nss,ts,rfl,⟨ras,hra,hrl,hrE⟩,hn60,hsa,hT,hok,htl,q⟩:=h
 refine⟨_,(q11 (pst 2 sc.nd (q40 q12))
 (q11 (q69 PassesOwn.never rfl (q47 rfl z.range_ (q10 (pln z.len_ (q10 (pv 1) q12)) q12)) (pgn 3 sc.nd)
 (q11 (q333 (pix q32 (pv 1) (pv 3)) (q217 rfl (q33 (pgn 4 sc.nd) (q33 (pgn 5 sc.nd) (q33 (pgn 6 sc.nd) q87)))))
 (q15 (q97 (pe_bm YF PySem.F.slot_list_extend PySem.F.type_list_extend q444 (pv 2) (q10 (q63 (cl:=[("_law_rows", s.heap.objs.size+1+0),("_law_make", s.heap.objs.size+1+2),("_law_j", s.heap.objs.size+1+1)]) (cn:=["_law_rows", "_law_make", "_law_j"]) (N:=["_law_j", "_law_make", "_law_rows"]) (fr:=[3,4,0]) (sc0:=q17 q116) rfl (q432 rfl z.range_ (q10 (pv 5) (q10 (pv 6) q12))) (fun C s₂ H₂ fp=>(q34 (q10 (pix (q248 (K:=K) rfl) (pix (q248 (K:=K) rfl) (pv 3) (pv 2)) (pv 0)) (q10 (pv 1) (q10 (pv 0) q12))))) (by ac_rfl) ⟨by ac_rfl,by ac_rfl,by ac_rfl,trivial⟩ rfl rfl rfl cok rfl) q12))))))
 (q15 (q18 (q38 (q455 (K:=K) rfl) () z.sorted_ q267 (q10 (pv 2) q12)))))),?_⟩
 refine q42 fun N_ y_=>?_
 refine⟨szb rfl,fun D hD=>?_⟩
 have s1:=q16 hD (.lst [])
 refine y_ _ _ (q42 fun N_ y_=>?_)
 refine⟨_,rfl,sa,_,rfl,.inl (s1.seq hsa),_,rfl,W81,by have:=hT.1;lia,q70 (n:=ys.length) (fun i σ H2=>∃(zs:List V)(v3 v4 v5 v6:Option V),σ=[some (.ref ra),some (.ref sa),some (.ref D),v3,v4,v5,v6]/\Same H H2/\H2 D=some (.lst zs)/\Paired (q77 K H2) zs (thF nss 0 (ts.take i)))
  ⟨[],_,_,_,_,rfl,s1,q13,.nil⟩ ?_ ?_⟩
 ·rintro i σ H2 hi ⟨zs,v3,v4,v5,v6,rfl,s2,hD2,hz2⟩
  have hyl:i<ys.length:=hi
  have hi:i<ts.length:=by rw[<- hT.1];exact hyl
  have gi:ts[i]? = some ts[i]:=ZP hi
  generalize ts[i]=t at gi
  have gy:ys[i]? = some ys[i]:=ZP hyl
  generalize ys[i]=y at gy
  obtain⟨p,rfl,hp⟩:=hT.2 i y t gy gi
  obtain⟨ns,n1,n2,n3⟩:=hok t (ZV gi)
  have hnl:=hn60 ns (ZV n1)
  obtain⟨r,gr,hr1⟩:=hrE t.1 ns n1
  have gx:(ras.map V.ref)[t.1]? = some (.ref r):=by rw[WE,gr];rfl
  have hok2:TsOk nss (ts.take i):=fun u hu=>hok u (YG hu)
  have hzl:zs.length<=100*i:=by
   rw[q148 hz2]
   refine ZT (q424 (ts.take i) 0 hok2 hn60) ?_
   rw[WL]
   exact Nat.mul_le_mul_left _ (Nat.min_le_left _ _)
  refine q42 fun N_ y_=>?_
  exists _,rfl,_,rfl,sa,_,_,_,rfl,rfl,s2.seq hsa,(by rw[Int.zero_add];exact q41 gy),p,_,rfl,SqT.of (s2 _ _ hp),rfl,_,_,rfl,_,_,rfl,_,_,rfl,rfl
  refine y_ _ _ ?_
  refine⟨_,rfl,.inl ⟨rfl,_,SqL.of hD2⟩,_,rfl,_,rfl,(t.2.1:Int),(t.2.2:Int),rfl,⟨W81,∅,W81,∅⟩,fun D3 hD3=>?_⟩
  have en:((t.2.2:Int)-(t.2.1:Int)).toNat=t.2.2-t.2.1:=∅
  rw[en]
  refine q103 (lo:=(t.2.1:Int)) (n:=t.2.2-t.2.1) (sz ∅) (fun k us H3=>us.length=k/\Same H2 H3/\H3 D3=some (.lst us)/\Paired (q77 K H3) us (thR ns (0+(i:Int)) (t.2.1:Int) t.2.1 k))
   ⟨rfl,q16 hD3 _,q13,.nil⟩ (fun k us H3 ⟨e1,_,e3,_⟩=>⟨e3,e1⟩) ?_ ?_
  ·rintro k us H3 hk ⟨e1,s3,e3,hp3⟩
   have s03:=s2.trans s3
   have hrow:atI (ns.map V.int) ((t.2.1:Int)+(k:Int))=some (.int (ns.getD (t.2.1+k) 0)):=by
    have hb:t.2.1+k<ns.length:=∅
    show atI _ ((t.2.1+k:Nat):Int)=_
    refine q41 ?_
    rw[WE,ZP hb]
    simp[WT,hb]
   refine⟨_,rfl,_,rfl,ra,_,_,_,rfl,rfl,SqL.of (s03 _ _ hra),q41 gx,_,rfl,r,_,_,_,rfl,rfl,SqL.of (s03 _ _ hr1),hrow,_,rfl,_,rfl,szb rfl,fun p4 hp4=>?_⟩
   have s4:=q16 hp4 (.tup [.int (ns.getD (t.2.1+k) 0),.int (0+(i:Int)),.int ((t.2.1:Int)+(k:Int))])
   have e4:=s4 _ _ e3
   have tk:TKeep (upd H3 p4 (.tup [.int (ns.getD (t.2.1+k) 0),.int (0+(i:Int)),.int ((t.2.1:Int)+(k:Int))])) (upd (upd H3 p4 (.tup [.int (ns.getD (t.2.1+k) 0),.int (0+(i:Int)),.int ((t.2.1:Int)+(k:Int))])) D3 (.lst (us++[.ref p4]))):=TKeep.set e4
   exists e4,by rw[ZM,e1] <;> rfl,Same.own (s3.trans s4) hD3,q13
   rw[q423]
   exact q422 (q75 tk (q75 (.same s4) hp3)) (.cons ⟨p4,rfl,q508 tk (SqT.of q13)⟩ .nil)
  ·rintro us H3 ⟨e1,s3,e3,hp3⟩
   have hD3':=s3 _ _ hD2
   exists D,D3,_,_,rfl,rfl,hD3',e3,sz ∅
   have tk:TKeep H3 (upd H3 D (.lst (zs++us))):=TKeep.set hD3'
   exists zs++us,_,_,_,_,rfl,Same.own (s2.trans s3) hD,q13
   have et:ts.take (i+1)=ts.take i++[t]:=by rw[WK,gi];rfl
   rw[et,q618,n1,Option.getD_some,WL,YH (Nat.le_of_lt hi),YL]
   rw[Int.zero_add]at hp3
   exact q422 (q75 tk (q75 (.same s3) hz2)) (q75 tk hp3)
 ·rintro σ H2 ⟨zs,v3,v4,v5,v6,rfl,s2,hD2,hz2⟩
  rw[hT.1,WS]at hz2
  refine y_ _ _ ?_
  refine⟨_,rfl,D,zs,_,rfl,SqL.of hD2,hz2,fun l us vs hl hpm hpr hsrt=>?_⟩
  have s3:=q16 hl (.lst us)
  have hl0:H l=none:=by
   cases e:H l with
   | none=>rfl
   | some o=>have z:=s2 _ _ e;rw[hl]at z;cases z
  refine q l us vs _ (s2.trans s3) q13 hl0 (q75 (.same s3) hpr) ?_ hsrt
  have z:=hpm.map Prod.snd
  rw[map_snd_zip (by rw[q148 hpr];exact ZF _),map_snd_zip (by rw[q148 hz2];exact ZF _)]at z
  exact z
noncomputable def f2(p:TS.I2):Key×V:=(Sum.inl p.1,.int p.2)
theorem val_f2(ks:List TS.I2)(w:Int):valV (ks.map f2) (Sum.inl w)=(ks.find? fun p=>decide (p.1=w)).map fun p=>V.int p.2:=by
 unfold valV
 rw[find?_map,Option.map_map]
 have e:((fun kv:Key×V=>decide (kv.1=(Sum.inl w:Key)))∘f2)=fun p:TS.I2=>decide (p.1=w):=by
  funext p
  show decide ((Sum.inl p.1:Key)=Sum.inl w)=decide (p.1=w)
  by_cases c:p.1=w
  ·rw[ZG c,ZG (by rw[c])]
  ·rw[ZS c,ZS (fun z=>c (Sum.inl.inj z))]
 rw[e]
 rfl
noncomputable def addK(ks:List TS.I2)(w m:Int):List TS.I2:=if(ks.any fun p=>decide (p.1=w))=true then ks.map (fun p=>if p.1=w then(p.1,m)else p)else ks++[(w,m)]
theorem put_f2(ks:List TS.I2)(w m:Int):putK (ks.map f2) (Sum.inl w) (.int m)=(addK ks w m).map f2:=by
 unfold putK addK
 have e:((ks.map f2).any fun kv=>decide (kv.1=(Sum.inl w:Key)))=ks.any fun p=>decide (p.1=w):=by
  rw[any_map]
  congr 1
  funext p
  show decide ((Sum.inl p.1:Key)=Sum.inl w)=decide (p.1=w)
  by_cases c:p.1=w
  ·rw[ZG c,ZG (by rw[c])]
  ·rw[ZS c,ZS (fun z=>c (Sum.inl.inj z))]
 rw[e]
 by_cases c:(ks.any fun p=>decide (p.1=w))=true
 ·rw[ZL c,ZL c,map_map,map_map]
  refine map_congr_left fun p _=>?_
  show(if(Sum.inl p.1:Key)=Sum.inl w then((Sum.inl p.1:Key),V.int m)else f2 p)=f2 (if p.1=w then(p.1,m)else p)
  by_cases d:p.1=w
  ·rw[ZL (by rw[d]),ZL d];rfl
  ·rw[ZJ (fun z=>d (Sum.inl.inj z)),ZJ d]
 ·rw[ZJ c,ZJ c,WF]
  rfl
def CntOf(ks:List TS.I2)(ws:List Int):Prop:=(ks.map (·.1)).Nodup/\(∀ w m,(w,m)∈ks↔(m=((ws.count w:Nat):Int)/\0<m))/\ks.length<=ws.length
theorem cnt_nil:CntOf [] []:=⟨nodup_nil,fun w m=>⟨fun h=>absurd h (by simp),fun⟨h1,h2⟩=>by simp at h1;lia⟩,ZF _⟩
theorem q619{ks:List TS.I2}{ws:List Int}(h:CntOf ks ws)(w:Int):((ks.find? fun p=>decide (p.1=w)).map fun p=>V.int p.2).getD (.int 0) = .int ((ws.count w:Nat):Int):=by
 cases e:ks.find? fun p=>decide (p.1=w) with
 | none=>
  show V.int 0=_
  have n:=List.find?_eq_none.mp e
  have z:ws.count w=0:=by
   apply Classical.byContradiction
   intro c
   have hm:=(h.2.1 w ((ws.count w:Nat):Int)).mpr ⟨rfl,(W130 c)⟩
   exact n _ hm (ZG rfl)
  rw[z]
  rfl
 | some p=>
  have hm:=mem_of_find?_eq_some e
  have hz:=find?_some e
  have hw:p.1=w:=ZI hz
  obtain⟨w',m⟩:=p
  cases hw
  show V.int m=_
  rw[((h.2.1 w' m).mp hm).1]
theorem cnt_add{ws:List Int}(h:CntOf ks ws)(w:Int):CntOf (addK ks w (((ws.count w:Nat):Int)+1)) (ws++[w]):=by
 obtain⟨h1,h2,h3⟩:=h
 have hc:∀ x,(ws++[w]).count x=ws.count x+if x=w then 1 else 0:=fun x=>by
  rw[count_append]
  congr 1
  by_cases c:x=w
  ·subst c;simp
  ·rw[ZJ c,count_eq_zero];simpa using c
 unfold addK
 by_cases c:(ks.any fun p=>decide (p.1=w))=true
 ·rw[ZL c]
  exists ?_,fun x m=>?_
  ·rw[map_map]
   have e:((fun x:TS.I2=>x.1)∘fun p:TS.I2=>if p.1=w then(p.1,((ws.count w:Nat):Int)+1)else p)=fun p=>p.1:=by
    funext p
    show(if p.1=w then(p.1,((ws.count w:Nat):Int)+1)else p).1=p.1
    by_cases d:p.1=w
    ·rw[ZL d]
    ·rw[ZJ d]
   rw[e]
   exact h1
  ·rw[mem_map,hc]
   constructor
   ·rintro ⟨p,hp,e⟩
    by_cases d:p.1=w
    ·rw[ZL d]at e
     cases e
     rw[ZL d,d]
     lia
    ·rw[ZJ d]at e
     subst e
     have d':¬ x=w:=d
     rw[ZJ d']
     exact(h2 x m).mp hp
   ·rintro ⟨e1,e2⟩
    by_cases d:x=w
    ·subst d
     rw[ZL rfl]at e1
     obtain⟨p,hp,hd⟩:=List.any_eq_true.mp c
     have hd:=ZI hd
     exact⟨p,hp,by rw[ZL hd,hd];exact Prod.ext rfl (by show _=m;lia)⟩
    ·rw[ZJ d]at e1
     exact⟨(x,m),(h2 x m).mpr ⟨e1,e2⟩,ZJ d⟩
  ·rw[ZK,ZM]
   exact ZT h3 (Nat.le_add_right _ _)
 ·rw[ZJ c]
  have hn:∀ p∈ks,p.1≠w:=fun p hp z=>c (List.any_eq_true.mpr ⟨p,hp,ZG z⟩)
  have z:ws.count w=0:=by
   apply Classical.byContradiction
   intro q
   exact hn _ ((h2 w ((ws.count w:Nat):Int)).mpr ⟨rfl,(W130 q)⟩) rfl
  refine⟨?_,fun x m=>?_,by rw[ZM,ZM];exact Nat.add_le_add_right h3 1⟩
  ·rw[WF]
   refine List.nodup_append.mpr ⟨h1,by simp,fun x hx y hy e=>?_⟩
   obtain⟨p,hp,rfl⟩:=List.mem_map.mp hx
   have:y=w:=by simpa using hy
   exact hn p hp (by rw[e,this])
  ·rw[mem_append,hc,h2 x m]
   constructor
   ·rintro (⟨e1,e2⟩ | e)
    ·have d:¬ x=w:=fun d=>by subst d;lia
     rw[ZJ d]
     exact⟨e1,e2⟩
    ·cases List.mem_singleton.mp e
     rw[ZL rfl,z]
     exact⟨rfl,{}⟩
   ·rintro ⟨e1,e2⟩
    by_cases d:x=w
    ·subst d
     rw[ZL rfl,z]at e1
     refine .inr (List.mem_singleton.mpr (Prod.ext rfl ?_))
     show m=_
     rw[z]
     exact e1
    ·rw[ZJ d]at e1
     exact .inl ⟨e1,e2⟩
theorem q216:∀{zs:List V}{vs:List TS.I3},Paired (q77 K H) zs vs -> ∀{j:Nat}{x:V},zs[j]? = some x -> ∃ t,vs[j]? = some t/\q77 K H x t
 | _,_,.nil,j,x,h=>by simp at h
 | _,_,.cons a _,0,x,h=>by cases h;exact⟨_,rfl,a⟩
 | _,_,.cons _ t,j+1,x,h=>q216 t (j:=j) (by simpa using h)
theorem q509:PsAt H [] []:=⟨rfl,fun j x p h1 _=>by simp at h1⟩
theorem ps_tk(h:PsAt H xs ps)(k:TKeep H H'):PsAt H' xs ps:=⟨h.1,fun j x p h1 h2=>(h.2 j x p h1 h2).tk k⟩
theorem q372(h:CtV H x (some p)):PsAt H [x] [p]:=⟨rfl,fun j y q h1 h2=>by
 match j,h1,h2 with
 | 0,h1,h2=>cases h1;cases h2;exact h⟩
inductive q200(K:Fg)(vs:List V)(H:Hp)(Q:VK)(E:XK):Prop
 |mk(D:Addr)(zs:List V)(ts:List TS.I3)(_:vs=[.ref D])(_:SqL K H D zs)(_:Paired (q77 K H) zs ts)(_:ts.length<=900)(_:∀(H':Hp) (l:Addr) (ys:List V) (ps:List (Int×Int)),Same H H'->H' l=some (.lst ys)->H l=none->PsAt H' ys ps->(ps.Pairwise fun p q=>p.1<q.1)->(∀ w m,(w,m)∈ps↔(m=(((ts.map (·.1)).count w:Nat):Int)/\0<m))->Q (.ref l) H')
theorem q426:z.C P w base 1 "_law_manys" ["_law_things_here"] (q200 K):=by
 have sc:=q397
 refine z.d__law_manys.cal fun f fd F=>F.k sc fun _ _ _ s H _ Q _ hr h=>?_
 obtain⟨D,zs,ts,rfl,hD,hT,hl,q⟩:=h
 refine⟨_,(q11 (pst 1 sc.nd pe_dnewK)
 (q11 (q69 PassesOwn.never rfl (q35 (pr 0)) (q217 rfl (q33 (pgn 2 sc.nd) (q33 (pgn 3 sc.nd) (q33 (pgn 4 sc.nd) q87))))
 (q15 (ps_dput (Nat.lt_of_le_of_lt (Nat.add_le_add_left {} _) hr.units) (pr 1) (pr 2) (pe_op q106 (pe_dget2 (Nat.lt_of_le_of_lt (Nat.add_le_add_left {} _) hr.units) (pr 1) (pr 2) q14 ⟨rfl,rfl,rfl,rfl⟩) q14) rfl)))
 (q15 (q18 (q63 (cl:=[("_law_found", s.heap.objs.size+1+0)]) (cn:=["_law_found"]) (N:=["_law_found"]) (fr:=[1]) (sc0:=q17 q134) rfl (q35 (q38 (q457 rfl) () z.sorted_ q267 (q10 (pr 1) q12))) (fun C s₂ H₂ fp=>(q34 (q10 (pr 0) (q10 (pe_dget (Nat.lt_of_le_of_lt (Nat.add_le_add_left {} _) hr.units) (pr 1) (pr 0) (by intro _ _;rfl)) q12)))) (by ac_rfl) ⟨by ac_rfl,trivial⟩ rfl rfl rfl cok rfl))))),?_⟩
 refine fun d hd=>?_
 have s1:=q16 hd (.dK [])
 have hzl:=q148 hT
 refine⟨D,rfl,⟨_,s1.seq hD⟩,q174 (K:=K) (a:=D) (xs:=zs) (fun j σ G=>∃(ks:List TS.I2)(v2 v3 v4:Option V),σ=[some (.ref D),some (.ref d),v2,v3,v4]/\Same H G/\G d=some (.dK (ks.map f2))/\CntOf ks ((ts.map (·.1)).take j)) ⟨[],_,_,_,rfl,s1,q13,cnt_nil⟩ (fun j σ G _ ⟨_,_,_,_,_,s,_⟩=>s.seq hD) ?_ ?_⟩
 ·rintro j x σ G hj ⟨ks,v2,v3,v4,rfl,sG,hdG,hc⟩
  obtain⟨⟨y,y2,y3⟩,hy,p,rfl,hp⟩:=q216 hT hj
  have hy1:(ts.map (·.1))[j]? = some y:=by rw[WE,hy];rfl
  exists p,_,rfl,q508 (.same sG) hp,rfl,_,_,rfl,_,_,rfl,_,_,rfl,rfl
  exists d,rfl,.inl ⟨_,.inl hdG⟩,_,DGet.k (k:=Sum.inl y) hdG
  rw[val_f2,q619 hc]
  exists d,_,rfl,DPut.k (k:=Sum.inl y) hdG ?_
  ·rw[ZK]
   have:=hc.2.2
   rw[WL,ZK]at this
   exact q64 ∅
  ·exists addK ks y (((((ts.map (·.1)).take j).count y:Nat):Int)+1),_,_,_,rfl,Same.own sG hd,?_
   ·rw[q13]
    exact congrArg (fun z=>some (HO.dK z)) (put_f2 _ _ _)
   ·rw[WK,hy1]
    exact cnt_add hc y
 ·rintro σ G ⟨ks,v2,v3,v4,rfl,sG,hdG,hc⟩
  rw[hzl,<- ZK (f:=(·.1)),WS]at hc
  refine⟨d,ks,rfl,hdG,hc.1,fun l ms hl0 hpm hord=>?_⟩
  obtain⟨G1,e1,s2,hl1⟩:=nwH hl0 (.lst (ms.map V.int))
  rw[e1]
  have hd1:=s2 _ _ hdG
  have hml:ms.length<=900:=by
   have:=hc.2.2
   rw[hpm.length_eq,ZK]
   rw[ZK]at this
   lia
  have hmem:∀ y∈ms,valV (ks.map f2) (Sum.inl y)=some (.int (((ts.map (·.1)).count y:Nat):Int))/\0<(((ts.map (·.1)).count y:Nat):Int):=fun y hy=>by
   obtain⟨⟨k,m⟩,hm,rfl⟩:=List.mem_map.mp (hpm.mem_iff.mp hy)
   obtain⟨h1,h2⟩:=(hc.2.1 k m).mp hm
   refine⟨?_,by rw[<- h1];exact h2⟩
   have hg:=q619 hc k
   rw[val_f2]
   cases ef:ks.find? fun p=>decide (p.1=k) with
   | none=>exact absurd (ZG rfl) (List.find?_eq_none.mp ef _ hm)
   | some p=>
    rw[ef]at hg
    exact congrArg some hg
  refine⟨l,rfl,⟨_,SqL.of hl1⟩,fun D3 hD3=>?_⟩
  refine q67 (K:=K) (xs:=ms.map V.int) (sz (by rw[ZK];lia)) (fun i ys G=>ys.length=i/\Same G1 G/\G D3=some (.lst ys)/\PsAt G ys ((ms.take i).map fun y=>(y,(((ts.map (·.1)).count y:Nat):Int))))
   ⟨rfl,q16 hD3 _,q13,q509⟩ (fun i ys G ⟨_,s,_⟩=>SqL.of (s _ _ hl1)) (fun i ys G ⟨e1,_,e3,_⟩=>⟨e3,e1⟩) ?_ ?_
  ·rintro i x ys G2 hx ⟨f1,f2',f3,f4⟩
   rw[WE]at hx
   cases ey:ms[i]? with
   | none=>rw[ey]at hx;cases hx
   | some y=>
    rw[ey]at hx
    obtain rfl:V.int y=x:=Option.some.inj hx
    refine⟨d,_,rfl,by rw[<- (hmem y (ZV ey)).1];exact DGet.k (k:=Sum.inl y) (f2' _ _ hd1),szb rfl,fun t4 ht4=>?_⟩
    obtain⟨G3,e3,s3,h3⟩:=nwH ht4 (.tup [.int y,.int (((ts.map (·.1)).count y:Nat):Int)])
    rw[e3]
    have f3':=s3 _ _ f3
    have tk:TKeep G3 (upd G3 D3 (.lst (ys++[.ref t4]))):=TKeep.set f3'
    exists f3',by rw[ZM,f1];rfl,Same.own (f2'.trans s3) hD3,q13
    rw[WK,ey,WF]
    exact(ps_tk (f4.same s3) tk).app (q372 (CtV.tk (o:=some _) ⟨t4,rfl,h3⟩ tk))
  ·rintro ys G2 ⟨f1,f2',f3,f4⟩
   rw[ZK,WS]at f4
   have s02:=sG.trans (s2.trans f2')
   refine q G2 D3 ys _ s02 f3 ((sG.trans s2).free hD3) f4 ?_ fun x m=>?_
   ·rw[pairwise_map]
    exact hord
   ·rw[mem_map,<- hc.2.1 x m]
    constructor
    ·rintro ⟨y,hy,e⟩
     cases e
     exact(hc.2.1 _ _).mpr ⟨rfl,(hmem _ hy).2⟩
    ·intro hm
     have hx:=hpm.mem_iff.mpr (mem_map_of_mem (f:=(·.1)) hm)
     exact⟨x,hx,by rw[<- ((hc.2.1 x m).mp hm).1]⟩
theorem lex_idx{vs:List TS.I3}(hs:vs.Pairwise fun x y=>TS.lex3 y x=false)(hn:vs.Nodup){k:Nat}(h:vs[k]? = some v):vs.countP (fun x=>TS.lex3 x v)=k:=by
 obtain⟨hk,hx⟩:=List.getElem?_eq_some_iff.mp h
 have e:vs=vs.take k++v::vs.drop (k+1):=by rw[<- hx,<- YT hk,YY]
 have hlk:(vs.take k).length=k:=by rw[WL];exact W63 hk
 rw[e]at hs hn
 obtain⟨_,h2,h3⟩:=List.pairwise_append.mp hs
 have h4:=(List.pairwise_cons.mp h2).1
 obtain⟨_,_,n3⟩:=List.pairwise_append.mp hn
 rw[e,YX]
 have z:(v::vs.drop (k+1)).countP (fun x=>TS.lex3 x v)=0:=List.countP_eq_zero.mpr fun b hb=>by
  rw[Bool.not_eq_true]
  rcases List.mem_cons.mp hb with rfl | hb
  ·rw[TS.q208];lia
  ·exact h4 b hb
 have y:(vs.take k).countP (fun x=>TS.lex3 x v)=(vs.take k).length:=List.countP_eq_length.mpr fun b hb=>by
  have u1:=h3 b hb v ZQ
  have u2:b≠v:=n3 b hb v ZQ
  cases c:TS.lex3 b v with
  | true=>rfl
  | false=>
   exfalso
   rw[TS.q208]at u1 c
   apply u2
   obtain⟨b1,b2,b3⟩:=b
   obtain⟨v1,v2,v3⟩:=v
   simp only[Prod.mk.injEq]at u1 c ⊢
   lia
 rw[z,y]
 lia
theorem q560{j st:Int}{b n:Nat}{x:TS.I3}(h:x∈thR row j st b n):x.2.1=j:=by
 unfold thR at h
 obtain⟨k,_,rfl⟩:=List.mem_map.mp h
 rfl
theorem q510(row:List Int)(j st:Int)(b:Nat):∀ n,(thR row j st b n).Nodup
 | 0=>nodup_nil
 | n+1=>by
  rw[q423]
  refine List.nodup_append.mpr ⟨q510 row j st b n,by simp,fun x hx y hy z=>?_⟩
  subst z
  cases List.mem_singleton.mp hy
  unfold thR at hx
  obtain⟨k,hk,e⟩:=List.mem_map.mp hx
  have:=List.mem_range.mp hk
  have e3:=congrArg (fun t:TS.I3=>t.2.2) e
  simp only at e3
  lia
theorem q561:∀(ts:List T3)(j:Nat)(x:TS.I3),x∈thF nss j ts->(j:Int)<=x.2.1
 | [],_,x,h=>by simp[thF]at h
 | t::r,j,x,h=>by
  rcases List.mem_append.mp h with z | z
  ·have:=q560 z
   lia
  ·have:=q561 r (j+1) x z
   lia
theorem q511(nss:LL):∀(ts:List T3)(j:Nat),(thF nss j ts).Nodup
 | [],_=>nodup_nil
 | t::r,j=>List.nodup_append.mpr ⟨q510 _ _ _ _ _,q511 nss r (j+1),fun x hx y hy z=>by
   subst z
   have:=q560 hx
   have:=q561 r (j+1) x hy
   lia⟩
theorem q786(row:List Int)(j st:Int)(b m:Nat):∀ d,∃ l,thR row j st b (m+d)=thR row j st b m++l /\ ∀ x∈l,st+(m:Int)<=x.2.2/\x.2.1=j
 | 0=>⟨[],by rw[append_nil];rfl,fun x hx=>absurd hx (by simp)⟩
 | d+1=>by
  obtain⟨l,e,hl⟩:=q786 row j st b m d
  refine⟨l++[(row.getD (b+(m+d)) 0,j,st+((m+d:Nat):Int))],by rw[<- Nat.add_assoc,q423,e,YS],fun x hx=>?_⟩
  rcases List.mem_append.mp hx with z | z
  ·exact hl x z
  ·cases List.mem_singleton.mp z
   exact⟨by simp only;exact W159,rfl⟩
theorem q427{row:List Int}{j st:Int}{b e:Nat}(h:e<=row.length):(thR row j st b (e-b)).countP (fun x=>p x.1)=(segI row b e).countP p:=by
 unfold segI
 rw[<- q785 (row:=row) (j:=j) (st:=st) h,countP_map]
 rfl
theorem q141(v:Int):∀ us:List Int,(us.countP fun n=>decide (n<=v))=ltN us v+us.count v
 | []=>rfl
 | u::us=>by
  have ih:=q141 v us
  unfold ltN at ih ⊢
  rw[countP_cons,countP_cons,count_cons,ih]
  by_cases a:u<v
  ·rw[ZL (ZG (show u<=v by lia)),ZL (ZG a),ZJ (by rw[beq_iff_eq];lia)]
   lia
  ·rw[ZJ (show ¬ decide (u<v)=true by rw[WV];exact a)]
   by_cases c:u=v
   ·rw[ZL (ZG (show u<=v by lia)),ZL (beq_iff_eq.mpr c)]
    lia
   ·rw[ZJ (show ¬ decide (u<=v)=true by rw[WV];lia),ZJ (by rw[beq_iff_eq];exact c)]
    lia
theorem thF_gt{v J pl:Int}(ts:List T3)(j:Nat)(hok:TsOk nss ts)(hj:J<(j:Int)):(thF nss j ts).countP (fun x=>TS.lex3 x (v,J,pl))=ltN (Wx (ts.map (rOf nss))) v:=by
 have e:(thF nss j ts).countP (fun x=>TS.lex3 x (v,J,pl))=(thF nss j ts).countP ((fun n:Int=>decide (n<v))∘fun x=>x.1):=countP_congr fun x hx=>by
  have:=q561 ts j x hx
  simp only[Function.comp,WV]
  rw[TS.q724]
  simp only
  lia
 rw[e,<- countP_map,q425 ts j hok]
 rfl
theorem q620{v:Int}{pl:Nat}:∀(ts:List T3)(j J:Nat)(x:Rg),TsOk nss ts->(ts.map (rOf nss))[J]? = some x->x.2.1<=pl->pl<x.2.2 ->
  (thF nss j ts).countP (fun y=>TS.lex3 y (v,((j+J:Nat):Int),(pl:Int)))=ltN (Wx (ts.map (rOf nss))) v+(Wx ((ts.map (rOf nss)).take J)).count v+(segI x.1 x.2.1 pl).count v
 | [],_,_,_,_,h,_,_=>by simp at h
 | t::r,j,0,x,hok,h,h1,h2=>by
  obtain⟨ns,n1,n2,n3⟩:=hok t (ZQ ..)
  cases Option.some.inj h
  have hr:=thF_gt (v:=v) (J:=((j+0:Nat):Int)) (pl:=(pl:Int)) r (j+1) (fun u hu=>hok u (ZU _ hu)) ∅
  have er:rOf nss t=(ns,t.2.1,t.2.2):=by unfold rOf;rw[n1];rfl
  rw[YA,q119,er]at *
  have h1:t.2.1<=pl:=h1
  have h2:pl<t.2.2:=h2
  obtain⟨l,e,hl⟩:=q786 ns (j:Int) (t.2.1:Int) t.2.1 (pl-t.2.1) (t.2.2-t.2.1-(pl-t.2.1))
  rw[show pl-t.2.1+(t.2.2-t.2.1-(pl-t.2.1))=t.2.2-t.2.1 by lia]at e
  have a1:=q427 (row:=ns) (j:=(j:Int)) (st:=(t.2.1:Int)) (b:=t.2.1) (e:=t.2.2) (p:=fun n=>decide (n<v)) n3
  have a2:=q427 (row:=ns) (j:=(j:Int)) (st:=(t.2.1:Int)) (b:=t.2.1) (e:=pl) (p:=fun n=>decide (n<=v)) ∅
  have a3:=q427 (row:=ns) (j:=(j:Int)) (st:=(t.2.1:Int)) (b:=t.2.1) (e:=pl) (p:=fun n=>decide (n<v)) ∅
  have b3:=q141 v (segI ns t.2.1 pl)
  show List.countP _ (_++_)=_
  rw[YX,hr,n1,Option.getD_some]
  rw[e]at a1 ⊢
  rw[YX]at a1 ⊢
  have b1:(thR ns (j:Int) (t.2.1:Int) t.2.1 (pl-t.2.1)).countP (fun x=>TS.lex3 x (v,((j+0:Nat):Int),(pl:Int)))=(thR ns (j:Int) (t.2.1:Int) t.2.1 (pl-t.2.1)).countP (fun x=>(fun n:Int=>decide (n<=v)) x.1):=countP_congr fun x hx=>by
   unfold thR at hx
   obtain⟨k,hk,rfl⟩:=List.mem_map.mp hx
   have:=List.mem_range.mp hk
   simp only[WV]
   rw[TS.q724]
   simp only
   lia
  have b2:l.countP (fun x=>TS.lex3 x (v,((j+0:Nat):Int),(pl:Int)))=l.countP (fun x=>(fun n:Int=>decide (n<v)) x.1):=countP_congr fun x hx=>by
   have:=hl x hx
   simp only[WV]
   rw[TS.q724]
   simp only
   lia
  rw[b1,b2,a2,b3]
  show _=ltN (segI ns t.2.1 t.2.2++_) v+0+(segI ns t.2.1 pl).count v
  unfold ltN at *
  rw[YX]
  simp only at a1 a3 b3 ⊢
  lia
 | t::r,j,J+1,x,hok,h,h1,h2=>by
  obtain⟨ns,n1,n2,n3⟩:=hok t (ZQ ..)
  rw[YA,getElem?_cons_succ]at h
  have ih:=q620 (v:=v) r (j+1) J x (fun u hu=>hok u (ZU _ hu)) h h1 h2
  rw[show j+1+J=j+(J+1) by exact W9]at ih
  have er:rOf nss t=(ns,t.2.1,t.2.2):=by unfold rOf;rw[n1];rfl
  rw[YA,q119,take_succ_cons,q119,er]
  show List.countP _ (_++_)=_
  rw[YX,ih,n1,Option.getD_some]
  have a1:=q427 (row:=ns) (j:=(j:Int)) (st:=(t.2.1:Int)) (b:=t.2.1) (e:=t.2.2) (p:=fun n=>decide (n<=v)) n3
  have b1:(thR ns (j:Int) (t.2.1:Int) t.2.1 (t.2.2-t.2.1)).countP (fun x=>TS.lex3 x (v,((j+(J+1):Nat):Int),(pl:Int)))=(thR ns (j:Int) (t.2.1:Int) t.2.1 (t.2.2-t.2.1)).countP (fun x=>(fun n:Int=>decide (n<=v)) x.1):=countP_congr fun x hx=>by
   have:=q560 hx
   simp only[WV]
   rw[TS.q724]
   simp only
   lia
  rw[b1,a1,q141]
  show _=ltN (segI ns t.2.1 t.2.2++_) v+(segI ns t.2.1 t.2.2++_).count v+_
  rw[count_append]
  unfold ltN
  rw[YX]
  lia
theorem th_mem{v:Int}{pl:Nat}:∀(ts:List T3)(j J:Nat)(x:Rg),TsOk nss ts->(ts.map (rOf nss))[J]? = some x->x.2.1<=pl->pl<x.2.2->x.1[pl]? = some v->(v,((j+J:Nat):Int),(pl:Int))∈thF nss j ts
 | [],_,_,_,_,h,_,_,_=>by simp at h
 | t::r,j,0,x,hok,h,h1,h2,h3=>by
  obtain⟨ns,n1,n2,n3⟩:=hok t (ZQ ..)
  cases Option.some.inj h
  refine mem_append_left _ ?_
  unfold rOf at h1 h2 h3
  rw[n1]at h3 ⊢
  simp only[Option.getD_some]at h1 h2 h3 ⊢
  unfold thR
  refine List.mem_map.mpr ⟨pl-t.2.1,List.mem_range.mpr ∅,?_⟩
  rw[show t.2.1+(pl-t.2.1)=pl by exact W10 h1,WT,h3]
  exact Prod.ext rfl (Prod.ext rfl (show(t.2.1:Int)+((pl-t.2.1:Nat):Int)=(pl:Int) by lia))
 | t::r,j,J+1,x,hok,h,h1,h2,h3=>by
  rw[YA,getElem?_cons_succ]at h
  have ih:=th_mem r (j+1) J x (fun u hu=>hok u (ZU _ hu)) h h1 h2 h3
  rw[show j+1+J=j+(J+1) by exact W9]at ih
  exact WI _ ih
theorem ord_nth{low:Int}{L:Nat}{ts:List T3}{vs:List TS.I3}{k:Nat}(hok:TsOk nss ts)(hn:∀ r∈nss,Wths low L r)(hpm:vs.Perm (thF nss 0 ts))(hord:vs.Pairwise fun x y=>TS.lex3 y x=false)(hk:k<vs.length):∃(v:Int)(j i:Nat),nlS low L ((ts.map (rOf nss)).map (gr low L)) (k:Int)=some (v,j,i)/\vs[k]? = some (v,(j:Int),(i:Int)):=by
 have hx:=rOf_ok hok
 have hr:∀ x∈ts.map (rOf nss),Wths low L x.1:=fun x hx=>by
  obtain⟨t,ht,rfl⟩:=List.mem_map.mp hx
  obtain⟨ns,h1,_⟩:=hok t ht
  unfold rOf
  rw[h1]
  exact hn ns (ZV h1)
 have hw:Wths low L (Wx (ts.map (rOf nss))):=fun y hy=>by
  obtain⟨x,h,z⟩:=List.mem_flatMap.mp hy
  exact hr x h y (YG (mem_of_mem_drop z))
 have hl:vs.length=(Wx (ts.map (rOf nss))).length:=by rw[hpm.length_eq,<- q425 ts 0 hok,ZK]
 obtain⟨v,j,i,x,e1,e2,e3,e4,e5,e6⟩:=nl_gr hx hr hw (k:=(k:Int)) W13 ∅
 exists v,j,i,e1
 have hm:=th_mem ts 0 j x hok e2 e3 e4 e5
 rw[YL]at hm
 obtain⟨k',hk'⟩:=mem_iff_getElem?.mp (hpm.mem_iff.mpr hm)
 have hi:=lex_idx hord (hpm.nodup_iff.mpr (q511 nss ts 0)) hk'
 rw[hpm.countP_eq]at hi
 have hrk:=q620 (v:=v) ts 0 j x hok e2 e3 e4
 rw[YL]at hrk
 rw[<- hk',show k'=k by lia]
theorem q93(x y:Str):(x++y).length=x.length+y.length:=Array.size_append ..
theorem cT_is(p:Int×Int):tx p.1 ++ ":" ++ tx p.2=cT (some p):=by
 show _=Txt.join ":" [tx p.1,tx p.2]
 rw[show(":" : Str)=⟨#[58]⟩ by decide +kernel,q311]
 rfl
inductive q108(K:Fg)(vs:List V)(H:Hp)(Q:VK)(E:XK):Prop
 |mk(D:Addr)(xs:List V)(ps:List (Int×Int))(_:vs=[.ref D])(_:SqL K H D xs)(_:PsAt H xs ps)(_:(∀ p∈ps,SmB p))(_:ps.length<=1000)(_:∀ H',Same H H'->Q (.str (lT ps)) H')
inductive q238(K:Fg)(vs:List V)(H:Hp)(Q:VK)(E:XK):Prop
 |mk(D:Addr)(xs:List V)(ps:List (Int×Int))(_:vs=[.ref D])(_:SqL K H D xs)(_:PsAt H xs ps)(_:ps.length<=1000)(_:∀(l:Addr)(ys:List V)(H':Hp),Same H H'->H' l=some (.lst ys)->PsAt H' ys (ps.foldl bstep none).toList->Q (.ref l) H')
theorem q61:z.C P w base 1 "_law_of_worths" ["_law_told"] (q108 K):=by
 have sc:=q213
 refine z.d__law_of_worths.cal fun f fd F=>F.k sc fun _ _ _ s H _ Q _ hr h=>?_
 obtain⟨D,xs,ps,rfl,hD,hA,hb,hl,q⟩:=h
 refine⟨_,(q11 (ps_if (q45 (q453 hr.units) (pr 0) (q40 q12) (q21 _))
 (q15 (q18 q23))
 q20)
 (q15 (q18 (pe_bm WW YO YQ q130 q23 (q10 (q387 (x := "_law_worth") (cl:=[]) (cn:=[]) (TN:=["_law_many"]) (N:=[]) (fr:=[]) (sc0:=q17 q84) rfl (q35 (pr 0)) (fun C s₂ H₂ fp=>(pe_op q26 (pe_op q26 (q29 q27 () z.str_ q62 (q10 (pr 0) q12)) q23) (q29 q27 () z.str_ q62 (q10 (pr 1) q12)))) (fun C s₂ H₂ fp=>q269) (fun C s₂ H₂ fp=>(q525 (K:=K) (n:=2) rfl rfl (q33 (q98 (i:=0) (show(["_law_worth", "_law_many"]:List Str).Nodup by decide +kernel) rfl (Or.inl rfl)) (q33 (q98 (i:=1) (show(["_law_worth", "_law_many"]:List Str).Nodup by decide +kernel) rfl (Or.inl rfl)) q87)))) (by ac_rfl) trivial rfl rfl rfl ⟨by decide +kernel,by decide +kernel,by decide +kernel,by decide +kernel⟩ rfl) q12))))),?_⟩
 refine⟨szb rfl,fun e he=>?_⟩
 obtain⟨H1,e1,s1,h1⟩:=nwH he (.lst [])
 rw[e1]
 exists D,e,xs,rfl,rfl,s1.seq hD,SqL.of h1
 have hAl:=hA.1
 cases ps with
 | nil=>
  cases xs with
  | cons x xs=>cases hAl
  | nil=>exact iteT (q _ s1)
 | cons p0 ps0=>
  cases xs with
  | nil=>cases hAl
  | cons x0 xs0=>
   refine iteF ?_
   generalize hps:p0::ps0=ps at *
   generalize hxs:x0::xs0=xs at *
   refine⟨rfl,D,rfl,⟨_,s1.seq hD⟩,fun D2 hD2=>?_⟩
   refine q341 (K:=K) (xs:=xs) (sl51 (W204 hAl hl)) (fun i zs G=>zs=((ps.take i).map fun p=>cT (some p)).map V.str/\i<=ps.length/\Same H1 G/\G D2=some (.lst zs)) ⟨rfl,ZX _,q16 hD2 _,q13⟩ (fun i zs G ⟨_,_,s,_⟩=>s.seq (s1.seq hD)) (fun i zs G ⟨e1,e2,_,e4⟩=>⟨e4,by rw[e1,ZK,ZK,WL];lia⟩) ?_ ?_
   ·rintro i x zs G hx ⟨rfl,e2,e3,e4⟩ vs3 hvs3
    obtain⟨p,hp,a,rfl,ha⟩:=hA.get hx
    have hi:=(List.getElem?_eq_some_iff.mp hp).1
    obtain⟨⟨p1,p2⟩,p3,p4⟩:=hb p (ZV hp)
    have l1:=q91 p1 p2
    have l2:=q91 p3 p4
    have lc:(":" : Str).length=1:=by decide +kernel
    match vs3,hvs3 with
    | [x0,x1],_=>
     refine⟨a,_,rfl,SqT.of (e3 _ _ (s1 _ _ ha)),rfl,_,_,rfl,_,_,rfl,rfl,⟨[_,_],rfl,rfl⟩,iteT ?_⟩
     exists _,rfl,lg60 (W164 p1 p2) (W169 p1 p2),_,_,rfl,rfl,sl51 (by show(tx p.1).length+_<=_;lia),_,rfl,lg60 (W164 p3 p4) (W169 p3 p4),_,_,rfl,rfl,sl51 (by show(tx p.1 ++ ":").length+(tx p.2).length<=_;rw[q93];lia)
     refine⟨e4,?_,(W73 hi hAl),Same.own e3 hD2,q13⟩
     rw[WK,hp,WF,WF]
     show _=_++[V.str (cT (some p))]
     rw[<- cT_is]
     rfl
   ·rintro zs G ⟨e1,e2,e3,e4⟩
    rw[hAl,WS]at e1
    subst e1
    exists ",", D2,ps.map fun p=>cT (some p),rfl,rfl,SqL.of e4,jn_ok (by decide +kernel) (B:=104) (fun x hx=>?_) (by rw[ZK];exact W171 hAl hl)
    ·obtain⟨p,hp,rfl⟩:=List.mem_map.mp hx
     exact cT_len (hb p hp)
    ·have:=q G (s1.trans e3)
     unfold lT at this
     rw[ZJ (by rw[<- hps];simp)]at this
     exact this
theorem q512:z.C P w base 1 "_law_best" ["_law_told"] (q238 K):=by
 have sc:=q480
 refine z.d__law_best.cal fun f fd F=>F.k sc fun _ _ _ s H _ Q _ hr h=>?_
 obtain⟨D,xs,ps,rfl,hD,hA,hl,q⟩:=h
 refine⟨_,(q11 (pst 1 sc.nd (q40 q12))
 (q11 (q69 PassesOwn.never rfl (q35 (pr 0)) (q217 rfl (q33 (pgn 2 sc.nd) (q33 (pgn 3 sc.nd) q87)))
 (q15 (ps_if (PW.pt (pw_or (q45 (q453 hr.units) (pr 1) (q40 q12) (q21 _)) (q127 (q45 om_gt (pr 3) (pix q131 (pix q89 (pr 1) q14) q14) (q21 _)))))
 (q15 (pst 1 sc.nd (q40 (q10 (q34 (q10 (pr 2) (q10 (pr 3) q12))) q12))))
 q20)))
 (q15 (q18 (pr 1))))),?_⟩
 refine⟨szb rfl,fun e he=>?_⟩
 obtain⟨H1,e1,s1,h1⟩:=nwH he (.lst [])
 rw[e1]
 have hAl:=hA.1
 refine⟨D,rfl,⟨_,s1.seq hD⟩,q174 (K:=K) (a:=D) (xs:=xs) (fun i σ G=>∃(l:Addr)(ys:List V)(v2 v3:Option V),σ=[some (.ref D),some (.ref l),v2,v3]/\Same H G/\G l=some (.lst ys)/\PsAt G ys ((ps.take i).foldl bstep none).toList) ⟨e,[],_,_,rfl,s1,h1,q509⟩ (fun i σ G _ ⟨_,_,_,_,_,s,_⟩=>s.seq hD) ?_ ?_⟩
 ·rintro i x σ G hx ⟨l,ys,v2,v3,rfl,sG,hl,hy⟩
  obtain⟨p,hp,a,rfl,ha⟩:=hA.get hx
  exists a,_,rfl,SqT.of (sG _ _ ha),rfl,_,_,rfl,_,_,rfl,rfl
  refine⟨szb rfl,fun e2 he2=>?_⟩
  obtain⟨G2,g1,s2,h2⟩:=nwH he2 (.lst [])
  rw[g1]
  exists l,e2,ys,rfl,rfl,SqL.of (s2 _ _ hl),SqL.of h2
  have et:(ps.take (i+1)).foldl bstep none=bstep ((ps.take i).foldl bstep none) p:=by rw[WK,hp,foldl_append];rfl
  cases ho:(ps.take i).foldl bstep none with
  | none=>
   rw[ho]at hy et
   obtain rfl:ys=[]:=eq_nil_of_length_eq_zero hy.1
   refine iteT ⟨szb rfl,fun tp htp=>⟨szb rfl,fun l3 hl3=>?_⟩⟩
   exists l3,[.ref tp],_,_,rfl,(sG.trans s2).trans ((q16 htp _).trans (q16 hl3 _)),q13
   rw[et]
   exact q372 ⟨tp,rfl,q16 hl3 _ _ _ q13⟩
  | some q0=>
   rw[ho]at hy et
   match ys,hy with
   | [y],hy=>
    obtain⟨b,rfl,hb⟩:=hy.2 0 y q0 rfl rfl
    refine iteF ⟨_,_,SqL.of (s2 _ _ hl),q41 (j:=0) rfl,_,_,SqT.of (s2 _ _ hb),rfl,?_⟩
    refine ite2 (fun c=>?_) (fun c=>?_)
    ·refine⟨szb rfl,fun tp htp=>⟨szb rfl,fun l3 hl3=>?_⟩⟩
     exists l3,[.ref tp],_,_,rfl,(sG.trans s2).trans ((q16 htp _).trans (q16 hl3 _)),q13
     rw[et]
     unfold bstep
     dsimp only
     rw[ZL (ZI c)]
     exact q372 ⟨tp,rfl,q16 hl3 _ _ _ q13⟩
    ·exists l,_,_,_,rfl,sG.trans s2,s2 _ _ hl
     rw[et]
     unfold bstep
     dsimp only
     rw[ZJ (fun z=>c (ZG z))]
     exact hy.same s2
 ·rintro σ G ⟨l,ys,v2,v3,rfl,sG,hl,hy⟩
  rw[hAl,WS]at hy
  exact q l ys G sG hl hy
inductive q163(K:Fg)(vs:List V)(H:Hp)(Q:VK)(E:XK):Prop
 |mk(pen b th:Addr)(low:Int)(L:Nat)(zs:List V)(ts:List TS.I3)(_:vs=[.ref pen,.ref b,.ref th])(_:PenM H pen)(_:H b=some (.tup [.int low,.int (L:Int)]))(_:L<=40)(_:-(10^40)<low)(_:low<10^40)(_:H th=some (.lst zs))(_:th≠pen)(_:zs.length<=900)(_:Paired (q77 K H) zs ts)(_:(∀ t∈ts,low<=t.1/\t.1<low+2^L))(_:∀(n:Int)(H':Hp),Keep pen H H'->PenM H' pen -> -(10^45)<n->n<10^45->Q (.int n) H')
theorem q164:z.C P w base 3 "_law_number" pn1 (q163 K):=by
 have sc:=q325
 refine z.d__law_number.cal fun f fd F=>F.k sc fun _ _ _ s H _ Q _ hr h=>?_
 obtain⟨pen,b,th,low,L,zs,ts,rfl,P0,hb,hL,l0,l1,hth,ntp,hzl,hT,hw,q⟩:=h
 refine⟨_,(q11 (pst 3 sc.nd (pe_fn (q25 z) hr.m () (q10 (pr 0) (q10 q14 q12))))
 (q11 (pst 4 sc.nd (pe_fn (q25 z) hr.m () (q10 (pr 0) (q10 (pe_op q219 q14 q14) q12))))
 (q11 (q389 (ps_if (PW.pt (q431 (q45 om_lt (pr 3) q14 (q21 _)) (q256 (q45 (q575 hr.units) (pr 2) (q40 q12) (q21 _)))))
 (q15 (q18 (pe_op q345 (pe_op q106 (pix q131 (pix q89 (pr 2) (pe_fn (q25 z) hr.m () (q10 (pr 0) (q10 (pln z.len_ (q10 (pr 2) q12)) q12)))) q14) (pe_fn (q25 z) hr.m () (q10 (pr 0) (q10 q14 q12)))) q14)))
 q20))
 (q11 (pst 5 sc.nd (pe_op q345 (pe_op q106 (pix q131 (pr 1) q14) (pe_op q685 q14 (pix q131 (pr 1) q14))) q14))
 (q11 (pst 6 sc.nd (q40 (q10 (pe_op q106 (pix q131 (pr 1) q14) (pe_fn (q25 z) hr.m () (q10 (pr 0) (q10 (pe_op q685 q14 (pix q131 (pr 1) q14)) q12)))) (q10 (pix q131 (pr 1) q14) (q10 (pr 5) (q10 (pe_op q345 (pix q131 (pr 1) q14) q14) (q10 (pe_op q106 (pr 5) q14) q12)))))))
 (q15 (q18 (pix q89 (pe_op q699 (pr 6) (q40 (q10 (pe_op q345 (pix q131 (pr 1) q14) (pr 4)) (q10 (pe_op q106 (pr 5) (pr 4)) q12)))) (pe_fn (q25 z) hr.m () (q10 (pr 0) (q10 q14 q12))))))))))),?_⟩
 have hbp:=P0.ne hb
 have hp:=p2le hL
 have hq:=p2pos L
 refine⟨pen,6,rfl,P0,{},{},fun way H1 k1 P1 w0 w6=>?_⟩
 exists _,_,rfl,rfl,⟨{},{},{}⟩
 refine⟨pen,_,rfl,P1,{},{},fun far H2 k2 P2 f0 f1=>?_⟩
 have k12:=k1.trans k2
 have hb2:=k12 _ _ hbp hb
 have hth2:=k12 _ _ ntp hth
 have hT2:=q75 (P0.tk k12) hT
 exists fun σ G=>σ=[some (.ref pen),some (.ref b),some (.ref th),some (.int way),some (.int far),none,none]/\Same H2 G,?_
 ·refine ite2 (fun c=>?_) (fun c=>?_)
  ·refine⟨szb rfl,fun e he=>?_⟩
   obtain⟨H3,g3,s3,h3⟩:=nwH he (.lst [])
   rw[g3]
   exists th,e,zs,rfl,rfl,SqL.of (s3 _ _ hth2),SqL.of h3
   cases hz:zs with
   | nil=>
    rw[show(!([]:List V).isEmpty)=false from rfl]
    exact iteF ⟨rfl,s3⟩
   | cons z0 zs0=>
    rw[show(!(z0::zs0).isEmpty)=true from rfl]
    have hpos:0<zs.length:=by rw[hz];exact Nat.succ_pos _
    have P3:=P2.same s3
    refine iteT ⟨th,zs,rfl,.inl (SqL.of (s3 _ _ hth2)),pen,_,rfl,P3,∅,∅,fun i H4 k4 P4 i0 i1=>?_⟩
    obtain⟨n,rfl⟩:=Int.eq_ofNat_of_zero_le i0
    have hn:n<zs.length:=(W100 i1)
    obtain⟨t,ht,p,ep,hp4⟩:=q216 (q75 (P3.tk k4) (q75 (.same s3) hT2)) (ZP hn)
    have hwt:=hw t (ZV ht)
    refine⟨zs,_,SqL.of (k4 _ _ ntp (s3 _ _ hth2)),q41 ((ZP hn).trans (congrArg some ep)),_,_,hp4,rfl,pen,3,rfl,P4,{},{},fun y H5 k5 P5 y0 y1=>?_⟩
    exact q _ _ (k12.trans ((Keep.same s3).trans (k4.trans k5))) P5 ∅ ∅
  ·exact iteF ⟨rfl,Same.refl _⟩
 ·rintro σ G ⟨rfl,sG⟩
  have hbG:=sG _ _ hb2
  have PG:=P2.same sG
  exists _,_,SqT.of hbG,rfl,_,_,SqT.of hbG,rfl,_,_,rfl,rfl,⟨(W114 hL),(W210 hL),{}⟩
  refine⟨_,_,SqT.of hbG,rfl,_,_,SqT.of hbG,rfl,_,_,rfl,rfl,⟨∅,∅,{}⟩,pen,_,rfl,PG,?_,?_,fun v H3 k3 P3 v0 v1=>?_⟩
  ·rw[q573];lia
  ·rw[q573];exact W158 hq hp
  have hb3:=k3 _ _ hbp hbG
  rw[q573]at v1
  refine⟨_,_,SqT.of hb3,rfl,_,_,SqT.of hb3,rfl,szb rfl,fun p4 hp4=>?_⟩
  obtain⟨H4,g4,s4,h4⟩:=nwH hp4 (.lst [.int (low+v),.int low,.int (low+1*2^(L:Int).toNat-1),.int (low-1),.int (low+1*2^(L:Int).toNat-1+1)])
  rw[g4]
  refine⟨_,_,SqT.of (s4 _ _ hb3),rfl,szb rfl,fun p5 hp5=>?_⟩
  obtain⟨H5,g5,s5,h5⟩:=nwH hp5 (.lst [.int (low-far),.int (low+1*2^(L:Int).toNat-1+far)])
  rw[g5]
  refine⟨p4,p5,_,_,rfl,rfl,s5 _ _ h4,h5,szb rfl,fun p6 hp6=>?_⟩
  have P5:=P3.same (s4.trans s5)
  refine⟨pen,7,rfl,P5.new hp6 _,{},{},fun i H7 k7 P7 i0 i1=>?_⟩
  obtain⟨n,hm,hn⟩:=q94 (l:=[low+v,low,low+1*2^(L:Int).toNat-1,low-1,low+1*2^(L:Int).toNat-1+1,low-far,low+1*2^(L:Int).toNat-1+far]) i0 i1
  exists _,_,SqL.of (k7 _ _ (P5.fresh hp6) q13),hn
  rw[show(10:Int)^(40:Int).toNat=10^40 from rfl]at f1
  rw[show(L:Int).toNat=L from rfl]at hm
  simp only[mem_cons,not_mem_nil,or_false]at hm
  exact q _ _ (k12.trans ((Keep.same sG).trans (k3.trans ((Keep.same (s4.trans s5)).trans ((Keep.new hp6 _).trans k7))))) P7 ∅ ∅
inductive q239(K:Fg)(vs:List V)(H:Hp)(Q:VK)(E:XK):Prop
 |mk(D:Addr)(ys:List V)(ts:List T3)(_:vs=[.ref D])(_:SqL K H D ys)(_:TsAt H ys ts)(_:ts.length<=8)(_:(∀ t∈ts,SmP t))(_:∀ H',Same H H'->Q (.str (tG ts)) H')
theorem q240:z.C P w base 1 "_law_word" ["_law_some_here"] (q239 K):=by
 have sc:=q479
 refine z.d__law_word.cal fun f fd F=>F.k sc fun _ _ _ s H _ Q _ hr h=>?_
 obtain⟨D,ys,ts,rfl,hD,hT,h8,hs,q⟩:=h
 exists _,(q15 (q18 (pe_bm WW YO YQ q130 q23 (q10 (q63 (cl:=[]) (cn:=[]) (N:=[]) (fr:=[]) (sc0:=q17 q117) rfl (q35 (pv 0)) (fun C s₂ H₂ fp=>(pe_bmK (K:=K) rfl WW YO YQ (mt_joinK (K:=K) rfl) q23 (q10 (pe_compN (sc00:=q17 q117) rfl rfl (pi_tupK (K:=K) rfl (pv 0)) (fun C s₂ H₂ fp=>(q29 q27 () z.str_ q62 (q10 (pv 0) q12))) (by ac_rfl) rfl cok) q12))) (by ac_rfl) trivial rfl rfl rfl cok rfl) q12))))
 have hTl:=hT.1
 refine⟨rfl,_,rfl,D,rfl,⟨_,hD⟩,fun D2 hD2=>?_⟩
 refine q67 (K:=K) (xs:=ys) (sl51 ∅) (fun i zs G=>zs=((ts.take i).map tP).map V.str/\i<=ts.length/\Same H G/\G D2=some (.lst zs)) ⟨rfl,ZX _,q16 hD2 _,q13⟩ (fun i zs G ⟨_,_,e,_⟩=>e.seq hD)
  (fun i zs G ⟨e1,e2,_,e4⟩=>⟨e4,by rw[e1,ZK,ZK,WL];lia⟩) ?_ ?_
 ·rintro i x zs G hx ⟨e1,e2,e3,e4⟩
  have hi:=(List.getElem?_eq_some_iff.mp hx).1
  have gt:ts[i]? = some (ts[i]'(W39 hi hTl)):=ZP _
  generalize ts[i]'∅=t at gt
  obtain⟨a,rfl,ha⟩:=hT.2 i x t hx gt
  have sm:=hs t (ZV gt)
  have hb:BdN (p3s t):=fun n hn=>by
   unfold p3s at hn
   simp only[mem_cons,not_mem_nil,or_false]at hn
   obtain⟨m1,m2,m3⟩:=sm
   rcases hn with rfl | rfl | rfl <;> lia
  have hS:SqT K G a ((p3s t).map V.int):=SqT.of (e3 _ _ ha)
  refine⟨rfl,_,rfl,a,rfl,⟨_,hS⟩,fun D3 hD3=>?_⟩
  refine q384 (K:=K) (xs:=(p3s t).map V.int) (szb rfl) (fun k us G2=>us=(((p3s t).take k).map tx).map V.str/\k<=3/\Same G G2/\G2 D3=some (.lst us)) ⟨rfl,ZX _,q16 hD3 _,q13⟩ (fun k us G2 ⟨_,_,e,_⟩=>q508 (.same e) hS)
   (fun k us G2 ⟨f1,f2,_,f4⟩=>⟨f4,by rw[f1,ZK,ZK,WL];exact YH f2⟩) ?_ ?_
  ·rintro k y us G2 hy ⟨f1,f2,f3,f4⟩
   obtain⟨n,hn,rfl⟩:=q301 hy
   have hk:k<3:=(List.getElem?_eq_some_iff.mp hn).1
   have:=hb n (ZV hn)
   refine⟨_,rfl,n,rfl,lg60 (W28 this) (W33 this),f4,?_,(W66 hk f2),Same.own f3 hD3,q13⟩
   rw[f1,WK,hn,WF,WF]
   rfl
  ·rintro us G2 ⟨f1,f2,f3,f4⟩
   have f1':us=((p3s t).map tx).map V.str:=f1
   subst f1'
   refine⟨":", D3,(p3s t).map tx,rfl,rfl,SqL.of f4,jn_ok (by decide +kernel) (B:=51) (fun x hx=>?_) (by show 3*51+3<=_;decide),f3 _ _ e4,?_,(W162 hi hTl),Same.own (e3.trans f3) hD2,q13⟩
   ·obtain⟨n,hn,rfl⟩:=List.mem_map.mp hx
    exact q91 (hb n hn).1 (hb n hn).2
   ·rw[e1,WK,gt,WF,WF]
    show _++[V.str (Txt.join ":" _)]=_++[V.str (tP t)]
    rw[show(":" : Str)=⟨#[58]⟩ by decide +kernel,q311]
    rfl
 ·rintro zs G ⟨e1,e2,e3,e4⟩
  rw[hTl,WS]at e1
  subst e1
  exists "+", D2,ts.map tP,rfl,rfl,SqL.of e4,jn_ok (by decide +kernel) (B:=160) (fun x hx=>?_) (by rw[ZK];lia)
  ·obtain⟨t,ht,rfl⟩:=List.mem_map.mp hx
   exact ZT (q367 (hs t ht)) {}
  ·rw[show("+" : Str)=⟨#[43]⟩ by decide +kernel,q311]
   exact q G e3
noncomputable def cntF(ns:List Int)(j:Nat):Int:=(((ns.take j).countP fun x=>decide (ns.getD j 0<x):Nat):Int)
theorem q428{ns:List Int}{i:Nat}(h:i<ns.length):ns[i]? = some (ns.getD i 0):=by
 rw[WT,ZP h]
 rfl
theorem q787{ns:List Int}{y:Int}:∀{j:Nat},j<=ns.length->(List.range j).countP (fun i=>decide (y<ns.getD i 0))=(ns.take j).countP fun x=>decide (y<x)
 | 0,_=>rfl
 | j+1,h=>by rw[range_succ,YX,q787 (W21 h),WK,q428 (W174 h),YX];rfl
theorem fa_sum{ns:List Int}:∀{n:Nat},n<=ns.length->((List.range n).map (cntF ns)).sum=(faR (ns.take n).reverse:Int)
 | 0,_=>rfl
 | n+1,h=>by
  rw[range_succ,WF,sum_append,fa_sum ∅,WK,q428 ∅,reverse_append]
  show _+(cntF ns n+0)=(((ns.take n).reverse.countP _+faR (ns.take n).reverse:Nat):Int)
  rw[countP_reverse]
  unfold cntF
  lia
inductive q201(K:Fg)(vs:List V)(H:Hp)(Q:VK)(E:XK):Prop
 |mk(r:Addr)(ns:List Int)(_:vs=[.ref r])(_:SqL K H r (ns.map V.int))(_:ns.length<=100)(_:∀ H',Same H H'->Q (.int (faR ns.reverse:Int)) H')
theorem q429:z.C P w base 1 "_law_falls" ["_law_row_here"] (q201 K):=by
 have sc:=q398
 refine z.d__law_falls.cal fun f fd F=>F.k sc fun _ _ _ s H _ Q _ hr h=>?_
 obtain⟨r,ns,rfl,hS,hl,q⟩:=h
 exists _,(q15 (q18 (q38 (q272 rfl) () z.sum_ q708 (q10 (pe_compC (cl:=[("_law_row_here", s.heap.objs.size+1+0)]) (cn:=["_law_row_here"]) (N:=["_law_row_here"]) (fr:=[0]) (sc0:=q17 q96) rfl (q47 rfl z.range_ (q10 (pln z.len_ (q10 (pv 0) q12)) q12)) (fun C s₂ H₂ fp=>(q38 (q451 (K:=K) rfl) () z.len_ q572 (q10 (q657 (sc00:=q17 q96) (cl:=[("_law_row_here", s.heap.objs.size+1+0),("_law_j", C+1)]) (cn:=["_law_row_here", "_law_j"]) (N:=["_law_j", "_law_row_here"]) (fr:=[0,1]) rfl rfl (q47 rfl z.range_ (q10 (pv 0) q12)) (fun C s₂ H₂ fp=>(pv 0)) (fun C s₂ H₂ fp=>(q19 op_gt (pix (q248 (K:=K) rfl) (pv 2) (pv 0)) (pix (q248 (K:=K) rfl) (pv 2) (pv 1)) (q21 _))) (by ac_rfl) ⟨by ac_rfl,by ac_rfl,trivial⟩ rfl rfl cok rfl) q12))) (by ac_rfl) ⟨by ac_rfl,trivial⟩ rfl rfl rfl ⟨by decide +kernel,fun _ _=>rfl,fun _=>rfl,by decide +kernel,by decide +kernel,by decide +kernel,by decide +kernel⟩ rfl) q12))))
 have hml:(ns.map V.int).length=ns.length:=ZK _
 exists _,rfl,r,_,rfl,.inl hS
 rw[hml]
 refine⟨_,rfl,∅,∅,fun D hD=>?_⟩
 refine q103 (lo:=0) (n:=ns.length) (sl51 ∅) (fun j us G=>us=((List.range j).map (cntF ns)).map V.int/\us.length=j/\Same H G/\G D=some (.lst us)) ⟨rfl,rfl,q16 hD _,q13⟩ (fun j us G ⟨_,e2,_,e4⟩=>⟨e4,e2⟩) ?_ ?_
 ·rintro j us G hj ⟨e1,e2,e3,e4⟩
  have hSG:=e3.seq hS
  refine⟨_,rfl,_,rfl,∅,∅,fun D3 hD3=>?_⟩
  rw[show((0:Int)+(j:Int)).toNat=j by lia]
  refine q452 (p:=fun i=>decide (ns.getD j 0<ns.getD i 0)) (g:=fun i=>.int (0+(i:Int))) hD3 (sl51 ∅) ?_ ?_ ?_
  ·rintro i hi G2 Q2 s2 q2
   have at1:atI (ns.map V.int) (0+(i:Int))=some (.int (ns.getD i 0)):=by
    rw[Int.zero_add]
    exact q41 (by rw[WE,q428 ∅];rfl)
   have at2:atI (ns.map V.int) (0+(j:Int))=some (.int (ns.getD j 0)):=by
    rw[Int.zero_add]
    exact q41 (by rw[WE,q428 ∅];rfl)
   exact⟨_,rfl,_,rfl,r,_,_,_,rfl,rfl,s2.seq hSG,at1,_,rfl,_,rfl,r,_,_,_,rfl,rfl,s2.seq hSG,at2,_,_,rfl,rfl,_,rfl,q2⟩
  ·rintro i hi G2 Q2 s2 q2
   exact⟨_,rfl,q2⟩
  ·refine⟨D3,_,rfl,.inl (SqL.of q13),q16 hD3 _ _ _ e4,?_,by rw[ZM,e2];rfl,Same.own (e3.trans (q16 hD3 _)) hD,q13⟩
   rw[e1,range_succ,WF,WF,ZK,<- countP_eq_length_filter,q787 ∅]
   rfl
 ·rintro us G ⟨e1,e2,e3,e4⟩
  exists D,(List.range ns.length).map (cntF ns),rfl,SqL.of (by rw[e4,e1])
  rw[fa_sum (ZF _),WS]
  exact q G e3
theorem q788(a b c:Str):a++b++c=a++(b++c):=by
 cases a;cases b;cases c
 show Str.mk _=Str.mk _
 exact congrArg Str.mk Array.append_assoc
section
variable{pre nm:Str}{ts:List P3}{n m:Int}(h:pre=nm++⟨#[32]⟩)
include h
theorem sy0:pre++tG ts=sayT nm (.g ts::([]:List Int).map Vl.n):=by rw[h];rfl
theorem sy1:pre++tG ts ++ " " ++ tx n=sayT nm (.g ts::[n].map Vl.n):=by
 rw[h,show(" " : Str)=⟨#[32]⟩ by decide +kernel]
 show _=nm++⟨#[32]⟩++(tG ts++⟨#[32]⟩++tx n)
 simp only[q788]
theorem sy2:pre++tG ts ++ " " ++ tx n ++ " " ++ tx m=sayT nm (.g ts::[n,m].map Vl.n):=by
 rw[h,show(" " : Str)=⟨#[32]⟩ by decide +kernel]
 show _=nm++⟨#[32]⟩++(tG ts++⟨#[32]⟩++(tx n++⟨#[32]⟩++tx m))
 simp only[q788]
end
structure Asq(low:Int)(L:Nat)(rs:LL)(ts:List T3)(vs:List TS.I3)(ps:List (Int×Int)):Prop where
 ne:ts≠[]
 l8:ts.length<=8
 ok:TsOk rs ts
 hW:∀ r∈rs,Wths low L r/\r.length<=100
 pm:vs.Perm (thF rs 0 ts)
 od:vs.Pairwise fun x y=>TS.lex3 y x=false
 tp:ps.Pairwise fun p q=>p.1<q.1
 tm:∀ w m,(w,m)∈ps↔(m=(((vs.map (·.1)).count w:Nat):Int)/\0<m)
section
variable {low:Int} {L:Nat} {rs:LL} {ts:List T3} {vs:List TS.I3} {ps:List (Int×Int)} (h:Asq low L rs ts vs ps)
include h
theorem Asq.x:AllOk (ts.map (rOf rs)):=rOf_ok h.ok
theorem Asq.iw:Wths low L (Wx (ts.map (rOf rs))):=fun y hy=>by
 obtain⟨x,hx,z⟩:=List.mem_flatMap.mp hy
 obtain⟨t,ht,rfl⟩:=List.mem_map.mp hx
 obtain⟨ns,h1,_⟩:=h.ok t ht
 have z:y∈segI ((rs[t.1]?).getD []) t.2.1 t.2.2:=z
 rw[h1]at z
 exact(h.hW ns (ZV h1)).1 y (YG (mem_of_mem_drop z))
theorem Asq.pw:(vs.map (·.1)).Perm (Wx (ts.map (rOf rs))):=by
 rw[<- q425 ts 0 h.ok]
 exact h.pm.map _
theorem Asq.len:(Wx (ts.map (rOf rs))).length=vs.length:=by rw[<- h.pw.length_eq,ZK]
theorem Asq.few:vs.length<=800:=by
 rw[h.pm.length_eq]
 have:=q424 ts 0 h.ok fun ns hn=>(h.hW ns hn).2
 have:=h.l8
 lia
theorem Asq.t:Tld (Wx (ts.map (rOf rs))) ps:=⟨h.tp,fun w m=>by rw[h.tm,h.pw.count_eq]⟩
theorem Asq.lt(n:Int):ltN (Wx (ts.map (rOf rs))) n=vs.countP fun x=>decide (x.1<n):=by
 unfold ltN
 rw[<- h.pw.countP_eq,countP_map]
 rfl
theorem Asq.g:ts.map (My.gOf low L rs)=(ts.map (rOf rs)).map (gr low L):=by
 rw[map_map]
 refine map_congr_left fun t _=>?_
 unfold gOf
 rw[WT]
 rfl
theorem Asq.ask{y t nm:Str}{ns:List Int}(hy:y=sayT nm (.g ts::ns.map Vl.n))(hb:BdN ns)(hn:ns.length<=10)(pl:Pl low L ((ts.map (rOf rs)).map (gr low L)) nm ns t):AskOk low L rs y t:=
 .inr ⟨nm,ts,ns,hy,h.ne,h.l8,fun p hp=>h.ok p hp,by
  rw[h.g,q92 h.x,h.len]
  have:=h.few
  lia,hb,hn,by rw[h.g];exact pl⟩
theorem bd1{n:Int}(h:-(10^45)<n/\n<10^45):BdN [n]:=fun m hm=>by rw[List.mem_singleton.mp hm];exact W125 h
theorem Asq.below{n:Int}(hn:-(10^45)<n/\n<10^45)(hy:y=sayT "below" (.g ts::[n].map Vl.n)):AskOk low L rs y (tx ((vs.countP fun x=>decide (x.1<n):Nat):Int)):=by
 rw[<- h.lt,<- be_gr h.x h.iw]
 exact h.ask hy (bd1 h hn) (YB rfl) (.below n)
theorem Asq.up{n:Int}(hn:-(10^45)<n/\n<10^45)(hy:y=sayT "up" (.g ts::[n].map Vl.n)):AskOk low L rs y (cT (ps.find? fun p=>decide (n<p.1))):=by
 rw[<- up_gr h.x h.iw h.t]
 exact h.ask hy (bd1 h hn) (YB rfl) (.up n)
theorem Asq.down{n:Int}(hn:-(10^45)<n/\n<10^45)(hy:y=sayT "down" (.g ts::[n].map Vl.n)):AskOk low L rs y (cT (ps.filter fun p=>decide (p.1<n)).getLast?):=by
 rw[<- dn_gr h.x h.iw h.t]
 exact h.ask hy (bd1 h hn) (YB rfl) (.down n)
theorem Asq.most(hy:y=sayT "most" (.g ts::([]:List Int).map Vl.n)):AskOk low L rs y (cT (ps.foldl bstep none)):=by
 have e:caS 1 0 L low (fil ((ts.map (rOf rs)).map (gr low L)))=ps:=by
  rw[ca_gr h.x h.iw h.t {} {},List.filter_eq_self.mpr fun p hp=>ZG ?_]
  have:=((h.t.2 p.1 p.2).mp hp).2
  lia
 have:=h.ask hy (fun _ z=>by cases z) {} .most
 rw[e]at this
 exact this
theorem Asq.often{n:Int}(h0:1<=n)(h1:n<=1000)(hy:y=sayT "often" (.g ts::[n].map Vl.n)):AskOk low L rs y (lT (ps.filter fun p=>decide ((vs.length:Int)<p.2*n))):=by
 have:=h.ask hy (bd1 h ⟨∅,∅⟩) (YB rfl) (.often n h0 h1)
 rw[q92 h.x,h.len,ca_gr h.x h.iw h.t (W197 h0 h1) W13]at this
 exact this
theorem Asq.between{a b:Int}(ha:-(10^45)<a/\a<10^45)(hb:-(10^45)<b/\b<10^45)(hy:y=sayT "between" (.g ts::[a,b].map Vl.n)):AskOk low L rs y (tx ((vs.countP fun x=>decide (a<=x.1)&&decide (x.1<=b):Nat):Int)):=by
 have e:((vs.countP fun x=>decide (a<=x.1)&&decide (x.1<=b):Nat):Int)=if b<a then 0 else beS low L ((ts.map (rOf rs)).map (gr low L)) (b+1)-beS low L ((ts.map (rOf rs)).map (gr low L)) a:=by
  rw[be_gr h.x h.iw,be_gr h.x h.iw,h.lt,h.lt]
  split
  ·rename_i c
   rw[List.countP_eq_zero.mpr fun x _=>?_]
   ·rfl
   ·simp only[WZ,WV]
    lia
  ·rename_i c
   have:∀ l:List TS.I3,l.countP (fun x=>decide (x.1<b+1))=l.countP (fun x=>decide (x.1<a))+l.countP (fun x=>decide (a<=x.1)&&decide (x.1<=b)):=fun l=>by
    induction l with
    | nil=>rfl
    | cons x l ih=>
     rw[countP_cons,countP_cons,countP_cons,ih]
     by_cases c1:x.1<a
     ·have c2:x.1<b+1:=∅
      have c3:¬ a<=x.1:=(W61 c1)
      simp[c1,c2,c3];lia
     ·have c3:a<=x.1:=(W20 c1)
      by_cases c2:x.1<b+1
      ·have c4:x.1<=b:=∅
       simp[c1,c2,c3,c4];lia
      ·have c4:¬ x.1<=b:=∅
       simp[c1,c2,c4]
   have:=this vs
   lia
 rw[e]
 exact h.ask hy (fun m hm=>by
  rcases List.mem_cons.mp hm with rfl | hm
  ·exact W125 ha
  ·rw[List.mem_singleton.mp hm];lia) (YB rfl) (.between a b)
theorem Asq.least{k:Nat}(hk:k<vs.length)(hy:y=sayT "least" (.g ts::[(k:Int)].map Vl.n)):∃ v:TS.I3,vs[k]? = some v/\AskOk low L rs y (rowT [v.1,v.2.1,v.2.2]):=by
 obtain⟨v,j,i,e1,e2⟩:=ord_nth h.ok (fun r hr=>(h.hW r hr).1) h.pm h.od hk
 have:=h.few
 refine⟨_,e2,h.ask hy (bd1 h ⟨∅,∅⟩) (YB rfl) (.least (k:Int) (v,j,i) W13 ?_ e1)⟩
 rw[q92 h.x,h.len]
 exact W88 hk
end
theorem q789{low:Int}{L:Nat}{p:T3}{ns:List Int}(hW:∀ r∈rs,Wths low L r/\r.length<=100)(h1:rs[p.1]? = some ns)(h2:p.2.1<=p.2.2)(h3:p.2.2<=ns.length):AskOk low L rs ("falls " ++ tG [p]) (tx (faR (segI ns p.2.1 p.2.2).reverse:Int)):=by
 refine .inl ⟨p,?_,⟨ns,h1,h2,h3⟩,?_⟩
 ·rw[show("falls " : Str) = "falls" ++ ⟨#[32]⟩ by decide +kernel]
  rfl
 ·have e:gOf low L rs p=gr low L (ns,p.2.1,p.2.2):=by
   unfold gOf
   rw[WT,h1]
   rfl
  rw[e,fl_gr (x:=(ns,p.2.1,p.2.2)) ⟨h2,h3⟩ fun y hy=>(hW ns (ZV h1)).1 y (YG (mem_of_mem_drop hy))]
  rfl
theorem lT_one(l:List (Int×Int))(p:Int×Int->Bool):lT ((l.filter p).take 1)=cT (l.find? p):=by
 induction l with
 | nil=>rfl
 | cons a l ih=>
  rw[filter_cons,find?_cons]
  cases e:p a with
  | true=>rfl
  | false=>rw[ZJ fnt];exact ih
theorem lT_opt(o:Option (Int×Int)):lT o.toList=cT o:=by
 cases o <;> rfl
theorem q790(l:List (Int×Int)):l.drop (l.length-1)=l.getLast?.toList:=by
 by_cases hne:l=[]
 ·rw[hne];rfl
 ·have e:l.drop (l.length-1)=(l.dropLast++[l.getLast hne]).drop l.dropLast.length:=by rw[dropLast_concat_getLast hne,length_dropLast]
  rw[e,drop_left,getLast?_eq_getLast hne]
  rfl
theorem thF_bd(hr:∀ r∈rs,r.length<=100):∀(ts:List T3)(j:Nat)(x:TS.I3),TsOk rs ts->x∈thF rs j ts->0<=x.2.1/\x.2.1<=((j+ts.length:Nat):Int)/\0<=x.2.2/\x.2.2<=100
 | [],_,_,_,h=>by cases h
 | t::r,j,x,hok,h=>by
  obtain⟨ns,n1,n2,n3⟩:=hok t (ZQ ..)
  rcases List.mem_append.mp h with z | z
  ·rw[n1,Option.getD_some]at z
   unfold thR at z
   obtain⟨k,hk,rfl⟩:=List.mem_map.mp z
   have:=List.mem_range.mp hk
   have:=hr ns (ZV n1)
   simp only[WB]
   lia
  ·have:=thF_bd hr r (j+1) x (fun u hu=>hok u (ZU _ hu)) z
   simp only[WB]
   lia
theorem cut_1(l:List V):cutV l none (some 1)=l.take 1:=by
 unfold cutV
 cases l with
 | nil=>rfl
 | cons x l=>
  have e:HT.sIx (x::l).length (x::l).length (some 1)-HT.sIx (x::l).length 0 none=1:=by
   simp[HT.sIx]
   try lia
  rw[e]
  rfl
theorem cut_l1(l:List V):cutV l (some (-1)) none=l.drop (l.length-1):=by
 unfold cutV
 have e0:HT.sIx l.length 0 (some (-1))=l.length-1:=by
  simp[HT.sIx]
  try lia
 have e1:HT.sIx l.length l.length none=l.length:=by simp[HT.sIx]
 rw[e0,e1]
 exact WP (by rw[length_drop];lia)
theorem ps_take{us:List V}{qs:List (Int×Int)}(h:PsAt H us qs)(n:Nat):PsAt H (us.take n) (qs.take n):=by
 refine⟨by rw[WL,WL,h.1],fun j x p h1 h2=>?_⟩
 rw[getElem?_take]at h1 h2
 split at h1
 ·rename_i c
  rw[ZL c]at h2
  exact h.2 j x p h1 h2
 ·cases h1
theorem ps_drop{us:List V}{qs:List (Int×Int)}(h:PsAt H us qs)(n:Nat):PsAt H (us.drop n) (qs.drop n):=by
 refine⟨by rw[length_drop,length_drop,h.1],fun j x p h1 h2=>?_⟩
 rw[getElem?_drop]at h1 h2
 exact h.2 _ x p h1 h2
theorem nd_len:∀{l m:List Int},l.Nodup->(∀ x∈l,x∈m)->l.length<=m.length
 | [],m,_,_=>ZX _
 | a::l,m,hn,hs=>by
  have ha:=hs a (ZQ ..)
  have ih:l.length<=(m.erase a).length:=nd_len (List.nodup_cons.mp hn).2 fun x hx=>(mem_erase_of_ne (show x≠a from fun z=>(List.nodup_cons.mp hn).1 (z▸hx))).mpr (hs x (ZU _ hx))
  have:=length_pos_of_mem ha
  rw[length_erase_of_mem ha]at ih
  rw[WB]
  lia
theorem SmB_of{low:Int}{L:Nat}{ps:List (Int×Int)}(h:Asq low L rs ts vs ps)(hL:L<=40)(l0:-(10^40)<low)(l1:low<10^40):(∀ p∈ps,SmB p)/\ps.length<=800:=by
 have hp:=p2le hL
 constructor
 ·intro p hp
  obtain⟨h1,h2⟩:=(h.tm p.1 p.2).mp hp
  have hm:p.1∈vs.map (·.1):=List.count_pos_iff.mp (W190 h2 h1)
  have:=h.iw p.1 (h.pw.mem_iff.mp hm)
  have hc:=count_le_length (a:=p.1) (l:=vs.map (·.1))
  rw[ZK]at hc
  have:=h.few
  exact⟨⟨∅,∅⟩,∅,∅⟩
 ·have hn:(ps.map (·.1)).Nodup:=by
   rw[List.Nodup,pairwise_map]
   exact h.tp.imp fun {a b} hab=>∅
  have hs:(ps.map (·.1)).length<=(vs.map (·.1)).length:=by
   refine nd_len hn fun x hx=>?_
   obtain⟨p,hp,rfl⟩:=List.mem_map.mp hx
   obtain⟨h1,h2⟩:=(h.tm p.1 p.2).mp hp
   exact List.count_pos_iff.mp ∅
  rw[ZK,ZK]at hs
  have:=h.few
  lia
theorem best_mm{ps:List (Int×Int)}(h:p∈(ps.foldl bstep none).toList):p∈ps:=by
 have key:∀(l:List (Int×Int)) (o:Option (Int×Int)),l.foldl bstep o=some p->p∈l\/o=some p:=fun l=>by
  induction l with
  | nil=>exact fun o h=>.inr h
  | cons a l ih=>
   intro o h
   rcases ih _ h with z | z
   ·exact .inl (ZU _ z)
   ·unfold bstep at z
    split at z
    ·exact .inl (by rw[Option.some.inj z];exact ZQ ..)
    ·split at z
     ·exact .inl (by rw[Option.some.inj z];exact ZQ ..)
     ·exact .inr z
 rcases key ps none (by simpa using h)with z | z
 ·exact z
 ·cases z
theorem fa_le:∀ l:List Int,faR l<=l.length*l.length
 | []=>ZF _
 | y::r=>by
  have h1:=fa_le r
  have h2:r.countP (fun x=>decide (y<x))<=r.length:=countP_le_length
  show _+faR r<=(r.length+1)*(r.length+1)
  rw[Nat.add_mul,Nat.mul_add]
  lia
theorem ts_one{t:T3}(h:H p=some (.tup [.int (t.1:Int),.int (t.2.1:Int),.int (t.2.2:Int)])):TsAt H [.ref p] [t]:=⟨rfl,fun j x u h1 h2=>by
 match j,h1,h2 with
 | 0,h1,h2=>cases h1;cases h2;exact⟨p,rfl,h⟩⟩
structure Aw(K:Fg)(pen b rl D l ol:Addr)(low:Int)(L:Nat)(rs:LL)(ts:List T3)(vs:List TS.I3)(ps:List (Int×Int))(ys zs os:List V)(H G:Hp):Prop where
 k:Keep pen H G
 p:PenM G pen
 r:RwsAt G rl rs
 hb:G b=some (.tup [.int low,.int (L:Int)])
 hD:G D=some (.lst ys)
 hT:TsAt G ys ts
 hl:G l=some (.lst zs)
 hz:Paired (q77 K G) zs vs
 ho:G ol=some (.lst os)
 hp:PsAt G os ps
 nb:b≠pen
 nD:D≠pen
 nl:l≠pen
 no:ol≠pen
theorem Aw.pk{K:Fg}{pen b rl D l ol:Addr}{low:Int}{L:Nat}{rs:LL}{ts:List T3}{vs:List TS.I3}{ps:List (Int×Int)}{ys zs os:List V}{H G G':Hp}(a:Aw K pen b rl D l ol low L rs ts vs ps ys zs os H G)(k:Keep pen G G')(p:PenM G' pen):Aw K pen b rl D l ol low L rs ts vs ps ys zs os H G':=
 have tk:=a.p.tk k
 ⟨a.k.trans k,p,a.r.kp a.p k,k _ _ a.nb a.hb,k _ _ a.nD a.hD,a.hT.tk tk,k _ _ a.nl a.hl,q75 tk a.hz,k _ _ a.no a.ho,ps_tk a.hp tk,a.nb,a.nD,a.nl,a.no⟩
theorem Aw.same{K:Fg}{pen b rl D l ol:Addr}{low:Int}{L:Nat}{rs:LL}{ts:List T3}{vs:List TS.I3}{ps:List (Int×Int)}{ys zs os:List V}{H G G':Hp}(a:Aw K pen b rl D l ol low L rs ts vs ps ys zs os H G)(s:Same G G'):Aw K pen b rl D l ol low L rs ts vs ps ys zs os H G':=a.pk (Keep.same s) (a.p.same s)
inductive q202(u0:Fg)(vs:List V)(H:Hp)(Q:VK)(E:XK):Prop
 |mk(pen b rl:Addr)(low:Int)(L:Nat)(rs:LL)(_:vs=[.ref pen,.ref b,.ref rl])(_:PenM H pen)(_:RwsAt H rl rs)(_:H b=some (.tup [.int low,.int (L:Int)]))(_:L<=40)(_:-(10^40)<low)(_:low<10^40)(_:0<rs.length)(_:rs.length<=100)(_:(∀ r∈rs,Wths low L r/\r.length<=100))(_:∀(p:Addr)(y t:Str)(H':Hp),Keep pen H H'->PenM H' pen->H' p=some (.tup [.str y,.str t])->AskOk low L rs y t->Q (.ref p) H')
theorem q430:z.C P w base 4 "_law_asked" pn4 (q202 K):=by
 have sc:=q399
 refine z.d__law_asked.cal fun f fd F=>F.k sc fun _ _ _ s H _ Q _ hr h=>?_
 obtain⟨pen,b,rl,low,L,rs,rfl,P0,R0,hb,hL,lo0,lo1,hn0,hn1,hW,q⟩:=h
 refine⟨_,(q11 (pst 3 sc.nd (pe_fn (q507 z) hr.m () (q10 (pr 0) (q10 (pr 2) (q10 (pix q89 (q40 (q10 q14 (q10 q14 (q10 q14 q12)))) (pe_fn (q25 z) hr.m () (q10 (pr 0) (q10 q14 q12)))) q12)))))
 (q11 (pst 4 sc.nd (pe_fn (q330 z) hr.m () (q10 (pr 2) (q10 (pr 3) q12))))
 (q11 (pst 5 sc.nd (pe_fn (q426 z) hr.m () (q10 (pr 4) q12)))
 (q11 (pst 6 sc.nd (pe_fn (q240 z) hr.m () (q10 (pr 3) q12)))
 (q11 (pst 7 sc.nd (pe_fn (q164 z) hr.m () (q10 (pr 0) (q10 (pr 1) (q10 (pr 4) q12)))))
 (q11 (pst 8 sc.nd (pe_fn (q164 z) hr.m () (q10 (pr 0) (q10 (pr 1) (q10 (pr 4) q12)))))
 (q11 (pst 9 sc.nd (pe_fn (q25 z) hr.m () (q10 (pr 0) (q10 q14 q12))))
 (q11 (q389 (ps_if (PW.pt (q431 (q45 op_eq (pr 9) q14 (q21 _)) (q256 (q45 (q575 hr.units) (pr 4) (q40 q12) (q21 _)))))
 (q11 (pst 10 sc.nd (pe_fn (q25 z) hr.m () (q10 (pr 0) (q10 (pln z.len_ (q10 (pr 4) q12)) q12))))
 (q15 (q18 (q34 (q10 (pe_op q26 (pe_op q26 (pe_op q26 q23 (pr 6)) q23) (q29 q27 () z.str_ q62 (q10 (pr 10) q12))) (q10 (pe_bm WW YO YQ q130 q23 (q10 (q63 (cl:=[]) (cn:=[]) (N:=[]) (fr:=[]) (sc0:=q17 q51) rfl (q257 (pix q89 (pr 4) (pr 10))) (fun C s₂ H₂ fp=>(q29 q27 () z.str_ q62 (q10 (pr 0) q12))) (by ac_rfl) trivial rfl rfl rfl cok rfl) q12)) q12))))))
 q20))
 (q11 (ps_if (q45 op_eq (pr 9) q14 (q21 _))
 (q11 (pst 11 sc.nd (pln z.len_ (q10 (q83 (cl:=[("_law_other", s.heap.objs.size+1+2),("_law_one", s.heap.objs.size+1+1)]) (cn:=["_law_other", "_law_one"]) (N:=["_law_one", "_law_other"]) (fr:=[7,8]) (sc0:=q17 q51) rfl (q35 (pr 4)) (fun C s₂ H₂ fp=>(pr 0)) (fun C s₂ H₂ fp=>(q567 om_le om_le (pr 1) (pix (q276 (K:=K) rfl) (pr 0) q14) (pr 2))) (by ac_rfl) ⟨by ac_rfl,by ac_rfl,trivial⟩ rfl rfl rfl cok rfl) q12)))
 (q15 (q18 (q34 (q10 (pe_op q26 (pe_op q26 (pe_op q26 (pe_op q26 (pe_op q26 q23 (pr 6)) q23) (q29 q27 () z.str_ q62 (q10 (pr 7) q12))) q23) (q29 q27 () z.str_ q62 (q10 (pr 8) q12))) (q10 (q29 q27 () z.str_ q62 (q10 (pr 11) q12)) q12))))))
 q20)
 (q11 (ps_if (q45 op_eq (pr 9) q14 (q21 _))
 (q15 (q18 (q34 (q10 (pe_op q26 (pe_op q26 (pe_op q26 q23 (pr 6)) q23) (q29 q27 () z.str_ q62 (q10 (pr 7) q12))) (q10 (pe_fn (q61 z) hr.m () (q10 (q80 q165 (q83 (cl:=[("_law_one", s.heap.objs.size+1+1)]) (cn:=["_law_one"]) (N:=["_law_one"]) (fr:=[7]) (sc0:=q17 q51) rfl (q35 (pr 5)) (fun C s₂ H₂ fp=>(pr 0)) (fun C s₂ H₂ fp=>(q45 om_gt (pix (q276 (K:=K) rfl) (pr 0) q14) (pr 1) (q21 _))) (by ac_rfl) ⟨by ac_rfl,trivial⟩ rfl rfl rfl cok rfl) q110 (q88 q14)) q12)) q12)))))
 q20)
 (q11 (ps_if (q45 op_eq (pr 9) q14 (q21 _))
 (q15 (q18 (q34 (q10 (pe_op q26 (pe_op q26 (pe_op q26 q23 (pr 6)) q23) (q29 q27 () z.str_ q62 (q10 (pr 7) q12))) (q10 (pe_fn (q61 z) hr.m () (q10 (q80 q165 (q83 (cl:=[("_law_one", s.heap.objs.size+1+1)]) (cn:=["_law_one"]) (N:=["_law_one"]) (fr:=[7]) (sc0:=q17 q51) rfl (q35 (pr 5)) (fun C s₂ H₂ fp=>(pr 0)) (fun C s₂ H₂ fp=>(q45 om_lt (pix (q276 (K:=K) rfl) (pr 0) q14) (pr 1) (q21 _))) (by ac_rfl) ⟨by ac_rfl,trivial⟩ rfl rfl rfl cok rfl) (q88 (pe_un un_neg q14)) q110) q12)) q12)))))
 q20)
 (q11 (ps_if (q45 op_eq (pr 9) q14 (q21 _))
 (q15 (q18 (q34 (q10 (pe_op q26 q23 (pr 6)) (q10 (pe_fn (q61 z) hr.m () (q10 (pe_fn (q512 z) hr.m () (q10 (pr 5) q12)) q12)) q12)))))
 q20)
 (q11 (ps_if (q45 op_eq (pr 9) q14 (q21 _))
 (q11 (pst 12 sc.nd (pix q89 (q40 (q10 (pe_op q106 q14 (pe_fn (q25 z) hr.m () (q10 (pr 0) (q10 q14 q12)))) (q10 (q38 (q258 rfl) () z.max_ q707 (q10 q14 (q10 (pln z.len_ (q10 (pr 4) q12)) q12))) q12))) (pe_fn (q25 z) hr.m () (q10 (pr 0) (q10 q14 q12)))))
 (q11 (q449 (i:=13) (cl:=[("_law_things_here", s.heap.objs.size+1+0),("_law_part", s.heap.objs.size+1+3)]) (cn:=["_law_things_here", "_law_part"]) (N:=["_law_part", "_law_things_here"]) (fr:=[12,4]) (sc0:=q17 q51) sc.nd rfl (Or.inl rfl) rfl (q35 (pr 5)) (fun C s₂ H₂ fp=>(pr 0)) (fun C s₂ H₂ fp=>(q45 om_gt (pe_op q128 (pix (q276 (K:=K) rfl) (pr 0) q14) (pr 1)) (q38 (q451 (K:=K) rfl) () z.len_ q572 (q10 (pr 2) q12)) (q21 _))) (by ac_rfl) ⟨by ac_rfl,by ac_rfl,trivial⟩ rfl rfl rfl cok rfl (by ac_rfl) (.inl rfl))
 (q15 (q18 (q34 (q10 (pe_op q26 (pe_op q26 (pe_op q26 q23 (pr 6)) q23) (q29 q27 () z.str_ q62 (q10 (pr 12) q12))) (q10 (pe_fn (q61 z) hr.m () (q10 (pr 13) q12)) q12)))))))
 q20)
 (q11 (ps_if (q45 op_eq (pr 9) q14 (q21 _))
 (q11 (q333 (pix q89 (pr 3) q14) (q217 rfl (q33 (pgn 14 sc.nd) (q33 (pgn 15 sc.nd) (q33 (pgn 16 sc.nd) q87)))))
 (q15 (q18 (q34 (q10 (pe_op q26 q23 (pe_fn (q240 z) hr.m () (q10 (q80 q165 (pr 3) q110 (q88 q14)) q12))) (q10 (q29 q27 () z.str_ q62 (q10 (pe_fn (q429 z) hr.m () (q10 (q80 q165 (pix q89 (pr 2) (pr 14)) (q88 (pr 15)) (q88 (pr 16))) q12)) q12)) q12))))))
 q20)
 (q15 (q18 (q34 (q10 (pe_op q26 (pe_op q26 (pe_op q26 q23 (pr 6)) q23) (q29 q27 () z.str_ q62 (q10 (pr 7) q12))) (q10 (q29 q27 () z.str_ q62 (q10 (pln z.len_ (q10 (q83 (cl:=[("_law_one", s.heap.objs.size+1+1)]) (cn:=["_law_one"]) (N:=["_law_one"]) (fr:=[7]) (sc0:=q17 q51) rfl (q35 (pr 4)) (fun C s₂ H₂ fp=>(pr 0)) (fun C s₂ H₂ fp=>(q45 om_lt (pix (q276 (K:=K) rfl) (pr 0) q14) (pr 1) (q21 _))) (by ac_rfl) ⟨by ac_rfl,trivial⟩ rfl rfl rfl cok rfl) q12)) q12)) q12))))))))))))))))))),?_⟩
 have hp2:=p2pos L
 have hq2:=p2le hL
 have hr100:∀ r∈rs,r.length<=100:=fun r hr=>(hW r hr).2
 have hbp:=P0.ne hb
 refine q42 fun N1 y1=>?_
 refine⟨szb rfl,fun l0 hl0=>?_⟩
 obtain⟨H1,e1,s1,h1⟩:=nwH hl0 (.lst [.int 2,.int 3,.int 8])
 rw[e1]
 have n0:l0≠pen:=P0.fresh hl0
 refine⟨pen,3,rfl,P0.same s1,{},{},fun v H2 k2 P2 v0 v1=>?_⟩
 have k02:=(Keep.same s1).trans k2
 obtain⟨lg,hm,hlg⟩:=q94 (l:=[2,3,8]) v0 v1
 have hlg2:1<=lg/\lg<=8:=by
  simp only[mem_cons,not_mem_nil,or_false]at hm
  exact W51 hm
 refine⟨_,_,SqL.of (k2 _ _ n0 h1),hlg,pen,rl,lg,rs,rfl,P2,R0.kp P0 k02,hn0,∅,hr100,hlg2.1,hlg2.2,fun D ys ts H3 k3 P3 hD hD0 hT hok ht0 ht8=>?_⟩
 have k03:=k02.trans k3
 have R3:=R0.kp P0 k03
 have hDp:D≠pen:=P2.fresh hD0
 refine y1 _ _ (q42 fun N2 y2=>?_)
 refine⟨rl,D,ys,rs,ts,rfl,R3,hr100,SqL.of hD,hT,hok,ht8,fun l zs vs H4 s4 hl hl4 hpr hpm hord=>?_⟩
 have hvl:vs.length<=900:=by
  rw[hpm.length_eq]
  have:=q424 ts 0 hok hr100
  lia
 have hlp:l≠pen:=P3.fresh hl4
 refine y2 _ _ (q42 fun N3 y3=>?_)
 refine⟨l,zs,vs,rfl,SqL.of hl,hpr,hvl,fun H5 ol os ps s5 ho ho0 hps tp tm=>?_⟩
 have A:Asq low L rs ts vs ps:=⟨fun z=>(by rw[z]at ht0;cases ht0),ht8,hok,hW,hpm,hord,tp,tm⟩
 have hop:ol≠pen:=(P3.same s4).fresh ho0
 have s45:=s4.trans s5
 have a5:Aw K pen b rl D l ol low L rs ts vs ps ys zs os H H5:=⟨k03.trans (Keep.same s45),P3.same s45,R0.kp P0 (k03.trans (Keep.same s45)),s45 _ _ (k03 _ _ hbp hb),s45 _ _ hD,hT.tk (.same s45),s5 _ _ hl,q75 (.same s5) hpr,ho,hps,hbp,hDp,hlp,hop⟩
 clear s1 s4 s5 s45 k2 k02 k3 k03 P0 P2 P3 R0 R3 hD hD0 hT hl hl4 hpr ho ho0 hps hb n0 h1 hl0 e1 hpm hord tp tm
 have hsm:∀ t∈ts,SmP t:=fun t ht=>by
  obtain⟨ns,h1,h2,h3⟩:=hok t ht
  have:=(List.getElem?_eq_some_iff.mp h1).1
  have:=hr100 ns (ZV h1)
  exact⟨∅,∅,∅⟩
 refine y3 _ _ (q42 fun N4 y4=>?_)
 refine⟨D,ys,ts,rfl,SqL.of a5.hD,a5.hT,ht8,hsm,fun H6 s6=>?_⟩
 have a6:=a5.same s6
 have hzl:=q148 a6.hz
 have hvw:∀ t∈vs,low<=t.1/\t.1<low+2^L:=fun t ht=>A.iw t.1 (A.pw.mem_iff.mp (mem_map_of_mem ht))
 refine y4 _ _ (q42 fun N5 y5=>?_)
 refine⟨pen,b,l,low,L,zs,vs,rfl,a6.p,a6.hb,hL,lo0,lo1,a6.hl,hlp,(W183 hzl hvl),a6.hz,hvw,fun one H7 k7 P7 o0 o1=>?_⟩
 have a7:=a6.pk k7 P7
 refine y5 _ _ (q42 fun N6 y6=>?_)
 refine⟨pen,b,l,low,L,zs,vs,rfl,a7.p,a7.hb,hL,lo0,lo1,a7.hl,hlp,(W183 hzl hvl),a7.hz,hvw,fun other H8 k8 P8 t0 t1=>?_⟩
 have a8:=a7.pk k8 P8
 refine y6 _ _ (q42 fun N7 y7=>?_)
 refine⟨pen,8,rfl,a8.p,{},{},fun way H9 k9 P9 w0 w8=>?_⟩
 have a9:=a8.pk k9 P9
 clear a5 a6 a7 a8 s6 k7 k8 k9 P7 P8 P9 y1 y2 y3 y4 y5 y6
 have hsl:(tG ts).length<=2000:=by
  refine ZT (q146 (c:=43) (B:=156) (ts.map tP) fun x hx=>?_) (by rw[ZK];lia)
  obtain⟨t,ht,rfl⟩:=List.mem_map.mp hx
  exact q367 (hsm t ht)
 have lsp:(" " : Str).length=1:=by decide +kernel
 have q1:∀ x:Str,x.length<=8->x.length+(tG ts).length<=sizeLine:=fun x hx=>sl51 ∅
 have q2:∀ x:Str,x.length<=8->(x++tG ts).length+(" " : Str).length<=sizeLine:=fun x hx=>sl51 (by rw[q93];lia)
 have q3:∀(x:Str)(n:Int),x.length<=8 -> -(10^50)<n->n<10^50->(x++tG ts ++ " ").length+(tx n).length<=sizeLine:=fun x n hx h0 h1=>sl51 (by
  have:=q91 h0 h1
  rw[q93,q93];lia)
 refine y7 _ _ (q42 fun N8 y8=>?_)
 exists fun σ G=>σ=[some (.ref pen),some (.ref b),some (.ref rl),some (.ref D),some (.ref l),some (.ref ol),some (.str (tG ts)),some (.int one),some (.int other),some (.int way),none,none,none,none,none,none,none]/\Aw K pen b rl D l ol low L rs ts vs ps ys zs os H G,?_
 ·refine⟨rfl,ite2 (fun c=>?_) (fun c=>iteF ⟨rfl,a9⟩)⟩
  refine⟨szb rfl,fun e he=>?_⟩
  obtain⟨G1,g1,s1,h1⟩:=nwH he (.lst [])
  rw[g1]
  have a1:=a9.same s1
  exists l,e,zs,rfl,rfl,SqL.of a1.hl,SqL.of h1
  cases hz:zs with
  | nil=>
   rw[show(!([]:List V).isEmpty)=false from rfl]
   rw[hz]at a1
   exact iteF ⟨rfl,hz▸a1⟩
  | cons z0 zs0=>
   rw[show(!(z0::zs0).isEmpty)=true from rfl]
   have hpos:0<zs.length:=by rw[hz];exact Nat.succ_pos _
   refine iteT ?_
   refine⟨l,zs,rfl,.inl (SqL.of a1.hl),pen,_,rfl,a1.p,∅,∅,fun kk G2 k2 P2 k0 k1=>?_⟩
   obtain⟨k,rfl⟩:=Int.eq_ofNat_of_zero_le k0
   have a2:=a1.pk k2 P2
   exists _,_,rfl,rfl,q1 _ (by decide +kernel),_,_,rfl,rfl,q2 _ (by decide +kernel),_,rfl,lg60 ∅ ∅,_,_,rfl,rfl,q3 _ (k:Int) (by decide +kernel) ∅ ∅
   have hk:k<zs.length:=(W100 k1)
   obtain⟨v,hv,p',ep,hp'⟩:=q216 a2.hz (ZP hk)
   obtain⟨v',hv',ask⟩:=A.least (y := "least " ++ tG ts ++ " " ++ tx (k:Int)) (k:=k) ∅ (sy1 (by decide +kernel))
   rw[hv]at hv'
   cases Option.some.inj hv'
   have hvm:=ZV hv
   have bd:=thF_bd hr100 ts 0 v hok (A.pm.mem_iff.mp hvm)
   have bw:=hvw v hvm
   have hb3:BdN [v.1,v.2.1,v.2.2]:=fun n hn=>by
    simp only[mem_cons,not_mem_nil,or_false]at hn
    rcases hn with rfl | rfl | rfl <;> lia
   refine⟨rfl,zs,_,SqL.of a2.hl,q41 ((ZP hk).trans (congrArg some ep)),p',rfl,⟨_,hp'⟩,fun D3 hD3=>?_⟩
   refine q384 (K:=K) (xs:=([v.1,v.2.1,v.2.2]:List Int).map V.int) (szb rfl) (fun k us G3=>us=((([v.1,v.2.1,v.2.2]:List Int).take k).map tx).map V.str/\k<=3/\Same G2 G3/\G3 D3=some (.lst us)) ⟨rfl,ZX _,q16 hD3 _,q13⟩ (fun k us G3 ⟨_,_,e,_⟩=>q508 (.same e) hp')
    (fun k us G3 ⟨f1,f2,_,f4⟩=>⟨f4,by rw[f1,ZK,ZK,WL];exact YH f2⟩) ?_ ?_
   ·rintro k y us G3 hy ⟨f1,f2,f3,f4⟩
    obtain⟨n,hn,rfl⟩:=q301 hy
    have hk3:k<3:=(List.getElem?_eq_some_iff.mp hn).1
    have:=hb3 n (ZV hn)
    refine⟨n,rfl,lg60 (W28 this) (W33 this),f4,?_,(W66 hk3 f2),Same.own f3 hD3,q13⟩
    rw[f1,WK,hn,WF,WF]
    rfl
   ·rintro us G3 ⟨f1,f2,f3,f4⟩
    have f1':us=(([v.1,v.2.1,v.2.2]:List Int).map tx).map V.str:=f1
    subst f1'
    refine⟨" ", D3,([v.1,v.2.1,v.2.2]:List Int).map tx,rfl,rfl,SqL.of f4,q766 hb3 (by show 3<=1000;decide),szb rfl,fun pp hpp=>?_⟩
    exact q pp _ _ _ (a2.k.trans ((Keep.same f3).trans (Keep.new hpp _))) ((a2.p.same f3).new hpp _) q13 ask
 rintro σ G ⟨rfl,aG⟩
 clear a9
 obtain⟨hsb,hpl⟩:=SmB_of A hL lo0 lo1
 have hol:=aG.hp.1
 refine y8 _ _ (q42 fun N9 y9=>?_)
 refine⟨rfl,ite2 (fun c=>?_) (fun c=>y9 _ _ (q42 fun N10 y10=>?_))⟩
 ·refine⟨l,rfl,⟨_,SqL.of aG.hl⟩,fun D3 hD3=>?_⟩
  refine q68 (K:=K) (xs:=zs) (sl51 ∅) (fun i us G2=>us.length=(vs.take i).countP (fun x=>decide (one<=x.1)&&decide (x.1<=other))/\Same G G2/\G2 D3=some (.lst us)) ⟨rfl,q16 hD3 _,q13⟩ (fun i us G2 ⟨_,e,_⟩=>e.seq (SqL.of aG.hl)) (fun i us G2 ⟨e1,_,e3⟩=>⟨e3,by rw[e1];exact ZT countP_le_length (by rw[WL];exact Nat.min_le_left _ _)⟩) ?_ ?_
  ·rintro i x us G2 hx ⟨e1,e2,e3⟩
   have hi:=(List.getElem?_eq_some_iff.mp hx).1
   obtain⟨t,ht,p',rfl,hp'⟩:=q216 (q75 (.same e2) aG.hz) hx
   have et:vs.take (i+1)=vs.take i++[t]:=by rw[WK,ht];rfl
   rw[et]
   refine⟨_,_,hp',rfl,_,rfl,ite2 (fun c1=>?_) (fun c1=>⟨false,rfl,iteF ⟨_,(W2 hi),rfl,(W36 hi),?_,e2,e3⟩⟩)⟩
   ·refine⟨_,rfl,ite2 (fun c2=>?_) (fun c2=>⟨_,∅,rfl,∅,?_,e2,e3⟩)⟩
    ·refine⟨e3,?_,Same.own e2 hD3,q13⟩
     rw[YX,countP_cons_of_pos (by rw[c1,c2];rfl),ZM,e1]
     rfl
    ·rw[YX,countP_cons_of_neg (by rw[WZ];exact fun z=>c2 z.2),e1]
     rfl
   ·rw[YX,countP_cons_of_neg (by rw[WZ];exact fun z=>c1 z.1),e1]
    rfl
  ·rintro us G2 ⟨e1,e2,e3⟩
   rw[hzl,WS]at e1
   have hul:us.length<=900:=by rw[e1];exact ZT countP_le_length hvl
   have l8:("between " : Str).length=8:=by decide +kernel
   have lone:=q91 (n:=one) (W70 o0 o1) (W79 o0 o1)
   have loth:=q91 (n:=other) (W70 t0 t1) (W79 t0 t1)
   exists D3,us,rfl,.inl (SqL.of e3)
   exists _,_,rfl,rfl,q1 _ (by decide +kernel),_,_,rfl,rfl,q2 _ (by decide +kernel),_,rfl,lg60 (W69 o0 o1) (W78 o0 o1),_,_,rfl,rfl,q3 _ one (by decide +kernel) ∅ ∅
   refine⟨_,_,rfl,rfl,sl51 (by show((("between " : Str)++tG ts ++ " ")++tx one).length+_<=_;rw[q93,q93,q93];lia),_,rfl,lg60 (W69 t0 t1) (W78 t0 t1),_,_,rfl,rfl,sl51 (by show((("between " : Str)++tG ts ++ " ")++tx one ++ " ").length+(tx other).length<=_;rw[q93,q93,q93,q93];lia),_,rfl,lg60 (W163 e1 hul) (W165 e1 hul),szb rfl,fun pp hpp=>?_⟩
   refine q pp _ _ _ (aG.k.trans ((Keep.same e2).trans (Keep.new hpp _))) ((aG.p.same e2).new hpp _) q13 ?_
   have:=A.between ⟨o0,o1⟩ ⟨t0,t1⟩ (sy2 (pre := "between ") (by decide +kernel))
   rw[<- e1]at this
   exact this
 refine⟨rfl,ite2 (fun c=>?_) (fun c=>y10 _ _ (q42 fun N11 y11=>?_))⟩
 ·exists _,_,rfl,rfl,q1 _ (by decide +kernel),_,_,rfl,rfl,q2 _ (by decide +kernel),_,rfl,lg60 (W69 o0 o1) (W78 o0 o1),_,_,rfl,rfl,q3 _ one (by decide +kernel) (W70 o0 o1) (W79 o0 o1)
  refine⟨ol,rfl,⟨_,SqL.of aG.ho⟩,fun D3 hD3=>?_⟩
  refine q68 (K:=K) (xs:=os) (sl51 (W167 hol hpl)) (fun i us G2=>PsAt G2 us ((ps.take i).filter fun p=>decide (one<p.1))/\us.length<=i/\Same G G2/\G2 D3=some (.lst us)) ⟨q509,ZF _,q16 hD3 _,q13⟩ (fun i us G2 ⟨_,_,e,_⟩=>e.seq (SqL.of aG.ho)) (fun i us G2 ⟨_,e1,_,e3⟩=>⟨e3,e1⟩) ?_ ?_
  ·rintro i x us G2 hx ⟨e0,e1,e2,e3⟩
   have hi:=(List.getElem?_eq_some_iff.mp hx).1
   obtain⟨p,hp,a,rfl,ha⟩:=aG.hp.get hx
   have et:ps.take (i+1)=ps.take i++[p]:=by rw[WK,hp];rfl
   rw[et]
   refine⟨_,_,SqT.of (e2 _ _ ha),rfl,ite2 (fun c=>?_) (fun c=>?_)⟩
   ·have tk:TKeep G2 (upd G2 D3 (.lst (us++[.ref a]))):=TKeep.set e3
    refine⟨e3,?_,by rw[ZM];exact Nat.succ_le_succ e1,Same.own e2 hD3,q13⟩
    rw[YW,filter_cons_of_pos (p:=fun p:Int×Int=>decide (one<p.1)) c,filter_nil]
    exact(ps_tk e0 tk).app (q372 (CtV.tk (o:=some p) ⟨a,rfl,e2 _ _ ha⟩ tk))
   ·refine⟨_,(W2 hi),rfl,(W36 hi),?_,(W25 e1),e2,e3⟩
    rw[YW,filter_cons_of_neg (p:=fun p:Int×Int=>decide (one<p.1)) c,filter_nil,append_nil]
    exact e0
  ·rintro us G2 ⟨e0,e1,e2,e3⟩
   rw[hol,WS]at e0
   refine⟨_,rfl,D3,us,rfl,SqL.of e3,fun p4 hp4=>?_⟩
   rw[cut_1]
   refine⟨p4,_,_,rfl,SqL.of q13,ps_take (e0.same (q16 hp4 _)) 1,fun p hp=>hsb p (List.mem_filter.mp (YG hp)).1,by rw[WL];lia,fun G4 s4=>⟨szb rfl,fun pp hpp=>?_⟩⟩
   refine q pp _ _ _ (aG.k.trans ((Keep.same ((e2.trans (q16 hp4 _)).trans s4)).trans (Keep.new hpp _))) ((aG.p.same ((e2.trans (q16 hp4 _)).trans s4)).new hpp _) q13 ?_
   rw[lT_one]
   exact A.up ⟨o0,o1⟩ (sy1 (pre := "up ") (by decide +kernel))
 refine⟨rfl,ite2 (fun c=>?_) (fun c=>y11 _ _ (q42 fun N12 y12=>?_))⟩
 ·exists _,_,rfl,rfl,q1 _ (by decide +kernel),_,_,rfl,rfl,q2 _ (by decide +kernel),_,rfl,lg60 ∅ ∅,_,_,rfl,rfl,q3 _ one (by decide +kernel) ∅ ∅
  refine⟨ol,rfl,⟨_,SqL.of aG.ho⟩,fun D3 hD3=>?_⟩
  refine q68 (K:=K) (xs:=os) (sl51 ∅) (fun i us G2=>PsAt G2 us ((ps.take i).filter fun p=>decide (p.1<one))/\us.length<=i/\Same G G2/\G2 D3=some (.lst us)) ⟨q509,ZF _,q16 hD3 _,q13⟩ (fun i us G2 ⟨_,_,e,_⟩=>e.seq (SqL.of aG.ho)) (fun i us G2 ⟨_,e1,_,e3⟩=>⟨e3,e1⟩) ?_ ?_
  ·rintro i x us G2 hx ⟨e0,e1,e2,e3⟩
   have hi:=(List.getElem?_eq_some_iff.mp hx).1
   obtain⟨p,hp,a,rfl,ha⟩:=aG.hp.get hx
   have et:ps.take (i+1)=ps.take i++[p]:=by rw[WK,hp];rfl
   rw[et]
   refine⟨_,_,SqT.of (e2 _ _ ha),rfl,ite2 (fun c=>?_) (fun c=>?_)⟩
   ·have tk:TKeep G2 (upd G2 D3 (.lst (us++[.ref a]))):=TKeep.set e3
    refine⟨e3,?_,by rw[ZM];exact Nat.succ_le_succ e1,Same.own e2 hD3,q13⟩
    rw[YW,filter_cons_of_pos (p:=fun p:Int×Int=>decide (p.1<one)) c,filter_nil]
    exact(ps_tk e0 tk).app (q372 (CtV.tk (o:=some p) ⟨a,rfl,e2 _ _ ha⟩ tk))
   ·refine⟨_,∅,rfl,∅,?_,∅,e2,e3⟩
    rw[YW,filter_cons_of_neg (p:=fun p:Int×Int=>decide (p.1<one)) c,filter_nil,append_nil]
    exact e0
  ·rintro us G2 ⟨e0,e1,e2,e3⟩
   rw[hol,WS]at e0
   refine⟨_,rfl,_,rfl,D3,us,rfl,SqL.of e3,fun p4 hp4=>?_⟩
   rw[cut_l1,e0.1]
   refine⟨p4,_,_,rfl,SqL.of q13,ps_drop (e0.same (q16 hp4 _)) _,fun p hp=>hsb p (List.mem_filter.mp (mem_of_mem_drop hp)).1,by rw[length_drop];have:=length_filter_le (fun p:Int×Int=>decide (p.1<one)) ps;lia,fun G4 s4=>⟨szb rfl,fun pp hpp=>?_⟩⟩
   refine q pp _ _ _ (aG.k.trans ((Keep.same ((e2.trans (q16 hp4 _)).trans s4)).trans (Keep.new hpp _))) ((aG.p.same ((e2.trans (q16 hp4 _)).trans s4)).new hpp _) q13 ?_
   rw[q790,lT_opt]
   exact A.down ⟨o0,o1⟩ (sy1 (pre := "down ") (by decide +kernel))
 refine⟨rfl,ite2 (fun c=>?_) (fun c=>y12 _ _ (q42 fun N13 y13=>?_))⟩
 ·refine⟨_,_,rfl,rfl,q1 _ (by decide +kernel),ol,os,ps,rfl,SqL.of aG.ho,aG.hp,(W152 hol hpl),fun l4 ys4 G2 s2 hl4 hp4=>?_⟩
  refine⟨l4,ys4,_,rfl,SqL.of hl4,hp4,fun p hp=>hsb p (best_mm hp),by cases ps.foldl bstep none <;> exact YB rfl,fun G3 s3=>⟨szb rfl,fun pp hpp=>?_⟩⟩
  refine q pp _ _ _ (aG.k.trans ((Keep.same (s2.trans s3)).trans (Keep.new hpp _))) ((aG.p.same (s2.trans s3)).new hpp _) q13 ?_
  rw[lT_opt]
  exact A.most (sy0 (pre := "most ") (by decide +kernel))
 refine⟨rfl,ite2 (fun c=>?_) (fun c=>y13 _ _ (q42 fun N14 y14=>?_))⟩
 ·refine⟨pen,6,rfl,aG.p,{},{},fun v G1 k1 P1 v0 v1=>?_⟩
  have a1:=aG.pk k1 P1
  refine⟨l,zs,rfl,.inl (SqL.of a1.hl),_,_,rfl,szb rfl,fun p2 hp2'=>?_⟩
  refine⟨pen,2,rfl,a1.p.new hp2' _,{},{},fun cc G3 k3 P3 c0 c1=>?_⟩
  obtain⟨part,hm,hpt⟩:=q94 (l:=[1+v,if(zs.length:Int) > 1 then(zs.length:Int)else 1]) c0 c1
  have hp1:1<=part/\part<=1000:=by
   simp only[mem_cons,not_mem_nil,or_false]at hm
   rcases hm with rfl | rfl
   ·lia
   ·split <;> lia
  exists _,_,SqL.of (k3 _ _ (a1.p.fresh hp2') q13),hpt
  have a3:=(a1.same (q16 hp2' _)).pk k3 P3
  refine⟨ol,rfl,⟨_,SqL.of a3.ho⟩,fun D3 hD3=>?_⟩
  refine q68 (K:=K) (xs:=os) (sl51 (W167 hol hpl)) (fun i us G2=>PsAt G2 us ((ps.take i).filter fun p=>decide ((vs.length:Int)<p.2*part))/\us.length<=i/\Same G3 G2/\G2 D3=some (.lst us)) ⟨q509,ZF _,q16 hD3 _,q13⟩ (fun i us G2 ⟨_,_,e,_⟩=>e.seq (SqL.of a3.ho)) (fun i us G2 ⟨_,e1,_,e3⟩=>⟨e3,e1⟩) ?_ ?_
  ·rintro i x us G2 hx ⟨e0,e1,e2,e3⟩
   have hi:=(List.getElem?_eq_some_iff.mp hx).1
   obtain⟨p,hp,a,rfl,ha⟩:=a3.hp.get hx
   have et:ps.take (i+1)=ps.take i++[p]:=by rw[WK,hp];rfl
   rw[et]
   exists _,_,SqT.of (e2 _ _ ha),rfl,_,_,rfl,rfl,.inr ⟨∅,∅⟩,l,zs,rfl,.inl (e2.seq (SqL.of a3.hl))
   rw[hzl]
   refine ite2 (fun c=>?_) (fun c=>?_)
   ·have tk:TKeep G2 (upd G2 D3 (.lst (us++[.ref a]))):=TKeep.set e3
    refine⟨e3,?_,by rw[ZM];exact Nat.succ_le_succ e1,Same.own e2 hD3,q13⟩
    rw[YW,filter_cons_of_pos (p:=fun p:Int×Int=>decide ((vs.length:Int)<p.2*part)) c,filter_nil]
    exact(ps_tk e0 tk).app (q372 (CtV.tk (o:=some p) ⟨a,rfl,e2 _ _ ha⟩ tk))
   ·refine⟨_,(W2 hi),rfl,(W36 hi),?_,(W25 e1),e2,e3⟩
    rw[YW,filter_cons_of_neg (p:=fun p:Int×Int=>decide ((vs.length:Int)<p.2*part)) c,filter_nil,append_nil]
    exact e0
  ·rintro us G2 ⟨e0,e1,e2,e3⟩
   rw[hol,WS]at e0
   exists _,_,rfl,rfl,q1 _ (by decide +kernel),_,_,rfl,rfl,q2 _ (by decide +kernel),_,rfl,lg60 ∅ ∅,_,_,rfl,rfl,q3 _ part (by decide +kernel) ∅ ∅
   refine⟨D3,us,_,rfl,SqL.of e3,e0,fun p hp=>hsb p (List.mem_filter.mp hp).1,ZT (length_filter_le ..) (W152 hol hpl),fun G4 s4=>⟨szb rfl,fun pp hpp=>?_⟩⟩
   refine q pp _ _ _ (a3.k.trans ((Keep.same (e2.trans s4)).trans (Keep.new hpp _))) ((a3.p.same (e2.trans s4)).new hpp _) q13 ?_
   exact A.often hp1.1 hp1.2 (sy1 (pre := "often ") (by decide +kernel))
 refine⟨rfl,ite2 (fun c=>?_) (fun c=>y14 _ _ ?_)⟩
 ·obtain⟨t0',ts',ets⟩:∃ t ts',ts=t::ts':=by
   cases ts with
   | nil=>cases ht0
   | cons t r=>exact⟨t,r,rfl⟩
  have g0:ts[0]? = some t0':=by rw[ets];rfl
  obtain⟨y0,ys',eys⟩:∃ y ys',ys=y::ys':=by
   cases hys:ys with
   | nil=>have:=aG.hT.1;rw[hys]at this;have:0=ts.length:=this;lia
   | cons t r=>exact⟨t,r,rfl⟩
  have gy:ys[0]? = some y0:=by rw[eys];rfl
  obtain⟨pp0,rfl,hpp0⟩:=aG.hT.2 0 y0 t0' gy g0
  obtain⟨ns,n1,n2,n3⟩:=hok t0' (ZV g0)
  obtain⟨ras,hra,hrl,hrE⟩:=aG.r
  obtain⟨r,gr',hr1⟩:=hrE t0'.1 ns n1
  have hnl:=hr100 ns (ZV n1)
  exists ys,_,SqL.of aG.hD,q41 gy,pp0,_,rfl,SqT.of hpp0,rfl,_,_,rfl,_,_,rfl,_,_,rfl,rfl
  refine⟨_,rfl,D,ys,rfl,SqL.of aG.hD,fun p4 hp4=>?_⟩
  have hfl:("falls " : Str).length=6:=by decide +kernel
  have hpl:=q367 (hsm t0' (ZV g0))
  rw[cut_1,show ys.take 1=[.ref pp0] by rw[eys];rfl]
  refine⟨p4,_,[t0'],rfl,SqL.of q13,ts_one (q16 hp4 _ _ _ hpp0),YB rfl,fun t ht=>?_,fun G2 s2=>?_⟩
  ·rw[List.mem_singleton.mp ht]
   exact hsm _ (ZV g0)
  have s42:=(q16 hp4 (.lst [.ref pp0])).trans s2
  exists _,_,rfl,rfl,sl51 (by show _+(tP t0').length<=_;lia)
  refine⟨_,_,SqL.of (s42 _ _ hra),q41 (by rw[WE,gr'];rfl),_,rfl,_,rfl,r,_,rfl,SqL.of (s42 _ _ hr1),fun p5 hp5=>?_⟩
  rw[cut_seg _ _ _ n2 n3]
  have hsl5:(segI ns t0'.2.1 t0'.2.2).length<=100:=by rw[q541 n3];lia
  refine⟨p5,segI ns t0'.2.1 t0'.2.2,rfl,SqL.of q13,hsl5,fun G3 s3=>?_⟩
  have hfa:=fa_le (segI ns t0'.2.1 t0'.2.2).reverse
  rw[length_reverse]at hfa
  have hmm:=Nat.mul_le_mul hsl5 hsl5
  refine⟨_,rfl,lg60 ∅ ∅,szb rfl,fun pp hpp=>?_⟩
  exact q pp _ _ _ (aG.k.trans ((Keep.same ((s42.trans (q16 hp5 _)).trans s3)).trans (Keep.new hpp _))) ((aG.p.same ((s42.trans (q16 hp5 _)).trans s3)).new hpp _) q13 (q789 hW n1 n2 n3)
 exists _,_,rfl,rfl,q1 _ (by decide +kernel),_,_,rfl,rfl,q2 _ (by decide +kernel),_,rfl,lg60 ∅ ∅,_,_,rfl,rfl,q3 _ one (by decide +kernel) ∅ ∅
 refine⟨l,rfl,⟨_,SqL.of aG.hl⟩,fun D3 hD3=>?_⟩
 refine q68 (K:=K) (xs:=zs) (sl51 ∅) (fun i us G2=>us.length=(vs.take i).countP (fun x=>decide (x.1<one))/\Same G G2/\G2 D3=some (.lst us)) ⟨rfl,q16 hD3 _,q13⟩ (fun i us G2 ⟨_,e,_⟩=>e.seq (SqL.of aG.hl)) (fun i us G2 ⟨e1,_,e3⟩=>⟨e3,by rw[e1];exact ZT countP_le_length (by rw[WL];exact Nat.min_le_left _ _)⟩) ?_ ?_
 ·rintro i x us G2 hx ⟨e1,e2,e3⟩
  have hi:=(List.getElem?_eq_some_iff.mp hx).1
  obtain⟨t,ht,p',rfl,hp'⟩:=q216 (q75 (.same e2) aG.hz) hx
  have et:vs.take (i+1)=vs.take i++[t]:=by rw[WK,ht];rfl
  rw[et]
  refine⟨_,_,hp',rfl,ite2 (fun c2=>?_) (fun c2=>⟨_,∅,rfl,∅,?_,e2,e3⟩)⟩
  ·refine⟨e3,?_,Same.own e2 hD3,q13⟩
   rw[YX,countP_cons_of_pos (p:=fun x:TS.I3=>decide (x.1<one)) c2,ZM,e1]
   rfl
  ·rw[YX,countP_cons_of_neg (p:=fun x:TS.I3=>decide (x.1<one)) c2,e1]
   rfl
 ·rintro us G2 ⟨e1,e2,e3⟩
  rw[hzl,WS]at e1
  have hul:us.length<=900:=by rw[e1];exact ZT countP_le_length hvl
  refine⟨D3,us,rfl,.inl (SqL.of e3),_,rfl,lg60 (W163 e1 hul) (W165 e1 hul),szb rfl,fun pp hpp=>?_⟩
  refine q pp _ _ _ (aG.k.trans ((Keep.same e2).trans (Keep.new hpp _))) ((aG.p.same e2).new hpp _) q13 ?_
  have:=A.below ⟨o0,o1⟩ (sy1 (pre := "below ") (by decide +kernel))
  rw[<- e1]at this
  exact this
def RefL(H:Hp)(k:Addr):Prop:=∃(p:Addr)(es:List V),H k=some (.lst (.ref p::es))
theorem RefL.tup(h:RefL H k)(e:H a=some (.tup xs)):a≠k:=by
 obtain⟨p,es,h⟩:=h
 exact ne_of e h (by intro z;cases z)
theorem RefL.frz(h:RefL H k)(e:H a=some (.frz o u)):a≠k:=by
 obtain⟨p,es,h⟩:=h
 exact ne_of e h (by intro z;cases z)
theorem RefL.ints{l:List Int}(h:RefL H k)(e:H a=some (.lst (l.map V.int))):a≠k:=by
 obtain⟨p,es,h⟩:=h
 refine ne_of e h ?_
 intro z
 cases l with
 | nil=>cases z
 | cons a l=>simp at z
theorem RefL.of{rs:LL}(h:RwsAt H l rs)(hn:0<rs.length):RefL H l:=by
 obtain⟨ras,e1,e2,_⟩:=h
 cases ras with
 | nil=>exact absurd e2 (by show ¬ 0=rs.length;lia)
 | cons p es=>exact⟨p,es.map V.ref,e1⟩
theorem RwsAt.same(h:RwsAt H l rs)(s:Same H H'):RwsAt H' l rs:=by
 obtain⟨ras,e1,e2,e3⟩:=h
 refine⟨ras,s _ _ e1,e2,fun j r g=>?_⟩
 obtain⟨ra,g1,g2⟩:=e3 j r g
 exact⟨ra,g1,s _ _ g2⟩
theorem RwsAt.snoc{rs:LL}{r:List Int}{ras:List Addr}(h:RwsAt H l rs)(e:H l=some (.lst (ras.map V.ref)))(hr:H ra=some (.lst (r.map V.int)))(hn:0<rs.length)(k:Keep l H H')(h':H' l=some (.lst (ras.map V.ref++[.ref ra]))):RwsAt H' l (rs++[r]):=by
 have R:=RefL.of h hn
 obtain⟨ras',e1,e2,e3⟩:=h
 have he:ras'=ras:=by
  rw[e]at e1
  have:=HO.lst.inj (Option.some.inj e1)
  exact(List.map_inj_right (fun a b h=>by injection h)).mp this.symm
 subst he
 refine⟨ras'++[ra],by rw[WF];exact h',by rw[ZM,ZM,e2];rfl,fun j r1 g=>?_⟩
 by_cases hj:j<rs.length
 ·rw[WO hj]at g
  obtain⟨ra1,g1,g2⟩:=e3 j r1 g
  exact⟨ra1,by rw[WO ∅];exact g1,k _ _ (R.ints g2) g2⟩
 ·have hj':j=rs.length:=by
   have:=(List.getElem?_eq_some_iff.mp g).1
   rw[ZM]at this
   have t2:j<rs.length+1:=this
   lia
  subst hj'
  rw[WM (ZF _),Nat.sub_self]at g
  obtain rfl:r=r1:=Option.some.inj g
  exact⟨ra,by rw[WM (W181 e2),show rs.length-ras'.length=0 by exact W44 e2];rfl,k _ _ (R.ints hr) hr⟩
theorem q621{α:Type}{l:List α}{j:Nat}{x y:α}(h:l[j]? = some x):(l++[y])[j]? = some x:=by
 rw[WO (List.getElem?_eq_some_iff.mp h).1]
 exact h
theorem StOk.grow(r:List Int)(h:StOk rs p):StOk (rs++[r]) p:=by
 obtain⟨t,g,h1⟩:=h
 exact⟨t,q621 g,h1⟩
theorem q622{low:Int}{L:Nat}(r:List Int)(h:StOk rs p):gOf low L (rs++[r]) p=gOf low L rs p:=by
 obtain⟨t,g,h1⟩:=h
 unfold gOf
 rw[WT,WT,q621 g,g]
theorem q791{low:Int}{L:Nat}{ps:List P3}(r:List Int)(h:∀ p∈ps,StOk rs p):ps.map (gOf low L (rs++[r]))=ps.map (gOf low L rs):=map_congr_left fun p hp=>q622 r (h p hp)
theorem AskOk.grow{low:Int}{L:Nat}(r:List Int)(h:AskOk low L rs y t):AskOk low L (rs++[r]) y t:=by
 rcases h with ⟨p,h1,h2,h3⟩ | ⟨nm,ps,ns,h1,h2,h3,h4,h5,h6⟩
 ·exact .inl ⟨p,h1,h2.grow r,by rw[q622 r h2];exact h3⟩
 ·exact .inr ⟨nm,ps,ns,h1,h2,h3,fun p hp=>(h4 p hp).grow r,by rw[q791 r h4];exact⟨h5,h6⟩⟩
theorem RwsAt.ka(h:RwsAt H l rs)(s:Keep k H H')(hk:RefL H k)(n:l≠k):RwsAt H' l rs:=by
 obtain⟨ras,e1,e2,e3⟩:=h
 refine⟨ras,s _ _ n e1,e2,fun j r g=>?_⟩
 obtain⟨ra,g1,g2⟩:=e3 j r g
 exact⟨ra,g1,s _ _ (hk.ints g2) g2⟩
theorem Scr.ka(h:Scr K H a xs)(s:Keep k H H')(hk:RefL H k):Scr K H' a xs:=by
 rcases h with ⟨o,h⟩ | h
 ·exact .inl ⟨o,s _ _ (hk.frz h) h⟩
 ·exact .inr h
theorem Mks.rf{low:Int}{L:Nat}{rs:LL}(M:Mks C H x ka b low L rs cs)(h:0<rs.length):RefL H ka:=M.first h
theorem row_say(ns:List Int):Txt.join " " (("row" : Str)::ns.map tx)=sayT "row" (ns.map Vl.n):=by
 rw[show(" " : Str)=⟨#[32]⟩ by decide +kernel,q311]
 show _=Str.join ⟨#[32]⟩ ("row" :: (ns.map Vl.n).map Vl.wd)
 rw[map_map]
 rfl
theorem row_sayl(n:Int):("row " : Str)++tx n=sayT "row" ([n].map Vl.n):=by
 rw[show("row " : Str) = "row" ++ ⟨#[32]⟩ by decide +kernel]
 rfl
noncomputable def Asd(low:Int)(L:Nat)(rs:LL)(us:List V)(G:Hp):Prop:=∀ u∈us,∃ pp y t,u = .ref pp/\G pp=some (.tup [.str y,.str t])/\AskOk low L rs y t
structure Lw(K:Fg)(C M:Addr)(a pen b d x ka rl:Addr)(scs:List Int)(low:Int)(L:Nat)(ds rs cs:LL)(G:Hp):Prop where
 s:Scr K G a (scs.map V.int)
 p:PenM G pen
 D:Dsk C M G d x ka b low L ds cs
 R:RwsAt G rl rs
 nk:rl≠ka
 pos:0<rs.length
 dpos:0<ds.length
theorem Lw.same{K:Fg}{C M:Addr}{a pen b d x ka rl:Addr}{scs:List Int}{low:Int}{L:Nat}{ds rs cs:LL}{G G':Hp}(h:Lw K C M a pen b d x ka rl scs low L ds rs cs G)(s:Same G G'):Lw K C M a pen b d x ka rl scs low L ds rs cs G':=
 ⟨h.s.same s,h.p.same s,h.D.same s,h.R.same s,h.nk,h.pos,h.dpos⟩
theorem Lw.pen'{K:Fg}{C M:Addr}{a pen b d x ka rl q:Addr}{scs:List Int}{low:Int}{L:Nat}{ds rs cs:LL}{G G':Hp}(h:Lw K C M a pen b d x ka rl scs low L ds rs cs G)(k:Keep q G G')(P:PenM G q)(n:q≠pen):Lw K C M a pen b d x ka rl scs low L ds rs cs G':=by
 obtain⟨xs,hx⟩:=P.at
 exact⟨h.s.keep k hx,h.p.keep n k,h.D.keep k hx (h.D.m.pen h.dpos P),h.R.kp P k,h.nk,h.pos,h.dpos⟩
theorem Lw.pen{K:Fg}{C M:Addr}{a pen b d x ka rl:Addr}{scs:List Int}{low:Int}{L:Nat}{ds rs cs:LL}{G G':Hp}(h:Lw K C M a pen b d x ka rl scs low L ds rs cs G)(k:Keep pen G G')(P':PenM G' pen):Lw K C M a pen b d x ka rl scs low L ds rs cs G':=by
 obtain⟨xs,hx⟩:=h.p.at
 exact⟨h.s.keep k hx,P',h.D.keep k hx (h.D.m.pen h.dpos h.p),h.R.kp h.p k,h.nk,h.pos,h.dpos⟩
theorem Lw.made{K:Fg}{C M:Addr}{a pen b d x ka rl:Addr}{scs:List Int}{low:Int}{L:Nat}{ds rs cs:LL}{r c:List Int}{G G':Hp}(h:Lw K C M a pen b d x ka rl scs low L ds rs cs G)(k:Keep ka G G')(D':Dsk C M G' d x ka b low L (ds++[r]) (cs++[c])):Lw K C M a pen b d x ka rl scs low L (ds++[r]) rs (cs++[c]) G':=by
 have R:=h.D.m.rf h.dpos
 obtain⟨es,hes,-⟩:=h.D.m.hk
 exact⟨h.s.ka k R,h.p.keep (h.D.m.pen h.dpos h.p) k,D',h.R.ka k R h.nk,h.nk,h.pos,by rw[ZM];exact WG h.dpos (Nat.le_add_right _ _)⟩
noncomputable abbrev k_law:Nat:=60
abbrev sp_law(K:Fg):Sp:=spLaw K
theorem ok_law(z:Bz K mg uA uB uC uD uE uF uG uH):∀(f:Addr)(fd:FuncData),Fun K "law" "law" s_law f fd->FnOk P w K mg base CX0 k_law f fd ["_law_script"] (sp_law K):=by
 have sc:=sc_law
 intro f fd F
 refine F.ok sc (fun _ _ _ _ ⟨_,_,e,_⟩=>by rw[e];rfl) fun _ _ _ s H _ Q _ hr h=>?_
 obtain⟨a,scs,rfl,hS,h63,hO,q⟩:=h
 refine⟨_,(q11 (pst 1 sc.nd (pe_fn (q173 z) hr.m () (q10 (pr 0) (q10 q14 q12))))
 (q11 (pst 2 sc.nd (pe_fn (q326 z) hr.m () (q10 (pr 1) q12)))
 (q11 (pst 3 sc.nd (pe_mk (q777 z) hr.m () z.m_Desk (q10 (pr 2) q12)))
 (q11 (pst 4 sc.nd (q40 (q10 (q40 q12) q12)))
 (q11 (q69 PassesOwn.never rfl (q47 rfl z.range_ (q10 (pe_op q106 q14 (pe_fn (q25 z) hr.m () (q10 (pr 1) (q10 q14 q12)))) q12)) (pgn 5 sc.nd)
 (q11 (q97 (pe_bm YF YM YN q71 (pr 4) (q10 (pe_fn (q543 z) hr.m () (q10 (pe_fn (q173 z) hr.m () (q10 (pr 0) (q10 (pe_op q106 q14 (pr 5)) q12))) (q10 (pr 2) (q10 (pix q89 (q40 (q10 q14 (q10 q14 q12))) (q29 q690 () z.int_ bt_int (q10 (q518 op_eq (pe_fn (q25 z) hr.m () (q10 (pr 1) (q10 q14 q12))) q14 (q21 _)) q12))) q12)))) q12)))
 (q15 (ps_if (q45 op_ne (q122 (q421 z) hr.m (pr 3) (q10 (pe_bm WW YO YQ q130 q23 (q10 (pe_op q699 (q40 (q10 q23 q12)) (q63 (cl:=[]) (cn:=[]) (N:=[]) (fr:=[]) (sc0:=q17 s_law) rfl (q35 (pix q89 (pr 4) (pe_un un_neg q14))) (fun C s₂ H₂ fp=>(q29 q27 () z.str_ q62 (q10 (pr 0) q12))) (by ac_rfl) trivial rfl rfl rfl cok rfl)) q12)) q12)) (q29 q27 () z.str_ q62 (q10 (pe_op q345 (pln z.len_ (q10 (pr 4) q12)) q14) q12)) (q21 _))
 (q15 (q18 pe_bl))
 q20))))
 (q11 (q204 (i:=6) (cl:=[("_law_script", s.heap.objs.size+1+0),("_law_rows", s.heap.objs.size+1+2),("_law_bounds_here", s.heap.objs.size+1+1)]) (cn:=["_law_script", "_law_rows", "_law_bounds_here"]) (N:=["_law_bounds_here", "_law_rows", "_law_script"]) (fr:=[2,4,0]) (sc0:=q17 s_law) sc.nd rfl (Or.inl rfl) rfl (q47 rfl z.range_ (q10 q14 q12)) (fun C s₂ H₂ fp=>(pe_fn (q430 z) hr.m () (q10 (pe_fn (q173 z) hr.m () (q10 (pr 3) (q10 (pe_op q106 q14 (pr 0)) q12))) (q10 (pr 1) (q10 (pr 2) q12))))) (by ac_rfl) ⟨by ac_rfl,by ac_rfl,by ac_rfl,trivial⟩ rfl rfl rfl cok rfl (by ac_rfl) (.inl rfl))
 (q11 (q69 PassesOwn.never rfl (q47 rfl z.range_ (q10 q14 q12)) (pgn 7 sc.nd)
 (q11 (q69 PassesOwn.never rfl (q35 (pr 6)) (q217 rfl (q33 (pgn 8 sc.nd) (q33 (pgn 9 sc.nd) q87)))
 (q11 (pst 10 sc.nd (q122 (q421 z) hr.m (pr 3) (q10 (pr 8) q12)))
 (q15 (ps_if (PW.pt (pw_or (q332 (q331 (q38 q382 () z.isinstance_ q113 (q10 (pr 10) (q10 (q517 (v:=.ty "str") (u:=.type "str") () z.str_ q62 rfl) q12))))) (q127 (q45 op_ne (pr 10) (pr 9) (q21 _)))))
 (q15 (q18 pe_bl))
 q20))))
 (q15 (ps_if (q45 op_ne (q122 (q421 z) hr.m (pr 3) (q10 (pe_op q26 q23 (q29 q27 () z.str_ q62 (q10 (pix q131 (pr 2) q14) q12))) q12)) (q29 q27 () z.str_ q62 (q10 (pe_op q106 (pln z.len_ (q10 (pr 4) q12)) (pr 7)) q12)) (q21 _))
 (q15 (q18 pe_bl))
 q20))))
 (q15 (q18 pe_bl))))))))),?_⟩
 have S0:Scr K H a (scs.map V.int):=Scr.of hS hO
 refine⟨a,scs,0,rfl,hS,h63,{},{},fun pen H1 hpen s1 P1=>?_⟩
 have S1:=S0.same s1
 refine⟨pen,rfl,P1,fun b low L H2 k2 P2 hb hL lo0 lo1=>?_⟩
 have S2:=P1.scr k2 S1
 have hp2:=p2pos L
 have hq2:=p2le hL
 clear S0 S1 s1 k2 P1 hpen hS hO
 refine fun d di hd hdi hne=>?_
 have s8:Same H2 (upd (upd H2 di (.own d)) d (.ins uH di [])):=(q16 hdi _).trans (q16 (by rw[q28 (Ne.symm hne)];exact hd) _)
 refine⟨d,b,di,low,L,rfl,q13,s8 _ _ hb,hL,∅,∅,fun x ka H9 hka k9 D9=>⟨rfl,?_⟩⟩
 have s9:Same H2 H9:=fun c o hc=>k9 _ _ (q24 hc hd) (s8 _ _ hc)
 refine⟨szb rfl,fun ia hia=>⟨szb rfl,fun rl hrl=>?_⟩⟩
 have sA:=(q16 hia (.lst [])).trans (q16 hrl (.lst [.ref ia]))
 have eA:upd (upd H9 ia (.lst [])) rl (.lst [.ref ia]) rl=some (.lst [.ref ia]):=q13
 have eB:upd (upd H9 ia (.lst [])) rl (.lst [.ref ia]) ia=some (.lst []):=q16 hrl _ _ _ q13
 have hrk:rl≠ka:=by
  obtain⟨es,hes,-⟩:=D9.m.hk
  exact Ne.symm (q24 (q16 hia (.lst []) _ _ hes) hrl)
 generalize upd (upd H9 ia (.lst [])) rl (.lst [.ref ia])=HA at sA eA eB ⊢
 have T0:Lw K uH uG a pen b d x ka rl scs low L [[]] [[]] [[]] HA:=by
  refine⟨(S2.same s9).same sA,(P2.same s9).same sA,D9.same sA,⟨[ia],eA,rfl,fun j r g=>?_⟩,hrk,{},{}⟩
  match j,g with
  | 0,g=>cases g;exact⟨ia,rfl,eB⟩
 clear s8 s9 sA eA eB hrk D9 k9 hka hd hdi hne hia hrl S2 P2 hb
 refine⟨pen,4,rfl,T0.p,{},{},fun n G0 k0 P0 n0 n1=>?_⟩
 have T1:=T0.pen k0 P0
 refine⟨_,rfl,∅,∅,q70 (n:=(1+n).toNat) (fun i σ G=>∃(rs cs:LL)(v5:Option V),σ=[some (.ref a),some (.ref pen),some (.ref b),some (.ref d),some (.ref rl),v5,none,none,none,none,none]/\Lw K uH uG a pen b d x ka rl scs low L rs rs cs G/\rs.length=i+1 /\ ∀ r∈rs,Wths low L r/\r.length<=100) ⟨[[]],[[]],_,rfl,T1,rfl,fun r hr=>?_⟩ ?_ ?_⟩
 ·rw[List.mem_singleton.mp hr]
  exact⟨fun _ z=>(by cases z),ZX _⟩
 ·rintro i σ G hi ⟨rs,cs,v5,rfl,T,hn,h100⟩
  have hi5:i<5:=∅
  obtain⟨ras,el,hras,hrE⟩:=id T.R
  refine⟨.inl ⟨rfl,_,SqL.of el⟩,a,scs,_,rfl,T.s.sq,h63,(W215 hras hi5 hn),(W217 hras hi5 hn),fun p G1 hp t1 Pp=>?_⟩
  have T1:=T.same t1
  have npp:p≠pen:=T.p.fresh hp
  refine⟨szb rfl,fun p2 hp2=>?_⟩
  refine⟨pen,8,rfl,T1.p.new hp2 _,{},{},fun v G2 k2 P2 v0 v1=>⟨rfl,.inr ⟨_,rfl,?_⟩⟩⟩
  have T2:=(T1.same (q16 hp2 _)).pen k2 P2
  have Pp2:PenM G2 p:=(Pp.new hp2 _).keep (Ne.symm npp) k2
  obtain⟨g,hg,g0,g1⟩:∃ g:Int,atI [V.int 8,.int 30] (if decide (V.int v=V.int 3)=true then 1 else 0)=some (.int g)/\0<=g/\g<=60:=by
   split
   ·exact⟨30,rfl,{},{}⟩
   ·exact⟨8,rfl,{},{}⟩
  refine⟨_,_,SqL.of (k2 _ _ (T1.p.fresh hp2) q13),hg,p,b,low,g,L,rfl,Pp2,T2.D.m.hb,hL,g0,g1,fun r ns G3 k3 P3 hr hr0 hl hw=>?_⟩
  have T3:=T2.pen' k3 Pp2 npp
  obtain⟨ras3,el3,hras3,_⟩:=id T3.R
  exists rl,_,_,rfl,rfl,el3,by rw[ZK,hras3];exact q64 ∅
  have k4:Keep rl G3 (upd G3 rl (.lst (ras3.map V.ref++[.ref r]))):=Keep.set rl G3 _
  have R4:=T3.R.snoc el3 hr T.pos k4 q13
  have e4:=@q13 G3 rl (.lst (ras3.map V.ref++[.ref r]))
  generalize upd G3 rl (.lst (ras3.map V.ref++[.ref r]))=G4 at k4 R4 e4 ⊢
  have hr4:=k4 _ _ ((RefL.of T3.R T.pos).ints hr) hr
  have T4:Lw K uH uG a pen b d x ka rl scs low L rs (rs++[ns]) cs G4:=⟨T3.s.keep k4 el3,T3.p.keep (q784 T3.p el3) k4,T3.D.keep k4 el3 (Ne.symm T.nk),R4,T.nk,by rw[ZM];lia,T.dpos⟩
  obtain⟨di4,hd4⟩:=T4.D.o
  refine⟨d,di4,_,rfl,hd4,rfl,rfl,szb rfl,fun p5 hp5=>?_⟩
  obtain⟨G5,g5,s5,h5⟩:=nwH hp5 (.lst [.str "row"])
  rw[g5]
  have hbd:BdN ns:=fun m hm=>by
   have:=hw m hm
   lia
  have hnl:ns.length<=60:=∅
  refine⟨_,rfl,_,_,SqL.of (s5 _ _ e4),atI_last _ _,r,rfl,⟨_,SqL.of (s5 _ _ hr4)⟩,fun D hD=>q205 (K:=K) (xs:=ns.map V.int) (g:=gTx) (SqL.of (s5 _ _ hr4)) hD (by rw[ZK];exact sl51 ∅) ?_ ?_⟩
  ·rintro y hy G6 Q6 s6 q6
   obtain⟨m,hm,rfl⟩:=List.mem_map.mp hy
   have:=hbd m hm
   exact⟨m,rfl,lg60 (W28 this) (W33 this),q6⟩
  rw[q767]
  refine⟨p5,D,_,_,rfl,rfl,q16 hD _ _ _ h5,q13,sl51 (by rw[ZK,ZK];show 1+ns.length<=100000;lia),fun p6 hp6=>?_⟩
  have s6:=s5.trans ((q16 hD (.lst ((ns.map tx).map V.str))).trans (q16 hp6 (.lst ([V.str "row"]++(ns.map tx).map V.str))))
  have T6:=T4.same s6
  refine⟨" ", p6, "row" :: ns.map tx,rfl,rfl,SqL.of q13,jn_ok (by decide +kernel) (B:=51) (fun y hy=>?_) (by rw[WB,ZK];lia),d,x,ka,b,low,L,rs,cs,_,rfl,T6.D,.inr ⟨"row", ns,ns,[],row_say ns,∅,.row ns hw ∅,fun G7 k7 D7=>?_⟩⟩
  ·rcases List.mem_cons.mp hy with rfl | hy
   ·decide +kernel
   ·obtain⟨m,hm,rfl⟩:=List.mem_map.mp hy
    exact q91 (hbd m hm).1 (hbd m hm).2
  have T7:=T6.made k7 D7
  obtain⟨ras7,el7,hras7,_⟩:=id T7.R
  have hl7:(ras7.map V.ref).length=rs.length+1:=by rw[ZK,hras7,ZM];rfl
  refine⟨rl,_,rfl,.inl (SqL.of el7),_,rfl,lg60 (by rw[hl7];lia) (by rw[hl7];lia),rfl,iteNS (congrArg V.str ?_) ⟨rs++[ns],cs++[[]],_,rfl,T7,by rw[ZM];show rs.length+1=_;lia,fun r' hr'=>?_⟩⟩
  ·rw[hl7]
   show tx _=tx _
   congr 1
   lia
  ·rcases List.mem_append.mp hr' with h | h
   ·exact h100 r' h
   ·rw[List.mem_singleton.mp h]
    exact⟨hw,∅⟩
 ·rintro σ G ⟨rs,cs,v5,rfl,T,hn,h100⟩
  have hn5:rs.length<=5:=∅
  refine⟨_,rfl,{},{},fun D hD=>?_⟩
  refine q103 (lo:=0) (n:=12) (szb rfl) (fun j us G1=>us.length=j/\Same G G1/\G1 D=some (.lst us)/\Asd low L rs us G1) ⟨rfl,q16 hD _,q13,fun u hu=>by cases hu⟩ (fun j us G1 ⟨e1,_,e3,_⟩=>⟨e3,e1⟩) ?_ ?_
  ·rintro j us G1 hj ⟨e1,e2,e3,e4⟩
   have T1:=T.same e2
   refine⟨a,scs,_,rfl,T1.s.sq,h63,∅,∅,fun p G2 hp t2 Pp=>?_⟩
   have T2:=T1.same t2
   refine⟨p,b,rl,low,L,rs,rfl,Pp,T2.R,T2.D.m.hb,hL,lo0,lo1,T.pos,∅,h100,fun pp y t G3 k3 P3 hpp ask=>?_⟩
   have hD2:=t2 _ _ e3
   have hDp:D≠p:=q24 e3 hp
   have hD3:=k3 _ _ hDp hD2
   refine⟨hD3,by rw[ZM,e1];rfl,fun c o hc=>?_,q13,fun u hu=>?_⟩
   ·have n1:c≠D:=q24 hc hD
    rw[q28 n1]
    exact k3 _ _ (q24 (e2 _ _ hc) hp) (t2 _ _ (e2 _ _ hc))
   ·have tk:TKeep G3 (upd G3 D (.lst (us++[.ref pp]))):=TKeep.set hD3
    rcases List.mem_append.mp hu with h | h
    ·obtain⟨p1,y1,u1,r1,r2,r3⟩:=e4 u h
     exact⟨p1,y1,u1,r1,(tk _ _).1 (k3 _ _ (q24 r2 hp) (t2 _ _ r2)),r3⟩
    ·rw[List.mem_singleton.mp h]
     exact⟨pp,y,t,rfl,(tk _ _).1 hpp,ask⟩
  ·rintro us G1 ⟨e1,e2,e3,e4⟩
   have T1:=T.same e2
   refine⟨_,rfl,{},{},q70 (n:=2) (fun i σ G=>∃(ds cs:LL)(v7 v8 v9 v10:Option V),σ=[some (.ref a),some (.ref pen),some (.ref b),some (.ref d),some (.ref rl),v5,some (.ref D),v7,v8,v9,v10]/\Lw K uH uG a pen b d x ka rl scs low L ds rs cs G/\ds.length=rs.length+i/\G D=some (.lst us)/\D≠ka/\Asd low L ds us G) ⟨rs,cs,_,_,_,_,rfl,T1,rfl,e3,?_,e4⟩ ?_ ?_⟩
   ·obtain⟨es,hes,-⟩:=T.D.m.hk
    exact Ne.symm (q24 hes hD)
   ·rintro i σ G2 hi ⟨ds,cs,v7,v8,v9,v10,rfl,T2,hdl,hD2,nDk,as2⟩
    refine⟨D,rfl,⟨_,SqL.of hD2⟩,q174 (K:=K) (a:=D) (xs:=us) (fun j σ G3=>∃(w8 w9 w10:Option V),σ=[some (.ref a),some (.ref pen),some (.ref b),some (.ref d),some (.ref rl),v5,some (.ref D),some (.int (0+(i:Int))),w8,w9,w10]/\Same G2 G3) ⟨_,_,_,rfl,Same.refl _⟩ (fun j σ G3 _ ⟨_,_,_,_,s⟩=>s.seq (SqL.of hD2)) ?_ ?_⟩
    ·rintro j u σ G3 gu ⟨w8,w9,w10,rfl,s3⟩
     obtain⟨pp,y,t,rfl,hpp,ask⟩:=as2 u (ZV gu)
     have T3:=T2.same s3
     obtain⟨di3,hd3⟩:=T3.D.o
     exists pp,_,rfl,SqT.of (s3 _ _ hpp),rfl,_,_,rfl,_,_,rfl,rfl
     refine⟨d,di3,_,rfl,hd3,rfl,d,x,ka,b,low,L,ds,cs,y,rfl,T3.D,.inl ⟨t,ask,fun G4 s4=>?_⟩⟩
     exists _,_,_,true,rfl,.str _,rfl
     exact⟨true,rfl,iteF ⟨rfl,iteNS rfl ⟨_,_,_,rfl,s3.trans s4⟩⟩⟩
    ·rintro σ G3 ⟨w8,w9,w10,rfl,s3⟩
     have T3:=T2.same s3
     obtain⟨di3,hd3⟩:=T3.D.o
     have l4:("row " : Str).length=4:=by decide +kernel
     have ll:=q91 (n:=low) ∅ ∅
     refine⟨d,di3,_,rfl,hd3,rfl,_,_,SqT.of T3.D.m.hb,rfl,low,rfl,lg60 ∅ ∅,_,_,rfl,rfl,sl51 (by show _+(tx low).length<=_;lia),d,x,ka,b,low,L,ds,cs,_,rfl,T3.D,.inr ⟨"row", [low],[low],[],row_sayl low,∅,.row [low] (fun m hm=>by rw[List.mem_singleton.mp hm];lia) (YB rfl),fun G4 k4 D4=>?_⟩⟩
     have T4:=T3.made k4 D4
     obtain⟨ras4,el4,hras4,_⟩:=id T4.R
     have hl4:(ras4.map V.ref).length=rs.length:=by rw[ZK,hras4]
     have RK:=T3.D.m.rf T3.dpos
     refine⟨rl,_,rfl,.inl (SqL.of el4),_,rfl,lg60 (by rw[hl4];lia) (by rw[hl4];lia),rfl,iteNS (congrArg V.str ?_) ⟨ds++[[low]],cs++[[]],_,_,_,_,rfl,T4,by rw[ZM];show ds.length+1=_;lia,k4 _ _ nDk (s3 _ _ hD2),nDk,fun u hu=>?_⟩⟩
     ·rw[hl4]
      show tx _=tx _
      congr 1
      lia
     ·obtain⟨pp,y,t,r1,r2,r3⟩:=as2 u hu
      exact⟨pp,y,t,r1,k4 _ _ (RK.tup (s3 _ _ r2)) (s3 _ _ r2),r3.grow [low]⟩
   ·rintro σ G2 ⟨ds,cs,v7,v8,v9,v10,rfl,T2,_⟩
    exact q _
end My
open PySem PySem.W PyProof.Rows
set_option maxRecDepth 100000 in
set_option maxHeartbeats 0 in
theorem PySem.Challenge.cw_manyleast_k60_what_a_desk_is_asked_holds : PySem.Challenge.rw_manyleast_k60_what_a_desk_is_asked.Holds := by
 refine MyQ.hd ?_
 k_fill
 refine L2.walkL (k:=My.k_law) (l:=PySem.Challenge.rw_manyleast_k60_what_a_desk_is_asked) ⟨rfl,{},{}⟩ rfl rfl (fun w h Y=>PySem.W.km_in_of Y) ?F
 case F=>
  intro w mg fa h KX G hmg
  have d_law:L2.Def (L2.KOf KX) mg "law" My.s_law ["_law_script"]:=by
   dsimp only [L2.KOf]
   refine' L2.def_mk KX G ?a ?l ?c ?k ?b
   (case a=>k_is);(case l=>k_is);(case c=>k_is);(case k=>k_is)
   (case b=>exact fun _ _ _ _ _ _ us hl=>match us,hl with | [_],_=>rfl)
  obtain⟨uA,uB,uC,uD,uE,uF,uG,uH,z⟩:∃ uA uB uC uD uE uF uG uH:Addr,My.Bz (L2.KOf KX) mg uA uB uC uD uE uF uG uH:=by
   dsimp only [L2.KOf]
   refine' ⟨_,_,_,_,_,_,_,_,⟨?_,?_,?_,?_,?_,?_,?_,?_,?_,?_,?_,?_,?_,?_,?_,?_,?_,?_,?_,?_,?_,?_,?_,?_,?_,?_,⟨"0123456789", 874,PySem.W.mg_of KX G ?_,rfl⟩,⟨842,PySem.W.mg_of KX G ?_,?_⟩,⟨?_,?_,?_,?_⟩,⟨?_,?_,?_,?_⟩,⟨_,_,⟨?_,?_,?_,?_⟩,L2.q798 ?_ ?_ ?_,?_⟩,⟨_,_,⟨?_,?_,?_⟩,L2.q798 ?_ ?_ ?_,?_⟩,⟨_,_,⟨?_,?_,?_⟩,L2.q798 ?_ ?_ ?_,?_⟩,⟨_,_,⟨?_,?_,?_⟩,L2.q798 ?_ ?_ ?_,?_⟩,⟨_,_,⟨?_,?_,?_⟩,L2.q798 ?_ ?_ ?_,?_⟩,⟨_,_,⟨?_,?_,?_⟩,L2.q798 ?_ ?_ ?_,?_⟩,⟨_,_,⟨?_,?_,?_,?_⟩,L2.q798 ?_ ?_ ?_,?_⟩,⟨_,_,⟨?_,?_,?_⟩,L2.q798 ?_ ?_ ?_,?_⟩,⟨_,_,⟨?_,?_,?_⟩,L2.q798 ?_ ?_ ?_,?_⟩,⟨_,_,⟨?_,?_,?_⟩,L2.q798 ?_ ?_ ?_,?_⟩,?_,?_,?_,?_,?_,?_,?_,?_,?_,?_,?_,?_,?_,?_,?_,?_,?_,?_,?_,?_,?_,?_,?_,?_,?_,?_,?_,?_,?_,?_,?_,?_,?_,?_,?_,?_,?_,?_,?_,?_,?_,?_,?_,?_,?_,?_,?_,?_,?_,?_,?_,?_,?_,?_,?_,?_,?_,?_,?_,?_,?_,?_,?_,?_⟩⟩
   all_goals try first | (refine' PySem.W.mg_none_of KX G ?_;k_is) | (refine' PySem.W.mg_of KX G ?_;k_is) | (refine' L2.def_mk KX G ?_ ?_ ?_ ?_ ?_ <;> try first | k_is | exact fun _ _ _ _ _ _=>L2.mt0 rfl | exact fun _ _ _ _ _ _=>L2.mt1 fun _=>rfl | exact fun _ _ _ _ _ _=>L2.mt2 fun _ _=>rfl | exact fun _ _ _ _ _ _=>L2.mt3 fun _ _ _=>rfl | exact fun _ _ _ _ _ _=>L2.mt4 fun _ _ _ _=>rfl | exact fun _ _ _ _ _ _=>L2.mt5 fun _ _ _ _ _=>rfl) | k_is | kernel_rfl | exact L2.mt0 rfl | exact L2.mt1 fun _=>rfl | exact L2.mt2 fun _ _=>rfl | exact L2.mt3 fun _ _ _=>rfl | exact L2.mt4 fun _ _ _ _=>rfl | exact L2.mt5 fun _ _ _ _ _=>rfl | decide | (unfold L2.q149;first | k_is | kernel_rfl)
  exact L2.law_mk d_law (fun base=>My.ok_law (base:=base) z) hmg
#print axioms PySem.Challenge.cw_manyleast_k60_what_a_desk_is_asked_holds
