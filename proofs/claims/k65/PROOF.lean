import PyProof.Rows.All
import Wide.All
import OpenK.AllK
import Wide.FinOn
import Lean
import PyProof.EqAt
import PyProof.EqKinds
import PyProof.TupleCall
import KE.KTryMore
import KE.KRevSl
import KE.KRevIter
import PyProof.TupleOfGen
import KE.KUnpack
import KE.KLam
import PySem.Challenge.RW_manyleast_k65_whole_turned_and_flipped
set_option Elab.async false
set_option linter.all false
set_option maxRecDepth 100000
set_option maxHeartbeats 4000000
def PySem.W.Fast.tw7674292497303504648 : Unit := ()
def PySem.W.Fast.tw1600396345302884861 : Unit := ()
def PySem.W.Fast.tw3318930204785009659 : Unit := ()
def PySem.W.Fast.tw2175422074033584067 : Unit := ()
def PySem.W.Fast.tw2354685463279907810 : Unit := ()
def PySem.W.Fast.tw16564742319944365124 : Unit := ()
def PySem.W.Fast.tw8774377393847707845 : Unit := ()
def PySem.W.Fast.tw5103910922866265774 : Unit := ()
def PySem.W.Fast.tw16795867846474498072 : Unit := ()
def PySem.W.Fast.tw7704981422072863698 : Unit := ()
def PySem.W.Fast.tw10674067043680467898 : Unit := ()
def PySem.W.Fast.tw15741933679965250692 : Unit := ()
def PySem.W.Fast.tw10928185103094478626 : Unit := ()
def PySem.W.Fast.tw4841561948144831862 : Unit := ()
def PySem.W.Fast.tw14252402509523110066 : Unit := ()
def PySem.W.Fast.tw11381643979880962071 : Unit := ()
def PySem.W.Fast.tw9921685727807755435 : Unit := ()
def PySem.W.Fast.tw5190544784514004910 : Unit := ()
def PySem.W.Fast.tw14277264028472327525 : Unit := ()
def PySem.W.Fast.tw159289920359884642 : Unit := ()
def PySem.W.Fast.tw14202530840768277934 : Unit := ()
def PySem.W.Fast.tw17089686603996939070 : Unit := ()
def PySem.W.Fast.tw7291853029264518361 : Unit := ()
def PySem.W.Fast.tw5039868494357483390 : Unit := ()
def PySem.W.Fast.tw7253826797589774341 : Unit := ()
def PySem.W.Fast.tw12433517554221672914 : Unit := ()
def PySem.W.Fast.tw9983086225577768694 : Unit := ()
def PySem.W.Fast.tw5505084317474838028 : Unit := ()
def PySem.W.Fast.tw910545026019457994 : Unit := ()
def PySem.W.Fast.tw17228944672201460023 : Unit := ()
def PySem.W.Fast.tw15594624424295923622 : Unit := ()
def PySem.W.Fast.tw5468458459307871393 : Unit := ()
def PySem.W.Fast.tw1777386019989471594 : Unit := ()
def PySem.W.Fast.tw9416342967383407621 : Unit := ()
def PySem.W.Fast.tw13135024844165081551 : Unit := ()
def PySem.W.Fast.tw16051238747791021906 : Unit := ()
def PySem.W.Fast.tw15611139203357756287 : Unit := ()
def PySem.W.Fast.tw968435071728953553 : Unit := ()
def PySem.W.Fast.tw10366555236597406866 : Unit := ()
def PySem.W.Fast.tw17646501400497837024 : Unit := ()
def PySem.W.Fast.tw7424575791281338296 : Unit := ()
def PySem.W.Fast.tw15867290793973653153 : Unit := ()
def PySem.W.Fast.tw17639626319198420003 : Unit := ()
def PySem.W.Fast.tw10498113233240878775 : Unit := ()
def PySem.W.Fast.tw14442223042088135046 : Unit := ()
def PySem.W.Fast.tw506084722562613460 : Unit := ()
def PySem.W.Fast.tw7177272980506268132 : Unit := ()
def PySem.W.Fast.tw6236597913760386638 : Unit := ()
def PySem.W.Fast.tw2205725972480034407 : Unit := ()
def PySem.W.Fast.tw15881791569963224565 : Unit := ()
def PySem.W.Fast.tw12434119785876565568 : Unit := ()
def PySem.W.Fast.tw209642371284989679 : Unit := ()
def PySem.W.Fast.tw6763809976899758113 : Unit := ()
def PySem.W.Fast.tw18109425805076668427 : Unit := ()
def PySem.W.Fast.tw7380429999671960748 : Unit := ()
def PySem.W.Fast.tw6315762791205855314 : Unit := ()
def PySem.W.Fast.tw1614709238326827297 : Unit := ()
def PySem.W.Fast.tw6234561926702834750 : Unit := ()
def PySem.W.Fast.tw5867000216294841507 : Unit := ()
def PySem.W.Fast.tw16258720467840586289 : Unit := ()
def PySem.W.Fast.tw2596521859697326508 : Unit := ()
def PySem.W.Fast.tw16505413488842263530 : Unit := ()
def PySem.W.Fast.tw14047800177945244427 : Unit := ()
def PySem.W.Fast.tw9747054618995711974 : Unit := ()
def PySem.W.Fast.tw2450977443962013231 : Unit := ()
def PySem.W.Fast.tw11353218422293117351 : Unit := ()
def PySem.W.Fast.tw15223281260093290593 : Unit := ()
def PySem.W.Fast.tw13939773330377455102 : Unit := ()
def PySem.W.Fast.tw12049851283146712894 : Unit := ()
def PySem.W.Fast.tw11678864987126886492 : Unit := ()
def PySem.W.Fast.tw17059314371650493446 : Unit := ()
def PySem.W.Fast.tw11223099715779107903 : Unit := ()
def PySem.W.Fast.tw13465981591990043105 : Unit := ()
def PySem.W.Fast.tw10323370739272191379 : Unit := ()
def PySem.W.Fast.tw82005722241962319 : Unit := ()
def PySem.W.Fast.tw16673349864108250374 : Unit := ()
def PySem.W.Fast.tw6868188204366076418 : Unit := ()
def PySem.W.Fast.tw7128652625623124251 : Unit := ()
def PySem.W.Fast.tw1700297796934975892 : Unit := ()
def PySem.W.Fast.tw4660560187823731358 : Unit := ()
def PySem.W.Fast.tw10808111340453683001 : Unit := ()
def PySem.W.Fast.tw5862322206346474224 : Unit := ()
def PySem.W.Fast.tw10388913030401298273 : Unit := ()
def PySem.W.Fast.tw16022913297337016482 : Unit := ()
def PySem.W.Fast.tw5720434049817069038 : Unit := ()
def PySem.W.Fast.tw301006041343888519 : Unit := ()
def PySem.W.Fast.tw907066436341549541 : Unit := ()
def PySem.W.Fast.tw16365900404782665486 : Unit := ()
def PySem.W.Fast.tw12763007645173374492 : Unit := ()
def PySem.W.Fast.tw10227356312978387625 : Unit := ()
def PySem.W.Fast.tw352399395496652838 : Unit := ()
def PySem.W.Fast.tw7702323841530612758 : Unit := ()
def PySem.W.Fast.tw14599282561262730818 : Unit := ()
def PySem.W.Fast.tw2837303323077362757 : Unit := ()
def PySem.W.Fast.tw13548661231697801652 : Unit := ()
def PySem.W.Fast.tw9174920438979683178 : Unit := ()
def PySem.W.Fast.tw8990302438939108447 : Unit := ()
def PySem.W.Fast.tw16625391248734187838 : Unit := ()
def PySem.W.Fast.tw1540536381027328519 : Unit := ()
def PySem.W.Fast.tw7609725042078104943 : Unit := ()
def PySem.W.Fast.tw9826760416998294385 : Unit := ()
def PySem.W.Fast.tw15608268961489184015 : Unit := ()
def PySem.W.Fast.tw16044531387507112602 : Unit := ()
def PySem.W.Fast.tw14300603829703142177 : Unit := ()
def PySem.W.Fast.tw17467034209300981503 : Unit := ()
def PySem.W.Fast.tw13758753613599618272 : Unit := ()
def PySem.W.Fast.tw14218047221777303228 : Unit := ()
def PySem.W.Fast.tw5901072332566809543 : Unit := ()
def PySem.W.Fast.tw12444951494669534325 : Unit := ()
def PySem.W.Fast.tw12519438092222798882 : Unit := ()
def PySem.W.Fast.tw4231021851328312660 : Unit := ()
def PySem.W.Fast.tw17469137010576402495 : Unit := ()
def PySem.W.Fast.tw12200791725232319682 : Unit := ()
def PySem.W.Fast.tw13880838815026709575 : Unit := ()
def PySem.W.Fast.tw3439565294848903228 : Unit := ()
def PySem.W.Fast.tw1411659736387885424 : Unit := ()
def PySem.W.Fast.tw1074976015671464928 : Unit := ()
def PySem.W.Fast.tw3984046339844578591 : Unit := ()
def PySem.W.Fast.tw1250413296360375949 : Unit := ()
def PySem.W.Fast.tw12866980909932383786 : Unit := ()
def PySem.W.Fast.tw11881327016776672749 : Unit := ()
def PySem.W.Fast.tw16145912080854870213 : Unit := ()
def PySem.W.Fast.tw2611979165867773506 : Unit := ()
def PySem.W.Fast.tw15343367966234289610 : Unit := ()
def PySem.W.Fast.tw16416620250725466010 : Unit := ()
def PySem.W.Fast.tw6313624620280223950 : Unit := ()
def PySem.W.Fast.tw4995266846689475898 : Unit := ()
def PySem.W.Fast.tw8963895112646091591 : Unit := ()
def PySem.W.Fast.tw10778668411813757015 : Unit := ()
def PySem.W.Fast.tw5371592265134195514 : Unit := ()
def PySem.W.Fast.tw13967932697832078207 : Unit := ()
def PySem.W.Fast.tw16082103331657907264 : Unit := ()
def PySem.W.Fast.tw3212421987359364732 : Unit := ()
def PySem.W.Fast.tw9835778138184858799 : Unit := ()
def PySem.W.Fast.tw17742567168078797843 : Unit := ()
def PySem.W.Fast.tw4568213894205559244 : Unit := ()
def PySem.W.Fast.tw652038853030509935 : Unit := ()
def PySem.W.Fast.tw7702375251252654666 : Unit := ()
def PySem.W.Fast.tw15422292940531736126 : Unit := ()
def PySem.W.Fast.tw8892284414119267889 : Unit := ()
def PySem.W.Fast.tw15641563723708387084 : Unit := ()
def PySem.W.Fast.tw4217844877387783379 : Unit := ()
def PySem.W.Fast.tw10698749417285407384 : Unit := ()
def PySem.W.Fast.tw4624444373769603351 : Unit := ()
def PySem.W.Fast.tw7906664609892364329 : Unit := ()
def PySem.W.Fast.tw5329663305018748003 : Unit := ()
def PySem.W.Fast.tw8388976849371627365 : Unit := ()
def PySem.W.Fast.tw8468329586102179312 : Unit := ()
def PySem.W.Fast.tw11245778613873665809 : Unit := ()
def PySem.W.Fast.tw2116318280633981780 : Unit := ()
def PySem.W.Fast.tw12112156511666972985 : Unit := ()
def PySem.W.Fast.tw8170966065458385997 : Unit := ()
def PySem.W.Fast.tw1331674321610722113 : Unit := ()
def PySem.W.Fast.tw14532334090647904587 : Unit := ()
def PySem.W.Fast.tw10135827340599014466 : Unit := ()
def PySem.W.Fast.tw4117854834480361561 : Unit := ()
def PySem.W.Fast.tw16489502665604376411 : Unit := ()
def PySem.W.Fast.tw12456111746291119536 : Unit := ()
def PySem.W.Fast.tw14561318994479137940 : Unit := ()
def PySem.W.Fast.tw11062753942163722384 : Unit := ()
def PySem.W.Fast.tw2715829415663797675 : Unit := ()
def PySem.W.Fast.tw16533043869709436987 : Unit := ()
def PySem.W.Fast.tw9942995334421685102 : Unit := ()
def PySem.W.Fast.tw15908440706551688552 : Unit := ()
def PySem.W.Fast.tw700817654876334075 : Unit := ()
def PySem.W.Fast.tw2445216400498832926 : Unit := ()
def PySem.W.Fast.tw17341527279929756081 : Unit := ()
def PySem.W.Fast.tw18118621365326969405 : Unit := ()
def PySem.W.Fast.tw17051895053255351612 : Unit := ()
def PySem.W.Fast.tw15030774354621848764 : Unit := ()
def PySem.W.Fast.tw17830816381149701929 : Unit := ()
def PySem.W.Fast.tw17891129725459621234 : Unit := ()
def PySem.W.Fast.tw5747435597695942061 : Unit := ()
def PySem.W.Fast.tw11552851535942150449 : Unit := ()
def PySem.W.Fast.tw5682659003468527610 : Unit := ()
def PySem.W.Fast.tw16914247507796531513 : Unit := ()
def PySem.W.Fast.tw17597551394670742026 : Unit := ()
def PySem.W.Fast.tw5850709125125892891 : Unit := ()
def PySem.W.Fast.tw6733893054821508623 : Unit := ()
def PySem.W.Fast.tw13149318282770895899 : Unit := ()
def PySem.W.Fast.tw14815621092457149213 : Unit := ()
def PySem.W.Fast.tw14008926687988313493 : Unit := ()
def PySem.W.Fast.tw8406167087015551452 : Unit := ()
def PySem.W.Fast.tw13181623349232852244 : Unit := ()
def PySem.W.Fast.tw1575110450732024092 : Unit := ()
def PySem.W.Fast.tw7705844590803021129 : Unit := ()
def PySem.W.Fast.tw16330521978762534902 : Unit := ()
def PySem.W.Fast.tw12109578091334022303 : Unit := ()
def PySem.W.Fast.tw6442598024378944114 : Unit := ()
def PySem.W.Fast.tw8387977697896384227 : Unit := ()
def PySem.W.Fast.tw5543881179064118069 : Unit := ()
def PySem.W.Fast.tw204416394771109489 : Unit := ()
def PySem.W.Fast.tw8795766956512786128 : Unit := ()
def PySem.W.Fast.tw14826499366414050920 : Unit := ()
def PySem.W.Fast.tw16023561596762684905 : Unit := ()
def PySem.W.Fast.tw5886414156432050711 : Unit := ()
def PySem.W.Fast.tw10776569594758732305 : Unit := ()
def PySem.W.Fast.tw3313165750111610149 : Unit := ()
def PySem.W.Fast.tw2659083171236825624 : Unit := ()
def PySem.W.Fast.tw13479588002707102239 : Unit := ()
def PySem.W.Fast.tw1187478091160774648 : Unit := ()
def PySem.W.Fast.tw3251786441892902534 : Unit := ()
def PySem.W.Fast.tw2478687752371587528 : Unit := ()
def PySem.W.Fast.tw4344256219701867515 : Unit := ()
def PySem.W.Fast.tw10048816432922542669 : Unit := ()
def PySem.W.Fast.tw15337901735698961701 : Unit := ()
def PySem.W.Fast.tw4413209752999012450 : Unit := ()
def PySem.W.Fast.tw8037673160584739394 : Unit := ()
def PySem.W.Fast.tw6590170009088736220 : Unit := ()
def PySem.W.Fast.tw16039470834707422454 : Unit := ()
def PySem.W.Fast.tw16270905453106340941 : Unit := ()
def PySem.W.Fast.tw3372637119799379252 : Unit := ()
def PySem.W.Fast.tw17543331788088331501 : Unit := ()
def PySem.W.Fast.tw4066328193345442044 : Unit := ()
def PySem.W.Fast.tw1136097862803032843 : Unit := ()
def PySem.W.Fast.tw4989752409047614439 : Unit := ()
def PySem.W.Fast.tw2640517176969667911 : Unit := ()
def PySem.W.Fast.tw12822463278888256752 : Unit := ()
def PySem.W.Fast.tw10832747873455014894 : Unit := ()
def PySem.W.Fast.tw11189239964411898533 : Unit := ()
def PySem.W.Fast.tw3695023827613771029 : Unit := ()
def PySem.W.Fast.tw17848417410149431110 : Unit := ()
def PySem.W.Fast.tw8944570376034065166 : Unit := ()
def PySem.W.Fast.tw17097151078496092382 : Unit := ()
def PySem.W.Fast.tw2745378658709315504 : Unit := ()
def PySem.W.Fast.tw15791378732498521703 : Unit := ()
def PySem.W.Fast.tw14792579508260885592 : Unit := ()
def PySem.W.Fast.tw4961258962502810436 : Unit := ()
def PySem.W.Fast.tw16316514481622999022 : Unit := ()
def PySem.W.Fast.tw17486315937911341988 : Unit := ()
def PySem.W.Fast.tw11704966299223008444 : Unit := ()
def PySem.W.Fast.tw12898935375424084938 : Unit := ()
def PySem.W.Fast.tw8726686090494935559 : Unit := ()
def PySem.W.Fast.tw8299587165046571585 : Unit := ()
def PySem.W.Fast.tw10409003194638929243 : Unit := ()
def PySem.W.Fast.tw15017498350615152487 : Unit := ()
def PySem.W.Fast.tw14782018082280542048 : Unit := ()
def PySem.W.Fast.tw12493364927238303292 : Unit := ()
def PySem.W.Fast.tw6864627946063444615 : Unit := ()
def PySem.W.Fast.tw11270171831386580612 : Unit := ()
def PySem.W.Fast.tw9937092732693852872 : Unit := ()
def PySem.W.Fast.tw15698701137761156408 : Unit := ()
def PySem.W.Fast.tw2515147683548321767 : Unit := ()
def PySem.W.Fast.tw2610878706196575380 : Unit := ()
def PySem.W.Fast.tw4815639213182940869 : Unit := ()
def PySem.W.Fast.tw528191112706905720 : Unit := ()
def PySem.W.Fast.tw17819051917567742862 : Unit := ()
def PySem.W.Fast.tw4272310698141147462 : Unit := ()
def PySem.W.Fast.tw8469631976431751410 : Unit := ()
def PySem.W.Fast.tw14812091148204673768 : Unit := ()
def PySem.W.Fast.tw5601082147876943838 : Unit := ()
def PySem.W.Fast.tw3772719875106906533 : Unit := ()
def PySem.W.Fast.tw18405275960795730846 : Unit := ()
def PySem.W.Fast.tw5887128229681561205 : Unit := ()
def PySem.W.Fast.tw698818206398992135 : Unit := ()
def PySem.W.Fast.tw7033123226975928093 : Unit := ()
def PySem.W.Fast.tw8643274757629856961 : Unit := ()
def PySem.W.Fast.tw15755722664435919614 : Unit := ()
def PySem.W.Fast.tw191736159529225122 : Unit := ()
def PySem.W.Fast.tw15398974502709059195 : Unit := ()
def PySem.W.Fast.tw4428514896798540001 : Unit := ()
def PySem.W.Fast.tw11599396805172193718 : Unit := ()
def PySem.W.Fast.tw8671316591209415617 : Unit := ()
def PySem.W.Fast.tw1754144696484785813 : Unit := ()
def PySem.W.Fast.tw508768140701256891 : Unit := ()
def PySem.W.Fast.tw8667215590884245030 : Unit := ()
def PySem.W.Fast.tw16785603591046713906 : Unit := ()
def PySem.W.Fast.tw18437741578303973484 : Unit := ()
def PySem.W.Fast.tw15552394390470468643 : Unit := ()
def PySem.W.Fast.tw9933985296693649337 : Unit := ()
def PySem.W.Fast.tw1340611242074686334 : Unit := ()
def PySem.W.Fast.tw10582798219273898823 : Unit := ()
def PySem.W.Fast.tw13264165192970377661 : Unit := ()
def PySem.W.Fast.tw4142010180246591321 : Unit := ()
def PySem.W.Fast.tw12755112207726893488 : Unit := ()
def PySem.W.Fast.tw3298300010936634344 : Unit := ()
def PySem.W.Fast.tw13164717751046234774 : Unit := ()
def PySem.W.Fast.tw1009135605508506968 : Unit := ()
def PySem.W.Fast.tw4844919589645535085 : Unit := ()
def PySem.W.Fast.tw14293001285050034306 : Unit := ()
def PySem.W.Fast.tw12651082617264386299 : Unit := ()
def PySem.W.Fast.tw11288216728676369268 : Unit := ()
def PySem.W.Fast.tw3527853041542063372 : Unit := ()
def PySem.W.Fast.tw6078404495086772986 : Unit := ()
def PySem.W.Fast.tw18068323108987239918 : Unit := ()
def PySem.W.Fast.tw3924395597765895423 : Unit := ()
def PySem.W.Fast.tw15565584389326581863 : Unit := ()
def PySem.W.Fast.tw4420261934667453287 : Unit := ()
def PySem.W.Fast.tw875299224719475661 : Unit := ()
def PySem.W.Fast.tw2918246702564738169 : Unit := ()
def PySem.W.Fast.tw9529454967832367545 : Unit := ()
def PySem.W.Fast.tw14916225686565035847 : Unit := ()
def PySem.W.Fast.tw3438187778459393123 : Unit := ()
def PySem.W.Fast.tw6968009936451361993 : Unit := ()
def PySem.W.Fast.tw4748583799389997970 : Unit := ()
def PySem.W.Fast.tw1309202734339608732 : Unit := ()
def PySem.W.Fast.tw17963368263820307054 : Unit := ()
def PySem.W.Fast.tw13621764292831103558 : Unit := ()
def PySem.W.Fast.tw4950589735927936166 : Unit := ()
def PySem.W.Fast.tw7761107803168033057 : Unit := ()
def PySem.W.Fast.tw7912642910817192086 : Unit := ()
def PySem.W.Fast.tw6557436029715433057 : Unit := ()
def PySem.W.Fast.tw10681865433266786909 : Unit := ()
def PySem.W.Fast.tw9648657426526094934 : Unit := ()
def PySem.W.Fast.tw17775384146817740528 : Unit := ()
def PySem.W.Fast.tw4431118429425593007 : Unit := ()
def PySem.W.Fast.tw11749588713537377060 : Unit := ()
def PySem.W.Fast.tw4429960525625888610 : Unit := ()
def PySem.W.Fast.tw11887137725222702075 : Unit := ()
def PySem.W.Fast.tw14779488989934752405 : Unit := ()
def PySem.W.Fast.tw16042305462272429958 : Unit := ()
def PySem.W.Fast.tw14590554241645140732 : Unit := ()
def PySem.W.Fast.tw16586445673651656187 : Unit := ()
def PySem.W.Fast.tw17023123218843384309 : Unit := ()
def PySem.W.Fast.tw8952840872546439171 : Unit := ()
def PySem.W.Fast.tw15381410110896658450 : Unit := ()
def PySem.W.Fast.tw9550716036455223890 : Unit := ()
def PySem.W.Fast.tw2246297048838052279 : Unit := ()
def PySem.W.Fast.tw3562859311043964014 : Unit := ()
def PySem.W.Fast.tw7680101059923337797 : Unit := ()
def PySem.W.Fast.tw5677398921097938060 : Unit := ()
def PySem.W.Fast.tw18073099967072575201 : Unit := ()
def PySem.W.Fast.tw17216985733618570366 : Unit := ()
def PySem.W.Fast.tw2297964913455375542 : Unit := ()
def PySem.W.Fast.tw15018477175967828603 : Unit := ()
def PySem.W.Fast.tw12414339555337455141 : Unit := ()
def PySem.W.Fast.tw3223989944468558646 : Unit := ()
def PySem.W.Fast.tw6916206897447758838 : Unit := ()
def PySem.W.Fast.tw12026716509971077025 : Unit := ()
def PySem.W.Fast.tw7814172746864783220 : Unit := ()
def PySem.W.Fast.tw3171279331266756781 : Unit := ()
def PySem.W.Fast.tw2182167179563949717 : Unit := ()
def PySem.W.Fast.tw14676474121868903871 : Unit := ()
def PySem.W.Fast.tw15681391376519199319 : Unit := ()
def PySem.W.Fast.tw3389192785804387262 : Unit := ()
def PySem.W.Fast.tw3072404116491829383 : Unit := ()
def PySem.W.Fast.tw1963387934230081508 : Unit := ()
def PySem.W.Fast.tw2207217210086020726 : Unit := ()
def PySem.W.Fast.tw17044819959649551243 : Unit := ()
def PySem.W.Fast.tw4692928888188244601 : Unit := ()
def PySem.W.Fast.tw18235452253149247878 : Unit := ()
def PySem.W.Fast.tw11565066897794326154 : Unit := ()
def PySem.W.Fast.tw4604139818626484484 : Unit := ()
def PySem.W.Fast.tw18078619283636933777 : Unit := ()
def PySem.W.Fast.tw4983928325486299255 : Unit := ()
def PySem.W.Fast.tw6376415523024199260 : Unit := ()
def PySem.W.Fast.tw14428464832636438383 : Unit := ()
def PySem.W.Fast.tw8552113705682161241 : Unit := ()
def PySem.W.Fast.tw480278111867222062 : Unit := ()
def PySem.W.Fast.tw15430456094236794606 : Unit := ()
def PySem.W.Fast.tw14911805265737935263 : Unit := ()
def PySem.W.Fast.tw5188951482470000806 : Unit := ()
def PySem.W.Fast.tw4247745577103242744 : Unit := ()
def PySem.W.Fast.tw6472956451160256859 : Unit := ()
def PySem.W.Fast.tw11705138545887059525 : Unit := ()
def PySem.W.Fast.tw16158868878642706968 : Unit := ()
def PySem.W.Fast.tw15026383968613363534 : Unit := ()
def PySem.W.Fast.tw2120457735356467843 : Unit := ()
def PySem.W.Fast.tw4808950543253363581 : Unit := ()
def PySem.W.Fast.tw144659140826314361 : Unit := ()
def PySem.W.Fast.tw4950580800906469354 : Unit := ()
def PySem.W.Fast.tw13690118669981414490 : Unit := ()
def PySem.W.Fast.tw9377072233891000151 : Unit := ()
def PySem.W.Fast.tw4230939364532708203 : Unit := ()
def PySem.W.Fast.tw6932776233077646467 : Unit := ()
def PySem.W.Fast.tw3452351148927849873 : Unit := ()
def PySem.W.Fast.tw33629291032162940 : Unit := ()
def PySem.W.Fast.tw3618129029108379041 : Unit := ()
def PySem.W.Fast.tw9980838293368238746 : Unit := ()
def PySem.W.Fast.tw17731241378077780531 : Unit := ()
def PySem.W.Fast.tw1363473646964845656 : Unit := ()
def PySem.W.Fast.tw7164447993671083142 : Unit := ()
def PySem.W.Fast.tw15739421511342611067 : Unit := ()
def PySem.W.Fast.tw6203324808043542537 : Unit := ()
def PySem.W.Fast.tw16602414045665831649 : Unit := ()
def PySem.W.Fast.tw5954155343702517267 : Unit := ()
def PySem.W.Fast.tw2140310516834484182 : Unit := ()
def PySem.W.Fast.tw4495318095693314834 : Unit := ()
def PySem.W.Fast.tw2353099961009879568 : Unit := ()
def PySem.W.Fast.tw12369536728580865824 : Unit := ()
def PySem.W.Fast.tw1485493585128531333 : Unit := ()
def PySem.W.Fast.tw7776016063620975759 : Unit := ()
def PySem.W.Fast.tw8507300812334302929 : Unit := ()
def PySem.W.Fast.tw3249111543083589531 : Unit := ()
def PySem.W.Fast.tw18238567125629267890 : Unit := ()
def PySem.W.Fast.tw8228753614773283151 : Unit := ()
def PySem.W.Fast.tw612008121336243751 : Unit := ()
def PySem.W.Fast.tw11343903489246459256 : Unit := ()
def PySem.W.Fast.tw4143777134573641084 : Unit := ()
def PySem.W.Fast.tw11223049913137328173 : Unit := ()
def PySem.W.Fast.tw1859628274250455520 : Unit := ()
def PySem.W.Fast.tw14676908826619030799 : Unit := ()
def PySem.W.Fast.tw17109187352924961561 : Unit := ()
def PySem.W.Fast.tw11699809319675599399 : Unit := ()
def PySem.W.Fast.tw15915806478239237007 : Unit := ()
def PySem.W.Fast.tw17882394903723346866 : Unit := ()
def PySem.W.Fast.tw3203964364932667806 : Unit := ()
def PySem.W.Fast.tw13599809739172481258 : Unit := ()
def PySem.W.Fast.tw9057703355865801191 : Unit := ()
def PySem.W.Fast.tw15603339954407093263 : Unit := ()
def PySem.W.Fast.tw17944970265626361695 : Unit := ()
def PySem.W.Fast.tw15523127495285566071 : Unit := ()
def PySem.W.Fast.tw4088144234151177072 : Unit := ()
def PySem.W.Fast.tw15905912420688748548 : Unit := ()
def PySem.W.Fast.tw1227006098917210663 : Unit := ()
def PySem.W.Fast.tw18024155805704515402 : Unit := ()
def PySem.W.Fast.tw8837010606522363093 : Unit := ()
def PySem.W.Fast.tw10926635696150222162 : Unit := ()
def PySem.W.Fast.tw17602089171715195962 : Unit := ()
def PySem.W.Fast.tw6234057829302764384 : Unit := ()
def PySem.W.Fast.tw17937800105000055360 : Unit := ()
def PySem.W.Fast.tw9760111895251921728 : Unit := ()
def PySem.W.Fast.tw14366585254422855137 : Unit := ()
def PySem.W.Fast.tw3745408631365147495 : Unit := ()
def PySem.W.Fast.tw5292012071361942795 : Unit := ()
def PySem.W.Fast.tw3620856892647408467 : Unit := ()
def PySem.W.Fast.tw7654607311794919399 : Unit := ()
def PySem.W.Fast.tw9885852853804880371 : Unit := ()
def PySem.W.Fast.tw12000967465500802181 : Unit := ()
def PySem.W.Fast.tw6628119156497107250 : Unit := ()
def PySem.W.Fast.tw8853813002755587140 : Unit := ()
def PySem.W.Fast.tw689096795711285700 : Unit := ()
def PySem.W.Fast.tw15079362820179193744 : Unit := ()
def PySem.W.Fast.tw12495214420855687126 : Unit := ()
def PySem.W.Fast.tw11885624622457937270 : Unit := ()
def PySem.W.Fast.tw3120346165206571232 : Unit := ()
def PySem.W.Fast.tw9076072592305284689 : Unit := ()
def PySem.W.Fast.tw14395782871525961079 : Unit := ()
def PySem.W.Fast.tw9107689523670181856 : Unit := ()
def PySem.W.Fast.tw12855495260564303276 : Unit := ()
def PySem.W.Fast.tw10336556913703776536 : Unit := ()
def PySem.W.Fast.tw15568258831191555420 : Unit := ()
def PySem.W.Fast.tw13305298859380553211 : Unit := ()
def PySem.W.Fast.tw13767260738629300338 : Unit := ()
def PySem.W.Fast.tw17204108299387176123 : Unit := ()
def PySem.W.Fast.tw8651476451653079170 : Unit := ()
def PySem.W.Fast.tw3717407646597466838 : Unit := ()
def PySem.W.Fast.tw13842336184649019670 : Unit := ()
def PySem.W.Fast.tw17817232725808157821 : Unit := ()
def PySem.W.Fast.tw5100584177120624877 : Unit := ()
def PySem.W.Fast.tw3508816937370441235 : Unit := ()
def PySem.W.Fast.tw9426228723414505348 : Unit := ()
def PySem.W.Fast.tw932646389129258672 : Unit := ()
def PySem.W.Fast.tw13259977382368533591 : Unit := ()
namespace MyQ
open PySem PySem.W PyProof.Rows
set_option maxRecDepth 100000 in
set_option maxHeartbeats 0 in
open_top hd for PySem.Challenge.rw_manyleast_k65_whole_turned_and_flipped
end MyQ
/-! THE HAND LAYER, for ints, bools, texts, own classes, LISTS and tuples (index, slices, in, append, pop ..), calls, loops. Paste it whole ahead of your own text; what your proof does not reach may be deleted. -/
namespace L2
open PySem PySem.Spec PyProof.Rows

/-- a key: an int or a str -/
abbrev Key := Sum Int Str
def keyIs : Key → Value → Bool
  | .inl k, v => Value.isInt k v
  | .inr x, v => Value.isStrOf x v
def keyH (w : World) : Key → Int
  | .inl k => hashInt k
  | .inr x => hashStr w x
theorem keyIs_shape : ∀ {k : Key} {v : Value}, keyIs k v = true → (∃ i t, k = Sum.inl i ∧ v = Value.int i t) ∨ (∃ x t, k = Sum.inr x ∧ v = Value.str x t)
  | .inl i, v, h => by
    obtain ⟨t, e⟩ := Value.isInt_shape (k := i) (v := v) h
    exact .inl ⟨i, t, rfl, e⟩
  | .inr x, v, h => by
    obtain ⟨t, e⟩ := Value.isStrOf_shape (x := x) (v := v) h
    exact .inr ⟨x, t, rfl, e⟩
theorem key_ll (a b : Int) : decide ((Sum.inl a : Key) = Sum.inl b) = (a == b) := by
  by_cases e : a = b
  · subst e; simp
  · have h : ¬ (Sum.inl a : Key) = Sum.inl b := fun q => e (Sum.inl.inj q)
    rw [decide_eq_false h]
    exact (beq_eq_false_iff_ne.mpr e).symm
theorem key_rr (a b : Str) : decide ((Sum.inr a : Key) = Sum.inr b) = decide (a = b) := by
  by_cases e : a = b
  · subst e; simp
  · have h : ¬ (Sum.inr a : Key) = Sum.inr b := fun q => e (Sum.inr.inj q)
    rw [decide_eq_false h, decide_eq_false e]
theorem key_lr (a : Int) (b : Str) : decide ((Sum.inl a : Key) = Sum.inr b) = false := decide_eq_false (fun q => nomatch q)
theorem key_rl (a : Str) (b : Int) : decide ((Sum.inr a : Key) = Sum.inl b) = false := decide_eq_false (fun q => nomatch q)

def mixKind (prog : Program) (w : World) : PySem.KeyKind prog w Key where
  is := keyIs
  hash := keyH w
  inj := fun v a b ha hb => by
    rcases keyIs_shape ha with ⟨i, t, rfl, rfl⟩ | ⟨x, t, rfl, rfl⟩
    · rcases keyIs_shape hb with ⟨j, u, rfl, e⟩ | ⟨y, u, rfl, e⟩
      · injection e with e1 _; rw [e1]
      · exact nomatch e
    · rcases keyIs_shape hb with ⟨j, u, rfl, e⟩ | ⟨y, u, rfl, e⟩
      · exact nomatch e
      · injection e with e1 _; rw [e1]
  byValue := fun k v h => by
    rcases keyIs_shape h with ⟨i, t, rfl, rfl⟩ | ⟨x, t, rfl, rfl⟩ <;> rfl
  pyHash := fun hv h => by
    rcases keyIs_shape hv with ⟨i, t, rfl, rfl⟩ | ⟨x, t, rfl, rfl⟩
    · exact wpAny_pyHash_int h
    · exact wpAny_pyHash_str h
  eqBool := fun hu hv h => by
    rcases keyIs_shape hu with ⟨i, t, rfl, rfl⟩ | ⟨x, t, rfl, rfl⟩
    · rcases keyIs_shape hv with ⟨j, u, rfl, rfl⟩ | ⟨y, u, rfl, rfl⟩
      · rw [key_ll] at h; exact wpAny_eqBool_int h
      · rw [key_lr] at h; exact SeqAt.EqAt.int_str i t y u _ _ _ _ h
    · rcases keyIs_shape hv with ⟨j, u, rfl, rfl⟩ | ⟨y, u, rfl, rfl⟩
      · rw [key_rl] at h; exact SeqAt.EqAt.str_int x t j u _ _ _ _ h
      · rw [key_rr] at h; exact wpAny_eqBool_str h
  «strs» := fun k x t v h => by
    rcases keyIs_shape h with ⟨i, u, rfl, e⟩ | ⟨y, u, rfl, e⟩
    · exact nomatch e
    · injection e with e1 _
      subst e1
      cases v <;> rfl

end L2

namespace L2
open PySem PySem.Spec PyProof.Rows

/-- a value, without the heap -/
inductive V where
  | non | bl (b : Bool) | int (i : Int) | str (x : Str) | byt (b : Array UInt8) | flt (b : UInt64) | ref (a : Addr) | ty (n : String)
  deriving DecidableEq

def RelV : V → Value → Prop
  | .non, u => u = Value.none
  | .bl b, u => u = Value.bool b
  | .int i, u => ∃ t, u = Value.int i t
  | .str x, u => ∃ t, u = Value.str x t
  | .byt b, u => ∃ t, u = Value.bytes b t
  | .flt b, u => ∃ t, u = Value.float b t
  | .ref a, u => u = Value.ref a
  | .ty n, u => u = Value.type n

abbrev Vals : List V → List Value → Prop := Paired RelV
theorem Vals.length {xs : List V} {us : List Value} (r : Vals xs us) : xs.length = us.length := Paired.length r
theorem Vals.get : ∀ {xs : List V} {us : List Value} {i : Nat} {x : V}, Vals xs us → xs[i]? = some x → ∃ u, us[i]? = some u ∧ RelV x u
  | _, _, _, _, .nil, e => by simp at e
  | _, _, 0, _, .cons r _, e => by simp at e; subst e; exact ⟨_, rfl, r⟩
  | _, _, i + 1, x, .cons _ t, e => by
    obtain ⟨u, h1, h2⟩ := Vals.get (i := i) (x := x) t (by simpa using e)
    exact ⟨u, by simpa using h1, h2⟩
theorem Vals.set {x : V} {u : Value} (r : RelV x u) : ∀ {xs : List V} {us : List Value} (i : Nat), Vals xs us → Vals (xs.set i x) (us.set i u)
  | _, _, _, .nil => .nil
  | _, _, 0, .cons _ t => .cons r t
  | _, _, i + 1, .cons q t => .cons q (Vals.set r i t)
theorem Vals.append : ∀ {xs ys : List V} {us ws : List Value}, Vals xs us → Vals ys ws → Vals (xs ++ ys) (us ++ ws)
  | _, _, _, _, .nil, s => s
  | _, _, _, _, .cons r t, s => .cons r (Vals.append t s)
theorem Vals.take : ∀ {xs : List V} {us : List Value} (n : Nat), Vals xs us → Vals (xs.take n) (us.take n)
  | _, _, 0, _ => .nil
  | _, _, _ + 1, .nil => .nil
  | _, _, n + 1, .cons r t => .cons r (Vals.take n t)
theorem Vals.drop : ∀ {xs : List V} {us : List Value} (n : Nat), Vals xs us → Vals (xs.drop n) (us.drop n)
  | _, _, 0, r => r
  | _, _, _ + 1, .nil => .nil
  | _, _, n + 1, .cons _ t => Vals.drop n t
def RelO : Option V → Option Value → Prop
  | some v, some u => RelV v u
  | none, none => True
  | _, _ => False
def KV {κ : Type} : List (κ × V) → List (κ × Value) → Prop := Paired fun (p : κ × V) (q : κ × Value) => p.1 = q.1 ∧ RelV p.2 q.2

/-- a key of a dict (00_mix): an int or a text -/
def kV : Key → V
  | .inl i => .int i
  | .inr x => .str x

/-- what stands at a tracked address -/
inductive HO where
  /-- a list -/
  | lst (xs : List V)
  /-- a tuple (never changes) -/
  | tup (xs : List V)
  /-- a dict whose keys are ints and texts; one whose keys are tuples of ints and texts (the empty one is both) -/
  | dK (kvs : List (Key × V)) | dT (kvs : List (List Key × V))
  /-- a set of ints: its members, its size -/
  | set (S : Int → Bool) (n : Nat)
  /-- an instance of the class at C, its dict at dx, its attributes -/
  | ins (C dx : Addr) (fs : List (Str × V))
  /-- the dict of the instance at x -/
  | own (x : Addr)
  /-- the dict of an exception -/
  | xd (fs : List (Str × V))
  /-- a bound method, f of x -/
  | met (f x : Addr)
  /-- a range object lo, lo + 1, .. below hi -/
  | rng (lo hi : Int)
  /-- a thing that is known to the object (the script; a dict while a loop walks it): read, never written while it is so -/
  | frz (o : Obj) (u : HO)
  /-- a code object's table -/
  | tbl (ps : Array Value)
  /-- any other thing, by what is true of its one object (a def of one's own: SetO a S n := HO.ext fun h => ..) -/
  | ext (φ : Heap → Prop)

abbrev Hp := Addr → Option HO
def upd (H : Hp) (a : Addr) (o : HO) : Hp := fun b => if b = a then some o else H b
theorem upd_same {H : Hp} {a : Addr} {o : HO} : upd H a o a = some o := by unfold upd; rw [if_pos rfl]
theorem upd_ne {H : Hp} {a b : Addr} {o : HO} (h : b ≠ a) : upd H a o b = H b := by unfold upd; rw [if_neg h]
theorem upd_upd {H : Hp} {a : Addr} {o u : HO} : upd (upd H a o) a u = upd H a u := by
  funext b; unfold upd; split <;> rfl
/-- two objects of different content stand apart -/
theorem ne_of {H : Hp} {a b : Addr} {o u : HO} (h : H a = some o) (h' : H b = some u) (d : o ≠ u) : a ≠ b := by
  intro e; subst e; rw [h] at h'; exact d (Option.some.inj h')
theorem ne_of_none {H : Hp} {a b : Addr} {o : HO} (h : H a = some o) (h' : H b = none) : a ≠ b := by
  intro e; subst e; rw [h] at h'; cases h'

section
variable (P : Program) (w : World)
def ObjOk (H : Hp) (h : Heap) (a : Addr) : HO → Prop
  | .lst xs => xs.length ≤ sizeLine ∧ ∃ (its : List Value) (n : Nat), Vals xs its ∧ h.get? a = some { cls := .type "list", data := .seq its.toArray n }
  | .tup xs => xs.length ≤ sizeLine ∧ ∃ its : List Value, Vals xs its ∧ IsTup h a its.toArray
  | .dK kvs => kvs.length ≤ sizeLine ∧ (a == sysModules) = false ∧ ∃ vs, KV kvs vs ∧ h.DictOf (mixKind P w) a vs
  | .dT kvs => kvs.length ≤ sizeLine ∧ (a == sysModules) = false ∧ ∃ xs : List (List Key × Addr × Value),
      Paired (fun (p : List Key × V) (q : List Key × Addr × Value) => p.1 = q.1 ∧ H q.2.1 = some (.tup (p.1.map kV)) ∧ RelV p.2 q.2.2) kvs xs ∧
      ∃ o es ep, h.get? a = some o ∧ o.ExactDict ∧ o.data = .dict es ep ∧ es.toList = xs.map (entryOfKey (tupleKind (mixKind P w))) ∧ (xs.map (·.1)).Nodup
  | .set S n => h.SetOf (intKind P w) a S n
  | .ins C dx fs => H dx = some (.own a) ∧ fs.length ≤ 1000 ∧ dx ≠ a ∧ h.get? a = some (PySem.W.instObj C dx) ∧
      ∃ mA, h.Ns1 dx mA ∧ (∀ f, RelO (fs.lookup f) (mA f)) ∧ PySem.Within mA (fs.map (·.1))
  | .own _ => ∃ o, h.get? a = some o
  | .xd fs => ∃ mA, h.Ns1 a mA ∧ ∀ f, RelO (fs.lookup f) (mA f)
  | .rng lo hi => ∃ t u v, h.get? a = some { cls := .type "range", data := .fields #[.int lo t, .int hi u, .int 1 v] }
  | .frz o u => h.get? a = some o ∧ ObjOk H h a u
  | .tbl ps => h.get? a = some { cls := .none, data := .fields ps }
  | .met f x => h.get? a = some (PySem.W.methodObj (.ref f) (.ref x))
  | .ext φ => φ h ∧ (∃ o, h.get? a = some o) ∧ ∀ h1 h2 : Heap, φ h1 → (∀ o, h1.get? a = some o → h2.get? a = some o) → φ h2
/-- the abstract heap is held -/
def HOk (H : Hp) (h : Heap) : Prop := ∀ a o, H a = some o → ObjOk P w H h a o
end

section
variable {P : Program} {w : World} {H H' : Hp} {h h' : Heap} {a : Addr} {o : HO}
theorem ObjOk.lt (x : ObjOk P w H h a o) : a < h.objs.size := by
  cases o with
  | lst xs => obtain ⟨_, _, _, _, e⟩ := x; exact Heap.lt_size e
  | tup xs => obtain ⟨_, _, _, p⟩ := x; exact p.lt
  | dK kvs => obtain ⟨_, _, _, _, o, _, _, e, _⟩ := x; exact Heap.lt_size e
  | dT kvs => obtain ⟨_, _, _, _, o, _, _, e, _⟩ := x; exact Heap.lt_size e
  | set S n => obtain ⟨o, _, _, _, e, _⟩ := x; exact Heap.lt_size e
  | ins C dx fs => obtain ⟨_, _, _, e, _⟩ := x; exact Heap.lt_size e
  | own y => obtain ⟨_, e⟩ := x; exact Heap.lt_size e
  | xd fs => obtain ⟨_, ⟨_, _, _, e, _⟩, _⟩ := x; exact Heap.lt_size e
  | rng lo hi => obtain ⟨_, _, _, e⟩ := x; exact Heap.lt_size e
  | frz ob u => obtain ⟨e, _⟩ := x; exact Heap.lt_size e
  | tbl ps => exact Heap.lt_size (show h.get? a = some _ from x)
  | met f y => exact Heap.lt_size (show h.get? a = some _ from x)
  | ext φ => obtain ⟨_, ⟨_, e⟩, _⟩ := x; exact Heap.lt_size e
theorem Paired.mapP {α β : Type} {F G : α → β → Prop} : ∀ {l₁ : List α} {l₂ : List β}, Paired F l₁ l₂ → (∀ a b, F a b → G a b) → Paired G l₁ l₂
  | _, _, .nil, _ => .nil
  | _, _, .cons r t, f => .cons (f _ _ r) (Paired.mapP t f)
/-- what an object's description leans on: its own object, its own dict, the tuples -/
theorem ObjOk.stay (x : ObjOk P w H h a o) (k : ∀ b u, (b = a ∨ H b = some (.own a)) → h.get? b = some u → h'.get? b = some u)
    (ho : ∀ b, H b = some (.own a) → H' b = some (.own a)) (ht : ∀ b xs, H b = some (.tup xs) → H' b = some (.tup xs)) : ObjOk P w H' h' a o := by
  induction o with
  | lst xs => obtain ⟨z, its, n, r, e⟩ := x; exact ⟨z, its, n, r, k _ _ (.inl rfl) e⟩
  | tup xs => obtain ⟨z, its, r, ob, e, c⟩ := x; exact ⟨z, its, r, ob, k _ _ (.inl rfl) e, c⟩
  | dK kvs => obtain ⟨z, y, vs, r, ob, es, ep, e, c⟩ := x; exact ⟨z, y, vs, r, ob, es, ep, k _ _ (.inl rfl) e, c⟩
  | dT kvs =>
    obtain ⟨z, y, xs, r, ob, es, ep, e, c⟩ := x
    exact ⟨z, y, xs, Paired.mapP r fun p q z => ⟨z.1, ht _ _ z.2.1, z.2.2⟩, ob, es, ep, k _ _ (.inl rfl) e, c⟩
  | set S n => obtain ⟨ob, es, ep, t, e, c⟩ := x; exact ⟨ob, es, ep, t, k _ _ (.inl rfl) e, c⟩
  | ins C dx fs =>
    obtain ⟨d, z, ne, e, mA, ⟨od, es, ep, e2, c⟩, r⟩ := x
    exact ⟨ho _ d, z, ne, k _ _ (.inl rfl) e, mA, ⟨od, es, ep, k _ _ (.inr d) e2, c⟩, r⟩
  | own y => obtain ⟨ob, e⟩ := x; exact ⟨ob, k _ _ (.inl rfl) e⟩
  | xd fs => obtain ⟨mA, ⟨od, es, ep, e, c⟩, r⟩ := x; exact ⟨mA, ⟨od, es, ep, k _ _ (.inl rfl) e, c⟩, r⟩
  | rng lo hi => obtain ⟨t, u, v, e⟩ := x; exact ⟨t, u, v, k _ _ (.inl rfl) e⟩
  | frz ob u ih => obtain ⟨e, q⟩ := x; exact ⟨k _ _ (.inl rfl) e, ih q⟩
  | tbl ps =>
    have e : h.get? a = some { cls := .none, data := .fields ps } := x
    show h'.get? a = some { cls := .none, data := .fields ps }
    exact k a _ (.inl rfl) e
  | met f y =>
    have e : h.get? a = some (PySem.W.methodObj (.ref f) (.ref y)) := x
    show h'.get? a = some (PySem.W.methodObj (.ref f) (.ref y))
    exact k a _ (.inl rfl) e
  | ext φ => obtain ⟨p, ⟨o, e⟩, st⟩ := x; exact ⟨st _ _ p fun o q => k _ _ (.inl rfl) q, ⟨o, k _ _ (.inl rfl) e⟩, st⟩
theorem HOk.lt (x : HOk P w H h) (e : H a = some o) : a < h.objs.size := (x a o e).lt
theorem HOk.fresh (x : HOk P w H h) (e : h.objs.size ≤ a) : H a = none := by
  cases q : H a with
  | none => rfl
  | some u => exact absurd (Nat.lt_of_lt_of_le (x.lt q) e) (Nat.lt_irrefl _)
/-- every object of the heap is kept -/
theorem HOk.kept (x : HOk P w H h) (k : ∀ b u, h.get? b = some u → h'.get? b = some u) : HOk P w H h' := fun a o e =>
  (x a o e).stay (fun b u _ q => k b u q) (fun _ q => q) fun _ _ q => q
/-- a new object is laid and tracked -/
theorem HOk.laid (x : HOk P w H h) (k : ∀ b u, h.get? b = some u → h'.get? b = some u) (hp : h.objs.size ≤ a) (new : ObjOk P w (upd H a o) h' a o) : HOk P w (upd H a o) h' := fun b u e => by
  have hn := x.fresh hp
  by_cases hb : b = a
  · subst hb; rw [upd_same] at e; cases e; exact new
  · rw [upd_ne hb] at e
    exact (x b u e).stay (fun c v _ q => k c v q) (fun c q => by rw [upd_ne (ne_of_none q hn)]; exact q) fun c xs q => by rw [upd_ne (ne_of_none q hn)]; exact q
end

/-- what may be read as u: it is u, or a known u -/
def Rd (H : Hp) (a : Addr) (u : HO) : Prop := H a = some u ∨ ∃ o, H a = some (.frz o u)
theorem Rd.ok {P : Program} {w : World} {H : Hp} {h : Heap} {a : Addr} {u : HO} (r : Rd H a u) (x : HOk P w H h) : ObjOk P w H h a u := by
  rcases r with r | ⟨o, r⟩
  · exact x a u r
  · obtain ⟨_, q⟩ := x a _ r
    exact q
/-- what may be written -/
def Mut : Option HO → Prop
  | some (.lst _) => True
  | some (.dK _) => True
  | some (.dT _) => True
  | some (.set _ _) => True
  | some (.ins _ _ _) => True
  | some (.ext _) => True
  | _ => False
section
variable {P : Program} {w : World} {H : Hp} {h h' : Heap} {x e : Addr} {o' : HO}
/-- the object at e is changed: x itself, or the dict of the instance x -/
theorem HOk.write (ok : HOk P w H h) (mu : Mut (H x)) (he : e = x ∨ H e = some (.own x)) (k : ∀ b u, b ≠ e → h.get? b = some u → h'.get? b = some u) (heo : ∃ u, h'.get? e = some u)
    (new : ObjOk P w (upd H x o') h' x o') : HOk P w (upd H x o') h' := fun b u q => by
  have nown : ∀ c y, H c = some (.own y) → c ≠ x := fun c y r z => by subst z; rw [r] at mu; exact mu
  have ntup : ∀ c xs, H c = some (.tup xs) → c ≠ x := fun c xs r z => by subst z; rw [r] at mu; exact mu
  by_cases hb : b = x
  · subst hb; rw [upd_same] at q; cases q; exact new
  · rw [upd_ne hb] at q
    by_cases hbe : b = e
    · have q' : H b = some (.own x) := by
        rcases he with z | z
        · exact absurd (hbe.trans z) hb
        · rw [hbe]; exact z
      rw [q] at q'; cases q'
      obtain ⟨v, hv⟩ := heo
      exact ⟨v, by rw [hbe]; exact hv⟩
    · refine (ok b u q).stay (fun c v hc r => k c v ?_ r) (fun c r => by rw [upd_ne (nown c b r)]; exact r) fun c xs r => by rw [upd_ne (ntup c xs r)]; exact r
      rcases hc with rfl | hc
      · exact hbe
      · rintro rfl
        rcases he with z | z
        · exact nown c b hc z
        · rw [hc] at z; cases z; exact hb rfl
end

/-! ### kept unless tracked; of the frames at fs (the callers') the slots may change (an exception that passes writes there); of the records at ex (iterators) nothing is said -/
structure Un (fs ex : List Addr) (H H' : Hp) (h h' : Heap) : Prop where
  keep : ∀ b o, h.get? b = some o → H b = none → b ∉ fs → b ∉ ex → h'.get? b = some o
  slot : ∀ b o, h.get? b = some o → H b = none → b ∈ fs → b ∉ ex → ∃ sl, h'.get? b = some { o with slots := sl }
  free : ∀ b o, h.get? b = some o → H b = none → b ∉ ex → H' b = none
  there : ∀ b o, h.get? b = some o → b ∉ ex → ∃ o', h'.get? b = some o'
  tups : ∀ b xs, H b = some (.tup xs) → H' b = some (.tup xs)
  frzs : ∀ b o u, H b = some (.frz o u) → H' b = some (.frz o u)
  tbls : ∀ b ps, H b = some (.tbl ps) → ∃ more, H' b = some (.tbl (ps ++ more))
section
variable {fs fs' ex ex' : List Addr} {H H1 H2 : Hp} {h h1 h2 h' : Heap} {a x e : Addr} {o : HO}
theorem Un.any (u : Un fs ex H H1 h h1) {b : Addr} {ob : Obj} (q : h.get? b = some ob) (n : H b = none) (hx : b ∉ ex) : ∃ sl, h1.get? b = some { ob with slots := sl } := by
  by_cases hb : b ∈ fs
  · exact u.slot b ob q n hb hx
  · exact ⟨ob.slots, u.keep b ob q n hb hx⟩
theorem Un.kept (k : ∀ b u, h.get? b = some u → h'.get? b = some u) : Un fs ex H H h h' :=
  ⟨fun b ob q _ _ _ => k b ob q, fun b ob q _ _ _ => ⟨ob.slots, k b ob q⟩, fun _ _ _ n _ => n, fun b ob q _ => ⟨ob, k b ob q⟩, fun _ _ q => q, fun _ _ _ q => q, fun _ ps q => ⟨#[], by rw [q]; simp⟩⟩
theorem Un.refl : Un fs ex H H h h := Un.kept fun _ _ q => q
theorem Un.laid (k : ∀ b u, h.get? b = some u → h'.get? b = some u) (hp : h.objs.size ≤ a) (hn : H a = none) : Un fs ex H (upd H a o) h h' where
  keep := fun b u q _ _ _ => k b u q
  slot := fun b u q _ _ _ => ⟨u.slots, k b u q⟩
  free := fun b u q n _ => by rw [upd_ne (Nat.ne_of_lt (Nat.lt_of_lt_of_le (Heap.lt_size q) hp))]; exact n
  there := fun b u q _ => ⟨u, k b u q⟩
  tups := fun b xs q => by rw [upd_ne (ne_of_none q hn)]; exact q
  frzs := fun b u xs q => by rw [upd_ne (ne_of_none q hn)]; exact q
  tbls := fun b ps q => ⟨#[], by rw [upd_ne (ne_of_none q hn), q]; simp⟩
theorem Un.write (mu : Mut (H x)) (he : e = x ∨ H e = some (.own x)) (k : ∀ b u, b ≠ e → h.get? b = some u → h'.get? b = some u) (heo : ∃ u, h'.get? e = some u) : Un fs ex H (upd H x o) h h' := by
  have hx : ∀ b, H b = none → b ≠ x := fun b n z => by subst z; rw [n] at mu; exact mu
  have hb : ∀ b, H b = none → b ≠ e := fun b n z => by
    subst z
    rcases he with r | r
    · exact hx b n r
    · rw [n] at r; cases r
  have hm : ∀ b u, H b = some u → ¬ Mut (some u) → b ≠ x := fun b u q nm z => by subst z; rw [q] at mu; exact nm mu
  refine ⟨fun b u q n _ _ => k b u (hb b n) q, fun b u q n _ _ => ⟨u.slots, k b u (hb b n) q⟩, fun b u q n _ => by rw [upd_ne (hx b n)]; exact n, fun b u q _ => ?_,
    fun b xs q => by rw [upd_ne (hm b _ q fun z => z)]; exact q, fun b u xs q => by rw [upd_ne (hm b _ q fun z => z)]; exact q, fun b ps q => ⟨#[], by rw [upd_ne (hm b _ q fun z => z), q]; simp⟩⟩
  by_cases hbe : b = e
  · subst hbe; exact heo
  · exact ⟨u, k b u hbe q⟩
end

/-! ### the heap without what is tracked -/
def trk (h : Heap) (H : Hp) : List Addr := (List.range h.objs.size).filter fun a => (H a).isSome
def hidT (h : Heap) (H : Hp) : Heap := PySem.W.hideAll h (trk h H)
theorem hidT_size (h : Heap) (H : Hp) : (hidT h H).objs.size = h.objs.size := PySem.W.hideAll_size _ _
theorem hidT_get {h : Heap} {H : Hp} {b : Addr} {o : Obj} (e : h.get? b = some o) (n : H b = none) : (hidT h H).get? b = some o :=
  PySem.W.hideAll_get _ e fun hm => by
    have q : (H b).isSome = true := (List.mem_filter.mp hm).2
    rw [n] at q; simp at q
theorem of_hidT {h : Heap} {H : Hp} {b : Addr} {o : Obj} (e : (hidT h H).get? b = some o) : h.get? b = some o ∧ H b = none := by
  have e' : h.get? b = some o := PySem.W.of_hideAll (trk h H) e
  refine ⟨e', ?_⟩
  cases q : H b with
  | none => rfl
  | some x =>
    have hm : b ∈ trk h H := List.mem_filter.mpr ⟨List.mem_range.mpr (Heap.lt_size e'), by simp [q]⟩
    have z : (hidT h H).get? b = none := PySem.W.hideAll_none (trk h H) hm
    rw [z] at e; cases e

/-! ### OpenK's ledger, filled with every new object but one -/
def allNews (g h : Heap) (L : Addr) : List (Addr × Obj) := (List.range h.objs.size).filterMap fun a => if a = L ∨ (g.get? a).isSome = true then none else (h.get? a).map fun o => (a, o)
def rest (g h : Heap) (L d : Addr) : List (Addr × Obj) := (allNews g h L).filter fun p => decide (p.1 ≠ d)
end L2

namespace L2
open PySem PySem.Spec PyProof.Rows

/-- the module's facts, over the base: the heap at the law's entry without what is tracked there -/
structure Mod (K : PySem.W.Frag) (mg : Str → Option Value) (base : Heap) : Prop where
  kin : K.In base
  glob : base.Ns mainGlobals mg
  blt : ∃ mb, base.Ns builtinsNs mb ∧ ∀ x : Str, x ≠ "__name__" → mb x = bootBuiltins x
  nolimit : base.NoLimit

/-- the context: a def's body (or a comprehension's block) running. base: fixed through the whole law; s₀, H₀: the entry; outer: the frames whose slots others may change (a def's callers); stack: all frames that run;
   ex: iterators that were made ahead of the entry and are walked here (a comprehension's); fn: the names whose cells were made at the entry (a def: all; a comprehension's block: its own); calm: not within an except suite; pn: pins that every state bears; xe: what is wanted of an exception that leaves the code -/
structure Cx where
  prog : Program
  w : World
  K : PySem.W.Frag
  mg : Str → Option Value
  base : Heap
  A : Around
  N : List Str
  s₀ : Shared
  H₀ : Hp
  env : Env
  outer : List Env
  stack : List Env
  ex : List Addr
  fn : Str → Bool
  calm : Bool
  pn : List (Addr × Obj)
  xe : Value → Shared → Prop
/-- the callers' frames -/
def frs (l : List Env) : List Addr := l.filterMap (·.frame)
abbrev Cx.fs (X : Cx) : List Addr := frs X.outer

def Vis (sc : Scope) (x : Str) : Prop := sc.names.lookup x = some .local ∨ sc.names.lookup x = some .cell ∨ sc.names.lookup x = some .free
def Loc (sc : Scope) (x : Str) : Prop := sc.names.lookup x = some .local ∨ sc.names.lookup x = some .cell
def Look (env : Env) (h : Heap) (m : Str → Option Value) (x : Str) (u : Value) : Prop :=
  (env.kindOf x = some .local ∧ m x = some u) ∨ ((env.kindOf x = some .cell ∨ env.kindOf x = some .free) ∧ ∃ c, env.cells.lookup x = some c ∧ h.IsCell c (some u))

structure Cx.Ok (X : Cx) : Prop where
  mod : Mod X.K X.mg X.base
  kind : X.env.scope.kind = .function
  glob : X.env.globals = mainGlobals
  blt : X.env.builtins = builtinsNs
  above : X.s₀.heap.objs.size ≤ X.env.locals
  inj : ∀ x y c, X.env.cells.lookup x = some c → X.env.cells.lookup y = some c → x = y
  has : ∀ x, (X.env.kindOf x = some .cell ∨ X.env.kindOf x = some .free) → ∃ c, X.env.cells.lookup x = some c
  cab : ∀ x c, X.fn x = true → X.env.cells.lookup x = some c → X.s₀.heap.objs.size ≤ c
  hd : X.calm = true → X.A.handled = none
  frames : X.A.frames = some X.stack
  stk : X.stack = X.outer ∨ (X.stack = X.env :: X.outer ∧ X.env.frame = some X.env.locals)
  exf : ∀ b ∈ X.ex, b ≠ X.env.locals ∧ ∀ x c, X.env.cells.lookup x = some c → c ≠ b
  bs : ∀ b o, X.base.get? b = some o → X.s₀.heap.get? b = some o ∧ X.H₀ b = none
  bsz : X.base.objs.size ≤ X.s₀.heap.objs.size
  noex : ∀ b o, X.base.get? b = some o → b ∉ X.ex
  exfs : ∀ b ∈ X.ex, b ∉ X.fs
  funs : X.s₀.heap.FunFrames X.base X.outer
  frf : ∀ b ∈ X.fs, X.H₀ b = none

structure Inv (X : Cx) (pins : List (Addr × Obj)) (σ : List (Option V)) (H : Hp) (s : Shared) : Prop where
  ok : X.Ok
  os : s.os = X.s₀.os
  bare : AllBare s.gens
  base : Un X.fs X.ex X.H₀ H X.s₀.heap s.heap
  loc : ∃ m, s.heap.Ns X.env.locals m ∧ ∀ (i : Nat) (x : Str) (v : V), X.N[i]? = some x → σ[i]? = some (some v) → Vis X.env.scope x → ∃ u, RelV v u ∧ Look X.env s.heap m x u
  cell : ∀ x c, X.env.cells.lookup x = some c → ∃ v, s.heap.IsCell c v
  free : H X.env.locals = none
  freeC : ∀ x c, X.env.cells.lookup x = some c → H c = none
  pin : ∀ p ∈ X.pn ++ pins, s.heap.get? p.1 = some p.2 ∧ H p.1 = none ∧ p.1 ≠ X.env.locals ∧ p.1 ∉ X.fs ∧ ∀ v, p.2.data ≠ .cell v
  hok : HOk X.prog X.w H s.heap
  len : σ.length = X.N.length

section
variable {X : Cx} {pins : List (Addr × Obj)} {σ : List (Option V)} {H H' : Hp} {s : Shared} {h' : Heap}

theorem Cx.Ok.nofr (ok : X.Ok) {b : Addr} {o : Obj} (e : X.base.get? b = some o) : b ∉ X.fs := fun hb => by
  have := (ok.funs.mem hb).1
  rw [e] at this; cases this
theorem Inv.bs (I : Inv X pins σ H s) : ∀ b o, X.base.get? b = some o → s.heap.get? b = some o ∧ H b = none := fun b o e =>
  ⟨I.base.keep b o (I.ok.bs b o e).1 (I.ok.bs b o e).2 (I.ok.nofr e) (I.ok.noex b o e), I.base.free b o (I.ok.bs b o e).1 (I.ok.bs b o e).2 (I.ok.noex b o e)⟩
theorem Inv.bk (I : Inv X pins σ H s) : ∀ b o, X.base.get? b = some o → s.heap.get? b = some o := fun b o e => (I.bs b o e).1
theorem Inv.mod (I : Inv X pins σ H s) : Mod X.K X.mg X.base := I.ok.mod
theorem Inv.kIn (I : Inv X pins σ H s) : X.K.In s.heap := I.ok.mod.kin.keeps I.bk
theorem Inv.lt (I : Inv X pins σ H s) : X.env.locals < s.heap.objs.size := let ⟨_, hn, _⟩ := I.loc; hn.lt
theorem Inv.sz (I : Inv X pins σ H s) : X.s₀.heap.objs.size ≤ s.heap.objs.size := Nat.le_trans I.ok.above (Nat.le_of_lt I.lt)
theorem Inv.nofs (I : Inv X pins σ H s) {a : Addr} (h : s.heap.objs.size ≤ a) : a ∉ X.fs := fun hb => by
  obtain ⟨_, o, ho, _⟩ := I.ok.funs.mem hb
  exact absurd (Nat.lt_of_lt_of_le (Heap.lt_size ho) (Nat.le_trans I.sz h)) (Nat.lt_irrefl _)
theorem Inv.cne (I : Inv X pins σ H s) : ∀ x c, X.env.cells.lookup x = some c → c ≠ X.env.locals := fun x c e z => by
  obtain ⟨v, o, ho, hd⟩ := I.cell x c e
  obtain ⟨m, ⟨o', es, ep, ho', hd', _⟩, _⟩ := I.loc
  rw [z, ho'] at ho; cases ho; rw [hd'] at hd; cases hd
theorem Inv.funs (I : Inv X pins σ H s) : s.heap.FunFrames X.base X.outer := by
  have all : ∀ (l : List Env), (∀ b ∈ frs l, b ∈ X.fs) → X.s₀.heap.FunFrames X.base l → s.heap.FunFrames X.base l := by
    intro l
    induction l with
    | nil => intro _ _; trivial
    | cons env r ih =>
      intro hs hl
      obtain ⟨hk, ⟨L, o, hf, hn, ho, hd⟩, hr⟩ := hl
      have hL : L ∈ X.fs := hs L (by unfold frs; rw [List.filterMap_cons, hf]; exact List.mem_cons_self)
      obtain ⟨sl, e⟩ := I.base.slot L o ho (I.ok.frf L hL) hL fun z => I.ok.exfs L z hL
      exact ⟨hk, ⟨L, _, hf, hn, e, hd⟩, ih (fun b hb => hs b (by unfold frs; rw [List.filterMap_cons, hf]; exact List.mem_cons_of_mem _ hb)) hr⟩
  exact all X.outer (fun _ hb => hb) I.ok.funs

/-- the frames that run, for a call -/
theorem Inv.stack (I : Inv X pins σ H s) : s.heap.FunFrames X.base X.stack := by
  rcases I.ok.stk with e | ⟨e, hf⟩
  · rw [e]; exact I.funs
  · rw [e]
    obtain ⟨m, hn, _⟩ := I.loc
    refine .cons (by rw [I.ok.kind]; decide) hf hn ?_ I.funs
    exact Heap.get?_none_of_le (Nat.le_trans I.ok.bsz I.ok.above)
theorem Inv.stkSub (I : Inv X pins σ H s) : ∀ b ∈ frs X.stack, b ∈ X.env.locals :: X.fs := fun b hb => by
  rcases I.ok.stk with e | ⟨e, hf⟩
  · rw [e] at hb; exact List.mem_cons_of_mem _ hb
  · rw [e] at hb
    unfold frs at hb
    rw [List.filterMap_cons, hf] at hb
    exact hb
theorem Inv.stkFree (I : Inv X pins σ H s) : ∀ b ∈ frs X.stack, H b = none := fun b hb => by
  rcases List.mem_cons.mp (I.stkSub b hb) with e | hb
  · rw [e]; exact I.free
  · obtain ⟨_, o, ho, _⟩ := I.ok.funs.mem hb
    exact I.base.free b o ho (I.ok.frf b hb) fun z => I.ok.exfs b z hb

/-- THE STEP: the untracked objects but the frame and the records at ch are kept (the callers' frames up to slots), the frame's map is kept, the new abstract heap is held -/
theorem Inv.step {g' : Array GenState} {t' : Nat} {d' : Drawn} {ch : List Addr} (I : Inv X pins σ H s)
    (hch : ∀ b ∈ ch, (b ∈ X.ex ∨ X.s₀.heap.objs.size ≤ b) ∧ b ≠ X.env.locals ∧ (∀ x c, X.env.cells.lookup x = some c → c ≠ b) ∧ ∀ p ∈ X.pn ++ pins, p.1 ≠ b)
    (keep : ∀ b o, b ≠ X.env.locals → b ∉ X.fs → b ∉ ch → s.heap.get? b = some o → H b = none → h'.get? b = some o)
    (slot : ∀ b o, b ≠ X.env.locals → b ∈ X.fs → b ∉ ch → s.heap.get? b = some o → H b = none → ∃ sl, h'.get? b = some { o with slots := sl }) (free : ∀ b o, b ∉ ch → s.heap.get? b = some o → H b = none → H' b = none)
    (there : ∀ b o, b ∉ ch → s.heap.get? b = some o → ∃ o', h'.get? b = some o')
    (tups : ∀ b xs, H b = some (.tup xs) → H' b = some (.tup xs)) (frzs : ∀ b o u, H b = some (.frz o u) → H' b = some (.frz o u)) (tbls : ∀ b ps, H b = some (.tbl ps) → ∃ more, H' b = some (.tbl (ps ++ more)))
    (ns : ∀ m, s.heap.Ns X.env.locals m → h'.Ns X.env.locals m) (hok : HOk X.prog X.w H' h') (hg : AllBare g') :
    Inv X pins σ H' { s with heap := h', gens := g', drawn := d', toks := t' } := by
  have neL : ∀ b o, X.s₀.heap.get? b = some o → b ≠ X.env.locals := fun b o e => Nat.ne_of_lt (Nat.lt_of_lt_of_le (Heap.lt_size e) I.ok.above)
  have neC : ∀ b o, X.s₀.heap.get? b = some o → b ∉ X.ex → b ∉ ch := fun b o e hx hb => by
    rcases (hch b hb).1 with z | z
    · exact hx z
    · exact absurd (Nat.lt_of_lt_of_le (Heap.lt_size e) z) (Nat.lt_irrefl _)
  have cellK : ∀ x c, X.env.cells.lookup x = some c → ∀ v, s.heap.IsCell c v → h'.IsCell c v := fun x c e v ⟨o, ho, hd⟩ => by
    have nch : c ∉ ch := fun z => (hch c z).2.2.1 x c e rfl
    by_cases hc : c ∈ X.fs
    · obtain ⟨sl, q⟩ := slot c o (I.cne x c e) hc nch ho (I.freeC x c e)
      exact ⟨_, q, hd⟩
    · exact ⟨o, keep c o (I.cne x c e) hc nch ho (I.freeC x c e), hd⟩
  refine ⟨I.ok, I.os, hg, ⟨fun b o e n hb hx => ?_, fun b o e n hb hx => ?_, fun b o e n hx => ?_, fun b o e hx => ?_, fun b xs e => tups b xs (I.base.tups b xs e), fun b o xs e => frzs b o xs (I.base.frzs b o xs e), fun b ps e => ?_⟩, ?_, fun x c e => ?_, ?_, fun x c e => ?_, fun p hp => ?_, hok, I.len⟩
  · exact keep b o (neL b o e) hb (neC b o e hx) (I.base.keep b o e n hb hx) (I.base.free b o e n hx)
  · obtain ⟨sl, e1⟩ := I.base.slot b o e n hb hx
    obtain ⟨sl', e2⟩ := slot b _ (neL b o e) hb (neC b o e hx) e1 (I.base.free b o e n hx)
    exact ⟨sl', e2⟩
  · obtain ⟨o', e1⟩ := I.base.there b o e hx
    exact free b o' (neC b o e hx) e1 (I.base.free b o e n hx)
  · obtain ⟨o', e1⟩ := I.base.there b o e hx
    exact there b o' (neC b o e hx) e1
  · obtain ⟨m1, e1⟩ := I.base.tbls b ps e
    obtain ⟨m2, e2⟩ := tbls b _ e1
    exact ⟨m1 ++ m2, by rw [e2, Array.append_assoc]⟩
  · obtain ⟨m, hn, hl⟩ := I.loc
    refine ⟨m, ns m hn, fun i x v e1 e2 e3 => ?_⟩
    obtain ⟨u, r, l⟩ := hl i x v e1 e2 e3
    refine ⟨u, r, ?_⟩
    rcases l with l | ⟨k, c, e, z⟩
    · exact .inl l
    · exact .inr ⟨k, c, e, cellK x c e _ z⟩
  · obtain ⟨v, z⟩ := I.cell x c e
    exact ⟨v, cellK x c e v z⟩
  · obtain ⟨m, ⟨o, _, _, ho, _⟩, _⟩ := I.loc
    exact free _ o (fun z => (hch _ z).2.1 rfl) ho I.free
  · obtain ⟨v, o, ho, hd⟩ := I.cell x c e
    exact free c o (fun z => (hch c z).2.2.1 x c e rfl) ho (I.freeC x c e)
  · obtain ⟨e, n, ne, nf, d⟩ := I.pin p hp
    have nch : p.1 ∉ ch := fun z => (hch p.1 z).2.2.2 p hp rfl
    exact ⟨keep p.1 p.2 ne nf nch e n, free p.1 p.2 nch e n, ne, nf, d⟩
/-- .. where the frame's own object is kept too -/
theorem Inv.un {t' : Nat} (I : Inv X pins σ H s) (u : Un X.fs [] H H' s.heap h') (hok : HOk X.prog X.w H' h') : Inv X pins σ H' { s with heap := h', toks := t' } := by
  obtain ⟨m, ⟨o, es, ep, ho, r⟩, _⟩ := id I.loc
  obtain ⟨sl, hL⟩ := u.any ho I.free (by simp)
  exact I.step (g' := s.gens) (d' := s.drawn) (ch := []) (fun _ z => nomatch z) (fun b o _ hb _ e n => u.keep b o e n hb (by simp)) (fun b o _ hb _ e n => u.slot b o e n hb (by simp)) (fun b o _ e n => u.free b o e n (by simp)) (fun b o _ e => u.there b o e (by simp)) u.tups u.frzs u.tbls (fun m' hm => by
    obtain ⟨o', es', ep', ho', r'⟩ := hm
    rw [ho] at ho'; cases ho'
    exact ⟨_, es', ep', hL, r'⟩) hok I.bare
/-- behind a call (or a comprehension's block): the slots of this frame may have changed too, the records at ch may have turned -/
theorem Inv.call {g' : Array GenState} {t' : Nat} {d' : Drawn} {ch : List Addr} (I : Inv X pins σ H s) (u : Un (frs X.stack) ch H H' s.heap h') (hok : HOk X.prog X.w H' h') (hg : AllBare g')
    (hch : ∀ b ∈ ch, (b ∈ X.ex ∨ X.s₀.heap.objs.size ≤ b) ∧ b ≠ X.env.locals ∧ (∀ x c, X.env.cells.lookup x = some c → c ≠ b) ∧ ∀ p ∈ X.pn ++ pins, p.1 ≠ b) :
    Inv X pins σ H' { s with heap := h', gens := g', drawn := d', toks := t' } := by
  obtain ⟨m, ⟨o, es, ep, ho, r⟩, _⟩ := id I.loc
  obtain ⟨sl, hL⟩ := u.any ho I.free fun z => (hch _ z).2.1 rfl
  exact I.step (ch := ch) hch (fun b o hL hb hc e n => u.keep b o e n (fun z => (List.mem_cons.mp (I.stkSub b z)).elim hL hb) hc) (fun b o _ _ hc e n => u.any e n hc) (fun b o hc e n => u.free b o e n hc) (fun b o hc e => u.there b o e hc) u.tups u.frzs u.tbls (fun m' hm => by
    obtain ⟨o', es', ep', ho', r'⟩ := hm
    rw [ho] at ho'; cases ho'
    exact ⟨_, es', ep', hL, r'⟩) hok hg
/-- an untracked record of ours (an iterator) has turned -/
theorem Inv.turned {t' : Nat} {it : Addr} (I : Inv X pins σ H s) (k : ∀ b o, b ≠ it → s.heap.get? b = some o → h'.get? b = some o) (hn : H it = none) (hL : it ≠ X.env.locals)
    (h1 : it ∈ X.ex ∨ X.s₀.heap.objs.size ≤ it) (h2 : ∀ x c, X.env.cells.lookup x = some c → c ≠ it) (h3 : ∀ p ∈ X.pn ++ pins, p.1 ≠ it) : Inv X pins σ H { s with heap := h', toks := t' } := by
  have nit : ∀ b u, H b = some u → b ≠ it := fun b u e z => by rw [z, hn] at e; cases e
  refine I.step (g' := s.gens) (d' := s.drawn) (ch := [it]) (fun b hb => ?_) (fun b o _ _ hc e _ => k b o (fun z => hc (by simp [z])) e) (fun b o _ _ hc e _ => ⟨o.slots, k b o (fun z => hc (by simp [z])) e⟩) (fun _ _ _ _ n => n)
    (fun b o hc e => ⟨o, k b o (fun z => hc (by simp [z])) e⟩) (fun _ _ e => e) (fun _ _ _ e => e) (fun b ps e => ⟨#[], by rw [e]; simp⟩) (fun m hm => ?_) (fun b u e => ?_) I.bare
  · have e : b = it := by simpa using hb
    subst e
    exact ⟨h1, hL, h2, h3⟩
  · obtain ⟨o, es, ep, ho, r⟩ := hm
    exact ⟨o, es, ep, k _ o (Ne.symm hL) ho, r⟩
  · refine (I.hok b u e).stay (fun c v hc q => k c v ?_ q) (fun _ q => q) fun _ _ q => q
    rcases hc with z | z
    · rw [z]; exact nit b u e
    · exact nit c _ z
theorem Inv.tok (I : Inv X pins σ H s) (t : Nat) : Inv X pins σ H { s with toks := t } := I.un (h' := s.heap) (t' := t) Un.refl I.hok
/-- all objects kept -/
theorem Inv.kept {t' : Nat} (I : Inv X pins σ H s) (k : ∀ b u, s.heap.get? b = some u → h'.get? b = some u) : Inv X pins σ H { s with heap := h', toks := t' } := I.un (Un.kept k) (I.hok.kept k)
/-- a new object laid and tracked -/
theorem Inv.laid {a : Addr} {o : HO} {t' : Nat} (I : Inv X pins σ H s) (k : ∀ b u, s.heap.get? b = some u → h'.get? b = some u) (hp : s.heap.objs.size ≤ a) (new : ObjOk X.prog X.w (upd H a o) h' a o) :
    Inv X pins σ (upd H a o) { s with heap := h', toks := t' } := I.un (Un.laid k hp (I.hok.fresh hp)) (I.hok.laid k hp new)
/-- an object written -/
theorem Inv.write {x e : Addr} {o : HO} {t' : Nat} (I : Inv X pins σ H s) (mu : Mut (H x)) (he : e = x ∨ H e = some (.own x)) (k : ∀ b u, b ≠ e → s.heap.get? b = some u → h'.get? b = some u) (heo : ∃ u, h'.get? e = some u)
    (new : ObjOk X.prog X.w (upd H x o) h' x o) : Inv X pins σ (upd H x o) { s with heap := h', toks := t' } := I.un (Un.write mu he k heo) (I.hok.write mu he k heo new)
theorem Inv.pins_of {pins' : List (Addr × Obj)} (I : Inv X pins σ H s) (h : ∀ p ∈ pins', s.heap.get? p.1 = some p.2 ∧ H p.1 = none ∧ p.1 ≠ X.env.locals ∧ p.1 ∉ X.fs ∧ ∀ v, p.2.data ≠ .cell v) : Inv X pins' σ H s :=
  ⟨I.ok, I.os, I.bare, I.base, I.loc, I.cell, I.free, I.freeC, fun p hp => (List.mem_append.mp hp).elim (fun z => I.pin p (List.mem_append_left _ z)) (h p), I.hok, I.len⟩

theorem nodup_ix {N : List Str} (hN : N.Nodup) {i j : Nat} {x : Str} (a : N[i]? = some x) (b : N[j]? = some x) : i = j := by
  obtain ⟨h1, e1⟩ := List.getElem?_eq_some_iff.mp a
  obtain ⟨h2, e2⟩ := List.getElem?_eq_some_iff.mp b
  exact (List.getElem_inj hN).mp (e1.trans e2.symm)

/-- a name is stored; what changed -/
theorem store_ok2 {M : Model} {A : Around} {E : Value → Shared → Prop} {i : Nat} {x : Str} {v : V} {u : Value} {Q : Unit → Shared → Prop} (I : Inv X pins σ H s) (hN : X.N.Nodup) (hi : X.N[i]? = some x) (hx : Loc X.env.scope x) (r : RelV v u)
    (h : ∀ s', Inv X pins (σ.set i (some v)) H s' → (∃ a, Heap.SameBut a s.heap s'.heap ∧ (a = X.env.locals ∨ X.env.cells.lookup x = some a)) → Q () s') (hf : X.fn x = true ∨ X.env.scope.names.lookup x = some .local := by first | exact .inl rfl | exact .inr rfl | assumption) : wpAny M A (storeName X.env x u) Q E s := by
  obtain ⟨m, hn, hl⟩ := id I.loc
  have hcls : (X.env.scope.kind == .class || (X.env.scope.kind == .module && X.env.locals != X.env.globals)) = false := by rw [I.ok.kind]; rfl
  have hiσ : i < σ.length := by rw [I.len]; exact (List.getElem?_eq_some_iff.mp hi).1
  have cne := I.cne
  have tracked : ∀ {a : Addr} {h' : Heap}, (∃ o, s.heap.get? a = some o ∧ H a = none) → Heap.SameBut a s.heap h' → HOk X.prog X.w H h' := fun {a h'} ha hs b ob e => by
    obtain ⟨_, _, hfree⟩ := ha
    refine (I.hok b ob e).stay (fun c w' hc q => (hs.2 c ?_).trans q) (fun _ q => q) fun _ _ q => q
    rintro rfl
    rcases hc with rfl | hc
    · rw [hfree] at e; cases e
    · rw [hfree] at hc; cases hc
  rcases hx with hk | hk
  · refine wpAny_storeName_local hk hn (fun h' hn' hs => ?_) hcls
    obtain ⟨oL, _, _, hoL, _⟩ := id hn
    refine h _ ⟨I.ok, I.os, I.bare, ⟨fun b o e n hb hx => ?_, fun b o e n hb hx => ?_, I.base.free, fun b o e hx => ?_, I.base.tups, I.base.frzs, I.base.tbls⟩, ⟨_, hn', fun j y v' e1 e2 e3 => ?_⟩, fun y c e => ?_, I.free, I.freeC, fun p hp => ?_, tracked ⟨oL, hoL, I.free⟩ hs, by simpa using I.len⟩ ⟨_, hs, .inl rfl⟩
    · exact (hs.2 b (Nat.ne_of_lt (Nat.lt_of_lt_of_le (Heap.lt_size e) I.ok.above))).trans (I.base.keep b o e n hb hx)
    · obtain ⟨sl, e1⟩ := I.base.slot b o e n hb hx
      exact ⟨sl, (hs.2 b (Nat.ne_of_lt (Nat.lt_of_lt_of_le (Heap.lt_size e) I.ok.above))).trans e1⟩
    · obtain ⟨o', e1⟩ := I.base.there b o e hx
      exact ⟨o', (hs.2 b (Nat.ne_of_lt (Nat.lt_of_lt_of_le (Heap.lt_size e) I.ok.above))).trans e1⟩
    · by_cases hj : j = i
      · subst hj
        rw [hi] at e1; cases e1
        rw [List.getElem?_set_self hiσ] at e2
        cases e2
        exact ⟨u, r, .inl ⟨hk, by simp⟩⟩
      · rw [List.getElem?_set_ne (Ne.symm hj)] at e2
        obtain ⟨u', r', q⟩ := hl j y v' e1 e2 e3
        refine ⟨u', r', ?_⟩
        rcases q with ⟨k, e⟩ | ⟨k, c, e, z⟩
        · refine .inl ⟨k, ?_⟩
          have : y ≠ x := fun e => hj (nodup_ix hN e1 (e ▸ hi))
          simp [this, e]
        · exact .inr ⟨k, c, e, z.sameBut hs (cne y c e)⟩
    · obtain ⟨w', z⟩ := I.cell y c e
      exact ⟨w', z.sameBut hs (cne y c e)⟩
    · obtain ⟨e, n, ne, nf, d⟩ := I.pin p hp
      exact ⟨(hs.2 p.1 ne).trans e, n, ne, nf, d⟩
  · have hfn : X.fn x = true := by
      rcases hf with z | z
      · exact z
      · rw [z] at hk; cases hk
    obtain ⟨c, hc⟩ := I.ok.has x (.inl hk)
    obtain ⟨w', z⟩ := I.cell x c hc
    refine wpAny_storeName_cell I.ok.kind hk hc z (fun h' hc' hs => ?_)
    obtain ⟨oc, hoc, hocd⟩ := id z
    refine h { s with heap := h' } ⟨I.ok, I.os, I.bare, ⟨fun b o e n hb hx => ?_, fun b o e n hb hx => ?_, I.base.free, fun b o e hx => ?_, I.base.tups, I.base.frzs, I.base.tbls⟩, ⟨m, hn.sameBut hs (Ne.symm (cne x c hc)), fun j y v' e1 e2 e3 => ?_⟩, fun y c' e => ?_, I.free, I.freeC, fun p hp => ?_, tracked ⟨oc, hoc, I.freeC x c hc⟩ hs, by simpa using I.len⟩ ⟨c, hs, .inr hc⟩
    · exact (hs.2 b (Nat.ne_of_lt (Nat.lt_of_lt_of_le (Heap.lt_size e) (I.ok.cab x c hfn hc)))).trans (I.base.keep b o e n hb hx)
    · obtain ⟨sl, e1⟩ := I.base.slot b o e n hb hx
      exact ⟨sl, (hs.2 b (Nat.ne_of_lt (Nat.lt_of_lt_of_le (Heap.lt_size e) (I.ok.cab x c hfn hc)))).trans e1⟩
    · obtain ⟨o', e1⟩ := I.base.there b o e hx
      exact ⟨o', (hs.2 b (Nat.ne_of_lt (Nat.lt_of_lt_of_le (Heap.lt_size e) (I.ok.cab x c hfn hc)))).trans e1⟩
    · by_cases hj : j = i
      · subst hj
        rw [hi] at e1; cases e1
        rw [List.getElem?_set_self hiσ] at e2
        cases e2
        exact ⟨u, r, .inr ⟨.inl hk, c, hc, hc'⟩⟩
      · rw [List.getElem?_set_ne (Ne.symm hj)] at e2
        obtain ⟨u', r', q⟩ := hl j y v' e1 e2 e3
        refine ⟨u', r', ?_⟩
        rcases q with q | ⟨k, c', e, z'⟩
        · exact .inl q
        · refine .inr ⟨k, c', e, z'.sameBut hs ?_⟩
          rintro rfl
          exact hj (nodup_ix hN e1 (I.ok.inj _ _ _ e hc ▸ hi))
    · by_cases hcc : c' = c
      · subst hcc; exact ⟨_, hc'⟩
      · obtain ⟨w2, z2⟩ := I.cell y c' e
        exact ⟨w2, z2.sameBut hs hcc⟩
    · obtain ⟨e, n, ne, nf, d⟩ := I.pin p hp
      refine ⟨(hs.2 p.1 ?_).trans e, n, ne, nf, d⟩
      intro q
      rw [q, hoc] at e
      have q' : oc = p.2 := Option.some.inj e
      exact d w' (by rw [← q']; exact hocd)
theorem store_ok {M : Model} {A : Around} {E : Value → Shared → Prop} {i : Nat} {x : Str} {v : V} {u : Value} {Q : Unit → Shared → Prop} (I : Inv X pins σ H s) (hN : X.N.Nodup) (hi : X.N[i]? = some x) (hx : Loc X.env.scope x) (r : RelV v u)
    (h : ∀ s', Inv X pins (σ.set i (some v)) H s' → Q () s') (hf : X.fn x = true ∨ X.env.scope.names.lookup x = some .local := by first | exact .inl rfl | exact .inr rfl | assumption) : wpAny M A (storeName X.env x u) Q E s :=
  store_ok2 I hN hi hx r (fun s' I' _ => h s' I') hf
/-- behind a call or a block, the state as it is -/
theorem Inv.call' {s' : Shared} {ch : List Addr} (I : Inv X pins σ H s) (ho : s'.os = s.os) (u : Un (frs X.stack) ch H H' s.heap s'.heap) (hok : HOk X.prog X.w H' s'.heap) (hg : AllBare s'.gens)
    (hch : ∀ b ∈ ch, (b ∈ X.ex ∨ X.s₀.heap.objs.size ≤ b) ∧ b ≠ X.env.locals ∧ (∀ x c, X.env.cells.lookup x = some c → c ≠ b) ∧ ∀ p ∈ X.pn ++ pins, p.1 ≠ b) : Inv X pins σ H' s' := by
  obtain ⟨h', g', d', t', o'⟩ := s'
  have e : o' = s.os := ho
  subst e
  exact I.call (g' := g') (t' := t') (d' := d') u hok hg hch
end

/-! ### the judgements -/
/-- an exception: its class, its own dict's address (where it has one), the abstract heap behind it -/
abbrev XK := Value → Option Addr → Hp → Prop
abbrev St := List (Option V)
abbrev VK := V → Hp → Prop
/-- an expression's reading; a test's; an argument list's -/
abbrev TE := St → Hp → VK → Prop
abbrev TT := St → Hp → (Bool → Hp → Prop) → Prop
abbrev TA := St → Hp → (List V → Hp → Prop) → Prop
/-- what is wanted behind a statement -/
structure Ends where
  nx : St → Hp → Prop
  rt : VK
  bk : St → Hp → Prop := fun _ _ => False
  ct : St → Hp → Prop := fun _ _ => False
abbrev TS := Ends → St → Hp → Prop

def EP (X : Cx) (pins : List (Addr × Obj)) (σ : St) (Q : VK) (u : Value) (s' : Shared) : Prop := ∃ v H', Inv X pins σ H' s' ∧ RelV v u ∧ Q v H'
def TP (X : Cx) (pins : List (Addr × Obj)) (σ : St) (Q : Bool → Hp → Prop) (b : Bool) (s' : Shared) : Prop := ∃ H', Inv X pins σ H' s' ∧ Q b H'
def AP (X : Cx) (pins : List (Addr × Obj)) (σ : St) (Q : List V → Hp → Prop) (us : List Value) (s' : Shared) : Prop := ∃ vs H', Inv X pins σ H' s' ∧ Vals vs us ∧ Q vs H'
def SP (X : Cx) (pins : List (Addr × Obj)) (D : Ends) (f : Flow) (s' : Shared) : Prop :=
  match f with
  | .next => ∃ σ' H', Inv X pins σ' H' s' ∧ D.nx σ' H'
  | .brk => ∃ σ' H', Inv X pins σ' H' s' ∧ D.bk σ' H'
  | .cont => ∃ σ' H', Inv X pins σ' H' s' ∧ D.ct σ' H'
  | .ret u => ∃ v σ' H', Inv X pins σ' H' s' ∧ RelV v u ∧ D.rt v H'

def PE (X : Cx) (e : Expr) (t : TE) : Prop :=
  ∀ (pins : List (Addr × Obj)) (s : Shared) (σ : St) (H : Hp) (Q : VK), Inv X pins σ H s → t σ H Q → wpAny (model X.prog X.w) X.A (eval e X.env) (EP X pins σ Q) X.xe s
def PT (X : Cx) (e : Expr) (t : TT) : Prop :=
  ∀ (pins : List (Addr × Obj)) (s : Shared) (σ : St) (H : Hp) (Q : Bool → Hp → Prop), Inv X pins σ H s → t σ H Q → wpAny (model X.prog X.w) X.A (isTrue e X.env (eval e X.env)) (TP X pins σ Q) X.xe s
/-- a test whatever its 'whole' is (and, or) -/
def PW (X : Cx) (e : Expr) (t : TT) : Prop :=
  ∀ (whole : Sem Value) (pins : List (Addr × Obj)) (s : Shared) (σ : St) (H : Hp) (Q : Bool → Hp → Prop), Inv X pins σ H s → t σ H Q → wpAny (model X.prog X.w) X.A (isTrue e X.env whole) (TP X pins σ Q) X.xe s
theorem PW.pt {X : Cx} {e : Expr} {t : TT} (h : PW X e t) : PT X e t := h _
/-- an argument list (no star), from the left -/
def PA (X : Cx) (es : List Expr) (t : TA) : Prop :=
  ∀ (pos : Pos) (pins : List (Addr × Obj)) (s : Shared) (σ : St) (H : Hp) (Q : List V → Hp → Prop), Inv X pins σ H s → t σ H Q → wpAny (model X.prog X.w) X.A (spliced (backTo pos (starEach es X.env))) (AP X pins σ Q) X.xe s
def PS (X : Cx) (st : Stmt) (t : TS) : Prop :=
  ∀ (pins : List (Addr × Obj)) (s : Shared) (σ : St) (H : Hp) (D : Ends), Inv X pins σ H s → t D σ H → wpAny (model X.prog X.w) X.A (exec st X.env) (SP X pins D) X.xe s
def PSs (X : Cx) (st : List Stmt) (t : TS) : Prop :=
  ∀ (pins : List (Addr × Obj)) (s : Shared) (σ : St) (H : Hp) (D : Ends), Inv X pins σ H s → t D σ H → wpAny (model X.prog X.w) X.A (execs st X.env) (SP X pins D) X.xe s
/-- weaken the end -/
theorem thn {α : Type} {t : Sem α} {Q Q' : α → Shared → Prop} {M : Model} {A : Around} {E : Value → Shared → Prop} {s : Shared} (h : wpAny M A t Q E s) (hQ : ∀ a s, Q a s → Q' a s) : wpAny M A t Q' E s := wpAny_mono h hQ fun _ _ x => x
end L2

namespace L2
open PySem PySem.Spec PyProof.Rows
section
variable {X : Cx}

/-! ### names and constants -/
def tVar (i : Nat) : TE := fun σ H Q => ∃ v, σ[i]? = some (some v) ∧ Q v H
def tC (v : V) : TE := fun _ H Q => Q v H
theorem pe_var {i : Nat} {x : Str} {pos : Pos} (hN : X.N[i]? = some x) (hv : Vis X.env.scope x) (hd : (x == ("__debug__" : Str)) = false := by decide) (hcd : (x == ("__classdict__" : Str)) = false := by decide) : PE X (.Name x pos) (tVar i) := by
  intro pins s σ H Q I h
  obtain ⟨v, e, h⟩ := h
  obtain ⟨m, hn, hl⟩ := I.loc
  obtain ⟨u, r, l⟩ := hl i x v hN e hv
  have fin : EP X pins σ Q u s := ⟨v, H, I, r, h⟩
  rcases l with ⟨hk, hm⟩ | ⟨hk, c, hc, hcell⟩
  · exact wpAny_Name (wpAny_loadName_local I.ok.kind hk hn hm fin) hd
  · rcases hk with hk | hk
    · exact wpAny_Name (wpAny_loadName_cell I.ok.kind hk hc hcell fin) hd
    · exact wpAny_Name (wpAny_loadName_free I.ok.kind hk hc hcell fin hcd) hd
theorem pe_int {i j pos} : PE X (.Constant (.int i) j pos) (tC (.int i)) := fun _ _ _ H _ I h => wpAny_Constant_int ⟨.int i, H, I.tok _, ⟨_, rfl⟩, h⟩
theorem pe_bl {b j pos} : PE X (.Constant (.bool b) j pos) (tC (.bl b)) := fun _ _ _ H _ I h => Constant_bool ⟨.bl b, H, I, rfl, h⟩
theorem pe_non {j pos} : PE X (.Constant .none j pos) (tC .non) := fun _ _ _ H _ I h => Constant_none ⟨.non, H, I, rfl, h⟩
theorem pe_str {x j pos} : PE X (.Constant (.str x) j pos) (tC (.str x)) := fun _ _ _ H _ I h => Calls.Constant_str ⟨.str x, H, I.tok _, ⟨_, rfl⟩, h⟩

/-- a global name of the def -/
def Gl (X : Cx) (x : Str) : Prop := X.env.kindOf x = some .globalImplicit
theorem ld_glob {E : Value → Shared → Prop} {pins : List (Addr × Obj)} {s : Shared} {σ : St} {H : Hp} {x : Str} {u : Value} {pos : Pos} {Q : Value → Shared → Prop} (I : Inv X pins σ H s) (hg : Gl X x) (hm : X.mg x = some u) (h : Q u s)
    (hd : (x == ("__debug__" : Str)) = false := by decide) : wpAny (model X.prog X.w) X.A (eval (.Name x pos) X.env) Q E s :=
  Calls.Name_function_global I.ok.kind hg (Calls.loadGlobal_global (by rw [I.ok.glob]; exact I.mod.glob.keeps I.bk) hm h) hd
theorem ld_blt {E : Value → Shared → Prop} {pins : List (Addr × Obj)} {s : Shared} {σ : St} {H : Hp} {x : Str} {u : Value} {pos : Pos} {Q : Value → Shared → Prop} (I : Inv X pins σ H s) (hg : Gl X x) (hm : X.mg x = none) (hv : bootBuiltins x = some u) (h : Q u s)
    (hn : x ≠ "__name__" := by decide) (hd : (x == ("__debug__" : Str)) = false := by decide) : wpAny (model X.prog X.w) X.A (eval (.Name x pos) X.env) Q E s := by
  obtain ⟨mb, h1, h2⟩ := I.mod.blt
  exact Calls.Name_function_global I.ok.kind hg (Calls.loadGlobal_builtin (by rw [I.ok.glob]; exact I.mod.glob.keeps I.bk) hm (by rw [I.ok.blt]; exact h1.keeps I.bk) ((h2 x hn).trans hv) h) hd
theorem pe_bltn {x : Str} {v : V} {u : Value} {pos : Pos} (hg : Gl X x) (hm : X.mg x = none) (hv : bootBuiltins x = some u) (r : RelV v u) (hn : x ≠ "__name__" := by decide) (hd : (x == ("__debug__" : Str)) = false := by decide) : PE X (.Name x pos) (tC v) :=
  fun _ _ _ H _ I h => ld_blt I hg hm hv ⟨v, H, I, r, h⟩ hn hd

/-! ### arithmetic -/
/-- two ints -/
def t2I (ta tb : TE) (k : Int → Int → Hp → Prop) : St → Hp → Prop := fun σ H => ta σ H fun x H1 => tb σ H1 fun y H2 => ∃ i j, x = .int i ∧ y = .int j ∧ k i j H2
def tAdd (ta tb : TE) : TE := fun σ H Q => t2I ta tb (fun i j H2 => Q (.int (i + j)) H2) σ H
def tSub (ta tb : TE) : TE := fun σ H Q => t2I ta tb (fun i j H2 => Q (.int (i - j)) H2) σ H
/-- the left factor below 2^64 -/
def tMul (ta tb : TE) : TE := fun σ H Q => t2I ta tb (fun i j H2 => (-(2 ^ 64) < i ∧ i < 2 ^ 64) ∧ Q (.int (i * j)) H2) σ H
variable {a b : Expr} {ta tb : TE} {pos : Pos}
/-! ### comparisons -/
def PC (X : Cx) (op : CmpOp) (a b : Expr) (t : TE) : Prop :=
  ∀ (pins : List (Addr × Obj)) (s : Shared) (σ : St) (H : Hp) (Q : VK), Inv X pins σ H s → t σ H Q →
    wpAny (model X.prog X.w) X.A (eval a X.env) (fun v s₁ => wpAny (model X.prog X.w) X.A (eval b X.env) (fun u s₂ => wpAny (model X.prog X.w) X.A (compareOp op v u) (EP X pins σ Q) X.xe s₂) X.xe s₁) X.xe s
def tCmp (p : Int → Int → Bool) (ta tb : TE) : TE := fun σ H Q => t2I ta tb (fun i j H2 => Q (.bl (p i j)) H2) σ H
abbrev tLt : TE → TE → TE := tCmp fun i j => decide (i < j)
abbrev tLe : TE → TE → TE := tCmp fun i j => decide (i ≤ j)
abbrev tGt : TE → TE → TE := tCmp fun i j => decide (j < i)
abbrev tGe : TE → TE → TE := tCmp fun i j => decide (j ≤ i)
abbrev tEqI : TE → TE → TE := tCmp fun i j => decide (i = j)
abbrev tNeI : TE → TE → TE := tCmp fun i j => !decide (i = j)
/-- is None -/
def tIsN (ta : TE) : TE := fun σ H Q => ta σ H fun x H1 => Q (.bl (decide (x = .non))) H1
def tNotN (ta : TE) : TE := fun σ H Q => ta σ H fun x H1 => Q (.bl (!decide (x = .non))) H1
/-- a comparison as a value, as a test -/
def tB (t : TE) : TT := fun σ H Q => t σ H fun x H1 => ∃ c, x = .bl c ∧ Q c H1
/-- an expression whose value is a bool, as a test -/
theorem pt_val {e : Expr} {t : TE} (h : PE X e t) (he : ∀ whole, isTrue e X.env whole = (do let v ← whole; standAt e.pos; holding [v] (truthy v)) := by intro _; rfl) : PT X e (tB t) := by
  intro pins s σ H Q I hw
  refine isTrue_plain (thn (h pins s σ H _ I hw) fun v s1 ⟨x, H1, I1, r1, q1⟩ => ?_) (he _)
  obtain ⟨d, rfl, q⟩ := q1
  cases r1
  exact wpAny_truthy_bool ⟨H1, I1, q⟩

/-! ### and, or, not -/
variable {tA tB' : TT} {rest : List Expr}
def tAnd (t u : TT) : TT := fun σ H Q => t σ H fun c H1 => if c = true then u σ H1 Q else Q false H1
def tOr (t u : TT) : TT := fun σ H Q => t σ H fun c H1 => if c = true then Q true H1 else u σ H1 Q
def tNot (t : TT) : TT := fun σ H Q => t σ H fun c H1 => Q (!c) H1
theorem pw_and1 (ha : PT X a tA) : PW X (.BoolOp .And [a] pos) tA := by
  intro wh pins s σ H Q I h
  refine isTrue_and (thn (ha pins s σ H Q I h) fun c s1 e => ?_)
  cases c with
  | true => exact isTrue_and_nil e
  | false => exact e
theorem pw_or1 (ha : PT X a tA) : PW X (.BoolOp .Or [a] pos) tA := by
  intro wh pins s σ H Q I h
  refine isTrue_or (thn (ha pins s σ H Q I h) fun c s1 e => ?_)
  cases c with
  | false => exact isTrue_or_nil e
  | true => exact e
theorem pw_and (ha : PT X a tA) (hb : PW X (.BoolOp .And (b :: rest) pos) tB') : PW X (.BoolOp .And (a :: b :: rest) pos) (tAnd tA tB') := by
  intro wh pins s σ H Q I h
  refine isTrue_and (thn (ha pins s σ H _ I h) fun c s1 ⟨H1, I1, q1⟩ => ?_)
  cases c with
  | true => exact hb wh pins s1 σ H1 Q I1 q1
  | false => exact ⟨H1, I1, q1⟩
theorem pw_or (ha : PT X a tA) (hb : PW X (.BoolOp .Or (b :: rest) pos) tB') : PW X (.BoolOp .Or (a :: b :: rest) pos) (tOr tA tB') := by
  intro wh pins s σ H Q I h
  refine isTrue_or (thn (ha pins s σ H _ I h) fun c s1 ⟨H1, I1, q1⟩ => ?_)
  cases c with
  | true => exact ⟨H1, I1, q1⟩
  | false => exact hb wh pins s1 σ H1 Q I1 q1
theorem pt_not (ha : PT X a tA) : PT X (.UnaryOp .Not a pos) (tNot tA) := by
  intro pins s σ H Q I h
  exact isTrue_not (ha pins s σ H (fun c H1 => Q (!c) H1) I h)
/-- .. as values (bools) -/
def tAndV (ta tb : TE) : TE := fun σ H Q => ta σ H fun x H1 => ∃ c, x = .bl c ∧ if c = true then tb σ H1 Q else Q (.bl false) H1
def tOrV (ta tb : TE) : TE := fun σ H Q => ta σ H fun x H1 => ∃ c, x = .bl c ∧ if c = true then Q (.bl true) H1 else tb σ H1 Q
def tNotV (ta : TE) : TE := fun σ H Q => ta σ H fun x H1 => ∃ c, x = .bl c ∧ Q (.bl (!c)) H1
theorem pe_one {op} {t : TE} (h : PE X a t) : PE X (.BoolOp op [a] pos) t := fun pins s σ H Q I hw => BoolOp_one (h pins s σ H Q I hw)
theorem pe_and (ha : PE X a ta) (hb : PE X (.BoolOp .And (b :: rest) pos) tb) : PE X (.BoolOp .And (a :: b :: rest) pos) (tAndV ta tb) := by
  intro pins s σ H Q I h
  refine BoolOp_and (thn (ha pins s σ H _ I h) fun v s1 ⟨x, H1, I1, r1, q1⟩ => ?_)
  obtain ⟨c, rfl, q1⟩ := q1
  cases r1
  refine wpAny_truthy_bool ?_
  cases c with
  | true => exact hb pins s1 σ H1 Q I1 q1
  | false => exact ⟨.bl false, H1, I1, rfl, q1⟩
theorem pe_not (ha : PE X a ta) : PE X (.UnaryOp .Not a pos) (tNotV ta) := by
  intro pins s σ H Q I h
  refine UnaryOp_ (thn (ha pins s σ H _ I h) fun v s1 ⟨x, H1, I1, r1, q1⟩ => ?_)
  obtain ⟨c, rfl, q1⟩ := q1
  cases r1
  exact not_of (wpAny_truthy_bool ⟨.bl (!c), H1, I1, rfl, q1⟩)
/-- a if t else b -/
def tIf (t : TT) (ta tb : TE) : TE := fun σ H Q => t σ H fun c H1 => if c = true then ta σ H1 Q else tb σ H1 Q
theorem pe_ifExp {c : Expr} (hc : PT X c tA) (ha : PE X a ta) (hb : PE X b tb) : PE X (.IfExp c a b pos) (tIf tA ta tb) := by
  intro pins s σ H Q I h
  refine wpAny_IfExp (thn (hc pins s σ H _ I h) fun d s1 ⟨H1, I1, q1⟩ => ?_)
  cases d with
  | true => exact ha pins s1 σ H1 Q I1 q1
  | false => exact hb pins s1 σ H1 Q I1 q1
end
end L2

namespace L2
open PySem PySem.Spec PyProof.Rows

/-! ### a list, a tuple that is read: tracked, frozen, or an object of the module -/
def SqL (K : PySem.W.Frag) (H : Hp) (a : Addr) (xs : List V) : Prop :=
  Rd H a (.lst xs) ∨
    ∃ (o : Obj) (its : Array Value) (n : Nat), K.lookup a = some o ∧ o.cls = .type "list" ∧ o.dict = none ∧ o.data = .seq its n ∧ its.size ≤ sizeLine ∧ Vals xs its.toList
def SqT (K : PySem.W.Frag) (H : Hp) (a : Addr) (xs : List V) : Prop :=
  Rd H a (.tup xs) ∨
    ∃ (o : Obj) (its : Array Value) (n : Nat), K.lookup a = some o ∧ o.cls = .type "tuple" ∧ o.data = .seq its n ∧ its.size ≤ sizeLine ∧ Vals xs its.toList
def absV : Value → Option V
  | .none => some .non
  | .bool b => some (.bl b)
  | .int i _ => some (.int i)
  | .str x _ => some (.str x)
  | .bytes b _ => some (.byt b)
  | .float b _ => some (.flt b)
  | .ref a => some (.ref a)
  | .type n => some (.ty n)
  | _ => none
theorem RelV.abs {x : V} {u : Value} (r : RelV x u) : absV u = some x := by
  cases x with
  | non => cases r; rfl
  | bl _ => cases r; rfl
  | int _ => obtain ⟨t, rfl⟩ := r; rfl
  | str _ => obtain ⟨t, rfl⟩ := r; rfl
  | byt _ => obtain ⟨t, rfl⟩ := r; rfl
  | flt _ => obtain ⟨t, rfl⟩ := r; rfl
  | ref _ => cases r; rfl
  | ty _ => cases r; rfl
theorem RelV.inj {x y : V} {u : Value} (r : RelV x u) (q : RelV y u) : x = y := Option.some.inj (r.abs.symm.trans q.abs)
theorem Vals.inj : ∀ {xs ys : List V} {us : List Value}, Vals xs us → Vals ys us → xs = ys
  | _, _, _, .nil, .nil => rfl
  | _, _, _, .cons r t, .cons r' t' => by rw [r.inj r', Vals.inj t t']
section
variable {X : Cx} {pins : List (Addr × Obj)} {σ : St} {H : Hp} {s : Shared} {a : Addr} {xs ys : List V}
theorem SqL.of {K : PySem.W.Frag} (h : H a = some (.lst xs)) : SqL K H a xs := .inl (.inl h)
theorem SqT.of {K : PySem.W.Frag} (h : H a = some (.tup xs)) : SqT K H a xs := .inl (.inl h)
theorem Inv.list (I : Inv X pins σ H s) (h : SqL X.K H a xs) : ∃ its : List Value, Vals xs its ∧ PlainL s.heap a its.toArray ∧ xs.length ≤ sizeLine := by
  rcases h with h | ⟨o, its, n, hk, hc, hd, hs, hz, r⟩
  · obtain ⟨z, its, n, r, e⟩ := h.ok I.hok
    exact ⟨its, r, ⟨_, n, e, rfl, rfl, rfl⟩, z⟩
  · refine ⟨its.toList, r, ⟨o, n, I.kIn a o hk, hc, hd, by simpa using hs⟩, ?_⟩
    have e := r.length
    simp only [Array.length_toList] at e
    omega
theorem Inv.tuple (I : Inv X pins σ H s) (h : SqT X.K H a xs) : ∃ its : List Value, Vals xs its ∧ IsTup s.heap a its.toArray ∧ xs.length ≤ sizeLine := by
  rcases h with h | ⟨o, its, n, hk, hc, hs, hz, r⟩
  · obtain ⟨z, its, r, p⟩ := h.ok I.hok
    exact ⟨its, r, p, z⟩
  · refine ⟨its.toList, r, ⟨o, I.kIn a o hk, hc, n, by simpa using hs⟩, ?_⟩
    have e := r.length
    simp only [Array.length_toList] at e
    omega
theorem Inv.list_inj (I : Inv X pins σ H s) (h : SqL X.K H a xs) (h' : SqL X.K H a ys) : xs = ys := by
  obtain ⟨its, r, ⟨o, n, e, _, _, d⟩, _⟩ := I.list h
  obtain ⟨its', r', ⟨o', n', e', _, _, d'⟩, _⟩ := I.list h'
  rw [e] at e'; cases e'
  rw [d] at d'
  injection d' with d1 _
  have : its = its' := by simpa using congrArg Array.toList d1
  subst this
  exact r.inj r'
theorem Inv.tuple_inj (I : Inv X pins σ H s) (h : SqT X.K H a xs) (h' : SqT X.K H a ys) : xs = ys := by
  obtain ⟨its, r, ⟨o, e, _, n, d⟩, _⟩ := I.tuple h
  obtain ⟨its', r', ⟨o', e', _, n', d'⟩, _⟩ := I.tuple h'
  rw [e] at e'; cases e'
  rw [d] at d'
  injection d' with d1 _
  have : its = its' := by simpa using congrArg Array.toList d1
  subst this
  exact r.inj r'
end

/-! ### another wish about exceptions -/
abbrev Cx.wish (X : Cx) (E : Value → Shared → Prop) : Cx := { X with xe := E }
/-- no exception leaves -/
abbrev Cx.nox (X : Cx) : Cx := X.wish fun _ _ => False
theorem Cx.Ok.wish {X : Cx} (ok : X.Ok) (E : Value → Shared → Prop) : (X.wish E).Ok :=
  ⟨ok.mod, ok.kind, ok.glob, ok.blt, ok.above, ok.inj, ok.has, ok.cab, ok.hd, ok.frames, ok.stk, ok.exf, ok.bs, ok.bsz, ok.noex, ok.exfs, ok.funs, ok.frf⟩
theorem Cx.Ok.unwish {X : Cx} {E : Value → Shared → Prop} (ok : (X.wish E).Ok) : X.Ok :=
  ⟨ok.mod, ok.kind, ok.glob, ok.blt, ok.above, ok.inj, ok.has, ok.cab, ok.hd, ok.frames, ok.stk, ok.exf, ok.bs, ok.bsz, ok.noex, ok.exfs, ok.funs, ok.frf⟩
section
variable {X : Cx} {pins : List (Addr × Obj)} {σ : St} {H : Hp} {s : Shared} {E : Value → Shared → Prop}
theorem Inv.wish (I : Inv X pins σ H s) (E : Value → Shared → Prop) : Inv (X.wish E) pins σ H s := ⟨I.ok.wish E, I.os, I.bare, I.base, I.loc, I.cell, I.free, I.freeC, I.pin, I.hok, I.len⟩
theorem Inv.unwish (I : Inv (X.wish E) pins σ H s) : Inv X pins σ H s := ⟨I.ok.unwish, I.os, I.bare, I.base, I.loc, I.cell, I.free, I.freeC, I.pin, I.hok, I.len⟩
theorem SP.unwish {D : Ends} {f : Flow} {s' : Shared} (h : SP (X.wish E) pins D f s') : SP X pins D f s' := by
  cases f with
  | next => obtain ⟨σ', H', I, q⟩ := h; exact ⟨σ', H', I.unwish, q⟩
  | brk => obtain ⟨σ', H', I, q⟩ := h; exact ⟨σ', H', I.unwish, q⟩
  | cont => obtain ⟨σ', H', I, q⟩ := h; exact ⟨σ', H', I.unwish, q⟩
  | ret u => obtain ⟨v, σ', H', I, r, q⟩ := h; exact ⟨v, σ', H', I.unwish, r, q⟩
theorem PSs.nox {st : List Stmt} {t : TS} (h : PSs X.nox st t) : PSs X st t := fun pins s σ H D I hw =>
  wpAny_mono (h pins s σ H D (I.wish _) hw) (fun _ _ q => q.unwish) fun _ _ z => False.elim z
end

/-! ### blocks and small statements -/
section
variable {X : Cx} {st : Stmt} {rest : List Stmt} {t u : TS} {e : Expr} {te : TE} {pos : Pos}
def tNext : TS := fun D σ H => D.nx σ H
def tSeq (t u : TS) : TS := fun D σ H => t { D with nx := u D } σ H
theorem pss_nil : PSs X [] tNext := fun _ _ σ H _ I h => wpAny_execs_nil ⟨σ, H, I, h⟩
theorem pss_cons (h1 : PS X st t) (h2 : PSs X rest u) : PSs X (st :: rest) (tSeq t u) := by
  intro pins s σ H D I h
  refine wpAny_execs_cons (thn (h1 pins s σ H { D with nx := u D } I h) fun f s1 q => ?_)
  cases f with
  | next =>
    obtain ⟨σ', H', I', q⟩ := q
    exact h2 pins s1 σ' H' D I' q
  | ret v => exact q
  | brk => exact q
  | cont => exact q
theorem pss_one (h1 : PS X st t) : PSs X [st] t := by
  intro pins s σ H D I h
  refine wpAny_execs_cons (thn (h1 pins s σ H D I h) fun f s1 q => ?_)
  cases f with
  | next => exact wpAny_execs_nil q
  | ret v => exact q
  | brk => exact q
  | cont => exact q
def tBreak : TS := fun D σ H => D.bk σ H
def tCont : TS := fun D σ H => D.ct σ H
/-- in a def's body nothing is shown -/
theorem Inv.quiet {pins : List (Addr × Obj)} {σ : St} {H : Hp} {s : Shared} (I : Inv X pins σ H s) : interactive X.env = false := by simp [interactive, I.ok.kind]
/-- an expression whose value is dropped -/
def tDrop (te : TE) : TS := fun D σ H => te σ H fun _ H1 => D.nx σ H1
theorem ps_expr (he : PE X e te) (hs : swapsWith e none pos.line X.env = pure false := by rfl) : PS X (.Expr e pos) (tDrop te) := by
  intro pins s σ H D I h
  exact wpAny_Expr_any (thn (he pins s σ H _ I h) fun v s1 ⟨x, H1, I1, r1, q1⟩ => ⟨σ, H1, I1, q1⟩) I.quiet hs
def tRet (te : TE) : TS := fun D σ H => te σ H D.rt
theorem ps_ret (he : PE X e te) : PS X (.Return (some e) pos) (tRet te) := by
  intro pins s σ H D I h
  exact wpAny_Return_some (thn (he pins s σ H _ I h) fun v s1 ⟨x, H1, I1, r1, q1⟩ => ⟨x, σ, H1, I1, r1, q1⟩)
def tRetN : TS := fun D _ H => D.rt .non H
def tIfS (c : TT) (t u : TS) : TS := fun D σ H => c σ H fun b H1 => if b = true then t D σ H1 else u D σ H1
theorem ps_if {c : Expr} {a b : List Stmt} {tc : TT} (hc : PT X c tc) (ha : PSs X a t) (hb : PSs X b u) : PS X (.If c a b pos) (tIfS tc t u) := by
  intro pins s σ H D I h
  refine wpAny_If (thn (hc pins s σ H _ I h) fun d s1 ⟨H1, I1, q1⟩ => ?_)
  cases d with
  | true => exact ha pins s1 σ H1 D I1 q1
  | false => exact hb pins s1 σ H1 D I1 q1
/-- code that the proof never comes to -/
def tNever : TS := fun _ _ _ => False
theorem ps_never : PS X st tNever := fun _ _ _ _ _ _ h => h.elim
end

/-! ### targets -/
abbrev TG := V → St → Hp → (St → Hp → Prop) → Prop
abbrev TGs := List V → St → Hp → (St → Hp → Prop) → Prop
def PG (X : Cx) (target : Expr) (t : TG) : Prop :=
  ∀ (pins : List (Addr × Obj)) (s : Shared) (σ : St) (H : Hp) (v : V) (u : Value) (Q : St → Hp → Prop), Inv X pins σ H s → RelV v u → t v σ H Q →
    wpAny (model X.prog X.w) X.A (assign target X.env u) (fun _ s' => ∃ σ' H', Inv X pins σ' H' s' ∧ Q σ' H') X.xe s
/-- several targets, one after another -/
def PGs (X : Cx) (ts : List Expr) (t : TGs) : Prop :=
  ∀ (pins : List (Addr × Obj)) (s : Shared) (σ : St) (H : Hp) (vs : List V) (us : List Value) (Q : St → Hp → Prop), Inv X pins σ H s → Vals vs us → t vs σ H Q →
    wpAny (model X.prog X.w) X.A (assignInOrder ((assignEach ts X.env).map (·.2)) us) (fun _ s' => ∃ σ' H', Inv X pins σ' H' s' ∧ Q σ' H') X.xe s
/-- o[i] = v, by values -/
abbrev TSet := V → V → V → Hp → (Hp → Prop) → Prop
def PSet (X : Cx) (t : TSet) : Prop :=
  ∀ (pins : List (Addr × Obj)) (s : Shared) (σ : St) (H : Hp) (o i v : V) (ov iv u : Value) (Q : Hp → Prop), Inv X pins σ H s → RelV o ov → RelV i iv → RelV v u → t o i v H Q →
    wpAny (model X.prog X.w) X.A (setItem ov iv u) (fun _ s' => ∃ H', Inv X pins σ H' s' ∧ Q H') X.xe s
/-- a op= b, by values -/
abbrev TIp := V → V → Hp → VK → Prop
def PIp (X : Cx) (op : Operator) (t : TIp) : Prop :=
  ∀ (pins : List (Addr × Obj)) (s : Shared) (σ : St) (H : Hp) (x y : V) (v u : Value) (Q : VK), Inv X pins σ H s → RelV x v → RelV y u → t x y H Q →
    wpAny (model X.prog X.w) X.A (inplaceOp op v u) (EP X pins σ Q) X.xe s
section
variable {X : Cx} {pos : Pos}
def gName (i : Nat) : TG := fun v σ H Q => Q (σ.set i (some v)) H
theorem pg_name {i : Nat} {x : Str} (hN : X.N.Nodup) (hi : X.N[i]? = some x) (hx : Loc X.env.scope x) (hf : X.fn x = true ∨ X.env.scope.names.lookup x = some .local := by first | exact .inl rfl | exact .inr rfl | assumption) : PG X (.Name x pos) (gName i) := by
  intro pins s σ H v u Q I r h
  exact wpAny_assign_Name (store_ok I hN hi hx r (fun s' I' => ⟨_, H, I', h⟩) hf)
def gNil : TGs := fun vs σ H Q => vs = [] ∧ Q σ H
def gCons (t : TG) (u : TGs) : TGs := fun vs σ H Q => ∃ v r, vs = v :: r ∧ t v σ H fun σ' H' => u r σ' H' Q
theorem pgs_nil : PGs X [] gNil := by
  intro pins s σ H vs us Q I r h
  obtain ⟨e, h⟩ := h
  subst e
  cases r
  exact assignInOrder_nil ⟨σ, H, I, h⟩
theorem pgs_cons {e : Expr} {es : List Expr} {t : TG} {u : TGs} (h1 : PG X e t) (h2 : PGs X es u)
    (hs : (assignEach (e :: es) X.env).map (·.2) = assign e X.env :: (assignEach es X.env).map (·.2) := by rfl) : PGs X (e :: es) (gCons t u) := by
  intro pins s σ H vs us Q I r h
  obtain ⟨v, vr, e1, h⟩ := h
  subst e1
  cases r with
  | cons r rr =>
    rw [hs]
    refine assignInOrder_cons (thn (h1 pins s σ H _ _ _ I r h) fun _ s1 ⟨σ1, H1, I1, q1⟩ => ?_)
    exact h2 pins s1 σ1 H1 _ _ Q I1 rr q1
/-- (a, b, ..) = a tuple of that length -/
def gTup (K : PySem.W.Frag) (n : Nat) (t : TGs) : TG := fun v σ H Q => ∃ a xs, v = .ref a ∧ SqT K H a xs ∧ xs.length = n ∧ t xs σ H Q
theorem pg_tup {es : List Expr} {k : Nat} {t : TGs} {n : Nat} (hc : X.calm = true) (h : PGs X es t)
    (hn : (assignEach es X.env).length = n := by rfl) (hst : (assignEach es X.env).findIdx? (·.1) = none := by rfl) : PG X (.Tuple es k pos) (gTup X.K n t) := by
  intro pins s σ H v u Q I r hw
  obtain ⟨a, xs, e1, hq, hl, hw⟩ := hw
  subst e1
  cases r
  obtain ⟨its, rv, ht, hz⟩ := I.tuple hq
  refine assign_Tuple_tuple (I.ok.hd hc) ht (by simp [hn, ← hl, rv.length]) hst fun h' hx => ?_
  have I1 : Inv X pins σ H { s with heap := h' } := I.kept (t' := s.toks) fun b o e => hx b o (Nat.ne_of_lt (Heap.lt_size e)) e
  exact h pins _ σ H xs _ Q I1 (by simpa using rv) hw
/-- o[i] = .. -/
def gSub (to ti : TE) (t : TSet) : TG := fun v σ H Q => to σ H fun o H1 => ti σ H1 fun i H2 => t o i v H2 fun H3 => Q σ H3
theorem pg_sub {o i : Expr} {to ti : TE} {t : TSet} (ho : PE X o to) (hi : PE X i ti) (hs : PSet X t)
    (ha : ∀ v, assign (.Subscript o i pos) X.env v = (do
      let ov ← holding [v] (eval o X.env)
      let iv ← holding [v, ov] (eval i X.env)
      standAt pos
      holding [v, ov, iv] (setItem ov iv v)
      release [v, ov, iv] []) := by intro _; rfl) : PG X (.Subscript o i pos) (gSub to ti t) := by
  intro pins s σ H v u Q I r h
  rw [ha]
  refine wpAny_bind (wpAny_holding (thn (ho pins s σ H _ I h) fun ov s1 ⟨x, H1, I1, r1, q1⟩ => ?_))
  refine wpAny_bind (wpAny_holding (thn (hi pins s1 σ H1 _ I1 q1) fun iv s2 ⟨y, H2, I2, r2, q2⟩ => ?_))
  refine wpAny_bind (wpAny_standAt (wpAny_bind (wpAny_holding (thn (hs pins s2 σ H2 x y v ov iv u _ I2 r1 r2 r q2) fun _ s3 ⟨H3, I3, q3⟩ => ?_))))
  exact wpAny_release ⟨σ, H3, I3, q3⟩
/-- target = value -/
def tAsg (te : TE) (g : TG) : TS := fun D σ H => te σ H fun x H1 => g x σ H1 D.nx
theorem ps_asg {tg e : Expr} {te : TE} {g : TG} (he : PE X e te) (hg : PG X tg g) (hs : swapsWithSole [tg] e pos.line X.env = pure false := by rfl) (hw : swappedStores [tg] e X.env = pure none := by rfl)
    (h1 : (assignEach [tg] X.env).map (·.2) = [assign tg X.env] := by rfl) : PS X (.Assign [tg] e pos) (tAsg te g) := by
  intro pins s σ H D I h
  refine wpAny_Assign_stores (thn (he pins s σ H _ I h) fun v s1 ⟨x, H1, I1, r1, q1⟩ => ?_) hs hw
  rw [h1]
  exact thn (hg pins s1 σ H1 x v _ I1 r1 q1) fun _ s2 q => q
/-- name = value -/
theorem ps_set {i : Nat} {x : Str} {e : Expr} {te : TE} {pos' : Pos} (hN : X.N.Nodup) (hi : X.N[i]? = some x) (hx : Loc X.env.scope x) (he : PE X e te) (hs : swapsWith e (some (.Name x pos')) pos.line X.env = pure false := by rfl) (hf : X.fn x = true ∨ X.env.scope.names.lookup x = some .local := by first | exact .inl rfl | exact .inr rfl | assumption) :
    PS X (.Assign [.Name x pos'] e pos) (tAsg te (gName i)) := by
  intro pins s σ H D I h
  refine wpAny_Assign_Name (thn (he pins s σ H _ I h) fun v s1 ⟨y, H1, I1, r1, q1⟩ => ?_) hs
  exact store_ok I1 hN hi hx r1 (fun s2 I2 => ⟨_, H1, I2, q1⟩) hf
/-- a, b = x, y with plain local names: stored from the right; the pair itself is not tracked (the opening rows as in PyProof/Rows/TupAssign.lean:23) -/
def tPar (i j : Nat) (ta : TA) : TS := fun D σ H => ta σ H fun vs H1 => ∃ v w, vs = [v, w] ∧ D.nx ((σ.set i (some v)).set j (some w)) H1
/-- name op= e -/
def tAug (i : Nat) (te : TE) (ti : TIp) : TS := fun D σ H => ∃ x, σ[i]? = some (some x) ∧ te σ H fun y H1 => ti x y H1 fun z H2 => D.nx (σ.set i (some z)) H2
/-- o[i] op= e -/
def tAugS (to ti te : TE) (tget : V → V → Hp → VK → Prop) (tip : TIp) (tset : TSet) : TS := fun D σ H => to σ H fun o H1 => ti σ H1 fun i H2 => tget o i H2 fun x H3 => te σ H3 fun y H4 => tip x y H4 fun z H5 => tset o i z H5 fun H6 => D.nx σ H6
/-- o[i], by values -/
def PGet (X : Cx) (t : V → V → Hp → VK → Prop) : Prop :=
  ∀ (pins : List (Addr × Obj)) (s : Shared) (σ : St) (H : Hp) (o i : V) (ov iv : Value) (Q : VK), Inv X pins σ H s → RelV o ov → RelV i iv → t o i H Q →
    wpAny (model X.prog X.w) X.A (getItem ov iv) (EP X pins σ Q) X.xe s
/-- ints -/
def ipI (f : Int → Int → Int) : TIp := fun x y H Q => ∃ i j, x = .int i ∧ y = .int j ∧ Q (.int (f i j)) H
end

/-! ### while -/
section
variable {X : Cx} {pos : Pos}
/-- the invariant W with its measure -/
def tWhile (c : TT) (tb : TS) : TS := fun D σ H => ∃ W : Nat → St → Hp → Prop, (∃ m, W m σ H) ∧ ∀ m σ H, W m σ H →
  c σ H fun b H1 => if b = true then ∃ N : St → Hp → Prop, (∀ σ' H', N σ' H' → ∃ m', m' < m ∧ W m' σ' H') ∧ tb { D with nx := N, ct := N, bk := D.nx } σ H1 else D.nx σ H1
theorem ps_while {c : Expr} {body : List Stmt} {tc : TT} {tb : TS} (hp : PassesOwn (model X.prog X.w) X.A X.env X.xe) (hc : PT X c tc) (hb : PSs X body tb) : PS X (.While c body [] pos) (tWhile tc tb) := by
  intro pins s σ H D I h
  obtain ⟨W, ⟨m0, w0⟩, turn⟩ := h
  refine wpAny_While (codeAny_whileLoop (fun n s' => ∃ σ' H', Inv X pins σ' H' s' ∧ W n σ' H') ?_ m0 ⟨σ, H, I, w0⟩)
  rintro n s1 ⟨σ1, H1, I1, w1⟩
  refine wpAny_passesOwn hp (thn (hc pins s1 σ1 H1 _ I1 (turn n σ1 H1 w1)) fun b s2 ⟨H2, I2, q2⟩ => ?_)
  cases b with
  | true =>
    obtain ⟨N, hN, q2⟩ := q2
    rw [if_pos rfl]
    refine wpAny_passesOwn hp (thn (hb pins s2 σ1 H2 _ I2 q2) fun f s3 q3 => ?_)
    cases f with
    | next =>
      obtain ⟨σ3, H3, I3, n3⟩ := q3
      obtain ⟨m', hm, w3⟩ := hN σ3 H3 n3
      exact ⟨m', hm, σ3, H3, I3, w3⟩
    | cont =>
      obtain ⟨σ3, H3, I3, n3⟩ := q3
      obtain ⟨m', hm, w3⟩ := hN σ3 H3 n3
      exact ⟨m', hm, σ3, H3, I3, w3⟩
    | brk => exact q3
    | ret v => exact q3
  | false =>
    rw [if_neg Bool.false_ne_true]
    exact wpAny_execs_nil ⟨σ1, H2, I2, q2⟩
end

/-! ### what a loop or a comprehension walks -/
/-- at turn i: it yields x (the heap may grow), or it stops -/
structure It where
  go : Nat → Hp → Prop
  yld : Nat → Hp → V → Hp → Prop
  stop : Nat → Hp → Prop
/-- the iterator's own objects may turn: they are not the frame's, not pinned, younger than the entry (or a comprehension's own) -/
def FpOk (X : Cx) (pins : List (Addr × Obj)) (H : Hp) (b : Addr) : Prop :=
  H b = none ∧ b ≠ X.env.locals ∧ b ∉ X.fs ∧ (b ∈ X.ex ∨ X.s₀.heap.objs.size ≤ b) ∧ (∀ x c, X.env.cells.lookup x = some c → c ≠ b) ∧ ∀ p ∈ X.pn ++ pins, p.1 ≠ b
theorem Inv.fpOk {X : Cx} {pins : List (Addr × Obj)} {σ : St} {H H' : Hp} {s : Shared} {b : Addr} (I : Inv X pins σ H s) (hb : s.heap.objs.size ≤ b) (hn : H' b = none) : FpOk X pins H' b := by
  refine ⟨hn, Nat.ne_of_gt (Nat.lt_of_lt_of_le I.lt hb), I.nofs hb, .inr (Nat.le_trans I.sz hb), fun x c e z => ?_, fun p hp z => ?_⟩
  · obtain ⟨v, q⟩ := I.cell x c e
    exact absurd (Nat.lt_of_lt_of_le q.lt (by rw [z]; exact hb)) (Nat.lt_irrefl _)
  · exact absurd (Nat.lt_of_lt_of_le (Heap.lt_size (I.pin p hp).1) (by rw [z]; exact hb)) (Nat.lt_irrefl _)
structure Turn (P : Program) (w : World) (K : PySem.W.Frag) (tg : Expr) (J : It) (fp : List Addr) (it : Addr) (tn : Nat → Heap → Prop) : Prop where
  mem : it ∈ fp
  obj : ∀ i h, tn i h → ∀ b ∈ fp, ∃ o, h.get? b = some o ∧ ∀ v, o.data ≠ .cell v
  keep : ∀ i h h', tn i h → (∀ b ∈ fp, ∀ o, h.get? b = some o → h'.get? b = some o) → tn i h'
  item : ∀ (X : Cx), X.prog = P → X.w = w → X.K = K → X.calm = true → ∀ (i : Nat) (pins : List (Addr × Obj)) (s : Shared) (σ : St) (H : Hp) (E : Value → Shared → Prop), Inv X pins σ H s → (∀ b ∈ fp, FpOk X pins H b) → tn i s.heap → J.go i H →
    wpAny (model P w) X.A (pyNext (.ref it)) (fun r s1 => ∃ u, r = some u ∧
      wpAny (model P w) X.A (letOwnedTupleGo tg (.ref it) u) (fun _ s2 => ∃ x H', Inv X pins σ H' s2 ∧ RelV x u ∧ J.yld i H x H' ∧ tn (i + 1) s2.heap ∧ ∀ b ∈ fp, H' b = none) E s1) E s
  done : ∀ (X : Cx), X.prog = P → X.w = w → X.K = K → X.calm = true → ∀ (i : Nat) (pins : List (Addr × Obj)) (s : Shared) (σ : St) (H : Hp) (E : Value → Shared → Prop), Inv X pins σ H s → (∀ b ∈ fp, FpOk X pins H b) → tn i s.heap → J.stop i H →
    wpAny (model P w) X.A (pyNext (.ref it)) (fun r s1 => r = none ∧ Inv X pins σ H s1) E s
  self : ∀ (A : Around) (i : Nat) (s : Shared) (Q : Value → Shared → Prop) (E : Value → Shared → Prop), tn i s.heap → Q (.ref it) s → wpAny (model P w) A (pyIter (.ref it)) Q E s
abbrev TI := St → Hp → (It → Hp → Prop) → Prop
/-- an iterator has come -/
def PIE (X : Cx) (pins : List (Addr × Obj)) (σ : St) (tg : Expr) (R : It → Hp → Prop) (itv : Value) (s2 : Shared) : Prop :=
  ∃ (it : Addr) (fp : List Addr) (tn : Nat → Heap → Prop) (J : It) (H' : Hp), itv = .ref it ∧ Inv X pins σ H' s2 ∧ Turn X.prog X.w X.K tg J fp it tn ∧ tn 0 s2.heap ∧ (∀ b ∈ fp, FpOk X pins H' b) ∧ R J H'
def PI (X : Cx) (tg iter : Expr) (wi : TI) : Prop :=
  ∀ (pins : List (Addr × Obj)) (s : Shared) (σ : St) (H : Hp) (R : It → Hp → Prop), Inv X pins σ H s → wi σ H R →
    wpAny (model X.prog X.w) X.A (eval iter X.env) (fun v s1 => wpAny (model X.prog X.w) X.A (pyIter v) (PIE X pins σ tg R) X.xe s1) X.xe s

/-- the step ahead of the store is nothing for an iterator that keeps no tuple -/
theorem go_of {M : Model} {A : Around} {E : Value → Shared → Prop} {s : Shared} {tg : Expr} {it : Addr} {u : Value} {o : Obj} {n : String} {vs : Array Value} {Q : Unit → Shared → Prop} (ho : s.heap.get? it = some o) (hc : o.cls = .type n) (hd : o.data = .fields vs)
    (hn : ["enumerate", "zip", "dict_itemiterator", "dict_reverseitemiterator", "odict_iterator", "itertools.zip_longest", "itertools.pairwise"].contains n = false) (hQ : Q () s) : wpAny M A (letOwnedTupleGo tg (.ref it) u) Q E s := by
  unfold letOwnedTupleGo
  cases tg <;> first
    | exact wpAny_pure hQ
    | (cases u <;> first
        | exact wpAny_pure hQ
        | (refine wpAny_bind (wpAny_load ho ?_)
           rw [hc, hd]
           show wpAny M A (if (["enumerate", "zip", "dict_itemiterator", "dict_reverseitemiterator", "odict_iterator", "itertools.zip_longest", "itertools.pairwise"].contains n && vs[0]? == some (rawInt _)) = true then _ else _) Q E s
           rw [if_neg (by intro h; rw [hn, Bool.false_and] at h; cases h)]
           exact wpAny_pure hQ))

/-- the list at a, as it stands at each turn (a loop may append to it) -/
def Itl (K : PySem.W.Frag) (a : Addr) : It :=
  ⟨fun i H => ∃ xs x, SqL K H a xs ∧ xs[i]? = some x, fun i H x H' => H' = H ∧ ∀ xs, SqL K H a xs → xs[i]? = some x, fun i H => ∃ xs, SqL K H a xs ∧ xs.length ≤ i⟩
def Itt (K : PySem.W.Frag) (a : Addr) : It :=
  ⟨fun i H => ∃ xs x, SqT K H a xs ∧ xs[i]? = some x, fun i H x H' => H' = H ∧ ∀ xs, SqT K H a xs → xs[i]? = some x, fun i H => ∃ xs, SqT K H a xs ∧ xs.length ≤ i⟩
/-- lo, lo + 1, .. (n of them) -/
def Itr (lo : Int) (n : Nat) : It := ⟨fun i _ => i < n, fun i H x H' => H' = H ∧ x = .int (lo + i), fun i _ => n ≤ i⟩
theorem turn_list {P : Program} {w : World} {K : PySem.W.Frag} {tg : Expr} (a it : Addr) : Turn P w K tg (Itl K a) [it] it (fun i h => h.IsListIter it a i) where
  mem := by simp
  obj := fun i h st b hb => by
    have e : b = it := by simpa using hb
    subst e
    obtain ⟨o, e, c, d⟩ := st
    exact ⟨o, e, fun v z => by rw [d] at z; cases z⟩
  keep := fun i h h' st k => st.at fun o e => k it (by simp) o e
  item := by
    intro X hP hw hK hc i pins s σ H E I hf st hg
    subst hP hw hK
    obtain ⟨xs, x, hq, hx⟩ := hg
    obtain ⟨its, rv, p, hz⟩ := I.list hq
    obtain ⟨u, hu, ru⟩ := rv.get hx
    obtain ⟨f0, f1, f2, f3, f4, f5⟩ := hf it (by simp)
    refine wpAny_pyNext_list_item st p.isList (x := u) (by simpa using hu) fun h' st' sb => ?_
    have I1 : Inv X pins σ H { s with heap := h' } := I.turned (t' := s.toks) (fun b o hb e => (sb.2 b hb).trans e) f0 f1 f3 f4 f5
    obtain ⟨o, e, c, d⟩ := id st'
    exact ⟨u, rfl, go_of (s := { s with heap := h' }) e c d (by decide) ⟨x, H, I1, ru, ⟨rfl, fun ys hy => by rw [I.list_inj hy hq]; exact hx⟩, st', fun b hb => (hf b hb).1⟩⟩
  done := by
    intro X hP hw hK hc i pins s σ H E I hf st hg
    subst hP hw hK
    obtain ⟨xs, hq, hx⟩ := hg
    obtain ⟨its, rv, p, hz⟩ := I.list hq
    obtain ⟨f0, f1, f2, f3, f4, f5⟩ := hf it (by simp)
    have hl := rv.length
    exact wpAny_pyNext_list_end (I.ok.hd hc) st p.isList (by simp; omega) fun h' eb => ⟨rfl, I.turned (t' := s.toks) (fun b o hb e => eb b o hb e) f0 f1 f3 f4 f5⟩
  self := fun _ _ _ _ _ st h => wpAny_pyIter_listiter st h
theorem turn_tuple {P : Program} {w : World} {K : PySem.W.Frag} {tg : Expr} (a it : Addr) : Turn P w K tg (Itt K a) [it] it (fun i h => h.IsTupleIter it a i) where
  mem := by simp
  obj := fun i h st b hb => by
    have e : b = it := by simpa using hb
    subst e
    obtain ⟨o, e, c, d⟩ := st
    exact ⟨o, e, fun v z => by rw [d] at z; cases z⟩
  keep := fun i h h' st k => st.at fun o e => k it (by simp) o e
  item := by
    intro X hP hw hK hc i pins s σ H E I hf st hg
    subst hP hw hK
    obtain ⟨xs, x, hq, hx⟩ := hg
    obtain ⟨its, rv, p, hz⟩ := I.tuple hq
    obtain ⟨u, hu, ru⟩ := rv.get hx
    obtain ⟨f0, f1, f2, f3, f4, f5⟩ := hf it (by simp)
    refine wpAny_pyNext_tuple_item st (show s.heap.IsTuple a its.toArray from p) (x := u) (by simpa using hu) fun h' st' sb => ?_
    have I1 : Inv X pins σ H { s with heap := h' } := I.turned (t' := s.toks) (fun b o hb e => (sb.2 b hb).trans e) f0 f1 f3 f4 f5
    obtain ⟨o, e, c, d⟩ := id st'
    exact ⟨u, rfl, go_of (s := { s with heap := h' }) e c d (by decide) ⟨x, H, I1, ru, ⟨rfl, fun ys hy => by rw [I.tuple_inj hy hq]; exact hx⟩, st', fun b hb => (hf b hb).1⟩⟩
  done := by
    intro X hP hw hK hc i pins s σ H E I hf st hg
    subst hP hw hK
    obtain ⟨xs, hq, hx⟩ := hg
    obtain ⟨its, rv, p, hz⟩ := I.tuple hq
    obtain ⟨f0, f1, f2, f3, f4, f5⟩ := hf it (by simp)
    have hl := rv.length
    exact wpAny_pyNext_tuple_end (I.ok.hd hc) st (show s.heap.IsTuple a its.toArray from p) (by simp; omega) fun h' eb => ⟨rfl, I.turned (t' := s.toks) (fun b o hb e => eb b o hb e) f0 f1 f3 f4 f5⟩
  self := fun _ _ _ _ _ st h => wpAny_pyIter_tupleiter st h
theorem turn_range {P : Program} {w : World} {K : PySem.W.Frag} {tg : Expr} (it : Addr) (lo : Int) (n : Nat) : Turn P w K tg (Itr lo n) [it] it (fun i h => IsRangeIter h it (lo + (i : Nat) * 1) ((n : Int) - (i : Nat)) 1) where
  mem := by simp
  obj := fun i h st b hb => by
    have e : b = it := by simpa using hb
    subst e
    exact ⟨_, st, fun v z => by
      have z' : Data.fields _ = Data.cell v := z
      cases z'⟩
  keep := fun i h h' st k => k it (by simp) _ st
  item := by
    intro X hP hw hK hc i pins s σ H E I hf st hg
    subst hP hw hK
    obtain ⟨f0, f1, f2, f3, f4, f5⟩ := hf it (by simp)
    have W := Walks.range (prog := X.prog) (w := X.w) (I.ok.hd hc) it lo 1 n
    refine W.item i s _ _ hg st fun v h' tk hv st' kk => ?_
    obtain ⟨t, rfl⟩ := hv
    have I1 : Inv X pins σ H { s with heap := h', toks := tk } := I.turned (fun b o hb e => kk b o (by simpa using hb) e) f0 f1 f3 f4 f5
    refine ⟨_, rfl, go_of (s := { s with heap := h', toks := tk }) (n := "range_iterator") st' rfl rfl (by decide) ⟨.int (lo + i), H, I1, ⟨t, ?_⟩, ⟨rfl, rfl⟩, st', fun b hb => (hf b hb).1⟩⟩
    rw [Int.mul_one]
  done := by
    intro X hP hw hK hc i pins s σ H E I hf st hg
    subst hP hw hK
    obtain ⟨f0, f1, f2, f3, f4, f5⟩ := hf it (by simp)
    exact wpAny_pyNext_range_end (I.ok.hd hc) st (by have : n ≤ i := hg; omega) fun h' eb => ⟨rfl, I.turned (t' := s.toks) (fun b o hb e => eb b o hb e) f0 f1 f3 f4 f5⟩
  self := fun _ _ _ _ _ st h => wpAny_pyIter_rangeiter st h
end L2

namespace L2
open PySem PySem.Spec PyProof.Rows
section
variable {X : Cx} {tg : Expr}
def iList (K : PySem.W.Frag) (tl : TE) : TI := fun σ H R => tl σ H fun x H1 => ∃ a, x = .ref a ∧ (∃ xs, SqL K H1 a xs) ∧ R (Itl K a) H1
def iTup (K : PySem.W.Frag) (tl : TE) : TI := fun σ H R => tl σ H fun x H1 => ∃ a, x = .ref a ∧ (∃ xs, SqT K H1 a xs) ∧ R (Itt K a) H1
theorem pi_list {l : Expr} {tl : TE} (hl : PE X l tl) : PI X tg l (iList X.K tl) := by
  intro pins s σ H R I h
  refine thn (hl pins s σ H _ I h) fun v s1 ⟨x, H1, I1, r1, q1⟩ => ?_
  obtain ⟨a, e, ⟨xs, hq⟩, q⟩ := q1
  subst e
  cases r1
  obtain ⟨its, rv, p, hz⟩ := I1.list hq
  refine wpAny_pyIter_list p.isList ?_
  refine ⟨s1.heap.objs.size, [s1.heap.objs.size], _, _, H1, rfl, I1.kept (t' := s1.toks) fun b o e => Heap.get?_push_of_some _ e, turn_list a _, ⟨_, Heap.get?_push_size _ rfl, rfl, rfl⟩, fun b hb => ?_, q⟩
  have e : b = s1.heap.objs.size := by simpa using hb
  subst e
  exact I1.fpOk (Nat.le_refl _) (I1.hok.fresh (Nat.le_refl _))
theorem pi_tup {l : Expr} {tl : TE} (hl : PE X l tl) : PI X tg l (iTup X.K tl) := by
  intro pins s σ H R I h
  refine thn (hl pins s σ H _ I h) fun v s1 ⟨x, H1, I1, r1, q1⟩ => ?_
  obtain ⟨a, e, ⟨xs, hq⟩, q⟩ := q1
  subst e
  cases r1
  obtain ⟨its, rv, p, hz⟩ := I1.tuple hq
  refine wpAny_pyIter_tuple (show s1.heap.IsTuple a its.toArray from p) ?_
  refine ⟨s1.heap.objs.size, [s1.heap.objs.size], _, _, H1, rfl, I1.kept (t' := s1.toks) fun b o e => Heap.get?_push_of_some _ e, turn_tuple a _, ⟨_, Heap.get?_push_size _ rfl, rfl, rfl⟩, fun b hb => ?_, q⟩
  have e : b = s1.heap.objs.size := by simpa using hb
  subst e
  exact I1.fpOk (Nat.le_refl _) (I1.hok.fresh (Nat.le_refl _))
/-- a range object just made, walked -/
theorem range_it {pins : List (Addr × Obj)} {σ : St} {H : Hp} {s : Shared} {R : It → Hp → Prop} {E : Value → Shared → Prop} {lo hi : Int} {t u v : Tok} {tk : Nat} (I : Inv X pins σ H s) (h1 : -(2 ^ 62) ≤ lo) (h2 : lo < 2 ^ 62) (h3 : -(2 ^ 62) ≤ hi) (h4 : hi < 2 ^ 62)
    (q : R (Itr lo (hi - lo).toNat) H) : wpAny (model X.prog X.w) X.A (pyIter (.ref s.heap.objs.size)) (PIE X pins σ tg R) E { s with heap := s.heap.push { cls := .type "range", data := .fields #[.int lo t, .int hi u, .int 1 v] }, toks := tk } := by
  refine wpAny_pyIter_range (IsRange.new ..) (small_one h1 h2 h3 h4) ?_
  have I1 : Inv X pins σ H { s with heap := s.heap.push { cls := .type "range", data := .fields #[.int lo t, .int hi u, .int 1 v] }, toks := tk } := I.kept fun b o e => Heap.get?_push_of_some _ e
  refine ⟨(s.heap.push { cls := .type "range", data := .fields #[.int lo t, .int hi u, .int 1 v] }).objs.size, [(s.heap.push { cls := .type "range", data := .fields #[.int lo t, .int hi u, .int 1 v] }).objs.size], _, _, H, rfl,
    I1.kept (t' := tk) fun b o e => Heap.get?_push_of_some _ e, turn_range _ lo (hi - lo).toNat, ?_, fun b hb => ?_, q⟩
  · have e1 : lo + ((0 : Nat) : Int) * 1 = lo := by simp
    have e2 : (((hi - lo).toNat : Nat) : Int) - ((0 : Nat) : Int) = Builtin.Range.rangeSize lo hi 1 := by rw [rangeSize_one]; split <;> omega
    show IsRangeIter _ _ (lo + ((0 : Nat) : Int) * 1) ((((hi - lo).toNat : Nat) : Int) - ((0 : Nat) : Int)) 1
    rw [e1, e2]
    exact Heap.get?_push_size _ rfl
  · have e : b = (s.heap.push { cls := .type "range", data := .fields #[.int lo t, .int hi u, .int 1 v] }).objs.size := by simpa using hb
    subst e
    exact I1.fpOk (Nat.le_refl _) (I1.hok.fresh (Nat.le_refl _))
def iRng1 (ta : TA) : TI := fun σ H R => ta σ H fun vs H1 => ∃ j : Int, vs = [.int j] ∧ -(2 ^ 62) ≤ j ∧ j < 2 ^ 62 ∧ R (Itr 0 j.toNat) H1
def iRng2 (ta : TA) : TI := fun σ H R => ta σ H fun vs H1 => ∃ i j : Int, vs = [.int i, .int j] ∧ (-(2 ^ 62) ≤ i ∧ i < 2 ^ 62 ∧ -(2 ^ 62) ≤ j ∧ j < 2 ^ 62) ∧ R (Itr i (j - i).toNat) H1
theorem pi_range1 {a : Expr} {ta : TA} {p pos : Pos} (hg : Gl X "range") (hm : X.mg "range" = none) (ha : PA X [a] ta) (hs : starEach [a] X.env = [(false, eval a X.env)] := by rfl) : PI X tg (.Call (.Name "range" p) [a] [] pos) (iRng1 ta) := by
  intro pins s σ H R I h
  refine Call_ (ld_blt I hg hm boot_range (PyProof.Rows.callWith_type1 (thn (ha pos pins s σ H _ I h) fun us s1 ⟨vs, H1, I1, r1, q1⟩ => ?_) hs rfl))
  obtain ⟨j, e, q1, q2, q⟩ := q1
  subst e
  cases r1 with
  | cons r rr =>
    cases rr
    obtain ⟨t, rfl⟩ := r
    exact call_range_1 (range_it I1 (by omega) (by omega) q1 q2 (by simpa using q))
/-! ### for -/
/-- W: the invariant by the turn and a measure; N: what the body is to reach -/
def tFor (wi : TI) (g : TG) (tb : TS) : TS := fun D σ H => wi σ H fun J H1 => ∃ W : Nat → Nat → St → Hp → Prop, (∃ m, W 0 m σ H1) ∧ ∀ i m σ H, W i m σ H →
  (J.stop i H ∧ D.nx σ H) ∨ (J.go i H ∧ ∃ N : St → Hp → Prop, (∀ σ' H', N σ' H' → ∃ m', m' < m ∧ W (i + 1) m' σ' H') ∧ ∀ x H', J.yld i H x H' → g x σ H' fun σ2 H2 => tb { D with nx := N, ct := N, bk := D.nx } σ2 H2)
/-- the records at fp as they stand -/
def pinsAt (fp : List Addr) (h : Heap) : List (Addr × Obj) := fp.filterMap fun b => (h.get? b).map fun o => (b, o)
theorem mem_pinsAt {fp : List Addr} {h : Heap} {b : Addr} {o : Obj} (hb : b ∈ fp) (e : h.get? b = some o) : (b, o) ∈ pinsAt fp h := List.mem_filterMap.mpr ⟨b, hb, by rw [e]; rfl⟩
theorem of_pinsAt {fp : List Addr} {h : Heap} {p : Addr × Obj} (hp : p ∈ pinsAt fp h) : p.1 ∈ fp ∧ h.get? p.1 = some p.2 := by
  obtain ⟨b, hb, e⟩ := List.mem_filterMap.mp hp
  cases q : h.get? b with
  | none => rw [q] at e; cases e
  | some o =>
    rw [q] at e
    have e' : (b, o) = p := Option.some.inj e
    subst e'
    exact ⟨hb, q⟩
theorem Inv.pinned {pins : List (Addr × Obj)} {σ : St} {H : Hp} {s : Shared} {fp : List Addr} (I : Inv X pins σ H s) (hf : ∀ b ∈ fp, FpOk X pins H b) (ho : ∀ b ∈ fp, ∃ o, s.heap.get? b = some o ∧ ∀ v, o.data ≠ .cell v) : Inv X (pins ++ pinsAt fp s.heap) σ H s :=
  I.pins_of fun p hp => (List.mem_append.mp hp).elim (fun z => I.pin p (List.mem_append_right _ z)) fun z => by
    obtain ⟨hb, e⟩ := of_pinsAt z
    obtain ⟨f0, f1, f2, _⟩ := hf p.1 hb
    obtain ⟨o, e', d⟩ := ho p.1 hb
    rw [e] at e'; cases e'
    exact ⟨e, f0, f1, f2, d⟩
theorem Inv.unpinned {pins pl : List (Addr × Obj)} {σ : St} {H : Hp} {s : Shared} (I : Inv X (pins ++ pl) σ H s) : Inv X pins σ H s := I.pins_of fun p hp => I.pin p (List.mem_append_right _ (List.mem_append_left _ hp))
theorem ps_for {iter : Expr} {body : List Stmt} {wi : TI} {g : TG} {tb : TS} {pos : Pos} (hp : PassesOwn (model X.prog X.w) X.A X.env X.xe) (hc : X.calm = true) (hi : PI X tg iter wi) (hg : PG X tg g) (hb : PSs X body tb)
    (hs : ∀ x, foldedSetIterable iter X.env x = pure x := by intro _; rfl) : PS X (.For tg iter body [] pos) (tFor wi g tb) := by
  intro pins s σ H D I h
  refine wpAny_For (thn (hi pins s σ H _ I h) fun v s1 h1 => thn h1 fun itv s2 h2 => ?_) hs
  obtain ⟨it, fp, tn, J, H2, e, I2, T, st2, f2, W, ⟨m0, w0⟩, turn⟩ := h2
  subst e
  -- what stays true of the iterator's objects through the loop
  have stat : ∀ {H' : Hp}, (∀ b ∈ fp, H' b = none) → ∀ b ∈ fp, FpOk X pins H' b := fun hn b hb => ⟨hn b hb, (f2 b hb).2⟩
  refine codeAny_forLoop_any (fun n s' => ∃ i σ' H', Inv X pins σ' H' s' ∧ tn i s'.heap ∧ (∀ b ∈ fp, H' b = none) ∧ W i n σ' H') ?_ m0 ⟨0, σ, H2, I2, st2, fun b hb => (f2 b hb).1, w0⟩
  rintro n s3 ⟨i, σ3, H3, I3, st3, fr3, w3⟩
  rcases turn i n σ3 H3 w3 with ⟨stop, qn⟩ | ⟨go, N, hN, step⟩
  · refine wpAny_passesOwn hp (thn (T.done X rfl rfl rfl hc i pins s3 σ3 H3 X.xe I3 (stat fr3) st3 stop) fun r s4 ⟨hr, I4⟩ => ?_)
    subst hr
    exact wpAny_execs_nil ⟨σ3, H3, I4, qn⟩
  · refine wpAny_passesOwn hp (thn (T.item X rfl rfl rfl hc i pins s3 σ3 H3 X.xe I3 (stat fr3) st3 go) fun r s4 ⟨u, hr, h4⟩ => ?_)
    subst hr
    refine wpAny_passesOwn hp (thn h4 fun _ s5 ⟨x, H5, I5, r5, y5, st5, fr5⟩ => ?_)
    have I5' := I5.pinned (stat fr5) (T.obj _ _ st5)
    refine wpAny_passesOwn hp (thn (hg _ s5 σ3 H5 x u _ I5' r5 (step x H5 y5)) fun _ s6 ⟨σ6, H6, I6, q6⟩ => ?_)
    refine wpAny_passesOwn hp (thn (hb _ s6 σ6 H6 _ I6 q6) fun f s7 q7 => ?_)
    have again : ∀ {σ7 : St} {H7 : Hp}, Inv X (pins ++ pinsAt fp s5.heap) σ7 H7 s7 → N σ7 H7 → ∃ m, m < n ∧ ∃ i σ' H', Inv X pins σ' H' s7 ∧ tn i s7.heap ∧ (∀ b ∈ fp, H' b = none) ∧ W i m σ' H' := fun {σ7 H7} I7 n7 => by
      obtain ⟨m', hm, w7⟩ := hN σ7 H7 n7
      refine ⟨m', hm, i + 1, σ7, H7, I7.unpinned, T.keep _ _ _ st5 fun b hb o e => (I7.pin (b, o) (List.mem_append_right _ (List.mem_append_right _ (mem_pinsAt hb e)))).1, fun b hb => ?_, w7⟩
      obtain ⟨o, e, d⟩ := T.obj _ _ st5 b hb
      exact (I7.pin (b, o) (List.mem_append_right _ (List.mem_append_right _ (mem_pinsAt hb e)))).2.1
    cases f with
    | next => obtain ⟨σ7, H7, I7, n7⟩ := q7; exact again I7 n7
    | cont => obtain ⟨σ7, H7, I7, n7⟩ := q7; exact again I7 n7
    | brk => obtain ⟨σ7, H7, I7, q7⟩ := q7; exact ⟨σ7, H7, I7.unpinned, q7⟩
    | ret v => obtain ⟨x7, σ7, H7, I7, r7, q7⟩ := q7; exact ⟨x7, σ7, H7, I7.unpinned, r7, q7⟩
end

/-! ### the forms one uses -/
/-- over a list that the body leaves as it is -/
theorem for_list {K : PySem.W.Frag} {a : Addr} {xs : List V} {g : TG} {tb : TS} {D : Ends} {σ : St} {H : Hp} (Pv : Nat → St → Hp → Prop) (h0 : Pv 0 σ H) (hl : ∀ i σ H, i ≤ xs.length → Pv i σ H → SqL K H a xs)
    (hs : ∀ i x σ H, xs[i]? = some x → Pv i σ H → g x σ H fun σ2 H2 => tb { D with nx := Pv (i + 1), ct := Pv (i + 1), bk := D.nx } σ2 H2) (hd : ∀ σ H, Pv xs.length σ H → D.nx σ H) :
    ∃ W : Nat → Nat → St → Hp → Prop, (∃ m, W 0 m σ H) ∧ ∀ i m σ H, W i m σ H →
      ((Itl K a).stop i H ∧ D.nx σ H) ∨ ((Itl K a).go i H ∧ ∃ N : St → Hp → Prop, (∀ σ' H', N σ' H' → ∃ m', m' < m ∧ W (i + 1) m' σ' H') ∧ ∀ x H', (Itl K a).yld i H x H' → g x σ H' fun σ2 H2 => tb { D with nx := N, ct := N, bk := D.nx } σ2 H2) := by
  refine ⟨fun i m σ H => m = xs.length - i ∧ i ≤ xs.length ∧ Pv i σ H, ⟨xs.length, by simp, Nat.zero_le _, h0⟩, ?_⟩
  rintro i m σ H ⟨rfl, hi, p⟩
  have q := hl i σ H hi p
  by_cases hlt : i < xs.length
  · refine .inr ⟨⟨xs, xs[i], q, by simp [hlt]⟩, Pv (i + 1), fun σ' H' p' => ⟨xs.length - (i + 1), by omega, rfl, hlt, p'⟩, fun x H' y => ?_⟩
    obtain ⟨e, y⟩ := y
    subst e
    exact hs i x σ _ (y xs q) p
  · have e : i = xs.length := by omega
    subst e
    exact .inl ⟨⟨xs, q, Nat.le_refl _⟩, hd σ H p⟩
theorem for_tup {K : PySem.W.Frag} {a : Addr} {xs : List V} {g : TG} {tb : TS} {D : Ends} {σ : St} {H : Hp} (Pv : Nat → St → Hp → Prop) (h0 : Pv 0 σ H) (hl : ∀ i σ H, i ≤ xs.length → Pv i σ H → SqT K H a xs)
    (hs : ∀ i x σ H, xs[i]? = some x → Pv i σ H → g x σ H fun σ2 H2 => tb { D with nx := Pv (i + 1), ct := Pv (i + 1), bk := D.nx } σ2 H2) (hd : ∀ σ H, Pv xs.length σ H → D.nx σ H) :
    ∃ W : Nat → Nat → St → Hp → Prop, (∃ m, W 0 m σ H) ∧ ∀ i m σ H, W i m σ H →
      ((Itt K a).stop i H ∧ D.nx σ H) ∨ ((Itt K a).go i H ∧ ∃ N : St → Hp → Prop, (∀ σ' H', N σ' H' → ∃ m', m' < m ∧ W (i + 1) m' σ' H') ∧ ∀ x H', (Itt K a).yld i H x H' → g x σ H' fun σ2 H2 => tb { D with nx := N, ct := N, bk := D.nx } σ2 H2) := by
  refine ⟨fun i m σ H => m = xs.length - i ∧ i ≤ xs.length ∧ Pv i σ H, ⟨xs.length, by simp, Nat.zero_le _, h0⟩, ?_⟩
  rintro i m σ H ⟨rfl, hi, p⟩
  have q := hl i σ H hi p
  by_cases hlt : i < xs.length
  · refine .inr ⟨⟨xs, xs[i], q, by simp [hlt]⟩, Pv (i + 1), fun σ' H' p' => ⟨xs.length - (i + 1), by omega, rfl, hlt, p'⟩, fun x H' y => ?_⟩
    obtain ⟨e, y⟩ := y
    subst e
    exact hs i x σ _ (y xs q) p
  · have e : i = xs.length := by omega
    subst e
    exact .inl ⟨⟨xs, q, Nat.le_refl _⟩, hd σ H p⟩
theorem for_range {lo : Int} {n : Nat} {g : TG} {tb : TS} {D : Ends} {σ : St} {H : Hp} (Pv : Nat → St → Hp → Prop) (h0 : Pv 0 σ H)
    (hs : ∀ i σ H, i < n → Pv i σ H → g (.int (lo + i)) σ H fun σ2 H2 => tb { D with nx := Pv (i + 1), ct := Pv (i + 1), bk := D.nx } σ2 H2) (hd : ∀ σ H, Pv n σ H → D.nx σ H) :
    ∃ W : Nat → Nat → St → Hp → Prop, (∃ m, W 0 m σ H) ∧ ∀ i m σ H, W i m σ H →
      ((Itr lo n).stop i H ∧ D.nx σ H) ∨ ((Itr lo n).go i H ∧ ∃ N : St → Hp → Prop, (∀ σ' H', N σ' H' → ∃ m', m' < m ∧ W (i + 1) m' σ' H') ∧ ∀ x H', (Itr lo n).yld i H x H' → g x σ H' fun σ2 H2 => tb { D with nx := N, ct := N, bk := D.nx } σ2 H2) := by
  refine ⟨fun i m σ H => m = n - i ∧ i ≤ n ∧ Pv i σ H, ⟨n, by simp, Nat.zero_le _, h0⟩, ?_⟩
  rintro i m σ H ⟨rfl, hi, p⟩
  by_cases hlt : i < n
  · refine .inr ⟨hlt, Pv (i + 1), fun σ' H' p' => ⟨n - (i + 1), by omega, rfl, hlt, p'⟩, fun x H' y => ?_⟩
    obtain ⟨e, y⟩ := y
    subst e y
    exact hs i σ _ hlt p
  · have e : i = n := by omega
    subst e
    exact .inl ⟨Nat.le_refl _, hd σ H p⟩
/-- while, by a word and a measure of the state -/
theorem while_by {c : TT} {tb : TS} {D : Ends} {σ : St} {H : Hp} (Pv : St → Hp → Prop) (μ : St → Hp → Nat) (h0 : Pv σ H)
    (hs : ∀ σ H, Pv σ H → c σ H fun b H1 => if b = true then tb { D with nx := fun σ' H' => Pv σ' H' ∧ μ σ' H' < μ σ H, ct := fun σ' H' => Pv σ' H' ∧ μ σ' H' < μ σ H, bk := D.nx } σ H1 else D.nx σ H1)
    (mono : ∀ σ H Q Q', (∀ b H1, Q b H1 → Q' b H1) → c σ H Q → c σ H Q') : tWhile c tb D σ H := by
  refine ⟨fun m σ H => m = μ σ H ∧ Pv σ H, ⟨_, rfl, h0⟩, ?_⟩
  rintro m σ H ⟨rfl, p⟩
  refine mono σ H _ _ (fun b H1 q => ?_) (hs σ H p)
  cases b with
  | true => exact ⟨_, fun σ' H' ⟨p', l⟩ => ⟨_, l, rfl, p'⟩, q⟩
  | false => exact q
end L2

namespace L2
open PySem PySem.Spec PyProof.Rows

abbrev R2 := V → V → Hp → VK → Prop
/-- a two-place operation on values: f is binaryOp op, inplaceOp op or compareOp op -/
def OpR (X : Cx) (f : Value → Value → Sem Value) (r : R2) : Prop :=
  ∀ (pins : List (Addr × Obj)) (s : Shared) (σ : St) (H : Hp) (x y : V) (v u : Value) (Q : VK), Inv X pins σ H s → RelV x v → RelV y u → r x y H Q →
    wpAny (model X.prog X.w) X.A (f v u) (EP X pins σ Q) X.xe s
/-- a one-place operation -/
def UnR (X : Cx) (f : Value → Sem Value) (r : V → Hp → VK → Prop) : Prop :=
  ∀ (pins : List (Addr × Obj)) (s : Shared) (σ : St) (H : Hp) (x : V) (v : Value) (Q : VK), Inv X pins σ H s → RelV x v → r x H Q →
    wpAny (model X.prog X.w) X.A (f v) (EP X pins σ Q) X.xe s
/-- a call of a value that is known (a builtin, a type) with values -/
def CallR (X : Cx) (f : Value) (r : List V → Hp → VK → Prop) : Prop :=
  ∀ (pins : List (Addr × Obj)) (s : Shared) (σ : St) (H : Hp) (xs : List V) (us : List Value) (Q : VK), Inv X pins σ H s → Vals xs us → r xs H Q →
    wpAny (model X.prog X.w) X.A (call f us) (EP X pins σ Q) X.xe s
/-- a value's truth -/
def TruR (X : Cx) (r : V → Hp → (Bool → Hp → Prop) → Prop) : Prop :=
  ∀ (pins : List (Addr × Obj)) (s : Shared) (σ : St) (H : Hp) (x : V) (v : Value) (Q : Bool → Hp → Prop), Inv X pins σ H s → RelV x v → r x H Q →
    wpAny (model X.prog X.w) X.A (truthy v) (TP X pins σ Q) X.xe s

def tOp (r : R2) (ta tb : TE) : TE := fun σ H Q => ta σ H fun x H1 => tb σ H1 fun y H2 => r x y H2 Q
def tUn (r : V → Hp → VK → Prop) (ta : TE) : TE := fun σ H Q => ta σ H fun x H1 => r x H1 Q
/-- ints in, under C, and a value out -/
def rI (C : Int → Int → Prop) (g : Int → Int → V) : R2 := fun x y H Q => ∃ i j, x = .int i ∧ y = .int j ∧ C i j ∧ Q (g i j) H
def rI0 (g : Int → Int → V) : R2 := fun x y H Q => ∃ i j, x = .int i ∧ y = .int j ∧ Q (g i j) H
def rU (g : Int → V) : V → Hp → VK → Prop := fun x H Q => ∃ i, x = .int i ∧ Q (g i) H

section
variable {X : Cx} {a b c : Expr} {ta tb tc : TE} {pos : Pos}

theorem binT (ha : PE X a ta) (hb : PE X b tb) {pins : List (Addr × Obj)} {s : Shared} {σ : St} {H : Hp} {R : V → V → Hp → Prop} (I : Inv X pins σ H s)
    (h : ta σ H fun x H1 => tb σ H1 fun y H2 => R x y H2) {Q : Value → Shared → Prop} {f : Value → Value → Sem Value}
    (hf : ∀ v u s2 x y H2, Inv X pins σ H2 s2 → RelV x v → RelV y u → R x y H2 → wpAny (model X.prog X.w) X.A (f v u) Q X.xe s2) :
    wpAny (model X.prog X.w) X.A (eval a X.env) (fun v s₁ => wpAny (model X.prog X.w) X.A (eval b X.env) (fun u s₂ => wpAny (model X.prog X.w) X.A (f v u) Q X.xe s₂) X.xe s₁) X.xe s := by
  refine thn (ha pins s σ H _ I h) fun v s1 ⟨x, H1, I1, r1, q1⟩ => ?_
  refine thn (hb pins s1 σ H1 _ I1 q1) fun u s2 ⟨y, H2, I2, r2, q2⟩ => ?_
  exact hf v u s2 x y H2 I2 r1 r2 q2

theorem pe_op {op : Operator} {r : R2} (ho : OpR X (binaryOp op) r) (ha : PE X a ta) (hb : PE X b tb) : PE X (.BinOp a op b pos) (tOp r ta tb) := by
  intro pins s σ H Q I h
  exact wpAny_BinOp (binT ha hb I h fun v u s2 x y H2 I2 rx ry q => ho pins s2 σ H2 x y v u Q I2 rx ry q)
theorem pe_un {op : UnaryOp} {r : V → Hp → VK → Prop} (ho : UnR X (unaryOp op) r) (ha : PE X a ta) : PE X (.UnaryOp op a pos) (tUn r ta) := by
  intro pins s σ H Q I h
  exact UnaryOp_ (thn (ha pins s σ H _ I h) fun v s1 ⟨x, H1, I1, r1, q1⟩ => ho pins s1 σ H1 x v Q I1 r1 q1)
/-! ### ints -/
theorem opI {f : Value → Value → Sem Value} {C : Int → Int → Prop} {g : Int → Int → Int}
    (rule : ∀ (i j : Int) (t u : Tok) (s : Shared) (Q : Value → Shared → Prop) (E : Value → Shared → Prop), C i j → Q (.int (g i j) s.toks) { s with toks := s.toks + 1 } → wpAny (model X.prog X.w) X.A (f (.int i t) (.int j u)) Q E s) :
    OpR X f (rI C fun i j => .int (g i j)) := by
  intro pins s σ H x y v u Q I rx ry h
  obtain ⟨i, j, rfl, rfl, hc, q⟩ := h
  obtain ⟨t, rfl⟩ := rx
  obtain ⟨t', rfl⟩ := ry
  exact rule i j t t' s _ _ hc ⟨.int (g i j), H, I.tok _, ⟨_, rfl⟩, q⟩
theorem opI0 {f : Value → Value → Sem Value} {g : Int → Int → Int}
    (rule : ∀ (i j : Int) (t u : Tok) (s : Shared) (Q : Value → Shared → Prop) (E : Value → Shared → Prop), Q (.int (g i j) s.toks) { s with toks := s.toks + 1 } → wpAny (model X.prog X.w) X.A (f (.int i t) (.int j u)) Q E s) :
    OpR X f (rI0 fun i j => .int (g i j)) := by
  intro pins s σ H x y v u Q I rx ry h
  obtain ⟨i, j, rfl, rfl, q⟩ := h
  obtain ⟨t, rfl⟩ := rx
  obtain ⟨t', rfl⟩ := ry
  exact rule i j t t' s _ _ ⟨.int (g i j), H, I.tok _, ⟨_, rfl⟩, q⟩
theorem opB0 {f : Value → Value → Sem Value} {g : Int → Int → Bool}
    (rule : ∀ (i j : Int) (t u : Tok) (s : Shared) (Q : Value → Shared → Prop) (E : Value → Shared → Prop), Q (.bool (g i j)) s → wpAny (model X.prog X.w) X.A (f (.int i t) (.int j u)) Q E s) :
    OpR X f (rI0 fun i j => .bl (g i j)) := by
  intro pins s σ H x y v u Q I rx ry h
  obtain ⟨i, j, rfl, rfl, q⟩ := h
  obtain ⟨t, rfl⟩ := rx
  obtain ⟨t', rfl⟩ := ry
  exact rule i j t t' s _ _ ⟨.bl (g i j), H, I, rfl, q⟩

def CDiv (i j : Int) : Prop := 0 < j ∧ j < 1073741824
def CDivN (i j : Int) : Prop := j ≠ 0 ∧ j.natAbs < 1073741824
def CPow (i j : Int) : Prop := 0 ≤ j ∧ j ≤ 1000000 ∧ i.natAbs < 2 ^ 64
def CMul (i j : Int) : Prop := (-(2 ^ 64) < i ∧ i < 2 ^ 64) ∨ (-(2 ^ 64) < j ∧ j < 2 ^ 64)
theorem CMul.ok {i j : Int} (h : CMul i j) : IntMulOk i j := by
  rcases h with ⟨h1, h2⟩ | ⟨h1, h2⟩
  · exact .of_left (intBits_le_64 h1 h2)
  · exact .of_right (intBits_le_64 h1 h2)
theorem op_add : OpR X (binaryOp .Add) (rI0 fun i j => .int (i + j)) := opI0 fun _ _ _ _ _ _ _ q => add_int q
theorem op_sub : OpR X (binaryOp .Sub) (rI0 fun i j => .int (i - j)) := opI0 fun _ _ _ _ _ _ _ q => sub_int q
theorem op_mul : OpR X (binaryOp .Mult) (rI CMul fun i j => .int (i * j)) := opI fun _ _ _ _ _ _ _ hc q => mul_int q hc.ok
/-- % by a positive divisor of any size -/
theorem op_mod : OpR X (binaryOp .Mod) (rI (fun _ j => 0 < j) fun i j => .int (i % j)) := opI fun i j _ _ _ _ _ hc q => by
  have h1 : (0 : Int) < j := hc
  exact mod_int' (by omega) (by rw [Int.fmod_eq_emod_of_nonneg i (by omega)]; exact q)
theorem op_pow : OpR X (binaryOp .Pow) (rI CPow fun i j => .int (i ^ j.toNat)) := opI fun _ _ _ _ _ _ _ hc q => pow_int_small hc.1 hc.2.1 hc.2.2 q
theorem op_shl : OpR X (binaryOp .LShift) (rI CPow fun i j => .int (i * 2 ^ j.toNat)) := opI fun _ _ _ _ _ _ _ hc q => lshift_int_small hc.1 hc.2.1 hc.2.2 q
theorem unI {f : Value → Sem Value} {g : Int → Int}
    (rule : ∀ (i : Int) (t : Tok) (s : Shared) (Q : Value → Shared → Prop) (E : Value → Shared → Prop), Q (.int (g i) s.toks) { s with toks := s.toks + 1 } → wpAny (model X.prog X.w) X.A (f (.int i t)) Q E s) :
    UnR X f (rU fun i => .int (g i)) := by
  intro pins s σ H x v Q I rx h
  obtain ⟨i, rfl, q⟩ := h
  obtain ⟨t, rfl⟩ := rx
  exact rule i t s _ _ ⟨.int (g i), H, I.tok _, ⟨_, rfl⟩, q⟩
theorem un_neg : UnR X (unaryOp .USub) (rU fun i => .int (-i)) := unI fun _ _ _ _ _ q => neg_int q
/-! ### bools among ints: n += (a < b) -/
end

/-! ### comparisons -/
/-- the scalars that == tells apart as data does -/
def scal : V → V → Bool
  | .non, .non => true | .non, .int _ => true | .int _, .non => true | .non, .bl _ => true | .bl _, .non => true | .non, .str _ => true | .str _, .non => true
  | .int _, .int _ => true | .bl _, .bl _ => true | .str _, .str _ => true | .byt _, .byt _ => true
  | .int _, .str _ => true | .str _, .int _ => true | .bl _, .str _ => true | .str _, .bl _ => true
  | _, _ => false
def rEq : R2 := fun x y H Q => scal x y = true ∧ Q (.bl (decide (x = y))) H
def rNe : R2 := fun x y H Q => scal x y = true ∧ Q (.bl (!decide (x = y))) H

theorem dec_int {i j : Int} : decide (V.int i = V.int j) = (i == j) := by
  rw [Bool.eq_iff_iff]
  simp
theorem dec_bl {i j : Bool} : decide (V.bl i = V.bl j) = (i == j) := by
  rw [Bool.eq_iff_iff]
  simp
theorem dec_str {i j : Str} : decide (V.str i = V.str j) = (i == j) := by
  rw [Bool.eq_iff_iff]
  simp
theorem dec_byt {i j : Array UInt8} : decide (V.byt i = V.byt j) = (i.toList == j.toList) := by
  rw [Bool.eq_iff_iff]
  cases i
  cases j
  simp

section
variable {X : Cx} {a b c : Expr} {ta tb tc : TE} {pos : Pos}
theorem fin_bl {pins : List (Addr × Obj)} {σ : St} {H : Hp} {s : Shared} {Q : VK} {k k' : Bool} (I : Inv X pins σ H s) (q : Q (.bl k) H) (e : k = k') : EP X pins σ Q (.bool k') s := by
  subst e
  exact ⟨.bl k, H, I, rfl, q⟩
theorem op_eq : OpR X (compareOp .Eq) rEq := by
  intro pins s σ H x y v u Q I rx ry h
  obtain ⟨hs, q⟩ := h
  cases x with
  | non =>
    cases rx
    cases y with
    | non => cases ry; exact PySem.EqNone.eq_none_none (fin_bl I q (by simp))
    | bl j => cases ry; exact PySem.EqNone.eq_none_bool (fin_bl I q (by simp))
    | int j => obtain ⟨t', rfl⟩ := ry; exact PySem.EqNone.eq_none_int (fin_bl I q (by simp))
    | str j => obtain ⟨t', rfl⟩ := ry; exact PySem.EqNone.eq_none_str (fin_bl I q (by simp))
    | _ => exact absurd (show false = true from hs) Bool.false_ne_true
  | bl i =>
    cases rx
    cases y with
    | non => cases ry; exact PySem.EqNone.eq_bool_none (fin_bl I q (by simp))
    | bl j => cases ry; exact eq_bool (fin_bl I q dec_bl)
    | str j => obtain ⟨t', rfl⟩ := ry; exact PySem.EqMixed.eq_bool_str (fin_bl I q (by simp))
    | _ => exact absurd (show false = true from hs) Bool.false_ne_true
  | int i =>
    obtain ⟨t, rfl⟩ := rx
    cases y with
    | non => cases ry; exact PySem.EqNone.eq_int_none (fin_bl I q (by simp))
    | int j => obtain ⟨t', rfl⟩ := ry; exact eq_int (fin_bl I q dec_int)
    | str j => obtain ⟨t', rfl⟩ := ry; exact PySem.EqMixed.eq_int_str (fin_bl I q (by simp))
    | _ => exact absurd (show false = true from hs) Bool.false_ne_true
  | str i =>
    obtain ⟨t, rfl⟩ := rx
    cases y with
    | non => cases ry; exact PySem.EqNone.eq_str_none (fin_bl I q (by simp))
    | bl j => cases ry; exact PySem.EqMixed.eq_str_bool (fin_bl I q (by simp))
    | int j => obtain ⟨t', rfl⟩ := ry; exact PySem.EqMixed.eq_str_int (fin_bl I q (by simp))
    | str j => obtain ⟨t', rfl⟩ := ry; exact eq_str (fin_bl I q dec_str)
    | _ => exact absurd (show false = true from hs) Bool.false_ne_true
  | byt i =>
    obtain ⟨t, rfl⟩ := rx
    cases y with
    | byt j => obtain ⟨t', rfl⟩ := ry; exact PySem.W.eq_bytes (fin_bl I q dec_byt)
    | _ => exact absurd (show false = true from hs) Bool.false_ne_true
  | _ => cases y <;> exact absurd (show false = true from hs) Bool.false_ne_true
theorem op_ne : OpR X (compareOp .NotEq) rNe := by
  intro pins s σ H x y v u Q I rx ry h
  obtain ⟨hs, q⟩ := h
  cases x with
  | non =>
    cases rx
    cases y with
    | non => cases ry; exact PySem.EqNone.ne_none_none (fin_bl I q (by simp))
    | bl j => cases ry; exact PySem.EqNone.ne_none_bool (fin_bl I q (by simp))
    | int j => obtain ⟨t', rfl⟩ := ry; exact PySem.EqNone.ne_none_int (fin_bl I q (by simp))
    | str j => obtain ⟨t', rfl⟩ := ry; exact PySem.EqNone.ne_none_str (fin_bl I q (by simp))
    | _ => exact absurd (show false = true from hs) Bool.false_ne_true
  | bl i =>
    cases rx
    cases y with
    | non => cases ry; exact PySem.EqNone.ne_bool_none (fin_bl I q (by simp))
    | bl j => cases ry; exact ne_bool (fin_bl I q (congrArg not dec_bl))
    | str j => obtain ⟨t', rfl⟩ := ry; exact PySem.EqMixed.ne_bool_str (fin_bl I q (by simp))
    | _ => exact absurd (show false = true from hs) Bool.false_ne_true
  | int i =>
    obtain ⟨t, rfl⟩ := rx
    cases y with
    | non => cases ry; exact PySem.EqNone.ne_int_none (fin_bl I q (by simp))
    | int j => obtain ⟨t', rfl⟩ := ry; exact ne_int (fin_bl I q (congrArg not dec_int))
    | str j => obtain ⟨t', rfl⟩ := ry; exact PySem.EqMixed.ne_int_str (fin_bl I q (by simp))
    | _ => exact absurd (show false = true from hs) Bool.false_ne_true
  | str i =>
    obtain ⟨t, rfl⟩ := rx
    cases y with
    | non => cases ry; exact PySem.EqNone.ne_str_none (fin_bl I q (by simp))
    | bl j => cases ry; exact PySem.EqMixed.ne_str_bool (fin_bl I q (by simp))
    | int j => obtain ⟨t', rfl⟩ := ry; exact PySem.EqMixed.ne_str_int (fin_bl I q (by simp))
    | str j => obtain ⟨t', rfl⟩ := ry; exact ne_str (fin_bl I q (congrArg not dec_str))
    | _ => exact absurd (show false = true from hs) Bool.false_ne_true
  | byt i =>
    obtain ⟨t, rfl⟩ := rx
    cases y with
    | byt j => obtain ⟨t', rfl⟩ := ry; exact PySem.W.ne_bytes (fin_bl I q (congrArg not dec_byt))
    | _ => exact absurd (show false = true from hs) Bool.false_ne_true
  | _ => cases y <;> exact absurd (show false = true from hs) Bool.false_ne_true

theorem op_lt : OpR X (compareOp .Lt) (rI0 fun i j => .bl (decide (i < j))) := opB0 fun _ _ _ _ _ _ _ q => lt_int q
theorem op_le : OpR X (compareOp .LtE) (rI0 fun i j => .bl (decide (i ≤ j))) := opB0 fun _ _ _ _ _ _ _ q => le_int q
theorem op_gt : OpR X (compareOp .Gt) (rI0 fun i j => .bl (decide (j < i))) := opB0 fun _ _ _ _ _ _ _ q => gt_int q
theorem op_ge : OpR X (compareOp .GtE) (rI0 fun i j => .bl (decide (j ≤ i))) := opB0 fun _ _ _ _ _ _ _ q => ge_int q
/-- is None, is not None: the right side a value none -/
theorem op_isN : OpR X (compareOp .Is) (fun x y H Q => y = .non ∧ Q (.bl (decide (x = .non))) H) := by
  intro pins s σ H x y v u Q I rx ry h
  obtain ⟨rfl, q⟩ := h
  cases ry
  refine is_none_gen (fin_bl I q ?_)
  cases x <;> first
    | (cases rx; rfl)
    | (obtain ⟨t, rfl⟩ := rx; rfl)
theorem op_notN : OpR X (compareOp .IsNot) (fun x y H Q => y = .non ∧ Q (.bl (!decide (x = .non))) H) := by
  intro pins s σ H x y v u Q I rx ry h
  obtain ⟨rfl, q⟩ := h
  cases ry
  refine isnot_none_gen (fin_bl I q ?_)
  cases x <;> first
    | (cases rx; rfl)
    | (obtain ⟨t, rfl⟩ := rx; rfl)

/-- is, is not of two objects that are tracked lists or instances -/
def isObj : HO → Bool
  | .lst _ => true
  | .ins _ _ _ => true
  | _ => false
theorem nomark (b : Expr) {op : CmpOp} (h : op ≠ .In := by decide) (h2 : op ≠ .NotIn := by decide) : behindInMarks op b = false := by
  have e1 : (op == CmpOp.In) = false := by cases op <;> first | rfl | exact absurd rfl h
  have e2 : (op == CmpOp.NotIn) = false := by cases op <;> first | rfl | exact absurd rfl h2
  cases b <;> simp [behindInMarks, e1, e2]
/-- a comparison as a value; hm: nomark b, or (for in, not in) by with_unfolding_all rfl -/
theorem pe_cmpR {op : CmpOp} {r : R2} (ho : OpR X (compareOp op) r) (ha : PE X a ta) (hb : PE X b tb) (hm : behindInMarks op b = false) : PE X (.Compare a [op] [b] pos) (tOp r ta tb) := by
  intro pins s σ H Q I h
  exact wpAny_Compare1 (binT ha hb I h fun v u s2 x y H2 I2 rx ry q => ho pins s2 σ H2 x y v u Q I2 rx ry q) hm
/-- a reading of a value as a test -/
def tTest (t : TE) : TT := fun σ H Q => t σ H fun x H' => ∃ k, x = .bl k ∧ Q k H'
theorem pt_cmpR {op : CmpOp} {r : R2} (ho : OpR X (compareOp op) r) (ha : PE X a ta) (hb : PE X b tb) (hm : behindInMarks op b = false) : PT X (.Compare a [op] [b] pos) (tTest (tOp r ta tb)) := by
  intro pins s σ H Q I h
  refine wpAny_isTrue_Compare1 (thn (ha pins s σ H _ I h) fun v s1 ⟨x, H1, I1, r1, q1⟩ => thn (hb pins s1 σ H1 _ I1 q1) fun u s2 ⟨y, H2, I2, r2, q2⟩ =>
    thn (ho pins s2 σ H2 x y v u _ I2 r1 r2 q2) fun c s3 ⟨z, H3, I3, r3, k, e, q3⟩ => ?_) hm
  subst e
  cases r3
  exact wpAny_truthy_bool ⟨H3, I3, q3⟩
/-- a op1 b op2 c -/
def tChain (r r' : R2) (ta tb tc : TE) : TE := fun σ H Q => ta σ H fun x H1 => tb σ H1 fun y H2 => r x y H2 fun z H3 => ∃ k, z = .bl k ∧
  (if k = true then tc σ H3 fun w' H4 => r' y w' H4 Q else Q (.bl false) H3)
theorem pe_chain {op op' : CmpOp} {r r' : R2} (ho : OpR X (compareOp op) r) (ho' : OpR X (compareOp op') r') (ha : PE X a ta) (hb : PE X b tb) (hc : PE X c tc)
    (hm : lastMarks [op, op'] [b, c] = false := by with_unfolding_all rfl) : PE X (.Compare a [op, op'] [b, c] pos) (tChain r r' ta tb tc) := by
  intro pins s σ H Q I h
  refine Compare_chain (thn (ha pins s σ H _ I h) fun v s1 ⟨x, H1, I1, r1, q1⟩ => chain_link (thn (hb pins s1 σ H1 _ I1 q1) fun u s2 ⟨y, H2, I2, r2, q2⟩ =>
    thn (ho pins s2 σ H2 x y v u _ I2 r1 r2 q2) fun d s3 ⟨z, H3, I3, r3, k, e, q3⟩ => ?_)) hm
  subst e
  cases r3
  refine wpAny_truthy_bool ?_
  cases k with
  | false => exact ite_ff ⟨.bl false, H3, I3, rfl, q3⟩
  | true => exact ite_tt (chain_last (thn (hc pins s3 σ H3 _ I3 q3) fun w' s4 ⟨z', H4, I4, r4, q4⟩ => ho' pins s4 σ H4 y z' u w' Q I4 r2 r4 q4))
/-! ### truth -/
/-- a value's truth by the abstract heap -/
def TruV (K : PySem.W.Frag) (x : V) (H : Hp) (k : Bool) : Prop :=
  match x with
  | .non => k = false
  | .bl b => k = b
  | .int i => k = (i != 0)
  | .str y => y.length ≤ sizeLine ∧ k = ((y.length : Int) != 0)
  | .byt y => y.size ≤ sizeLine ∧ k = ((y.size : Int) != 0)
  | .ref p => (∃ xs, SqL K H p xs ∧ k = !xs.isEmpty) ∨ (∃ xs, SqT K H p xs ∧ k = !xs.isEmpty) ∨ ∃ kvs, H p = some (.dK kvs) ∧ k = !kvs.isEmpty
  | _ => False
theorem line63 : (sizeLine : Nat) < 2 ^ 63 := by rw [sizeLine_eq]; decide
/-! ### strs and bytes -/
def PlainIxT (b : Expr) : Prop := ∀ o i, subscripted b false o i = operate [o, i] (getItem o i)
/-! ### scalar builtins, by CallR -/
theorem vals1 {x : V} {us : List Value} (r : Vals [x] us) : ∃ u, us = [u] ∧ RelV x u := by
  cases r with
  | cons r1 r2 => cases r2; exact ⟨_, rfl, r1⟩
theorem vals2 {x y : V} {us : List Value} (r : Vals [x, y] us) : ∃ u w', us = [u, w'] ∧ RelV x u ∧ RelV y w' := by
  cases r with
  | cons r1 r2 =>
    cases r2 with
    | cons r3 r4 => cases r4; exact ⟨_, _, rfl, r1, r3⟩
theorem call_max2 (hc : X.calm = true) : CallR X (.builtin "max") (fun xs H Q => ∃ i j, xs = [.int i, .int j] ∧ Q (.int (if j > i then j else i)) H) := by
  intro pins s σ H xs us Q I r h
  obtain ⟨i, j, rfl, q⟩ := h
  obtain ⟨u, w', rfl, ⟨t, rfl⟩, ⟨t', rfl⟩⟩ := vals2 r
  refine max_two_ints (I.ok.hd hc) fun h' tk k => ⟨_, H, I.kept k, ?_, q⟩
  by_cases hj : j > i
  · rw [if_pos hj, if_pos hj]; exact ⟨_, rfl⟩
  · rw [if_neg hj, if_neg hj]; exact ⟨_, rfl⟩
theorem call_min2 (hc : X.calm = true) : CallR X (.builtin "min") (fun xs H Q => ∃ i j, xs = [.int i, .int j] ∧ Q (.int (if j < i then j else i)) H) := by
  intro pins s σ H xs us Q I r h
  obtain ⟨i, j, rfl, q⟩ := h
  obtain ⟨u, w', rfl, ⟨t, rfl⟩, ⟨t', rfl⟩⟩ := vals2 r
  refine min_two_ints (I.ok.hd hc) fun h' tk k => ⟨_, H, I.kept k, ?_, q⟩
  by_cases hj : j < i
  · rw [if_pos hj, if_pos hj]; exact ⟨_, rfl⟩
  · rw [if_neg hj, if_neg hj]; exact ⟨_, rfl⟩
/-- len of a str, a bytes, a list, a tuple -/
def LenV (K : PySem.W.Frag) (x : V) (H : Hp) (n : Nat) : Prop :=
  match x with
  | .str y => y.length ≤ sizeLine ∧ n = y.length
  | .byt y => y.size ≤ sizeLine ∧ n = y.size
  | .ref p => (∃ xs, SqL K H p xs ∧ n = xs.length) ∨ ∃ xs, SqT K H p xs ∧ n = xs.length
  | _ => False
end
end L2

namespace L2
open PySem PySem.Spec PyProof.Rows

/-! ### an instance, its attributes a map -/
structure ObjM (h : Heap) (x dx C : Addr) (mA : Str → Option Value) : Prop where
  obj : h.get? x = some (PySem.W.instObj C dx)
  ns : h.Ns1 dx mA
  ne : dx ≠ x

theorem lookIn_ns {h : Heap} {dx : Addr} {mA : Str → Option Value} (n : h.Ns1 dx mA) : ∃ od, h.get? dx = some od ∧ ∀ name, PySem.W.lookIn name od = some (mA name) := by
  obtain ⟨o, es, ep, ho, hd, hk, _, hm⟩ := n
  refine ⟨o, ho, fun name => ?_⟩
  have e := hm name
  unfold nsFind findBy at e
  rw [← Array.find?_toList] at e
  unfold PySem.W.lookIn
  rw [hd]
  dsimp only
  split
  · rename_i y q
    rw [q] at e
    exact congrArg some e
  · rename_i q
    rw [q] at e
    have a : es.toList.any (·.refKey) = false := by
      rw [List.any_eq_false]
      intro y hy
      obtain ⟨z, t, hkey⟩ := hk y (Array.mem_toList_iff.mp hy)
      simp [DictEntry.refKey, hkey]
    have a' : ¬ es.toList.any (·.refKey) = true := by rw [a]; exact Bool.false_ne_true
    rw [if_neg a']
    exact congrArg some e

theorem ObjM.look {h : Heap} {x dx C : Addr} {mA : Str → Option Value} (I : ObjM h x dx C mA) : ∃ od, PySem.W.InstAt h x (PySem.W.instObj C dx) C (some od) ∧ ∀ name, PySem.W.lookIn name od = some (mA name) :=
  let ⟨od, ho, hl⟩ := lookIn_ns I.ns
  ⟨od, ⟨I.obj, rfl, rfl, ho⟩, hl⟩

section
variable {prog : Program} {w : World} {A : Around} {E : Value → Shared → Prop} {s : Shared} {K : PySem.W.Frag} {x dx C f : Addr} {mA : Str → Option Value} {name : Str} {v : Value}

end

/-! ### the attributes as a list of pairs -/
def putF (f : Str) (v : V) : List (Str × V) → List (Str × V)
  | [] => [(f, v)]
  | (g, x) :: r => if g = f then (g, v) :: r else (g, x) :: putF f v r
section
variable {P : Program} {w : World} {H H' : Hp} {h h' : Heap} {a C dx : Addr} {fs fs' : List (Str × V)}
theorem ins_get (hok : HOk P w H h) (e : H a = some (.ins C dx fs)) : ∃ mA, ObjM h a dx C mA ∧ (∀ f, RelO (fs.lookup f) (mA f)) ∧ PySem.Within mA (fs.map (·.1)) ∧ fs.length ≤ 1000 ∧ H dx = some (.own a) := by
  obtain ⟨d, z, ne, ob, mA, n, r, q⟩ := (show ObjOk P w H h a (.ins C dx fs) from hok a _ e)
  exact ⟨mA, ⟨ob, n, ne⟩, r, q, z, d⟩
end

/-! ### what of the text a class must have -/
structure Cls (K : PySem.W.Frag) (C : Addr) : Prop where
  pg : PySem.W.plainGet K C Str.empty = true
  hd : PySem.W.hasDictIn K C = true
  po : PySem.W.plainOver K C = true
  sa : PySem.W.findIn K (.ref C) "__setattr__" = some (some (.builtin "object.__setattr__"))
theorem Cls.get {K : PySem.W.Frag} {C : Addr} (c : Cls K C) (f : Str) : PySem.W.plainGet K C f = true := c.pg
/-- no class of it has the name -/
def NoAttr (K : PySem.W.Frag) (C : Addr) (f : Str) : Prop := PySem.W.findIn K (.ref C) f = some none
/-- a constant of the class -/
structure Con (K : PySem.W.Frag) (C : Addr) (f : Str) (v : V) (u : Value) : Prop where
  at_ : PySem.W.findIn K (.ref C) f = some (some u)
  rel : RelV v u
  get : PySem.W.specialIn K u "__get__" = some none
  cp : PySem.W.copiedNames.contains f = false
/-- a method: a plain def of the class or of one above it -/
structure Meth (K : PySem.W.Frag) (C : Addr) (m : Str) (f : Addr) : Prop where
  at_ : PySem.W.findIn K (.ref C) m = some (some (.ref f))
  fn : PySem.W.isFn K (.ref f) = true
  kp : PySem.W.keepIn K (.ref f) = true

section
variable {X : Cx} {pins : List (Addr × Obj)} {σ : St} {H : Hp} {s : Shared} {a C dx : Addr} {fs : List (Str × V)} {f : Str} {v : V} {A : Around} {E : Value → Shared → Prop}

end

/-! ### readings and rules -/
/-- e.f, an attribute of the instance -/
def tFld (K : PySem.W.Frag) (ta : TE) (f : Str) : TE := fun σ H Q => ta σ H fun x H1 => ∃ a C dx fs v, x = .ref a ∧ H1 a = some (.ins C dx fs) ∧ Cls K C ∧ NoAttr K C f ∧ fs.lookup f = some v ∧ Q v H1
/-- e.f, a constant of the class -/
def tCon (K : PySem.W.Frag) (ta : TE) (f : Str) : TE := fun σ H Q => ta σ H fun x H1 => ∃ a C dx fs v u, x = .ref a ∧ H1 a = some (.ins C dx fs) ∧ Cls K C ∧ Con K C f v u ∧ fs.lookup f = none ∧ Q v H1
/-- e.f = value -/
def sFld (K : PySem.W.Frag) (ta tv : TE) (f : Str) : TS := fun D σ H => tv σ H fun y H1 => ta σ H1 fun x H2 => ∃ a C dx fs, x = .ref a ∧ H2 a = some (.ins C dx fs) ∧ Cls K C ∧ NoAttr K C f ∧ fs.length < 1000 ∧
  D.nx σ (upd H2 a (.ins C dx (putF f y fs)))
/-- an augmented operator on two values -/
def InOp (X : Cx) (op : Operator) (rd : V → V → Hp → VK → Prop) : Prop :=
  ∀ (pins : List (Addr × Obj)) (s : Shared) (σ : St) (H : Hp) (x y : V) (u v : Value) (Q : VK), Inv X pins σ H s → RelV x u → RelV y v → rd x y H Q → wpAny (model X.prog X.w) X.A (inplaceOp op u v) (EP X pins σ Q) X.xe s
/-- e.f op= value -/
def sFldAug (K : PySem.W.Frag) (ta tv : TE) (rd : V → V → Hp → VK → Prop) (f : Str) : TS := fun D σ H => ta σ H fun x H1 => ∃ a C dx fs v, x = .ref a ∧ H1 a = some (.ins C dx fs) ∧ Cls K C ∧ NoAttr K C f ∧ fs.lookup f = some v ∧
  tv σ H1 fun y H2 => rd v y H2 fun z H3 => ∃ dx' fs', H3 a = some (.ins C dx' fs') ∧ fs'.length < 1000 ∧ D.nx σ (upd H3 a (.ins C dx' (putF f z fs')))

section
variable {X : Cx} {o e value : Expr} {f : Str} {pos pos' tpos : Pos} {ta tv : TE}
def rAdd : V → V → Hp → VK → Prop := fun x y H Q => ∃ i j, x = .int i ∧ y = .int j ∧ Q (.int (i + j)) H
def rSub : V → V → Hp → VK → Prop := fun x y H Q => ∃ i j, x = .int i ∧ y = .int j ∧ Q (.int (i - j)) H
end

/-! ### isinstance -/
section
variable {X : Cx} {pins : List (Addr × Obj)} {σ : St} {H : Hp} {s : Shared} {A : Around} {E : Value → Shared → Prop} {Q : Value → Shared → Prop} {c : Value} {b : Bool}
/-- the type of a value, as the fragment's deciders take it; for an instance its class -/
inductive TyOf (K : PySem.W.Frag) (H : Hp) : V → Value → Prop where
  | non : TyOf K H .non (.type "NoneType")
  | bl (x : Bool) : TyOf K H (.bl x) (.type "bool")
  | int (i : Int) : TyOf K H (.int i) (.type "int")
  | str (x : Str) : TyOf K H (.str x) (.type "str")
  | flt (x : UInt64) : TyOf K H (.flt x) (.type "float")
  | lst {a : Addr} {xs : List V} (e : H a = some (.lst xs)) : TyOf K H (.ref a) (.type "list")
  | frz {a : Addr} {o : Obj} {xs : List V} (e : H a = some (.frz o (.lst xs))) : TyOf K H (.ref a) (.type "list")
  | tup {a : Addr} {xs : List V} (e : H a = some (.tup xs)) : TyOf K H (.ref a) (.type "tuple")
  | dK {a : Addr} {kvs : List (Key × V)} (e : H a = some (.dK kvs)) : TyOf K H (.ref a) (.type "dict")
  | dT {a : Addr} {kvs : List (List Key × V)} (e : H a = some (.dT kvs)) : TyOf K H (.ref a) (.type "dict")
  | ins {a C dx : Addr} {fs : List (Str × V)} (e : H a = some (.ins C dx fs)) (cl : Cls K C) (ha : PySem.W.findIn K (.ref C) "__class__" = some (some (.builtin "object.__class__")))
      (hn : PySem.W.specialIn K (.builtin "object.__class__") "__get__" = some (some (.builtin "getset_descriptor.__get__"))) (htk : PySem.W.takesIn K (.builtin "object.__class__") = some true)
      (hm : PySem.W.mroIn K C (.type "object") = some true) : TyOf K H (.ref a) (.ref C)
/-- isinstance(x, c) for one class c, a built-in or an own one: kitOne's answer -/
theorem isinst_ok {x : V} {u t : Value} (I : Inv X pins σ H s) (rx : RelV x u) (ty : TyOf X.K H x t) (e : PySem.W.kitOne X.K t c = some b) (h : ∀ tk, Q (.bool b) { s with toks := tk }) :
    wpAny (model X.prog X.w) A (call (.builtin "isinstance") [u, c]) Q E s := by
  cases ty with
  | non => cases (show u = Value.none from rx); exact PySem.W.kia_one PySem.W.kitx_none I.kIn True.intro e (fun z => nomatch z) h
  | bl y => cases (show u = Value.bool y from rx); exact PySem.W.kia_one PySem.W.kitx_bool I.kIn True.intro e (fun z => nomatch z) h
  | int i => obtain ⟨t, q⟩ := (show ∃ t, u = Value.int i t from rx); cases q; exact PySem.W.kia_one PySem.W.kitx_int I.kIn True.intro e (fun z => nomatch z) h
  | str y => obtain ⟨t, q⟩ := (show ∃ t, u = Value.str y t from rx); cases q; exact PySem.W.kia_one PySem.W.kitx_str I.kIn True.intro e (fun z => nomatch z) h
  | flt y => obtain ⟨t, q⟩ := (show ∃ t, u = Value.float y t from rx); cases q; exact PySem.W.kia_one PySem.W.kitx_float I.kIn True.intro e (fun z => nomatch z) h
  | @lst a xs ea =>
    cases (show u = Value.ref a from rx)
    obtain ⟨_, _, n, _, h1⟩ := (show ObjOk X.prog X.w H s.heap a (.lst xs) from I.hok a _ ea)
    exact PySem.W.kia_one PySem.W.kitx_list I.kIn ⟨_, h1, rfl⟩ e (fun z => nomatch z) h
  | @frz a ob xs ea =>
    cases (show u = Value.ref a from rx)
    obtain ⟨_, _, _, n, _, h1⟩ := (show ObjOk X.prog X.w H s.heap a (.frz ob (.lst xs)) from I.hok a _ ea)
    exact PySem.W.kia_one PySem.W.kitx_list I.kIn ⟨_, h1, rfl⟩ e (fun z => nomatch z) h
  | @tup a xs ea =>
    cases (show u = Value.ref a from rx)
    obtain ⟨_, _, _, p⟩ := (show ObjOk X.prog X.w H s.heap a (.tup xs) from I.hok a _ ea)
    obtain ⟨o, h1, h2, _⟩ := p
    exact PySem.W.kia_one PySem.W.kitx_tuple I.kIn ⟨o, h1, h2⟩ e (fun z => nomatch z) h
  | @dK a kvs ea =>
    cases (show u = Value.ref a from rx)
    obtain ⟨_, _, vs, _, p⟩ := (show ObjOk X.prog X.w H s.heap a (.dK kvs) from I.hok a _ ea)
    obtain ⟨o, es, ep, h1, h2, _⟩ := p
    exact PySem.W.kia_one PySem.W.kitx_dict I.kIn ⟨o, h1, h2.1⟩ e (fun z => nomatch z) h
  | @dT a kvs ea =>
    cases (show u = Value.ref a from rx)
    obtain ⟨_, _, xs, _, o, es, ep, h1, h2, _⟩ := (show ObjOk X.prog X.w H s.heap a (.dT kvs) from I.hok a _ ea)
    exact PySem.W.kia_one PySem.W.kitx_dict I.kIn ⟨o, h1, h2.1⟩ e (fun z => nomatch z) h
  | @ins a C dx fs ea cl ha hn htk hm =>
    cases (show u = Value.ref a from rx)
    obtain ⟨mA, O, _⟩ := ins_get I.hok ea
    obtain ⟨od, J, _⟩ := O.look
    exact PySem.W.kia_one (PySem.W.kitx_own (cl.get _) cl.hd ha hn htk hm) I.kIn J e (fun z => nomatch z) h
end
end L2

namespace L2
open PySem PySem.Spec PyProof.Rows

/-! ### room -/
structure Room (k : Nat) (A : Around) : Prop where
  hd : A.handled = none
  dp : A.depth + 3 * k + 5 < recursionLimit
  un : A.units + 16 * k + 200 < cLine
theorem Room.mono {j k : Nat} {A : Around} (r : Room k A) (h : j ≤ k) : Room j A := ⟨r.hd, by have := r.dp; omega, by have := r.un; omega⟩
theorem Room.deeper {k : Nat} {A : Around} (r : Room (k + 1) A) (env : Env) : Room k (A.deeper env) :=
  ⟨r.hd, by have := r.dp; show A.depth + 1 + 3 * k + 5 < _; omega, by have := r.un; show A.units + 3 + 16 * k + 200 < _; omega⟩
theorem Room.depth {k : Nat} {A : Around} (r : Room k A) : A.depth < recursionLimit := by have := r.dp; omega
theorem Room.units {k : Nat} {A : Around} (r : Room k A) : A.units + 64 < cLine := by have := r.un; omega
/-! ### argument lists and displays -/
def tNil : TA := fun _ H Q => Q [] H
def tCons (ta : TE) (tr : TA) : TA := fun σ H Q => ta σ H fun x H1 => tr σ H1 fun xs H2 => Q (x :: xs) H2
section
variable {X : Cx} {e : Expr} {es : List Expr} {te : TE} {t : TA} {pos : Pos}
theorem pa_nil : PA X [] tNil := fun _ _ _ _ H Q I h => Calls.spliced_nil ⟨[], H, I, .nil, h⟩
theorem pa_cons (ha : PE X e te) (hr : PA X es t) (hs : starEach (e :: es) X.env = (false, eval e X.env) :: starEach es X.env := by rfl) : PA X (e :: es) (tCons te t) := by
  intro pos pins s σ H Q I h
  rw [hs]
  show wpAny _ _ (spliced ((false, eval e X.env) :: backTo pos (starEach es X.env))) _ _ s
  refine Calls.spliced_cons (thn (ha pins s σ H _ I h) fun u s1 ⟨x, H1, I1, r1, q1⟩ => ?_)
  exact thn (hr pos pins s1 σ H1 _ I1 q1) fun us s2 ⟨xs, H2, I2, r2, q2⟩ => ⟨x :: xs, H2, I2, .cons r1 r2, q2⟩

/-- a tuple, a list of written items -/
def tTup (t : TA) : TE := fun σ H Q => t σ H fun xs H1 => xs.length ≤ sizeLine ∧ ∀ p, H1 p = none → Q (.ref p) (upd H1 p (.tup xs))
def tLst (t : TA) : TE := fun σ H Q => t σ H fun xs H1 => xs.length ≤ sizeLine ∧ ∀ p, H1 p = none → Q (.ref p) (upd H1 p (.lst xs))
theorem pe_tup {x1} (h : PA X es t) : PE X (.Tuple es x1 pos) (tTup t) := by
  intro pins s σ H Q I hq
  refine wpAny_Tuple_spliced (thn (h pos pins s σ H _ I hq) fun us s1 ⟨xs, H1, I1, r, z, q⟩ => ⟨by rw [← r.length]; exact z, ?_⟩)
  have hf : H1 s1.heap.objs.size = none := I1.hok.fresh (Nat.le_refl _)
  refine ⟨.ref s1.heap.objs.size, upd H1 s1.heap.objs.size (.tup xs), I1.laid (t' := s1.toks) (fun b u e => Heap.get?_push_of_some _ e) (Nat.le_refl _) ?_, rfl, q _ hf⟩
  exact ⟨z, us, r, ⟨_, Heap.get?_push_size _ rfl, rfl, _, rfl⟩⟩
theorem pe_lst (h : PA X es t) : PE X (.List es pos) (tLst t) := by
  intro pins s σ H Q I hq
  refine wpAny_List_spliced (thn (h pos pins s σ H _ I hq) fun us s1 ⟨xs, H1, I1, r, z, q⟩ => ⟨by rw [← r.length]; exact z, ?_⟩)
  have hf : H1 s1.heap.objs.size = none := I1.hok.fresh (Nat.le_refl _)
  refine ⟨.ref s1.heap.objs.size, upd H1 s1.heap.objs.size (.lst xs), I1.laid (t' := s1.toks) (fun b u e => Heap.get?_push_of_some _ e) (Nat.le_refl _) ?_, rfl, q _ hf⟩
  exact ⟨z, us, 0, r, Heap.get?_push_size _ rfl⟩
end

/-! ### what a def promises -/
/-- a def's promise: the bound arguments in the parameters' order, the heap, the wanted end, the wanted exception -/
abbrev Sp := List V → Hp → VK → XK → Prop
/-- how an exception lies behind a call (file 08 gives it): the callers' frames, abstract heap and state ahead of the call, the wish, the exception, the state -/
abbrev CXT := List Env → Hp → Shared → XK → Value → Shared → Prop

/-- the state at a call -/
structure Env0 (P : Program) (w : World) (K : PySem.W.Frag) (mg : Str → Option Value) (base : Heap) (A : Around) (outer : List Env) (s : Shared) (H : Hp) : Prop where
  frames : A.frames = some outer
  mod : Mod K mg base
  bs : ∀ b o, base.get? b = some o → s.heap.get? b = some o ∧ H b = none
  bsz : base.objs.size ≤ s.heap.objs.size
  funs : s.heap.FunFrames base outer
  frf : ∀ b ∈ frs outer, H b = none
  hok : HOk P w H s.heap
  bare : AllBare s.gens
/-- a call's end -/
def CE (outer : List Env) (P : Program) (w : World) (H : Hp) (s : Shared) (Q : VK) (u : Value) (s' : Shared) : Prop :=
  ∃ v H', s'.os = s.os ∧ AllBare s'.gens ∧ Un (frs outer) [] H H' s.heap s'.heap ∧ HOk P w H' s'.heap ∧ RelV v u ∧ Q v H'
def CR (CX : CXT) (outer : List Env) (P : Program) (w : World) (H : Hp) (s : Shared) (Q : VK) (E : XK) (r : Result) (s' : Shared) : Prop :=
  match r with
  | .ok (.ret u) => CE outer P w H s Q u s'
  | .ok _ => False
  | .error e => CX outer H s E e s'
structure FnOk (P : Program) (w : World) (K : PySem.W.Frag) (mg : Str → Option Value) (base : Heap) (CX : CXT) (k : Nat) (f : Addr) (fd : FuncData) (ps : List Str) (sp : Sp) : Prop where
  len : ∀ vs H Q E, sp vs H Q E → vs.length = ps.length
  run : ∀ (A : Around) (outer : List Env) (s : Shared) (H : Hp) (args : Args) (us : List Value) (vs : List V) (Q : VK) (E : XK), Room k A → Env0 P w K mg base A outer s H → BindsTo s fd args (ps.zip us) → Vals vs us → sp vs H Q E →
    codeAny (model P w) A (.call (.ref f) args) (CR CX outer P w H s Q E) s
theorem FnOk.mono {P : Program} {w : World} {K : PySem.W.Frag} {mg : Str → Option Value} {base : Heap} {CX : CXT} {j k : Nat} {f : Addr} {fd : FuncData} {ps : List Str} {sp : Sp} (F : FnOk P w K mg base CX j f fd ps sp) (h : j ≤ k) :
    FnOk P w K mg base CX k f fd ps sp := ⟨F.len, fun A outer s H args us vs Q E hr => F.run A outer s H args us vs Q E (hr.mono h)⟩
section
variable {X : Cx} {pins : List (Addr × Obj)} {σ : St} {H : Hp} {s s' : Shared}
/-- from a body: what a callee wants -/
theorem Inv.env0 (I : Inv X pins σ H s) : Env0 X.prog X.w X.K X.mg X.base X.A X.stack s H :=
  ⟨I.ok.frames, I.ok.mod, I.bs, Nat.le_trans I.ok.bsz I.sz, I.stack, I.stkFree, I.hok, I.bare⟩
/-- behind a call -/
theorem Inv.after {Q : VK} {u : Value} (I : Inv X pins σ H s) (h : CE X.stack X.prog X.w H s Q u s') : EP X pins σ Q u s' := by
  obtain ⟨v, H', os, bare, un, hok, r, q⟩ := h
  obtain ⟨hh, g, d, t, os'⟩ := s'
  obtain rfl : os' = s.os := os
  exact ⟨v, H', I.call (h' := hh) (g' := g) (d' := d) (t' := t) (ch := []) un hok bare (fun b z => absurd z (by simp)), r, q⟩
end

/-! ### calls -/
/-- f(..): the written arguments, then the defaults dvs; E: what is wanted of an exception -/
def tCall (sp : Sp) (dvs : List V) (E : XK) (t : TA) : TE := fun σ H Q => t σ H fun vs H1 => sp (vs ++ dvs) H1 Q E
/-- o.m(..) of an instance of the class at C -/
def tMeth (C : Addr) (m : Str) (sp : Sp) (dvs : List V) (E : XK) (ta : TE) (t : TA) : TE := fun σ H Q => ta σ H fun x H1 => ∃ a dx fs, x = .ref a ∧ H1 a = some (.ins C dx fs) ∧ fs.lookup m = none ∧
  t σ H1 fun vs H2 => sp (x :: (vs ++ dvs)) H2 Q E
/-- C(..): a new instance and its dict, then __init__ -/
def tMake (C : Addr) (sp : Sp) (dvs : List V) (E : XK) (t : TA) : TE := fun σ H Q => t σ H fun vs H1 => ∀ x dx, H1 x = none → H1 dx = none → dx ≠ x →
  sp (.ref x :: (vs ++ dvs)) (upd (upd H1 dx (.own x)) x (.ins C dx [])) (fun v H2 => v = .non ∧ Q (.ref x) H2) E

/-- how the parameters are bound: us the positional arguments, kw the keywords' values by name, ds the defaults that fill up -/
def Binds (K : PySem.W.Frag) (fd : FuncData) (ps : List Str) (ds : List Value) : Prop :=
  ∀ (s : Shared) (us : List Value), K.In s.heap → (us ++ ds).length = ps.length → BindsTo s fd ⟨us, []⟩ (ps.zip (us ++ ds))
/-- every parameter is given -/
theorem Binds.all {K : PySem.W.Frag} {fd : FuncData} {ps : List Str} (h : ∀ us : List Value, us.length = ps.length → bindArgs fd ⟨us, []⟩ = pure (ps.zip us)) : Binds K fd ps [] := fun s us _ hl => by
  rw [List.append_nil] at hl ⊢
  exact .of_eq (h us hl)

/-- an exception of a callee reaches what this body wants of exceptions -/
def Passes (CX : CXT) (X : Cx) (E : XK) : Prop := ∀ (pins : List (Addr × Obj)) (σ : St) (H : Hp) (s : Shared) (e : Value) (s' : Shared), Inv X pins σ H s → CX X.stack H s E e s' → X.xe e s'

section
variable {X : Cx} {CX : CXT} {k : Nat} {f C : Addr} {fd : FuncData} {ps : List Str} {sp : Sp} {dvs : List V} {ds : List Value} {E : XK} {x m : Str} {p pos apos : Pos} {e o : Expr} {es : List Expr} {ta : TE} {t : TA}

/-- the callee runs -/
theorem run_fn {pins : List (Addr × Obj)} {σ : St} {H : Hp} {s : Shared} {Q : VK} {us : List Value} {vs : List V} (F : FnOk X.prog X.w X.K X.mg X.base CX k f fd ps sp) (hr : Room k X.A) (hb : Binds X.K fd ps ds) (hd : Vals dvs ds) (hx : Passes CX X E)
    (I : Inv X pins σ H s) (r : Vals vs us) (h : sp (vs ++ dvs) H Q E) : wpAny (model X.prog X.w) X.A (call (.ref f) us) (EP X pins σ Q) X.xe s := by
  have r2 : Vals (vs ++ dvs) (us ++ ds) := r.append hd
  have hl : (us ++ ds).length = ps.length := by rw [← r2.length]; exact F.len _ _ _ _ h
  refine wpAny_call (codeAny_mono (F.run X.A X.stack s H ⟨us, []⟩ (us ++ ds) (vs ++ dvs) Q E hr I.env0 (hb s us I.kIn hl) r2 h) fun r s' hq => ?_)
  cases r with
  | error e => exact hx pins σ H s e s' I hq
  | ok fl =>
    cases fl with
    | ret u => exact I.after hq
    | next => exact False.elim hq
    | brk => exact False.elim hq
    | cont => exact False.elim hq

theorem pe_call (F : FnOk X.prog X.w X.K X.mg X.base CX k f fd ps sp) (hr : Room k X.A) (hg : Gl X x) (hm : X.mg x = some (.ref f)) (hk : PySem.W.keepIn X.K (.ref f) = true) (hb : Binds X.K fd ps ds) (hd : Vals dvs ds) (hx : Passes CX X E)
    (ha : PA X (e :: es) t) (hdb : (x == ("__debug__" : Str)) = false := by decide) (he : starEach (e :: es) X.env = (false, eval e X.env) :: starEach es X.env := by rfl) (hpl : (backTo pos (starEach es X.env)).any (·.1) = false := by rfl) :
    PE X (.Call (.Name x p) (e :: es) [] pos) (tCall sp dvs E t) := by
  intro pins s σ H Q I h
  refine wpAny_Call_Name_kw (ld_glob I hg hm ?_ hdb)
  refine PySem.W.callWith_K (h₀ := X.base) I.ok.mod.kin hk (thn (ha pos pins s σ H _ I h) fun us s1 ⟨vs, H1, I1, r, q⟩ => ⟨I1.kIn, ?_⟩) he hpl
  exact run_fn F hr hb hd hx I1 r q
/-- what a class must have to be made -/
structure Mk (K : PySem.W.Frag) (C f : Addr) : Prop where
  makes : PySem.W.makesIn K C = true
  init : PySem.W.findIn K (.ref C) "__init__" = some (some (.ref f))
  fn : PySem.W.isFn K (.ref f) = true
  kp : PySem.W.keepIn K (.ref C) = true

end

/-! ### keywords -/
/-- the values of the keywords, from the left -/
def PK (X : Cx) (kws : List Keyword) (t : TA) : Prop :=
  ∀ (pos : Pos) (pins : List (Addr × Obj)) (s : Shared) (σ : St) (H : Hp) (Q : List V → Hp → Prop), Inv X pins σ H s → t σ H Q → wpAny (model X.prog X.w) X.A (evalAll ((backToKw pos (keywordEach kws X.env)).map (·.2))) (AP X pins σ Q) X.xe s
section
variable {X : Cx} {CX : CXT} {k : Nat} {f C : Addr} {fd : FuncData} {ps ks : List Str} {sp : Sp} {E : XK} {x m : Str} {p pos apos kpos : Pos} {e o : Expr} {es : List Expr} {kws : List Keyword} {te ta : TE} {t tk : TA} {nm : Option Str}
/-- how a call with keywords binds: g puts the positional values us and the keywords' values ws (names ks) in the parameters' order, defaults among them -/
structure KBinds (K : PySem.W.Frag) (fd : FuncData) (ps ks : List Str) (g : List Value → List Value → List Value) (gV : List V → List V → List V) : Prop where
  to : ∀ (s : Shared) (us ws : List Value), K.In s.heap → (g us ws).length = ps.length → BindsTo s fd ⟨us, ks.zip ws⟩ (ps.zip (g us ws))
  rel : ∀ {vs : List V} {us : List Value} {zs : List V} {ws : List Value}, Vals vs us → Vals zs ws → Vals (gV vs zs) (g us ws)
def tCallK (sp : Sp) (gV : List V → List V → List V) (E : XK) (t tk : TA) : TE := fun σ H Q => t σ H fun vs H1 => tk σ H1 fun zs H2 => sp (gV vs zs) H2 Q E
variable {g : List Value → List Value → List Value} {gV : List V → List V → List V}
end

/-! ### a def's body keeps its promise -/
/-- names: the parameters first -/
structure FnScope (N P : List Str) (sc : Scope) : Prop where
  kind : sc.kind = .function
  co : sc.isCoroutine = false
  gen : sc.isGenerator = false
  nd : N.Nodup
  pre : N.take P.length = P
  par : ∀ x ∈ P, sc.names.lookup x = some .local ∨ sc.names.lookup x = some .cell
  nofree : ∀ y ∈ sc.names, y.2 ≠ .free

theorem bindL_out {kindOf : Str → Option NameKind} {x : Str} : ∀ {binds : List (Str × Value)} {m : Str → Option Value}, (∀ v, (x, v) ∉ binds) → bindL kindOf binds m x = m x
  | [], _, _ => rfl
  | (n, v) :: r, m, h => by
    unfold bindL
    rw [bindL_out fun w hw => h w (List.mem_cons_of_mem _ hw)]
    split
    · have : x ≠ n := by rintro rfl; exact h v List.mem_cons_self
      simp [this]
    · rfl
theorem bindC_out {kindOf : Str → Option NameKind} {x : Str} : ∀ {binds : List (Str × Value)} {m : Str → Option Value}, (∀ v, (x, v) ∉ binds) → bindC kindOf binds m x = m x
  | [], _, _ => rfl
  | (n, v) :: r, m, h => by
    unfold bindC
    rw [bindC_out fun w hw => h w (List.mem_cons_of_mem _ hw)]
    split
    · rfl
    · have : x ≠ n := by rintro rfl; exact h v List.mem_cons_self
      simp [this]
theorem bindL_get {kindOf : Str → Option NameKind} {x : Str} {v : Value} : ∀ {P : List Str} {vs : List Value} {i : Nat} {m : Str → Option Value}, P.Nodup → P[i]? = some x → vs[i]? = some v → kindOf x = some .local →
    bindL kindOf (P.zip vs) m x = some v
  | [], _, _, _, _, h, _, _ => by simp at h
  | _ :: _, [], _, _, _, _, h, _ => by simp at h
  | p :: P, w :: vs, 0, m, nd, h1, h2, hk => by
    simp at h1 h2; subst h1; subst h2
    show bindL kindOf ((p, w) :: P.zip vs) m p = _
    unfold bindL
    rw [bindL_out fun v hv => (List.nodup_cons.mp nd).1 (List.of_mem_zip hv).1, if_pos hk]
    simp
  | p :: P, w :: vs, i + 1, m, nd, h1, h2, hk => by
    show bindL kindOf ((p, w) :: P.zip vs) m x = _
    unfold bindL
    exact bindL_get (i := i) (List.nodup_cons.mp nd).2 (by simpa using h1) (by simpa using h2) hk
theorem bindC_get {kindOf : Str → Option NameKind} {x : Str} {v : Value} : ∀ {P : List Str} {vs : List Value} {i : Nat} {m : Str → Option Value}, P.Nodup → P[i]? = some x → vs[i]? = some v → kindOf x ≠ some .local →
    bindC kindOf (P.zip vs) m x = some v
  | [], _, _, _, _, h, _, _ => by simp at h
  | _ :: _, [], _, _, _, _, h, _ => by simp at h
  | p :: P, w :: vs, 0, m, nd, h1, h2, hk => by
    simp at h1 h2; subst h1; subst h2
    show bindC kindOf ((p, w) :: P.zip vs) m p = _
    unfold bindC
    rw [bindC_out fun v hv => (List.nodup_cons.mp nd).1 (List.of_mem_zip hv).1, if_neg hk]
    simp
  | p :: P, w :: vs, i + 1, m, nd, h1, h2, hk => by
    show bindC kindOf ((p, w) :: P.zip vs) m x = _
    unfold bindC
    exact bindC_get (i := i) (List.nodup_cons.mp nd).2 (by simpa using h1) (by simpa using h2) hk

/-- the names' values at the entry -/
def start (N : List Str) (vs : List V) : St := vs.map some ++ List.replicate (N.length - vs.length) none

/-- the context of a def's body, at its entry; an exception leaves the frame, then lies as CX says -/
def cxOf (CX : CXT) (P : Program) (w : World) (K : PySem.W.Frag) (mg : Str → Option Value) (base : Heap) (N : List Str) (qual : Str) (scope : Scope) (f : Addr) (cd : Value) (A : Around) (outer : List Env) (s : Shared) (H : Hp) (E : XK) : Cx where
  prog := P
  w := w
  K := K
  mg := mg
  base := base
  A := A.deeper (envOfC qual scope s.heap.objs.size f cd)
  N := N
  s₀ := s
  H₀ := H
  env := envOfC qual scope s.heap.objs.size f cd
  outer := outer
  stack := envOfC qual scope s.heap.objs.size f cd :: outer
  ex := []
  calm := true
  fn := fun _ => true
  pn := []
  xe := fun e s' => wpAny (model P w) (A.deeper (envOfC qual scope s.heap.objs.size f cd)) (leaving (envOfC qual scope s.heap.objs.size f cd) e) (fun _ s'' => CX outer H s E e s'') (fun e' s'' => CX outer H s E e' s'') s'

theorem cell_has {sc : Scope} {n : Nat} {x : Str} (h : sc.names.lookup x = some .cell) : ∃ c, (cellsFrom n sc.names []).lookup x = some c := by
  have q := PySem.W.cellsFrom_some sc.names n [] (.inl h)
  exact Option.isSome_iff_exists.mp q

theorem inv_start {CX : CXT} {P : Program} {w : World} {K : PySem.W.Frag} {mg : Str → Option Value} {base : Heap} {N ps : List Str} {qual : Str} {scope : Scope} {f : Addr} {cd : Value} {A : Around} {outer : List Env} {s s1 : Shared} {H : Hp} {E : XK} {us : List Value} {vs : List V}
    (S : FnScope N ps scope) (hd : A.handled = none) (e0 : Env0 P w K mg base A outer s H) (hl : vs.length = ps.length) (r : Vals vs us)
    (x : InCallC s s.heap.objs.size (bindL (envOfC qual scope s.heap.objs.size f cd).kindOf (ps.zip us) fun _ => none) (cellsFrom (s.heap.objs.size + 1) scope.names []) (bindC (envOfC qual scope s.heap.objs.size f cd).kindOf (ps.zip us) fun _ => none) s1) :
    Inv (cxOf CX P w K mg base N qual scope f cd A outer s H E) [] (start N vs) H s1 := by
  have hpl : ps.length ≤ N.length := by have := congrArg List.length S.pre; rw [List.length_take] at this; omega
  obtain ⟨h1, tk, rfl, hk⟩ := x.done
  have noA : ∀ b : Addr, b ∉ (cxOf CX P w K mg base N qual scope f cd A outer s H E).ex := fun b z => absurd (show b ∈ ([] : List Addr) from z) (by simp)
  refine ⟨⟨e0.mod, S.kind, rfl, rfl, Nat.le_refl _, fun y z c h1 h2 => ?_, fun y hy => ?_, fun y c _ h => ?_, fun _ => hd, Around.frames_deeper e0.frames, .inr ⟨rfl, rfl⟩, fun b z => absurd z (noA b), e0.bs, e0.bsz, fun b _ _ => noA b, fun b z => absurd z (noA b), e0.funs, e0.frf⟩,
    rfl, e0.bare, Un.kept hk, ⟨_, x.toInCall.ns, fun i y v h1 h2 h3 => ?_⟩, fun y c h => ⟨_, x.cell y c h⟩, e0.hok.fresh (Nat.le_refl _), fun y c h => ?_, fun p hp => absurd (show p ∈ ([] : List (Addr × Obj)) from hp) (by simp), e0.hok.kept hk, ?_⟩
  · exact name_of_addr x.apart (PySem.mem_of_lookup h1) (PySem.mem_of_lookup h2)
  · have hy : scope.names.lookup y = some .cell ∨ scope.names.lookup y = some .free := hy
    rcases hy with hy | hy
    · exact cell_has hy
    · exact absurd rfl (S.nofree _ (PySem.mem_of_lookup hy))
  · exact Nat.le_of_lt (x.above y c (PySem.mem_of_lookup h))
  · have hi : i < vs.length := by
      unfold start at h2
      by_cases hi : i < vs.length
      · exact hi
      · rw [List.getElem?_append_right (by simpa using hi)] at h2
        rw [List.getElem?_replicate] at h2
        split at h2 <;> cases h2
    have ha : vs[i]? = some v := by
      unfold start at h2
      rw [List.getElem?_append_left (by simpa using hi), List.getElem?_map] at h2
      cases e : vs[i]? with
      | none => rw [e] at h2; cases h2
      | some a => rw [e] at h2; cases h2; rfl
    obtain ⟨u, hu, rv⟩ := r.get ha
    have hp : ps[i]? = some y := by
      rw [← S.pre, List.getElem?_take_of_lt (by omega)]; exact h1
    have ndP : ps.Nodup := by rw [← S.pre]; exact S.nd.sublist (List.take_sublist _ _)
    refine ⟨u, rv, ?_⟩
    rcases S.par y (List.mem_of_getElem? hp) with k | k
    · exact .inl ⟨k, bindL_get ndP hp hu k⟩
    · obtain ⟨c, e⟩ := cell_has (n := s.heap.objs.size + 1) k
      refine .inr ⟨.inl k, c, e, ?_⟩
      have q := x.cell y c e
      rw [bindC_get ndP hp hu (by show scope.names.lookup y ≠ _; rw [k]; decide)] at q
      exact q
  · exact e0.hok.fresh (Nat.le_of_lt (x.above y c (PySem.mem_of_lookup h)))
  · unfold start
    show _ = N.length
    rw [List.length_append, List.length_map, List.length_replicate]
    omega

/-- THE RULE: a def (or a method) of the text, by its body. The body's reading t is chosen for each entry; it is run at the parameters' values -/
theorem fn_of {CX : CXT} {P : Program} {w : World} {K : PySem.W.Frag} {mg : Str → Option Value} {base : Heap} {k : Nat} {f : Addr} {name qual : Str} {params : Arguments} {body : List Stmt} {scope : Scope} {dV kV doc pm cdv ct oc : Value} {an od : Option Addr}
    {osl : Array (Option Value)} {N ps : List Str} {sp : Sp} (lk : K.lookup f = some ⟨oc, od, .func (PySem.W.fnOf name qual params body scope dV kV doc pm an cdv ct), osl⟩) (hcd : PySem.W.codeIn K cdv qual = true) (S : FnScope N ps scope)
    (len : ∀ vs H Q E, sp vs H Q E → vs.length = ps.length)
    (hbody : ∀ (A : Around) (outer : List Env) (s : Shared) (H : Hp) (vs : List V) (Q : VK) (E : XK), Room k (A.deeper (envOfC qual scope s.heap.objs.size f cdv)) → sp vs H Q E →
      ∃ t, PSs (cxOf CX P w K mg base N qual scope f cdv A outer s H E) body t ∧ t { nx := fun _ H' => Q .non H', rt := Q } (start N vs) H) :
    FnOk P w K mg base CX (k + 1) f (PySem.W.fnOf name qual params body scope dV kV doc pm an cdv ct) ps sp := by
  refine ⟨len, fun A outer s H args us vs Q E hr e0 hb r hsp => ?_⟩
  have hl := len _ _ _ _ hsp
  have KX : K.In s.heap := e0.mod.kin.keeps fun b o e => (e0.bs b o e).1
  have lim : s.heap.NoLimit := e0.mod.nolimit.keeps fun b o e => (e0.bs b o e).1
  have hkind : ∀ y ∈ ps.zip us, scope.names.lookup y.1 = some .local ∨ (scope.names.lookup y.1 = some .cell ∧ ((cellsFrom (s.heap.objs.size + 1) scope.names []).lookup y.1).isSome = true) := fun ⟨n, v⟩ hy => by
    rcases S.par n (List.of_mem_zip hy).1 with q | q
    · exact .inl q
    · exact .inr ⟨q, PySem.W.cellsFrom_some _ _ _ (.inl q)⟩
  refine codeAny_call_function hr.depth (KX _ _ lk) rfl S.co S.gen rfl (PySem.W.codeRec_of KX hcd) (hb _ _ _ _ ?_)
  refine wpAny_newFunctionEnv_cells S.kind hkind fun env he s1 x => ?_
  subst he
  refine ⟨lim.keeps x.toInCall.keep, codeAny_func ?_⟩
  obtain ⟨t, ht, hq⟩ := hbody A outer s H vs Q E (hr.deeper _) hsp
  have I : Inv (cxOf CX P w K mg base N qual scope f cdv A outer s H E) [] (start N vs) H s1 := inv_start S hr.hd e0 hl r x
  refine wpAny_mono (ht [] s1 (start N vs) H _ I hq) (fun fl s' hs => ?_) fun e s' hs => hs
  have fin : ∀ {σ' : St} {H' : Hp} {v : V} {u : Value}, Inv (cxOf CX P w K mg base N qual scope f cdv A outer s H E) [] σ' H' s' → RelV v u → Q v H' → CE outer P w H s Q u s' :=
    fun {σ' H' v u} J rv q => ⟨v, H', J.os, J.bare, J.base, J.hok, rv, q⟩
  cases fl with
  | ret u =>
    obtain ⟨v, σ', H', J, rv, q⟩ := hs
    exact fin J rv q
  | next =>
    obtain ⟨σ', H', J, q⟩ := hs
    exact fin (v := V.non) (u := Value.none) J rfl q
  | brk =>
    obtain ⟨_, _, _, q⟩ := hs
    exact False.elim q
  | cont =>
    obtain ⟨_, _, _, q⟩ := hs
    exact False.elim q
end L2

namespace L2
open PySem PySem.Spec PyProof.Rows
section
variable {X : Cx} {x : Str} {p pos : Pos} {e : Expr} {es : List Expr} {t : TA} {id T : String} {r : List V → Hp → VK → Prop}

def tCB (r : List V → Hp → VK → Prop) (t : TA) : TE := fun σ H Q => t σ H fun vs H1 => r vs H1 Q
/-- f(e, ..), f a built-in function -/
theorem pe_callB (hc : CallR X (.builtin id) r) (hg : Gl X x) (hm : X.mg x = none) (hv : bootBuiltins x = some (.builtin id)) (ha : PA X (e :: es) t) (hn : x ≠ "__name__" := by decide) (hdb : (x == ("__debug__" : Str)) = false := by decide)
    (he : starEach (e :: es) X.env = (false, eval e X.env) :: starEach es X.env := by rfl) (hpl : (backTo pos (starEach es X.env)).any (·.1) = false := by rfl) : PE X (.Call (.Name x p) (e :: es) [] pos) (tCB r t) := by
  intro pins s σ H Q I h
  refine wpAny_Call_Name_kw (ld_blt I hg hm hv ?_ hn hdb)
  exact PyProof.Rows.callWith_builtin1 (thn (ha pos pins s σ H _ I h) fun us s1 ⟨vs, H1, I1, r1, q1⟩ => hc pins s1 σ H1 vs us Q I1 r1 q1) he hpl
/-- T(e, ..), T a built-in type -/
theorem pe_callTy (hc : CallR X (.type T) r) (hg : Gl X x) (hm : X.mg x = none) (hv : bootBuiltins x = some (.type T)) (ha : PA X (e :: es) t) (hn : x ≠ "__name__" := by decide) (hdb : (x == ("__debug__" : Str)) = false := by decide)
    (he : starEach (e :: es) X.env = (false, eval e X.env) :: starEach es X.env := by rfl) (hpl : (backTo pos (starEach es X.env)).any (·.1) = false := by rfl) : PE X (.Call (.Name x p) (e :: es) [] pos) (tCB r t) := by
  intro pins s σ H Q I h
  refine wpAny_Call_Name_kw (ld_blt I hg hm hv ?_ hn hdb)
  exact PyProof.Rows.callWith_type1 (thn (ha pos pins s σ H _ I h) fun us s1 ⟨vs, H1, I1, r1, q1⟩ => hc pins s1 σ H1 vs us Q I1 r1 q1) he hpl
end
end L2

namespace HT
open PySem PyProof.Rows

/-- t < u of tuples of ints -/
def lexLt : List Int → List Int → Bool
  | [], [] => false
  | [], _ :: _ => true
  | _ :: _, [] => false
  | x :: xs, y :: ys => if x = y then lexLt xs ys else decide (x < y)
section
open PySem.SeqAt
open PySem.AutoSeq1 (wpAny_loadPart')
open PySem.MeetsSeq PySem.MeetsSeq2 PySem.MeetsSeq3

end

section
variable {prog : Program} {w : World} {A : Around} {E : Value → Shared → Prop} {s : Shared}

/-! ### t[a:b], not the whole -/
/-- a slice's bound as a place among n (d where it is left out) -/
def sIx (n d : Nat) : Option Int → Nat
  | none => d
  | some v => if v < 0 then (v + (n : Int)).toNat else min v.toNat n
theorem sIx_none (n d : Nat) : sIx n d none = d := rfl
theorem sIx_nat (n d k : Nat) : sIx n d (some (k : Int)) = min k n := by
  show (if (k : Int) < 0 then ((k : Int) + (n : Int)).toNat else min (k : Int).toNat n) = min k n
  rw [if_neg (by omega), Int.toNat_natCast]
theorem sIx_le (n d : Nat) (hd : d ≤ n) (o : Option Int) : sIx n d o ≤ n := by
  cases o with
  | none => exact hd
  | some v =>
    show (if v < 0 then (v + (n : Int)).toNat else min v.toNat n) ≤ n
    by_cases hv : v < 0
    · rw [if_pos hv]; omega
    · rw [if_neg hv]; exact Nat.min_le_right _ _
theorem clip_eq (v : Int) (n d : Nat) : (if v < 0 then max (v + (n : Int)) 0 else min v (n : Int)) = ((sIx n d (some v) : Nat) : Int) := by
  show (if v < 0 then max (v + (n : Int)) 0 else min v (n : Int)) = (((if v < 0 then (v + (n : Int)).toNat else min v.toNat n) : Nat) : Int)
  by_cases hv : v < 0
  · simp only [if_pos hv]; omega
  · simp only [if_neg hv]; omega
theorem adjust_gen (lo hi : Option Int) (n : Nat) : Builtin.Slice.sliceAdjust lo hi 1 (n : Int) = (((sIx n 0 lo : Nat) : Int), ((sIx n n hi : Nat) : Int)) := by
  have h1 : ¬ ((1 : Int) < 0) := by omega
  unfold Builtin.Slice.sliceAdjust
  simp only [h1, if_false]
  refine Prod.ext ?_ ?_
  · cases lo with
    | none => rfl
    | some v => exact clip_eq v n 0
  · cases hi with
    | none => rfl
    | some v => exact clip_eq v n n
theorem places_gen (i j : Nat) : Builtin.Slice.slicePlaces (i : Int) (j : Int) 1 = j - i := by
  unfold Builtin.Slice.slicePlaces
  have h1 : (1 : Int) > 0 := by omega
  simp only [h1, if_true, Int.ediv_one]
  split <;> omega
theorem slicePart_ {v : Value} {o : Option Int} {Q : Option Int → Shared → Prop} (p : IsPart v o) (h : Q o s) : wpAny (model prog w) A (Builtin.Slice.slicePartIndex v) Q E s := by
  cases p with
  | none => exact slicePart_none h
  | int i t => exact slicePart_int h
theorem sliceApplied_gen {sl : Addr} {vl vu : Value} {lo hi : Option Int} {n : Nat} {Q : Int × Int × Nat → Shared → Prop} (hs : s.heap.IsSliceOf sl vl vu .none) (pl : IsPart vl lo) (pu : IsPart vu hi)
    (h : Q (((sIx n 0 lo : Nat) : Int), 1, sIx n n hi - sIx n 0 lo) s) : wpAny (model prog w) A (Builtin.Slice.sliceApplied (.ref sl) (pure (n : Int))) Q E s := by
  obtain ⟨os, hos, hcs, hds⟩ := id hs
  unfold Builtin.Slice.sliceApplied Builtin.Slice.sliceFields
  refine wpAny_bind (wpAny_bind (wpAny_field hos hds (x := vl) rfl (wpAny_bind (wpAny_field hos hds (x := vu) rfl (wpAny_bind (wpAny_field hos hds (x := .none) rfl (wpAny_pure ?_)))))))
  refine wpAny_bind (slicePart_none ?_)
  show wpAny _ _ (if ((1 : Int) == 0) = true then _ else _) _ _ s
  rw [if_neg (by decide)]
  refine wpAny_bind (slicePart_ pl (wpAny_bind (slicePart_ pu (wpAny_bind (wpAny_pure ?_)))))
  show wpAny _ _ (match Builtin.Slice.sliceAdjust lo hi 1 (n : Int) with | (lo, hi) => pure (lo, (1 : Int), Builtin.Slice.slicePlaces lo hi 1)) _ _ s
  rw [adjust_gen lo hi n]
  show wpAny _ _ (pure (((sIx n 0 lo : Nat) : Int), (1 : Int), Builtin.Slice.slicePlaces ((sIx n 0 lo : Nat) : Int) ((sIx n n hi : Nat) : Int) 1)) _ _ s
  rw [places_gen]
  exact wpAny_pure h
theorem pick_gen (xs : Array Value) (i k : Nat) : ((List.range k).filterMap fun (m : Nat) => xs[((i : Int) + (m : Int) * 1).toNat]?).toArray = ((xs.toList.drop i).take k).toArray := by
  have e : (fun (m : Nat) => xs[((i : Int) + (m : Int) * 1).toNat]?) = fun m => xs[i + m]? := by
    funext m
    have : ((i : Int) + (m : Int) * 1).toNat = i + m := by omega
    rw [this]
  rw [e]
  have := pick_run xs i k
  rw [List.filterMap_map] at this
  have e2 : ((fun x => xs[x]?) ∘ fun x => i + x) = fun m => xs[i + m]? := rfl
  rw [e2] at this
  rw [this]

theorem getItem_tuple_cut {t sl : Addr} {items : Array Value} {vl vu : Value} {lo hi : Option Int} {Q : Value → Shared → Prop} (ht : IsTup s.heap t items) (hs : s.heap.IsSliceOf sl vl vu .none) (pl : IsPart vl lo) (pu : IsPart vu hi)
    (hw : ¬ (sIx items.size 0 lo = 0 ∧ sIx items.size items.size hi = items.size))
    (h : Q (.ref s.heap.objs.size) { s with heap := s.heap.push { cls := .type "tuple", data := .seq ((items.toList.drop (sIx items.size 0 lo)).take (sIx items.size items.size hi - sIx items.size 0 lo)).toArray } })
    (hsz : items.size ≤ sizeLine) : wpAny (model prog w) A (getItem (.ref t) (.ref sl)) Q E s := by
  have htake : sizeOk (.seq ((items.toList.drop (sIx items.size 0 lo)).take (sIx items.size items.size hi - sIx items.size 0 lo)).toArray) := by
    show ((items.toList.drop (sIx items.size 0 lo)).take (sIx items.size items.size hi - sIx items.size 0 lo)).toArray.size ≤ sizeLine
    rw [List.size_toArray, List.length_take, List.length_drop, Array.length_toList]
    omega
  have hj : sIx items.size items.size hi ≤ items.size := sIx_le _ _ (Nat.le_refl _) hi
  obtain ⟨os, hos, hcs, hds⟩ := id hs
  have hTs : s.TypeIs (.ref sl) "slice" := ⟨os, hos, hcs⟩
  unfold getItem
  try with_reducible refine wpAny_holding ?_
  first | refine wpAny_bind (wpAny_pure ?_) | skip
  refine wpAny_bind (wpAny_sequenceKey ht.typeIs (by decide) ?_)
  refine wpAny_bind (wpAny_callSpecial?_slot (name := Str.ofString "__getitem__") ht.typeIs PyProof.Rows.slot_tuple_getitem
    (wpAny_call_entry PyProof.Rows.slot_tuple_getitem ht.typeIs entry_tuple_getitem ?_ (args_tuple_getitem _ _)))
  show wpAny _ _ (Builtin.Tuple.tupleItemsOf (.ref t) >>= _) _ _ s
  refine wpAny_bind (tupleItemsOf_ ht ?_)
  refine wpAny_bind (wpAny_typeOf hTs ?_)
  rw [if_pos (by decide)]
  refine wpAny_bind (sliceApplied_gen hs pl pu ?_)
  have hno : ¬ ((((sIx items.size 0 lo : Nat) : Int) == 0 && (1 : Int) == 1 && (sIx items.size items.size hi - sIx items.size 0 lo) == items.size) = true) := by
    intro q
    rw [Bool.and_eq_true, Bool.and_eq_true] at q
    have q1 : ((sIx items.size 0 lo : Nat) : Int) = 0 := eq_of_beq q.1.1
    have q2 : sIx items.size items.size hi - sIx items.size 0 lo = items.size := eq_of_beq q.2
    exact hw ⟨by omega, by omega⟩
  show wpAny _ _ (if (((sIx items.size 0 lo : Nat) : Int) == 0 && (1 : Int) == 1 && (sIx items.size items.size hi - sIx items.size 0 lo) == items.size) = true then _ else _) _ _ s
  rw [if_neg hno, pick_gen]
  first
    | exact wpAny_bind (m := Builtin.Tuple.tupleExact _) (wpAny_newObj_type (wpAny_pure ⟨_, rfl, wpAny_pure h⟩) htake)
    | exact wpAny_bind (m := Builtin.Tuple.tupleExact _) (wpAny_newObj_type (wpAny_bind (wpAny_pure (wpAny_pure ⟨_, rfl, wpAny_pure h⟩))) htake)
    | exact wpAny_bind (wpAny_bind (m := Builtin.Tuple.tupleExact _) (wpAny_newObj_type (wpAny_pure (wpAny_pure ⟨_, rfl, wpAny_pure h⟩)) htake))
    | exact wpAny_bind (wpAny_bind (m := Builtin.Tuple.tupleExact _) (wpAny_newObj_type (wpAny_pure ⟨_, rfl, wpAny_pure h⟩) htake))
end
end HT

namespace L2
open PySem PySem.Spec PyProof.Rows

/-! ### the parts of a slice -/
abbrev TO := St → Hp → (Option Int → Hp → Prop) → Prop
/-- a slice's part (left out, or an int) -/
def PO (X : Cx) (e : Option Expr) (t : TO) : Prop :=
  ∀ (pins : List (Addr × Obj)) (s : Shared) (σ : St) (H : Hp) (Q : Option Int → Hp → Prop), Inv X pins σ H s → t σ H Q →
    wpAny (model X.prog X.w) X.A (evalPart e X.env) (fun u s' => ∃ o H', Inv X pins σ H' s' ∧ IsPart u o ∧ Q o H') X.xe s
def tNoPart : TO := fun _ H Q => Q none H
def tPart (t : TE) : TO := fun σ H Q => t σ H fun x H1 => ∃ i, x = .int i ∧ Q (some i) H1

theorem intsAre_of {ns : List Int} : ∀ {us : List Value}, Vals (ns.map V.int) us → IntsAre us ns := by
  induction ns with
  | nil => intro us r; rw [List.map_nil] at r; cases r; exact .nil
  | cons n ns ih =>
    intro us r
    rw [List.map_cons] at r
    cases r with
    | cons r1 r2 =>
      obtain ⟨t, e⟩ := r1
      subst e
      exact .cons n t (ih r2)

section
variable {X : Cx} {e : Expr} {te : TE} {lo hi : Option Expr} {tl th : TO} {pos p2 : Pos}

theorem po_none : PO X none tNoPart := by
  intro pins s σ H Q I h
  rw [evalPart_none]
  exact wpAny_pure ⟨none, H, I, .none, h⟩
theorem po_some (h : PE X e te) : PO X (some e) (tPart te) := by
  intro pins s σ H Q I hw
  rw [evalPart_some]
  refine thn (h pins s σ H _ I hw) fun u s1 ⟨x, H1, I1, r1, q1⟩ => ?_
  obtain ⟨i, rfl, q⟩ := q1
  obtain ⟨t, rfl⟩ := r1
  exact ⟨some i, H1, I1, .int i t, q⟩

/-- what a slice of a value is, by values: the slice object stands at sl -/
def SlR (X : Cx) (r : V → Option Int → Option Int → Hp → VK → Prop) : Prop :=
  ∀ (pins : List (Addr × Obj)) (s : Shared) (σ : St) (H : Hp) (x : V) (v vl vu : Value) (lo hi : Option Int) (sl : Addr) (Q : VK), Inv X pins σ H s → RelV x v → s.heap.IsSliceOf sl vl vu .none → IsPart vl lo → IsPart vu hi → r x lo hi H Q →
    ∃ T id, typeLookup (.type T) "__getitem__" = pure (some (.builtin id)) ∧ s.TypeIs v T ∧ wpAny (model X.prog X.w) X.A (getItem v (.ref sl)) (EP X pins σ Q) X.xe s
def tSl (r : V → Option Int → Option Int → Hp → VK → Prop) (te : TE) (tl th : TO) : TE := fun σ H Q => te σ H fun x H1 => tl σ H1 fun l H2 => th σ H2 fun u H3 => r x l u H3 Q
/-- a[lo:hi], any a -/
theorem pe_slice {r : V → Option Int → Option Int → Hp → VK → Prop} (hr : SlR X r) (he : PE X e te) (hl : PO X lo tl) (hu : PO X hi th) : PE X (.Subscript e (.Slice lo hi none p2) pos) (tSl r te tl th) := by
  intro pins s σ H Q I h
  refine Subscript_ (thn (he pins s σ H _ I h) fun v s1 ⟨x, H1, I1, r1, q1⟩ => ?_)
  refine wpAny_Slice (thn (hl pins s1 σ H1 _ I1 q1) fun vl s2 ⟨l, H2, I2, pl, q2⟩ => thn (hu pins s2 σ H2 _ I2 q2) fun vu s3 ⟨u, H3, I3, pu, q3⟩ => ?_)
  rw [evalPart_none]
  refine wpAny_pure ?_
  have I4 : Inv X pins σ H3 { s3 with heap := s3.heap.push { cls := .type "slice", data := .fields #[vl, vu, .none] } } := I3.kept (t' := s3.toks) fun b ob q => Heap.get?_push_of_some _ q
  obtain ⟨T, id, hT, ht, hg⟩ := hr pins { s3 with heap := s3.heap.push { cls := .type "slice", data := .fields #[vl, vu, .none] } } σ H3 x v vl vu l u s3.heap.objs.size Q I4 r1 (Heap.IsSliceOf.new ..) pl pu q3
  show wpAny (model X.prog X.w) X.A (subscriptTail e (.Slice lo hi none p2) v (.ref s3.heap.objs.size)) (EP X pins σ Q) X.xe { s3 with heap := s3.heap.push { cls := .type "slice", data := .fields #[vl, vu, .none] } }
  exact tail_any (ops := [.ref s3.heap.objs.size, v]) ht hT hg (by with_unfolding_all rfl)

/-- the items of xs[lo:hi] -/
def cutV (xs : List V) (lo hi : Option Int) : List V := (xs.drop (HT.sIx xs.length 0 lo)).take (HT.sIx xs.length xs.length hi - HT.sIx xs.length 0 lo)
theorem cutV_length (xs : List V) (lo hi : Option Int) : (cutV xs lo hi).length ≤ xs.length := by
  unfold cutV
  rw [List.length_take, List.length_drop]
  omega
/-- t[lo:hi], not the whole of it (the whole would be t itself) -/
def rSlT (K : PySem.W.Frag) : V → Option Int → Option Int → Hp → VK → Prop := fun x lo hi H Q => ∃ a xs, x = .ref a ∧ SqT K H a xs ∧
  ¬ (HT.sIx xs.length 0 lo = 0 ∧ HT.sIx xs.length xs.length hi = xs.length) ∧ ∀ p, H p = none → Q (.ref p) (upd H p (.tup (cutV xs lo hi)))
/-! ### t < u, t + u -/
def rLtT (K : PySem.W.Frag) : R2 := fun x y H Q => ∃ a b ns ms, x = .ref a ∧ y = .ref b ∧ SqT K H a (ns.map V.int) ∧ SqT K H b (ms.map V.int) ∧ Q (.bl (HT.lexLt ns ms)) H
/-- t + u, t not empty: u empty gives t itself -/
def rCatT (K : PySem.W.Frag) : R2 := fun x y H Q => ∃ a b xs ys, x = .ref a ∧ y = .ref b ∧ SqT K H a xs ∧ SqT K H b ys ∧ xs ≠ [] ∧ xs.length + ys.length ≤ sizeLine ∧
  (ys = [] → Q (.ref a) H) ∧ (ys ≠ [] → ∀ p, H p = none → Q (.ref p) (upd H p (.tup (xs ++ ys))))
theorem Vals.nil_iff {xs : List V} {us : List Value} (r : Vals xs us) : us = [] ↔ xs = [] := by
  cases r with
  | nil => simp
  | cons _ _ => simp
end
end L2

namespace L2
open PySem PySem.Spec PyProof.Rows

/-! ### places -/
/-- the place that an index of any sign means -/
def ixN (n : Nat) (i : Int) : Option Nat := if 0 ≤ i then (if i < n then some i.toNat else none) else if -(n : Int) ≤ i then some (i + n).toNat else none
def atI {α : Type} (xs : List α) (i : Int) : Option α := (ixN xs.length i).bind fun j => xs[j]?
theorem ixN_seq {n : Nat} {i : Int} {j : Nat} (h : ixN n i = some j) : seqIndex? i n = some j ∧ j < n ∧ -(n : Int) ≤ i ∧ i < n := by
  unfold ixN at h
  by_cases h0 : 0 ≤ i
  · rw [if_pos h0] at h
    by_cases h1 : i < n
    · rw [if_pos h1] at h
      have e : i.toNat = j := Option.some.inj h
      exact ⟨by rw [seqIndex_of h0 h1, e], by omega, by omega, h1⟩
    · rw [if_neg h1] at h; cases h
  · rw [if_neg h0] at h
    by_cases h1 : -(n : Int) ≤ i
    · rw [if_pos h1] at h
      have e : (i + n).toNat = j := Option.some.inj h
      exact ⟨by rw [seqIndex_neg (by omega) h1, e], by omega, h1, by omega⟩
    · rw [if_neg h1] at h; cases h
theorem atI_get {α : Type} {xs : List α} {i : Int} {v : α} (h : atI xs i = some v) : ∃ j, seqIndex? i xs.length = some j ∧ xs[j]? = some v ∧ j < xs.length ∧ -(xs.length : Int) ≤ i ∧ i < xs.length := by
  unfold atI at h
  cases e : ixN xs.length i with
  | none => rw [e] at h; cases h
  | some j =>
    rw [e] at h
    obtain ⟨h1, h2, h3, h4⟩ := ixN_seq e
    exact ⟨j, h1, h, h2, h3, h4⟩
theorem atI_nat {α : Type} {xs : List α} {j : Nat} {v : α} (h : xs[j]? = some v) : atI xs (j : Int) = some v := by
  have hj : j < xs.length := (List.getElem?_eq_some_iff.mp h).1
  have e : ixN xs.length (j : Int) = some j := by
    unfold ixN
    rw [if_pos (by omega), if_pos (by omega)]; simp
  unfold atI; rw [e]; exact h
/-! ### what may be subscripted -/
/-- what stands as an index of a plain subscript -/
def PlainIx (b : Expr) : Prop := ∀ o i, subscripted b false o i = operate [o, i] (getItem o i)
/-- a subscript by values -/
def IxR (X : Cx) (r : R2) : Prop :=
  ∀ (value slice : Expr) (pins : List (Addr × Obj)) (s : Shared) (σ : St) (H : Hp) (x y : V) (v u : Value) (Q : VK), Inv X pins σ H s → RelV x v → RelV y u → r x y H Q →
    subscripted slice false v u = operate [v, u] (getItem v u) → wpAny (model X.prog X.w) X.A (subscriptTail value slice v u) (EP X pins σ Q) X.xe s
/-- a call of a builtin's method by values: the receiver, the arguments -/
def MtR (X : Cx) (id : String) (r : V → List V → Hp → VK → Prop) : Prop :=
  ∀ (pins : List (Addr × Obj)) (s : Shared) (σ : St) (H : Hp) (x : V) (xs : List V) (v : Value) (us : List Value) (Q : VK), Inv X pins σ H s → RelV x v → Vals xs us → r x xs H Q →
    wpAny (model X.prog X.w) X.A (call (.builtin id) (v :: us)) (EP X pins σ Q) X.xe s
section
variable {X : Cx} {a b : Expr} {ta tb : TE} {pos : Pos}
/-- a[b] -/
theorem pe_ix {r : R2} (hr : IxR X r) (ha : PE X a ta) (hb : PE X b tb) (hs : PlainIx b) : PE X (.Subscript a b pos) (tOp r ta tb) := by
  intro pins s σ H Q I h
  exact Subscript_ (binT ha hb I h fun v u s2 x y H2 I2 rx ry q => hr a b pins s2 σ H2 x y v u Q I2 rx ry q (hs _ _))

def rIxL (K : PySem.W.Frag) : R2 := fun x y H Q => ∃ p xs i v, x = .ref p ∧ y = .int i ∧ SqL K H p xs ∧ atI xs i = some v ∧ Q v H
def rIxT (K : PySem.W.Frag) : R2 := fun x y H Q => ∃ p xs i v, x = .ref p ∧ y = .int i ∧ SqT K H p xs ∧ atI xs i = some v ∧ Q v H
def rIxS : R2 := fun x y H Q => ∃ z i c, x = .str z ∧ y = .int i ∧ z.length ≤ sizeLine ∧ atI z.cps.toList i = some c ∧ Q (.str ⟨#[c]⟩) H
theorem ix_list : IxR X (rIxL X.K) := by
  intro value slice pins s σ H x y v u Q I rx ry h hs
  obtain ⟨p, xs, i, z, rfl, rfl, hq, he, q⟩ := h
  cases rx
  obtain ⟨t, rfl⟩ := ry
  obtain ⟨its, r, pl, hz⟩ := I.list hq
  obtain ⟨j, h1, h2, h3, h4, h5⟩ := atI_get he
  obtain ⟨w, ew, rw'⟩ := r.get h2
  have hl := r.length
  have hn := line63
  have fin : EP X pins σ Q w s := ⟨z, H, I, rw', q⟩
  by_cases h0 : 0 ≤ i
  · have hj : i.toNat = j := by
      rw [seqIndex_of h0 h5] at h1
      exact Option.some.inj h1
    exact item_listR pl.isList h0 (by omega) (by rw [hj]; simpa using ew) fin hs
  · have hj : (i + (its.toArray.size : Int)).toNat = j := by
      rw [seqIndex_neg (by omega) h4] at h1
      rw [List.size_toArray, ← hl]
      exact Option.some.inj h1
    exact subscriptTail_builtinR (x := w) pl.isList.typeIs slot_list_getitem.lookup
      (wpAny_getItem_list_neg (Q := fun r s' => r = w ∧ EP X pins σ Q r s') pl.isList (by omega) (by rw [List.size_toArray] <;> omega) (by omega) (by rw [hj]; simpa using ew) ⟨rfl, fin⟩) hs
theorem ix_tup : IxR X (rIxT X.K) := by
  intro value slice pins s σ H x y v u Q I rx ry h hs
  obtain ⟨p, xs, i, z, rfl, rfl, hq, he, q⟩ := h
  cases rx
  obtain ⟨t, rfl⟩ := ry
  obtain ⟨its, r, pl, hz⟩ := I.tuple hq
  obtain ⟨j, h1, h2, h3, h4, h5⟩ := atI_get he
  obtain ⟨w, ew, rw'⟩ := r.get h2
  have hl := r.length
  have hn := line63
  have fin : EP X pins σ Q w s := ⟨z, H, I, rw', q⟩
  exact subscriptTail_builtinR (x := w) pl.typeIs slot_tuple_getitem.lookup
    (getItem_tuple (j := j) (Q := fun r s' => r = w ∧ EP X pins σ Q r s') pl (by omega) (by omega) (by rw [List.size_toArray, ← hl]; exact h1) (by simpa using ew) ⟨rfl, fin⟩) hs
/-- list, tuple or str -/
def rIx (K : PySem.W.Frag) : R2 := fun x y H Q => rIxL K x y H Q ∨ rIxT K x y H Q ∨ rIxS x y H Q
/-! ### xs[i] = v, any sign -/
/-- the list's object behind a store -/
theorem mapSeq_set (its : List Value) (n j : Nat) (u : Value) : Obj.mapSeq (·.setIfInBounds j u) { cls := .type "list", data := .seq its.toArray n } = { cls := .type "list", data := .seq (its.set j u).toArray n } := by
  simp [Obj.mapSeq]
theorem Inv.lst {pins : List (Addr × Obj)} {σ : St} {H : Hp} {s : Shared} {p : Addr} {xs : List V} (I : Inv X pins σ H s) (h : H p = some (.lst xs)) :
    ∃ (its : List Value) (n : Nat), Vals xs its ∧ s.heap.get? p = some { cls := .type "list", data := .seq its.toArray n } ∧ xs.length ≤ sizeLine := by
  obtain ⟨z, its, n, r, e⟩ := I.hok p _ h
  exact ⟨its, n, r, e, z⟩
/-- the list at p is written by an update of its object -/
theorem Inv.lstUpd {pins : List (Addr × Obj)} {σ : St} {H : Hp} {s : Shared} {p : Addr} {xs ys : List V} {its its' : List Value} {n n' : Nat} {f : Obj → Obj} (I : Inv X pins σ H s) (h : H p = some (.lst xs))
    (ho : s.heap.get? p = some { cls := .type "list", data := .seq its.toArray n }) (hf : f { cls := .type "list", data := .seq its.toArray n } = { cls := .type "list", data := .seq its'.toArray n' }) (r : Vals ys its') (hz : ys.length ≤ sizeLine) (t : Nat) :
    Inv X pins σ (upd H p (.lst ys)) { s with heap := s.heap.update p f, toks := t } := by
  have e : (s.heap.update p f).get? p = some { cls := .type "list", data := .seq its'.toArray n' } := by
    rw [Heap.get?_update_self f ho (by rw [hf] <;> rfl), hf]
  refine I.write (x := p) (e := p) (by rw [h]; trivial) (.inl rfl) (fun b u hb q => (Heap.get?_update_other _ _ (Ne.symm hb)).trans q) ⟨_, e⟩ ?_
  exact ⟨hz, its', n', r, e⟩
def rSetL : V → V → V → Hp → (Hp → Prop) → Prop := fun o i v H Q => ∃ p xs k j, o = .ref p ∧ i = .int k ∧ H p = some (.lst xs) ∧ ixN xs.length k = some j ∧ Q (upd H p (.lst (xs.set j v)))
theorem set_list : PSet X rSetL := by
  intro pins s σ H o i v ov iv u Q I ro ri rv h
  obtain ⟨p, xs, k, j, rfl, rfl, hp, hj, q⟩ := h
  cases ro
  obtain ⟨t, rfl⟩ := ri
  obtain ⟨its, n, r, ho, hz⟩ := I.lst hp
  obtain ⟨h1, h2, h3, h4⟩ := ixN_seq hj
  have hl := r.length
  have hn := line63
  have I' : Inv X pins σ (upd H p (.lst (xs.set j v))) { s with heap := s.heap.update p (Obj.mapSeq (·.setIfInBounds j u)) } :=
    I.lstUpd hp ho (mapSeq_set its n j u) (r.set rv j) (by rw [List.length_set]; exact hz) s.toks
  by_cases h0 : 0 ≤ k
  · have hk : k.toNat = j := by
      rw [seqIndex_of h0 h4] at h1
      exact Option.some.inj h1
    exact PySem.W.ki_setAt ho h0 (by omega) (by rw [List.size_toArray, ← hl]; exact h4) (by rw [hk]; exact ⟨_, I', q⟩)
  · have hk : (k + (its.toArray.size : Int)).toNat = j := by
      rw [seqIndex_neg (by omega) h3] at h1
      rw [List.size_toArray, ← hl]
      exact Option.some.inj h1
    exact PySem.W.ki_setBack ho (by omega) (by rw [List.size_toArray, ← hl]; exact h3) (by omega) (by rw [hk]; exact ⟨_, I', q⟩)

/-! ### slices -/
/-- xs[lo:hi] of a list: a new list -/
def rSlL (K : PySem.W.Frag) : V → Option Int → Option Int → Hp → VK → Prop := fun x lo hi H Q => ∃ a xs, x = .ref a ∧ SqL K H a xs ∧ ∀ p, H p = none → Q (.ref p) (upd H p (.lst (cutV xs lo hi)))
/-! ### in, not in: flat items -/
def flatV : V → Bool
  | .non => true
  | .bl _ => true
  | .int _ => true
  | .str _ => true
  | _ => false
/-- == of flat values -/
def eqV : V → V → Bool
  | .non, .non => true
  | .bl a, .bl b => a == b
  | .bl a, .int b => (if a then 1 else 0) == b
  | .int a, .bl b => a == (if b then 1 else 0)
  | .int a, .int b => a == b
  | .str a, .str b => a == b
  | _, _ => false
theorem eqAt_V {A : Around} {s : Shared} {y x : V} {u v : Value} (ry : RelV y u) (rx : RelV x v) (fy : flatV y = true) (fx : flatV x = true) : SeqAt.EqAt A s u v (eqV y x) := by
  cases y with
  | non =>
    cases ry
    cases x with
    | non => cases rx; exact SeqAt.EqAt.same _
    | bl b => cases rx; exact SeqAt.EqAt.none_bool b
    | int b => obtain ⟨t, rfl⟩ := rx; exact SeqAt.EqAt.none_int b t
    | str b => obtain ⟨t, rfl⟩ := rx; exact SeqAt.EqAt.none_str b t
    | _ => exact absurd (show false = true from fx) Bool.false_ne_true
  | bl a =>
    cases ry
    cases x with
    | non => cases rx; exact SeqAt.EqAt.bool_none a
    | bl b => cases rx; exact SeqAt.EqAt.bool_bool a b
    | int b => obtain ⟨t, rfl⟩ := rx; exact SeqAt.EqAt.bool_int a b t
    | str b => obtain ⟨t, rfl⟩ := rx; exact SeqAt.EqAt.bool_str a b t
    | _ => exact absurd (show false = true from fx) Bool.false_ne_true
  | int a =>
    obtain ⟨t', rfl⟩ := ry
    cases x with
    | non => cases rx; exact SeqAt.EqAt.int_none a t'
    | bl b => cases rx; exact SeqAt.EqAt.int_bool a t' b
    | int b => obtain ⟨t, rfl⟩ := rx; exact SeqAt.EqAt.int_int a t' b t
    | str b => obtain ⟨t, rfl⟩ := rx; exact SeqAt.EqAt.int_str a t' b t
    | _ => exact absurd (show false = true from fx) Bool.false_ne_true
  | str a =>
    obtain ⟨t', rfl⟩ := ry
    cases x with
    | non => cases rx; exact SeqAt.EqAt.str_none a t'
    | bl b => cases rx; exact SeqAt.EqAt.str_bool a t' b
    | int b => obtain ⟨t, rfl⟩ := rx; exact SeqAt.EqAt.str_int a t' b t
    | str b => obtain ⟨t, rfl⟩ := rx; exact SeqAt.EqAt.str_str a t' b t
    | _ => exact absurd (show false = true from fx) Bool.false_ne_true
  | _ => exact absurd (show false = true from fy) Bool.false_ne_true
/-- the items' answers, read off the values (a value's own answer does not lean on its token) -/
def eqU (x : V) (u : Value) : Bool := match u with
  | .none => eqV .non x
  | .bool b => eqV (.bl b) x
  | .int i _ => eqV (.int i) x
  | .str z _ => eqV (.str z) x
  | _ => false
theorem eqU_of {x y : V} {u : Value} (r : RelV y u) (f : flatV y = true) : eqU x u = eqV y x := by
  cases y with
  | non => cases r; rfl
  | bl b => cases r; rfl
  | int i => obtain ⟨t, rfl⟩ := r; rfl
  | str z => obtain ⟨t, rfl⟩ := r; rfl
  | _ => exact absurd (show false = true from f) Bool.false_ne_true
theorem mem_eqAt {A : Around} {s : Shared} {x : V} {v : Value} (rx : RelV x v) (fx : flatV x = true) : ∀ {xs : List V} {us : List Value}, Vals xs us → xs.all flatV = true → ∀ u ∈ us, SeqAt.EqAt A s u v (eqU x u)
  | _, _, .nil, _ => fun u hu => by cases hu
  | y :: xs, u :: us, .cons r t, f => fun u' hu => by
    rw [List.all_cons, Bool.and_eq_true] at f
    rcases List.mem_cons.mp hu with rfl | hu
    · rw [eqU_of r f.1]; exact eqAt_V r rx f.1 fx
    · exact mem_eqAt rx fx t f.2 u' hu
def inV (x : V) (xs : List V) : Bool := xs.any fun y => eqV y x
/-- x in a list or tuple of flat items -/
def rIn (K : PySem.W.Frag) (neg : Bool) : R2 := fun x y H Q => ∃ p xs, y = .ref p ∧ (SqL K H p xs ∨ SqT K H p xs) ∧ flatV x = true ∧ xs.all flatV = true ∧ Q (.bl (if neg then !inV x xs else inV x xs)) H
/-! ### len, list(x), tuple(x) of any list or tuple that is read -/
theorem call_len_seq : CallR X (.builtin "len") (fun xs H Q => ∃ p ys, xs = [.ref p] ∧ (SqL X.K H p ys ∨ SqT X.K H p ys) ∧ Q (.int ys.length) H) := by
  intro pins s σ H xs us Q I r h
  obtain ⟨p, ys, rfl, hq, q⟩ := h
  obtain ⟨u, rfl, rx⟩ := vals1 r
  cases rx
  have hn := line63
  rcases hq with hq | hq
  · obtain ⟨its, r', pl, hz⟩ := I.list hq
    have hlen := r'.length
    exact Calls.call_len_list pl.isList (by simp only [List.size_toArray] <;> omega) ⟨.int ys.length, H, I.tok _, ⟨s.toks + 1, by rw [List.size_toArray, hlen]⟩, q⟩
  · obtain ⟨its, r', pl, hz⟩ := I.tuple hq
    have hlen := r'.length
    exact len_tuple pl (by simp only [List.size_toArray] <;> omega) ⟨.int ys.length, H, I.tok _, ⟨s.toks + 1, by rw [List.size_toArray, hlen]⟩, q⟩
/-! ### the call of a builtin's method: o.m(..) -/
/-- the value is of that builtin type -/
def tyV (K : PySem.W.Frag) (T : String) (x : V) (H : Hp) : Prop := match x with
  | .str _ => T = "str"
  | .int _ => T = "int"
  | .ref p => (T = "list" ∧ ∃ xs, SqL K H p xs) ∨ (T = "tuple" ∧ ∃ o, K.lookup p = some o ∧ o.cls = .type "tuple" ∧ o.dict = none) ∨
      (T = "dict" ∧ ((∃ kvs, H p = some (.dK kvs)) ∨ ∃ kvs, H p = some (.dT kvs))) ∨ (T = "set" ∧ ∃ S n, H p = some (.set S n))
  | _ => False
theorem tyV_is {pins : List (Addr × Obj)} {σ : St} {H : Hp} {s : Shared} {T : String} {x : V} {v : Value} (I : Inv X pins σ H s) (r : RelV x v) (ty : tyV X.K T x H) :
    s.TypeIs v T ∧ ∀ a, v = .ref a → ∃ ob, s.heap.get? a = some ob ∧ ob.dict = none := by
  cases x with
  | str z =>
    obtain ⟨t, rfl⟩ := r
    cases (show T = "str" from ty)
    exact ⟨typeIs_str s z t, fun _ e => nomatch e⟩
  | int i =>
    obtain ⟨t, rfl⟩ := r
    cases (show T = "int" from ty)
    exact ⟨typeIs_int s i t, fun _ e => nomatch e⟩
  | ref p =>
    cases r
    rcases ty with ⟨rfl, xs, hq⟩ | ⟨rfl, o, hk, hc, hd⟩ | ⟨rfl, hk⟩ | ⟨rfl, S, n, hk⟩
    · obtain ⟨its, _, pl, _⟩ := I.list hq
      refine ⟨pl.isList.typeIs, fun a e => ?_⟩
      cases e
      obtain ⟨o, n, e, c, hd, _⟩ := pl
      exact ⟨o, e, hd⟩
    · refine ⟨⟨o, I.kIn p o hk, hc⟩, fun a e => ?_⟩
      cases e
      exact ⟨o, I.kIn _ o hk, hd⟩
    · have z : ∃ o, s.heap.get? p = some o ∧ o.ExactDict := by
        rcases hk with ⟨kvs, hk⟩ | ⟨kvs, hk⟩
        · obtain ⟨_, _, _, _, o, _, _, e, ex, _⟩ := I.hok p _ hk
          exact ⟨o, e, ex⟩
        · obtain ⟨_, _, _, _, o, _, _, e, ex, _⟩ := I.hok p _ hk
          exact ⟨o, e, ex⟩
      obtain ⟨o, e, ex⟩ := z
      refine ⟨⟨o, e, ex.1⟩, fun a e2 => ?_⟩
      cases e2
      exact ⟨o, e, ex.2.1⟩
    · obtain ⟨o, _, _, _, e, ex, _⟩ := I.hok p _ hk
      refine ⟨⟨o, e, ex.1⟩, fun a e2 => ?_⟩
      cases e2
      exact ⟨o, e, ex.2.1⟩
  | _ => exact False.elim ty
def tBM0 (K : PySem.W.Frag) (T : String) (r : V → List V → Hp → VK → Prop) (to : TE) : TE := fun σ H Q => to σ H fun x H1 => tyV K T x H1 ∧ r x [] H1 Q
def tBM (K : PySem.W.Frag) (T : String) (r : V → List V → Hp → VK → Prop) (to : TE) (t : TA) : TE := fun σ H Q => to σ H fun x H1 => tyV K T x H1 ∧ t σ H1 fun xs H2 => r x xs H2 Q
variable {o e : Expr} {es : List Expr} {to : TE} {t : TA} {name : Str} {apos cpos : Pos} {T id : String} {r : V → List V → Hp → VK → Prop}
theorem pe_bm (pa : PlainAttrs T) (slot : Slot T name id) (hty : typeOf (.builtin id) = pure (.type "method_descriptor")) (hm : MtR X id r) (ho : PE X o to) (ha : PA X (e :: es) t)
    (hbase : attributeBase o name X.env (eval o X.env) = eval o X.env := by rfl)
    (hfew : ((backTo cpos (starEach (e :: es) X.env)).all (fun x => !x.1) && (backToKw cpos (keywordEach [] X.env)).all (fun x => x.1.isSome)
      && decide ((e :: es).length + ([] : List Keyword).length + (if ([] : List Keyword).isEmpty then 0 else 1) < 30)) = true := by rfl)
    (hline : (apos.endLine == cpos.line) = true := by rfl) (hs : starEach (e :: es) X.env = (false, eval e X.env) :: starEach es X.env := by rfl) (hplain : (backTo cpos (starEach es X.env)).any (·.1) = false := by rfl) :
    PE X (.Call (.Attribute o name apos) (e :: es) [] cpos) (tBM X.K T r to t) := by
  intro pins s σ H Q I h
  refine wpAny_Call_method_late hbase hfew hline rfl (thn (ho pins s σ H _ I h) fun v s1 ⟨x, H1, I1, r1, ty, q1⟩ => ?_)
  obtain ⟨h1, h2⟩ := tyV_is I1 r1 ty
  refine ⟨T, id, pa, slot, hty, h1, h2, ?_⟩
  have hA := ha cpos pins s1 σ H1 _ I1 q1
  rw [hs] at hA ⊢
  refine Calls.callWith_builtin (by show (false || (backTo cpos (starEach es X.env)).any (·.1)) = false; rw [hplain] <;> rfl) (Calls.evalArgs_plain ?_)
  exact thn hA fun us s2 ⟨vs, H2, I2, r2, q2⟩ => hm pins s2 σ H2 x vs v us Q I2 r1 r2 q2
/- xs.append(e), list.index on a module's tuple .. are MtR facts of 06m -/
end
end L2

namespace L2
open PySem PySem.Spec PyProof.Rows

def MtM (X : Cx) (id : String) (r : V → List V → Hp → VK → Prop) : Prop :=
  ∀ (pins : List (Addr × Obj)) (s : Shared) (σ : St) (H : Hp) (x : V) (xs : List V) (v : Value) (us : List Value) (Q : VK), Inv X pins σ H s → RelV x v → Vals xs us → r x xs H Q →
    wpAny (model X.prog X.w) X.A (call (.builtin id) (v :: us)) (EP X pins σ Q) X.xe s

/-! ### lists of values -/
theorem Vals.one : ∀ {x : V} {us : List Value}, Vals [x] us → ∃ u, us = [u] ∧ RelV x u
  | _, _, .cons r .nil => ⟨_, rfl, r⟩
theorem Vals.reverse {xs : List V} {us : List Value} (h : Vals xs us) : Vals xs.reverse us.reverse := by
  induction h with
  | nil => exact .nil
  | cons r t ih => rw [List.reverse_cons, List.reverse_cons]; exact Vals.append ih (.cons r .nil)
section
variable {X : Cx} {pins : List (Addr × Obj)} {σ : St} {H : Hp} {s : Shared} {l b : Addr} {xs ys zs : List V}

/-! ### the two steps: a tracked list is rewritten, a new list is laid -/
theorem Inv.lset {its its' : List Value} {n : Nat} {f : Array Value → Array Value} {t' : Nat} (I : Inv X pins σ H s) (hH : H l = some (.lst xs))
    (e : s.heap.get? l = some { cls := .type "list", data := .seq its.toArray n }) (hf : f its.toArray = its'.toArray) (hv : Vals ys its') (hz : ys.length ≤ sizeLine) :
    Inv X pins σ (upd H l (.lst ys)) { s with heap := s.heap.update l (Obj.mapSeq f), toks := t' } := by
  have q := PySem.IsL.update e f
  rw [hf] at q
  refine I.write (x := l) (e := l) (by rw [hH]; exact trivial) (.inl rfl) (fun b' u hb hu => (Heap.get?_update_other s.heap (Obj.mapSeq f) (Ne.symm hb)).trans hu) ⟨_, q⟩ ?_
  exact ⟨hz, its', _, hv, q⟩
theorem Inv.lnew {its : List Value} {t' : Nat} (I : Inv X pins σ H s) (hv : Vals ys its) (hz : ys.length ≤ sizeLine) :
    Inv X pins σ (upd H s.heap.objs.size (.lst ys)) { s with heap := s.heap.push { cls := .type "list", data := .seq its.toArray }, toks := t' } :=
  I.laid (fun _ _ q => Heap.get?_push_of_some _ q) (Nat.le_refl _) ⟨hz, its, 0, hv, Heap.get?_push_size _ rfl⟩
theorem Inv.fresh (I : Inv X pins σ H s) : H s.heap.objs.size = none := I.hok.fresh (Nat.le_refl _)
theorem Inv.lstM (I : Inv X pins σ H s) (hH : H l = some (.lst xs)) : xs.length ≤ sizeLine ∧ ∃ (its : List Value) (n : Nat), Vals xs its ∧ xs.length = its.length ∧ s.heap.get? l = some { cls := .type "list", data := .seq its.toArray n } := by
  obtain ⟨z, its, n, r, e⟩ := I.hok l _ hH
  exact ⟨z, its, n, r, r.length, e⟩

theorem notLongL {n : Nat} (h : n ≤ sizeLine) : Builtin.List.listTooLong n = false := by
  unfold Builtin.List.listTooLong
  exact decide_eq_false (by omega)
end

section
variable {X : Cx}

/-! ### methods -/
def rAppend : V → List V → Hp → VK → Prop := fun x vs H Q => ∃ l xs y, x = .ref l ∧ vs = [y] ∧ H l = some (.lst xs) ∧ xs.length < sizeLine ∧ Q .non (upd H l (.lst (xs ++ [y])))
theorem mt_append : MtM X "list.append" rAppend := by
  intro pins s σ H x vs v us Q I rx rv h
  obtain ⟨l, xs, y, rfl, rfl, hH, hz, q⟩ := h
  cases rx
  obtain ⟨u, rfl, ru⟩ := rv.one
  obtain ⟨z, its, n, r, hl, e⟩ := I.lstM hH
  refine call_meets F.slot_list_append ⟨_, e, rfl⟩ F.entry_list_append (F.args_list_append_2 _ _) (PySem.list_append l its.toArray n u (by rw [List.size_toArray]; omega)) ⟨e, ?_⟩
  refine ⟨.non, _, I.lset (its' := its ++ [u]) hH e (by simp) (r.append (.cons ru .nil)) ?_, rfl, q⟩
  rw [List.length_append, List.length_singleton]
  omega

def rExtend : V → List V → Hp → VK → Prop := fun x vs H Q => ∃ l b xs zs, x = .ref l ∧ vs = [.ref b] ∧ H l = some (.lst xs) ∧ H b = some (.lst zs) ∧ xs.length + zs.length ≤ sizeLine ∧ Q .non (upd H l (.lst (xs ++ zs)))
theorem mt_extend : MtM X "list.extend" rExtend := by
  intro pins s σ H x vs v us Q I rx rv h
  obtain ⟨l, b, xs, zs, rfl, rfl, hH, hB, hz, q⟩ := h
  cases rx
  obtain ⟨u, rfl, ru⟩ := rv.one
  cases ru
  obtain ⟨z, its, n, r, hl, e⟩ := I.lstM hH
  obtain ⟨z2, its2, n2, r2, hl2, e2⟩ := I.lstM hB
  have hsz : its.toArray.size + its2.toArray.size ≤ sizeLine := by rw [List.size_toArray, List.size_toArray]; omega
  have hlong : ¬ (!its.toArray.isEmpty && Builtin.List.listTooLong (its.toArray.size + its2.toArray.size)) = true := by
    rw [notLongL hsz, Bool.and_false]
    exact Bool.false_ne_true
  refine call_meets F.slot_list_extend ⟨_, e, rfl⟩ F.entry_list_extend (F.args_list_extend_2 _ _)
    (AutoSeq1.list_extend_list_list_0 l its.toArray n b its2.toArray n2 hlong (by rw [List.size_toArray]; omega) (by omega)) ⟨e, e2, ?_⟩
  refine ⟨.non, _, I.lset (its' := its ++ its2) hH e (by simp) (r.append r2) ?_, rfl, q⟩
  rw [List.length_append]
  omega

def rPop : V → List V → Hp → VK → Prop := fun x vs H Q => ∃ l xs y, x = .ref l ∧ vs = [] ∧ H l = some (.lst xs) ∧ xs[xs.length - 1]? = some y ∧ Q y (upd H l (.lst xs.dropLast))
def rPopAt : V → List V → Hp → VK → Prop := fun x vs H Q => ∃ l xs i k y, x = .ref l ∧ vs = [.int i] ∧ H l = some (.lst xs) ∧ -(2 ^ 63) ≤ i ∧ i < 2 ^ 63 ∧ seqIndex? i xs.length = some k ∧ xs[k]? = some y ∧ Q y (upd H l (.lst (xs.eraseIdx k)))
def rReverse : V → List V → Hp → VK → Prop := fun x vs H Q => ∃ l xs, x = .ref l ∧ vs = [] ∧ H l = some (.lst xs) ∧ Q .non (upd H l (.lst xs.reverse))
def rClear : V → List V → Hp → VK → Prop := fun x vs H Q => ∃ l xs, x = .ref l ∧ vs = [] ∧ H l = some (.lst xs) ∧ Q .non (upd H l (.lst []))
/-! ### list + list, list += list, list * int -/
def rCat : R2 := fun x y H Q => ∃ l b xs zs, x = .ref l ∧ y = .ref b ∧ H l = some (.lst xs) ∧ H b = some (.lst zs) ∧ xs.length + zs.length ≤ sizeLine ∧ ∀ p, H p = none → Q (.ref p) (upd H p (.lst (xs ++ zs)))
theorem op_cat : OpR X (binaryOp .Add) rCat := by
  intro pins s σ H x y v u Q I rx ry h
  obtain ⟨l, b, xs, zs, rfl, rfl, hH, hB, hz, q⟩ := h
  cases rx
  cases ry
  obtain ⟨z, its, n, r, hl, e⟩ := I.lstM hH
  obtain ⟨z2, its2, n2, r2, hl2, e2⟩ := I.lstM hB
  refine PySem.P.add_list e e2 ?_ (by rw [List.size_toArray, List.size_toArray]; omega)
  have ea : its.toArray ++ its2.toArray = (its ++ its2).toArray := by simp
  rw [ea]
  exact ⟨.ref _, _, I.lnew (t' := s.toks) (r.append r2) (by rw [List.length_append]; omega), rfl, q _ I.fresh⟩
/-- a list times an int (a negative one is nothing) -/
def rRep : R2 := fun x y H Q => ∃ l k xs, x = .ref l ∧ y = .int k ∧ H l = some (.lst xs) ∧ -(2 ^ 63) ≤ k ∧ k < 2 ^ 63 ∧ xs.length * k.toNat ≤ sizeLine ∧
  ∀ p, H p = none → Q (.ref p) (upd H p (.lst (List.replicate k.toNat xs).flatten))
/-! ### del xs[i] -/
end

/-! ### xs[a:b] = ys -/
section
variable {prog : Program} {w : World} {A : Around} {E : Value → Shared → Prop} {s : Shared}
set_option maxRecDepth 100000 in
end

section
variable {X : Cx}
end
end L2

namespace Att
open PySem PySem.W PySem.Calls PyProof.Rows

/-! ### the script -/
theorem ints_of_wellAll {P : Params} {h : Heap} : ∀ (ns : List Int) (vs : List Value), WellAll P h vs (ns.map WData.int) → IntsAre vs ns := by
  intro ns
  induction ns with
  | nil =>
    intro vs w
    rw [List.map_nil] at w
    cases w
    exact .nil
  | cons n ns ih =>
    intro vs w
    rw [List.map_cons] at w
    cases w with
    | cons a b =>
      cases a
      exact .cons _ _ (ih _ b)

theorem script_of {l : OpenLaw} {n : Nat} (hn : l.most = some n) {P : Params} {h : Heap} {args : List WData} {vals : List Value}
    (hpre : l.row.toRowW.claim.pre args = true) (hwl : WellAll P h vals args) :
    ∃ a vs ns, vals = [Value.ref a] ∧ args = [WData.list (ns.map WData.int)] ∧ h.get? a = some { cls := .type "list", data := .seq vs.toArray } ∧ IntsAre vs ns ∧ ns.length ≤ n := by
  have hsh : WShape.hasAll [] args [.list .int] = true := (pre_splitW hpre).1
  have hc : l.pre.holds [] { args := args } = true := (pre_splitW hpre).2
  obtain ⟨d, r, rfl, h1, h2⟩ := hasAllW_cons hsh
  obtain rfl := hasAllW_nil h2
  obtain ⟨xs, rfl, h3⟩ := hasW_list h1
  obtain ⟨ns, rfl⟩ := items_int h3
  have hlen : ns.length ≤ n := by
    unfold OpenLaw.pre at hc
    have h4 : (WTm.not (.lt (.lit (.int (n : Int))) (.len (.arg 0)))).holds [] { args := [.list (ns.map .int)] } = true := by
      have h4 := (holds_andW hc).1
      rw [hn] at h4
      exact h4
    have h5 := condW_of h4 (w_not (w_lt w_lit (w_len_list (w_arg rfl))))
    rw [List.length_map] at h5
    refine Nat.le_of_not_lt fun q => ?_
    have q' : (n : Int) < ((ns.length : Nat) : Int) := by omega
    first
      | (rw [decide_eq_true q'] at h5; exact absurd h5 (by decide))
      | (simp at h5; omega)
  cases hwl with
  | cons w1 w2 =>
    cases w2
    cases w1 with
    | list ho hall => exact ⟨_, _, ns, rfl, rfl, ho, ints_of_wellAll ns _ hall, hlen⟩

theorem post_true (l : OpenLaw) (args : List WData) : l.row.toRowW.claim.post args (.bool true) args = true :=
  postW_of (r := l.row.toRowW) (X := (true == true))
    (show WShape.has [] (.bool true) .bool = true by first | rfl | decide | simp [WShape.has, WShape.arms, WShape.armsAll])
    (show (WTm.eq .res (.lit (.bool true))).value [] { args := args, res := some (.bool true), after := args } = some (.bool (true == true)) from w_eq_bool (w_res rfl) w_lit) rfl

/-! ### the attachment: holds_open's last premise (the goal 'hc' behind k_head) from a wpAny of the law's body -/
/-- the same from a codeAny of the CALL (for a layer whose function contracts speak of calls) -/
theorem attach_call {l : OpenLaw} {n : Nat} {q : Program} {loose : List Str} {XP : (Str → Option Value) → Heap → Prop} {YP : World → Heap → Prop} {d : DefRec}
    (hn : l.most = some n) (hdf : d.params.defaults = [])
    (call : ∀ (w : World) (s₀ s₁ : Shared) (mg mb : Str → Option Value) (fa : Addr) (o : Obj) (pm cd doc : Value) (a : Addr) (vs : List Value) (ns : List Int),
      Ground q loose [] XP w s₀ mg mb s₁.heap → YP w s₁.heap →
      s₁.heap.get? fa = some o → o.data = .func (docDef d.name d.params d.body d.scope pm cd doc) → s₁.heap.CodeRec cd d.name → mg d.name = some (.ref fa) →
      s₁.heap.get? a = some { cls := .type "list", data := .seq vs.toArray } → IntsAre vs ns → ns.length ≤ n → s₁.gens = #[] →
      codeAny (model l.prog w) callerA (.call (.ref fa) ⟨[.ref a], []⟩) (fun r s' => r = .ok (.ret (.bool true)) ∧ OldK s₁.heap s'.heap ∧ s'.os = s₁.os ∧ AllBare s'.gens) s₁) :
    WalkO q loose XP YP l.row.toRowW d [] (fun f vs => PySem.call f vs) := by
  intro w s₀ s₁ mg mb G Y fa o pm cd doc dV kV ho hd hcd hD hmg hg args vals as hpre hlay hrd hwl hlo
  obtain rfl : dV = .none := Dflts.none hD hdf
  obtain rfl : kV = .none := Dflts.noKw hD
  obtain ⟨a, vs, ns, rfl, rfl, hobj, hints, hlen⟩ := script_of hn hpre hwl
  refine enter_call (codeAny_mono (call w s₀ s₁ mg mb fa o pm cd doc a vs ns G Y ho (fd_plain hd) hcd hmg hobj hints hlen hg) fun r s' hq => ?_)
  obtain ⟨rfl, h2, h3, h4⟩ := hq
  exact ⟨.inl ⟨.bool true, .bool true, [], rfl, fun _ => rfl, .bool true, post_true l _, fun _ => ⟨List.Pairwise.nil, fun _ hm => (nomatch hm)⟩⟩, h2, h3, h4⟩

/-! ### rules over ANY heap (no ledger) from facts about the written part K: the library's own take a ledger (News) for what they write -/
section
variable {prog : Program} {w : World} {A : Around} {E : Value → Shared → Prop} {s : Shared} {K : Frag}

/-! the whole heap as the ledger: makes every rule that writes through a ledger a rule over any heap -/
def noObjs (h : Heap) : Heap := { h with objs := #[] }
def ledger (h : Heap) (L d : Addr) : List (Addr × Obj) := (List.range h.objs.size).filterMap fun a => if a = L ∨ a = d then none else (h.get? a).map fun o => (a, o)
end
end Att

namespace L2
open PySem PySem.Spec PyProof.Rows

theorem vals_ints : ∀ {vs : List Value} {ns : List Int}, IntsAre vs ns → Vals (ns.map V.int) vs
  | _, _, .nil => .nil
  | _, _, .cons n t h => .cons ⟨t, rfl⟩ (vals_ints h)

/-- nothing is tracked but the script, known to the object (or it is an object of the module) -/
def Only (H : Hp) : Prop := ∀ b, H b = none ∨ ∃ o xs, H b = some (.frz o (.lst xs))

end L2

namespace L2
open PySem PySem.Spec PyProof.Rows

abbrev KOf {K : PySem.W.Frag} {h : Heap} (_ : K.In h) : PySem.W.Frag := K

end L2

/- THE LAST THEOREM (shape; LID, My.* are yours):
   My.Adr: a structure of the addresses that your layer names (classes, functions); My.Txt K t: a structure (Prop) of the equations over K;
   My.txt_mk : {K} {implicit addresses ..} (e1 : nsIn K mainGlobals "law" = some (some (.ref f))) (e2 : K.lookup f = some ⟨oc, od, .func (fnOf "law" "law" params body scope dV kV doc pm an cdv ct), sl⟩) (e3 : codeIn K cdv "law" = true) .. : ∃ t, My.Txt K t

set_option maxRecDepth 100000 in
set_option maxHeartbeats 0 in
theorem PySem.Challenge.cw_LID_holds : PySem.Challenge.rw_LID.Holds := by
  w_on; o_law; k_head; (case hw => w_witness2)
  k_fill
  refine L2.walk_of (l := PySem.Challenge.rw_LID) (n := 63) (k := 40) (x := "script") (CX := fun w => ..) (sp := fun _ => My.sp_law) rfl (by decide) rfl ⟨rfl, by decide, by decide⟩ (fun w h Y => PySem.W.kIn_of Y) ?F ?S ?C
  case F =>
    intro w mg fa h KX G hmg
    have T : ∃ t, My.Txt (L2.KOf KX) t := by
      dsimp only [L2.KOf]                          -- K must stand as «<heap const> w.params» for k_is
      refine' My.txt_mk ?e1 ?e2 ?e3 ..
      (case e1 => PySem.W.k_is)                    -- in the order: a name -> its address -> its object -> its parts
      (case e2 => PySem.W.k_is)
      ..
    obtain ⟨t, T⟩ := T
    have e0 := hmg.symm.trans (PySem.W.mg_of KX G T.law)
    cases e0                                       -- fa is the law's own address
    exact ⟨_, fun s u => .of_eq rfl, fun base kb nb => My.law_fn T kb nb⟩     -- if «.of_eq rfl» comes too early: refine' ⟨_, ?b, fun base kb nb => My.law_fn T kb nb⟩; exact fun s u => .of_eq rfl
  case S => exact fun w H a ns hl hO hS => ..
  case C => exact ..
(the tactic k_is has no namespace: write k_is) -/

/-! SHORT WORDS over the layer: a def of the text, its body, what a loop and a test want. -/
namespace L2
open PySem PySem.Spec PyProof.Rows

/-! ### the text by places -/
/-- the j-th statement of a class's body -/
def inClass (s : Stmt) (j : Nat) : Stmt := match s with
  | .ClassDef _ _ _ body _ _ _ _ _ _ _ => body.getD j (.Pass ⟨0, 0, 0, 0⟩)
  | _ => .Pass ⟨0, 0, 0, 0⟩
def defArgs (s : Stmt) : Arguments := match s with
  | .FunctionDef _ a _ _ _ _ _ _ _ _ => a
  | _ => { posonlyargs := [], args := [], vararg := none, kwonlyargs := [], kw_defaults := [], kwarg := none, defaults := [] }
def defBody (s : Stmt) : List Stmt := match s with
  | .FunctionDef _ _ b _ _ _ _ _ _ _ => b
  | _ => []
def defScope (s : Stmt) : Scope := match s with
  | .FunctionDef _ _ _ _ _ _ sc _ _ _ => sc
  | _ => { kind := .function, names := [], isGenerator := false, isCoroutine := false }

/-! ### no exception leaves a def -/
abbrev CX0 : CXT := fun _ _ _ _ _ _ => False
abbrev E0 : XK := fun _ _ _ => False
theorem pass0 {X : Cx} : Passes CX0 X E0 := fun _ _ _ _ _ _ _ h => h.elim

/-! ### a def (or method) of the text as it stands behind the top -/
structure Fun (K : PySem.W.Frag) (x qual : Str) (st : Stmt) (f : Addr) (fd : FuncData) : Prop where
  ex : ∃ (oc : Value) (od : Option Addr) (kV doc pm : Value) (an : Option Addr) (cdv ct : Value) (osl : Array (Option Value)),
    fd = PySem.W.fnOf x qual (defArgs st) (defBody st) (defScope st) .none kV doc pm an cdv ct ∧ K.lookup f = some ⟨oc, od, .func fd, osl⟩ ∧ PySem.W.codeIn K cdv qual = true
  kp : PySem.W.keepIn K (.ref f) = true
section
variable {P : Program} {w : World} {K : PySem.W.Frag} {mg : Str → Option Value} {base : Heap}
/-- THE RULE for a def: its body as a term of rules, and the reading of that term -/
theorem Fun.ok {x qual : Str} {st : Stmt} {f : Addr} {fd : FuncData} {N ps : List Str} {k : Nat} {sp : Sp} (F : Fun K x qual st f fd) (S : FnScope N ps (defScope st)) (len : ∀ vs H Q E, sp vs H Q E → vs.length = ps.length)
    (hbody : ∀ (cdv : Value) (A : Around) (outer : List Env) (s : Shared) (H : Hp) (vs : List V) (Q : VK) (E : XK), Room k (A.deeper (envOfC qual (defScope st) s.heap.objs.size f cdv)) → sp vs H Q E →
      ∃ t, PSs (cxOf CX0 P w K mg base N qual (defScope st) f cdv A outer s H E).nox (defBody st) t ∧ t { nx := fun _ H' => Q .non H', rt := Q } (start N vs) H) : FnOk P w K mg base CX0 (k + 1) f fd ps sp := by
  obtain ⟨oc, od, kV, doc, pm, an, cdv, ct, osl, rfl, lk, hcd⟩ := F.ex
  refine fn_of lk hcd S len fun A outer s H vs Q E hr hsp => ?_
  obtain ⟨t, h, q⟩ := hbody cdv A outer s H vs Q E hr hsp
  exact ⟨t, h.nox, q⟩
theorem fun_mk {x qual : Str} {st : Stmt} {f : Addr} {oc : Value} {od an : Option Addr} {osl : Array (Option Value)} {kV doc pm cdv ct : Value} (l : K.lookup f = some ⟨oc, od, .func (PySem.W.fnOf x qual (defArgs st) (defBody st) (defScope st) .none kV doc pm an cdv ct), osl⟩)
    (c : PySem.W.codeIn K cdv qual = true) (k : PySem.W.keepIn K (.ref f) = true) : Fun K x qual st f (PySem.W.fnOf x qual (defArgs st) (defBody st) (defScope st) .none kV doc pm an cdv ct) := ⟨⟨oc, od, kV, doc, pm, an, cdv, ct, osl, rfl, l, c⟩, k⟩
end
theorem small1000 {n : Nat} (h : n ≤ 1000) : n < sizeLine := Nat.lt_of_le_of_lt h (by decide)

/-! ### expressions in short: the name that stands in the i-th slot -/
section
variable {X : Cx}
theorem pv (i : Nat) {x : Str} {pos : Pos} (hN : X.N[i]? = some x := by rfl) (hv : Vis X.env.scope x := by first | exact Or.inl rfl | exact Or.inr (Or.inl rfl) | exact Or.inr (Or.inr rfl)) (hd : (x == ("__debug__" : Str)) = false := by decide)
    (hcd : (x == ("__classdict__" : Str)) = false := by decide) : PE X (.Name x pos) (tVar i) := pe_var hN hv hd hcd
end

/-! ### tests -/
theorem iteF {A B : Prop} (h : B) : if false = true then A else B := by
  rw [if_neg Bool.false_ne_true]
  exact h
theorem iteT {A B : Prop} (h : A) : if true = true then A else B := by
  rw [if_pos rfl]
  exact h
theorem ite2 {c A B : Prop} [Decidable c] (h1 : c → A) (h2 : ¬ c → B) : if c then A else B := by
  by_cases h : c
  · rw [if_pos h]
    exact h1 h
  · rw [if_neg h]
    exact h2 h
theorem iteNS {c A B : Prop} [Decidable c] (hc : c) (h : B) : if (!decide c) = true then A else B := by
  rw [decide_eq_true hc]
  exact iteF h

/-! ### heaps -/
/-- all that was tracked is as it was -/
def Same (H H' : Hp) : Prop := ∀ b o, H b = some o → H' b = some o
theorem Same.refl (H : Hp) : Same H H := fun _ _ h => h
theorem Same.trans {H H1 H2 : Hp} (a : Same H H1) (b : Same H1 H2) : Same H H2 := fun c o h => b c o (a c o h)
theorem Same.free {H H' : Hp} (e : Same H H') {l : Addr} (h : H' l = Option.none) : H l = Option.none := by
  cases q : H l with
  | none => rfl
  | some o =>
    rw [e l o q] at h
    cases h
theorem Same.seq {K : PySem.W.Frag} {H H' : Hp} {a : Addr} {xs : List V} (e : Same H H') (h : SqL K H a xs) : SqL K H' a xs := by
  rcases h with (h | ⟨o, h⟩) | h
  · exact .inl (.inl (e _ _ h))
  · exact .inl (.inr ⟨o, e _ _ h⟩)
  · exact .inr h

end L2

namespace L2
open PySem PySem.Spec PyProof.Rows

/-! ### lists of pairs as tables -/
section
variable {κ : Type} [DecidableEq κ]
def valV (kvs : List (κ × V)) (k : κ) : Option V := (kvs.find? fun kv => decide (kv.1 = k)).map (·.2)
/-- in its place, or at the end -/
def putK (kvs : List (κ × V)) (k : κ) (v : V) : List (κ × V) :=
  if (kvs.any fun kv => decide (kv.1 = k)) = true then kvs.map (fun kv => if kv.1 = k then (kv.1, v) else kv) else kvs ++ [(k, v)]
def dropK (kvs : List (κ × V)) (k : κ) : List (κ × V) := kvs.filter fun kv => decide (kv.1 ≠ k)

end


/-! ### a tracked dict, its keys ints and texts or tuples of these -/
/-- raw entries of a dict with tuple keys -/
abbrev KT (H : Hp) : List (List Key × V) → List (List Key × Addr × Value) → Prop := Paired fun p q => p.1 = q.1 ∧ H q.2.1 = some (.tup (p.1.map kV)) ∧ RelV p.2 q.2.2
section
variable {P : Program} {w : World} {H : Hp} {h : Heap} {a : Addr}
end

/-- what the dict at a holds at the key y -/
def DGet (H : Hp) (a : Addr) (y : V) (r : Option V) : Prop :=
  (∃ kvs k, Rd H a (.dK kvs) ∧ y = kV k ∧ r = valV kvs k) ∨ ∃ kvs k b, Rd H a (.dT kvs) ∧ y = .ref b ∧ H b = some (.tup (k.map kV)) ∧ r = valV kvs k
/-- the heap behind a[y] = v -/
def DPut (H : Hp) (a : Addr) (y v : V) (H' : Hp) : Prop :=
  (∃ kvs k, H a = some (.dK kvs) ∧ y = kV k ∧ kvs.length < sizeLine ∧ H' = upd H a (.dK (putK kvs k v))) ∨
  ∃ kvs k b, H a = some (.dT kvs) ∧ y = .ref b ∧ H b = some (.tup (k.map kV)) ∧ kvs.length < sizeLine ∧ H' = upd H a (.dT (putK kvs k v))
section
variable {X : Cx} {pins : List (Addr × Obj)} {σ : St} {H : Hp} {s : Shared} {a : Addr} {y v : V} {u r : Value} {o : Option V} {A : Around} {E : Value → Shared → Prop}

end

section
variable {X : Cx} {pins : List (Addr × Obj)} {σ : St} {H : Hp} {s : Shared} {a : Addr} {kvs : List (Key × V)} {k : Key} {u : Value} {A : Around} {E : Value → Shared → Prop}
end


/-! ### readings and rules -/
/-- the element of a subscription, not a slice -/
def NoSl (i : Expr) : Prop := ∀ ov iv, subscripted i false ov iv = operate [ov, iv] (getItem ov iv)
/-- d[y] -/
def tDGet (td ty : TE) : TE := fun σ H Q => td σ H fun x H1 => ty σ H1 fun y H2 => ∃ a v, x = .ref a ∧ DGet H2 a y (some v) ∧ Q v H2
/-- y in d, y not in d -/
def tDIn (ty td : TE) : TE := fun σ H Q => ty σ H fun y H1 => td σ H1 fun x H2 => ∃ a o, x = .ref a ∧ DGet H2 a y o ∧ Q (.bl o.isSome) H2
def tDNotIn (ty td : TE) : TE := fun σ H Q => ty σ H fun y H1 => td σ H1 fun x H2 => ∃ a o, x = .ref a ∧ DGet H2 a y o ∧ Q (.bl (!o.isSome)) H2
/-- d[y] = v -/
def sDPut (td ty tv : TE) : TS := fun D σ H => tv σ H fun v H1 => td σ H1 fun x H2 => ty σ H2 fun y H3 => ∃ a H4, x = .ref a ∧ DPut H3 a y v H4 ∧ D.nx σ H4
/-- d[y] op= v -/
def sDAug (td ty tv : TE) (rd : V → V → Hp → VK → Prop) : TS := fun D σ H => td σ H fun x H1 => ty σ H1 fun y H2 => ∃ a v, x = .ref a ∧ DGet H2 a y (some v) ∧
  tv σ H2 fun y2 H3 => rd v y2 H3 fun z H4 => ∃ H5, DPut H4 a y z H5 ∧ D.nx σ H5
/-- del d[y] -/
def sDDel (td ty : TE) : TS := fun D σ H => td σ H fun x H1 => ty σ H1 fun y H2 => ∃ a kvs k, x = .ref a ∧ H2 a = some (.dK kvs) ∧ y = kV k ∧ (valV kvs k).isSome = true ∧ D.nx σ (upd H2 a (.dK (dropK kvs k)))

section
variable {X : Cx} {o i e value : Expr} {pos pos' tpos : Pos} {td ty tv : TE}
end


/-! ### displays -/
/-- {}, to be a dict of the kind that is wanted -/
def tDNewK : TE := fun _ H Q => ∀ p, H p = none → Q (.ref p) (upd H p (.dK []))
def tDNewT : TE := fun _ H Q => ∀ p, H p = none → Q (.ref p) (upd H p (.dT []))
section
variable {X : Cx} {pos : Pos}
end

/-- the pairs of a display, from the left -/
def tPairs : List (TE × TE) → St → Hp → (List (V × V) → Hp → Prop) → Prop
  | [], _, H, Q => Q [] H
  | (tk, tv) :: r, σ, H, Q => tk σ H fun x H1 => tv σ H1 fun y H2 => tPairs r σ H2 fun ps H3 => Q ((x, y) :: ps) H3
abbrev VV : List (V × V) → List (Value × Value) → Prop := Paired fun p q => RelV p.1 q.1 ∧ RelV p.2 q.2
def PPs (X : Cx) (pos : Pos) (keys : List (Option Expr)) (values : List Expr) (trs : List (TE × TE)) : Prop :=
  ∀ (pins : List (Addr × Obj)) (s : Shared) (σ : St) (H : Hp) (Q : List (V × V) → Hp → Prop), Inv X pins σ H s → tPairs trs σ H Q →
    wpAny (model X.prog X.w) X.A (evalPairs (pairTrees keys values X.env pos)) (fun vs s' => ∃ ps H', Inv X pins σ H' s' ∧ VV ps vs ∧ Q ps H') X.xe s
def mergeK (kvs more : List (Key × V)) : List (Key × V) := more.foldl (fun acc kv => putK acc kv.1 kv.2) kvs
/-- {k: v, ..} with keys ints and texts; the new dict stands empty while the pairs are made -/
def tDisp (trs : List (TE × TE)) : TE := fun σ H Q => ∀ p, H p = none → tPairs trs σ (upd H p (.dK [])) fun ps H2 => H2 p = some (.dK []) ∧ ∃ kvs : List (Key × V), ps = kvs.map (fun kv => (kV kv.1, kv.2)) ∧ kvs.length ≤ 15 ∧ Q (.ref p) (upd H2 p (.dK (mergeK [] kvs)))
end L2
/-! my own rules over the layer: the glue of defs, floor division by great numbers, isinstance, is, tuples -/
namespace L2
open PySem PySem.Spec PyProof.Rows

theorem same_new {H : Hp} {p : Addr} (h : H p = none) (o : HO) : Same H (upd H p o) := fun b u q => by rw [upd_ne (ne_of_none q h)]; exact q
/-- a def of the top, by its name -/
structure Def (K : PySem.W.Frag) (mg : Str → Option Value) (x : Str) (st : Stmt) (ps : List Str) : Prop where
  ex : ∃ (f : Addr) (fd : FuncData), Fun K x x st f fd ∧ (∀ us : List Value, us.length = ps.length → bindArgs fd ⟨us, []⟩ = pure (ps.zip us)) ∧ mg x = some (.ref f)
theorem def_mk {K : PySem.W.Frag} {h : Heap} {mg : Str → Option Value} {x : Str} {st : Stmt} {ps : List Str} {f : Addr} {oc : Value} {od an : Option Addr} {osl : Array (Option Value)} {kV doc pm cdv ct : Value}
    (KX : K.In h) (G : h.Ns mainGlobals mg) (a : PySem.W.nsIn K mainGlobals x = some (some (.ref f)))
    (l : K.lookup f = some ⟨oc, od, .func (PySem.W.fnOf x x (defArgs st) (defBody st) (defScope st) .none kV doc pm an cdv ct), osl⟩)
    (c : PySem.W.codeIn K cdv x = true) (k : PySem.W.keepIn K (.ref f) = true)
    (b : ∀ (kV doc pm : Value) (an : Option Addr) (cdv ct : Value) (us : List Value), us.length = ps.length → bindArgs (PySem.W.fnOf x x (defArgs st) (defBody st) (defScope st) .none kV doc pm an cdv ct) ⟨us, []⟩ = pure (ps.zip us)) :
    Def K mg x st ps := ⟨f, _, fun_mk l c k, b kV doc pm an cdv ct, PySem.W.mg_of KX G a⟩

/-- what a caller knows of a def -/
structure Cal (P : Program) (w : World) (K : PySem.W.Frag) (mg : Str → Option Value) (base : Heap) (k : Nat) (x : Str) (ps : List Str) (sp : Sp) : Prop where
  ex : ∃ (f : Addr) (fd : FuncData), FnOk P w K mg base CX0 k f fd ps sp ∧ Binds K fd ps [] ∧ PySem.W.keepIn K (.ref f) = true ∧ mg x = some (.ref f)
theorem Def.cal {P : Program} {w : World} {K : PySem.W.Frag} {mg : Str → Option Value} {base : Heap} {k : Nat} {x : Str} {st : Stmt} {ps : List Str} {sp : Sp} (d : Def K mg x st ps)
    (F : ∀ (f : Addr) (fd : FuncData), Fun K x x st f fd → FnOk P w K mg base CX0 k f fd ps sp) : Cal P w K mg base k x ps sp := by
  obtain ⟨f, fd, h1, h2, h3⟩ := d.ex
  exact ⟨f, fd, F f fd h1, .all h2, h1.kp, h3⟩
section
variable {X : Cx} {k : Nat} {x : Str} {ps : List Str} {sp : Sp} {p pos : Pos} {e : Expr} {es : List Expr} {t : TA}
/-- f(..), f a def of the top -/
theorem pe_fn (c : Cal X.prog X.w X.K X.mg X.base k x ps sp) (hr : Room k X.A) (hg : Gl X x) (ha : PA X (e :: es) t) (hdb : (x == ("__debug__" : Str)) = false := by decide)
    (he : starEach (e :: es) X.env = (false, eval e X.env) :: starEach es X.env := by rfl) (hpl : (backTo pos (starEach es X.env)).any (·.1) = false := by rfl) :
    PE X (.Call (.Name x p) (e :: es) [] pos) (tCall sp [] E0 t) := by
  obtain ⟨f, fd, F, B, kp, m⟩ := c.ex
  exact pe_call F hr hg m kp B .nil pass0 ha hdb he hpl
end

/-- the law's own promise -/
def spLaw (K : PySem.W.Frag) : Sp := fun vs H Q _ => ∃ (a : Addr) (ns : List Int), vs = [.ref a] ∧ SqL K H a (ns.map V.int) ∧ ns.length ≤ 63 ∧ Only H ∧ ∀ H', Q (.bl true) H'
section
variable {X : Cx}
theorem log2_small {n : Nat} (h : n < 10 ^ 60) : n.log2 < 9000 := by
  by_cases h0 : n = 0
  · subst h0; decide
  · have h1 : n.log2 < 200 := (Nat.log2_lt h0).mpr (Nat.lt_of_lt_of_le h (by decide))
    omega
/-- // by a positive number of at most sixty digits -/
theorem op_fdivB : OpR X (binaryOp .FloorDiv) (rI (fun _ j => 0 < j ∧ j < 10 ^ 60) fun i j => .int (i / j)) := opI fun i j _ _ _ _ _ hc q => by
  have h1 : (0 : Int) < j := hc.1
  have h2 : j < 10 ^ 60 := hc.2
  exact floordiv_int (by omega) (by rw [Int.fdiv_eq_ediv_of_nonneg i (by omega)]; exact q) (.inl (PyProof.noPylong_of_log2 (log2_small (by omega))))
/-- isinstance(x, T), T a built-in's name -/
theorem call_isi : CallR X (.builtin "isinstance") (fun xs H Q => ∃ x c t b, xs = [x, .ty c] ∧ TyOf X.K H x t ∧ PySem.W.kitOne X.K t (.type c) = some b ∧ Q (.bl b) H) := by
  intro pins s σ H xs us Q I r h
  obtain ⟨x, c, t, b, rfl, ty, e, q⟩ := h
  obtain ⟨u, w', rfl, ru, rw'⟩ := vals2 r
  cases rw'
  exact isinst_ok I ru ty e fun tk => ⟨.bl b, H, I.tok tk, rfl, q⟩
/-- t + u of any two tuples -/
theorem op_catU : OpR X (binaryOp .Add) (fun x y H Q => ∃ a b xs ys, x = .ref a ∧ y = .ref b ∧ SqT X.K H a xs ∧ SqT X.K H b ys ∧ xs.length + ys.length ≤ sizeLine ∧
    ∀ p H', Same H H' → SqT X.K H' p (xs ++ ys) → (H a = some (.tup xs) → H b = some (.tup ys) → H' p = some (.tup (xs ++ ys))) → Q (.ref p) H') := by
  intro pins s σ H x y v u Q I rx ry h
  obtain ⟨a, b, xs, ys, rfl, rfl, ha, hb, hz, q1⟩ := h
  cases rx
  cases ry
  obtain ⟨its, r1, p1, _⟩ := I.tuple ha
  obtain ⟨its2, r2, p2, _⟩ := I.tuple hb
  have hz' : its.length + its2.length ≤ sizeLine := by rw [← r1.length, ← r2.length]; exact hz
  obtain ⟨⟨cls, dd, data, sl⟩, ho, hc, n, hd⟩ := id p1
  obtain ⟨⟨cls2, dd2, data2, sl2⟩, ho2, hc2, n2, hd2⟩ := id p2
  simp only at hc hd hc2 hd2
  subst hc hd hc2 hd2
  have e : its.toArray ++ its2.toArray = (its ++ its2).toArray := by simp
  by_cases hv : its = []
  · have hx : xs = [] := r1.nil_iff.mp hv
    subst hx
    exact concat_meets ⟨_, ho, rfl⟩ ⟨_, ho2, rfl⟩ noFill_tuple_add seq_tuple_add PySem.F.slot_tuple_add PySem.F.entry_tuple_add (PySem.F.args_tuple_add_2 _ _)
      (tuple_addW0 a b its.toArray its2.toArray n n2 dd dd2 sl sl2 (by simp [hv])) ⟨ho, ho2, ⟨.ref b, H, I, rfl, q1 b H (Same.refl H) (by simpa using hb) (fun _ z => by simpa using z)⟩⟩
  · by_cases hw : its2 = []
    · have hy : ys = [] := r2.nil_iff.mp hw
      subst hy
      exact concat_meets ⟨_, ho, rfl⟩ ⟨_, ho2, rfl⟩ noFill_tuple_add seq_tuple_add PySem.F.slot_tuple_add PySem.F.entry_tuple_add (PySem.F.args_tuple_add_2 _ _)
        (tuple_addW1 a b its.toArray its2.toArray n n2 dd dd2 sl sl2 (by simpa using hv) (by simp [hw])) ⟨ho, ho2, ⟨.ref a, H, I, rfl, q1 a H (Same.refl H) (by simpa using ha) (fun z _ => by simpa using z)⟩⟩
    · refine concat_meets ⟨_, ho, rfl⟩ ⟨_, ho2, rfl⟩ noFill_tuple_add seq_tuple_add PySem.F.slot_tuple_add PySem.F.entry_tuple_add (PySem.F.args_tuple_add_2 _ _)
        (tuple_addW2 a b its.toArray its2.toArray n n2 dd dd2 sl sl2 (by simpa using hv) (by simpa using hw) (by rw [List.size_toArray, List.size_toArray]; exact hz')) ⟨ho, ho2, ?_⟩
      rw [e]
      refine ⟨.ref s.heap.objs.size, _, I.laid (t' := s.toks) (o := .tup (xs ++ ys)) (fun b ob q => Heap.get?_push_of_some _ q) (Nat.le_refl _) ?_, rfl, q1 _ _ (same_new (I.hok.fresh (Nat.le_refl _)) _) (SqT.of upd_same) (fun _ _ => upd_same)⟩
      exact ⟨by rw [List.length_append]; exact hz, _, r1.append r2, IsTup.new _ _⟩
end
section
theorem bt_int : bootBuiltins "int" = some (.type "int") := by decide +kernel
theorem bt_bool : bootBuiltins "bool" = some (.type "bool") := by decide +kernel
theorem bt_str : bootBuiltins "str" = some (.type "str") := by decide +kernel
theorem bt_tuple : bootBuiltins "tuple" = some (.type "tuple") := by decide +kernel
theorem bt_len : bootBuiltins "len" = some (.builtin "len") := by decide +kernel
theorem bt_isinstance : bootBuiltins "isinstance" = some (.builtin "isinstance") := by decide +kernel
theorem bt_max : bootBuiltins "max" = some (.builtin "max") := by decide +kernel
theorem bt_min : bootBuiltins "min" = some (.builtin "min") := by decide +kernel
theorem bt_sum : bootBuiltins "sum" = some (.builtin "sum") := by decide +kernel
theorem bt_sorted : bootBuiltins "sorted" = some (.builtin "sorted") := by decide +kernel
end
section
variable {K : PySem.W.Frag}
theorem kit_int_int : PySem.W.kitOne K (.type "int") (.type "int") = some true := by kernel_rfl
theorem kit_int_bool : PySem.W.kitOne K (.type "int") (.type "bool") = some false := by kernel_rfl
theorem kit_str_str : PySem.W.kitOne K (.type "str") (.type "str") = some true := by kernel_rfl
end

/-! ### heaps: all kept but one -/
def Keep (p : Addr) (H H' : Hp) : Prop := ∀ b o, b ≠ p → H b = some o → H' b = some o
theorem Keep.refl (p : Addr) (H : Hp) : Keep p H H := fun _ _ _ h => h
theorem Keep.trans {p : Addr} {H H1 H2 : Hp} (a : Keep p H H1) (b : Keep p H1 H2) : Keep p H H2 := fun c o n h => b c o n (a c o n h)
theorem Keep.same {p : Addr} {H H' : Hp} (s : Same H H') : Keep p H H' := fun b o _ h => s b o h
theorem Keep.set (p : Addr) (H : Hp) (o : HO) : Keep p H (upd H p o) := fun b u n h => by rw [upd_ne n]; exact h
theorem Keep.new {p q : Addr} {H : Hp} (h : H q = none) (o : HO) : Keep p H (upd H q o) := .same (same_new h o)
theorem Same.seqT {K : PySem.W.Frag} {H H' : Hp} {a : Addr} {xs : List V} (e : Same H H') (h : SqT K H a xs) : SqT K H' a xs := by
  rcases h with (h | ⟨o, h⟩) | h
  · exact .inl (.inl (e _ _ h))
  · exact .inl (.inr ⟨o, e _ _ h⟩)
  · exact .inr h
theorem sz {n : Nat} (h : n ≤ 1000) : n ≤ sizeLine := Nat.le_of_lt (small1000 h)
theorem szb {n : Nat} (h : Nat.ble n 1000 = true) : n ≤ sizeLine := sz (Nat.le_of_ble_eq_true h)
theorem atI_ints {l : List Int} {i : Int} (h0 : 0 ≤ i) (h1 : i < (l.length : Int)) : ∃ v, v ∈ l ∧ atI (l.map V.int) i = some (.int v) := by
  have hk : i.toNat < l.length := by omega
  have ek : i = ((i.toNat : Nat) : Int) := by omega
  have q : atI (l.map V.int) ((i.toNat : Nat) : Int) = some (.int l[i.toNat]) := atI_nat (by rw [List.getElem?_map, List.getElem?_eq_getElem hk] <;> rfl)
  rw [← ek] at q
  exact ⟨l[i.toNat], List.getElem_mem hk, q⟩
end L2
/-! my own rules over the layer: a list comprehension whose element may change things -/
namespace L2
open PySem PySem.Spec PyProof.Rows

/-- the kinds of the names of a comprehension's block within a def of that scope -/
def relN (scope sc0 : Scope) : List (Str × NameKind) := scope.names.map fun (n, k) => if (k == .free && sc0.kind == .function && sc0.names.lookup n == some .cell) then (n, .cell) else (n, k)
def CellsIn (env : Env) : List (Str × Addr) → Prop
  | [] => True
  | (n, c) :: r => env.cells.lookup n = some c ∧ CellsIn env r
theorem CellsIn.look {env : Env} : ∀ {cl : List (Str × Addr)} {n : Str} {c : Addr}, CellsIn env cl → cl.lookup n = some c → env.cells.lookup n = some c
  | [], _, _, _, h => by cases h
  | (m, d) :: r, n, c, hc, h => by
    rw [List.lookup_cons] at h
    cases hx : n == m with
    | true =>
      rw [hx] at h
      cases h
      rw [eq_of_beq hx]
      exact hc.1
    | false =>
      rw [hx] at h
      exact CellsIn.look hc.2 h
theorem look_of_mem {cl : List (Str × Addr)} {n : Str} (h : n ∈ cl.map (·.1)) : ∃ c, cl.lookup n = some c := by
  induction cl with
  | nil => cases h
  | cons p r ih =>
    obtain ⟨m, d⟩ := p
    rw [List.lookup_cons]
    cases hx : n == m with
    | true => exact ⟨d, rfl⟩
    | false =>
      rcases List.mem_cons.mp h with e | e
      · have e' : n = m := e
        rw [e', beq_self_eq_true] at hx
        cases hx
      · exact ih e
structure CompOk (scope sc0 : Scope) (x : Str) (N cn : List Str) : Prop where
  has : ∀ p ∈ relN scope sc0, (p.2 = .cell ∨ p.2 = .free) → p.1 ∈ cn
  nc : ∀ p ∈ scope.names, p.2 ≠ .cell
  names : ∀ p ∈ scope.names, p.2 = .local → scope.names.lookup p.1 = some .local
  hx : scope.names.lookup x = some .local
  hx' : (relN scope sc0).lookup x = some .local
  nd : (x :: N).Nodup
  frs : ∀ y ∈ N, (relN scope sc0).lookup y = some .cell ∧ sc0.names.lookup y = some .cell ∧ y ∈ cn

/-- the context of a comprehension's block -/
def compCx (X : Cx) (scope : Scope) (cl : List (Str × Addr)) (C : Addr) (x : Str) (N : List Str) (s₂ : Shared) (H₂ : Hp) (fp : List Addr) : Cx where
  prog := X.prog
  w := X.w
  K := X.K
  mg := X.mg
  base := X.base
  A := X.A
  N := x :: N
  s₀ := s₂
  H₀ := H₂
  env := compEnvC scope cl C X.env
  outer := X.stack
  stack := X.stack
  ex := fp
  fn := fun _ => false
  calm := X.calm
  pn := []
  xe := fun _ _ => False

/-- the reading: W the invariant by the turn, a measure, the items so far -/
def tComp (wi : TI) (te : TE) (fr : List Nat) : TE := fun σ H Q => wi σ H fun J H1 => ∀ D, H1 D = none → ∃ W : Nat → Nat → List V → Hp → Prop, (∃ m, W 0 m [] (upd H1 D (.lst []))) ∧
  ∀ i m ys H2, W i m ys H2 → H2 D = some (.lst ys) ∧ ((J.stop i H2 ∧ Q (.ref D) H2) ∨ (J.go i H2 ∧ ys.length < sizeLine ∧ ∃ N : V → Hp → Prop, (∀ y H3, N y H3 → H3 D = some (.lst ys) ∧ ∃ m', m' < m ∧ W (i + 1) m' (ys ++ [y]) (upd H3 D (.lst (ys ++ [y])))) ∧
    ∀ x H', J.yld i H2 x H' → te (some x :: fr.map fun j => (σ[j]?).getD none) H' N))


theorem lookup_mem {α : Type} : ∀ {l : List (Str × α)} {x : Str} {a : α}, l.lookup x = some a → (x, a) ∈ l := fun h => PySem.mem_of_lookup h

abbrev nbOf (prog : Program) (w : World) (A : Around) (env : Env) (R : Result → Shared → Prop) : Value → Shared → Prop := notedBy (model prog w) A env fun e s' => R (.error e) s'
/-- tests of a comprehension -/
def PTs (X : Cx) (ifs : List Expr) (tt : TT) : Prop :=
  ∀ (pins : List (Addr × Obj)) (s : Shared) (σ : St) (H : Hp) (Q : Bool → Hp → Prop), Inv X pins σ H s → tt σ H Q →
    wpAny (model X.prog X.w) X.A (forIn ifs true fun c r => if r = true then do let ok ← isTrue c X.env (eval c X.env); pure (ForInStep.yield ok) else pure (ForInStep.yield r)) (TP X pins σ Q) X.xe s
theorem pts_nil {X : Cx} : PTs X [] (fun _ H Q => Q true H) := fun _ _ _ H _ I h => wpAny_tests_nil ⟨H, I, h⟩
theorem pts_one {X : Cx} {cc : Expr} {tt : TT} (h : PT X cc tt) : PTs X [cc] tt := fun pins s σ H Q I hw => wpAny_tests_one (h pins s σ H Q I hw)
structure CompOkG (scope sc0 : Scope) (N cn : List Str) : Prop where
  has : ∀ p ∈ relN scope sc0, (p.2 = .cell ∨ p.2 = .free) → p.1 ∈ cn
  nc : ∀ p ∈ scope.names, p.2 ≠ .cell
  names : ∀ p ∈ scope.names, p.2 = .local → scope.names.lookup p.1 = some .local
  frs : ∀ y ∈ N, (relN scope sc0).lookup y = some .cell ∧ sc0.names.lookup y = some .cell ∧ y ∈ cn
/-- the reading: any target, tests, what passes alone is kept -/
def tCompG (k : Nat) (wi : TI) (gt : TG) (tt : TT) (te : TE) (fr : List Nat) : TE := fun σ H Q => wi σ H fun J H1 => ∀ D, H1 D = none → ∃ W : Nat → Nat → List V → Hp → Prop, (∃ m, W 0 m [] (upd H1 D (.lst []))) ∧
  ∀ i m ys H2, W i m ys H2 → H2 D = some (.lst ys) ∧ ((J.stop i H2 ∧ Q (.ref D) H2) ∨ (J.go i H2 ∧ ys.length < sizeLine ∧ ∃ (N : V → Hp → Prop) (Z : Hp → Prop), (∀ y H3, N y H3 → H3 D = some (.lst ys) ∧ ∃ m', m' < m ∧ W (i + 1) m' (ys ++ [y]) (upd H3 D (.lst (ys ++ [y])))) ∧ (∀ H3, Z H3 → ∃ m', m' < m ∧ W (i + 1) m' ys H3) ∧
    ∀ x H', J.yld i H2 x H' → ∀ vs : St, vs.length = k → gt x (vs ++ fr.map fun j => (σ[j]?).getD none) H' fun σ' H3 => (∃ vs' : St, vs'.length = k ∧ σ' = vs' ++ fr.map fun j => (σ[j]?).getD none) ∧ tt σ' H3 fun b H4 => if b = true then te σ' H4 N else Z H4))
section
variable {prog : Program} {w : World} {A : Around} {R : Result → Shared → Prop} {s : Shared}
theorem compLoop_G {elt target iter : Expr} {ifs : List Expr} {scope : Scope} {pos : Pos} {it acc : Value} {env : Env} (I : Nat → Shared → Prop)
    (turn : ∀ n s, I n s → wpAny (model prog w) A (pyNext it) (fun r s₁ => match r with
      | none => R (.ok .next) s₁
      | some v => wpAny (model prog w) A (letOwnedTupleGo target it v) (fun _ s₁' => wpAny (model prog w) A (assign target env v) (fun _ s₂ =>
          wpAny (model prog w) A (forIn ifs true fun c r => if r = true then do let ok ← isTrue c env (eval c env); pure (ForInStep.yield ok) else pure (ForInStep.yield r)) (fun okb s₂' => if okb = true then
          wpAny (model prog w) A (eval elt env) (fun x s₃ => wpAny (model prog w) A (call (.builtin "list.append") [acc, x]) (fun _ s₄ => ∃ m, m < n ∧ I m s₄) (nbOf prog w A env R) s₃) (nbOf prog w A env R) s₂'
          else ∃ m, m < n ∧ I m s₂') (nbOf prog w A env R) s₂) (nbOf prog w A env R) s₁') (nbOf prog w A env R) s₁) (nbOf prog w A env R) s)
    (n : Nat) (h : I n s) :
    codeAny (model prog w) A (.compLoop (.ListComp elt [⟨target, iter, ifs, 0⟩] scope pos) 0 it acc env) R s := by
  refine codeAny_loop rfl I (fun n s hI => ?_) n h
  show wpAny _ _ ((compTurn (.ListComp elt [⟨target, iter, ifs, 0⟩] scope pos) 0 it acc env).onRaise (fun x => do noteFrame x env; theTreesLotGoes x)) _ _ s
  refine wpAny_noted ?_
  rw [compTurn_list]
  refine wpAny_bind (wpAny_standAt (wpAny_bind (wpAny_mono (turn n s hI) (fun r s₁ h₁ => ?_) fun _ _ h' => h')))
  cases r with
  | none => exact wpAny_pure h₁
  | some v =>
    refine wpAny_bind (wpAny_mono h₁ (fun _ s₁' h₁' => wpAny_bind (wpAny_mono h₁' (fun _ s₂ h₂ => wpAny_bind (wpAny_mono h₂ (fun okb s₂' h₂' => ?_) fun _ _ h' => h')) fun _ _ h' => h')) fun _ _ h' => h')
    cases okb with
    | false => exact wpAny_pure ⟨rfl, h₂'⟩
    | true => exact wpAny_bind (wpAny_bind (wpAny_mono h₂' (fun x s₃ h₃ => wpAny_bind (wpAny_mono h₃ (fun _ s₄ h₄ => wpAny_pure (wpAny_pure ⟨rfl, h₄⟩)) fun _ _ h' => h')) fun _ _ h' => h'))
end
theorem comp_coreG {X : Cx} {elt iter tg : Expr} {ifs : List Expr} {x : Str} {pos : Pos} {scope sc0 : Scope} {cl : List (Str × Addr)} {cn TN N : List Str} {fr : List Nat} {gt : TG} {tt : TT} {te : TE} {pins : List (Addr × Obj)} {σ : St} {H2 : Hp} {s2 : Shared} {it : Addr} {fp : List Addr}
    {tn : Nat → Heap → Prop} {J : It} {RR : Value → Addr → Result → Shared → Prop} {R : Hp → Prop} {E : Value → Shared → Prop} {W : Nat → Nat → List V → Hp → Prop} {m0 : Nat}
    (hc : X.calm = true) (he : ∀ (C : Addr) (s₂ : Shared) (H₂ : Hp) (fp : List Addr), PE (compCx X scope cl C x (TN ++ N) s₂ H₂ fp) elt te) (hct : ∀ (C : Addr) (s₂ : Shared) (H₂ : Hp) (fp : List Addr), PTs (compCx X scope cl C x (TN ++ N) s₂ H₂ fp) ifs tt) (hgt : ∀ (C : Addr) (s₂ : Shared) (H₂ : Hp) (fp : List Addr), PG (compCx X scope cl C x (TN ++ N) s₂ H₂ fp) tg gt)
    (hcl : CellsIn X.env cl) (hcn : cl.map (·.1) = cn) (hsc : X.env.scope = sc0) (hk : scope.kind = .function) (hok : CompOkG scope sc0 N cn) (hfr : fr.map (fun j => X.N[j]?) = N.map some)
    (I2 : Inv X pins σ H2 s2) (T : Turn X.prog X.w X.K tg J fp it tn) (st2 : tn 0 s2.heap) (f2 : ∀ b ∈ fp, FpOk X pins H2 b)
    (w0 : W 0 m0 [] (upd H2 s2.heap.objs.size (.lst [])))
    (turn : ∀ i m ys H, W i m ys H → H s2.heap.objs.size = some (.lst ys) ∧ ((J.stop i H ∧ R H) ∨ (J.go i H ∧ ys.length < sizeLine ∧ ∃ (N : V → Hp → Prop) (Z : Hp → Prop),
      (∀ y H3, N y H3 → H3 s2.heap.objs.size = some (.lst ys) ∧ ∃ m', m' < m ∧ W (i + 1) m' (ys ++ [y]) (upd H3 s2.heap.objs.size (.lst (ys ++ [y])))) ∧ (∀ H3, Z H3 → ∃ m', m' < m ∧ W (i + 1) m' ys H3) ∧
      ∀ x H', J.yld i H x H' → ∀ vs : St, vs.length = TN.length + 1 → gt x (vs ++ fr.map fun j => (σ[j]?).getD none) H' fun σ' H3 => (∃ vs' : St, vs'.length = TN.length + 1 ∧ σ' = vs' ++ fr.map fun j => (σ[j]?).getD none) ∧ tt σ' H3 fun b H4 => if b = true then te σ' H4 N else Z H4)))
    (hRR : ∀ (C : Addr) (H6 : Hp) (s6 : Shared) (m6 : Str → Option Value), s6.heap.Ns C m6 → Inv X pins σ H6 s6 → FpOk X pins H6 C → R H6 → RR (.ref s2.heap.objs.size) C (.ok .next) s6) :
    wpAny (model X.prog X.w) X.A (newList []) (fun acc s₃ => wpAny (model X.prog X.w) X.A (newFunctionEnv scope X.env.globals cl [] X.env.qual none .none (some X.env)) (fun cenv s₄ =>
      codeAny (model X.prog X.w) X.A (.compStart (.ListComp elt [⟨tg, iter, ifs, 0⟩] scope pos) 0 (.ref it) acc { cenv with scope := relabel scope X.env }) (RR acc cenv.locals) s₄) E s₃) E s2 := by
  refine wpAny_newObj_type (wpAny_newFunctionEnv hok.nc (by intro y hy; simp at hy) (fun h4 hns hsb => ?_) hk)
  dsimp only at hns hsb ⊢
  have rel : ∀ y, (compEnvC scope cl 0 X.env).scope.names.lookup y = (relN scope sc0).lookup y := fun y => by
    show (relabel scope X.env).names.lookup y = _
    unfold relabel relN Env.kindOf
    rw [hsc]
  generalize hD : s2.heap.objs.size = D at *
  have I3 : Inv X pins σ (upd H2 D (.lst [])) { s2 with heap := s2.heap.push { cls := .type "list", dict := none, data := .seq ([] : List Value).toArray } } :=
    I2.laid (t' := s2.toks) (fun b u e => Heap.get?_push_of_some _ e) (Nat.le_of_eq hD) ⟨Nat.zero_le _, [], 0, .nil, by rw [← hD]; exact Heap.get?_push_size _ rfl⟩
  have k23 : ∀ b u, s2.heap.get? b = some u → (s2.heap.push { cls := .type "list", dict := none, data := .seq ([] : List Value).toArray }).get? b = some u := fun b u e => Heap.get?_push_of_some _ e
  have hsz : s2.heap.objs.size ≤ (s2.heap.push { cls := .type "list", dict := none, data := .seq ([] : List Value).toArray }).objs.size := by rw [Heap.size_push]; exact Nat.le_succ _
  generalize hh3 : s2.heap.push { cls := .type "list", dict := none, data := .seq ([] : List Value).toArray } = h3 at *
  have k34 : ∀ b u, h3.get? b = some u → h4.get? b = some u := fun b u e => (hsb.2 b (Nat.ne_of_lt (Heap.lt_size e))).trans (Heap.get?_push_of_some _ e)
  generalize hC : h3.objs.size = C at *
  have I4 : Inv X pins σ (upd H2 D (.lst [])) { s2 with heap := h4, toks := s2.toks + ([] : List (Str × Value)).length } := I3.kept (t' := s2.toks + 0) k34
  generalize hH3 : upd H2 D (.lst []) = H3 at *
  have ltC : ∀ b o, s2.heap.get? b = some o → b < C := fun b o e => Nat.lt_of_lt_of_le (Heap.lt_size e) hsz
  have lenF : fr.length = N.length := by simpa using congrArg List.length hfr
  have fpo : ∀ b ∈ fp, b ≠ C ∧ b ∉ frs X.stack := fun b hb => by
    obtain ⟨o, e, _⟩ := T.obj 0 s2.heap st2 b hb
    refine ⟨Nat.ne_of_lt (ltC b o e), fun z => ?_⟩
    obtain ⟨_, n1, n2, _⟩ := f2 b hb
    rcases List.mem_cons.mp (I2.stkSub b z) with q | q
    · exact n1 q
    · exact n2 q
  have H3C : H3 C = none := I3.hok.fresh (Nat.le_of_eq hC)
  have okX : (compCx X scope cl C x (TN ++ N) { s2 with heap := h3 } H3 fp).Ok := by
    refine ⟨I2.ok.mod, hk, I2.ok.glob, I2.ok.blt, Nat.le_of_eq hC, fun y z c e1 e2 => I2.ok.inj y z c (hcl.look e1) (hcl.look e2), fun y hy => ?_, fun y c z => (Bool.false_ne_true z).elim, fun z => I2.ok.hd z, I2.ok.frames, .inl rfl,
      fun b hb => ⟨(fpo b hb).1, fun y c e => (f2 b hb).2.2.2.2.1 y c (hcl.look e)⟩, fun b o e => I3.bs b o e, Nat.le_trans I2.ok.bsz I3.sz, fun b o e hb => ?_, fun b hb => (fpo b hb).2, I3.stack, I3.stkFree⟩
    · have hy' : (relN scope sc0).lookup y = some .cell ∨ (relN scope sc0).lookup y = some .free := by
        rcases hy with hy | hy
        · exact .inl ((rel y).symm.trans hy)
        · exact .inr ((rel y).symm.trans hy)
      have hm : y ∈ cn := by
        rcases hy' with q | q
        · exact hok.has (y, .cell) (lookup_mem q) (.inl rfl)
        · exact hok.has (y, .free) (lookup_mem q) (.inr rfl)
      exact look_of_mem (cl := cl) (n := y) (by rw [hcn]; exact hm)
    · rcases (f2 b hb).2.2.2.1 with z | z
      · exact I2.ok.noex b o e z
      · exact absurd (Nat.lt_of_lt_of_le (Heap.lt_size e) (Nat.le_trans I2.ok.bsz z)) (Nat.lt_irrefl _)
  have I5 : Inv (compCx X scope cl C x (TN ++ N) { s2 with heap := h3 } H3 fp) [] (List.replicate (TN.length + 1) none ++ fr.map fun j => (σ[j]?).getD none) H3 { s2 with heap := h4, toks := s2.toks + ([] : List (Str × Value)).length } := by
    refine ⟨okX, rfl, I4.bare, Un.kept k34, ⟨_, hns, fun i y v e1 e2 e3 => ?_⟩, fun y c e => I4.cell y c (hcl.look e), H3C, fun y c e => I4.freeC y c (hcl.look e), fun p hp => absurd (show p ∈ ([] : List (Addr × Obj)) from hp) (by simp), I4.hok, by simp [compCx, lenF]; omega⟩
    by_cases hiT : i < TN.length + 1
    · exfalso
      rw [List.getElem?_append_left (by rw [List.length_replicate]; exact hiT), List.getElem?_replicate, if_pos hiT] at e2
      cases e2
    · obtain ⟨j, rfl⟩ : ∃ j, i = TN.length + 1 + j := ⟨i - (TN.length + 1), by omega⟩
      have e1' : N[j]? = some y := by
        have e1b : (x :: (TN ++ N))[TN.length + 1 + j]? = some y := e1
        rw [show TN.length + 1 + j = (TN.length + j) + 1 by omega, List.getElem?_cons_succ, List.getElem?_append_right (by omega), show TN.length + j - TN.length = j by omega] at e1b
        exact e1b
      have e2' : (fr.map fun j => (σ[j]?).getD none)[j]? = some (some v) := by
        rw [List.getElem?_append_right (by rw [List.length_replicate]; omega), List.length_replicate, show TN.length + 1 + j - (TN.length + 1) = j by omega] at e2
        exact e2
      obtain ⟨k, ek⟩ : ∃ k, fr[j]? = some k := by
        have : j < fr.length := by rw [lenF]; exact (List.getElem?_eq_some_iff.mp e1').1
        exact ⟨fr[j], List.getElem?_eq_getElem this⟩
      rw [List.getElem?_map, ek] at e2'
      have e2'' : (σ[k]?).getD none = some v := Option.some.inj e2'
      have eσ : σ[k]? = some (some v) := by
        cases q : σ[k]? with
        | none => rw [q] at e2''; cases e2''
        | some o => rw [q] at e2''; exact congrArg some e2''
      have eN : X.N[k]? = some y := by
        have z := congrArg (fun l => l[j]?) hfr
        simp only [List.getElem?_map, ek, e1', Option.map_some] at z
        exact Option.some.inj z
      obtain ⟨r1, r2, r3⟩ := hok.frs y (List.mem_of_getElem? e1')
      obtain ⟨m, _, hl⟩ := I4.loc
      obtain ⟨u, ru, look⟩ := hl k y v eN eσ (.inr (.inl (by rw [hsc]; exact r2)))
      refine ⟨u, ru, .inr ⟨.inl ((rel y).trans r1), ?_⟩⟩
      rcases look with ⟨l1, _⟩ | ⟨_, c, l1, l2⟩
      · exfalso
        have l1' : X.env.scope.names.lookup y = some .local := l1
        rw [hsc, r2] at l1'
        cases l1'
      · obtain ⟨c', l3⟩ := look_of_mem (cl := cl) (n := y) (by rw [hcn]; exact r3)
        have l4 := hcl.look l3
        rw [l1] at l4
        cases l4
        exact ⟨c, l3, l2⟩
  have st4 : tn 0 h4 := T.keep 0 s2.heap h4 st2 fun b hb o e => k34 b o (k23 b o e)
  have fp5 : ∀ {H' : Hp}, (∀ b ∈ fp, H' b = none) → ∀ b ∈ fp, FpOk (compCx X scope cl C x (TN ++ N) { s2 with heap := h3 } H3 fp) [] H' b := fun hn b hb =>
    ⟨hn b hb, (fpo b hb).1, (fpo b hb).2, .inl hb, fun y c e => (f2 b hb).2.2.2.2.1 y c (hcl.look e), fun p hp => absurd (show p ∈ ([] : List (Addr × Obj)) from hp) (by simp)⟩
  have fr3 : ∀ b ∈ fp, H3 b = none := fun b hb => by
    obtain ⟨o, e, _⟩ := T.obj 0 s2.heap st2 b hb
    have : b ≠ D := Nat.ne_of_lt (hD ▸ Heap.lt_size e)
    rw [← hH3, upd_ne this]
    exact (f2 b hb).1
  have fin : ∀ (H6 : Hp) (s6 : Shared) (σ6 : St), Inv (compCx X scope cl C x (TN ++ N) { s2 with heap := h3 } H3 fp) [] σ6 H6 s6 → Inv X pins σ H6 s6 ∧ FpOk X pins H6 C := by
    intro H6 s6 σ6 I6
    refine ⟨I3.call' (s' := s6) (ch := fp) I6.os ⟨I6.base.keep, I6.base.slot, I6.base.free, I6.base.there, I6.base.tups, I6.base.frzs, I6.base.tbls⟩ I6.hok I6.bare (fun b hb => ?_), I3.fpOk (Nat.le_of_eq hC) I6.free⟩
    obtain ⟨_, n1, _, n3, n4, n5⟩ := f2 b hb
    exact ⟨n3, n1, n4, n5⟩
  have loop : codeAny (model X.prog X.w) X.A (.compLoop (.ListComp elt [⟨tg, iter, ifs, 0⟩] scope pos) 0 (.ref it) (.ref D) (compEnvC scope cl C X.env))
      (RR (.ref D) C) { s2 with heap := h4, toks := s2.toks + ([] : List (Str × Value)).length } := by
    refine compLoop_G (fun n s' => ∃ (i : Nat) (vs : St) (ys : List V) (H' : Hp), vs.length = TN.length + 1 ∧ Inv (compCx X scope cl C x (TN ++ N) { s2 with heap := h3 } H3 fp) [] (vs ++ fr.map fun j => (σ[j]?).getD none) H' s' ∧ tn i s'.heap ∧ (∀ b ∈ fp, H' b = none) ∧ W i n ys H') ?_ m0
      ⟨0, List.replicate (TN.length + 1) none, [], H3, by simp, I5, st4, fr3, w0⟩
    rintro n s6 ⟨i, vs, ys, H6, hvs, I6, st6, fr6, w6⟩
    obtain ⟨hDl, hw⟩ := turn i n ys H6 w6
    rcases hw with ⟨stop, qn⟩ | ⟨go, hlen, N', Z', hN', hZ', step⟩
    · refine thn (T.done (compCx X scope cl C x (TN ++ N) { s2 with heap := h3 } H3 fp) rfl rfl rfl hc i [] s6 _ H6 _ I6 (fp5 fr6) st6 stop) fun r s7 ⟨hr, I7⟩ => ?_
      subst hr
      obtain ⟨m7, hn7, _⟩ := I7.loc
      obtain ⟨J7, F7⟩ := fin H6 s7 _ I7
      exact hRR C H6 s7 m7 hn7 J7 F7 qn
    · refine thn (T.item (compCx X scope cl C x (TN ++ N) { s2 with heap := h3 } H3 fp) rfl rfl rfl hc i [] s6 _ H6 _ I6 (fp5 fr6) st6 go) fun r s7 ⟨u, hr, h7⟩ => ?_
      subst hr
      refine thn h7 fun _ s8 ⟨x8, H8, I8, r8, y8, st8, fr8⟩ => ?_
      have I8' := I8.pinned (fp5 fr8) (T.obj _ _ st8)
      refine wpAny_mono (hgt C { s2 with heap := h3 } H3 fp _ s8 _ H8 x8 u _ I8' r8 (step x8 H8 y8 vs hvs)) (fun _ s9 h9 => ?_) fun _ _ z => False.elim z
      obtain ⟨σ9, H9a, I9, ⟨vs9, hl9, e9⟩, n9a⟩ := h9
      subst e9
      refine wpAny_mono (hct C { s2 with heap := h3 } H3 fp _ s9 _ H9a _ I9 n9a) (fun okb s9b h9b => ?_) fun _ _ z => False.elim z
      obtain ⟨H9, I9b, n9⟩ := h9b
      cases okb with
      | false =>
        rw [if_neg Bool.false_ne_true] at n9 ⊢
        obtain ⟨m', hm, w9⟩ := hZ' _ n9
        refine ⟨m', hm, i + 1, vs9, ys, _, hl9, I9b.unpinned, T.keep _ _ _ st8 fun b hb o e => (I9b.pin (b, o) (List.mem_append_right _ (List.mem_append_right _ (mem_pinsAt hb e)))).1, fun b hb => ?_, w9⟩
        obtain ⟨o, e, d⟩ := T.obj _ _ st8 b hb
        exact (I9b.pin (b, o) (List.mem_append_right _ (List.mem_append_right _ (mem_pinsAt hb e)))).2.1
      | true =>
        rw [if_pos rfl] at n9 ⊢
        refine wpAny_mono (he C { s2 with heap := h3 } H3 fp _ s9b _ H9 _ I9b n9) (fun y s10 h10 => ?_) fun _ _ z => False.elim z
        obtain ⟨y10, H10, I10, r10, n10⟩ := h10
        obtain ⟨hD10, m', hm, w10⟩ := hN' y10 H10 n10
        refine wpAny_mono (mt_append (X := compCx X scope cl C x (TN ++ N) { s2 with heap := h3 } H3 fp) _ s10 _ H10 (.ref D) [y10] (.ref D) [y] (fun _ H' => H' = upd H10 D (.lst (ys ++ [y10]))) I10 rfl (.cons r10 .nil) ⟨D, ys, y10, rfl, rfl, hD10, hlen, rfl⟩) (fun _ s11 h11 => ?_) fun _ _ z => False.elim z
        obtain ⟨_, H11, I11, _, e11⟩ := h11
        subst e11
        refine ⟨m', hm, i + 1, vs9, ys ++ [y10], _, hl9, I11.unpinned, T.keep _ _ _ st8 fun b hb o e => (I11.pin (b, o) (List.mem_append_right _ (List.mem_append_right _ (mem_pinsAt hb e)))).1, fun b hb => ?_, w10⟩
        obtain ⟨o, e, d⟩ := T.obj _ _ st8 b hb
        exact (I11.pin (b, o) (List.mem_append_right _ (List.mem_append_right _ (mem_pinsAt hb e)))).2.1
  exact codeAny_compStart_list loop (T.self _ 0 _ _ _ st4 loop)

theorem comp_lk {X : Cx} {scope sc0 : Scope} {cl : List (Str × Addr)} {C : Addr} {x : Str} (hsc : X.env.scope = sc0) (h : (relN scope sc0).lookup x = some .local) : (compEnvC scope cl C X.env).scope.names.lookup x = some .local := by
  show (relabel scope X.env).names.lookup x = _
  rw [← h]
  unfold relabel relN Env.kindOf
  rw [hsc]
theorem comp_core {X : Cx} {elt iter : Expr} {x : Str} {px pos : Pos} {scope sc0 : Scope} {cl : List (Str × Addr)} {cn N : List Str} {fr : List Nat} {te : TE} {pins : List (Addr × Obj)} {σ : St} {H2 : Hp} {s2 : Shared} {it : Addr} {fp : List Addr}
    {tn : Nat → Heap → Prop} {J : It} {RR : Value → Addr → Result → Shared → Prop} {R : Hp → Prop} {E : Value → Shared → Prop} {W : Nat → Nat → List V → Hp → Prop} {m0 : Nat}
    (hc : X.calm = true) (he : ∀ (C : Addr) (s₂ : Shared) (H₂ : Hp) (fp : List Addr), PE (compCx X scope cl C x N s₂ H₂ fp) elt te)
    (hcl : CellsIn X.env cl) (hcn : cl.map (·.1) = cn) (hsc : X.env.scope = sc0) (hk : scope.kind = .function) (hok : CompOk scope sc0 x N cn) (hfr : fr.map (fun j => X.N[j]?) = N.map some)
    (I2 : Inv X pins σ H2 s2) (T : Turn X.prog X.w X.K (.Name x px) J fp it tn) (st2 : tn 0 s2.heap) (f2 : ∀ b ∈ fp, FpOk X pins H2 b)
    (w0 : W 0 m0 [] (upd H2 s2.heap.objs.size (.lst [])))
    (turn : ∀ i m ys H, W i m ys H → H s2.heap.objs.size = some (.lst ys) ∧ ((J.stop i H ∧ R H) ∨ (J.go i H ∧ ys.length < sizeLine ∧ ∃ N : V → Hp → Prop,
      (∀ y H3, N y H3 → H3 s2.heap.objs.size = some (.lst ys) ∧ ∃ m', m' < m ∧ W (i + 1) m' (ys ++ [y]) (upd H3 s2.heap.objs.size (.lst (ys ++ [y])))) ∧
      ∀ x H', J.yld i H x H' → te (some x :: fr.map fun j => (σ[j]?).getD none) H' N)))
    (hRR : ∀ (C : Addr) (H6 : Hp) (s6 : Shared) (m6 : Str → Option Value), s6.heap.Ns C m6 → Inv X pins σ H6 s6 → FpOk X pins H6 C → R H6 → RR (.ref s2.heap.objs.size) C (.ok .next) s6) :
    wpAny (model X.prog X.w) X.A (newList []) (fun acc s₃ => wpAny (model X.prog X.w) X.A (newFunctionEnv scope X.env.globals cl [] X.env.qual none .none (some X.env)) (fun cenv s₄ =>
      codeAny (model X.prog X.w) X.A (.compStart (.ListComp elt [⟨.Name x px, iter, [], 0⟩] scope pos) 0 (.ref it) acc { cenv with scope := relabel scope X.env }) (RR acc cenv.locals) s₄) E s₃) E s2 := by
  refine comp_coreG (TN := []) (gt := gName 0) (tt := fun _ H Q => Q true H) hc he (fun _ _ _ _ => pts_nil) (fun _ _ _ _ => pg_name hok.nd rfl (.inl ?_) (.inr ?_)) hcl hcn hsc hk ⟨hok.has, hok.nc, hok.names, hok.frs⟩ hfr I2 T st2 f2 w0 (fun i m ys H h => ?_) hRR
  · exact comp_lk hsc hok.hx'
  · exact comp_lk hsc hok.hx'
  obtain ⟨a, b⟩ := turn i m ys H h
  refine ⟨a, ?_⟩
  rcases b with b | ⟨g, l, N, h1, h2⟩
  · exact .inl b
  refine .inr ⟨g, l, N, fun _ => False, h1, fun _ z => z.elim, fun x H' y vs hv => ?_⟩
  match vs, hv with
  | [v0], _ => exact ⟨⟨[some x], rfl, rfl⟩, iteT (h2 x H' y)⟩
theorem Inv.let_go {X : Cx} {pins : List (Addr × Obj)} {σ : St} {H : Hp} {s : Shared} {C : Addr} {h' : Heap} (I : Inv X pins σ H s) (F : FpOk X pins H C) (sb : Heap.SameBut C s.heap h') : Inv X pins σ H { s with heap := h' } := by
  obtain ⟨f0, f1, _, f3, f4, f5⟩ := F
  exact I.turned (t' := s.toks) (fun b o hb e => (sb.2 b hb).trans e) f0 f1 f3 f4 f5
theorem pe_comp {X : Cx} {elt iter : Expr} {x : Str} {px pos : Pos} {scope sc0 : Scope} {cl : List (Str × Addr)} {cn N : List Str} {fr : List Nat} {wi : TI} {te : TE}
    (hc : X.calm = true) (hi : PI X (.Name x px) iter wi) (he : ∀ (C : Addr) (s₂ : Shared) (H₂ : Hp) (fp : List Addr), PE (compCx X scope cl C x N s₂ H₂ fp) elt te)
    (hclos : closureFor scope X.env = pure cl) (hcl : CellsIn X.env cl) (hcn : cl.map (·.1) = cn) (hsc : X.env.scope = sc0) (hk : scope.kind = .function) (hok : CompOk scope sc0 x N cn)
    (hfr : fr.map (fun j => X.N[j]?) = N.map some) (hs : ∀ v, foldedSetIterable iter X.env v = pure v := by intro _; rfl) :
    PE X (.ListComp elt [⟨.Name x px, iter, [], 0⟩] scope pos) (tComp wi te fr) := by
  intro pins s σ H Q I h
  rw [eval_ListComp]
  refine wpAny_comprehension_free (use := none) rfl hs hclos hk hok.names (thn (hi pins s σ H _ I h) fun v s1 h1 => thn h1 fun itv s2 h2 => ?_)
  obtain ⟨it, fp, tn, J, H2, e, I2, T, st2, f2, hq⟩ := h2
  subst e
  obtain ⟨W, ⟨m0, w0⟩, turn⟩ := hq s2.heap.objs.size (I2.hok.fresh (Nat.le_refl _))
  exact comp_core (RR := fun acc C => compPost (model X.prog X.w) X.A X.xe none (EP X pins σ Q) acc C) (R := fun H6 => Q (.ref s2.heap.objs.size) H6) hc he hcl hcn hsc hk hok hfr I2 T st2 f2 w0 turn
    fun C H6 s6 m6 hn I6 F6 q => ⟨m6, hn, fun h' sb => ⟨.ref s2.heap.objs.size, H6, I6.let_go F6 sb, rfl, q⟩⟩
/-- y = [.. for x in ..], straight to a local name -/
def tSetComp (i : Nat) (wi : TI) (te : TE) (fr : List Nat) : TS := fun D σ H => tComp wi te fr σ H fun v H1 => D.nx (σ.set i (some v)) H1
theorem ps_setComp {X : Cx} {i : Nat} {y : Str} {py spos : Pos} {elt iter : Expr} {x : Str} {px pos : Pos} {scope sc0 : Scope} {cl : List (Str × Addr)} {cn N : List Str} {fr : List Nat} {wi : TI} {te : TE}
    (hN : X.N.Nodup) (hiN : X.N[i]? = some y) (hy : Loc X.env.scope y)
    (hc : X.calm = true) (hi : PI X (.Name x px) iter wi) (he : ∀ (C : Addr) (s₂ : Shared) (H₂ : Hp) (fp : List Addr), PE (compCx X scope cl C x N s₂ H₂ fp) elt te)
    (hclos : closureFor scope X.env = pure cl) (hcl : CellsIn X.env cl) (hcn : cl.map (·.1) = cn) (hsc : X.env.scope = sc0) (hk : scope.kind = .function) (hok : CompOk scope sc0 x N cn)
    (hfr : fr.map (fun j => X.N[j]?) = N.map some) (hsw : swapsWith (.ListComp elt [⟨.Name x px, iter, [], 0⟩] scope pos) (some (.Name y py)) spos.line X.env = pure true)
    (hf : X.fn y = true ∨ X.env.scope.names.lookup y = some .local) (hs : ∀ v, foldedSetIterable iter X.env v = pure v := by intro _; rfl) :
    PS X (.Assign [.Name y py] (.ListComp elt [⟨.Name x px, iter, [], 0⟩] scope pos) spos) (tSetComp i wi te fr) := by
  intro pins s σ H D I h
  rw [exec_Assign_Name_used _ _ _ _ hsw]
  refine wpAny_bind (wpAny_standAt (wpAny_bind ?_))
  show wpAny _ X.A (do let _ ← comprehension (.ListComp elt [⟨.Name x px, iter, [], 0⟩] scope pos) scope X.env _ (newList []) false (eval iter X.env) (some (assign (.Name y py) X.env))) _ _ s
  refine wpAny_bind (wpAny_mono (wpAny_comprehension_free (use := some (assign (.Name y py) X.env)) (Q := fun _ s' => SP X pins D .next s') rfl hs hclos hk hok.names
    (thn (hi pins s σ H _ I h) fun v s1 h1 => thn h1 fun itv s2 h2 => ?_)) (fun _ s' hq => wpAny_pure (wpAny_pure hq)) fun _ _ e => e)
  obtain ⟨it, fp, tn, J, H2, e, I2, T, st2, f2, hq⟩ := h2
  subst e
  obtain ⟨W, ⟨m0, w0⟩, turn⟩ := hq s2.heap.objs.size (I2.hok.fresh (Nat.le_refl _))
  refine comp_core (RR := fun acc C => compPost (model X.prog X.w) X.A X.xe (some (assign (.Name y py) X.env)) (fun _ s' => SP X pins D .next s') acc C) (R := fun H6 => D.nx (σ.set i (some (.ref s2.heap.objs.size))) H6) hc he hcl hcn hsc hk hok hfr I2 T st2 f2 w0 turn
    fun C H6 s6 m6 hn I6 F6 q => ?_
  show wpAny _ X.A (assign (.Name y py) X.env (.ref s2.heap.objs.size)) _ _ _
  refine wpAny_assign_Name (store_ok2 (v := .ref s2.heap.objs.size) I6 hN hiN hy rfl (fun s7 I7 ⟨a, sb, ha⟩ => ?_) hf)
  have neC : C ≠ a := by
    rcases ha with ha | ha
    · rw [ha]; exact F6.2.1
    · exact Ne.symm (F6.2.2.2.2.1 y a ha)
  exact ⟨m6, hn.sameBut sb neC, fun h' sb' => ⟨_, H6, I7.let_go F6 sb', q⟩⟩

/-- [.. for x in range(n)] -/
theorem comp_range {lo : Int} {n : Nat} {T : V → Hp → (V → Hp → Prop) → Prop} {D : Addr} {H1 : Hp} {R : Hp → Prop} (hn : n ≤ sizeLine) (Pv : Nat → List V → Hp → Prop) (h0 : Pv 0 [] (upd H1 D (.lst [])))
    (hD : ∀ i ys H, Pv i ys H → H D = some (.lst ys) ∧ ys.length = i)
    (hs : ∀ i ys H, i < n → Pv i ys H → T (.int (lo + i)) H fun y H3 => H3 D = some (.lst ys) ∧ Pv (i + 1) (ys ++ [y]) (upd H3 D (.lst (ys ++ [y]))))
    (hd : ∀ ys H, Pv n ys H → R H) :
    ∃ W : Nat → Nat → List V → Hp → Prop, (∃ m, W 0 m [] (upd H1 D (.lst []))) ∧
      ∀ i m ys H2, W i m ys H2 → H2 D = some (.lst ys) ∧ (((Itr lo n).stop i H2 ∧ R H2) ∨ ((Itr lo n).go i H2 ∧ ys.length < sizeLine ∧ ∃ N : V → Hp → Prop, (∀ y H3, N y H3 → H3 D = some (.lst ys) ∧ ∃ m', m' < m ∧ W (i + 1) m' (ys ++ [y]) (upd H3 D (.lst (ys ++ [y])))) ∧
        ∀ x H', (Itr lo n).yld i H2 x H' → T x H' N)) := by
  refine ⟨fun i m ys H => m = n - i ∧ i ≤ n ∧ Pv i ys H, ⟨n, by simp, Nat.zero_le _, h0⟩, ?_⟩
  rintro i m ys H2 ⟨rfl, hi, p⟩
  obtain ⟨d1, d2⟩ := hD i ys H2 p
  refine ⟨d1, ?_⟩
  by_cases hlt : i < n
  · refine .inr ⟨hlt, by omega, fun y H3 => H3 D = some (.lst ys) ∧ Pv (i + 1) (ys ++ [y]) (upd H3 D (.lst (ys ++ [y]))), fun y H3 ⟨z1, z2⟩ => ⟨z1, n - (i + 1), by omega, rfl, hlt, z2⟩, fun x H' y => ?_⟩
    obtain ⟨e, y⟩ := y
    subst e y
    exact hs i ys _ hlt p
  · have e : i = n := by omega
    subst e
    exact .inl ⟨Nat.le_refl _, hd ys H2 p⟩
/-- [.. for x in t], t a tuple that stays -/
theorem comp_tup {K : PySem.W.Frag} {a : Addr} {xs : List V} {T : V → Hp → (V → Hp → Prop) → Prop} {D : Addr} {H1 : Hp} {R : Hp → Prop} (hn : xs.length ≤ sizeLine) (Pv : Nat → List V → Hp → Prop) (h0 : Pv 0 [] (upd H1 D (.lst [])))
    (hl : ∀ i ys H, Pv i ys H → SqT K H a xs) (hD : ∀ i ys H, Pv i ys H → H D = some (.lst ys) ∧ ys.length = i)
    (hs : ∀ i x ys H, xs[i]? = some x → Pv i ys H → T x H fun y H3 => H3 D = some (.lst ys) ∧ Pv (i + 1) (ys ++ [y]) (upd H3 D (.lst (ys ++ [y]))))
    (hd : ∀ ys H, Pv xs.length ys H → R H) :
    ∃ W : Nat → Nat → List V → Hp → Prop, (∃ m, W 0 m [] (upd H1 D (.lst []))) ∧
      ∀ i m ys H2, W i m ys H2 → H2 D = some (.lst ys) ∧ (((Itt K a).stop i H2 ∧ R H2) ∨ ((Itt K a).go i H2 ∧ ys.length < sizeLine ∧ ∃ N : V → Hp → Prop, (∀ y H3, N y H3 → H3 D = some (.lst ys) ∧ ∃ m', m' < m ∧ W (i + 1) m' (ys ++ [y]) (upd H3 D (.lst (ys ++ [y])))) ∧
        ∀ x H', (Itt K a).yld i H2 x H' → T x H' N)) := by
  refine ⟨fun i m ys H => m = xs.length - i ∧ i ≤ xs.length ∧ Pv i ys H, ⟨xs.length, by simp, Nat.zero_le _, h0⟩, ?_⟩
  rintro i m ys H2 ⟨rfl, hi, p⟩
  obtain ⟨d1, d2⟩ := hD i ys H2 p
  have q := hl i ys H2 p
  refine ⟨d1, ?_⟩
  by_cases hlt : i < xs.length
  · refine .inr ⟨⟨xs, xs[i], q, by simp [hlt]⟩, by omega, fun y H3 => H3 D = some (.lst ys) ∧ Pv (i + 1) (ys ++ [y]) (upd H3 D (.lst (ys ++ [y]))), fun y H3 ⟨z1, z2⟩ => ⟨z1, xs.length - (i + 1), by omega, rfl, hlt, z2⟩, fun x H' y => ?_⟩
    obtain ⟨e, y⟩ := y
    subst e
    exact hs i x ys _ (y xs q) p
  · have e : i = xs.length := by omega
    subst e
    exact .inl ⟨⟨xs, q, Nat.le_refl _⟩, hd ys H2 p⟩
end L2
/-! my own rules over the layer: tuples known to the object: slices, the whole among them, and count -/
namespace HT
open PySem PySem.Spec PyProof.Rows
section
variable {prog : Program} {w : World} {A : Around} {E : Value → Shared → Prop} {s : Shared}
theorem getItem_tuple_all {t sl : Addr} {items : Array Value} {vl vu : Value} {lo hi : Option Int} {Q : Value → Shared → Prop} (ht : IsTup s.heap t items) (hs : s.heap.IsSliceOf sl vl vu .none) (pl : IsPart vl lo) (pu : IsPart vu hi)
    (h0 : sIx items.size 0 lo = 0) (h1 : sIx items.size items.size hi = items.size) (h : Q (.ref t) s) : wpAny (model prog w) A (getItem (.ref t) (.ref sl)) Q E s := by
  obtain ⟨os, hos, hcs, hds⟩ := id hs
  have hTs : s.TypeIs (.ref sl) "slice" := ⟨os, hos, hcs⟩
  have hT : s.TypeIs (.ref t) "tuple" := ht.typeIs
  unfold getItem
  try with_reducible refine wpAny_holding ?_
  first | refine wpAny_bind (wpAny_pure ?_) | skip
  refine wpAny_bind (wpAny_sequenceKey ht.typeIs (by decide) ?_)
  refine wpAny_bind (wpAny_callSpecial?_slot (name := Str.ofString "__getitem__") ht.typeIs PyProof.Rows.slot_tuple_getitem
    (wpAny_call_entry PyProof.Rows.slot_tuple_getitem ht.typeIs entry_tuple_getitem ?_ (args_tuple_getitem _ _)))
  show wpAny _ _ (Builtin.Tuple.tupleItemsOf (.ref t) >>= _) _ _ s
  refine wpAny_bind (tupleItemsOf_ ht ?_)
  refine wpAny_bind (wpAny_typeOf hTs ?_)
  rw [if_pos (by decide)]
  refine wpAny_bind (sliceApplied_gen hs pl pu ?_)
  have hyes : ((((sIx items.size 0 lo : Nat) : Int) == 0 && (1 : Int) == 1 && (sIx items.size items.size hi - sIx items.size 0 lo) == items.size) = true) := by
    rw [h0, h1]; simp
  show wpAny _ _ (if (((sIx items.size 0 lo : Nat) : Int) == 0 && (1 : Int) == 1 && (sIx items.size items.size hi - sIx items.size 0 lo) == items.size) = true then _ else _) _ _ s
  rw [if_pos hyes]
  first
    | exact wpAny_bind (wpAny_typeOf hT (wpAny_pure ⟨_, rfl, wpAny_pure h⟩))
    | exact wpAny_pure ⟨_, rfl, wpAny_pure h⟩
    | exact wpAny_bind (wpAny_pure ⟨_, rfl, wpAny_pure h⟩)
    | (wp_walk; exact ⟨_, rfl, wpAny_pure h⟩)
    | (wp_walk; exact ⟨_, rfl, h⟩)
end
end HT
namespace L2
open PySem PySem.Spec PyProof.Rows
/-- a tuple known to the object -/
def TupF (H : Hp) (a : Addr) (xs : List V) : Prop := ∃ o : Obj, H a = some (.frz o (.tup xs)) ∧ o.cls = .type "tuple" ∧ o.dict = none
theorem TupF.sq {K : PySem.W.Frag} {H : Hp} {a : Addr} {xs : List V} (h : TupF H a xs) : SqT K H a xs := by
  obtain ⟨o, h, _⟩ := h
  exact .inl (.inr ⟨o, h⟩)
theorem TupF.same {H H' : Hp} {a : Addr} {xs : List V} (h : TupF H a xs) (s : Same H H') : TupF H' a xs := by
  obtain ⟨o, h, c⟩ := h
  exact ⟨o, s _ _ h, c⟩
section
variable {X : Cx}
/-- tuple(xs) of a list -/
theorem call_tupleF : CallR X (.type "tuple") (fun xs H Q => ∃ p ys, xs = [.ref p] ∧ SqL X.K H p ys ∧ ∀ l H', Same H H' → TupF H' l ys → Q (.ref l) H') := by
  intro pins s σ H xs us Q I r h
  obtain ⟨p, ys, rfl, hq, q⟩ := h
  obtain ⟨u, rfl, rx⟩ := vals1 r
  cases rx
  obtain ⟨its, r', pl, hz⟩ := I.list hq
  have hlen := r'.length
  refine call_tuple_list pl.isList (fun h' kp => ?_) (by simp only [List.size_toArray] <;> omega)
  have I1 : Inv X pins σ H { s with heap := h' } := I.kept (t' := s.toks) kp
  have I2 : Inv X pins σ (upd H h'.objs.size (.frz { cls := .type "tuple", data := .seq its.toArray } (.tup ys))) { s with heap := h'.push { cls := .type "tuple", data := .seq its.toArray } } :=
    I1.laid (t' := s.toks) (fun b o e => Heap.get?_push_of_some _ e) (Nat.le_refl _) (show ObjOk X.prog X.w _ _ _ (.frz _ (.tup ys)) from ⟨Heap.get?_push_size _ rfl, hz, its, r', IsTup.new _ _⟩)
  exact ⟨.ref h'.objs.size, _, I2, rfl, q _ _ (same_new (I1.hok.fresh (Nat.le_refl _)) _) ⟨_, upd_same, rfl, rfl⟩⟩
theorem cutV_all {xs : List V} {lo hi : Option Int} (h0 : HT.sIx xs.length 0 lo = 0) (h1 : HT.sIx xs.length xs.length hi = xs.length) : cutV xs lo hi = xs := by
  unfold cutV
  rw [h0, h1, List.drop_zero, Nat.sub_zero, List.take_length]
/-- t[lo:hi], the whole too -/
theorem sl_tupF : SlR X (fun x lo hi H Q => ∃ a xs, x = .ref a ∧ TupF H a xs ∧ ∀ p H', Same H H' → TupF H' p (cutV xs lo hi) → Q (.ref p) H') := by
  intro pins s σ H x v vl vu lo hi sl Q I rx hs pl pu h
  obtain ⟨a, xs, rfl, hx, q⟩ := h
  cases rx
  obtain ⟨its, r, ht, hz⟩ := I.tuple (hx.sq (K := X.K))
  have hlen : its.toArray.size = xs.length := by rw [List.size_toArray]; exact r.length.symm
  refine ⟨"tuple", _, PyProof.Rows.slot_tuple_getitem.lookup, ht.typeIs, ?_⟩
  by_cases hw : HT.sIx xs.length 0 lo = 0 ∧ HT.sIx xs.length xs.length hi = xs.length
  · refine HT.getItem_tuple_all ht hs pl pu (by rw [hlen]; exact hw.1) (by rw [hlen]; exact hw.2) ⟨.ref a, H, I, rfl, q a H (Same.refl H) ?_⟩
    rw [cutV_all hw.1 hw.2]
    exact hx
  · refine HT.getItem_tuple_cut ht hs pl pu (by rw [hlen]; exact hw) ?_ (by rw [hlen]; exact hz)
    rw [hlen]
    refine ⟨.ref s.heap.objs.size, _, I.laid (t' := s.toks) (o := .frz { cls := .type "tuple", data := .seq ((its.toArray.toList.drop (HT.sIx xs.length 0 lo)).take (HT.sIx xs.length xs.length hi - HT.sIx xs.length 0 lo)).toArray } (.tup (cutV xs lo hi))) (fun b ob q => Heap.get?_push_of_some _ q) (Nat.le_refl _) ?_, rfl,
      q _ _ (same_new (I.hok.fresh (Nat.le_refl _)) _) ⟨_, upd_same, rfl, rfl⟩⟩
    exact ⟨Heap.get?_push_size _ rfl, Nat.le_trans (cutV_length xs lo hi) hz, _, (r.drop (HT.sIx xs.length 0 lo)).take (HT.sIx xs.length xs.length hi - HT.sIx xs.length 0 lo), IsTup.new _ _⟩
theorem countP_eqU {x : V} : ∀ {xs : List V} {us : List Value}, Vals xs us → xs.all flatV = true → us.countP (eqU x) = xs.countP fun y => eqV y x
  | _, _, .nil, _ => rfl
  | y :: xs, u :: us, .cons r t, f => by
    rw [List.all_cons, Bool.and_eq_true] at f
    rw [List.countP_cons, List.countP_cons, eqU_of r f.1, countP_eqU t f.2]
/-- t.count(x), flat things -/
theorem mt_countT : MtR X "tuple.count" (fun x xs H Q => ∃ a ys v, x = .ref a ∧ xs = [v] ∧ SqT X.K H a ys ∧ flatV v = true ∧ ys.all flatV = true ∧ Q (.int (ys.countP fun y => eqV y v : Nat)) H) := by
  intro pins s σ H x xs v us Q I rx rv h
  obtain ⟨a, ys, y, rfl, rfl, ha, f1, f2, q⟩ := h
  cases rx
  obtain ⟨u, rfl, ru⟩ := rv.one
  obtain ⟨its, r, p, hz⟩ := I.tuple ha
  obtain ⟨⟨cls, dd, data, sl⟩, ho, hc, n, hd⟩ := id p
  simp only at hc hd
  subst hc hd
  refine call_meets F.slot_tuple_count ⟨_, ho, rfl⟩ F.entry_tuple_count (F.args_tuple_count_2 _ _) (SeqAt.tuple_countAt a its.toArray n dd sl u (eqU y)) ⟨ho, fun z hz => mem_eqAt ru f1 r f2 z (by simpa using hz), ?_⟩
  refine ⟨.int (ys.countP fun y' => eqV y' y : Nat), H, I.tok _, ?_, q⟩
  rw [← countP_eqU r f2]
  exact ⟨_, rfl⟩
def tBMF (T : String) (r : V → List V → Hp → VK → Prop) (to : TE) (t : TA) : TE := fun σ H Q => to σ H fun x H1 => (∃ a o u, x = .ref a ∧ H1 a = some (.frz o u) ∧ o.cls = .type T ∧ o.dict = none) ∧ t σ H1 fun xs H2 => r x xs H2 Q
variable {o e : Expr} {es : List Expr} {to : TE} {t : TA} {name : Str} {apos cpos : Pos} {T id : String} {r : V → List V → Hp → VK → Prop}
/-- a method of a thing known to the object -/
theorem pe_bmF (pa : PlainAttrs T) (slot : Slot T name id) (hty : typeOf (.builtin id) = pure (.type "method_descriptor")) (hm : MtR X id r) (ho : PE X o to) (ha : PA X (e :: es) t)
    (hbase : attributeBase o name X.env (eval o X.env) = eval o X.env := by rfl)
    (hfew : ((backTo cpos (starEach (e :: es) X.env)).all (fun x => !x.1) && (backToKw cpos (keywordEach [] X.env)).all (fun x => x.1.isSome)
      && decide ((e :: es).length + ([] : List Keyword).length + (if ([] : List Keyword).isEmpty then 0 else 1) < 30)) = true := by rfl)
    (hline : (apos.endLine == cpos.line) = true := by rfl) (hs : starEach (e :: es) X.env = (false, eval e X.env) :: starEach es X.env := by rfl) (hplain : (backTo cpos (starEach es X.env)).any (·.1) = false := by rfl) :
    PE X (.Call (.Attribute o name apos) (e :: es) [] cpos) (tBMF T r to t) := by
  intro pins s σ H Q I h
  refine wpAny_Call_method_late hbase hfew hline rfl (thn (ho pins s σ H _ I h) fun v s1 ⟨x, H1, I1, r1, ty, q1⟩ => ?_)
  obtain ⟨a, ob, u, rfl, hH, hc, hd⟩ := ty
  cases r1
  obtain ⟨hg, _⟩ := I1.hok a _ hH
  refine ⟨T, id, pa, slot, hty, ⟨ob, hg, hc⟩, fun b eb => ?_, ?_⟩
  · cases eb
    exact ⟨ob, hg, hd⟩
  have hA := ha cpos pins s1 σ H1 _ I1 q1
  rw [hs] at hA ⊢
  refine Calls.callWith_builtin (by show (false || (backTo cpos (starEach es X.env)).any (·.1)) = false; rw [hplain] <;> rfl) (Calls.evalArgs_plain ?_)
  exact thn hA fun us s2 ⟨vs, H2, I2, r2, q2⟩ => hm pins s2 σ H2 (.ref a) vs (.ref a) us Q I2 rfl r2 q2
end
end L2
/-! my own rules over the layer: all(..) of a list of truths, xs != ys of lists of ints -/
namespace L2
open PySem PySem.Spec PyProof.Rows
section
variable {X : Cx}
/-- xs != ys of two lists of ints -/
theorem op_neL (hu : X.A.units + 64 < cLine) : OpR X (compareOp .NotEq) (fun x y H Q => ∃ (a b : Addr) (ns ms : List Int), x = .ref a ∧ y = .ref b ∧ SqL X.K H a (ns.map V.int) ∧ SqL X.K H b (ms.map V.int) ∧ Q (.bl (!decide (ns = ms))) H) := by
  intro pins s σ H x y v u Q I rx ry h
  obtain ⟨a, b, ns, ms, rfl, rfl, ha, hb, q⟩ := h
  cases rx
  cases ry
  obtain ⟨its, r1, p1, _⟩ := I.list ha
  obtain ⟨its2, r2, p2, _⟩ := I.list hb
  exact PySem.W.ke_ne_ints p1.isList p2.isList (intsAre_of r1) (intsAre_of r2) hu ⟨.bl _, H, I, rfl, q⟩
end
end L2
/-! exceptions: how one is noted, leaves a frame, lands -/
namespace L2
open PySem PySem.Spec PyProof.Rows

/-- an exception under way at x: its class, its own dict, its newest note at or above n, whose mark is fl -/
def Exc (n : Nat) (h : Heap) (x : Addr) (cls : Value) (dd : Option Addr) (fl : Value) : Prop :=
  ∃ (oe : Obj) (vs : Array Value) (T : Addr) (oT : Obj) (ts : Array Value), (h.get? x = some oe ∧ oe.cls = cls ∧ oe.dict = dd ∧ oe.data = .fields vs ∧ vs[1]? = some (.ref T)) ∧
    (n ≤ T ∧ T ≠ x) ∧ h.get? T = some oT ∧ oT.data = .fields ts ∧ ts[3]? = some fl
/-- what a note leaves as it was -/
structure Fly (n : Nat) (fs : List Addr) (x : Addr) (h h' : Heap) : Prop where
  keep : ∀ b o, h.get? b = some o → b < n → b ≠ x → b ∉ fs → h'.get? b = some o
  slot : ∀ b o, h.get? b = some o → b ∈ fs → ∃ sl, h'.get? b = some { o with slots := sl }
  there : ∀ b o, h.get? b = some o → ∃ o', h'.get? b = some o'
section
variable {n : Nat} {fs : List Addr} {x y : Addr} {h h1 h' : Heap}
end

section
variable {M : Model} {A : Around} {E : Value → Shared → Prop} {s : Shared} {base : Heap} {env : Env} {outer : List Env} {L x : Addr} {n : Nat} {Q : Unit → Shared → Prop}
end
end L2
/-! exceptions: what a caller knows of one that comes out of a call; raise -/
namespace L2
open PySem PySem.Spec PyProof.Rows
section
variable {P : Program} {w : World} {fs fs' : List Addr} {H₀ H : Hp} {h₀ h h' : Heap} {x : Addr} {n : Nat}
end

/-- an exception out of a call -/
structure Out (P : Program) (w : World) (outer : List Env) (H : Hp) (s : Shared) (x : Addr) (cls : Value) (dd : Option Addr) (n : Nat) (H' : Hp) (fl : Value) (s' : Shared) : Prop where
  os : s'.os = s.os
  bare : AllBare s'.gens
  un : Un (frs outer) [] H H' s.heap s'.heap
  hok : HOk P w H' s'.heap
  exc : Exc n s'.heap x cls dd fl
  free : H' x = none
  new : s.heap.get? x = none
  old : s.heap.objs.size ≤ n
  low : ∀ b u, H' b = some u → b < n
def CX1 (P : Program) (w : World) : CXT := fun outer H s E e s' => ∃ (x : Addr) (cls : Value) (dd : Option Addr) (n : Nat) (H' : Hp), e = .ref x ∧ Out P w outer H s x cls dd n H' .none s' ∧ E cls dd H'

section
variable {X : Cx} {pins : List (Addr × Obj)} {σ : St} {H H' : Hp} {s s' : Shared} {x : Addr} {cls fl : Value} {dd : Option Addr} {n : Nat}
/-- from inside the body: an exception under way, the invariant as it is -/
structure Away (X : Cx) (pins : List (Addr × Obj)) (σ : St) (H : Hp) (s : Shared) (x : Addr) (cls : Value) (dd : Option Addr) (n : Nat) (fl : Value) : Prop where
  inv : Inv X pins σ H s
  exc : Exc n s.heap x cls dd fl
  free : H x = none
  new : X.s₀.heap.get? x = none
  old : X.s₀.heap.objs.size ≤ n
  low : ∀ b u, H b = some u → b < n
  loc : X.env.locals < n
end
end L2
/-! exceptions: raise, and how one passes through a body -/
namespace L2
open PySem PySem.Spec PyProof.Rows
/-- a body whose exceptions leave by CX1 -/
structure Lv (X : Cx) (E : XK) : Prop where
  xe : X.xe = fun e s' => wpAny (model X.prog X.w) X.A (leaving X.env e) (fun _ s'' => CX1 X.prog X.w X.outer X.H₀ X.s₀ E e s'') (fun e' s'' => CX1 X.prog X.w X.outer X.H₀ X.s₀ E e' s'') s'
  ex : X.ex = []
  stack : X.stack = X.env :: X.outer
  frame : X.env.frame = some X.env.locals
  calm : X.calm = true
section
variable {X : Cx} {E : XK} {x : Str} {C : Addr} {e : Expr} {es : List Expr} {t : TA} {np cpos pos : Pos} {B nw it : String} {tl : List Value}
/-- what a body wants of its own exception -/
def tRaise (C : Addr) (E : XK) (t : TA) : TS := fun _ σ H => t σ H fun vs H1 => vs.length ≤ sizeLine ∧ E (.ref C) none H1
end
end L2
/-! exceptions: try f(..) except C as n; isinstance of what was caught -/
namespace L2
open PySem PySem.Spec PyProof.Rows

/-- what is known of a caught exception -/
def ExcO (x : Addr) (cls : Value) (dd : Option Addr) : HO := .ext fun h => ∃ o vs, h.get? x = some o ∧ o.cls = cls ∧ o.dict = dd ∧ o.data = .fields vs
section
variable {P : Program} {w : World} {fs : List Addr} {H H' : Hp} {h h' : Heap} {x : Addr} {o : HO}
end
/-- within an except suite -/
abbrev Cx.hand (X : Cx) (x : Addr) : Cx := { X with A := X.A.mark (some (.ref x)), calm := false, xe := fun _ _ => False }
section
variable {X : Cx} {pins : List (Addr × Obj)} {σ : St} {H : Hp} {s : Shared} {x : Addr}
end

section
variable {X : Cx} {k i : Nat} {f C2 : Addr} {fd : FuncData} {ps : List Str} {sp : Sp} {fx cx n : Str} {p p2 pos cpos epos hpos : Pos} {e : Expr} {es : List Expr} {t : TA} {b₀ : Stmt} {suite : List Stmt} {u : TS}
/-- the reading of try f(..) except C as n: suite -/
def tTry (K : PySem.W.Frag) (sp : Sp) (C2 : Addr) (i : Nat) (t : TA) (u : TS) : TS := fun D σ H => t σ H fun vs H1 => sp vs H1 (fun _ H2 => D.nx σ H2) fun cls dd H2 =>
  PySem.W.exmOne K cls (.ref C2) = some true ∧ ∀ x, H2 x = none → u { nx := fun σ' H' => D.nx (σ'.set i none) H', rt := D.rt, bk := fun σ' H' => D.bk (σ'.set i none) H', ct := fun σ' H' => D.ct (σ'.set i none) H' } (σ.set i (some (.ref x))) (upd H2 x (ExcO x cls dd))
end
end L2
/-! isinstance of a caught exception -/
namespace L2
open PySem PySem.Spec PyProof.Rows
/-- an own class of errors, as isinstance reads it -/
structure ECls (K : PySem.W.Frag) (C : Addr) : Prop where
  ga : PySem.W.findIn K (.ref C) "__getattribute__" = some (some (.builtin "BaseException.__getattribute__"))
  gh : PySem.W.findIn K (.ref C) "__getattr__" = some none
  sb : PySem.W.subIn K (.ref C) (.type "BaseException") = some true
  cl : PySem.W.isClsIn K C = true
  fi : PySem.W.findIn K (.ref C) "__class__" = some (some (.builtin "object.__class__"))
  sp : PySem.W.specialIn K (.builtin "object.__class__") "__get__" = some (some (.builtin "getset_descriptor.__get__"))
  tk : PySem.W.takesIn K (.builtin "object.__class__") = some true
  mr : PySem.W.mroIn K C (.type "object") = some true
section
variable {prog : Program} {w : World} {A : Around} {E : Value → Shared → Prop} {s : Shared} {K : PySem.W.Frag} {x C : Addr} {ox : Obj} {od : Option Obj}
end
/-- a caught exception of the class at C -/
def EAt (K : PySem.W.Frag) (H : Hp) (x C : Addr) : Prop := ECls K C ∧ ∃ dd, H x = some (ExcO x (.ref C) dd) ∧ ∀ dx, dd = some dx → ∃ o, H dx = some o
/-- a class as a value -/
inductive ClsV : V → Value → Prop where
  | own (D : Addr) : ClsV (.ref D) (.ref D)
  | ty (T : String) : ClsV (.ty T) (.type T)
section
variable {X : Cx}
end
end L2
/-! enumerate over a tuple -/
namespace L2
open PySem PySem.Spec PyProof.Rows
section
variable {prog : Program} {w : World} {A : Around} {E : Value → Shared → Prop} {s : Shared}
theorem nextT_item {ia tp : Addr} {i : Nat} {us : Array Value} {u : Value} {Q : Value → Shared → Prop} (a1 : s.heap.IsTupleIter ia tp i) (a2 : s.heap.IsTuple tp us) (a3 : us[i]? = some u)
    (k : ∀ h', h'.IsTupleIter ia tp (i + 1) → Heap.SameBut ia s.heap h' → Q u { s with heap := h' }) : wpAny (model prog w) A (Builtin.SmallTypes.nextOf (.ref ia)) Q E s := by
  obtain ⟨o, b1, b2, b3⟩ := id a1
  obtain ⟨ot, c1, _, nt, c2⟩ := a2
  unfold Builtin.SmallTypes.nextOf
  refine wpAny_bind (wpAny_callSpecial?_slot (name := Str.ofString "__next__") a1.typeIs F.slot_tuple_iterator_next (wpAny_call_entry F.slot_tuple_iterator_next a1.typeIs F.entry_tuple_iterator_next ?_ (F.args_tuple_iterator_next_1 _)))
  show wpAny _ _ (field (.ref ia) 0 >>= _) _ _ s
  refine wpAny_bind (wpAny_field b1 b3 (x := .ref tp) rfl ?_)
  show wpAny _ _ (if (Value.ref tp == Value.none) = true then _ else _) _ _ s
  rw [if_neg (show ¬ ((Value.ref tp == Value.none) = true) from Bool.false_ne_true)]
  show wpAny _ _ (field (.ref ia) 1 >>= _) _ _ s
  refine wpAny_bind (wpAny_field b1 b3 (x := .int i 0) rfl ?_)
  show wpAny _ _ (seqItems? (.ref tp) >>= _) _ _ s
  refine wpAny_bind (wpAny_seqItems c1 c2 ?_)
  simp only [Int.toNat_natCast, a3]
  refine wpAny_bind (wpAny_setField b1 b3 (by simp) (wpAny_pure ⟨u, rfl, wpAny_pure (k _ ?_ (Heap.SameBut.update ..))⟩))
  exact ⟨_, Heap.get?_update_self _ b1 (Obj.isFreed_of_fields (Obj.data_mapFields b3 _)), (Obj.cls_mapFields ..).trans b2, by rw [Obj.data_mapFields b3]; simp [rawInt]⟩
theorem nextT_end {ia tp : Addr} {i : Nat} {us : Array Value} {Q : Value → Shared → Prop} (hh : A.handled = none) (a1 : s.heap.IsTupleIter ia tp i) (a2 : s.heap.IsTuple tp us) (a3 : us[i]? = none)
    (k : ∀ h' x, Heap.ExtBut ia s.heap h' → (∃ o, h'.get? x = some o ∧ o.cls = .type "StopIteration") → E (.ref x) { s with heap := h' }) : wpAny (model prog w) A (Builtin.SmallTypes.nextOf (.ref ia)) Q E s := by
  obtain ⟨o, b1, b2, b3⟩ := id a1
  obtain ⟨ot, c1, _, nt, c2⟩ := a2
  unfold Builtin.SmallTypes.nextOf
  refine wpAny_bind (wpAny_callSpecial?_slot (name := Str.ofString "__next__") a1.typeIs F.slot_tuple_iterator_next (wpAny_call_entry F.slot_tuple_iterator_next a1.typeIs F.entry_tuple_iterator_next ?_ (F.args_tuple_iterator_next_1 _)))
  show wpAny _ _ (field (.ref ia) 0 >>= _) _ _ s
  refine wpAny_bind (wpAny_field b1 b3 (x := .ref tp) rfl ?_)
  show wpAny _ _ (if (Value.ref tp == Value.none) = true then _ else _) _ _ s
  rw [if_neg (show ¬ ((Value.ref tp == Value.none) = true) from Bool.false_ne_true)]
  show wpAny _ _ (field (.ref ia) 1 >>= _) _ _ s
  refine wpAny_bind (wpAny_field b1 b3 (x := .int i 0) rfl ?_)
  show wpAny _ _ (seqItems? (.ref tp) >>= _) _ _ s
  refine wpAny_bind (wpAny_seqItems c1 c2 ?_)
  simp only [Int.toNat_natCast, a3]
  refine wpAny_bind (wpAny_rule (wpAny_bind (wpAny_setField b1 b3 (by simp) ?_)))
  show wpAny _ _ (newExc (.type "StopIteration") [] >>= fun _ => _) _ _ _
  refine wpAny_bind ?_
  simp only [newExc, newTuple]
  refine wpAny_bind (wpAny_newObj_type ?_ (by size_fits))
  refine wpAny_bind (m := firstArgMember _ _) (wpAny_of_eq (a := Value.none) (by first | rfl | simp [firstArgMember]) (wpAny_newObj_type ?_ (by size_fits)))
  simp only [raiseNew]
  refine wpAny_bind (wpAny_handled ?_)
  first | rw [show A.in1.handled = none from hh] | (rw [hh]; skip)
  exact wpAny_bind (wpAny_pure (wpAny_throw (k _ _ (((Heap.SameBut.update ..).extBut.push _).push _) ⟨_, Heap.get?_push_size _ rfl, rfl⟩)))
/-- one turn of an enumerate -/
theorem enumT_item {en ia tp : Addr} {i : Nat} {us : Array Value} {u was : Value} {Q : Option Value → Shared → Prop} (e0 : IsEnum s.heap en ia i was) (a1 : s.heap.IsTupleIter ia tp i) (a2 : s.heap.IsTuple tp us) (a3 : us[i]? = some u) (ne : en ≠ ia)
    (k : ∀ h', IsEnumOut h' en ia ((i : Int) + 1) u s.heap.objs.size → h'.IsTupleIter ia tp (i + 1) → h'.get? s.heap.objs.size = some { cls := .type "tuple", data := .seq #[.int i s.toks, u] } →
      (∀ b o, b ≠ en → b ≠ ia → s.heap.get? b = some o → h'.get? b = some o) → Q (some (.ref s.heap.objs.size)) { s with heap := h', toks := s.toks + 1 }) :
    wpAny (model prog w) A (pyNext (.ref en)) Q E s := by
  have ty : s.TypeIs (.ref en) "enumerate" := ⟨_, e0, rfl⟩
  unfold pyNext
  refine wpAny_bind (wpAny_attempt (wpAny_callSpecial?_slot (name := Str.ofString "__next__") ty F.slot_enumerate_next (wpAny_call_entry F.slot_enumerate_next ty F.entry_enumerate_next ?_ (F.args_enumerate_next_1 _))))
  obtain ⟨h0, g, d, tk, os⟩ := s
  show wpAny _ _ (field (.ref en) 2 >>= _) _ _ _
  refine wpAny_bind (wpAny_field e0 rfl (x := .ref ia) rfl (wpAny_bind (nextT_item a1 a2 a3 fun h1 n1 s1 => ?_)))
  replace s1 : Heap.SameBut ia h0 h1 := s1
  have e1 : IsEnum h1 en ia i was := (s1.2 en ne).trans e0
  show wpAny _ _ (field (.ref en) 3 >>= _) _ _ ⟨h1, g, d, tk, os⟩
  refine wpAny_bind (wpAny_field e1 rfl (x := rawInt i) rfl ?_)
  show wpAny _ _ (field (.ref en) 4 >>= _) _ _ ⟨h1, g, d, tk, os⟩
  refine wpAny_bind (wpAny_field e1 rfl (x := .none) rfl ?_)
  show wpAny _ _ (mkInt i >>= _) _ _ ⟨h1, g, d, tk, os⟩
  refine wpAny_bind (wpAny_mkInt ?_)
  show wpAny _ _ (setField (.ref en) 3 (rawInt ((i : Int) + 1)) >>= _) _ _ ⟨h1, g, d, tk + 1, os⟩
  refine wpAny_bind (wpAny_setField_rec e1 (by simp) fun h2 e2 s2 => ?_)
  replace s2 : Heap.SameBut en h1 h2 := s2
  replace e2 : IsEnum h2 en ia ((i : Int) + 1) was := e2
  show wpAny _ _ (setField (.ref en) 4 .none >>= _) _ _ ⟨h2, g, d, tk + 1, os⟩
  refine wpAny_bind (wpAny_setField_rec e2 (by simp) fun h3 e3 s3 => ?_)
  replace s3 : Heap.SameBut en h2 h3 := s3
  replace e3 : IsEnum h3 en ia ((i : Int) + 1) was := e3
  show wpAny _ _ (newTuple [.int i tk, u] >>= _) _ _ ⟨h3, g, d, tk + 1, os⟩
  refine wpAny_bind (wpAny_newTuple ?_)
  have z3 : h3.objs.size = h0.objs.size := by rw [s3.1, s2.1, s1.1]
  have l0 : en < h0.objs.size := Heap.lt_size e0
  have ni : ia ≠ en := Ne.symm ne
  generalize hh4 : h3.push { cls := .type "tuple", data := .seq #[.int i tk, u] } = h4
  have e4 : IsEnum h4 en ia ((i : Int) + 1) was := by rw [← hh4]; exact Heap.get?_push_of_some _ e3
  have t4 : h4.get? h0.objs.size = some { cls := .type "tuple", data := .seq #[.int i tk, u] } := by rw [← hh4, ← z3]; exact Heap.get?_push_size _ rfl
  have k4 : ∀ b o, b ≠ en → b ≠ ia → h0.get? b = some o → h4.get? b = some o := fun b o m1 m2 q => by
    rw [← hh4]
    exact Heap.get?_push_of_some _ (s3.extBut b o m1 (s2.extBut b o m1 (s1.extBut b o m2 q)))
  have n4 : h4.IsTupleIter ia tp (i + 1) := by
    rw [← hh4]
    obtain ⟨o, q, r⟩ := (n1.extBut s2.extBut ni).extBut s3.extBut ni
    exact ⟨o, Heap.get?_push_of_some _ q, r⟩
  show wpAny _ _ (Builtin.SmallTypes.ownedTupleIsFree (.ref en) >>= _) _ _ ⟨h4, g, d, tk + 1, os⟩
  rw [z3]
  clear hh4
  refine wpAny_bind ?_
  unfold Builtin.SmallTypes.ownedTupleIsFree
  refine wpAny_bind (wpAny_field e4 rfl (x := .none) rfl (wpAny_pure ?_))
  simp only [if_true]
  refine wpAny_bind (wpAny_rule (wpAny_bind (wpAny_field e4 rfl (x := was) rfl (wpAny_bind (wpAny_setField_rec e4 (by simp) fun h5 e5 s5 => ?_)))))
  replace s5 : Heap.SameBut en h4 h5 := s5
  replace e5 : IsEnum h5 en ia ((i : Int) + 1) u := e5
  show wpAny _ _ (Builtin.SmallTypes.ownedTupleHandOut (.ref en) (.ref h0.objs.size) >>= _) _ _ ⟨h5, g, d, tk + 1, os⟩
  refine wpAny_bind ?_
  unfold Builtin.SmallTypes.ownedTupleHandOut
  refine wpAny_bind (wpAny_setField_rec e5 (by simp) fun h6 e6 s6 => ?_)
  replace s6 : Heap.SameBut en h5 h6 := s6
  replace e6 : IsEnumOut h6 en ia ((i : Int) + 1) u h0.objs.size := e6
  refine wpAny_setField_rec e6 (by simp) fun h7 e7 s7 => ?_
  replace s7 : Heap.SameBut en h6 h7 := s7
  replace e7 : IsEnumOut h7 en ia ((i : Int) + 1) u h0.objs.size := e7
  have up : ∀ b o, b ≠ en → h4.get? b = some o → h7.get? b = some o := fun b o m q => s7.extBut b o m (s6.extBut b o m (s5.extBut b o m q))
  refine wpAny_bind (wpAny_letGo (wpAny_pure ⟨_, rfl, wpAny_pure (k h7 e7 ?_ (up _ _ (Nat.ne_of_gt l0) t4) fun b o m1 m2 q => up b o m1 (k4 b o m1 m2 q))⟩))
  obtain ⟨o, q, r⟩ := n4
  exact ⟨o, up _ _ ni q, r⟩
theorem enumT_end {en ia tp : Addr} {i : Nat} {us : Array Value} {was : Value} {Q : Option Value → Shared → Prop} (hh : A.handled = none) (e0 : IsEnum s.heap en ia i was) (a1 : s.heap.IsTupleIter ia tp i) (a2 : s.heap.IsTuple tp us) (a3 : us[i]? = none)
    (k : ∀ h', Heap.ExtBut ia s.heap h' → Q none { s with heap := h' }) : wpAny (model prog w) A (pyNext (.ref en)) Q E s := by
  have ty : s.TypeIs (.ref en) "enumerate" := ⟨_, e0, rfl⟩
  unfold pyNext
  refine wpAny_bind (wpAny_attempt (wpAny_callSpecial?_slot (name := Str.ofString "__next__") ty F.slot_enumerate_next (wpAny_call_entry F.slot_enumerate_next ty F.entry_enumerate_next ?_ (F.args_enumerate_next_1 _))))
  show wpAny _ _ (field (.ref en) 2 >>= _) _ _ _
  refine wpAny_bind (wpAny_field e0 rfl (x := .ref ia) rfl (wpAny_bind (nextT_end hh a1 a2 a3 fun h' x q1 q2 => ?_)))
  obtain ⟨o, o1, o2⟩ := q2
  exact wpAny_bind (wpAny_isInstance (T := "StopIteration") (b := true) ⟨o, o1, o2⟩ isSubtype_stop (wpAny_pure (k _ q1)))
end
end L2
/-! for a, b in enumerate(a tuple) -/
namespace L2
open PySem PySem.Spec PyProof.Rows
/-- the pairs (0, x0), (1, x1), .. of the tuple at a -/
def Ite (K : PySem.W.Frag) (a : Addr) : It :=
  ⟨fun i H => ∃ xs x, SqT K H a xs ∧ xs[i]? = some x, fun i H x H' => ∃ p y, x = .ref p ∧ H p = none ∧ H' = upd H p (.tup [.int i, y]) ∧ ∀ xs, SqT K H a xs → xs[i]? = some y, fun i H => ∃ xs, SqT K H a xs ∧ xs.length ≤ i⟩
theorem two_small : 2 ≤ sizeLine := szb rfl
theorem turn_enumT {P : Program} {w : World} {K : PySem.W.Frag} {es : List Expr} {x1 : Nat} {pos : Pos} (a en ia : Addr) (ne : en ≠ ia) :
    Turn P w K (.Tuple es x1 pos) (Ite K a) [en, ia] en (fun i h => (∃ was, IsEnum h en ia (i : Nat) was) ∧ h.IsTupleIter ia a i) where
  mem := by simp
  obj := fun i h st b hb => by
    obtain ⟨⟨was, q1⟩, o, q2, q3, q4⟩ := st
    rcases List.mem_cons.mp hb with z | z
    · subst z
      exact ⟨_, q1, fun v y => by cases y⟩
    · have z' : b = ia := by simpa using z
      subst z'
      exact ⟨o, q2, fun v y => by rw [q4] at y; cases y⟩
  keep := fun i h h' st k => by
    obtain ⟨⟨was, q1⟩, o, q2, q3⟩ := st
    exact ⟨⟨was, k en (by simp) _ q1⟩, o, k ia (by simp) _ q2, q3⟩
  item := by
    intro X hP hw hK hc i pins s σ H E I hf st hg
    subst hP hw hK
    obtain ⟨⟨was, q1⟩, q2⟩ := st
    obtain ⟨xs, x, hq, hx⟩ := hg
    obtain ⟨its, rv, p, hz⟩ := I.tuple hq
    obtain ⟨u, hu, ru⟩ := rv.get hx
    refine enumT_item q1 q2 (show s.heap.IsTuple a its.toArray from p) (u := u) (by simpa using hu) ne fun h1 e1 n1 t1 k1 => ⟨_, rfl, ?_⟩
    refine wpAny_letOwnedTupleGo_enum e1 fun h2 e2 s2 => ?_
    replace s2 : Heap.SameBut en h1 h2 := s2
    have len : en < s.heap.objs.size := Heap.lt_size q1
    have t2 : h2.get? s.heap.objs.size = some { cls := .type "tuple", data := .seq #[.int i s.toks, u] } := (s2.2 _ (Nat.ne_of_gt len)).trans t1
    have kk : ∀ b o, b ≠ en → b ≠ ia → s.heap.get? b = some o → h2.get? b = some o := fun b o m1 m2 q => (s2.2 b m1).trans (k1 b o m1 m2 q)
    have fr : H s.heap.objs.size = none := I.hok.fresh (Nat.le_refl _)
    have f1 := hf en (by simp)
    have f2 := hf ia (by simp)
    have neq : ∀ b, H b ≠ none → b ≠ en ∧ b ≠ ia := fun b m => ⟨fun z => m (z ▸ f1.1), fun z => m (z ▸ f2.1)⟩
    have un : Un (frs X.stack) [en, ia] H (upd H s.heap.objs.size (.tup [.int i, x])) s.heap h2 := by
      have nn : ∀ b, b ∉ [en, ia] → b ≠ en ∧ b ≠ ia := fun b m => ⟨fun z => m (by simp [z]), fun z => m (by simp [z])⟩
      have np : ∀ b o, s.heap.get? b = some o → b ≠ s.heap.objs.size := fun b o q => Nat.ne_of_lt (Heap.lt_size q)
      exact ⟨fun b o q _ _ m => kk b o (nn b m).1 (nn b m).2 q, fun b o q _ _ m => ⟨o.slots, kk b o (nn b m).1 (nn b m).2 q⟩, fun b o q m _ => by rw [upd_ne (np b o q)]; exact m, fun b o q m => ⟨o, kk b o (nn b m).1 (nn b m).2 q⟩,
        fun b ys q => by rw [upd_ne (ne_of_none q fr)]; exact q, fun b o v q => by rw [upd_ne (ne_of_none q fr)]; exact q, fun b ps q => ⟨#[], by rw [upd_ne (ne_of_none q fr), q]; simp⟩⟩
    have hok : HOk X.prog X.w (upd H s.heap.objs.size (.tup [.int i, x])) h2 := fun b ob e => by
      by_cases hb : b = s.heap.objs.size
      · subst hb
        rw [upd_same] at e
        cases e
        exact ⟨two_small, [.int i s.toks, u], .cons ⟨_, rfl⟩ (.cons ru .nil), ⟨_, t2, rfl, _, rfl⟩⟩
      · rw [upd_ne hb] at e
        refine (I.hok b ob e).stay (fun c v z q => ?_) (fun c q => by rw [upd_ne (ne_of_none q fr)]; exact q) fun c ys q => by rw [upd_ne (ne_of_none q fr)]; exact q
        have m : H c ≠ none := by
          rcases z with rfl | z
          · rw [e]; exact fun y => nomatch y
          · rw [z]; exact fun y => nomatch y
        exact kk c v (neq c m).1 (neq c m).2 q
    have J : Inv X pins σ (upd H s.heap.objs.size (.tup [.int i, x])) { s with heap := h2, toks := s.toks + 1 } := by
      refine I.call' (s' := { s with heap := h2, toks := s.toks + 1 }) (ch := [en, ia]) rfl un hok I.bare fun b hb => ?_
      rcases List.mem_cons.mp hb with z | z
      · subst z
        exact ⟨f1.2.2.2.1, f1.2.1, f1.2.2.2.2.1, f1.2.2.2.2.2⟩
      · have z' : b = ia := by simpa using z
        subst z'
        exact ⟨f2.2.2.2.1, f2.2.1, f2.2.2.2.2.1, f2.2.2.2.2.2⟩
    refine ⟨.ref s.heap.objs.size, _, J, rfl, ⟨s.heap.objs.size, x, rfl, fr, rfl, fun ys hy => by rw [I.tuple_inj hy hq]; exact hx⟩, ⟨⟨u, ?_⟩, ?_⟩, fun b hb => ?_⟩
    · have : ((i + 1 : Nat) : Int) = (i : Int) + 1 := by omega
      rw [this]
      exact e2
    · obtain ⟨o, q, r⟩ := n1
      exact ⟨o, (s2.2 ia (Ne.symm ne)).trans q, r⟩
    · have hb' : b = en ∨ b = ia := by simpa using hb
      have lb : b < s.heap.objs.size := by
        rcases hb' with z | z
        · rw [z]; exact len
        · obtain ⟨o, q, _⟩ := q2
          rw [z]; exact Heap.lt_size q
      rw [upd_ne (Nat.ne_of_lt lb)]
      exact (hf b hb).1
  done := by
    intro X hP hw hK hc i pins s σ H E I hf st hg
    subst hP hw hK
    obtain ⟨⟨was, q1⟩, q2⟩ := st
    obtain ⟨xs, hq, hx⟩ := hg
    obtain ⟨its, rv, p, hz⟩ := I.tuple hq
    obtain ⟨f0, f1, f2, f3, f4, f5⟩ := hf ia (by simp)
    have hl := rv.length
    exact enumT_end (I.ok.hd hc) q1 q2 (show s.heap.IsTuple a its.toArray from p) (by simp; omega) fun h' eb => ⟨rfl, I.turned (t' := s.toks) (fun b o hb e => eb b o hb e) f0 f1 f3 f4 f5⟩
  self := fun _ _ _ _ _ st h => by
    obtain ⟨⟨was, q1⟩, _⟩ := st
    exact wpAny_pyIter_enum q1 h

theorem enum_newT (tp : Addr) (us : Array Value) (n : Nat) (dct : Option Addr) (sl : Array (Option Value)) :
    Meets (Builtin.«enumerate.__new__» ⟨[.type "enumerate", .ref tp], []⟩) (fun _ R s => s.heap.get? tp = some { cls := .type "tuple", dict := dct, data := .seq us n, slots := sl } ∧
      R (.ok (.ret (.ref (s.heap.push { cls := .type "tuple_iterator", data := .fields #[.ref tp, .int 0 0] }).objs.size)))
        { s with heap := (s.heap.push { cls := .type "tuple_iterator", data := .fields #[.ref tp, .int 0 0] }).push { cls := .type "enumerate", data := .fields #[.none, .bool false, .ref s.heap.objs.size, rawInt 0, .none, .none] } }) :=
  .of_wp fun prog w A R s z => by
    obtain ⟨hp, g, d, tk, os⟩ := s
    obtain ⟨z1, z2⟩ := z
    have sb := sub_enumerate
    have T : Heap.IsTuple (Shared.heap ⟨hp, g, d, tk, os⟩) tp us := ⟨_, z1, rfl, n, rfl⟩
    wp_walk using AutoSeq1.wpAny_loadPart' z1
    refine wpAny_stack_any fun st => wpAny_pure ?_
    split
    · rename_i c _ _ _ _ _
      cases (c == Value.type "enumerate")
      all_goals
        wp_walk using AutoSeq1.wpAny_loadPart' z1, wpAny_pyIter_tuple T
        exact ⟨_, rfl, z2⟩
    · wp_walk using AutoSeq1.wpAny_loadPart' z1, wpAny_pyIter_tuple T
      exact ⟨_, rfl, z2⟩
section
variable {prog : Program} {w : World} {A : Around} {E : Value → Shared → Prop} {s : Shared}
theorem call_enumT {tp : Addr} {us : Array Value} {Q : Value → Shared → Prop} (T : s.heap.IsTuple tp us)
    (k : ∀ h', IsEnum h' (s.heap.objs.size + 1) s.heap.objs.size 0 .none → h'.IsTupleIter s.heap.objs.size tp 0 → (∀ b o, s.heap.get? b = some o → h'.get? b = some o) → Q (.ref (s.heap.objs.size + 1)) { s with heap := h' }) :
    wpAny (model prog w) A (call (.type "enumerate") [.ref tp]) Q E s := by
  obtain ⟨⟨c, dct, dt, sl⟩, z1, z2, n, z3⟩ := T
  simp only at z2 z3
  subst z2 z3
  refine callType_new F.called_enumerate (by decide) (F.typeCall_enumerate_1 _) (F.newCall_enumerate_1 _) (fun obj => F.args_object_init_2 obj _) F.entry_enumerate_new (enum_newT tp us n dct sl) ⟨z1, ?_⟩
  generalize ho : ({ cls := .type "tuple_iterator", data := .fields #[.ref tp, .int 0 0] } : Obj) = o1
  have y1 : (s.heap.push o1).objs.size = s.heap.objs.size + 1 := Heap.size_push ..
  have y2 : ∀ o2 : Obj, o2.isFreed = false → ((s.heap.push o1).push o2).get? (s.heap.objs.size + 1) = some o2 := fun o2 f => by
    have := Heap.get?_push_size (s.heap.push o1) (o := o2) f
    rwa [y1] at this
  show _ ∧ _
  rw [y1]
  have y3 := y2 { cls := .type "enumerate", data := .fields #[.none, .bool false, .ref s.heap.objs.size, rawInt 0, .none, .none] } rfl
  refine ⟨⟨_, y3, rfl⟩, k _ y3 ⟨o1, Heap.get?_push_of_some _ (Heap.get?_push_size _ (by rw [← ho]; rfl)), by rw [← ho], by rw [← ho]; rfl⟩ fun b o q => Heap.get?_push_of_some _ (Heap.get?_push_of_some _ q)⟩
end
section
variable {X : Cx} {es : List Expr} {x1 : Nat} {tpos : Pos}
def iEnum (K : PySem.W.Frag) (ta : TA) : TI := fun σ H R => ta σ H fun vs H1 => ∃ a, vs = [.ref a] ∧ (∃ xs, SqT K H1 a xs) ∧ R (Ite K a) H1
theorem pi_enum {l : Expr} {ta : TA} {p pos : Pos} (hg : Gl X "enumerate") (hm : X.mg "enumerate" = none) (ha : PA X [l] ta) (hs : starEach [l] X.env = [(false, eval l X.env)] := by rfl) :
    PI X (.Tuple es x1 tpos) (.Call (.Name "enumerate" p) [l] [] pos) (iEnum X.K ta) := by
  intro pins s σ H R I h
  refine Call_ (ld_blt I hg hm boot_enumerate (PyProof.Rows.callWith_type1 (thn (ha pos pins s σ H _ I h) fun us s1 ⟨vs, H1, I1, r1, q1⟩ => ?_) hs rfl))
  obtain ⟨a, e, ⟨xs, hq⟩, q⟩ := q1
  subst e
  cases r1 with
  | cons r rr =>
    cases rr
    cases r
    obtain ⟨its, rv, p, hz⟩ := I1.tuple hq
    refine call_enumT (show s1.heap.IsTuple a its.toArray from p) fun h' e1 e2 k => wpAny_pyIter_enum e1 ?_
    have I2 : Inv X pins σ H1 { s1 with heap := h' } := I1.kept (t' := s1.toks) k
    refine ⟨s1.heap.objs.size + 1, [s1.heap.objs.size + 1, s1.heap.objs.size], _, _, H1, rfl, I2, turn_enumT a _ _ (Nat.succ_ne_self _), ⟨⟨_, e1⟩, e2⟩, fun b hb => ?_, q⟩
    have hb' : s1.heap.objs.size ≤ b := by
      have z : b = s1.heap.objs.size + 1 ∨ b = s1.heap.objs.size := by simpa using hb
      rcases z with z | z
      · rw [z]; exact Nat.le_succ _
      · rw [z]; exact Nat.le_refl _
    exact I1.fpOk hb' (I1.hok.fresh hb')
theorem for_enum {K : PySem.W.Frag} {a : Addr} {xs : List V} {g : TG} {tb : TS} {D : Ends} {σ : St} {H : Hp} (Pv : Nat → St → Hp → Prop) (h0 : Pv 0 σ H) (hl : ∀ i σ H, i ≤ xs.length → Pv i σ H → SqT K H a xs)
    (hs : ∀ i x σ H p, xs[i]? = some x → Pv i σ H → H p = none → g (.ref p) σ (upd H p (.tup [.int i, x])) fun σ2 H2 => tb { D with nx := Pv (i + 1), ct := Pv (i + 1), bk := D.nx } σ2 H2) (hd : ∀ σ H, Pv xs.length σ H → D.nx σ H) :
    ∃ W : Nat → Nat → St → Hp → Prop, (∃ m, W 0 m σ H) ∧ ∀ i m σ H, W i m σ H →
      ((Ite K a).stop i H ∧ D.nx σ H) ∨ ((Ite K a).go i H ∧ ∃ N : St → Hp → Prop, (∀ σ' H', N σ' H' → ∃ m', m' < m ∧ W (i + 1) m' σ' H') ∧ ∀ x H', (Ite K a).yld i H x H' → g x σ H' fun σ2 H2 => tb { D with nx := N, ct := N, bk := D.nx } σ2 H2) := by
  refine ⟨fun i m σ H => m = xs.length - i ∧ i ≤ xs.length ∧ Pv i σ H, ⟨xs.length, by simp, Nat.zero_le _, h0⟩, ?_⟩
  rintro i m σ H ⟨rfl, hi, p⟩
  have q := hl i σ H hi p
  by_cases hlt : i < xs.length
  · refine .inr ⟨⟨xs, xs[i], q, by simp [hlt]⟩, Pv (i + 1), fun σ' H' p' => ⟨xs.length - (i + 1), by omega, rfl, hlt, p'⟩, fun x H' y => ?_⟩
    obtain ⟨pp, yv, rfl, e2, rfl, y⟩ := y
    exact hs i yv σ _ pp (y xs q) p e2
  · have e : i = xs.length := by omega
    subst e
    exact .inl ⟨⟨xs, q, Nat.le_refl _⟩, hd σ H p⟩
end
end L2
/-! defs that raise, as callers know them -/
namespace L2
open PySem PySem.Spec PyProof.Rows
structure CalX (P : Program) (w : World) (K : PySem.W.Frag) (mg : Str → Option Value) (base : Heap) (k : Nat) (x : Str) (ps : List Str) (sp : Sp) : Prop where
  ex : ∃ (f : Addr) (fd : FuncData), FnOk P w K mg base (CX1 P w) k f fd ps sp ∧ Binds K fd ps [] ∧ PySem.W.keepIn K (.ref f) = true ∧ mg x = some (.ref f)
section
variable {P : Program} {w : World} {K : PySem.W.Frag} {mg : Str → Option Value} {base : Heap} {k : Nat} {x : Str} {st : Stmt} {ps : List Str} {sp : Sp}
end
section
variable {X : Cx} {E : XK} {x : Str} {C : Addr} {e : Expr} {es : List Expr} {t : TA} {np cpos pos : Pos}
abbrev bmVE : List Value := [.type "ValueError", .type "Exception", .type "BaseException", .type "object"]
variable {k i : Nat} {C2 : Addr} {ps : List Str} {sp : Sp} {fx cx n : Str} {p p2 epos hpos : Pos} {b₀ : Stmt} {suite : List Stmt} {u : TS}
end
end L2
/-! an own class of errors with an __init__ of its own: made, raised -/
namespace L2
open PySem PySem.Spec PyProof.Rows
/-- the class at C over ValueError's line, its __init__ the def at f -/
def excInI (K : PySem.W.Frag) (C : Addr) (tl : List Value) (nw : String) (f : Addr) : Bool := match K.lookup C with
  | some ⟨.type "type", _, .cls cd, sl⟩ => (match cd.mro, sl.toList with
    | .ref C2 :: bm, [_, _, _, _, some (.builtin n), _] => (C2 == C) && (n == nw) && !cd.hasDel && PySem.W.tailIn K tl bm && PySem.W.nsOkIn K cd.ns && (PySem.W.nsIn K cd.ns "__init__" == some (some (.ref f))) && PySem.W.isFn K (.ref f)
    | _, _ => false)
  | _ => false
section
variable {prog : Program} {w : World} {A : Around} {E : Value → Shared → Prop} {h : Heap} {g : Array GenState} {d : Drawn} {t : Nat} {os : OsState}
variable {nm qn : Str} {C N : Addr} {bs bm tl : List Value} {hdct : Bool} {sn : List Str} {sub : List Value} {ab : Bool} {col : Option Bool} {dd : Option Addr} {k0 k1 k2 k3 k5 : Option Value} {B nw it : String}
end
end L2
/-! raise C(..), C with an __init__ of its own -/
namespace L2
open PySem PySem.Spec PyProof.Rows
/-- an exception that is being made: no note yet -/
def ExcN (x : Addr) (cls : Value) (dd : Option Addr) : HO := .ext fun h => ∃ o vs, h.get? x = some o ∧ o.cls = cls ∧ o.dict = dd ∧ o.data = .fields vs ∧ vs[1]? = some .none ∧ vs.size = 6
def del (H : Hp) (x : Addr) : Hp := fun b => if b = x then none else H b
section
variable {P : Program} {w : World} {fs : List Addr} {H H' : Hp} {h0 h h' : Heap} {x : Addr} {o : HO}
end
section
variable {X : Cx} {E : XK} {x : Str} {C f : Addr} {fd : FuncData} {ps : List Str} {sp : Sp} {k : Nat} {e : Expr} {es : List Expr} {t : TA} {np cpos pos : Pos}
def tRaiseI (C : Addr) (sp : Sp) (E : XK) (t : TA) : TS := fun _ σ H => t σ H fun vs H1 => vs.length ≤ sizeLine ∧ ∀ ex, H1 ex = none →
  sp (.ref ex :: vs) (upd H1 ex (ExcN ex (.ref C) none)) (fun v H2 => v = .non ∧ ∃ dd, H2 ex = some (ExcN ex (.ref C) dd) ∧ E (.ref C) dd (del H2 ex)) E0
end
end L2
/-! Base.__init__(self, ..) within the __init__ of an own class of errors -/
namespace L2
open PySem PySem.Spec PyProof.Rows
section
variable {prog : Program} {w : World} {A : Around} {E : Value → Shared → Prop} {s : Shared} {K : PySem.W.Frag} {L : Addr} {v : Value} {name : Str} {pl : Sem Bool}
end
section
variable {prog : Program} {w : World} {A : Around} {E : Value → Shared → Prop} {h : Heap} {g : Array GenState} {d : Drawn} {t : Nat} {os : OsState}
variable {nm qn : Str} {C N x : Addr} {bs bm tl : List Value} {hdct : Bool} {sn : List Str} {sub : List Value} {ab : Bool} {col : Option Bool} {dd : Option Addr} {k0 k1 k2 k3 k5 : Option Value} {B nw it : String}
end
section
variable {X : Cx} {cx : Str} {C L f : Addr} {e : Expr} {es : List Expr} {t : TA} {p apos pos : Pos} {pl : Sem Bool}
def tInitB (C : Addr) (t : TA) : TE := fun σ H Q => t σ H fun vs H1 => ∃ x dd r, vs = .ref x :: r ∧ r.length ≤ 1000 ∧ H1 x = some (ExcN x (.ref C) dd) ∧ Q .non H1
end
end L2
/-! x.f = v and x.f of an exception -/
namespace L2
open PySem PySem.Spec PyProof.Rows
open PySem.Builtin.ObjectAttr in
/-- a name that the class at C does not have and its things may have -/
structure XFld (K : PySem.W.Frag) (C : Addr) (f : Str) : Prop where
  sa : PySem.W.findIn K (.ref C) "__setattr__" = some (some (.builtin "object.__setattr__"))
  na : PySem.W.findIn K (.ref C) f = some none
  hd : PySem.W.hasDictIn K C = true
section
variable {prog : Program} {w : World} {A : Around} {E : Value → Shared → Prop} {s : Shared} {K : PySem.W.Frag} {x C fI : Addr} {oe : Obj} {vs : Array Value} {name : Str} {v : Value}
end
end L2
/-! self.f = v within the __init__ of an own class of errors; e.f of a caught one -/
namespace L2
open PySem PySem.Spec PyProof.Rows
section
variable {X : Cx} {o e value : Expr} {ta tv : TE} {C fI : Addr} {f : Str} {pos pos' : Pos}
def sFldE (C : Addr) (ta tv : TE) (f : Str) : TS := fun D σ H => tv σ H fun y H1 => ta σ H1 fun xv H2 => ∃ x, xv = .ref x ∧ H2 x = some (ExcN x (.ref C) none) ∧
  ∀ d, H2 d = none → d ≠ x → D.nx σ (upd (upd H2 d (.xd [(f, y)])) x (ExcN x (.ref C) (some d)))
def tFldE (K : PySem.W.Frag) (ta : TE) (f : Str) : TE := fun σ H Q => ta σ H fun xv H1 => ∃ x C dx fs i, xv = .ref x ∧ ECls K C ∧ XFld K C f ∧ H1 x = some (ExcO x (.ref C) (some dx)) ∧ H1 dx = some (.xd fs) ∧ fs.lookup f = some (.int i) ∧ Q (.int i) H1
end
end L2
/-! xs != ys of two lists of three truths -/
namespace L2
open PySem PySem.Spec PyProof.Rows
end L2
/-! my own rules over the layer: a list comprehension with one test -/
namespace L2
open PySem PySem.Spec PyProof.Rows
/-- the reading: as tComp's, and what passes the test alone is kept -/
def tCompIf (wi : TI) (tt : TT) (te : TE) (fr : List Nat) : TE := fun σ H Q => wi σ H fun J H1 => ∀ D, H1 D = none → ∃ W : Nat → Nat → List V → Hp → Prop, (∃ m, W 0 m [] (upd H1 D (.lst []))) ∧
  ∀ i m ys H2, W i m ys H2 → H2 D = some (.lst ys) ∧ ((J.stop i H2 ∧ Q (.ref D) H2) ∨ (J.go i H2 ∧ ys.length < sizeLine ∧ ∃ N : V → Hp → Prop, (∀ y H3, N y H3 → H3 D = some (.lst ys) ∧ ∃ m', m' < m ∧ W (i + 1) m' (ys ++ [y]) (upd H3 D (.lst (ys ++ [y])))) ∧
    ∀ x H', J.yld i H2 x H' → tt (some x :: fr.map fun j => (σ[j]?).getD none) H' fun b H3 => if b = true then te (some x :: fr.map fun j => (σ[j]?).getD none) H3 N else ∃ m', m' < m ∧ W (i + 1) m' ys H3))
theorem comp_coreIf {X : Cx} {elt iter cc : Expr} {x : Str} {px pos : Pos} {scope sc0 : Scope} {cl : List (Str × Addr)} {cn N : List Str} {fr : List Nat} {tt : TT} {te : TE} {pins : List (Addr × Obj)} {σ : St} {H2 : Hp} {s2 : Shared} {it : Addr} {fp : List Addr}
    {tn : Nat → Heap → Prop} {J : It} {RR : Value → Addr → Result → Shared → Prop} {R : Hp → Prop} {E : Value → Shared → Prop} {W : Nat → Nat → List V → Hp → Prop} {m0 : Nat}
    (hc : X.calm = true) (he : ∀ (C : Addr) (s₂ : Shared) (H₂ : Hp) (fp : List Addr), PE (compCx X scope cl C x N s₂ H₂ fp) elt te) (hct : ∀ (C : Addr) (s₂ : Shared) (H₂ : Hp) (fp : List Addr), PT (compCx X scope cl C x N s₂ H₂ fp) cc tt)
    (hcl : CellsIn X.env cl) (hcn : cl.map (·.1) = cn) (hsc : X.env.scope = sc0) (hk : scope.kind = .function) (hok : CompOk scope sc0 x N cn) (hfr : fr.map (fun j => X.N[j]?) = N.map some)
    (I2 : Inv X pins σ H2 s2) (T : Turn X.prog X.w X.K (.Name x px) J fp it tn) (st2 : tn 0 s2.heap) (f2 : ∀ b ∈ fp, FpOk X pins H2 b)
    (w0 : W 0 m0 [] (upd H2 s2.heap.objs.size (.lst [])))
    (turn : ∀ i m ys H, W i m ys H → H s2.heap.objs.size = some (.lst ys) ∧ ((J.stop i H ∧ R H) ∨ (J.go i H ∧ ys.length < sizeLine ∧ ∃ N : V → Hp → Prop,
      (∀ y H3, N y H3 → H3 s2.heap.objs.size = some (.lst ys) ∧ ∃ m', m' < m ∧ W (i + 1) m' (ys ++ [y]) (upd H3 s2.heap.objs.size (.lst (ys ++ [y])))) ∧
      ∀ x H', J.yld i H x H' → tt (some x :: fr.map fun j => (σ[j]?).getD none) H' fun b H3 => if b = true then te (some x :: fr.map fun j => (σ[j]?).getD none) H3 N else ∃ m', m' < m ∧ W (i + 1) m' ys H3)))
    (hRR : ∀ (C : Addr) (H6 : Hp) (s6 : Shared) (m6 : Str → Option Value), s6.heap.Ns C m6 → Inv X pins σ H6 s6 → FpOk X pins H6 C → R H6 → RR (.ref s2.heap.objs.size) C (.ok .next) s6) :
    wpAny (model X.prog X.w) X.A (newList []) (fun acc s₃ => wpAny (model X.prog X.w) X.A (newFunctionEnv scope X.env.globals cl [] X.env.qual none .none (some X.env)) (fun cenv s₄ =>
      codeAny (model X.prog X.w) X.A (.compStart (.ListComp elt [⟨.Name x px, iter, [cc], 0⟩] scope pos) 0 (.ref it) acc { cenv with scope := relabel scope X.env }) (RR acc cenv.locals) s₄) E s₃) E s2 := by
  refine comp_coreG (TN := []) (gt := gName 0) (tt := tt) hc he (fun C s h f => pts_one (hct C s h f)) (fun _ _ _ _ => pg_name hok.nd rfl (.inl ?_) (.inr ?_)) hcl hcn hsc hk ⟨hok.has, hok.nc, hok.names, hok.frs⟩ hfr I2 T st2 f2 w0 (fun i m ys H h => ?_) hRR
  · exact comp_lk hsc hok.hx'
  · exact comp_lk hsc hok.hx'
  obtain ⟨a, b⟩ := turn i m ys H h
  refine ⟨a, ?_⟩
  rcases b with b | ⟨g, l, N, h1, h2⟩
  · exact .inl b
  refine .inr ⟨g, l, N, fun H3 => ∃ m', m' < m ∧ W (i + 1) m' ys H3, h1, fun _ z => z, fun x H' y vs hv => ?_⟩
  match vs, hv with
  | [v0], _ => exact ⟨⟨[some x], rfl, rfl⟩, h2 x H' y⟩
theorem pe_compIf {X : Cx} {elt iter cc : Expr} {x : Str} {px pos : Pos} {scope sc0 : Scope} {cl : List (Str × Addr)} {cn N : List Str} {fr : List Nat} {wi : TI} {tt : TT} {te : TE}
    (hc : X.calm = true) (hi : PI X (.Name x px) iter wi) (he : ∀ (C : Addr) (s₂ : Shared) (H₂ : Hp) (fp : List Addr), PE (compCx X scope cl C x N s₂ H₂ fp) elt te) (hct : ∀ (C : Addr) (s₂ : Shared) (H₂ : Hp) (fp : List Addr), PT (compCx X scope cl C x N s₂ H₂ fp) cc tt)
    (hclos : closureFor scope X.env = pure cl) (hcl : CellsIn X.env cl) (hcn : cl.map (·.1) = cn) (hsc : X.env.scope = sc0) (hk : scope.kind = .function) (hok : CompOk scope sc0 x N cn)
    (hfr : fr.map (fun j => X.N[j]?) = N.map some) (hs : ∀ v, foldedSetIterable iter X.env v = pure v := by intro _; rfl) :
    PE X (.ListComp elt [⟨.Name x px, iter, [cc], 0⟩] scope pos) (tCompIf wi tt te fr) := by
  intro pins s σ H Q I h
  rw [eval_ListComp]
  refine wpAny_comprehension_free (use := none) rfl hs hclos hk hok.names (thn (hi pins s σ H _ I h) fun v s1 h1 => thn h1 fun itv s2 h2 => ?_)
  obtain ⟨it, fp, tn, J, H2, e, I2, T, st2, f2, hq⟩ := h2
  subst e
  obtain ⟨W, ⟨m0, w0⟩, turn⟩ := hq s2.heap.objs.size (I2.hok.fresh (Nat.le_refl _))
  exact comp_coreIf (RR := fun acc C => compPost (model X.prog X.w) X.A X.xe none (EP X pins σ Q) acc C) (R := fun H6 => Q (.ref s2.heap.objs.size) H6) hc he hct hcl hcn hsc hk hok hfr I2 T st2 f2 w0 turn
    fun C H6 s6 m6 hn I6 F6 q => ⟨m6, hn, fun h' sb => ⟨.ref s2.heap.objs.size, H6, I6.let_go F6 sb, rfl, q⟩⟩
/-- y = [.. for x in ..], straight to a local name -/
def tSetCompIf (i : Nat) (wi : TI) (tt : TT) (te : TE) (fr : List Nat) : TS := fun D σ H => tCompIf wi tt te fr σ H fun v H1 => D.nx (σ.set i (some v)) H1
/-- gone through a list of ints, those kept that pass, each told by g -/
theorem compIf_list {K : PySem.W.Frag} {a : Addr} {xs : List V} {p : V → Bool} {g : V → V} {Tt : V → Hp → (Bool → Hp → Prop) → Prop} {Te : V → Hp → (V → Hp → Prop) → Prop} {D : Addr} {H1 : Hp} {R : Hp → Prop}
    (ha : SqL K H1 a xs) (hD : H1 D = none) (hn : xs.length ≤ sizeLine) (hT : ∀ x ∈ xs, ∀ (H : Hp) (Q : Bool → Hp → Prop), Same H1 H → Q (p x) H → Tt x H Q) (hE : ∀ x ∈ xs, p x = true → ∀ (H : Hp) (Q : V → Hp → Prop), Same H1 H → Q (g x) H → Te x H Q)
    (hR : R (upd H1 D (.lst ((xs.filter p).map g)))) :
    ∃ W : Nat → Nat → List V → Hp → Prop, (∃ m, W 0 m [] (upd H1 D (.lst []))) ∧
      ∀ i m ys H2, W i m ys H2 → H2 D = some (.lst ys) ∧ (((Itl K a).stop i H2 ∧ R H2) ∨ ((Itl K a).go i H2 ∧ ys.length < sizeLine ∧ ∃ N : V → Hp → Prop, (∀ y H3, N y H3 → H3 D = some (.lst ys) ∧ ∃ m', m' < m ∧ W (i + 1) m' (ys ++ [y]) (upd H3 D (.lst (ys ++ [y])))) ∧
        ∀ x H', (Itl K a).yld i H2 x H' → Tt x H' fun b H3 => if b = true then Te x H3 N else ∃ m', m' < m ∧ W (i + 1) m' ys H3)) := by
  refine ⟨fun i m ys H => m = xs.length - i ∧ i ≤ xs.length ∧ ys = ((xs.take i).filter p).map g ∧ H = upd H1 D (.lst ys), ⟨xs.length, by simp, Nat.zero_le _, by simp, rfl⟩, ?_⟩
  rintro i m ys H2 ⟨rfl, hi, hy, rfl⟩
  have sm : Same H1 (upd H1 D (.lst ys)) := same_new hD _
  have q := sm.seq ha
  have hyl : ys.length ≤ i := by
    rw [hy, List.length_map]
    exact Nat.le_trans (List.length_filter_le _ _) (by rw [List.length_take]; exact Nat.min_le_left _ _)
  refine ⟨upd_same, ?_⟩
  by_cases hlt : i < xs.length
  · refine .inr ⟨⟨xs, xs[i], q, by simp [hlt]⟩, by omega, fun y H3 => H3 = upd H1 D (.lst ys) ∧ y = g xs[i] ∧ p xs[i] = true, fun y H3 ⟨z1, z2, z3⟩ => ⟨by rw [z1]; exact upd_same, xs.length - (i + 1), by omega, rfl, hlt, ?eq, by rw [z1, upd_upd]⟩, fun x H' y => ?st⟩
    case eq =>
      rw [List.take_succ_eq_append_getElem hlt, List.filter_append, List.map_append, ← hy, z2]
      simp [z3]
    case st =>
      obtain ⟨e, y⟩ := y
      subst e
      have hx : xs[i]? = some x := y xs q
      have hx' : xs[i] = x := by simpa [hlt] using hx
      have hm : x ∈ xs := by rw [← hx']; exact List.getElem_mem hlt
      refine hT x hm _ _ sm ?_
      by_cases hp : p x = true
      · rw [if_pos hp]
        exact hE x hm hp _ _ sm ⟨rfl, by rw [hx'], by rw [hx']; exact hp⟩
      · rw [if_neg hp]
        refine ⟨xs.length - (i + 1), by omega, rfl, hlt, ?_, rfl⟩
        rw [List.take_succ_eq_append_getElem hlt, List.filter_append, List.map_append, ← hy, hx']
        simp [hp]
  · have e : i = xs.length := by omega
    subst e
    refine .inl ⟨⟨xs, q, Nat.le_refl _⟩, ?_⟩
    rw [hy, List.take_length]
    exact hR
end L2
/-! my own rules over the layer: a def that calls itself; gone through by a map; sorted ints; xs[::-1]; trees of tuples -/
namespace L2
open PySem PySem.Spec PyProof.Rows
section
variable {P : Program} {w : World} {K : PySem.W.Frag} {mg : Str → Option Value} {base : Heap}
/-- what the call below promises: nothing at 0 -/
def prevSp (sp : Nat → Sp) : Nat → Sp
  | 0 => fun _ _ _ _ => False
  | e + 1 => sp e
/-- a def that calls itself, by a measure -/
theorem Def.recur {sp : Nat → Sp} {x : Str} {st : Stmt} {ps : List Str} (d : Def K mg x st ps) {k : Nat} (n : Nat)
    (step : ∀ e, e ≤ n → Cal P w K mg base (e + k) x ps (prevSp sp e) → ∀ (f : Addr) (fd : FuncData), Fun K x x st f fd → FnOk P w K mg base CX0 (e + (k + 1)) f fd ps (sp e)) :
    Cal P w K mg base (n + (k + 1)) x ps (fun vs H Q E => ∃ e, e ≤ n ∧ sp e vs H Q E) := by
  obtain ⟨f, fd, h1, h2, h3⟩ := d.ex
  have all : ∀ e, e ≤ n → FnOk P w K mg base CX0 (e + (k + 1)) f fd ps (sp e) := by
    intro e
    induction e with
    | zero => exact fun he => step 0 he ⟨f, fd, ⟨fun _ _ _ _ h => h.elim, fun _ _ _ _ _ _ _ _ _ _ _ _ _ h => h.elim⟩, .all h2, h1.kp, h3⟩ f fd h1
    | succ e ih => exact fun he => step (e + 1) he ⟨f, fd, (ih (by omega)).mono (by omega), .all h2, h1.kp, h3⟩ f fd h1
  refine ⟨f, fd, ⟨?_, ?_⟩, .all h2, h1.kp, h3⟩
  · rintro vs H Q E ⟨e, he, h⟩
    exact (all e he).len vs H Q E h
  · rintro A outer s H args us vs Q E hr he hb hv ⟨e, hle, h⟩
    exact (all e hle).run A outer s H args us vs Q E (hr.mono (by omega)) he hb hv h
end
/-- gone through a list, each told by g -/
theorem comp_listM {K : PySem.W.Frag} {a : Addr} {xs : List V} {g : V → V} {Te : V → Hp → (V → Hp → Prop) → Prop} {D : Addr} {H1 : Hp} {R : Hp → Prop}
    (ha : SqL K H1 a xs) (hD : H1 D = none) (hn : xs.length ≤ sizeLine) (hE : ∀ x ∈ xs, ∀ (H : Hp) (Q : V → Hp → Prop), Same H1 H → Q (g x) H → Te x H Q) (hR : R (upd H1 D (.lst (xs.map g)))) :
    ∃ W : Nat → Nat → List V → Hp → Prop, (∃ m, W 0 m [] (upd H1 D (.lst []))) ∧
      ∀ i m ys H2, W i m ys H2 → H2 D = some (.lst ys) ∧ (((Itl K a).stop i H2 ∧ R H2) ∨ ((Itl K a).go i H2 ∧ ys.length < sizeLine ∧ ∃ N : V → Hp → Prop, (∀ y H3, N y H3 → H3 D = some (.lst ys) ∧ ∃ m', m' < m ∧ W (i + 1) m' (ys ++ [y]) (upd H3 D (.lst (ys ++ [y])))) ∧
        ∀ x H', (Itl K a).yld i H2 x H' → Te x H' N)) := by
  refine ⟨fun i m ys H => m = xs.length - i ∧ i ≤ xs.length ∧ ys = (xs.take i).map g ∧ H = upd H1 D (.lst ys), ⟨xs.length, by simp, Nat.zero_le _, by simp, rfl⟩, ?_⟩
  rintro i m ys H2 ⟨rfl, hi, hy, rfl⟩
  have sm : Same H1 (upd H1 D (.lst ys)) := same_new hD _
  have q := sm.seq ha
  have hyl : ys.length ≤ i := by
    rw [hy, List.length_map, List.length_take]; exact Nat.min_le_left _ _
  refine ⟨upd_same, ?_⟩
  by_cases hlt : i < xs.length
  · refine .inr ⟨⟨xs, xs[i], q, by simp [hlt]⟩, by omega, fun y H3 => H3 = upd H1 D (.lst ys) ∧ y = g xs[i], fun y H3 ⟨z1, z2⟩ => ⟨by rw [z1]; exact upd_same, xs.length - (i + 1), by omega, rfl, hlt, ?eq, by rw [z1, upd_upd]⟩, fun x H' y => ?st⟩
    case eq =>
      rw [List.take_succ_eq_append_getElem hlt, List.map_append, ← hy, z2]
      rfl
    case st =>
      obtain ⟨e, y⟩ := y
      subst e
      have hx : xs[i]? = some x := y xs q
      have hx' : xs[i] = x := by simpa [hlt] using hx
      have hm : x ∈ xs := by rw [← hx']; exact List.getElem_mem hlt
      exact hE x hm _ _ sm ⟨rfl, by rw [hx']⟩
  · have e : i = xs.length := by omega
    subst e
    refine .inl ⟨⟨xs, q, Nat.le_refl _⟩, ?_⟩
    rw [hy, List.take_length]
    exact hR
section
variable {X : Cx}
/-- sorted(xs), fewer than 64 ints -/
theorem call_sortedI : CallR X (.builtin "sorted") (fun xs H Q => ∃ (p : Addr) (ns : List Int), xs = [.ref p] ∧ SqL X.K H p (ns.map V.int) ∧ ns.length < 64 ∧ ∀ (l : Addr) (ms : List Int), H l = none → ms.Perm ns → ms.Pairwise (· ≤ ·) → Q (.ref l) (upd H l (.lst (ms.map V.int)))) := by
  intro pins s σ H xs us Q I r h
  obtain ⟨p, ns, rfl, hq, h64, q⟩ := h
  obtain ⟨u, rfl, rx⟩ := vals1 r
  cases rx
  obtain ⟨its, r', pl, hz⟩ := I.list hq
  have hl := r'.length
  rw [List.length_map] at hl hz
  refine PyProof.Rows.sorted_ints pl.isList (intsAre_of r') (by omega) fun out ms a1 a2 a3 => ?_
  obtain ⟨e, he⟩ := PyProof.Rows.sortedAll_at s.heap its out
  have hml : ms.length = ns.length := a2.length_eq
  refine ⟨.ref (s.heap.objs.size + 1), _, I.laid (t' := s.toks) (a := s.heap.objs.size + 1) (o := .lst (ms.map V.int)) (fun b ob z => PyProof.Rows.sortedAll_old z) (Nat.le_succ _) ?_, rfl, q _ ms (I.hok.fresh (Nat.le_succ _)) a2 a3⟩
  refine ⟨by rw [List.length_map]; omega, out.toList, e, vals_ints a1, ?_⟩
  rw [he]
/-- xs[::-1] of a list -/
def tRev (K : PySem.W.Frag) (te : TE) : TE := fun σ H Q => te σ H fun x H1 => ∃ a xs, x = .ref a ∧ SqL K H1 a xs ∧ ∀ p, H1 p = none → Q (.ref p) (upd H1 p (.lst xs.reverse))
theorem pe_rev {e : Expr} {te : TE} {p1 p2 p3 pos : Pos} {k : Nat} (he : PE X e te) : PE X (.Subscript e (.Slice none none (some (.UnaryOp .USub (.Constant (.int 1) k p1) p3)) p2) pos) (tRev X.K te) := by
  intro pins s σ H Q I h
  refine Subscript_ (thn (he pins s σ H _ I h) fun v s1 ⟨x, H1, I1, r1, q1⟩ => ?_)
  obtain ⟨a, xs, rfl, hx, q⟩ := q1
  cases r1
  have hst : PO X (some (.UnaryOp .USub (.Constant (.int 1) k p1) p3)) (tPart (tUn (rU fun i => .int (-i)) fun _ H Q => Q (.int 1) H)) := po_some (pe_un un_neg pe_int)
  refine wpAny_Slice (thn (po_none (X := X) pins s1 σ H1 (fun o H' => o = none ∧ H' = H1) I1 ⟨rfl, rfl⟩) fun vl s2 ⟨l, H2, I2, pl, el, e2⟩ => thn (po_none (X := X) pins s2 σ H2 (fun o H' => o = none ∧ H' = H1) I2 ⟨rfl, e2⟩) fun vu s3 ⟨u, H3, I3, pu, eu, e3⟩ =>
    thn (hst pins s3 σ H3 (fun o H' => o = some (-1) ∧ H' = H1) I3 ⟨_, rfl, ⟨_, rfl, rfl, e3⟩⟩) fun vk s4 ⟨kk, H4, I4, pk, ek, e4⟩ => ?_)
  subst el eu ek e4
  have I5 : Inv X pins σ H4 { s4 with heap := s4.heap.push { cls := .type "slice", data := .fields #[vl, vu, vk] } } := I4.kept (t' := s4.toks) fun b ob q => Heap.get?_push_of_some _ q
  obtain ⟨its, r, ht, hz⟩ := I5.list hx
  have hlen := r.length
  show wpAny (model X.prog X.w) X.A (subscriptTail e _ (.ref a) (.ref s4.heap.objs.size)) (EP X pins σ Q) X.xe { s4 with heap := s4.heap.push { cls := .type "slice", data := .fields #[vl, vu, vk] } }
  refine tail_any (ops := [.ref a, .ref s4.heap.objs.size]) ht.isList.typeIs slot_list_getitem.lookup ?_ (by with_unfolding_all rfl)
  refine wpAny_getItem_list_slice ht.isList (Heap.IsSliceOf.new ..) pl pu pk (by simp) ?_ (by rw [List.size_toArray] <;> omega)
  rw [PySem.W.krv_pick]
  refine ⟨.ref _, _, I5.laid (t' := s4.toks) (o := .lst xs.reverse) (fun b ob q => Heap.get?_push_of_some _ q) (Nat.le_refl _) ?_, rfl, q _ (I5.hok.fresh (Nat.le_refl _))⟩
  exact ⟨by rw [List.length_reverse]; exact hz, _, 0, r.reverse, Heap.get?_push_size _ rfl⟩
end

section
variable {X : Cx} {K : PySem.W.Frag}
theorem ix_tupK (h : X.K = K) : IxR X (rIxT K) := by subst h; exact ix_tup
end
/-! ### trees -/
inductive Tr where
  | non
  | many (n : Int)
  | part (ms : List Int) (l r : Tr)
def Tr.deep : Tr → Nat
  | .non => 0
  | .many _ => 0
  | .part _ l r => max l.deep r.deep + 1
/-- a value that is this tree -/
def TreeAt (H : Hp) : V → Tr → Prop
  | v, .non => v = .non
  | v, .many n => ∃ a, v = .ref a ∧ H a = some (.tup [.str "many", .int n])
  | v, .part ms l r => ∃ a m x y, v = .ref a ∧ H a = some (.tup [.str "part", .ref m, x, y]) ∧ TupF H m (ms.map V.int) ∧ TreeAt H x l ∧ TreeAt H y r
/-- what tuples there are stays -/
def TKeep (H H' : Hp) : Prop := ∀ b xs, (H b = some (.tup xs) → H' b = some (.tup xs)) ∧ ∀ o, H b = some (.frz o (.tup xs)) → H' b = some (.frz o (.tup xs))
theorem TKeep.same {H H' : Hp} (s : Same H H') : TKeep H H' := fun _ _ => ⟨s _ _, fun _ => s _ _⟩
theorem TKeep.keep {H H' : Hp} {p : Addr} {ys : List V} (s : Keep p H H') (e : H p = some (.lst ys)) : TKeep H H' := fun _ _ => ⟨fun h => s _ _ (ne_of h e (by intro z; cases z)) h, fun _ h => s _ _ (ne_of h e (by intro z; cases z)) h⟩
theorem TKeep.set {H : Hp} {p : Addr} {ys zs : List V} (e : H p = some (.lst ys)) : TKeep H (upd H p (.lst zs)) := .keep (Keep.set p H _) e
theorem TupF.tk {H H' : Hp} {a : Addr} {xs : List V} (h : TupF H a xs) (s : TKeep H H') : TupF H' a xs := by
  obtain ⟨o, h, c⟩ := h
  exact ⟨o, (s _ _).2 o h, c⟩
theorem TreeAt.tk {H H' : Hp} (s : TKeep H H') : ∀ {t : Tr} {v : V}, TreeAt H v t → TreeAt H' v t
  | .non, _, h => h
  | .many _, _, ⟨a, e, h⟩ => ⟨a, e, (s _ _).1 h⟩
  | .part _ _ _, _, ⟨a, m, x, y, e, h, hm, hl, hr⟩ => ⟨a, m, x, y, e, (s _ _).1 h, hm.tk s, TreeAt.tk s hl, TreeAt.tk s hr⟩
theorem TreeAt.same {H H' : Hp} (s : Same H H') {t : Tr} {v : V} (h : TreeAt H v t) : TreeAt H' v t := h.tk (.same s)
section
variable {X : Cx}
theorem eqAt_tup {pins : List (Addr × Obj)} {σ : St} {H : Hp} {s : Shared} {A : Around} {a b : Addr} {xs ys : List V} (I : Inv X pins σ H s) (ha : SqT X.K H a xs) (hb : SqT X.K H b ys) (hl : xs.length = ys.length)
    (he : ∀ (j : Nat) (x y : V), xs[j]? = some x → ys[j]? = some y → ∀ u v, RelV x u → RelV y v → SeqAt.EqAt A.in1 s u v true) (hu : A.units < cLine) :
    SeqAt.RcAt A s (.ref a) (.ref b) true ∧ SeqAt.RcNeAt A s (.ref a) (.ref b) false := by
  obtain ⟨its, r1, p1, _⟩ := I.tuple ha
  obtain ⟨its2, r2, p2, _⟩ := I.tuple hb
  have l1 := r1.length
  have l2 := r2.length
  have hz : its.toArray.size = its2.toArray.size := by rw [List.size_toArray, List.size_toArray]; omega
  have el : ∀ (j : Nat) (h1 : j < its.toArray.size) (h2 : j < its2.toArray.size), SeqAt.EqAt A.in1 s its.toArray[j] its2.toArray[j] ((fun _ => true) j) := by
    intro j h1 h2
    have h1' : j < xs.length := by rw [List.size_toArray] at h1; omega
    have h2' : j < ys.length := by rw [List.size_toArray] at h2; omega
    obtain ⟨v1, e1, r1'⟩ := r1.get (i := j) (x := xs[j]) (List.getElem?_eq_getElem h1')
    obtain ⟨v2, e2, r2'⟩ := r2.get (i := j) (x := ys[j]) (List.getElem?_eq_getElem h2')
    have g1 : its.toArray[j] = v1 := by
      have := List.getElem?_eq_some_iff.mp e1
      simpa using this.2
    have g2 : its2.toArray[j] = v2 := by
      have := List.getElem?_eq_some_iff.mp e2
      simpa using this.2
    rw [g1, g2]
    exact he j _ _ (List.getElem?_eq_getElem h1') (List.getElem?_eq_getElem h2') _ _ r1' r2'
  have t0 : ((List.range (min its.toArray.size its2.toArray.size)).all (fun _ => true) && its.toArray.size == its2.toArray.size) = true := by
    rw [hz]; simp
  constructor
  · rw [← t0]
    exact SeqAt.RcAt.tuples p1 p2 hu el
  · have z := SeqAt.RcNeAt.tuples (e := fun _ => true) p1 p2 hu el
    rw [t0] at z
    exact z
theorem eqAt_ref {A : Around} {s : Shared} {a b : Addr} (h : SeqAt.RcAt A s (.ref a) (.ref b) true) : SeqAt.EqAt A s (.ref a) (.ref b) true := by
  by_cases e : a = b
  · subst e
    exact SeqAt.EqAt.same _
  · exact .of_refs e h
theorem eqAt_int {A : Around} {s : Shared} {i : Int} {u v : Value} (r1 : RelV (.int i) u) (r2 : RelV (.int i) v) : SeqAt.EqAt A s u v true := by
  have z := eqAt_V (A := A) (s := s) r1 r2 rfl rfl
  have e : eqV (.int i) (.int i) = true := by simp [eqV]
  rw [e] at z
  exact z
theorem eqAt_str {A : Around} {s : Shared} {i : Str} {u v : Value} (r1 : RelV (.str i) u) (r2 : RelV (.str i) v) : SeqAt.EqAt A s u v true := by
  have z := eqAt_V (A := A) (s := s) r1 r2 rfl rfl
  have e : eqV (.str i) (.str i) = true := by simp [eqV]
  rw [e] at z
  exact z
theorem eqAt_ints {pins : List (Addr × Obj)} {σ : St} {H : Hp} {s : Shared} {A : Around} {a b : Addr} {ns : List Int} (I : Inv X pins σ H s) (ha : SqT X.K H a (ns.map V.int)) (hb : SqT X.K H b (ns.map V.int)) (hu : A.units < cLine) :
    SeqAt.RcAt A s (.ref a) (.ref b) true ∧ SeqAt.RcNeAt A s (.ref a) (.ref b) false := by
  refine eqAt_tup I ha hb rfl (fun j x y h1 h2 u v r1 r2 => ?_) hu
  rw [h1] at h2
  cases h2
  rw [List.getElem?_map] at h1
  cases e : ns[j]? with
  | none => rw [e] at h1; cases h1
  | some n =>
    rw [e] at h1
    cases h1
    exact eqAt_int r1 r2
/-- two values that are one tree are alike -/
theorem tree_eqAt {pins : List (Addr × Obj)} {σ : St} {H : Hp} {s : Shared} (I : Inv X pins σ H s) : ∀ (t : Tr) (A : Around) (x y : V) (u v : Value), TreeAt H x t → TreeAt H y t → RelV x u → RelV y v → A.units + t.deep + 2 < cLine →
    SeqAt.EqAt A s u v true ∧ SeqAt.RcNeAt A s u v false ∧ SeqAt.RcAt A s u v true
  | .non, A, x, y, u, v, hx, hy, ru, rv, hu => by
    cases hx
    cases hy
    cases ru
    cases rv
    exact ⟨SeqAt.EqAt.same _, SeqAt.RcNeAt.none_none, SeqAt.RcAt.none_none⟩
  | .many n, A, x, y, u, v, ⟨a, ea, ha⟩, ⟨b, eb, hb⟩, ru, rv, hu => by
    subst ea eb
    cases ru
    cases rv
    have z := eqAt_tup (A := A) I (SqT.of ha) (SqT.of hb) rfl (fun j x y h1 h2 u v r1 r2 => by
      match j, h1, h2 with
      | 0, h1, h2 => cases h1; cases h2; exact eqAt_str r1 r2
      | 1, h1, h2 => cases h1; cases h2; exact eqAt_int r1 r2
      | j + 2, h1, h2 => cases h1) (by omega)
    exact ⟨eqAt_ref z.1, z.2, z.1⟩
  | .part ms l r, A, x, y, u, v, ⟨a, m, x1, y1, ea, ha, hm, hl, hr⟩, ⟨b, m', x2, y2, eb, hb, hm', hl', hr'⟩, ru, rv, hu => by
    subst ea eb
    cases ru
    cases rv
    have hd : (Tr.part ms l r).deep = max l.deep r.deep + 1 := rfl
    have hA : A.in1.units = A.units + 1 := rfl
    have z := eqAt_tup (A := A) I (SqT.of ha) (SqT.of hb) rfl (fun j x y h1 h2 u v r1 r2 => by
      match j, h1, h2 with
      | 0, h1, h2 => cases h1; cases h2; exact eqAt_str r1 r2
      | 1, h1, h2 =>
        cases h1; cases h2
        cases r1
        cases r2
        exact eqAt_ref (eqAt_ints I hm.sq hm'.sq (by omega)).1
      | 2, h1, h2 => cases h1; cases h2; exact (tree_eqAt I l A.in1 _ _ _ _ hl hl' r1 r2 (by omega)).1
      | 3, h1, h2 => cases h1; cases h2; exact (tree_eqAt I r A.in1 _ _ _ _ hr hr' r1 r2 (by omega)).1
      | j + 4, h1, h2 => cases h1) (by omega)
    exact ⟨eqAt_ref z.1, z.2, z.1⟩
/-- t != u, both one tree -/
theorem op_neTr (hu : X.A.units + 64 < cLine) : OpR X (compareOp .NotEq) (fun x y H Q => ∃ t : Tr, TreeAt H x t ∧ TreeAt H y t ∧ t.deep ≤ 60 ∧ Q (.bl false) H) := by
  intro pins s σ H x y v u Q I rx ry h
  obtain ⟨t, hx, hy, hd, q⟩ := h
  exact (tree_eqAt I t X.A x y v u hx hy rx ry (by omega)).2.1 _ _ _ _ ⟨.bl false, H, I, rfl, q⟩
end
end L2
/-! my own rules over the layer: gone through a list or a tuple of ints; heaps kept -/
namespace L2
open PySem PySem.Spec PyProof.Rows
def onI {α : Type} (f : Int → α) (d : α) : V → α
  | .int n => f n
  | _ => d
theorem filt_onI {p : Int → Bool} {g : Int → V} (ns : List Int) : (((ns.map V.int).filter (onI p false)).map (onI g .non)) = (ns.filter p).map g := by
  induction ns with
  | nil => rfl
  | cons n ns ih =>
    rw [List.map_cons, List.filter_cons, List.filter_cons]
    have e : onI p false (.int n) = p n := rfl
    rw [e]
    by_cases h : p n = true
    · rw [if_pos h, if_pos h, List.map_cons, List.map_cons, ih]; rfl
    · rw [if_neg h, if_neg h]; exact ih
section
variable {K : PySem.W.Frag} {a : Addr} {ns : List Int} {p : Int → Bool} {g : Int → V} {Tt : V → Hp → (Bool → Hp → Prop) → Prop} {Te : V → Hp → (V → Hp → Prop) → Prop} {D : Addr} {H1 : Hp} {R : Hp → Prop}
theorem compIf_ints (ha : SqL K H1 a (ns.map V.int)) (hD : H1 D = none) (hn : ns.length ≤ sizeLine) (hT : ∀ n ∈ ns, ∀ (H : Hp) (Q : Bool → Hp → Prop), Same H1 H → Q (p n) H → Tt (.int n) H Q)
    (hE : ∀ n ∈ ns, p n = true → ∀ (H : Hp) (Q : V → Hp → Prop), Same H1 H → Q (g n) H → Te (.int n) H Q) (hR : R (upd H1 D (.lst ((ns.filter p).map g)))) :
    ∃ W : Nat → Nat → List V → Hp → Prop, (∃ m, W 0 m [] (upd H1 D (.lst []))) ∧
      ∀ i m ys H2, W i m ys H2 → H2 D = some (.lst ys) ∧ (((Itl K a).stop i H2 ∧ R H2) ∨ ((Itl K a).go i H2 ∧ ys.length < sizeLine ∧ ∃ N : V → Hp → Prop, (∀ y H3, N y H3 → H3 D = some (.lst ys) ∧ ∃ m', m' < m ∧ W (i + 1) m' (ys ++ [y]) (upd H3 D (.lst (ys ++ [y])))) ∧
        ∀ x H', (Itl K a).yld i H2 x H' → Tt x H' fun b H3 => if b = true then Te x H3 N else ∃ m', m' < m ∧ W (i + 1) m' ys H3)) := by
  refine compIf_list (p := onI p false) (g := onI g .non) ha hD (by rw [List.length_map]; exact hn) (fun x hx H Q s q => ?_) (fun x hx hp H Q s q => ?_) (by rw [filt_onI]; exact hR)
  · obtain ⟨n, hm, rfl⟩ := List.mem_map.mp hx
    exact hT n hm H Q s q
  · obtain ⟨n, hm, rfl⟩ := List.mem_map.mp hx
    exact hE n hm hp H Q s q
theorem comp_ints (ha : SqL K H1 a (ns.map V.int)) (hD : H1 D = none) (hn : ns.length ≤ sizeLine) (hE : ∀ n ∈ ns, ∀ (H : Hp) (Q : V → Hp → Prop), Same H1 H → Q (g n) H → Te (.int n) H Q) (hR : R (upd H1 D (.lst (ns.map g)))) :
    ∃ W : Nat → Nat → List V → Hp → Prop, (∃ m, W 0 m [] (upd H1 D (.lst []))) ∧
      ∀ i m ys H2, W i m ys H2 → H2 D = some (.lst ys) ∧ (((Itl K a).stop i H2 ∧ R H2) ∨ ((Itl K a).go i H2 ∧ ys.length < sizeLine ∧ ∃ N : V → Hp → Prop, (∀ y H3, N y H3 → H3 D = some (.lst ys) ∧ ∃ m', m' < m ∧ W (i + 1) m' (ys ++ [y]) (upd H3 D (.lst (ys ++ [y])))) ∧
        ∀ x H', (Itl K a).yld i H2 x H' → Te x H' N)) := by
  refine comp_listM (g := onI g .non) ha hD (by rw [List.length_map]; exact hn) (fun x hx H Q s q => ?_) (by rw [List.map_map]; exact hR)
  obtain ⟨n, hm, rfl⟩ := List.mem_map.mp hx
  exact hE n hm H Q s q
end
theorem Keep.free {p l : Addr} {H H' : Hp} {o : HO} (k : Keep p H H') (hl : H' l = none) (hp : H' p = some o) : H l = none := by
  cases e : H l with
  | none => rfl
  | some u =>
    have n : l ≠ p := fun z => by rw [z, hp] at hl; cases hl
    rw [k l u n e] at hl
    cases hl
/-- a list of ours that was not there before is written: all else is kept -/
theorem Keep.own {p r : Addr} {H H' : Hp} {o : HO} (k : Keep p H H') (hr : H r = none) : Keep p H (upd H' r o) := fun c u hc z => by
  rw [upd_ne (ne_of_none z hr)]
  exact k c u hc z
theorem p2pos (L : Nat) : (0 : Int) < 2 ^ L := by
  induction L with
  | zero => decide
  | succ L ih => rw [Int.pow_succ]; omega
theorem p2le {L : Nat} (h : L ≤ 40) : (2 : Int) ^ L ≤ 1099511627776 := by
  have e : (2 : Int) ^ L = ((2 ^ L : Nat) : Int) := by simp
  have : 2 ^ L ≤ 2 ^ 40 := Nat.pow_le_pow_right (by decide) h
  rw [e]
  have e2 : (2 : Nat) ^ 40 = 1099511627776 := by decide
  omega
theorem p2half (e : Nat) : (2 : Int) ^ (e + 1) / 2 = 2 ^ e := by rw [Int.pow_succ]; omega
theorem p2succ (e : Nat) : (2 : Int) ^ (e + 1) = 2 ^ e + 2 ^ e := by rw [Int.pow_succ]; omega
theorem p2one {e : Nat} (h : (2 : Int) ^ e = 1) : e = 0 := by
  cases e with
  | zero => rfl
  | succ e => have := p2pos e; rw [p2succ] at h; omega
theorem shlOne (L : Nat) : (1 : Int) * 2 ^ ((L : Int)).toNat = 2 ^ L := by rw [Int.one_mul]; rfl
end L2
/-! my own rules over the layer: things alike, however deep; list.insert -/
namespace L2
open PySem PySem.Spec PyProof.Rows
/-- two values that are alike, so deep at most: flat ones, tuples and lists of such -/
inductive Alk (K : PySem.W.Frag) (H : Hp) : Nat → V → V → Prop where
  | flat {n : Nat} {x : V} (h : flatV x = true) : Alk K H n x x
  | tup {n : Nat} {a b : Addr} {xs ys : List V} (ha : SqT K H a xs) (hb : SqT K H b ys) (hl : xs.length = ys.length) (h : ∀ (j : Nat) (x y : V), xs[j]? = some x → ys[j]? = some y → Alk K H n x y) : Alk K H (n + 1) (.ref a) (.ref b)
  | lst {n : Nat} {a b : Addr} {xs ys : List V} (ha : SqL K H a xs) (hb : SqL K H b ys) (hl : xs.length = ys.length) (h : ∀ (j : Nat) (x y : V), xs[j]? = some x → ys[j]? = some y → Alk K H n x y) : Alk K H (n + 1) (.ref a) (.ref b)
theorem eqV_self : ∀ {x : V}, flatV x = true → eqV x x = true := by
  intro x h
  cases x <;> simp [flatV] at h <;> simp [eqV]
section
variable {X : Cx}
theorem eqAt_lst {pins : List (Addr × Obj)} {σ : St} {H : Hp} {s : Shared} {A : Around} {a b : Addr} {xs ys : List V} (I : Inv X pins σ H s) (ha : SqL X.K H a xs) (hb : SqL X.K H b ys) (hl : xs.length = ys.length)
    (he : ∀ (j : Nat) (x y : V), xs[j]? = some x → ys[j]? = some y → ∀ u v, RelV x u → RelV y v → SeqAt.EqAt A.in1 s u v true) (hu : A.units < cLine) :
    SeqAt.RcAt A s (.ref a) (.ref b) true ∧ SeqAt.RcNeAt A s (.ref a) (.ref b) false := by
  obtain ⟨its, r1, p1, _⟩ := I.list ha
  obtain ⟨its2, r2, p2, _⟩ := I.list hb
  have l1 := r1.length
  have l2 := r2.length
  have hz : its.toArray.size = its2.toArray.size := by rw [List.size_toArray, List.size_toArray]; omega
  have el : ∀ (j : Nat) (h1 : j < its.toArray.size) (h2 : j < its2.toArray.size), SeqAt.EqAt A.in1 s its.toArray[j] its2.toArray[j] ((fun _ => true) j) := by
    intro j h1 h2
    have h1' : j < xs.length := by rw [List.size_toArray] at h1; omega
    have h2' : j < ys.length := by rw [List.size_toArray] at h2; omega
    obtain ⟨v1, e1, r1'⟩ := r1.get (i := j) (x := xs[j]) (List.getElem?_eq_getElem h1')
    obtain ⟨v2, e2, r2'⟩ := r2.get (i := j) (x := ys[j]) (List.getElem?_eq_getElem h2')
    have g1 : its.toArray[j] = v1 := by
      have := List.getElem?_eq_some_iff.mp e1
      simpa using this.2
    have g2 : its2.toArray[j] = v2 := by
      have := List.getElem?_eq_some_iff.mp e2
      simpa using this.2
    rw [g1, g2]
    exact he j _ _ (List.getElem?_eq_getElem h1') (List.getElem?_eq_getElem h2') _ _ r1' r2'
  have t0 : (List.range its.toArray.size).all (fun _ => true) = true := by simp
  constructor
  · rw [← t0]
    exact SeqAt.RcAt.lists p1.isList p2.isList hz hu el
  · have z := SeqAt.RcNeAt.lists (e := fun _ => true) p1.isList p2.isList hz hu el
    rw [t0] at z
    exact z
theorem alk_eqAt {pins : List (Addr × Obj)} {σ : St} {H : Hp} {s : Shared} (I : Inv X pins σ H s) {n : Nat} {x y : V} (h : Alk X.K H n x y) : ∀ (A : Around) (u v : Value), RelV x u → RelV y v → A.units + n + 1 < cLine → SeqAt.EqAt A s u v true := by
  induction h with
  | @flat n x hf =>
    intro A u v ru rv hu
    have z := eqAt_V (A := A) (s := s) ru rv hf hf
    rw [eqV_self hf] at z
    exact z
  | tup ha hb hl _ ih =>
    intro A u v ru rv hu
    cases ru
    cases rv
    exact eqAt_ref (eqAt_tup I ha hb hl (fun j x y h1 h2 u v r1 r2 => ih j x y h1 h2 A.in1 u v r1 r2 (by show A.units + 1 + _ + 1 < cLine; omega)) (by omega)).1
  | lst ha hb hl _ ih =>
    intro A u v ru rv hu
    cases ru
    cases rv
    exact eqAt_ref (eqAt_lst I ha hb hl (fun j x y h1 h2 u v r1 r2 => ih j x y h1 h2 A.in1 u v r1 r2 (by show A.units + 1 + _ + 1 < cLine; omega)) (by omega)).1
theorem alk_refs {pins : List (Addr × Obj)} {σ : St} {H : Hp} {s : Shared} (I : Inv X pins σ H s) {n : Nat} {a b : Addr} (h : Alk X.K H n (.ref a) (.ref b)) (A : Around) (hu : A.units + n + 1 < cLine) : SeqAt.RcAt A s (.ref a) (.ref b) true ∧ SeqAt.RcNeAt A s (.ref a) (.ref b) false := by
  cases h with
  | flat hf => exact absurd hf (by simp [flatV])
  | tup ha hb hl h => exact eqAt_tup I ha hb hl (fun j x y h1 h2 u v r1 r2 => alk_eqAt I (h j x y h1 h2) A.in1 u v r1 r2 (by show A.units + 1 + _ + 1 < cLine; omega)) (by omega)
  | lst ha hb hl h => exact eqAt_lst I ha hb hl (fun j x y h1 h2 u v r1 r2 => alk_eqAt I (h j x y h1 h2) A.in1 u v r1 r2 (by show A.units + 1 + _ + 1 < cLine; omega)) (by omega)
/-- x != y of two tuples or lists that are alike -/
theorem op_neAlk (hu : X.A.units + 64 < cLine) : OpR X (compareOp .NotEq) (fun x y H Q => ∃ (n : Nat) (a b : Addr), x = .ref a ∧ y = .ref b ∧ Alk X.K H n (.ref a) (.ref b) ∧ n ≤ 60 ∧ Q (.bl false) H) := by
  intro pins s σ H x y v u Q I rx ry h
  obtain ⟨n, a, b, rfl, rfl, hk, hn, q⟩ := h
  cases rx
  cases ry
  exact (alk_refs I hk X.A (by omega)).2 _ _ _ _ ⟨.bl false, H, I, rfl, q⟩
/-- x == y of two tuples or lists that are alike -/
theorem op_eqAlk (hu : X.A.units + 64 < cLine) : OpR X (compareOp .Eq) (fun x y H Q => ∃ (n : Nat) (a b : Addr), x = .ref a ∧ y = .ref b ∧ Alk X.K H n (.ref a) (.ref b) ∧ n ≤ 60 ∧ Q (.bl true) H) := by
  intro pins s σ H x y v u Q I rx ry h
  obtain ⟨n, a, b, rfl, rfl, hk, hn, q⟩ := h
  cases rx
  cases ry
  exact (alk_refs I hk X.A (by omega)).1 _ _ _ _ ⟨.bl true, H, I, rfl, q⟩
end
end L2
/-! my own rules over the layer: a list comprehension of any target, with tests or without -/
namespace L2
open PySem PySem.Spec PyProof.Rows
theorem pe_compG {X : Cx} {elt iter tg : Expr} {ifs : List Expr} {x : Str} {pos : Pos} {scope sc0 : Scope} {cl : List (Str × Addr)} {cn TN N : List Str} {fr : List Nat} {wi : TI} {gt : TG} {tt : TT} {te : TE}
    (hc : X.calm = true) (hi : PI X tg iter wi) (he : ∀ (C : Addr) (s₂ : Shared) (H₂ : Hp) (fp : List Addr), PE (compCx X scope cl C x (TN ++ N) s₂ H₂ fp) elt te) (hct : ∀ (C : Addr) (s₂ : Shared) (H₂ : Hp) (fp : List Addr), PTs (compCx X scope cl C x (TN ++ N) s₂ H₂ fp) ifs tt) (hgt : ∀ (C : Addr) (s₂ : Shared) (H₂ : Hp) (fp : List Addr), PG (compCx X scope cl C x (TN ++ N) s₂ H₂ fp) tg gt)
    (hclos : closureFor scope X.env = pure cl) (hcl : CellsIn X.env cl) (hcn : cl.map (·.1) = cn) (hsc : X.env.scope = sc0) (hk : scope.kind = .function) (hok : CompOkG scope sc0 N cn)
    (hfr : fr.map (fun j => X.N[j]?) = N.map some) (hs : ∀ v, foldedSetIterable iter X.env v = pure v := by intro _; rfl) :
    PE X (.ListComp elt [⟨tg, iter, ifs, 0⟩] scope pos) (tCompG (TN.length + 1) wi gt tt te fr) := by
  intro pins s σ H Q I h
  rw [eval_ListComp]
  refine wpAny_comprehension_free (use := none) rfl hs hclos hk hok.names (thn (hi pins s σ H _ I h) fun v s1 h1 => thn h1 fun itv s2 h2 => ?_)
  obtain ⟨it, fp, tn, J, H2, e, I2, T, st2, f2, hq⟩ := h2
  subst e
  obtain ⟨W, ⟨m0, w0⟩, turn⟩ := hq s2.heap.objs.size (I2.hok.fresh (Nat.le_refl _))
  exact comp_coreG (RR := fun acc C => compPost (model X.prog X.w) X.A X.xe none (EP X pins σ Q) acc C) (R := fun H6 => Q (.ref s2.heap.objs.size) H6) hc he hct hgt hcl hcn hsc hk hok hfr I2 T st2 f2 w0 turn
    fun C H6 s6 m6 hn I6 F6 q => ⟨m6, hn, fun h' sb => ⟨.ref s2.heap.objs.size, H6, I6.let_go F6 sb, rfl, q⟩⟩
/-- y = [.. for x in ..], straight to a local name -/
def tSetCompG (i k : Nat) (wi : TI) (gt : TG) (tt : TT) (te : TE) (fr : List Nat) : TS := fun D σ H => tCompG k wi gt tt te fr σ H fun v H1 => D.nx (σ.set i (some v)) H1
theorem ps_setCompG {X : Cx} {i : Nat} {y : Str} {py spos : Pos} {elt iter tg : Expr} {ifs : List Expr} {x : Str} {pos : Pos} {scope sc0 : Scope} {cl : List (Str × Addr)} {cn TN N : List Str} {fr : List Nat} {wi : TI} {gt : TG} {tt : TT} {te : TE}
    (hN : X.N.Nodup) (hiN : X.N[i]? = some y) (hy : Loc X.env.scope y)
    (hc : X.calm = true) (hi : PI X tg iter wi) (he : ∀ (C : Addr) (s₂ : Shared) (H₂ : Hp) (fp : List Addr), PE (compCx X scope cl C x (TN ++ N) s₂ H₂ fp) elt te) (hct : ∀ (C : Addr) (s₂ : Shared) (H₂ : Hp) (fp : List Addr), PTs (compCx X scope cl C x (TN ++ N) s₂ H₂ fp) ifs tt) (hgt : ∀ (C : Addr) (s₂ : Shared) (H₂ : Hp) (fp : List Addr), PG (compCx X scope cl C x (TN ++ N) s₂ H₂ fp) tg gt)
    (hclos : closureFor scope X.env = pure cl) (hcl : CellsIn X.env cl) (hcn : cl.map (·.1) = cn) (hsc : X.env.scope = sc0) (hk : scope.kind = .function) (hok : CompOkG scope sc0 N cn)
    (hfr : fr.map (fun j => X.N[j]?) = N.map some) (hsw : swapsWith (.ListComp elt [⟨tg, iter, ifs, 0⟩] scope pos) (some (.Name y py)) spos.line X.env = pure true)
    (hf : X.fn y = true ∨ X.env.scope.names.lookup y = some .local) (hs : ∀ v, foldedSetIterable iter X.env v = pure v := by intro _; rfl) :
    PS X (.Assign [.Name y py] (.ListComp elt [⟨tg, iter, ifs, 0⟩] scope pos) spos) (tSetCompG i (TN.length + 1) wi gt tt te fr) := by
  intro pins s σ H D I h
  rw [exec_Assign_Name_used _ _ _ _ hsw]
  refine wpAny_bind (wpAny_standAt (wpAny_bind ?_))
  show wpAny _ X.A (do let _ ← comprehension (.ListComp elt [⟨tg, iter, ifs, 0⟩] scope pos) scope X.env _ (newList []) false (eval iter X.env) (some (assign (.Name y py) X.env))) _ _ s
  refine wpAny_bind (wpAny_mono (wpAny_comprehension_free (use := some (assign (.Name y py) X.env)) (Q := fun _ s' => SP X pins D .next s') rfl hs hclos hk hok.names
    (thn (hi pins s σ H _ I h) fun v s1 h1 => thn h1 fun itv s2 h2 => ?_)) (fun _ s' hq => wpAny_pure (wpAny_pure hq)) fun _ _ e => e)
  obtain ⟨it, fp, tn, J, H2, e, I2, T, st2, f2, hq⟩ := h2
  subst e
  obtain ⟨W, ⟨m0, w0⟩, turn⟩ := hq s2.heap.objs.size (I2.hok.fresh (Nat.le_refl _))
  refine comp_coreG (RR := fun acc C => compPost (model X.prog X.w) X.A X.xe (some (assign (.Name y py) X.env)) (fun _ s' => SP X pins D .next s') acc C) (R := fun H6 => D.nx (σ.set i (some (.ref s2.heap.objs.size))) H6) hc he hct hgt hcl hcn hsc hk hok hfr I2 T st2 f2 w0 turn
    fun C H6 s6 m6 hn I6 F6 q => ?_
  show wpAny _ X.A (assign (.Name y py) X.env (.ref s2.heap.objs.size)) _ _ _
  refine wpAny_assign_Name (store_ok2 (v := .ref s2.heap.objs.size) I6 hN hiN hy rfl (fun s7 I7 ⟨a, sb, ha⟩ => ?_) hf)
  have neC : C ≠ a := by
    rcases ha with ha | ha
    · rw [ha]; exact F6.2.1
    · exact Ne.symm (F6.2.2.2.2.1 y a ha)
  exact ⟨m6, hn.sameBut sb neC, fun h' sb' => ⟨_, H6, I7.let_go F6 sb', q⟩⟩

end L2
/-! my own rules over the layer: gone through a range, each told by g, those alone that pass -/
namespace L2
open PySem PySem.Spec PyProof.Rows
section
variable {n : Nat} {lo : Int} {p : Nat → Bool} {g : Nat → V} {Tt : V → Hp → (Bool → Hp → Prop) → Prop} {Te : V → Hp → (V → Hp → Prop) → Prop} {D : Addr} {H1 : Hp} {R : Hp → Prop}
end
end L2
/-! my own rules over the layer: sum of ints; gone through a list, things made on the way; a tuple's names in a comprehension; trees alike -/
namespace L2
open PySem PySem.Spec PyProof.Rows
section
variable {X : Cx}
/-- sum(xs) of a list of ints -/
theorem call_sumI (hc : X.calm = true) : CallR X (.builtin "sum") (fun xs H Q => ∃ (p : Addr) (ns : List Int), xs = [.ref p] ∧ SqL X.K H p (ns.map V.int) ∧ Q (.int ns.sum) H) := by
  intro pins s σ H xs us Q I r h
  obtain ⟨p, ns, rfl, hq, q⟩ := h
  obtain ⟨u, rfl, rx⟩ := vals1 r
  cases rx
  obtain ⟨its, r', pl, hz⟩ := I.list hq
  have hi := intsAre_of r'
  obtain ⟨ys, hx⟩ := hi.allInts.items
  have hl' : s.heap.IsList p (intItems ys) := hx ▸ pl.isList
  refine sum_intListG (I.ok.hd hc) hl' fun h' tk t' hk => ?_
  have e1 : ns = ys.toList.map (·.1) := by
    rw [← nums_intItems, ← hx]
    exact (show numsOf its.toArray.toList = ns from hi.numsOf).symm
  have e2 : preSum (numAt ys) ys.size = ns.sum := by
    rw [preSum_eq, List.take_of_length_le (by simp), e1]
  rw [e2]
  exact ⟨.int ns.sum, H, I.kept (t' := tk) hk, ⟨_, rfl⟩, q⟩
theorem pg_tupK {K : PySem.W.Frag} {es : List Expr} {k : Nat} {t : TGs} {n : Nat} {pos : Pos} (hK : X.K = K) (hc : X.calm = true) (h : PGs X es t)
    (hn : (assignEach es X.env).length = n := by rfl) (hst : (assignEach es X.env).findIdx? (·.1) = none := by rfl) : PG X (.Tuple es k pos) (gTup K n t) := by subst hK; exact pg_tup hc h hn hst
end
/-- [.. for x in xs], xs a list that stays -/
theorem comp_listP {K : PySem.W.Frag} {a : Addr} {xs : List V} {T : V → Hp → (V → Hp → Prop) → Prop} {D : Addr} {H1 : Hp} {R : Hp → Prop} (hn : xs.length ≤ sizeLine) (Pv : Nat → List V → Hp → Prop) (h0 : Pv 0 [] (upd H1 D (.lst [])))
    (hl : ∀ i ys H, Pv i ys H → SqL K H a xs) (hD : ∀ i ys H, Pv i ys H → H D = some (.lst ys) ∧ ys.length = i)
    (hs : ∀ i x ys H, xs[i]? = some x → Pv i ys H → T x H fun y H3 => H3 D = some (.lst ys) ∧ Pv (i + 1) (ys ++ [y]) (upd H3 D (.lst (ys ++ [y]))))
    (hd : ∀ ys H, Pv xs.length ys H → R H) :
    ∃ W : Nat → Nat → List V → Hp → Prop, (∃ m, W 0 m [] (upd H1 D (.lst []))) ∧
      ∀ i m ys H2, W i m ys H2 → H2 D = some (.lst ys) ∧ (((Itl K a).stop i H2 ∧ R H2) ∨ ((Itl K a).go i H2 ∧ ys.length < sizeLine ∧ ∃ N : V → Hp → Prop, (∀ y H3, N y H3 → H3 D = some (.lst ys) ∧ ∃ m', m' < m ∧ W (i + 1) m' (ys ++ [y]) (upd H3 D (.lst (ys ++ [y])))) ∧
        ∀ x H', (Itl K a).yld i H2 x H' → T x H' N)) := by
  refine ⟨fun i m ys H => m = xs.length - i ∧ i ≤ xs.length ∧ Pv i ys H, ⟨xs.length, by simp, Nat.zero_le _, h0⟩, ?_⟩
  rintro i m ys H2 ⟨rfl, hi, p⟩
  obtain ⟨d1, d2⟩ := hD i ys H2 p
  have q := hl i ys H2 p
  refine ⟨d1, ?_⟩
  by_cases hlt : i < xs.length
  · refine .inr ⟨⟨xs, xs[i], q, by simp [hlt]⟩, by omega, fun y H3 => H3 D = some (.lst ys) ∧ Pv (i + 1) (ys ++ [y]) (upd H3 D (.lst (ys ++ [y]))), fun y H3 ⟨z1, z2⟩ => ⟨z1, xs.length - (i + 1), by omega, rfl, hlt, z2⟩, fun x H' y => ?_⟩
    obtain ⟨e, y⟩ := y
    subst e
    exact hs i x ys _ (y xs q) p
  · have e : i = xs.length := by omega
    subst e
    exact .inl ⟨⟨xs, q, Nat.le_refl _⟩, hd ys H2 p⟩
theorem Alk.up {K : PySem.W.Frag} {H : Hp} {n m : Nat} {x y : V} (h : Alk K H n x y) : n ≤ m → Alk K H m x y := by
  induction h generalizing m with
  | flat hf => exact fun _ => .flat hf
  | @tup n a b xs ys ha hb hl h ih =>
    intro hm
    obtain ⟨m', rfl⟩ : ∃ m', m = m' + 1 := ⟨m - 1, by omega⟩
    exact .tup ha hb hl fun j x y h1 h2 => ih j x y h1 h2 (by omega)
  | @lst n a b xs ys ha hb hl h ih =>
    intro hm
    obtain ⟨m', rfl⟩ : ∃ m', m = m' + 1 := ⟨m - 1, by omega⟩
    exact .lst ha hb hl fun j x y h1 h2 => ih j x y h1 h2 (by omega)
end L2
/-! my own rules over the layer: t >= u, t * n of tuples, xs != [] -/
namespace HT
open PySem PySem.Spec PyProof.Rows
section
open PySem.SeqAt
open PySem.AutoSeq1 (wpAny_loadPart')
open PySem.MeetsSeq PySem.MeetsSeq2 PySem.MeetsSeq3
end
section
variable {prog : Program} {w : World} {A : Around} {E : Value → Shared → Prop} {s : Shared}
end
end HT
namespace L2
open PySem PySem.Spec PyProof.Rows
section
variable {X : Cx}
end
/-- a comprehension with a test, the heap growing -/
theorem compIf_listP {K : PySem.W.Frag} {a : Addr} {xs : List V} {Tt : V → Hp → (Bool → Hp → Prop) → Prop} {Te : V → Hp → (V → Hp → Prop) → Prop} {D : Addr} {H1 : Hp} {R : Hp → Prop} (hn : xs.length ≤ sizeLine) (Pv : Nat → List V → Hp → Prop) (h0 : Pv 0 [] (upd H1 D (.lst [])))
    (hl : ∀ i ys H, Pv i ys H → SqL K H a xs) (hD : ∀ i ys H, Pv i ys H → H D = some (.lst ys) ∧ ys.length ≤ i)
    (hs : ∀ i x ys H, xs[i]? = some x → Pv i ys H → Tt x H fun b H3 => if b = true then Te x H3 (fun y H4 => H4 D = some (.lst ys) ∧ Pv (i + 1) (ys ++ [y]) (upd H4 D (.lst (ys ++ [y])))) else ∃ m', m' < xs.length - i ∧ m' = xs.length - (i + 1) ∧ i + 1 ≤ xs.length ∧ Pv (i + 1) ys H3)
    (hd : ∀ ys H, Pv xs.length ys H → R H) :
    ∃ W : Nat → Nat → List V → Hp → Prop, (∃ m, W 0 m [] (upd H1 D (.lst []))) ∧
      ∀ i m ys H2, W i m ys H2 → H2 D = some (.lst ys) ∧ (((Itl K a).stop i H2 ∧ R H2) ∨ ((Itl K a).go i H2 ∧ ys.length < sizeLine ∧ ∃ N : V → Hp → Prop, (∀ y H3, N y H3 → H3 D = some (.lst ys) ∧ ∃ m', m' < m ∧ W (i + 1) m' (ys ++ [y]) (upd H3 D (.lst (ys ++ [y])))) ∧
        ∀ x H', (Itl K a).yld i H2 x H' → Tt x H' fun b H3 => if b = true then Te x H3 N else ∃ m', m' < m ∧ W (i + 1) m' ys H3)) := by
  refine ⟨fun i m ys H => m = xs.length - i ∧ i ≤ xs.length ∧ Pv i ys H, ⟨xs.length, by simp, Nat.zero_le _, h0⟩, ?_⟩
  rintro i m ys H2 ⟨rfl, hi, p⟩
  obtain ⟨d1, d2⟩ := hD i ys H2 p
  have q := hl i ys H2 p
  refine ⟨d1, ?_⟩
  by_cases hlt : i < xs.length
  · refine .inr ⟨⟨xs, xs[i], q, by simp [hlt]⟩, by omega, fun y H3 => H3 D = some (.lst ys) ∧ Pv (i + 1) (ys ++ [y]) (upd H3 D (.lst (ys ++ [y]))), fun y H3 ⟨z1, z2⟩ => ⟨z1, xs.length - (i + 1), by omega, rfl, hlt, z2⟩, fun x H' y => ?_⟩
    obtain ⟨e, y⟩ := y
    subst e
    exact hs i x ys _ (y xs q) p
  · have e : i = xs.length := by omega
    subst e
    exact .inl ⟨⟨xs, q, Nat.le_refl _⟩, hd ys H2 p⟩
end L2
/-! my own rules over the layer: t == () of any tuple; sum of a tuple of ints; tuples written or joined that are known to the object -/
namespace L2
open PySem PySem.Spec PyProof.Rows
section
variable {X : Cx}
/-- a written tuple, known to the object -/
def tTupF (t : TA) : TE := fun σ H Q => t σ H fun xs H1 => xs.length ≤ sizeLine ∧ ∀ p H', Same H1 H' → TupF H' p xs → Q (.ref p) H'
end
end L2
/-! my own rules over the layer: min and max of a list of ints -/
namespace L2
open PySem PySem.Spec PyProof.Rows
section
variable {X : Cx}
theorem best_in {ys : Array (Int × Tok)} {k : Nat} {v : Value} (h : (intItems ys)[k]? = some v) : ∃ t, v = .int (numAt ys k) t ∧ k < ys.size := by
  unfold intItems at h
  rw [Array.getElem?_map] at h
  cases e : ys[k]? with
  | none => rw [e] at h; cases h
  | some y =>
    rw [e] at h
    refine ⟨y.2, ?_, (Array.getElem?_eq_some_iff.mp e).1⟩
    have e2 : numAt ys k = y.1 := by
      unfold numAt
      simp [e, Array.getD_eq_getD_getElem?]
    rw [e2]
    exact (Option.some.inj h).symm
theorem num_mem {ys : Array (Int × Tok)} {k : Nat} (h : k < ys.size) : numAt ys k ∈ ys.toList.map (·.1) := by
  refine List.mem_map.mpr ⟨ys[k], by simp, ?_⟩
  unfold numAt
  simp [h]
theorem num_of {ys : Array (Int × Tok)} {a : Int} (h : a ∈ ys.toList.map (·.1)) : ∃ j, j < ys.size ∧ numAt ys j = a := by
  obtain ⟨y, hy, rfl⟩ := List.mem_map.mp h
  obtain ⟨j, hj, e⟩ := List.mem_iff_getElem.mp hy
  refine ⟨j, by simpa using hj, ?_⟩
  unfold numAt
  have : ys[j]'(by simpa using hj) = y := by simpa using e
  simp [this, show j < ys.size by simpa using hj]
theorem call_minL (hc : X.calm = true) : CallR X (.builtin "min") (fun xs H Q => ∃ (p : Addr) (ns : List Int), xs = [.ref p] ∧ SqL X.K H p (ns.map V.int) ∧ 0 < ns.length ∧ ∀ M, M ∈ ns → (∀ a ∈ ns, M ≤ a) → Q (.int M) H) := by
  intro pins s σ H xs us Q I r h
  obtain ⟨p, ns, rfl, hq, hn, q⟩ := h
  obtain ⟨u, rfl, rx⟩ := vals1 r
  cases rx
  obtain ⟨its, r', pl, hz⟩ := I.list hq
  have hi := intsAre_of r'
  obtain ⟨ys, hx⟩ := hi.allInts.items
  have hl' : s.heap.IsList p (intItems ys) := hx ▸ pl.isList
  have e1 : ns = ys.toList.map (·.1) := by
    rw [← nums_intItems, ← hx]
    exact (show numsOf its.toArray.toList = ns from hi.numsOf).symm
  have hsz : 0 < ys.size := by rw [e1] at hn; simpa using hn
  refine min_intList (I.ok.hd hc) hl' hsz fun v h' tk hv hk => ?_
  obtain ⟨t, rfl, hlt⟩ := best_in hv
  refine ⟨.int _, H, I.kept (t' := tk) hk, ⟨_, rfl⟩, q _ (by rw [e1]; exact num_mem hlt) (fun a ha => ?_)⟩
  rw [e1] at ha
  obtain ⟨j, hj, rfl⟩ := num_of ha
  exact (argBest_lt (numAt ys) (ys.size - 1)).2 j (by omega)
theorem call_maxL (hc : X.calm = true) : CallR X (.builtin "max") (fun xs H Q => ∃ (p : Addr) (ns : List Int), xs = [.ref p] ∧ SqL X.K H p (ns.map V.int) ∧ 0 < ns.length ∧ ∀ M, M ∈ ns → (∀ a ∈ ns, a ≤ M) → Q (.int M) H) := by
  intro pins s σ H xs us Q I r h
  obtain ⟨p, ns, rfl, hq, hn, q⟩ := h
  obtain ⟨u, rfl, rx⟩ := vals1 r
  cases rx
  obtain ⟨its, r', pl, hz⟩ := I.list hq
  have hi := intsAre_of r'
  obtain ⟨ys, hx⟩ := hi.allInts.items
  have hl' : s.heap.IsList p (intItems ys) := hx ▸ pl.isList
  have e1 : ns = ys.toList.map (·.1) := by
    rw [← nums_intItems, ← hx]
    exact (show numsOf its.toArray.toList = ns from hi.numsOf).symm
  have hsz : 0 < ys.size := by rw [e1] at hn; simpa using hn
  refine max_intList (I.ok.hd hc) hl' hsz fun v h' tk hv hk => ?_
  obtain ⟨t, rfl, hlt⟩ := best_in hv
  refine ⟨.int _, H, I.kept (t' := tk) hk, ⟨_, rfl⟩, q _ (by rw [e1]; exact num_mem hlt) (fun a ha => ?_)⟩
  rw [e1] at ha
  obtain ⟨j, hj, rfl⟩ := num_of ha
  exact (argBest_gt (numAt ys) (ys.size - 1)).2 j (by omega)
end
end L2
/-! my own rules over the layer: a pair in a list of pairs; xs == []; a <= b <= c < d -/
namespace L2
open PySem PySem.Spec PyProof.Rows
def pairV (H : Hp) : Value → Option (Int × Int)
  | .ref b => match H b with
    | some (.tup [.int i, .int j]) => some (i, j)
    | _ => none
  | _ => none
section
variable {X : Cx}
def PairsIn (H : Hp) (xs : List V) (ps : List (Int × Int)) : Prop := xs.length = ps.length ∧ ∀ (j : Nat) (x : V) (q : Int × Int), xs[j]? = some x → ps[j]? = some q → ∃ b, x = .ref b ∧ H b = some (.tup [.int q.1, .int q.2])
/-- a op1 b op2 c op3 d, as a test -/
def tChain3 (r r' r'' : R2) (ta tb tc td : TE) : TE := fun σ H Q => ta σ H fun x H1 => tb σ H1 fun y H2 => r x y H2 fun z H3 => ∃ k, z = .bl k ∧
  (if k = true then tc σ H3 fun w' H4 => r' y w' H4 fun z2 H5 => ∃ k2, z2 = .bl k2 ∧ (if k2 = true then td σ H5 fun w'' H6 => r'' w' w'' H6 Q else Q (.bl false) H5) else Q (.bl false) H3)
variable {a b c d : Expr} {ta tb tc td : TE} {pos : Pos}
end
end L2
namespace RV
open PySem PyProof.Rows
theorem owner_rv : Manifest.owners.lookup (String.ofList ['d', 'e', 's', 'r', 'e', 'v', 'e', 'r'].reverse) = some Manifest.sig_reversed := by kernel_rfl
theorem slot_next : Slot "reversed" "__next__" "reversed.__next__" :=
  .of (owner := "reversed") (n := "__next__") (by rw [typeLookup_type, builtinLookup_eq_fast]; kernel_rfl) (by decide +kernel) (by decide +kernel) (by decide +kernel)
    (by first | exact .inl (by decide +kernel) | exact .inr (by decide +kernel)) (by rw [isSubtype_type]; kernel_rfl)
theorem entry_next : entryFor table "reversed.__next__" = some Builtin.«reversed.__next__» := entryFor_of_tree (by kernel_rfl)
theorem args_next (a : Value) : argsOk "reversed.__next__" ⟨[a], []⟩ := by
  unfold argsOk; rw [signature?_of (id := "reversed.__next__") (n := ['_', '_', 't', 'x', 'e', 'n', '_', '_']) (o := ['d', 'e', 's', 'r', 'e', 'v', 'e', 'r']) (by kernel_rfl) owner_rv]; kernel_rfl
theorem slot_iter : Slot "reversed" "__iter__" "reversed.__iter__" :=
  .of (owner := "reversed") (n := "__iter__") (by rw [typeLookup_type, builtinLookup_eq_fast]; kernel_rfl) (by decide +kernel) (by decide +kernel) (by decide +kernel)
    (by first | exact .inl (by decide +kernel) | exact .inr (by decide +kernel)) (by rw [isSubtype_type]; kernel_rfl)
theorem no_reversed : typeLookup (.type "tuple") "__reversed__" = pure none := by rw [typeLookup_type, builtinLookup_eq_fast]; kernel_rfl
section
variable {prog : Program} {w : World} {A : Around} {E : Value → Shared → Prop} {s : Shared}
def rvObj (l : Addr) (i : Int) : Obj := { cls := .type "reversed", data := .fields #[.ref l, rawInt i] }
def IsRv (h : Heap) (a l : Addr) (i : Int) : Prop := ∃ o, h.get? a = some o ∧ o.cls = .type "reversed" ∧ o.data = .fields #[.ref l, rawInt i]
theorem IsRv.typeIs {a l : Addr} {i : Int} (x : IsRv s.heap a l i) : s.TypeIs (.ref a) "reversed" := let ⟨o, ho, hc, _⟩ := x; ⟨o, ho, hc⟩
/-- reversed(t) of a tuple -/
theorem code_new {l : Addr} {items : Array Value} {Q₁ : Value → Shared → Prop} (hl : s.heap.IsTuple l items) (hz : items.size ≤ 1000)
    (h : ∀ tk, Q₁ (.ref s.heap.objs.size) { s with heap := s.heap.push (rvObj l ((items.size : Int) - 1)), toks := tk }) :
    codeAny (model prog w) A (.call (.builtin "reversed.__new__") ⟨[.type "reversed", .ref l], []⟩) (wants Q₁ E) s := by
  refine codeAny_of_tree ?_
  show wpAny _ A.in1 (do checkBuiltinCall "reversed.__new__" ⟨[.type "reversed", .ref l], []⟩; again (.builtin "reversed.__new__" ⟨[.type "reversed", .ref l], []⟩)) _ _ s
  refine wpAny_bind (wpAny_of_eq (F.newCall_reversed_1 _) (wpAny_pure ⟨plainId_quiet F.plain_reversed_new _, codeAny_builtin F.entry_reversed_new ?_⟩))
  rw [Around.under_plainId F.plain_reversed_new _]
  unfold Builtin.«reversed.__new__»
  refine wpAny_bind (wpAny_of_eq (newClass_reversed _) ?_)
  try dsimp only
  refine wpAny_bind (wpAny_of_eq (a := ()) (by first | rfl | kernel_rfl) ?_)
  refine wpAny_bind (wpAny_of_eq (a := ()) (by first | rfl | kernel_rfl) ?_)
  try dsimp only
  refine wpAny_bind (wpAny_specialOf hl.typeIs no_reversed ?_)
  try dsimp only
  refine wpAny_bind (wpAny_bind (wpAny_isInstance (T := "tuple") (b := false) hl.typeIs (by rw [isSubtype_type]; kernel_rfl) ?_))
  try dsimp only
  rw [if_neg Bool.false_ne_true]
  refine wpAny_bind (wpAny_specialOf hl.typeIs F.slot_tuple_getitem.lookup ?_)
  try dsimp only
  rw [if_pos (show (["tuple.__getitem__", "str.__getitem__", "bytes.__getitem__", "bytearray.__getitem__", "memoryview.__getitem__", "numpy.ndarray.__getitem__", "sqlite3.Row.__getitem__"].contains "tuple.__getitem__") = true by decide +kernel)]
  refine wpAny_pure ?_
  rw [if_neg (by decide)]
  obtain ⟨o, ho, hc, n, hd⟩ := id hl
  refine wpAny_bind (PyProof.Rows.len_tuple ⟨o, ho, hc, n, hd⟩ (by omega) ?_)
  refine wpAny_bind (m := asInt? _) (wpAny_pure ?_)
  try dsimp only
  refine wpAny_bind ?_
  show wpAny _ _ (newObj (.type "reversed") (.fields #[.ref l, rawInt ((items.size : Int) - 1)])) _ _ _
  exact wpAny_newObj_type (wpAny_pure (h _))
theorem next_item {it l : Addr} {i : Nat} {items : Array Value} {x : Value} {Q : Option Value → Shared → Prop} (hit : IsRv s.heap it l (i : Int)) (hl : s.heap.IsTuple l items) (hz : items.size ≤ 1000) (hx : items[i]? = some x)
    (hQ : ∀ h' tk, IsRv h' it l ((i : Int) - 1) → Heap.SameBut it s.heap h' → Q (some x) { s with heap := h', toks := tk }) : wpAny (model prog w) A (pyNext (.ref it)) Q E s := by
  obtain ⟨o, ho, hc, hd⟩ := id hit
  unfold pyNext
  refine wpAny_bind (wpAny_attempt (wpAny_callSpecial?_slot (name := Str.ofString "__next__") hit.typeIs slot_next
    (wpAny_call_entry slot_next hit.typeIs entry_next ?_ (args_next _))))
  unfold Builtin.«reversed.__next__»
  refine wpAny_bind (wpAny_of_eq (a := (Value.ref it, [])) rfl ?_)
  try dsimp only
  refine wpAny_bind (wpAny_field ho hd (x := .ref l) rfl ?_)
  refine wpAny_bind (wpAny_field ho hd (x := rawInt (i : Int)) rfl ?_)
  show wpAny _ _ (if (i : Int) < 0 then _ else _) _ _ s
  rw [if_neg (by omega)]
  refine wpAny_bind (wpAny_specialOf hl.typeIs F.slot_tuple_getitem.lookup ?_)
  try dsimp only
  rw [if_neg (by decide)]
  obtain ⟨ol, hol, hcl, nl, hdl⟩ := id hl
  refine wpAny_bind (wpAny_mkInt ?_)
  have hi : i < items.size := (Array.getElem?_eq_some_iff.mp hx).1
  refine wpAny_bind (wpAny_attempt (PyProof.Rows.getItem_tuple (j := i) ⟨ol, hol, hcl, nl, hdl⟩ (by omega) (by omega) ?_ hx ?_))
  · unfold seqIndex?
    simp
    omega
  try dsimp only
  refine wpAny_bind (wpAny_field ho hd (x := rawInt (i : Int)) rfl ?_)
  show wpAny _ _ (setField (Value.ref it) 1 (rawInt ((i : Int) - 1)) >>= _) _ _ _
  refine wpAny_bind (wpAny_setField ho hd (by simp) ?_)
  refine wpAny_pure ⟨x, rfl, wpAny_pure (hQ _ _ ?_ (Heap.SameBut.update ..))⟩
  exact ⟨_, Heap.get?_update_self _ ho (Obj.isFreed_of_fields (Obj.data_mapFields hd _)), (Obj.cls_mapFields ..).trans hc, by
    rw [Obj.data_mapFields hd]; simp⟩
theorem stop_rv {α : Type} (hh : A.handled = none) {Q : α → Shared → Prop} {E' : Value → Shared → Prop} (h : ∀ (h' : Heap) (e : Addr), (∀ b o, s.heap.get? b = some o → h'.get? b = some o) → (∃ o, h'.get? e = some o ∧ o.cls = .type "StopIteration") → E' (.ref e) { s with heap := h' }) :
    wpAny (model prog w) A (Builtin.SmallTypes.stopIteration : Sem α) Q E' s := by
  unfold Builtin.SmallTypes.stopIteration
  refine wpAny_bind ?_
  simp only [newExc, newTuple]
  refine wpAny_bind (wpAny_newObj_type ?_ (by size_fits))
  refine wpAny_bind (m := firstArgMember _ _) (wpAny_of_eq (a := Value.none) (by first | rfl | (simp only [firstArgMember]; rfl)) ?_)
  refine wpAny_newObj_type ?_ (by size_fits)
  simp only [raiseNew]
  refine wpAny_bind (wpAny_handled ?_)
  rw [hh]
  exact wpAny_bind (wpAny_pure (wpAny_throw (h _ _ (fun b o e => Heap.get?_push_of_some _ (Heap.get?_push_of_some _ e)) ⟨_, Heap.get?_push_size _ rfl, rfl⟩)))
theorem next_done {it l : Addr} {Q : Option Value → Shared → Prop} (hh : A.handled = none) (hit : IsRv s.heap it l (-1)) (hQ : ∀ h', (∀ b o, b ≠ it → s.heap.get? b = some o → h'.get? b = some o) → Q none { s with heap := h' }) : wpAny (model prog w) A (pyNext (.ref it)) Q E s := by
  obtain ⟨o, ho, hc, hd⟩ := id hit
  unfold pyNext
  refine wpAny_bind (wpAny_attempt (wpAny_callSpecial?_slot (name := Str.ofString "__next__") hit.typeIs slot_next
    (wpAny_call_entry slot_next hit.typeIs entry_next ?_ (args_next _))))
  unfold Builtin.«reversed.__next__»
  refine wpAny_bind (wpAny_of_eq (a := (Value.ref it, [])) rfl ?_)
  try dsimp only
  refine wpAny_bind (wpAny_field ho hd (x := .ref l) rfl ?_)
  refine wpAny_bind (wpAny_field ho hd (x := rawInt (-1)) rfl ?_)
  show wpAny _ _ (if (-1 : Int) < 0 then _ else _) _ _ s
  rw [if_pos (by decide)]
  refine wpAny_bind (wpAny_rule (wpAny_bind ?_))
  show wpAny _ _ (setField (Value.ref it) 1 (rawInt (-1)) >>= fun _ => setField (Value.ref it) 0 .none) _ _ _
  refine wpAny_bind (wpAny_setField ho hd (by simp) ?_)
  have ho2 := Heap.get?_update_self (Obj.mapFields (·.setIfInBounds 1 (rawInt (-1)))) ho (Obj.isFreed_of_fields (Obj.data_mapFields hd _))
  refine wpAny_setField ho2 (Obj.data_mapFields hd _) (by simp) ?_
  refine wpAny_bind (stop_rv (A := A.in1) (show A.in1.handled = none from hh) fun h' e kp he => ?_)
  obtain ⟨u, hu, hcu⟩ := he
  refine wpAny_bind (wpAny_isInstance (T := "StopIteration") (b := true) ⟨u, hu, hcu⟩ isSubtype_stop (wpAny_pure (hQ h' fun b o hb e => kp b o ?_)))
  exact ((Heap.SameBut.update ..).2 b hb).trans (((Heap.SameBut.update ..).2 b hb).trans e)
theorem rv_self {it l : Addr} {i : Int} {Q : Value → Shared → Prop} (hit : IsRv s.heap it l i) (h : Q (.ref it) s) : wpAny (model prog w) A (pyIter (.ref it)) Q E s := by
  refine wpAny_pyIter_slot hit.typeIs slot_iter (wpAny_call_entry (b := Builtin.«dict_keyiterator.__iter__») slot_iter hit.typeIs (entryFor_alias (id' := "dict_keyiterator.__iter__") (by kernel_rfl) rfl (by decide +kernel) (by kernel_rfl)) ?_ ?_)
  · exact wpAny_pure ⟨_, rfl, "reversed", _, hit.typeIs, slot_next.lookup, h⟩
  · unfold argsOk; rw [signature?_of (id := "reversed.__iter__") (n := ['_', '_', 'r', 'e', 't', 'i', '_', '_']) (o := ['d', 'e', 's', 'r', 'e', 'v', 'e', 'r']) (by kernel_rfl) owner_rv]; kernel_rfl
theorem walk_rv (hh : A.handled = none) (I l : Addr) (hne : l ≠ I) (items : Array Value) (hz : items.size ≤ 1000) :
    Walks prog w A I [I, l] [I] items.size (fun i v => items.toList.reverse[i]? = some v) (fun i h => IsRv h I l ((items.size : Int) - 1 - i) ∧ h.IsTuple l items) where
  sub := fun b hb => by simp at hb; simp [hb]
  frame := fun i h h' st hk => by
    obtain ⟨⟨o, ho, r⟩, ⟨u, hu, q⟩⟩ := st
    exact ⟨⟨o, hk I (by simp) _ ho, r⟩, ⟨u, hk l (by simp) _ hu, q⟩⟩
  item := fun i s Q E hi st hQ => by
    have e : ((items.size : Int) - 1 - i) = ((items.size - 1 - i : Nat) : Int) := by omega
    have h1 := st.1
    rw [e] at h1
    have hj : items.size - 1 - i < items.size := by omega
    refine next_item h1 st.2 hz (x := items[items.size - 1 - i]) (Array.getElem?_eq_getElem hj) fun h' tk hit' hs' => ?_
    refine hQ _ h' tk ?_ ⟨?_, ?_⟩ fun b o hb z => (hs'.2 b (fun q => hb (by simp [q]))).trans z
    · rw [List.getElem?_reverse (by simpa using hi), Array.length_toList, Array.getElem?_toList, Array.getElem?_eq_getElem hj]
    · have e2 : ((items.size : Int) - 1 - ((i + 1 : Nat) : Int)) = ((items.size - 1 - i : Nat) : Int) - 1 := by omega
      rw [e2]
      exact hit'
    · obtain ⟨u, hu, q⟩ := st.2
      exact ⟨u, (hs'.2 l hne).trans hu, q⟩
  done := fun s Q E st hQ => by
    have h1 := st.1
    rw [show ((items.size : Int) - 1 - (items.size : Nat)) = -1 by omega] at h1
    exact next_done hh h1 fun h' kp => hQ h' s.toks fun b o hb z => kp b o (fun q => hb (by simp [q])) z
  self := fun i s Q E st hQ => rv_self st.1 hQ
theorem slot_hint : Slot "reversed" "__length_hint__" "reversed.__length_hint__" :=
  .of (owner := "reversed") (n := "__length_hint__") (by rw [typeLookup_type, builtinLookup_eq_fast]; kernel_rfl) (by decide +kernel) (by decide +kernel) (by decide +kernel)
    (by first | exact .inl (by decide +kernel) | exact .inr (by decide +kernel)) (by rw [isSubtype_type]; kernel_rfl)
theorem entry_hint : entryFor table "reversed.__length_hint__" = some Builtin.«reversed.__length_hint__» := entryFor_of_tree (by kernel_rfl)
theorem no_len : typeLookup (.type "reversed") "__len__" = pure none := by rw [typeLookup_type, builtinLookup_eq_fast]; kernel_rfl
theorem args_hint (a : Value) : argsOk "reversed.__length_hint__" ⟨[a], []⟩ := by
  unfold argsOk; rw [signature?_of (id := "reversed.__length_hint__") (n := ['_', '_', 't', 'n', 'i', 'h', '_', 'h', 't', 'g', 'n', 'e', 'l', '_', '_']) (o := ['d', 'e', 's', 'r', 'e', 'v', 'e', 'r']) (by kernel_rfl) owner_rv]; kernel_rfl
theorem hint_call {I l : Addr} {items : Array Value} {Q : Value → Shared → Prop} (hit : IsRv s.heap I l ((items.size : Int) - 1)) (hl : s.heap.IsTuple l items) (hz : items.size ≤ 1000) (h : ∀ tk t, Q (.int (items.size : Int) t) { s with toks := tk }) :
    wpAny (model prog w) A (call (.builtin "reversed.__length_hint__") [.ref I]) Q E s := by
  obtain ⟨o, ho, hc, hd⟩ := id hit
  refine wpAny_call_entry slot_hint hit.typeIs entry_hint ?_ (args_hint _)
  unfold Builtin.«reversed.__length_hint__»
  refine wpAny_bind (wpAny_of_eq (a := Value.ref I) rfl ?_)
  refine wpAny_bind (wpAny_field ho hd (x := .ref l) rfl ?_)
  rw [if_neg (show ¬ ((Value.ref l == Value.none) = true) from Bool.false_ne_true)]
  refine wpAny_bind (PyProof.Rows.len_tuple hl (by omega) ?_)
  refine wpAny_bind (m := asInt? _) (wpAny_pure ?_)
  try dsimp only
  refine wpAny_bind (wpAny_field (s := { s with toks := _ }) ho hd (x := rawInt ((items.size : Int) - 1)) rfl ?_)
  show wpAny _ _ (if (items.size : Int) < (items.size : Int) - 1 + 1 then _ else retInt ((items.size : Int) - 1 + 1)) _ _ _
  rw [if_neg (by omega), show (items.size : Int) - 1 + 1 = (items.size : Int) by omega]
  exact wpAny_bind (wpAny_mkInt (wpAny_pure ⟨_, rfl, h _ _⟩))
/-- the things of reversed(t), collected -/
theorem collect_rv {I l : Addr} {items : Array Value} {Q : List Value → Shared → Prop} (hh : A.handled = none) (hit : IsRv s.heap I l ((items.size : Int) - 1)) (hl : s.heap.IsTuple l items) (hne : l ≠ I) (hz : items.size ≤ 1000)
    (h : ∀ (h' : Heap) (tk : Nat), (∀ b o, b ≠ I → s.heap.get? b = some o → h'.get? b = some o) → s.heap.objs.size ≤ h'.objs.size → Q items.toList.reverse { s with heap := h', toks := tk }) : wpAny (model prog w) A (collect (.ref I)) Q E s := by
  obtain ⟨oI, hoI, hcI, hdI⟩ := id hit
  obtain ⟨ol, hol, rl⟩ := id hl
  unfold collect
  refine wpAny_bind (wpAny_runValue (codeAny_builtin PySem.F.entry_proto_collect ?_))
  rw [Around.under_plainId PySem.F.plain_proto_collect _]
  show wpAny _ A.in1 (newList [] >>= fun l => again (.builtin "list.__iadd__" ⟨[l, .ref I], []⟩)) _ _ s
  refine wpAny_bind (wpAny_newObj_type (wpAny_pure ⟨plainId_quiet PySem.F.plain_list_iadd _, codeAny_builtin PySem.F.entry_list_iadd ?_⟩))
  rw [Around.under_plainId PySem.F.plain_list_iadd _]
  generalize e0 : s.heap.push { cls := .type "list", data := .seq ([] : List Value).toArray } = h0
  have g0 : h0.get? s.heap.objs.size = some { cls := .type "list", data := .seq ([] : List Value).toArray } := by rw [← e0]; exact Heap.get?_push_size _ rfl
  have k0 : ∀ b o, s.heap.get? b = some o → h0.get? b = some o := fun b o z => by rw [← e0]; exact Heap.get?_push_of_some _ z
  have hit0 : IsRv h0 I l ((items.size : Int) - 1) := ⟨oI, k0 _ _ hoI, hcI, hdI⟩
  have hl0 : h0.IsTuple l items := ⟨ol, k0 _ _ hol, rl⟩
  have hIl : I < s.heap.objs.size := Heap.lt_size hoI
  have hll : l < s.heap.objs.size := Heap.lt_size hol
  have h1 : Builtin.List.listSameRef (.ref s.heap.objs.size) (.ref I) = false := by simp [Builtin.List.listSameRef, Nat.ne_of_gt hIl]
  have hT : Shared.TypeIs { s with heap := h0 } (.ref I) "reversed" := ⟨oI, k0 _ _ hoI, hcI⟩
  show wpAny _ A.in1 (Builtin.List.listExtendWith (.ref s.heap.objs.size) (.ref I) (.ref s.heap.objs.size)) _ _ _
  unfold Builtin.List.listExtendWith
  refine wpAny_bind (wpAny_typeOf hT ?_)
  rw [if_neg (by rw [h1]; decide)]
  refine wpAny_bind (rv_self (s := { s with heap := h0 }) hit0 ?_)
  have W := walk_rv (prog := prog) (w := w) (A := A.in1) (show A.in1.handled = none from hh) I l hne items hz
  have hn : items.size ≤ sizeLine := by rw [sizeLine_eq]; omega
  have hSf : s.heap.objs.size ∉ [I, l] := fun z => by
    rcases List.mem_cons.mp z with q | q
    · exact absurd q (Nat.ne_of_gt hIl)
    · exact absurd (List.mem_singleton.mp q) (Nat.ne_of_gt hll)
  have hend : ∀ (h2 : Heap) (c2 tk2 : Nat), (∀ b o, b ≠ s.heap.objs.size → h0.get? b = some o → h2.get? b = some o) → h2.get? s.heap.objs.size = some { cls := .type "list", data := .seq #[] c2 } → codeAny (model prog w) A (.builtin "list.extend.loop" ⟨[.ref s.heap.objs.size, .ref I, .ref s.heap.objs.size], []⟩) (fun r s' => match r with
      | .ok (.ret (.ref a)) => a = s.heap.objs.size ∧ ∃ acc c, s'.heap.get? s.heap.objs.size = some { cls := .type "list", dict := none, data := .seq acc c, slots := #[] } ∧ Q acc.toList s'
      | _ => False) { s with heap := h2, toks := tk2 } := by
    intro h2 c2 tk2 k2 g2
    have st : IsRv h2 I l ((items.size : Int) - 1 - (0 : Nat)) ∧ h2.IsTuple l items := by
      rw [show (items.size : Int) - 1 - (0 : Nat) = (items.size : Int) - 1 by omega]
      exact ⟨⟨oI, k2 _ _ (Nat.ne_of_lt hIl) (k0 _ _ hoI), hcI, hdI⟩, ⟨ol, k2 _ _ (Nat.ne_of_lt hll) (k0 _ _ hol), rl⟩⟩
    refine codeAny_extend_loopS W.toS hn _ hSf _ items.size 0 _ #[] _ rfl (Nat.zero_le _) st g2 (ItemsOf.nil _) fun s' acc c hm hS' hacc => ?_
    refine ⟨rfl, acc, c, hS', ?_⟩
    have ea : acc.toList = items.toList.reverse := by
      apply List.ext_getElem?
      intro j
      rcases Nat.lt_or_ge j acc.size with z | z
      · rw [hacc.2 j _ (Array.getElem?_eq_getElem z), Array.getElem?_toList, Array.getElem?_eq_getElem z]
      · rw [List.getElem?_eq_none (by simpa using z), List.getElem?_eq_none (by rw [List.length_reverse, Array.length_toList, ← hacc.1]; exact z)]
    obtain ⟨h', g', d', tk', os'⟩ := s'
    have eg : g' = s.gens := hm.gens
    have ed : d' = s.drawn := hm.drawn
    have eo : os' = s.os := hm.os
    subst eg; subst ed; subst eo
    rw [ea]
    refine h h' tk' (fun b u hb z => hm.heap b u (fun q => ?_) (k2 b u (Nat.ne_of_lt (Heap.lt_size z)) (k0 b u z))) (Nat.le_of_lt (Heap.lt_size hS'))
    rcases List.mem_cons.mp q with q | q
    · exact absurd q (Nat.ne_of_lt (Heap.lt_size z))
    · exact hb (List.mem_singleton.mp q)
  refine wpAny_bind (wpAny_holding ?_)
  unfold Builtin.List.listLengthHint
  refine wpAny_bind (wpAny_specialOf hT no_len ?_)
  show wpAny _ A.in1 (specialOf (Value.ref I) (Str.ofString "__length_hint__") >>= _) _ _ _
  refine wpAny_bind (wpAny_specialOf hT slot_hint.lookup ?_)
  generalize hid : ("reversed.__length_hint__" : String) = id0
  wp_delta
  rw [show splitId id0 = some ("reversed", "__length_hint__") from by subst hid; decide +kernel]
  subst hid
  refine wpAny_bind (wpAny_isInstance (T := "reversed") (b := true) hT (by rw [isSubtype_type]; kernel_rfl) ?_)
  refine wpAny_ite_split (fun z => absurd z (by decide)) (fun _ => ?_)
  refine wpAny_ite_split (fun z => absurd z (by decide +kernel)) (fun _ => ?_)
  refine wpAny_bind (wpAny_rule ?_)
  refine wpAny_bind (wpAny_of_eq (slot_hint.bind (.ref I)) ?_)
  refine wpAny_bind (wpAny_attempt (hint_call (s := { s with heap := h0 }) hit0 hl0 hz fun tk t => ?_))
  generalize hn' : (items.size : Int) = n
  show wpAny _ _ (asInt? (.int n t) >>= _) _ _ _
  refine wpAny_bind (wpAny_of_eq (a := some n) rfl ?_)
  show wpAny _ _ (if (!Builtin.List.listFitsIndex n) = true then _ else if n < 0 then _ else if Builtin.List.listTooLong n.toNat = true then _ else pure (n != 0)) _ _ _
  rw [if_neg (by rw [fitsIndex_both (by omega) (by omega)]; decide), if_neg (by omega), if_neg (by simp [Builtin.List.listTooLong, sizeLine_eq]; omega)]
  refine wpAny_pure ?_
  have fin : ∀ (r : Result) (s' : Shared), (match r with
      | .ok (.ret (.ref a)) => a = s.heap.objs.size ∧ ∃ acc c, s'.heap.get? s.heap.objs.size = some { cls := .type "list", dict := none, data := .seq acc c, slots := #[] } ∧ Q acc.toList s'
      | _ => False) → wants (fun v s' => wpAny (model prog w) A (match v with | .ref a => (do match (← load a).data with | .seq xs _ => pure xs.toList | _ => unsupported "internal:collect") | _ => unsupported "internal:collect") Q E s') E r s' := fun r s' hr => by
    match r, hr with
    | .ok (.ret (.ref a)), hr =>
      obtain ⟨rfl, acc, c, e1, e2⟩ := hr
      exact wpAny_bind (wpAny_load e1 (wpAny_pure e2))
  refine wpAny_ite_split (fun _ => ?_) (fun _ => wpAny_pure ⟨plainId_quiet PySem.F.plain_extend_loop _, codeAny_mono (hend h0 0 tk (fun b o _ z => z) g0) fin⟩)
  refine wpAny_bind (wpAny_rule (wpAny_bind ?_))
  show wpAny _ _ (updateSeq s.heap.objs.size (·.push .none) >>= fun _ => updateSeq s.heap.objs.size (·.pop)) _ _ _
  refine wpAny_bind (wpAny_updateSeq g0 rfl ?_)
  have g2 := Heap.get?_update_self (Obj.mapSeq (·.push Value.none)) g0 rfl
  refine wpAny_updateSeq (hz := by seq_fits) g2 rfl ?_
  have g3 := Heap.get?_update_self (Obj.mapSeq (·.pop)) g2 rfl
  exact wpAny_pure ⟨plainId_quiet PySem.F.plain_extend_loop _, codeAny_mono (hend _ _ tk (fun b o hb z => (Heap.get?_update_other _ _ (Ne.symm hb)).trans ((Heap.get?_update_other _ _ (Ne.symm hb)).trans z)) g3) fin⟩
theorem slot_init : Slot "reversed" "__init__" "object.__init__" :=
  .of (owner := "object") (n := "__init__") (by rw [typeLookup_type, builtinLookup_eq_fast]; kernel_rfl) (by decide +kernel) (by decide +kernel) (by decide +kernel)
    (by first | exact .inl (by decide +kernel) | exact .inr (by decide +kernel)) (by rw [isSubtype_type]; kernel_rfl)
theorem called_rv : TypeCalled "reversed" "reversed.__new__" "object.__init__" := ⟨by decide +kernel, by decide +kernel, ⟨_, _, F.mro_reversed⟩, F.made_reversed, by decide +kernel, F.sub_reversed_self, slot_init⟩
/-- reversed(t) of a tuple -/
theorem call_rv {l : Addr} {items : Array Value} {Q : Value → Shared → Prop} (hl : s.heap.IsTuple l items) (hz : items.size ≤ 1000)
    (h : ∀ tk, Q (.ref s.heap.objs.size) { s with heap := s.heap.push (rvObj l ((items.size : Int) - 1)), toks := tk }) : wpAny (model prog w) A (call (.type "reversed") [.ref l]) Q E s := by
  refine callType_codes (Q₁ := fun obj s₁ => s₁.TypeIs obj "reversed" ∧ Q obj s₁) called_rv (F.typeCall_reversed_1 _) F.entry_object_init (code_new hl hz fun tk => ⟨⟨_, Heap.get?_push_size _ rfl, rfl⟩, h tk⟩) fun obj s₁ h₁ => ?_
  exact ⟨h₁.1, F.args_object_init_2 obj _, object_init_meets called_rv.init.lookup called_rv.made (by decide) prog w A.in1 _ s₁ ⟨h₁.1, rfl, h₁.2⟩⟩
/-- tuple(reversed(t)), the last part -/
theorem call_tuple_rv {I l : Addr} {items : Array Value} {Q : Value → Shared → Prop} (hh : A.handled = none) (hit : IsRv s.heap I l ((items.size : Int) - 1)) (hl : s.heap.IsTuple l items) (hne : l ≠ I) (hz : items.size ≤ 1000)
    (h : ∀ (h' : Heap) (tk : Nat), (∀ b o, b ≠ I → s.heap.get? b = some o → h'.get? b = some o) → s.heap.objs.size ≤ h'.objs.size → Q (.ref h'.objs.size) { s with heap := h'.push { cls := .type "tuple", data := .seq items.toList.reverse.toArray }, toks := tk }) : wpAny (model prog w) A (call (.type "tuple") [.ref I]) Q E s := by
  refine callType_codes (Q₁ := fun obj s₁ => s₁.TypeIs obj "tuple" ∧ Q obj s₁) F.called_tuple (F.typeCall_tuple_1 _) F.entry_object_init ?_ fun obj s₁ h₁ =>
    ⟨h₁.1, F.args_object_init_2 obj _, object_init_meets F.called_tuple.init.lookup F.called_tuple.made (by decide) prog w A.in1 _ s₁ ⟨h₁.1, rfl, h₁.2⟩⟩
  refine codeAny_of_tree ?_; show wpAny _ A.in1.in1 (do checkBuiltinCall "tuple.__new__" ⟨[.type "tuple", .ref I], []⟩; again (.builtin "tuple.__new__" ⟨[.type "tuple", .ref I], []⟩)) _ _ s
  refine wpAny_bind (wpAny_of_eq (F.newCall_tuple_1 _) (wpAny_pure ⟨plainId_quiet F.plain_tuple_new _, codeAny_builtin F.entry_tuple_new ?_⟩))
  rw [Around.under_plainId F.plain_tuple_new _]
  have c1 := sub_tuple_self
  have c2 := init_tuple_lookup
  have c3 := madeHere_tuple
  have hTI := hit.typeIs (s := s)
  wp_walk using wpAny_typeOf hTI, collect_rv (A := A.in1.in1) (show A.in1.in1.handled = none from hh) hit hl hne hz
  intro h' tk k1 k2
  show wpAny _ _ (Builtin.Tuple.tupleExact items.toList.reverse.toArray >>= fun v => ret v) _ _ _
  unfold Builtin.Tuple.tupleExact
  exact wpAny_bind (wpAny_newObj_type (wpAny_pure ⟨⟨_, Heap.get?_push_size _ rfl, rfl⟩, h h' tk k1 k2⟩) (by show items.toList.reverse.toArray.size ≤ sizeLine; simp; rw [sizeLine_eq]; omega))
end
end RV
/-! my own rules over the layer: tuple(reversed(t)) of a tuple -/
namespace L2
open PySem PySem.Spec PyProof.Rows
theorem bt_reversed : bootBuiltins "reversed" = some (.type "reversed") := by decide +kernel
theorem bt_tupleT : bootBuiltins "tuple" = some (.type "tuple") := by decide +kernel
section
variable {X : Cx}
/-- tuple(reversed(t)) -/
def tTR (K : PySem.W.Frag) (ta : TA) : TE := fun σ H Q => ta σ H fun vs H1 => ∃ (a : Addr) (xs : List V), vs = [.ref a] ∧ SqT K H1 a xs ∧ xs.length ≤ 1000 ∧ ∀ l H', Same H1 H' → TupF H' l xs.reverse → Q (.ref l) H'
theorem vals_rev {xs : List V} {us : List Value} (h : Vals xs us) : Vals xs.reverse us.reverse := by
  induction h with
  | nil => exact .nil
  | cons r rr ih =>
    rw [List.reverse_cons, List.reverse_cons]
    exact Vals.append ih (.cons r .nil)
theorem pe_tupRev {a : Expr} {ta : TA} {p p' pos pos' : Pos} {K : PySem.W.Frag} (hc : X.calm = true) (hK : X.K = K) (hgl : Gl X "tuple") (hml : X.mg "tuple" = none) (hgr : Gl X "reversed") (hmr : X.mg "reversed" = none) (ha : PA X [a] ta)
    (hs : starEach [a] X.env = [(false, eval a X.env)] := by rfl) (he : starEach [.Call (.Name "reversed" p') [a] [] pos'] X.env = [(false, eval (.Call (.Name "reversed" p') [a] [] pos') X.env)] := by rfl) :
    PE X (.Call (.Name "tuple" p) [.Call (.Name "reversed" p') [a] [] pos'] [] pos) (tTR K ta) := by
  subst hK
  intro pins s σ H Q I h
  refine wpAny_Call_Name_kw (ld_blt I hgl hml bt_tupleT ?_ (by decide) (by decide))
  refine PyProof.Rows.callWith_type1 ?_ he rfl
  rw [he]
  refine Calls.spliced_cons ?_
  refine Call_ (ld_blt I hgr hmr bt_reversed (PyProof.Rows.callWith_type1 (thn (ha pos' pins s σ H _ I h) fun us s1 ⟨vs, H1, I1, r1, q1⟩ => ?_) hs rfl))
  obtain ⟨l, xs, e, hq, hz, q⟩ := q1
  subst e
  cases r1 with
  | cons r rr =>
    cases rr
    cases r
    obtain ⟨its, rv, ht, hzz⟩ := I1.tuple hq
    have hl : its.length = xs.length := rv.length.symm
    have hl2 : its.toArray.size ≤ 1000 := by rw [List.size_toArray, hl]; exact hz
    have hlt : l < s1.heap.objs.size := by
      obtain ⟨o, ho, _⟩ := id ht
      exact Heap.lt_size ho
    refine RV.call_rv ht hl2 fun tk => (Calls.spliced_nil ?_)
    have g0 : (s1.heap.push (RV.rvObj l ((its.toArray.size : Int) - 1))).get? s1.heap.objs.size = some (RV.rvObj l ((its.toArray.size : Int) - 1)) := Heap.get?_push_size _ rfl
    have n0 : (s1.heap.push (RV.rvObj l ((its.toArray.size : Int) - 1))).objs.size = s1.heap.objs.size + 1 := Heap.size_push ..
    have k0 : ∀ b o, s1.heap.get? b = some o → (s1.heap.push (RV.rvObj l ((its.toArray.size : Int) - 1))).get? b = some o := fun b o z => Heap.get?_push_of_some _ z
    generalize s1.heap.push (RV.rvObj l ((its.toArray.size : Int) - 1)) = h0 at *
    have ht0 : h0.IsTuple l its.toArray := by
      obtain ⟨o, ho, z⟩ := id ht
      exact ⟨o, k0 _ _ ho, z⟩
    refine RV.call_tuple_rv (s := { s1 with heap := h0, toks := tk }) (I1.ok.hd hc) ⟨_, g0, rfl, rfl⟩ ht0 (Nat.ne_of_lt hlt) hl2 fun h' tk' kp hsz => ?_
    have kk : ∀ b o, s1.heap.get? b = some o → h'.get? b = some o := fun b o z => kp b o (Nat.ne_of_lt (Heap.lt_size z)) (k0 b o z)
    have hle : s1.heap.objs.size ≤ h'.objs.size := by
      have : h0.objs.size ≤ h'.objs.size := hsz
      omega
    have I2 : Inv X pins σ (upd H1 h'.objs.size (.frz { cls := .type "tuple", data := .seq its.reverse.toArray } (.tup xs.reverse))) { s1 with heap := h'.push { cls := .type "tuple", data := .seq its.reverse.toArray }, toks := tk' } :=
      I1.laid (t' := tk') (fun b o e => Heap.get?_push_of_some _ (kk b o e)) hle (show ObjOk X.prog X.w _ _ _ (.frz _ (.tup xs.reverse)) from ⟨Heap.get?_push_size _ rfl, by rw [List.length_reverse]; exact hzz, its.reverse, vals_rev rv, IsTup.new _ _⟩)
    exact ⟨.ref h'.objs.size, _, I2, rfl, q _ _ (same_new (I1.hok.fresh hle) _) ⟨_, upd_same, rfl, rfl⟩⟩
end
end L2
/-! my own rules over the layer: (a, b, ..) = a list of that length -/
namespace L2
open PySem PySem.Spec PyProof.Rows
section
variable {X : Cx}
def gLst (K : PySem.W.Frag) (n : Nat) (t : TGs) : TG := fun v σ H Q => ∃ a xs, v = .ref a ∧ SqL K H a xs ∧ xs.length = n ∧ t xs σ H Q
end
end L2
namespace L2
open PySem PySem.Spec PyProof.Rows
section
variable {X : Cx} {st : Stmt} {t : TS}
/-- a statement, and what is known behind it, said on its own -/
def tJoin (t : TS) : TS := fun D σ H => ∃ R : St → Hp → Prop, t { D with nx := R } σ H ∧ ∀ σ' H', R σ' H' → D.nx σ' H'
theorem ps_join (h : PS X st t) : PS X st (tJoin t) := by
  intro pins s σ H D I ⟨R, h1, h2⟩
  refine thn (h pins s σ H { D with nx := R } I h1) fun f s1 q => ?_
  cases f with
  | next =>
    obtain ⟨σ', H', I', q⟩ := q
    exact ⟨σ', H', I', h2 _ _ q⟩
  | ret v => exact q
  | brk => exact q
  | cont => exact q
end
end L2
namespace L2
open PySem
end L2
namespace L2
open PySem PySem.Spec PyProof.Rows
section
variable {X : Cx}
end
end L2
/-! xs.count(x), xs.index(x) of a list of flat things -/
namespace L2
open PySem PySem.Spec PyProof.Rows
section
variable {X : Cx}
end
end L2
/-! my own rules over the layer: slices of lists and xs.count(x) of whole numbers, also where the context is another -/
namespace L2
open PySem PySem.Spec PyProof.Rows
section
variable {X : Cx} {K : PySem.W.Frag}
end
end L2
/-! my own rules over the layer: x != y where both are None or both are alike -/
namespace L2
open PySem PySem.Spec PyProof.Rows
section
variable {X : Cx}
theorem op_neOpt (hu : X.A.units + 64 < cLine) : OpR X (compareOp .NotEq) (fun x y H Q => (x = .non ∧ y = .non ∧ Q (.bl false) H) ∨ ∃ (n : Nat) (a b : Addr), x = .ref a ∧ y = .ref b ∧ Alk X.K H n (.ref a) (.ref b) ∧ n ≤ 60 ∧ Q (.bl false) H) := by
  intro pins s σ H x y v u Q I rx ry h
  rcases h with ⟨rfl, rfl, q⟩ | h
  · exact op_ne pins s σ H _ _ v u Q I rx ry ⟨rfl, q⟩
  · exact op_neAlk hu pins s σ H _ _ v u Q I rx ry h
end
end L2
/-! shorter words for what the bodies' terms say often -/
namespace L2
open PySem PySem.Spec PyProof.Rows
theorem Room.m {j k : Nat} {A : Around} (r : Room k A) (h : j ≤ k := by decide) : Room j A := r.mono h
theorem fsc {N P : List Str} {sc : Scope} (h1 : sc.kind = .function := by rfl) (h2 : sc.isCoroutine = false := by rfl) (h3 : sc.isGenerator = false := by rfl) (h4 : N.Nodup := by decide +kernel) (h5 : N.take P.length = P := by rfl) (h6 : ∀ x ∈ P, sc.names.lookup x = some .local ∨ sc.names.lookup x = some .cell := by decide +kernel) (h7 : ∀ y ∈ sc.names, y.2 ≠ .free := by decide +kernel) : FnScope N P sc := ⟨h1, h2, h3, h4, h5, h6, h7⟩
theorem Fun.k {P : Program} {w : World} {K : PySem.W.Frag} {mg : Str → Option Value} {base : Heap} {x qual : Str} {st : Stmt} {f : Addr} {fd : FuncData} {N ps : List Str} {k : Nat} {sp : Sp} (F : Fun K x qual st f fd) (S : FnScope N ps (defScope st))
    (hbody : ∀ (cdv : Value) (A : Around) (outer : List Env) (s : Shared) (H : Hp) (vs : List V) (Q : VK) (E : XK), Room k (A.deeper (envOfC qual (defScope st) s.heap.objs.size f cdv)) → sp vs H Q E →
      ∃ t, PSs (cxOf CX0 P w K mg base N qual (defScope st) f cdv A outer s H E).nox (defBody st) t ∧ t { nx := fun _ H' => Q .non H', rt := Q } (start N vs) H)
    (len : ∀ vs H Q E, sp vs H Q E → vs.length = ps.length := by intro vs H Q E h; first | (cases h; subst_vars; rfl) | ((repeat (first | obtain ⟨rfl, _⟩ := h | obtain ⟨_, h⟩ := h)); rfl)) : FnOk P w K mg base CX0 (k + 1) f fd ps sp := F.ok S len hbody
section
variable {X : Cx} {pos : Pos}
theorem pst (i : Nat) {x : Str} {e : Expr} {te : TE} {pos' : Pos} (hN : X.N.Nodup) (he : PE X e te) (hi : X.N[i]? = some x := by rfl) (hx : Loc X.env.scope x := by first | exact Or.inl rfl | exact Or.inr rfl) (hs : swapsWith e (some (.Name x pos')) pos.line X.env = pure false := by rfl) (hf : X.fn x = true ∨ X.env.scope.names.lookup x = some .local := by first | exact .inl rfl | exact .inr rfl | assumption) :
    PS X (.Assign [.Name x pos'] e pos) (tAsg te (gName i)) := ps_set hN hi hx he hs hf
theorem pix {a b : Expr} {ta tb : TE} {r : R2} (hr : IxR X r) (ha : PE X a ta) (hb : PE X b tb) (hs : PlainIx b := by exact fun _ _ => rfl) : PE X (.Subscript a b pos) (tOp r ta tb) := pe_ix hr ha hb hs
theorem pgn (i : Nat) {x : Str} (hN : X.N.Nodup) (hi : X.N[i]? = some x := by rfl) (hx : Loc X.env.scope x := by first | exact Or.inl rfl | exact Or.inr rfl) (hf : X.fn x = true ∨ X.env.scope.names.lookup x = some .local := by first | exact .inl rfl | exact .inr rfl | assumption) : PG X (.Name x pos) (gName i) := pg_name hN hi hx hf
theorem pln {e : Expr} {es : List Expr} {t : TA} {p : Pos} (hm : X.mg "len" = none) (ha : PA X (e :: es) t) (hg : Gl X "len" := by rfl) (he : starEach (e :: es) X.env = (false, eval e X.env) :: starEach es X.env := by rfl) (hpl : (backTo pos (starEach es X.env)).any (·.1) = false := by rfl) :
    PE X (.Call (.Name "len" p) (e :: es) [] pos) (tCB (fun xs H Q => ∃ p ys, xs = [.ref p] ∧ (SqL X.K H p ys ∨ SqT X.K H p ys) ∧ Q (.int ys.length) H) t) := pe_callB call_len_seq hg hm bt_len ha (by decide) (by decide) he hpl
end
theorem cok {scope sc0 : Scope} {x : Str} {N cn : List Str} (h1 : ∀ p ∈ relN scope sc0, (p.2 = .cell ∨ p.2 = .free) → p.1 ∈ cn := by decide +kernel) (h2 : ∀ p ∈ scope.names, p.2 ≠ .cell := by decide +kernel) (h3 : ∀ p ∈ scope.names, p.2 = .local → scope.names.lookup p.1 = some .local := by decide +kernel) (h4 : scope.names.lookup x = some .local := by decide +kernel) (h5 : (relN scope sc0).lookup x = some .local := by decide +kernel) (h6 : (x :: N).Nodup := by decide +kernel) (h7 : ∀ y ∈ N, (relN scope sc0).lookup y = some .cell ∧ sc0.names.lookup y = some .cell ∧ y ∈ cn := by decide +kernel) : CompOk scope sc0 x N cn := ⟨h1, h2, h3, h4, h5, h6, h7⟩
theorem mt1 {p : List Value → Prop} (h : ∀ a, p [a]) : ∀ us, us.length = 1 → p us
  | [_], _ => h _
theorem mt2 {p : List Value → Prop} (h : ∀ a b, p [a, b]) : ∀ us, us.length = 2 → p us
  | [_, _], _ => h _ _
theorem mt3 {p : List Value → Prop} (h : ∀ a b c, p [a, b, c]) : ∀ us, us.length = 3 → p us
  | [_, _, _], _ => h _ _ _
theorem mt4 {p : List Value → Prop} (h : ∀ a b c d, p [a, b, c, d]) : ∀ us, us.length = 4 → p us
  | [_, _, _, _], _ => h _ _ _ _
theorem mt5 {p : List Value → Prop} (h : ∀ a b c d e, p [a, b, c, d, e]) : ∀ us, us.length = 5 → p us
  | [_, _, _, _, _], _ => h _ _ _ _ _
end L2
namespace L2
open PySem PySem.Spec PyProof.Rows
end L2
namespace L2
open PySem PySem.Spec PyProof.Rows
theorem nwH {H : Hp} {q : Addr} (h : H q = none) (o : HO) : ∃ G, upd H q o = G ∧ Same H G ∧ G q = some o := ⟨_, rfl, same_new h o, upd_same⟩
end L2
/-! functions made in a body (lambda): kept in a name, called, made -/
namespace L2
open PySem PySem.Spec PyProof.Rows
theorem mt6 {p : List Value → Prop} (h : ∀ a b c d e f, p [a, b, c, d, e, f]) : ∀ us, us.length = 6 → p us
  | [_, _, _, _, _, _], _ => h _ _ _ _ _ _
/-- a function of whole numbers that tells a truth; what it leans on is known and never written -/
def Lam (K : PySem.W.Frag) (k : Nat) (H : Hp) (f : Addr) (C : List Int → Prop) (φ : List Int → Bool) : Prop :=
  ∃ os : List (Addr × Obj), (∀ p ∈ os, H p.1 = some (.frz p.2 (.own p.1))) ∧ (∃ oc od fd sl, (f, (⟨oc, od, .func fd, sl⟩ : Obj)) ∈ os) ∧
    ∀ (P : Program) (w : World) (mg : Str → Option Value) (base : Heap) (A : Around) (outer : List Env) (s : Shared) (us : List Value) (ns : List Int),
      Room k A → Env0 P w K mg base A outer s (fun _ => none) → (∀ p ∈ os, s.heap.get? p.1 = some p.2) → Vals (ns.map V.int) us → C ns →
        codeAny (model P w) A (.call (.ref f) ⟨us, []⟩) (CR CX0 outer P w (fun _ => none) s (fun v _ => v = .bl (φ ns)) E0) s
theorem Lam.same {K : PySem.W.Frag} {k : Nat} {H H' : Hp} {f : Addr} {C : List Int → Prop} {φ : List Int → Bool} (L : Lam K k H f C φ) (s : Same H H') : Lam K k H' f C φ :=
  let ⟨os, a, b⟩ := L; ⟨os, fun p hp => s _ _ (a p hp), b⟩
theorem un_none {fs : List Addr} {H H' : Hp} {h h' : Heap} (u : Un fs [] (fun _ => none) H' h h') : Un fs [] H H h h' :=
  ⟨fun b o e _ hb hx => u.keep b o e rfl hb hx, fun b o e _ hb hx => u.slot b o e rfl hb hx, fun _ _ _ n _ => n, fun b o e hx => u.there b o e hx, fun _ _ q => q, fun _ _ _ q => q, fun _ ps q => ⟨#[], by rw [q]; simp⟩⟩
theorem hok_none {P : Program} {w : World} {fs : List Addr} {H H' : Hp} {h h' : Heap} (ok : HOk P w H h) (u : Un fs [] (fun _ => none) H' h h') (frf : ∀ b ∈ fs, H b = none) : HOk P w H h' := fun a o e =>
  (ok a o e).stay (fun b v hb q => u.keep b v q rfl (fun z => by
    have n := frf b z
    rcases hb with rfl | hb
    · rw [n] at e; cases e
    · rw [n] at hb; cases hb) (by simp)) (fun _ q => q) fun _ _ q => q
theorem Env0.none {P : Program} {w : World} {K : PySem.W.Frag} {mg : Str → Option Value} {base : Heap} {A : Around} {outer : List Env} {s : Shared} {H : Hp} (e : Env0 P w K mg base A outer s H) : Env0 P w K mg base A outer s (fun _ => none) :=
  ⟨e.frames, e.mod, fun b o z => ⟨(e.bs b o z).1, rfl⟩, e.bsz, e.funs, fun _ _ => rfl, (fun _ _ z => nomatch z), e.bare⟩
/-- f(..), f the function in the i-th name -/
def tCallV (K : PySem.W.Frag) (k i : Nat) (t : TA) : TE := fun σ H Q => ∃ f C φ, σ[i]? = some (some (.ref f)) ∧ Lam K k H f C φ ∧ t σ H fun vs H1 => ∃ ns : List Int, vs = ns.map V.int ∧ Lam K k H1 f C φ ∧ C ns ∧ Q (.bl (φ ns)) H1
section
variable {X : Cx}
theorem pe_callV (i : Nat) {k : Nat} {x : Str} {e : Expr} {es : List Expr} {t : TA} {p pos : Pos} (hr : Room k X.A) (ha : PA X (e :: es) t) (hN : X.N[i]? = some x := by rfl)
    (hv : Vis X.env.scope x := by first | exact Or.inl rfl | exact Or.inr (Or.inl rfl) | exact Or.inr (Or.inr rfl)) (hd : (x == ("__debug__" : Str)) = false := by decide) (hcd : (x == ("__classdict__" : Str)) = false := by decide)
    (he : starEach (e :: es) X.env = (false, eval e X.env) :: starEach es X.env := by rfl) (hpl : (backTo pos (starEach es X.env)).any (·.1) = false := by rfl) :
    PE X (.Call (.Name x p) (e :: es) [] pos) (tCallV X.K k i t) := by
  intro pins s σ H Q I h
  obtain ⟨f, C, φ, hσ, ⟨os0, hos0, ⟨oc, od, fd, sl, hm0⟩, _⟩, h⟩ := h
  refine wpAny_Call_Name_kw (thn (pe_var hN hv hd hcd pins s σ H (fun v H' => v = .ref f ∧ H' = H) I ⟨_, hσ, rfl, rfl⟩) fun u s1 ⟨v, H', I', r, e1, e2⟩ => ?_)
  subst e1 e2
  cases r
  refine PySem.W.callWith_F ⟨_, _, _, _, (I'.hok _ _ (hos0 _ hm0)).1⟩ (thn (ha pos pins s1 σ H' _ I' h) fun us s2 ⟨vs, H1, I1, r, q⟩ => ?_) he hpl
  obtain ⟨ns, rfl, ⟨os, hos, ⟨oc, od, fd, sl, hm⟩, run⟩, hC, q⟩ := q
  refine ⟨⟨_, _, _, _, (I1.hok _ _ (hos _ hm)).1⟩, ?_⟩
  have e0 := I1.env0
  refine wpAny_call (codeAny_mono (run X.prog X.w X.mg X.base X.A X.stack s2 us ns hr e0.none (fun p hp => (I1.hok _ _ (hos p hp)).1) r hC) fun rr s' hq => ?_)
  cases rr with
  | error e => exact False.elim hq
  | ok fl =>
    cases fl with
    | ret u =>
      obtain ⟨v, H', os', bare, un, hok, rv, qv⟩ := hq
      subst qv
      exact I1.after ⟨_, H1, os', bare, un_none un, hok_none I1.hok un e0.frf, rv, q⟩
    | next => exact False.elim hq
    | brk => exact False.elim hq
    | cont => exact False.elim hq
end

/-- the context of a lambda's body -/
def lamCx (P : Program) (w : World) (K : PySem.W.Frag) (mg : Str → Option Value) (base : Heap) (N : List Str) (qual : Str) (scope : Scope) (f : Addr) (cd : Value) (cl : List (Str × Addr)) (A : Around) (outer : List Env) (s : Shared) : Cx where
  prog := P
  w := w
  K := K
  mg := mg
  base := base
  A := A.deeper (PySem.W.envX qual scope s.heap.objs.size f cd cl)
  N := N
  s₀ := s
  H₀ := fun _ => none
  env := PySem.W.envX qual scope s.heap.objs.size f cd cl
  outer := outer
  stack := PySem.W.envX qual scope s.heap.objs.size f cd cl :: outer
  ex := []
  calm := true
  fn := fun _ => false
  pn := []
  xe := fun e s' => wpAny (model P w) (A.deeper (PySem.W.envX qual scope s.heap.objs.size f cd cl)) (leaving (PySem.W.envX qual scope s.heap.objs.size f cd cl) e) (fun _ _ => False) (fun _ _ => False) s'
/-- the captured names' cells -/
def CellsAt (H : Hp) : List (Str × Addr) → List V → Prop
  | [], [] => True
  | (_, c) :: cl, v :: vs => (∃ o u, H c = some (.frz o (.own c)) ∧ o.data = .cell (some u) ∧ RelV v u) ∧ CellsAt H cl vs
  | _, _ => False
def LCells (h : Heap) : List (Str × Addr) → List V → Prop
  | [], [] => True
  | (_, c) :: cl, v :: vs => (∃ u, h.IsCell c (some u) ∧ RelV v u) ∧ LCells h cl vs
  | _, _ => False
theorem LCells.get {h : Heap} : ∀ {cl : List (Str × Addr)} {vs : List V}, LCells h cl vs → ∀ {i : Nat} {v : V}, vs[i]? = some v → ∃ y c u, cl[i]? = some (y, c) ∧ h.IsCell c (some u) ∧ RelV v u
  | [], [], _, i, v, e => by simp at e
  | (y, c) :: cl, v :: vs, ⟨⟨u, h1, h2⟩, _⟩, 0, w, e => by simp at e; subst e; exact ⟨y, c, u, rfl, h1, h2⟩
  | (y, c) :: cl, v :: vs, ⟨_, t⟩, i + 1, w, e => LCells.get t (i := i) (by simpa using e)
theorem LCells.len {h : Heap} : ∀ {cl : List (Str × Addr)} {vs : List V}, LCells h cl vs → cl.length = vs.length
  | [], [], _ => rfl
  | _ :: _, _ :: _, ⟨_, t⟩ => congrArg (· + 1) (LCells.len t)
theorem LCells.of {h : Heap} : ∀ {cl : List (Str × Addr)} {vs : List V}, LCells h cl vs → ∀ {y : Str} {c : Addr}, (y, c) ∈ cl → ∃ v, h.IsCell c v
  | (y, c) :: cl, v :: vs, ⟨⟨u, h1, h2⟩, _⟩, _, _, .head _ => ⟨_, h1⟩
  | _ :: _, _ :: _, ⟨_, t⟩, _, _, .tail _ m => LCells.of t m
theorem LCells.keeps {h h' : Heap} (k : ∀ b o, h.get? b = some o → h'.get? b = some o) : ∀ {cl : List (Str × Addr)} {vs : List V}, LCells h cl vs → LCells h' cl vs
  | [], [], _ => trivial
  | _ :: _, _ :: _, ⟨⟨u, h1, h2⟩, t⟩ => ⟨⟨u, h1.keeps k, h2⟩, LCells.keeps k t⟩
/-- a lambda's scope: the parameters ps, the captured names ys -/
structure LamScope (ps ys : List Str) (sc : Scope) : Prop where
  kind : sc.kind = .function
  co : sc.isCoroutine = false
  gen : sc.isGenerator = false
  nocell : ∀ x ∈ sc.names, x.2 ≠ .cell
  nd : (ps ++ ys).Nodup
  par : ∀ x ∈ ps, sc.names.lookup x = some .local
  fre : ∀ x ∈ ys, sc.names.lookup x = some .free
  has : ∀ p ∈ sc.names, p.2 = .free → p.1 ∈ ys
theorem lsc {ps ys : List Str} {sc : Scope} (h1 : sc.kind = .function := by rfl) (h2 : sc.isCoroutine = false := by rfl) (h3 : sc.isGenerator = false := by rfl) (h4 : ∀ x ∈ sc.names, x.2 ≠ .cell := by decide +kernel) (h5 : (ps ++ ys).Nodup := by decide +kernel) (h6 : ∀ x ∈ ps, sc.names.lookup x = some .local := by decide +kernel) (h7 : ∀ x ∈ ys, sc.names.lookup x = some .free := by decide +kernel) (h8 : ∀ p ∈ sc.names, p.2 = .free → p.1 ∈ ys := by decide +kernel) : LamScope ps ys sc := ⟨h1, h2, h3, h4, h5, h6, h7, h8⟩
theorem rev_lookup {ps : List Str} {us : List Value} {i : Nat} {y : Str} {u : Value} (nd : ps.Nodup) (h1 : ps[i]? = some y) (h2 : us[i]? = some u) : (ps.zip us).reverse.lookup y = some u := by
  have hz : (ps.zip us)[i]? = some (y, u) := by rw [List.getElem?_zip_eq_some]; exact ⟨h1, h2⟩
  have hm : (y, u) ∈ (ps.zip us).reverse := List.mem_reverse.mpr (List.mem_of_getElem? hz)
  have key : ∀ (l : List (Str × Value)), (y, u) ∈ l → (∀ v, (y, v) ∈ l → v = u) → l.lookup y = some u := by
    intro l
    induction l with
    | nil => intro m; cases m
    | cons a l ih =>
      intro m un
      obtain ⟨b, v⟩ := a
      by_cases e : y = b
      · subst e
        rw [List.lookup_cons_self, un v (List.mem_cons_self ..)]
      · rw [List.lookup_cons, show (y == b) = false from beq_eq_false_iff_ne.mpr e]
        refine ih ?_ fun v hv => un v (List.mem_cons_of_mem _ hv)
        rcases List.mem_cons.mp m with h | h
        · cases h; exact absurd rfl e
        · exact h
  refine key _ hm fun v hv => ?_
  obtain ⟨j, hj⟩ := List.mem_iff_getElem?.mp (List.mem_reverse.mp hv)
  rw [List.getElem?_zip_eq_some] at hj
  have e : i = j := (List.getElem?_inj (List.getElem?_eq_some_iff.mp h1).1 nd).mp (h1.trans hj.1.symm)
  subst e
  rw [h2] at hj
  exact (Option.some.inj hj.2).symm
theorem inv_lam {P : Program} {w : World} {K : PySem.W.Frag} {mg : Str → Option Value} {base : Heap} {ps ys : List Str} {qual : Str} {scope : Scope} {f : Addr} {cd : Value} {cl : List (Str × Addr)} {A : Around} {outer : List Env} {s : Shared} {h₁ : Heap} {tk : Tok} {us : List Value} {vs cv : List V}
    (S : LamScope ps ys scope) (hcl : cl.map (·.1) = ys) (hinj : (cl.map (·.2)).Nodup) (hd : A.handled = none) (e0 : Env0 P w K mg base A outer s (fun _ => none)) (hl : vs.length = ps.length) (r : Vals vs us) (hc : LCells h₁ cl cv)
    (hns : h₁.Ns s.heap.objs.size (fun x => (ps.zip us).reverse.lookup x)) (hk : ∀ b o, s.heap.get? b = some o → h₁.get? b = some o) :
    Inv (lamCx P w K mg base (ps ++ ys) qual scope f cd cl A outer s) [] ((vs ++ cv).map some) (fun _ => none) { s with heap := h₁, toks := tk } := by
  have noA : ∀ b : Addr, b ∉ (lamCx P w K mg base (ps ++ ys) qual scope f cd cl A outer s).ex := fun b z => absurd (show b ∈ ([] : List Addr) from z) (by simp)
  have ndY : ys.Nodup := (List.nodup_append.mp S.nd).2.1
  have ndP : ps.Nodup := (List.nodup_append.mp S.nd).1
  have lkY : ∀ {i : Nat} {y : Str} {c : Addr}, cl[i]? = some (y, c) → cl.lookup y = some c := fun {i y c} h => by
    have key : ∀ (l : List (Str × Addr)), (l.map (·.1)).Nodup → (y, c) ∈ l → l.lookup y = some c := by
      intro l
      induction l with
      | nil => intro _ m; cases m
      | cons a l ih =>
        intro nd m
        obtain ⟨b, d⟩ := a
        rcases List.mem_cons.mp m with h | h
        · cases h; exact List.lookup_cons_self
        · have hne : y ≠ b := fun e => (List.nodup_cons.mp nd).1 (e ▸ List.mem_map_of_mem (f := (·.1)) h)
          rw [List.lookup_cons, show (y == b) = false from beq_eq_false_iff_ne.mpr hne]
          exact ih (List.nodup_cons.mp nd).2 h
    exact key cl (by rw [hcl]; exact ndY) (List.mem_of_getElem? h)
  refine ⟨⟨e0.mod, S.kind, rfl, rfl, Nat.le_refl _, fun y z c h1 h2 => ?_, fun y hy => ?_, fun y c z _ => Bool.noConfusion z, fun _ => hd, Around.frames_deeper e0.frames, .inr ⟨rfl, rfl⟩, fun b z => absurd z (noA b), e0.bs, e0.bsz, fun b _ _ => noA b, fun b z => absurd z (noA b), e0.funs, e0.frf⟩,
    rfl, e0.bare, Un.kept hk, ⟨_, hns, fun i y v h1 h2 h3 => ?_⟩, fun y c h => hc.of (PySem.mem_of_lookup h), rfl, fun _ _ _ => rfl, fun p hp => absurd (show p ∈ ([] : List (Addr × Obj)) from hp) (by simp), (fun _ _ z => nomatch z), ?_⟩
  · obtain ⟨i, hi⟩ := List.mem_iff_getElem?.mp (PySem.mem_of_lookup h1)
    obtain ⟨j, hj⟩ := List.mem_iff_getElem?.mp (PySem.mem_of_lookup h2)
    replace hi : cl[i]? = some (y, c) := hi
    replace hj : cl[j]? = some (z, c) := hj
    have e1 : (cl.map (·.2))[i]? = some c := by rw [List.getElem?_map, hi]; rfl
    have e2 : (cl.map (·.2))[j]? = some c := by rw [List.getElem?_map, hj]; rfl
    have e : i = j := (List.getElem?_inj (List.getElem?_eq_some_iff.mp e1).1 hinj).mp (e1.trans e2.symm)
    subst e
    rw [hi] at hj
    cases hj
    rfl
  · have hy' : scope.names.lookup y = some .cell ∨ scope.names.lookup y = some .free := hy
    rcases hy' with hy | hy
    · exact absurd rfl (S.nocell _ (PySem.mem_of_lookup hy))
    · have hm := S.has _ (PySem.mem_of_lookup hy) rfl
      rw [← hcl] at hm
      obtain ⟨⟨y', c⟩, hm2, rfl⟩ := List.mem_map.mp hm
      obtain ⟨i, hi⟩ := List.mem_iff_getElem?.mp hm2
      exact ⟨c, lkY hi⟩
  · have h1' : (ps ++ ys)[i]? = some y := h1
    rw [List.getElem?_map] at h2
    obtain ⟨v', hv', e⟩ := Option.map_eq_some_iff.mp h2
    cases e
    by_cases hi : i < ps.length
    · rw [List.getElem?_append_left hi] at h1'
      rw [List.getElem?_append_left (by omega)] at hv'
      obtain ⟨u, hu, rv⟩ := r.get hv'
      exact ⟨u, rv, .inl ⟨S.par y (List.mem_of_getElem? h1'), rev_lookup ndP h1' hu⟩⟩
    · rw [List.getElem?_append_right (by omega)] at h1' hv'
      rw [hl] at hv'
      obtain ⟨y', c, u, hy, hcell, rv⟩ := hc.get hv'
      have e : ys[i - ps.length]? = some y' := by rw [← hcl, List.getElem?_map, hy]; rfl
      rw [h1'] at e
      cases e
      exact ⟨u, rv, .inr ⟨.inr (S.fre y (List.mem_of_getElem? h1')), c, lkY hy, hcell⟩⟩
  · show _ = (ps ++ ys).length
    have := hc.len
    have := congrArg List.length hcl
    rw [List.length_map] at this
    rw [List.length_map, List.length_append, List.length_append]
    omega
theorem CellsAt.os {H : Hp} : ∀ {cl : List (Str × Addr)} {vs : List V}, CellsAt H cl vs → ∃ os : List (Addr × Obj), (∀ p ∈ os, H p.1 = some (.frz p.2 (.own p.1))) ∧ ∀ h : Heap, (∀ p ∈ os, h.get? p.1 = some p.2) → LCells h cl vs
  | [], [], _ => ⟨[], (fun _ z => nomatch z), fun _ _ => trivial⟩
  | (_, c) :: _, _ :: _, ⟨⟨o, u, h1, h2, h3⟩, t⟩ => by
    obtain ⟨os, a, b⟩ := CellsAt.os t
    refine ⟨(c, o) :: os, fun p hp => ?_, fun h hh => ⟨⟨u, ⟨o, hh _ (List.mem_cons_self ..), h2⟩, h3⟩, b h fun p hp => hh p (List.mem_cons_of_mem _ hp)⟩⟩
    rcases List.mem_cons.mp hp with rfl | hp
    · exact h1
    · exact a p hp
/-- THE RULE: a lambda of whole numbers that tells a truth, by its body -/
theorem lam_of {K : PySem.W.Frag} {k : Nat} {H : Hp} {f c : Addr} {oc : Obj} {name qual : Str} {params : Arguments} {body : Expr} {scope : Scope} {cl : List (Str × Addr)} {pm ctv : Value} {ps ys : List Str} {cv : List V} {C : List Int → Prop} {φ : List Int → Bool} {vs : Array Value} {tq : Tok}
    (S : LamScope ps ys scope) (hcl : cl.map (·.1) = ys) (hinj : (cl.map (·.2)).Nodup) (hf : H f = some (.frz (PySem.W.kla_obj name qual params body scope cl pm c ctv) (.own f)))
    (hc : H c = some (.frz oc (.own c))) (hd : oc.data = .fields vs) (hv : vs[1]? = some (.str qual tq)) (hcells : CellsAt H cl cv)
    (hb : ∀ us : List Value, us.length = ps.length → bindArgs (PySem.W.kla_fn name qual params body scope cl pm (.ref c) ctv) ⟨us, []⟩ = pure (ps.zip us)) (hlen : ∀ ns, C ns → ns.length = ps.length)
    (hbody : ∀ (P : Program) (w : World) (mg : Str → Option Value) (base : Heap) (A : Around) (outer : List Env) (s : Shared), ∃ t, PE (lamCx P w K mg base (ps ++ ys) qual scope f (.ref c) cl A outer s) body t ∧ ∀ ns, C ns → t ((ns.map V.int ++ cv).map some) (fun _ => none) (fun v _ => v = .bl (φ ns))) :
    Lam K (k + 1) H f C φ := by
  obtain ⟨os, a, b⟩ := hcells.os
  refine ⟨(f, PySem.W.kla_obj name qual params body scope cl pm c ctv) :: (c, oc) :: os, fun p hp => ?_, ⟨_, _, _, _, List.mem_cons_self ..⟩, fun P w mg base A outer s us ns hr e0 hos r hC => ?_⟩
  · rcases List.mem_cons.mp hp with rfl | hp
    · exact hf
    · rcases List.mem_cons.mp hp with rfl | hp
      · exact hc
      · exact a p hp
  have gf := hos _ (List.mem_cons_self ..)
  have gc := hos _ (List.mem_cons_of_mem _ (List.mem_cons_self ..))
  have hl : (ns.map V.int).length = ps.length := by rw [List.length_map]; exact hlen ns hC
  have lim : s.heap.NoLimit := e0.mod.nolimit.keeps fun b o e => (e0.bs b o e).1
  refine PySem.W.kla_callFunE hr.depth gf rfl S.co S.gen rfl ⟨c, oc, vs, tq, rfl, gc, hd, hv⟩ ?_
  show wpAny _ _ (bindArgs (PySem.W.kla_fn name qual params body scope cl pm (.ref c) ctv) ⟨us, []⟩) _ _ s
  rw [hb us (by rw [← r.length]; exact hl)]
  refine wpAny_pure (wpAny_newFunctionEnv S.nocell (fun y hy => S.par y.1 (List.of_mem_zip hy).1) (fun h₁ hns hsb => ?_) S.kind)
  have hk : ∀ b o, s.heap.get? b = some o → h₁.get? b = some o := fun b o e => hsb.extBut b o (Nat.ne_of_lt (Heap.lt_size e)) (Heap.get?_push_of_some _ e)
  refine ⟨lim.keeps hk, ?_⟩
  obtain ⟨t, ht, hq⟩ := hbody P w mg base A outer s
  show codeAny _ _ (.expr body (PySem.W.envX qual scope s.heap.objs.size f (.ref c) cl)) _ _
  refine PySem.W.kla_codeExpr (wpAny_mono (ht [] _ _ _ _ (inv_lam S hcl hinj hr.hd e0 hl r ((b s.heap fun p hp => hos p (List.mem_cons_of_mem _ (List.mem_cons_of_mem _ hp))).keeps hk) hns hk) (hq ns hC)) (fun u s' h => ?_) fun e s' h => h)
  obtain ⟨v, H', I', r', q'⟩ := h
  exact ⟨v, H', I'.os, I'.bare, I'.base, I'.hok, r', q'⟩

/-! ### making one -/
/-- the code table of a def that makes one lambda: not yet made, or made -/
def Tab (H : Hp) (T : Addr) (pos : Pos) (qual : Str) : Prop :=
  ∃ ps, H T = some (.tbl ps) ∧ TriplesOk ps.toList ∧ (codeAmong pos ps.toList = none ∨ ∃ c oc vs tq, codeAmong pos ps.toList = some (.ref c) ∧ H c = some (.frz oc (.own c)) ∧ oc.data = .fields vs ∧ vs[1]? = some (.str qual tq))
theorem Tab.same {H H' : Hp} {T : Addr} {pos : Pos} {qual : Str} (x : Tab H T pos qual) (s : Same H H') : Tab H' T pos qual := by
  obtain ⟨ps, h1, h2, h3⟩ := x
  refine ⟨ps, s _ _ h1, h2, ?_⟩
  rcases h3 with h | ⟨c, oc, vs, tq, a, b, d⟩
  · exact .inl h
  · exact .inr ⟨c, oc, vs, tq, a, s _ _ b, d⟩
theorem triples_snoc {a b : Int} {t u : Tok} {v : Value} : ∀ {l : List Value}, TriplesOk l → TriplesOk (l ++ [.int a t, .int b u, v])
  | [], _ => trivial
  | .int _ _ :: .int _ _ :: _ :: rest, h => triples_snoc (l := rest) h
theorem Inv.tabbed {X : Cx} {pins : List (Addr × Obj)} {σ : St} {H : Hp} {s : Shared} {h' : Heap} {tk : Tok} {T c f : Addr} {ps more : Array Value} {oc fo : Obj} (I : Inv X pins σ H s) (hT : H T = some (.tbl ps))
    (hx : ∀ b o, b ≠ T → s.heap.get? b = some o → h'.get? b = some o) (gT : h'.get? T = some { cls := .none, data := .fields (ps ++ more) }) (gc : h'.get? c = some oc) (gf : h'.get? f = some fo) (hc : s.heap.objs.size ≤ c) (hcf : c < f) :
    Inv X pins σ (upd (upd (upd H T (.tbl (ps ++ more))) c (.frz oc (.own c))) f (.frz fo (.own f))) { s with heap := h', toks := tk } := by
  have nc : H c = none := I.hok.fresh hc
  have nf : H f = none := I.hok.fresh (Nat.le_trans hc (Nat.le_of_lt hcf))
  have old : ∀ {b : Addr} {o : HO}, H b = some o → b ≠ T → upd (upd (upd H T (.tbl (ps ++ more))) c (.frz oc (.own c))) f (.frz fo (.own f)) b = some o := fun {b o} e n => by
    rw [upd_ne (ne_of_none e nf), upd_ne (ne_of_none e nc), upd_ne n]; exact e
  have atT : upd (upd (upd H T (.tbl (ps ++ more))) c (.frz oc (.own c))) f (.frz fo (.own f)) T = some (.tbl (ps ++ more)) := by
    rw [upd_ne (ne_of_none hT nf), upd_ne (ne_of_none hT nc), upd_same]
  have nT : ∀ {b : Addr} {o : HO}, H b = some o → (∀ qs, o ≠ .tbl qs) → b ≠ T := fun e n z => by subst z; rw [hT] at e; cases e; exact n _ rfl
  have kept : ∀ b o, s.heap.get? b = some o → H b = none → h'.get? b = some o := fun b o e n => hx b o (fun z => by subst z; rw [hT] at n; cases n) e
  refine I.call' (ch := []) rfl ⟨fun b o e n _ _ => kept b o e n, fun b o e n _ _ => ⟨o.slots, kept b o e n⟩, fun b o e n _ => ?_, fun b o e _ => ?_, fun b xs e => old e (nT e (by intro _ z; cases z)), fun b o u e => old e (nT e (by intro _ z; cases z)), fun b qs e => ?_⟩ (fun a o e => ?_) I.bare fun b z => absurd z (by simp)
  · have hb := Heap.lt_size e
    rw [upd_ne (Nat.ne_of_lt (Nat.lt_trans (Nat.lt_of_lt_of_le hb hc) hcf)), upd_ne (Nat.ne_of_lt (Nat.lt_of_lt_of_le hb hc)), upd_ne fun z => by subst z; rw [hT] at n; cases n]
    exact n
  · by_cases hb : b = T
    · subst hb; exact ⟨_, gT⟩
    · exact ⟨o, hx b o hb e⟩
  · by_cases hb : b = T
    · subst hb
      rw [hT] at e
      cases e
      exact ⟨more, atT⟩
    · exact ⟨#[], by rw [old e hb]; simp⟩
  · by_cases h1 : a = f
    · subst h1
      rw [upd_same] at e
      cases e
      exact ⟨gf, _, gf⟩
    · rw [upd_ne h1] at e
      by_cases h2 : a = c
      · subst h2
        rw [upd_same] at e
        cases e
        exact ⟨gc, _, gc⟩
      · rw [upd_ne h2] at e
        by_cases h3 : a = T
        · subst h3
          rw [upd_same] at e
          cases e
          exact gT
        · rw [upd_ne h3] at e
          refine (I.hok a o e).stay (fun b u hb q => hx b u ?_ q) (fun b q => old q (nT q (by intro _ z; cases z))) fun b xs q => old q (nT q (by intro _ z; cases z))
          rcases hb with rfl | hb
          · exact h3
          · exact nT hb (by intro _ z; cases z)
/-- the module of the built-ins, as the top left it -/
def BMain (mg : Str → Option Value) (base : Heap) : Prop := ∃ bm ob, mg "__builtins__" = some (.ref bm) ∧ bm ≠ builtinsNs ∧ base.get? bm = some ob ∧ ob.cls = .type "module" ∧ ob.dict = some builtinsNs ∧ ob.data = .plain
def tLam (T : Addr) (pos : Pos) (qual : Str) (params : Arguments) (body : Expr) (scope : Scope) (cl : List (Str × Addr)) : TE := fun _ H Q => Tab H T pos qual ∧ ∀ f c oc vs tq pm ctv H1, H f = none → H1 f = some (.frz (PySem.W.kla_obj "<lambda>" qual params body scope cl pm c ctv) (.own f)) →
  H1 c = some (.frz oc (.own c)) → oc.data = .fields vs → vs[1]? = some (.str qual tq) → Tab H1 T pos qual → (∀ b o, b ≠ T → H b = some o → H1 b = some o) → Q (.ref f) H1
theorem pe_lam {X : Cx} {c T : Addr} {params : Arguments} {body : Expr} {scope : Scope} {pos : Pos} {cl : List (Str × Addr)} {qual : Str} (hcode : X.env.code = .ref c) (hC : PySem.W.codeHdIn X.K c T = true) (hb : BMain X.mg X.base) (hcl : closureFor scope X.env = pure cl) (hq : X.env.qual ++ "<lambda>" = qual) (hdef : defaultsOf params X.env = ([], [])) :
    PE X (.Lambda params body scope pos) (tLam T pos qual params body scope cl) := by
  intro pins s σ H Q I h
  obtain ⟨⟨ps, hT, ht, hcase⟩, h⟩ := h
  subst hq
  have gP : s.heap.get? T = some (PySem.W.tabObj ps) := I.hok T _ hT
  have hg : s.heap.Ns mainGlobals X.mg := I.mod.glob.keeps I.bk
  obtain ⟨bm, ob, b1, b2, b3, b4, b5, b6⟩ := hb
  have hbT : bm ≠ T := fun z => by
    have := (I.bs bm ob b3).2
    rw [z, hT] at this; cases this
  have hgT : mainGlobals ≠ T := fun z => by
    obtain ⟨o, es, ep, e, hd, _⟩ := hg
    rw [z, gP] at e; cases e; cases hd
  have hbG : bm ≠ mainGlobals := fun z => by
    obtain ⟨o, es, ep, e, hd, _⟩ := hg
    have e3 := I.bk bm ob b3
    rw [z, e] at e3; cases e3; rw [hd] at b6; cases b6
  have CH := PySem.W.codeHd_of_K I.kIn hC
  have BA : s.heap.BuiltinsAt X.mg T := ⟨bm, ob, b1, b2, hbG, hbT, I.bk _ _ b3, b4, b5, b6⟩
  refine PySem.W.kla_eval hdef ?_
  rcases hcase with hn | ⟨c1, oc, vs, tq, hf, hc1, hd, hv⟩
  · refine PySem.W.kla_makeFunction hcl I.ok.glob hg hcode CH gP ht hn hgT BA fun c' ctv h' tk hx hge hlt hrec htb => ?_
    obtain ⟨c2, oc, vs, tq, e2, hoc, hd, hv⟩ := hrec
    cases e2
    have I' := I.tabbed (tk := tk) (h' := h'.push (PySem.W.kla_obj "<lambda>" (X.env.qual ++ "<lambda>") params body scope cl ((X.mg "__name__").getD .none) c' ctv)) hT (fun b o hb e => Heap.get?_push_of_some _ (hx b o hb e)) (Heap.get?_push_of_some _ htb) (Heap.get?_push_of_some _ hoc) (Heap.get?_push_size _ rfl) hge hlt
    have nc : H c' = none := I.hok.fresh hge
    have nf : H h'.objs.size = none := I.hok.fresh (Nat.le_trans hge (Nat.le_of_lt hlt))
    have hcf : c' ≠ h'.objs.size := Nat.ne_of_lt hlt
    refine ⟨.ref _, _, I', rfl, h _ c' oc vs tq _ ctv _ nf upd_same (by rw [upd_ne hcf, upd_same]) hd hv ⟨_, by rw [upd_ne (ne_of_none hT nf), upd_ne (ne_of_none hT nc), upd_same], ?_, .inr ⟨c', oc, vs, tq, ?_, by rw [upd_ne hcf, upd_same], hd, hv⟩⟩ fun b o hb e => by rw [upd_ne (ne_of_none e nf), upd_ne (ne_of_none e nc), upd_ne hb]; exact e⟩
    · rw [Array.toList_append]
      exact triples_snoc ht
    · rw [Array.toList_append]
      exact codeAmong_snoc _ ht hn
  · refine PySem.W.kla_makeFunctionHit hcl I.ok.glob hg hcode CH gP ht hf BA fun ctv h' tk hk hsz => ?_
    have nf : H h'.objs.size = none := I.hok.fresh hsz
    have I' := I.laid (t' := tk) (h' := h'.push (PySem.W.kla_obj "<lambda>" (X.env.qual ++ "<lambda>") params body scope cl ((X.mg "__name__").getD .none) c1 ctv)) (o := .frz (PySem.W.kla_obj "<lambda>" (X.env.qual ++ "<lambda>") params body scope cl ((X.mg "__name__").getD .none) c1 ctv) (.own h'.objs.size)) (fun b u e => Heap.get?_push_of_some _ (hk b u e)) hsz ⟨Heap.get?_push_size _ rfl, _, Heap.get?_push_size _ rfl⟩
    have s1 := same_new nf (.frz (PySem.W.kla_obj "<lambda>" (X.env.qual ++ "<lambda>") params body scope cl ((X.mg "__name__").getD .none) c1 ctv) (.own h'.objs.size))
    exact ⟨.ref _, _, I', rfl, h _ c1 oc vs tq _ ctv _ nf upd_same (s1 _ _ hc1) hd hv (Tab.same ⟨ps, hT, ht, .inr ⟨c1, oc, vs, tq, hf, hc1, hd, hv⟩⟩ s1) fun b o _ e => s1 _ _ e⟩

/-! ### a call for whose time this frame's own captured cells are known and never written -/
def CapOk (X : Cx) : List (Str × Addr) → List Nat → Prop
  | [], [] => True
  | (y, c) :: cl, i :: is => (X.N[i]? = some y ∧ X.env.scope.names.lookup y = some .cell ∧ X.fn y = true ∧ X.env.cells.lookup y = some c) ∧ CapOk X cl is
  | _, _ => False
theorem CapOk.mem {X : Cx} : ∀ {cl : List (Str × Addr)} {is : List Nat}, CapOk X cl is → ∀ {c : Addr}, c ∈ cl.map (·.2) → ∃ y, X.fn y = true ∧ X.env.cells.lookup y = some c
  | (y, c) :: _, _ :: _, ⟨⟨_, _, h1, h2⟩, _⟩, _, .head _ => ⟨y, h1, h2⟩
  | _ :: _, _ :: _, ⟨_, t⟩, _, .tail _ m => CapOk.mem t m
/-- of what lay behind the call all but the frozen cells -/
def Back (H1 H' H3 : Hp) : Prop := ∀ b o, H' b = some o → (H1 b ≠ none ∨ ∀ ob u, o ≠ .frz ob u) → H3 b = some o
def froz (h : Heap) (cs : List Addr) (H : Hp) : Hp := fun b => if b ∈ cs then (h.get? b).map fun o => .frz o (.own b) else H b
def tCallC (sp : Sp) (cl : List (Str × Addr)) (is : List Nat) (E : XK) (t : TA) : TE := fun σ H Q => t σ H fun vs H1 => ∃ cv : List V, (is.map fun i => σ[i]?) = cv.map (fun v => some (some v)) ∧ ∀ H2, Same H1 H2 → CellsAt H2 cl cv → sp vs H2 (fun v H' => ∀ H3, Back H1 H' H3 → Q v H3) E
theorem pe_fnC {X : Cx} {k : Nat} {x : Str} {ps : List Str} {sp : Sp} {p pos : Pos} {e : Expr} {es : List Expr} {t : TA} {cl : List (Str × Addr)} {is : List Nat} (c : Cal X.prog X.w X.K X.mg X.base k x ps sp) (hr : Room k X.A) (hg : Gl X x) (hcap : CapOk X cl is) (ha : PA X (e :: es) t) (hdb : (x == ("__debug__" : Str)) = false := by decide)
    (he : starEach (e :: es) X.env = (false, eval e X.env) :: starEach es X.env := by rfl) (hpl : (backTo pos (starEach es X.env)).any (·.1) = false := by rfl) :
    PE X (.Call (.Name x p) (e :: es) [] pos) (tCallC sp cl is E0 t) := by
  obtain ⟨f, fd, F, B, kp, m⟩ := c.ex
  intro pins s σ H Q I h
  refine wpAny_Call_Name_kw (ld_glob I hg m ?_ hdb)
  refine PySem.W.callWith_K (h₀ := X.base) I.ok.mod.kin kp (thn (ha pos pins s σ H _ I h) fun us s1 ⟨vs, H1, I1, r, q⟩ => ⟨I1.kIn, ?_⟩) he hpl
  obtain ⟨cv, hcv, q⟩ := q
  have isC : ∀ b ∈ cl.map (·.2), ∃ y, X.fn y = true ∧ X.env.cells.lookup y = some b := fun b hb => hcap.mem hb
  have ncs : ∀ {b : Addr} {o : HO}, H1 b = some o → b ∉ cl.map (·.2) := fun {b o} e hb => by
    obtain ⟨y, _, hy⟩ := isC b hb
    rw [I1.freeC y b hy] at e; cases e
  have oldF : ∀ {b : Addr} {o : Obj}, X.s₀.heap.get? b = some o → b ∉ cl.map (·.2) := fun {b o} e hb => by
    obtain ⟨y, h1, hy⟩ := isC b hb
    exact absurd (Nat.lt_of_lt_of_le (Heap.lt_size e) (I1.ok.cab y b h1 hy)) (Nat.lt_irrefl _)
  have cellO : ∀ b ∈ cl.map (·.2), ∃ o, s1.heap.get? b = some o := fun b hb => by
    obtain ⟨y, _, hy⟩ := isC b hb
    obtain ⟨v, o, ho, _⟩ := I1.cell y b hy
    exact ⟨o, ho⟩
  have inC : ∀ {b : Addr}, b ∈ cl.map (·.2) → ∀ {o : Obj}, s1.heap.get? b = some o → froz s1.heap (cl.map (·.2)) H1 b = some (.frz o (.own b)) := fun {b} hb {o} e => by
    unfold froz; rw [if_pos hb, e]; rfl
  have outC : ∀ {b : Addr}, b ∉ cl.map (·.2) → froz s1.heap (cl.map (·.2)) H1 b = H1 b := fun hb => by unfold froz; rw [if_neg hb]
  have sm : Same H1 (froz s1.heap (cl.map (·.2)) H1) := fun b o e => by rw [outC (ncs e)]; exact e
  have frC : ∀ b ∈ frs X.stack, b ∉ cl.map (·.2) := fun b hb => by
    rcases List.mem_cons.mp (I1.stkSub b hb) with z | hb
    · intro hc
      obtain ⟨y, _, hy⟩ := isC b hc
      exact I1.cne y b hy z
    · obtain ⟨_, o, ho, _⟩ := I1.ok.funs.mem hb
      exact oldF ho
  have cells : CellsAt (froz s1.heap (cl.map (·.2)) H1) cl cv := by
    obtain ⟨m, hn, hl⟩ := I1.loc
    have key : ∀ (cl' : List (Str × Addr)) (is' : List Nat) (cv' : List V), CapOk X cl' is' → (is'.map fun i => σ[i]?) = cv'.map (fun v => some (some v)) → (∀ b ∈ cl'.map (·.2), b ∈ cl.map (·.2)) → CellsAt (froz s1.heap (cl.map (·.2)) H1) cl' cv' := by
      intro cl'
      induction cl' with
      | nil =>
        intro is' cv' h1 h2 _
        cases is' with
        | nil => cases cv' with
          | nil => trivial
          | cons v cv' => cases h2
        | cons i is' => exact h1.elim
      | cons a cl' ih =>
        intro is' cv' h1 h2 h3
        obtain ⟨y, c⟩ := a
        cases is' with
        | nil => exact h1.elim
        | cons i is' =>
          cases cv' with
          | nil => cases h2
          | cons v cv' =>
            obtain ⟨⟨e1, e2, _, e4⟩, t⟩ := h1
            have h2' := List.cons.inj h2
            obtain ⟨u, rv, l⟩ := hl i y v e1 h2'.1 (.inr (.inl e2))
            refine ⟨?_, ih is' cv' t h2'.2 fun b hb => h3 b (List.mem_cons_of_mem _ hb)⟩
            rcases l with ⟨hk, _⟩ | ⟨_, c', hc', o, ho, hd⟩
            · have hk' : X.env.scope.names.lookup y = some .local := hk
              rw [e2] at hk'; cases hk'
            · rw [e4] at hc'
              cases hc'
              exact ⟨o, u, inC (h3 c (List.mem_cons_self ..)) ho, hd, rv⟩
    exact key cl is cv hcap hcv fun _ h => h
  have e1 := I1.env0
  have e0 : Env0 X.prog X.w X.K X.mg X.base X.A X.stack s1 (froz s1.heap (cl.map (·.2)) H1) := by
    refine ⟨e1.frames, e1.mod, fun b o z => ⟨(e1.bs b o z).1, ?_⟩, e1.bsz, e1.funs, fun b hb => ?_, fun a o z => ?_, e1.bare⟩
    · rw [outC (oldF (I1.ok.bs b o z).1)]; exact (e1.bs b o z).2
    · rw [outC (frC b hb)]; exact e1.frf b hb
    · by_cases ha : a ∈ cl.map (·.2)
      · obtain ⟨ob, ho⟩ := cellO a ha
        rw [inC ha ho] at z
        cases z
        exact ⟨ho, _, ho⟩
      · rw [outC ha] at z
        exact (I1.hok a o z).stay (fun _ _ _ q => q) (fun b q => sm _ _ q) fun b xs q => sm _ _ q
  have hl : us.length = ps.length := by rw [← r.length]; exact F.len _ _ _ _ (q _ sm cells)
  refine wpAny_call (codeAny_mono (F.run X.A X.stack s1 _ ⟨us, []⟩ us vs _ E0 hr e0 (by have := B s1 us I1.kIn (by rw [List.append_nil]; exact hl); rw [List.append_nil] at this; exact this) r (q _ sm cells)) fun rr s' hq => ?_)
  cases rr with
  | error e => exact False.elim hq
  | ok fl =>
    cases fl with
    | next => exact False.elim hq
    | brk => exact False.elim hq
    | cont => exact False.elim hq
    | ret u =>
      obtain ⟨v, H', os', bare, un, hok, rv, qv⟩ := hq
      have fz : ∀ {b : Addr}, b ∈ cl.map (·.2) → ∃ o, s1.heap.get? b = some o ∧ H' b = some (.frz o (.own b)) ∧ s'.heap.get? b = some o := fun {b} hb => by
        obtain ⟨o, ho⟩ := cellO b hb
        have z := un.frzs b o _ (inC hb ho)
        exact ⟨o, ho, z, (hok b _ z).1⟩
      obtain ⟨H3, hH3⟩ : ∃ H3 : Hp, H3 = fun b => if b ∈ cl.map (·.2) then none else H' b := ⟨_, rfl⟩
      have h3in : ∀ {b : Addr}, b ∈ cl.map (·.2) → H3 b = none := fun hb => by rw [hH3]; exact if_pos hb
      have h3out : ∀ {b : Addr}, b ∉ cl.map (·.2) → H3 b = H' b := fun hb => by rw [hH3]; exact if_neg hb
      have bk : Back H1 H' H3 := fun b o e z => by
        have hb : b ∉ cl.map (·.2) := fun hb => by
          rcases z with z | z
          · obtain ⟨y, _, hy⟩ := isC b hb
            exact z (I1.freeC y b hy)
          · obtain ⟨ob, _, h2, _⟩ := fz hb
            rw [e] at h2; cases h2
            exact z _ _ rfl
        rw [h3out hb]; exact e
      have nz : ∀ {b : Addr} {o : HO}, H' b = some o → (∀ ob u, o ≠ .frz ob u) → H3 b = some o := fun e n => bk _ _ e (.inr n)
      refine ⟨v, H3, I1.call' (ch := []) os' ⟨fun b o e n hb hx => ?_, fun b o e n hb hx => ?_, fun b o e n hx => ?_, fun b o e hx => un.there b o e hx, fun b xs e => ?_, fun b o u e => ?_, fun b qs e => ?_⟩ (fun a o e => ?_) bare (fun b z => absurd z (by simp)), rv, qv H3 bk⟩
      · by_cases hc : b ∈ cl.map (·.2)
        · obtain ⟨o', h1, _, h2⟩ := fz hc
          rw [e] at h1; cases h1
          exact h2
        · exact un.keep b o e (by rw [outC hc]; exact n) hb hx
      · exact un.slot b o e (by rw [outC (frC b hb)]; exact n) hb hx
      · by_cases hc : b ∈ cl.map (·.2)
        · exact h3in hc
        · rw [h3out hc]; exact un.free b o e (by rw [outC hc]; exact n) hx
      · rw [h3out (ncs e)]; exact un.tups b xs (sm _ _ e)
      · rw [h3out (ncs e)]; exact un.frzs b o u (sm _ _ e)
      · obtain ⟨more, z⟩ := un.tbls b qs (sm _ _ e)
        exact ⟨more, by rw [h3out (ncs e)]; exact z⟩
      · by_cases hc : a ∈ cl.map (·.2)
        · rw [h3in hc] at e; cases e
        · rw [h3out hc] at e
          exact (hok a o e).stay (fun _ _ _ q => q) (fun b q => nz q (by intro _ _ z; cases z)) fun b xs q => nz q (by intro _ _ z; cases z)

/-! ### a def that makes a lambda: its code object and its table known -/
structure DefL (K : PySem.W.Frag) (mg : Str → Option Value) (x : Str) (st : Stmt) (ps : List Str) (c T : Addr) : Prop where
  ex : ∃ (f : Addr) (oc : Value) (od an : Option Addr) (kV doc pm ct : Value) (osl : Array (Option Value)), K.lookup f = some ⟨oc, od, .func (PySem.W.fnOf x x (defArgs st) (defBody st) (defScope st) .none kV doc pm an (.ref c) ct), osl⟩ ∧ PySem.W.codeIn K (.ref c) x = true ∧ PySem.W.keepIn K (.ref f) = true ∧
    (∀ us : List Value, us.length = ps.length → bindArgs (PySem.W.fnOf x x (defArgs st) (defBody st) (defScope st) .none kV doc pm an (.ref c) ct) ⟨us, []⟩ = pure (ps.zip us)) ∧ mg x = some (.ref f)
  hd : PySem.W.codeHdIn K c T = true
theorem defL_mk {K : PySem.W.Frag} {h : Heap} {mg : Str → Option Value} {x : Str} {st : Stmt} {ps : List Str} {f c T : Addr} {oc : Value} {od an : Option Addr} {osl : Array (Option Value)} {kV doc pm ct : Value}
    (KX : K.In h) (G : h.Ns mainGlobals mg) (a : PySem.W.nsIn K mainGlobals x = some (some (.ref f)))
    (l : K.lookup f = some ⟨oc, od, .func (PySem.W.fnOf x x (defArgs st) (defBody st) (defScope st) .none kV doc pm an (.ref c) ct), osl⟩)
    (cc : PySem.W.codeIn K (.ref c) x = true) (k : PySem.W.keepIn K (.ref f) = true) (hd : PySem.W.codeHdIn K c T = true)
    (b : ∀ (kV doc pm : Value) (an : Option Addr) (cdv ct : Value) (us : List Value), us.length = ps.length → bindArgs (PySem.W.fnOf x x (defArgs st) (defBody st) (defScope st) .none kV doc pm an cdv ct) ⟨us, []⟩ = pure (ps.zip us)) :
    DefL K mg x st ps c T := ⟨⟨f, oc, od, an, kV, doc, pm, ct, osl, l, cc, k, b kV doc pm an (.ref c) ct, PySem.W.mg_of KX G a⟩, hd⟩
theorem DefL.cal {P : Program} {w : World} {K : PySem.W.Frag} {mg : Str → Option Value} {base : Heap} {k : Nat} {x : Str} {st : Stmt} {N ps : List Str} {c T : Addr} {sp : Sp} (d : DefL K mg x st ps c T) (S : FnScope N ps (defScope st)) (len : ∀ vs H Q E, sp vs H Q E → vs.length = ps.length)
    (hbody : ∀ (f : Addr) (A : Around) (outer : List Env) (s : Shared) (H : Hp) (vs : List V) (Q : VK) (E : XK), Room k (A.deeper (envOfC x (defScope st) s.heap.objs.size f (.ref c))) → sp vs H Q E →
      ∃ t, PSs (cxOf CX0 P w K mg base N x (defScope st) f (.ref c) A outer s H E).nox (defBody st) t ∧ t { nx := fun _ H' => Q .non H', rt := Q } (start N vs) H) : Cal P w K mg base (k + 1) x ps sp := by
  obtain ⟨f, oc, od, an, kV, doc, pm, ct, osl, lk, hcd, kp, hb, hm⟩ := d.ex
  refine ⟨f, _, fn_of lk hcd S len fun A outer s H vs Q E hr hsp => ?_, .all hb, kp, hm⟩
  obtain ⟨t, h, q⟩ := hbody f A outer s H vs Q E hr hsp
  exact ⟨t, h.nox, q⟩

/-! ### the head where code tables may grow -/
def spLawT (K : PySem.W.Frag) (ts : List Addr) : Sp := fun vs H Q _ => ∃ (a : Addr) (ns : List Int), vs = [.ref a] ∧ SqL K H a (ns.map V.int) ∧ ns.length ≤ 63 ∧ (∀ T ∈ ts, H T = some (.tbl #[])) ∧ (∀ b ys, H b ≠ some (.lst ys)) ∧ ∀ H', Q (.bl true) H'
theorem law_callT {P : Program} {w : World} {K : PySem.W.Frag} {mg mb : Str → Option Value} {k : Nat} {fa a : Addr} {fd : FuncData} {x : Str} {s₁ : Shared} {vs : List Value} {ns : List Int} {ts : List (Addr × Addr)}
    (KX : K.In s₁.heap) (hns : s₁.heap.Ns mainGlobals mg) (hb : s₁.heap.Ns builtinsNs mb) (hbb : ∀ x : Str, x ≠ "__name__" → mb x = bootBuiltins x) (hlim : s₁.heap.NoLimit) (hbm : BMain mg s₁.heap) (hg : s₁.gens = #[])
    (ha : s₁.heap.get? a = some { cls := .type "list", data := .seq vs.toArray }) (hi : IntsAre vs ns) (hl : ns.length ≤ 63) (hr : Room k callerA)
    (hts : ∀ q ∈ ts, PySem.W.codeHdIn K q.1 q.2 = true ∧ K.lookup q.2 = none) (hT : ∀ T ∈ ts.map (·.2), s₁.heap.get? T = some (PySem.W.tabObj #[]))
    (F : ∀ base : Heap, K.In base → base.Ns mainGlobals mg → BMain mg base → FnOk P w K mg base CX0 k fa fd [x] (spLawT K (ts.map (·.2)))) (hbind : ∀ (s : Shared) (u : Value), BindsTo s fd ⟨[u], []⟩ [(x, u)]) :
    codeAny (model P w) callerA (.call (.ref fa) ⟨[.ref a], []⟩) (fun r s' => r = .ok (.ret (.bool true)) ∧ OldK s₁.heap s'.heap ∧ s'.os = s₁.os ∧ AllBare s'.gens) s₁ := by
  have rv := vals_ints hi
  have lenV := hi.length
  have hl' : ns.length ≤ sizeLine := Nat.le_trans hl (by decide)
  have naT : a ∉ ts.map (·.2) := fun z => by
    have := hT a z
    rw [ha] at this; cases this
  have core : ∀ H : Hp, SqL K H a (ns.map V.int) → HOk P w H s₁.heap → (∀ T ∈ ts.map (·.2), H T = some (.tbl #[])) → (∀ b u, H b = some u → b ∈ ts.map (·.2) ∨ (b = a ∧ K.lookup a = none ∧ ∃ o v, u = .frz o v)) →
      codeAny (model P w) callerA (.call (.ref fa) ⟨[.ref a], []⟩) (fun r s' => r = .ok (.ret (.bool true)) ∧ OldK s₁.heap s'.heap ∧ s'.os = s₁.os ∧ AllBare s'.gens) s₁ := by
    intro H hS hok hHT hA
    have base_of : ∀ {b : Addr} {o : Obj}, s₁.heap.get? b = some o → H b = none → (hidT s₁.heap H).get? b = some o := fun e n => hidT_get e n
    have free : ∀ {b : Addr} {o : Obj}, s₁.heap.get? b = some o → (∀ ys n, o.data ≠ .seq ys n) → (∀ ys, o.data ≠ .fields ys) → H b = none := fun {b o} e d1 d2 => by
      cases q : H b with
      | none => rfl
      | some u =>
        rcases hA b u q with z | ⟨z, _⟩
        · have := hT b z
          rw [e] at this; cases this
          exact absurd rfl (d2 _)
        · subst z
          rw [ha] at e; cases e
          exact absurd rfl (d1 _ _)
    have nsK : ∀ {b : Addr} {m : Str → Option Value}, s₁.heap.Ns b m → (hidT s₁.heap H).Ns b m := fun {b m} ⟨o, es, ep, e, d, r⟩ => ⟨o, es, ep, base_of e (free e (by rw [d]; intro _ _ z; cases z) (by rw [d]; intro _ z; cases z)), d, r⟩
    have hKb : K.In (hidT s₁.heap H) := fun b o e => base_of (KX b o e) (by
      cases q : H b with
      | none => rfl
      | some u =>
        rcases hA b u q with z | ⟨z, h2, _⟩
        · obtain ⟨⟨c, T⟩, hq, rfl⟩ := List.mem_map.mp z
          rw [(hts _ hq).2] at e; cases e
        · subst z
          rw [h2] at e; cases e)
    have hM : Mod K mg (hidT s₁.heap H) := ⟨hKb, nsK hns, ⟨mb, nsK hb, hbb⟩, let ⟨mc, h1, h2⟩ := hlim; ⟨mc, nsK h1, h2⟩⟩
    have hBM : BMain mg (hidT s₁.heap H) := by
      obtain ⟨bm, ob, b1, b2, b3, b4, b5, b6⟩ := hbm
      exact ⟨bm, ob, b1, b2, base_of b3 (free b3 (by rw [b6]; intro _ _ z; cases z) (by rw [b6]; intro _ z; cases z)), b4, b5, b6⟩
    have e0 : Env0 P w K mg (hidT s₁.heap H) callerA [] s₁ H := ⟨rfl, hM, fun b o e => of_hidT e, Nat.le_of_eq (hidT_size _ _), trivial, fun b hb => absurd (show b ∈ ([] : List Addr) from hb) (by simp), hok, .of_eq hg⟩
    refine codeAny_mono ((F _ hKb (nsK hns) hBM).run callerA [] s₁ H ⟨[.ref a], []⟩ [.ref a] [.ref a] (fun v _ => v = .bl true) (fun _ _ _ => False) hr e0 (hbind s₁ (.ref a)) (.cons rfl .nil) ⟨a, ns, rfl, hS, hl, hHT, fun b ys e => (hA b _ e).elim (fun z => by rw [hHT b z] at e; cases e) (fun ⟨_, _, _, _, z⟩ => nomatch z), fun _ => rfl⟩) fun r s' h => ?_
    cases r with
    | error e => exact False.elim h
    | ok fl =>
      cases fl with
      | next => exact False.elim h
      | brk => exact False.elim h
      | cont => exact False.elim h
      | ret u =>
        obtain ⟨v, H', os, bare, un, hok', r', q⟩ := h
        have q' : v = .bl true := q
        subst q'
        obtain rfl : u = Value.bool true := r'
        have tab : ∀ b ∈ ts.map (·.2), ∃ ps, s'.heap.get? b = some (PySem.W.tabObj ps) := fun b hb => by
          obtain ⟨more, z⟩ := un.tbls b _ (hHT b hb)
          exact ⟨_, hok' b _ z⟩
        have keep : ∀ b o, b ∉ ts.map (·.2) → s₁.heap.get? b = some o → s'.heap.get? b = some o := fun b o hb e => by
          cases q : H b with
          | none => exact un.keep b o e q (by intro z; exact absurd (show b ∈ ([] : List Addr) from z) (by simp)) (by simp)
          | some u =>
            rcases hA b u q with z | ⟨_, _, ob, v, rfl⟩
            · exact absurd z hb
            · obtain ⟨e1, _⟩ := hok b _ q
              obtain ⟨e2, _⟩ := hok' b _ (un.frzs b ob _ q)
              rw [e] at e1; cases e1
              exact e2
        refine ⟨rfl, ⟨fun b o e => ?_, fun b o e => ?_⟩, os, bare⟩
        · by_cases hb : b ∈ ts.map (·.2)
          · obtain ⟨ps, hP⟩ := tab b hb
            have e2 := hT b hb
            rw [e] at e2
            cases e2
            obtain ⟨⟨c, T⟩, hq, rfl⟩ := List.mem_map.mp hb
            exact .inr (.inl ⟨((PySem.W.codeHd_of_K KX (hts _ hq).1).tab (hT _ hb)).isCodeTable, rfl, #[], ps, rfl, by rw [Array.empty_append]; exact hP⟩)
          · exact .inl (keep b o hb e)
        · by_cases hb : b ∈ ts.map (·.2)
          · obtain ⟨ps, hP⟩ := tab b hb
            exact ⟨_, hP⟩
          · exact ⟨o, keep b o hb e⟩
  have tabOk : ∀ {H : Hp} {T : Addr}, T ∈ ts.map (·.2) → ObjOk P w H s₁.heap T (.tbl #[]) := fun h => hT _ h
  cases hk : K.lookup a with
  | some o =>
    have e := KX a o hk
    rw [ha] at e
    cases e
    refine core (fun b => if b ∈ ts.map (·.2) then some (.tbl #[]) else none) (.inr ⟨_, vs.toArray, _, hk, rfl, rfl, rfl, by rw [List.size_toArray, lenV]; exact hl', by simpa using rv⟩) (fun b u z => ?_) (fun T h => if_pos h) fun b u z => ?_
    · by_cases hb : b ∈ ts.map (·.2)
      · have z' := (if_pos hb).symm.trans z
        cases z'
        exact tabOk hb
      · have z' := (if_neg hb).symm.trans z
        cases z'
    · by_cases hb : b ∈ ts.map (·.2)
      · exact .inl hb
      · have z' := (if_neg hb).symm.trans z
        cases z'
  | none =>
    refine core (fun b => if b = a then some (.frz { cls := .type "list", data := .seq vs.toArray } (.lst (ns.map V.int))) else if b ∈ ts.map (·.2) then some (.tbl #[]) else none) (.inl (.inr ⟨{ cls := .type "list", data := .seq vs.toArray }, if_pos rfl⟩)) (fun b u z => ?_) (fun T h => ?_) fun b u z => ?_
    · by_cases hb : b = a
      · have z' := (if_pos hb).symm.trans z
        cases z'
        subst hb
        exact ⟨ha, by rw [List.length_map]; exact hl', vs, _, rv, ha⟩
      · have z' := (if_neg hb).symm.trans z
        by_cases ht : b ∈ ts.map (·.2)
        · have z2 := (if_pos ht).symm.trans z'
          cases z2
          exact tabOk ht
        · have z2 := (if_neg ht).symm.trans z'
          cases z2
    · have hne : ¬ T = a := fun z => naT (z ▸ h)
      show (if T = a then _ else if T ∈ ts.map (·.2) then some (HO.tbl #[]) else none) = _
      rw [if_neg hne]
      exact if_pos h
    · by_cases hb : b = a
      · have z' := (if_pos hb).symm.trans z
        cases z'
        exact .inr ⟨hb, hk, _, _, rfl⟩
      · have z' := (if_neg hb).symm.trans z
        by_cases ht : b ∈ ts.map (·.2)
        · exact .inl ht
        · have z2 := (if_neg ht).symm.trans z'
          cases z2
theorem walkT {l : PySem.W.OpenLaw} {k : Nat} {q : Program} {loose : List Str} {XP : (Str → Option Value) → Heap → Prop} {YP : World → Heap → Prop} {d : DefRec} {K : Params → PySem.W.Frag} (ts : List (Addr × Addr)) (hr : Room k callerA) (hn : l.most = some 63) (hdf : d.params.defaults = [])
    (hY : ∀ (w : World) (h : Heap), YP w h → (K w.params).In h) (hYT : ∀ (w : World) (h : Heap), YP w h → ∀ T ∈ ts.map (·.2), h.get? T = some (PySem.W.tabObj #[]))
    (F : ∀ (w : World) (mg : Str → Option Value) (fa : Addr) (h : Heap), (K w.params).In h → h.Ns mainGlobals mg → mg d.name = some (.ref fa) → (∀ q ∈ ts, PySem.W.codeHdIn (K w.params) q.1 q.2 = true ∧ (K w.params).lookup q.2 = none) ∧
      ∃ fd : FuncData, (∀ (s : Shared) (u : Value), BindsTo s fd ⟨[u], []⟩ [("_law_script", u)]) ∧ ∀ base : Heap, (K w.params).In base → base.Ns mainGlobals mg → BMain mg base → FnOk l.prog w (K w.params) mg base CX0 k fa fd ["_law_script"] (spLawT (K w.params) (ts.map (·.2)))) :
    PySem.W.WalkO q loose XP YP l.row.toRowW d [] (fun f vs => PySem.call f vs) := by
  refine Att.attach_call hn hdf fun w s₀ s₁ mg mb fa o pm cd doc a vs ns G Y ho hd hcd hmg hobj hints hlen hg => ?_
  have KX := hY w _ Y
  obtain ⟨hts, fd, hb, hF⟩ := F w mg fa _ KX G.T.g hmg
  obtain ⟨bm, ob, b1, b2, b3, b4, b5, b6⟩ := G.T.bmain
  exact law_callT KX G.T.g G.T.b G.T.builtins G.T.nolimit ⟨bm, ob, b1, b2, b3, b4, b5, b6⟩ hg hobj hints hlen hr hts (hYT w _ Y) hF hb
theorem law_mkT {P : Program} {w : World} {K : PySem.W.Frag} {mg : Str → Option Value} {k : Nat} {st : Stmt} {fa : Addr} {ts : List Addr} (d : Def K mg "law" st ["_law_script"])
    (F : ∀ (base : Heap) (f : Addr) (fd : FuncData), BMain mg base → Fun K "law" "law" st f fd → FnOk P w K mg base CX0 k f fd ["_law_script"] (spLawT K ts)) (hmg : mg "law" = some (.ref fa)) :
    ∃ fd : FuncData, (∀ (s : Shared) (u : Value), BindsTo s fd ⟨[u], []⟩ [("_law_script", u)]) ∧ ∀ base : Heap, K.In base → base.Ns mainGlobals mg → BMain mg base → FnOk P w K mg base CX0 k fa fd ["_law_script"] (spLawT K ts) := by
  obtain ⟨f, fd, h1, h2, h3⟩ := d.ex
  have e := hmg.symm.trans h3
  cases e
  exact ⟨fd, fun s u => .of_eq (h2 [u] rfl), fun base _ _ bm => F base _ _ bm h1⟩
end L2
/-! reversed(list) gone through -/
namespace L2
open PySem PySem.Spec PyProof.Rows
/-- the list at a from its end on; it has n things and stays -/
def Itv (K : PySem.W.Frag) (a : Addr) (n : Nat) : It :=
  ⟨fun i H => i < n ∧ ∃ xs, SqL K H a xs ∧ xs.length = n, fun i H x H' => H' = H ∧ ∀ xs, SqL K H a xs → xs.reverse[i]? = some x, fun i _ => n ≤ i⟩
theorem turn_rev {P : Program} {w : World} {K : PySem.W.Frag} {tg : Expr} (a it : Addr) (n : Nat) : Turn P w K tg (Itv K a n) [it] it (fun i h => i ≤ n ∧ h.IsRevIter it a ((n : Int) - 1 - (i : Int))) where
  mem := by simp
  obj := fun i h st b hb => by
    have e : b = it := by simpa using hb
    subst e
    obtain ⟨_, o, e, c, d⟩ := st
    exact ⟨o, e, fun v z => by rw [d] at z; cases z⟩
  keep := fun i h h' st k => ⟨st.1, st.2.at fun o e => k it (by simp) o e⟩
  item := by
    intro X hP hw hK hc i pins s σ H E I hf st hg
    subst hP hw hK
    obtain ⟨hi, xs, hq, hn⟩ := hg
    obtain ⟨its, rv, p, hz⟩ := I.list hq
    have hx : xs[n - 1 - i]? = some (xs[n - 1 - i]'(by omega)) := List.getElem?_eq_getElem _
    obtain ⟨u, hu, ru⟩ := rv.get hx
    obtain ⟨f0, f1, f2, f3, f4, f5⟩ := hf it (by simp)
    have st1 := st.2
    rw [show (n : Int) - 1 - (i : Int) = ((n - 1 - i : Nat) : Int) by omega] at st1
    refine wpAny_pyNext_rev_item st1 p.isList (x := u) (by simpa using hu) fun h' st' sb => ?_
    rw [show ((n - 1 - i : Nat) : Int) - 1 = (n : Int) - 1 - ((i + 1 : Nat) : Int) by omega] at st'
    have I1 : Inv X pins σ H { s with heap := h' } := I.turned (t' := s.toks) (fun b o hb e => (sb.2 b hb).trans e) f0 f1 f3 f4 f5
    obtain ⟨o, e, c, d⟩ := id st'
    exact ⟨u, rfl, go_of (s := { s with heap := h' }) e c d (by decide) ⟨_, H, I1, ru, ⟨rfl, fun ys hy => by rw [I.list_inj hy hq, List.getElem?_reverse (by omega), show xs.length - 1 - i = n - 1 - i by omega]; exact hx⟩, ⟨hi, st'⟩, fun b hb => (hf b hb).1⟩⟩
  done := by
    intro X hP hw hK hc i pins s σ H E I hf st hg
    subst hP hw hK
    obtain ⟨f0, f1, f2, f3, f4, f5⟩ := hf it (by simp)
    have hg' : n ≤ i := hg
    have st1 := st.2
    rw [show (n : Int) - 1 - (i : Int) = -1 by have := st.1; omega] at st1
    exact wpAny_pyNext_rev_end (I.ok.hd hc) st1 fun h' eb => ⟨rfl, I.turned (t' := s.toks) (fun b o hb e => eb b o hb e) f0 f1 f3 f4 f5⟩
  self := fun _ _ _ _ _ st h => wpAny_pyIter_revIter st.2 h
section
variable {X : Cx}
def iRev (K : PySem.W.Frag) (ta : TA) : TI := fun σ H R => ta σ H fun vs H1 => ∃ a xs, vs = [.ref a] ∧ SqL K H1 a xs ∧ R (Itv K a xs.length) H1
theorem pi_rev {tg l : Expr} {ta : TA} {p pos : Pos} (hg : Gl X "reversed") (hm : X.mg "reversed" = none) (ha : PA X [l] ta) (hs : starEach [l] X.env = [(false, eval l X.env)] := by rfl) :
    PI X tg (.Call (.Name "reversed" p) [l] [] pos) (iRev X.K ta) := by
  intro pins s σ H R I h
  refine Call_ (ld_blt I hg hm bt_reversed (PyProof.Rows.callWith_type1 (thn (ha pos pins s σ H _ I h) fun us s1 ⟨vs, H1, I1, r1, q1⟩ => ?_) hs rfl))
  obtain ⟨a, xs, e, hq, q⟩ := q1
  subst e
  cases r1 with
  | cons r rr =>
    cases rr
    cases r
    obtain ⟨its, rv, p, hz⟩ := I1.list hq
    have hl : its.toArray.size = xs.length := by rw [List.size_toArray]; exact rv.length.symm
    refine call_reversed_list p.isList ?_
    rw [hl]
    have st : ({ s1 with heap := s1.heap.push (revObj a ((xs.length : Int) - 1)) } : Shared).heap.IsRevIter s1.heap.objs.size a ((xs.length : Int) - 1) := ⟨_, Heap.get?_push_size _ rfl, rfl, rfl⟩
    refine wpAny_pyIter_revIter st ?_
    refine ⟨s1.heap.objs.size, [s1.heap.objs.size], _, _, H1, rfl, I1.kept (t' := s1.toks) fun b o e => Heap.get?_push_of_some _ e, turn_rev a _ xs.length, ⟨Nat.zero_le _, ?_⟩, fun b hb => ?_, q⟩
    · rw [show (xs.length : Int) - 1 - ((0 : Nat) : Int) = (xs.length : Int) - 1 by omega]
      exact st
    · have e : b = s1.heap.objs.size := by simpa using hb
      subst e
      exact I1.fpOk (Nat.le_refl _) (I1.hok.fresh (Nat.le_refl _))
/-- gone through a list from its end on -/
theorem compG_rev {K : PySem.W.Frag} {a : Addr} {xs : List V} {Tn : V → Hp → (V → Hp → Prop) → (Hp → Prop) → Prop} {D : Addr} {H1 : Hp} {R : Hp → Prop} (hn : xs.length ≤ sizeLine) (Pv : Nat → List V → Hp → Prop) (h0 : Pv 0 [] (upd H1 D (.lst [])))
    (hl : ∀ i ys H, Pv i ys H → SqL K H a xs) (hD : ∀ i ys H, Pv i ys H → H D = some (.lst ys) ∧ ys.length ≤ i)
    (hs : ∀ i x ys H, xs.reverse[i]? = some x → Pv i ys H → Tn x H (fun y H3 => H3 D = some (.lst ys) ∧ Pv (i + 1) (ys ++ [y]) (upd H3 D (.lst (ys ++ [y])))) (Pv (i + 1) ys))
    (hd : ∀ ys H, Pv xs.length ys H → R H) :
    ∃ W : Nat → Nat → List V → Hp → Prop, (∃ m, W 0 m [] (upd H1 D (.lst []))) ∧
      ∀ i m ys H2, W i m ys H2 → H2 D = some (.lst ys) ∧ (((Itv K a xs.length).stop i H2 ∧ R H2) ∨ ((Itv K a xs.length).go i H2 ∧ ys.length < sizeLine ∧ ∃ (N : V → Hp → Prop) (Z : Hp → Prop), (∀ y H3, N y H3 → H3 D = some (.lst ys) ∧ ∃ m', m' < m ∧ W (i + 1) m' (ys ++ [y]) (upd H3 D (.lst (ys ++ [y])))) ∧ (∀ H3, Z H3 → ∃ m', m' < m ∧ W (i + 1) m' ys H3) ∧
        ∀ x H', (Itv K a xs.length).yld i H2 x H' → Tn x H' N Z)) := by
  refine ⟨fun i m ys H => m = xs.length - i ∧ i ≤ xs.length ∧ Pv i ys H, ⟨xs.length, by simp, Nat.zero_le _, h0⟩, ?_⟩
  rintro i m ys H2 ⟨rfl, hi, p⟩
  obtain ⟨d1, d2⟩ := hD i ys H2 p
  have q := hl i ys H2 p
  refine ⟨d1, ?_⟩
  by_cases hlt : i < xs.length
  · refine .inr ⟨⟨hlt, xs, q, rfl⟩, by omega, fun y H3 => H3 D = some (.lst ys) ∧ Pv (i + 1) (ys ++ [y]) (upd H3 D (.lst (ys ++ [y]))), Pv (i + 1) ys, fun y H3 ⟨z1, z2⟩ => ⟨z1, xs.length - (i + 1), by omega, rfl, hlt, z2⟩, fun H3 z => ⟨xs.length - (i + 1), by omega, rfl, hlt, z⟩, fun x H' y => ?_⟩
    obtain ⟨e, y⟩ := y
    subst e
    exact hs i x ys _ (y xs q) p
  · have e : i = xs.length := by omega
    subst e
    exact .inl ⟨Nat.le_refl _, hd ys H2 p⟩
end
end L2
namespace My
open PySem L2

def top (i : Nat) : Stmt := PySem.Challenge.pw_manyleast_k65_whole_turned_and_flipped.main.body.getD i (.Pass ⟨0, 0, 0, 0⟩)
abbrev s_is_whole : Stmt := top 5
abbrev s_many_worths : Stmt := top 6
abbrev s_top_of : Stmt := top 7
abbrev s_where : Stmt := top 8
abbrev s_span_of : Stmt := top 9
abbrev s_way_of : Stmt := top 10
abbrev s_ahead : Stmt := top 12
abbrev s_place_of : Stmt := top 13
abbrev s_tree_of : Stmt := top 15
abbrev s_grown : Stmt := top 16
abbrev s_is_word : Stmt := top 17
abbrev s_half_of : Stmt := top 18
abbrev s_size_of : Stmt := top 19
abbrev s_many_in : Stmt := top 21
abbrev s_filled : Stmt := top 22
abbrev s_led : Stmt := top 23
abbrev s_led_stretch : Stmt := top 24
abbrev s_lifted : Stmt := top 25
abbrev s_turned : Stmt := top 27
abbrev s_flipped : Stmt := top 28
abbrev s_nth_least : Stmt := top 30
abbrev s_way_of_nth : Stmt := top 31
abbrev s_nth_alike : Stmt := top 32
abbrev s_many_lesser : Stmt := top 33
abbrev s_below : Stmt := top 34
abbrev s_between : Stmt := top 35
abbrev s_worths_in : Stmt := top 37
abbrev s_most : Stmt := top 38
abbrev s_often : Stmt := top 39
abbrev s_counted_above : Stmt := top 40
abbrev s_keeps : Stmt := top 42
abbrev s_is_kept : Stmt := top 43
abbrev s_is_closed : Stmt := top 44
abbrev s_is_split : Stmt := top 45
abbrev s_first_place : Stmt := top 47
abbrev s_last_place : Stmt := top 48
abbrev s_ends_between : Stmt := top 49
abbrev s_next_up : Stmt := top 51
abbrev s_next_down : Stmt := top 52
abbrev s_counted_nth : Stmt := top 53
abbrev s_paper_below : Stmt := top 55
abbrev s_paper_often : Stmt := top 56
abbrev s_told_paper : Stmt := top 57
abbrev s_paper_from : Stmt := top 58
abbrev s__law_cell : Stmt := top 60
abbrev s__law_take : Stmt := top 61
abbrev s__law_bounds : Stmt := top 62
abbrev s__law_row : Stmt := top 63
abbrev s__law_exchanged : Stmt := top 64
abbrev s__law_turned_right : Stmt := top 65
abbrev s__law_flipped_right : Stmt := top 66
abbrev s_law : Stmt := top 67
theorem sc_is_whole : FnScope ["thing"] ["thing"] (defScope s_is_whole) := fsc
theorem sc_many_worths : FnScope ["levels", "many", "level"] ["levels"] (defScope s_many_worths) := fsc
theorem sc_top_of : FnScope ["bounds"] ["bounds"] (defScope s_top_of) := fsc
theorem sc_where : FnScope ["bounds", "number"] ["bounds", "number"] (defScope s_where) := fsc
theorem sc_span_of : FnScope ["bounds", "way", "least", "many", "turn"] ["bounds", "way"] (defScope s_span_of) := fsc
theorem sc_way_of : FnScope ["bounds", "number", "least", "many", "way", "level"] ["bounds", "number"] (defScope s_way_of) := fsc
theorem sc_ahead : FnScope ["marks", "mark", "place"] ["marks", "mark", "place"] (defScope s_ahead) := fsc
theorem sc_place_of : FnScope ["marks", "mark", "number", "left", "place", "other"] ["marks", "mark", "number"] (defScope s_place_of) := fsc
theorem sc_tree_of : FnScope ["bounds", "row", "number"] ["bounds", "row"] (defScope s_tree_of) := fsc
theorem sc_grown : FnScope ["least", "many", "row", "half", "middle", "marks", "lower", "upper"] ["least", "many", "row"] (defScope s_grown) := fsc
theorem sc_is_word : FnScope ["thing", "word"] ["thing", "word"] (defScope s_is_word) := fsc
theorem sc_half_of : FnScope ["tree", "mark"] ["tree", "mark"] (defScope s_half_of) := fsc
theorem sc_size_of : FnScope ["tree"] ["tree"] (defScope s_size_of) := fsc
theorem sc_many_in : FnScope ["gathering"] ["gathering"] (defScope s_many_in) := fsc
theorem sc_filled : FnScope ["gathering"] ["gathering"] (defScope s_filled) := fsc
theorem sc_led : FnScope ["gathering", "way"] ["gathering", "way"] (defScope s_led) := fsc
theorem sc_led_stretch : FnScope ["stretch", "way", "part", "start", "end", "turn", "half"] ["stretch", "way"] (defScope s_led_stretch) := fsc
theorem sc_lifted : FnScope ["tree", "way", "place", "inner"] ["tree", "way", "place"] (defScope s_lifted) := fsc
theorem sc_turned : FnScope ["tree"] ["tree"] (defScope s_turned) := fsc
theorem sc_flipped : FnScope ["tree"] ["tree"] (defScope s_flipped) := fsc
theorem sc_nth_least : FnScope ["bounds", "gathering", "k", "way", "alike"] ["bounds", "gathering", "k"] (defScope s_nth_least) := fsc
theorem sc_way_of_nth : FnScope ["levels", "gathering", "k", "way", "parts", "left", "level", "lower", "turn"] ["levels", "gathering", "k"] (defScope s_way_of_nth) := fsc
theorem sc_nth_alike : FnScope ["gathering", "way", "number", "parts", "left", "j"] ["gathering", "way", "number"] (defScope s_nth_alike) := fsc
theorem sc_many_lesser : FnScope ["gathering", "way", "many", "parts", "turn"] ["gathering", "way"] (defScope s_many_lesser) := fsc
theorem sc_below : FnScope ["bounds", "gathering", "number", "side"] ["bounds", "gathering", "number"] (defScope s_below) := fsc
theorem sc_between : FnScope ["bounds", "gathering", "low", "high"] ["bounds", "gathering", "low", "high"] (defScope s_between) := fsc
theorem sc_worths_in : FnScope ["bounds", "gathering"] ["bounds", "gathering"] (defScope s_worths_in) := fsc
theorem sc_most : FnScope ["bounds", "gathering", "best", "counted"] ["bounds", "gathering"] (defScope s_most) := fsc
theorem sc_often : FnScope ["bounds", "gathering", "part"] ["bounds", "gathering", "part"] (defScope s_often) := fsc
theorem sc_counted_above : FnScope ["least", "many", "parts", "part", "floor", "things", "half", "lower", "upper"] ["least", "many", "parts", "part", "floor"] (defScope s_counted_above) := fsc
theorem sc_keeps : FnScope ["levels", "gathering", "paper"] ["levels", "gathering", "paper"] (defScope s_keeps) := fsc
theorem sc_is_kept : FnScope ["levels", "parts", "thing", "turn"] ["levels", "parts", "thing"] (defScope s_is_kept) := fsc
theorem sc_is_closed : FnScope ["thing"] ["thing"] (defScope s_is_closed) := fsc
theorem sc_is_split : FnScope ["thing"] ["thing"] (defScope s_is_split) := fsc
theorem sc_first_place : FnScope ["bounds", "stretch", "low", "high", "ends"] ["bounds", "stretch", "low", "high"] (defScope s_first_place) := fsc
theorem sc_last_place : FnScope ["bounds", "stretch", "low", "high", "ends"] ["bounds", "stretch", "low", "high"] (defScope s_last_place) := fsc
theorem sc_ends_between : FnScope ["least", "many", "stretch", "low", "high", "greatest", "half", "found", "turn", "inner"] ["least", "many", "stretch", "low", "high"] (defScope s_ends_between) := fsc
theorem sc_next_up : FnScope ["bounds", "gathering", "number", "k"] ["bounds", "gathering", "number"] (defScope s_next_up) := fsc
theorem sc_next_down : FnScope ["bounds", "gathering", "number", "k"] ["bounds", "gathering", "number"] (defScope s_next_down) := fsc
theorem sc_counted_nth : FnScope ["bounds", "gathering", "k", "way"] ["bounds", "gathering", "k"] (defScope s_counted_nth) := fsc
theorem sc_paper_below : FnScope ["bounds", "gathering", "number"] ["bounds", "gathering", "number"] (defScope s_paper_below) := fsc
theorem sc_paper_often : FnScope ["bounds", "gathering", "part", "whole"] ["bounds", "gathering", "part"] (defScope s_paper_often) := fsc
theorem sc_told_paper : FnScope ["bounds", "gathering", "must_split"] ["bounds", "gathering", "must_split"] (defScope s_told_paper) := fsc
theorem sc_paper_from : FnScope ["least", "many", "parts", "must_split", "things", "half", "lower", "upper"] ["least", "many", "parts", "must_split"] (defScope s_paper_from) := fsc
theorem sc__law_cell : FnScope ["_law_script", "_law_k", "_law_number"] ["_law_script", "_law_k"] (defScope s__law_cell) := fsc
theorem sc__law_take : FnScope ["_law_pen", "_law_size", "_law_found", "_law_cell_here", "_law_number"] ["_law_pen", "_law_size"] (defScope s__law_take) := fsc
theorem sc__law_bounds : FnScope ["_law_pen", "_law_levels", "_law_way"] ["_law_pen"] (defScope s__law_bounds) := fsc
theorem sc__law_row : FnScope ["_law_pen", "_law_bounds_here", "_law_greatest", "_law_size", "_law_many", "_law_way", "_law_few", "_law_row_here", "_law_k"] ["_law_pen", "_law_bounds_here", "_law_greatest"] (defScope s__law_row) := fsc
theorem sc__law_exchanged : FnScope ["_law_paper"] ["_law_paper"] (defScope s__law_exchanged) := fsc
theorem sc__law_turned_right : FnScope ["_law_pen", "_law_bounds_here", "_law_tree", "_law_row_here", "_law_start", "_law_end", "_law_other", "_law_there", "_law_here", "_law_turn", "_law_low", "_law_high", "_law_first", "_law_last"] ["_law_pen", "_law_bounds_here", "_law_tree", "_law_row_here", "_law_start", "_law_end"] (defScope s__law_turned_right) := fsc
theorem sc__law_flipped_right : FnScope ["_law_pen", "_law_bounds_here", "_law_tree", "_law_row_here", "_law_start", "_law_end", "_law_whole", "_law_there", "_law_here", "_law_many", "_law_mine", "_law_turn", "_law_k", "_law_number", "_law_up", "_law_down", "_law_part", "_law_told"] ["_law_pen", "_law_bounds_here", "_law_tree", "_law_row_here", "_law_start", "_law_end"] (defScope s__law_flipped_right) := fsc
theorem sc_law : FnScope ["_law_script", "_law_pen", "_law_bounds_here", "_law_row_here", "_law_tree", "_law_whole", "_law_start", "_law_end"] ["_law_script"] (defScope s_law) := fsc
structure Bz (K : PySem.W.Frag) (mg : Str → Option Value) (base : Heap) : Prop where
  bool_ : mg "bool" = none
  enumerate_ : mg "enumerate" = none
  int_ : mg "int" = none
  isinstance_ : mg "isinstance" = none
  len_ : mg "len" = none
  max_ : mg "max" = none
  min_ : mg "min" = none
  range_ : mg "range" = none
  reversed_ : mg "reversed" = none
  sorted_ : mg "sorted" = none
  str_ : mg "str" = none
  sum_ : mg "sum" = none
  tuple_ : mg "tuple" = none
  d_is_whole : Def K mg "is_whole" s_is_whole ["thing"]
  d_many_worths : Def K mg "many_worths" s_many_worths ["levels"]
  d_top_of : Def K mg "top_of" s_top_of ["bounds"]
  d_where : Def K mg "where" s_where ["bounds", "number"]
  d_span_of : Def K mg "span_of" s_span_of ["bounds", "way"]
  d_way_of : Def K mg "way_of" s_way_of ["bounds", "number"]
  d_ahead : Def K mg "ahead" s_ahead ["marks", "mark", "place"]
  d_place_of : Def K mg "place_of" s_place_of ["marks", "mark", "number"]
  d_tree_of : Def K mg "tree_of" s_tree_of ["bounds", "row"]
  d_grown : Def K mg "grown" s_grown ["least", "many", "row"]
  d_is_word : Def K mg "is_word" s_is_word ["thing", "word"]
  d_half_of : Def K mg "half_of" s_half_of ["tree", "mark"]
  d_size_of : Def K mg "size_of" s_size_of ["tree"]
  d_many_in : Def K mg "many_in" s_many_in ["gathering"]
  d_filled : Def K mg "filled" s_filled ["gathering"]
  d_led : Def K mg "led" s_led ["gathering", "way"]
  d_led_stretch : Def K mg "led_stretch" s_led_stretch ["stretch", "way"]
  d_lifted : Def K mg "lifted" s_lifted ["tree", "way", "place"]
  d_turned : Def K mg "turned" s_turned ["tree"]
  d_flipped : Def K mg "flipped" s_flipped ["tree"]
  d_nth_least : Def K mg "nth_least" s_nth_least ["bounds", "gathering", "k"]
  d_way_of_nth : Def K mg "way_of_nth" s_way_of_nth ["levels", "gathering", "k"]
  d_nth_alike : Def K mg "nth_alike" s_nth_alike ["gathering", "way", "number"]
  d_many_lesser : Def K mg "many_lesser" s_many_lesser ["gathering", "way"]
  d_below : Def K mg "below" s_below ["bounds", "gathering", "number"]
  d_between : Def K mg "between" s_between ["bounds", "gathering", "low", "high"]
  d_worths_in : Def K mg "worths_in" s_worths_in ["bounds", "gathering"]
  d_most : Def K mg "most" s_most ["bounds", "gathering"]
  d_often : Def K mg "often" s_often ["bounds", "gathering", "part"]
  d_counted_above : Def K mg "counted_above" s_counted_above ["least", "many", "parts", "part", "floor"]
  d_keeps : Def K mg "keeps" s_keeps ["levels", "gathering", "paper"]
  d_is_kept : Def K mg "is_kept" s_is_kept ["levels", "parts", "thing"]
  d_is_closed : Def K mg "is_closed" s_is_closed ["thing"]
  d_is_split : Def K mg "is_split" s_is_split ["thing"]
  d_first_place : Def K mg "first_place" s_first_place ["bounds", "stretch", "low", "high"]
  d_last_place : Def K mg "last_place" s_last_place ["bounds", "stretch", "low", "high"]
  d_ends_between : Def K mg "ends_between" s_ends_between ["least", "many", "stretch", "low", "high"]
  d_next_up : Def K mg "next_up" s_next_up ["bounds", "gathering", "number"]
  d_next_down : Def K mg "next_down" s_next_down ["bounds", "gathering", "number"]
  d_counted_nth : Def K mg "counted_nth" s_counted_nth ["bounds", "gathering", "k"]
  d_paper_below : DefL K mg "paper_below" s_paper_below ["bounds", "gathering", "number"] 332 328
  d_paper_often : DefL K mg "paper_often" s_paper_often ["bounds", "gathering", "part"] 339 335
  d_told_paper : Def K mg "told_paper" s_told_paper ["bounds", "gathering", "must_split"]
  d_paper_from : Def K mg "paper_from" s_paper_from ["least", "many", "parts", "must_split"]
  d__law_cell : Def K mg "_law_cell" s__law_cell ["_law_script", "_law_k"]
  d__law_take : Def K mg "_law_take" s__law_take ["_law_pen", "_law_size"]
  d__law_bounds : Def K mg "_law_bounds" s__law_bounds ["_law_pen"]
  d__law_row : Def K mg "_law_row" s__law_row ["_law_pen", "_law_bounds_here", "_law_greatest"]
  d__law_exchanged : Def K mg "_law_exchanged" s__law_exchanged ["_law_paper"]
  d__law_turned_right : Def K mg "_law_turned_right" s__law_turned_right ["_law_pen", "_law_bounds_here", "_law_tree", "_law_row_here", "_law_start", "_law_end"]
  d__law_flipped_right : Def K mg "_law_flipped_right" s__law_flipped_right ["_law_pen", "_law_bounds_here", "_law_tree", "_law_row_here", "_law_start", "_law_end"]
  bmn : BMain mg base
/-! ### the pen: the script, how many cells were read, what is left of a great one -/
/-- the script: known to the object, or the module's own -/
def Scr (K : PySem.W.Frag) (H : Hp) (a : Addr) (xs : List V) : Prop :=
  (∃ o, H a = some (.frz o (.lst xs))) ∨
    ∃ (o : Obj) (its : Array Value) (n : Nat), K.lookup a = some o ∧ o.cls = .type "list" ∧ o.dict = none ∧ o.data = .seq its n ∧ its.size ≤ sizeLine ∧ Vals xs its.toList
theorem Scr.sq {K : PySem.W.Frag} {H : Hp} {a : Addr} {xs : List V} (h : Scr K H a xs) : SqL K H a xs := by
  rcases h with h | h
  · exact .inl (.inr h)
  · exact .inr h
theorem Scr.same {K : PySem.W.Frag} {H H' : Hp} {a : Addr} {xs : List V} (h : Scr K H a xs) (s : Same H H') : Scr K H' a xs := by
  rcases h with ⟨o, h⟩ | h
  · exact .inl ⟨o, s _ _ h⟩
  · exact .inr h
theorem Scr.set {K : PySem.W.Frag} {H : Hp} {a p : Addr} {xs ys : List V} {o : HO} (h : Scr K H a xs) (e : H p = some (.lst ys)) : Scr K (upd H p o) a xs := by
  rcases h with ⟨ob, h⟩ | h
  · exact .inl ⟨ob, by rw [upd_ne (ne_of h e (by intro z; cases z))]; exact h⟩
  · exact .inr h
def Pen (K : PySem.W.Frag) (H : Hp) (pen : Addr) (n : Int) : Prop := ∃ (a : Addr) (ns : List Int) (c r : Int), H pen = some (.lst [.ref a, .int c, .int r]) ∧ Scr K H a (ns.map V.int) ∧ ns.length ≤ 63 ∧ 0 ≤ c ∧ c ≤ n ∧ 0 ≤ r
theorem Pen.same {K : PySem.W.Frag} {H H' : Hp} {pen : Addr} {n : Int} (p : Pen K H pen n) (s : Same H H') : Pen K H' pen n := by
  obtain ⟨a, ns, c, r, h1, h2, h3⟩ := p
  exact ⟨a, ns, c, r, s _ _ h1, h2.same s, h3⟩
theorem Pen.new {K : PySem.W.Frag} {H : Hp} {pen q : Addr} {n : Int} (p : Pen K H pen n) (h : H q = none) (o : HO) : Pen K (upd H q o) pen n := p.same (same_new h o)
theorem Pen.le {K : PySem.W.Frag} {H : Hp} {pen : Addr} {n m : Int} (p : Pen K H pen n) (h : n ≤ m) : Pen K H pen m := by
  obtain ⟨a, ns, c, r, h1, h2, h3, h4, h5, h6⟩ := p
  exact ⟨a, ns, c, r, h1, h2, h3, h4, by omega, h6⟩
theorem Pen.at {K : PySem.W.Frag} {H : Hp} {pen : Addr} {n : Int} (p : Pen K H pen n) : ∃ xs, H pen = some (.lst xs) := by
  obtain ⟨a, ns, c, r, h1, _⟩ := p
  exact ⟨_, h1⟩
theorem Pen.ne {K : PySem.W.Frag} {H : Hp} {pen b : Addr} {n : Int} {xs : List V} (p : Pen K H pen n) (h : H b = some (.tup xs)) : b ≠ pen := by
  obtain ⟨ys, e⟩ := p.at
  exact ne_of h e (by intro z; cases z)
theorem Pen.fresh {K : PySem.W.Frag} {H : Hp} {pen b : Addr} {n : Int} (p : Pen K H pen n) (h : H b = none) : b ≠ pen := by
  obtain ⟨ys, e⟩ := p.at
  exact fun z => by rw [z, e] at h; cases h
/-- another list is rewritten -/
theorem Pen.other {K : PySem.W.Frag} {H : Hp} {pen q : Addr} {n : Int} {ys : List V} (p : Pen K H pen n) (hq : q ≠ pen) (e : H q = some (.lst ys)) (o : HO) : Pen K (upd H q o) pen n := by
  obtain ⟨a, ns, c, r, h1, h2, h3⟩ := p
  exact ⟨a, ns, c, r, by rw [upd_ne (Ne.symm hq)]; exact h1, h2.set e, h3⟩
theorem Pen.put {K : PySem.W.Frag} {H : Hp} {pen a : Addr} {ns : List Int} {xs : List V} {c r n : Int} (h1 : H pen = some (.lst xs)) (h2 : Scr K H a (ns.map V.int)) (h4 : ns.length ≤ 63) (h5 : 0 ≤ c) (h6 : c ≤ n) (h7 : 0 ≤ r) :
    Pen K (upd H pen (.lst [.ref a, .int c, .int r])) pen n := ⟨a, ns, c, r, upd_same, h2.set h1, h4, h5, h6, h7⟩
abbrev k__law_cell : Nat := 1
inductive sp__law_cell (K : PySem.W.Frag) (vs : List V) (H : Hp) (Q : VK) (E : XK) : Prop
  | mk (a : Addr) (ns : List Int) (k : Int) (_ : vs = [.ref a, .int k]) (_ : SqL K H a (ns.map V.int)) (_ : ns.length ≤ 63) (_ : 0 ≤ k) (_ : k < 1000000000) (_ : ∀ n : Int, Q (.int n) H) : sp__law_cell K vs H Q E
abbrev k__law_take : Nat := 2
inductive sp__law_take (K : PySem.W.Frag) (vs : List V) (H : Hp) (Q : VK) (E : XK) : Prop
  | mk (pen : Addr) (size n : Int) (_ : vs = [.ref pen, .int size]) (_ : Pen K H pen n) (_ : n < 100000000) (_ : 0 < size) (_ : size < 10 ^ 60) (_ : ∀ (v : Int) (H' : Hp), Keep pen H H' → Pen K H' pen (n + 1) → 0 ≤ v → v < size → Q (.int v) H') : sp__law_take K vs H Q E
section
variable {P : Program} {w : World} {K : PySem.W.Frag} {mg : Str → Option Value} {base : Heap}
theorem ok__law_cell (z : Bz K mg base) : Cal P w K mg base k__law_cell "_law_cell" ["_law_script", "_law_k"] (sp__law_cell K) := by
  have sc := sc__law_cell
  refine z.d__law_cell.cal fun f fd F => F.k sc fun cdv A outer s H vs Q E hr h => ?_
  obtain ⟨a, ns, k, rfl, hS, h63, h0, hk, q⟩ := h
  refine ⟨_, (pss_cons (ps_if (pt_cmpR op_lt (pv 1) (pln z.len_ (pa_cons (pv 0) pa_nil)) (nomark _))
  (pss_one (ps_ret (pix ix_list (pv 0) (pv 1))))
  pss_nil)
 (pss_cons (pst 2 sc.nd (pe_op op_add (pe_op op_mul pe_int (pv 1)) pe_int))
 (pss_cons (ps_if (pt_cmpR op_gt (pln z.len_ (pa_cons (pv 0) pa_nil)) pe_int (nomark _))
  (pss_one (pst 2 sc.nd (pe_op op_add (pv 2) (pe_op op_mul (pe_op op_mod (pix ix_list (pv 0) (pe_op op_mod (pe_op op_add (pe_op op_mul pe_int (pv 1)) pe_int) (pln z.len_ (pa_cons (pv 0) pa_nil)))) pe_int) pe_int))))
  pss_nil)
 (pss_one (ps_ret (pe_op op_mod (pe_op op_mul (pv 2) (pv 2)) pe_int)))))), ?_⟩
  have hl : (ns.map V.int).length = ns.length := List.length_map _
  refine ⟨_, rfl, _, rfl, a, _, rfl, .inl hS, _, _, rfl, rfl, _, rfl, ?_⟩
  refine ite2 (fun c => ?_) (fun c => ?_)
  · have c' : k < (((ns.map V.int).length : Nat) : Int) := of_decide_eq_true c
    rw [hl] at c'
    obtain ⟨v, _, hv⟩ := atI_ints h0 c'
    exact ⟨_, rfl, _, rfl, a, _, _, _, rfl, rfl, hS, hv, q v⟩
  · refine ⟨_, rfl, _, _, rfl, rfl, .inl ⟨by decide, by decide⟩, _, _, rfl, rfl, ?_⟩
    refine ⟨_, rfl, a, _, rfl, .inl hS, _, _, rfl, rfl, _, rfl, ?_⟩
    refine ite2 (fun c2 => ?_) (fun c2 => ?_)
    · have c2' : (0 : Int) < (((ns.map V.int).length : Nat) : Int) := of_decide_eq_true c2
      have m0 : 0 ≤ (7 * k + 3) % (((ns.map V.int).length : Nat) : Int) := Int.emod_nonneg _ (by omega)
      have m1 : (7 * k + 3) % (((ns.map V.int).length : Nat) : Int) < (((ns.map V.int).length : Nat) : Int) := Int.emod_lt_of_pos _ c2'
      obtain ⟨v, _, hv⟩ := atI_ints (l := ns) m0 (by rw [hl] at m1 ⊢; exact m1)
      have b0 : 0 ≤ v % 2147483629 := Int.emod_nonneg _ (by decide)
      have b1 : v % 2147483629 < 2147483629 := Int.emod_lt_of_pos _ (by decide)
      refine ⟨_, rfl, _, rfl, _, rfl, _, _, rfl, rfl, .inl ⟨by decide, by decide⟩, _, _, rfl, rfl, _, rfl, a, _, rfl, .inl hS, _, _, rfl, rfl, c2', a, _, _, _, rfl, rfl, hS, hv, _, _, rfl, rfl, (by show (0 : Int) < 2147483629; decide), _, _, rfl, rfl, .inr ⟨by decide, by decide⟩, _, _, rfl, rfl, ?_⟩
      exact ⟨_, rfl, _, rfl, _, _, rfl, rfl, .inl ⟨by omega, by omega⟩, _, _, rfl, rfl, (by show (0 : Int) < 2147483587; decide), q _⟩
    · exact ⟨_, rfl, _, rfl, _, _, rfl, rfl, .inl ⟨by omega, by omega⟩, _, _, rfl, rfl, (by show (0 : Int) < 2147483587; decide), q _⟩
theorem ok__law_take (z : Bz K mg base) : Cal P w K mg base k__law_take "_law_take" ["_law_pen", "_law_size"] (sp__law_take K) := by
  have sc := sc__law_take
  refine z.d__law_take.cal fun f fd F => F.k sc fun cdv A outer s H vs Q E hr h => ?_
  obtain ⟨pen, size, n, rfl, ⟨a, ns, c, r, hp, hS, h63, c0, cn, r0⟩, hn, s0, s1, q⟩ := h
  refine ⟨_, (pss_cons (ps_if (pt_cmpR op_gt (pix ix_list (pv 0) pe_int) pe_int (nomark _))
  (pss_cons (pst 2 sc.nd (pe_op op_mod (pix ix_list (pv 0) pe_int) (pv 1)))
 (pss_cons (ps_asg (pe_op op_fdivB (pix ix_list (pv 0) pe_int) (pv 1)) (pg_sub (pv 0) pe_int set_list))
 (pss_one (ps_ret (pv 2)))))
  pss_nil)
 (pss_cons (pst 3 sc.nd (pe_fn (ok__law_cell z) hr.m (by rfl) (pa_cons (pix ix_list (pv 0) pe_int) (pa_cons (pix ix_list (pv 0) pe_int) pa_nil))))
 (pss_cons (ps_asg (pe_op op_add (pix ix_list (pv 0) pe_int) pe_int) (pg_sub (pv 0) pe_int set_list))
 (pss_cons (ps_if (pt_cmpR op_ge (pv 3) (pe_op op_pow pe_int pe_int) (nomark _))
  (pss_cons (ps_asg (pe_op op_fdivB (pv 3) (pv 1)) (pg_sub (pv 0) pe_int set_list))
 (pss_one (ps_ret (pe_op op_mod (pv 3) (pv 1)))))
  pss_nil)
 (pss_cons (pst 4 sc.nd (pe_op op_mod (pe_op op_mul (pe_op op_add (pe_op op_add (pe_op op_mod (pv 3) pe_int) (pe_op op_mul pe_int (pix ix_list (pv 0) pe_int))) pe_int) pe_int) pe_int))
 (pss_cons (pst 4 sc.nd (pe_op op_mod (pe_op op_mul (pe_op op_add (pv 4) (pix ix_list (pv 0) pe_int)) (pe_op op_add (pe_op op_mod (pv 4) pe_int) pe_int)) pe_int))
 (pss_cons (ps_if (pt_cmpR op_gt (pv 1) (pe_op op_pow pe_int pe_int) (nomark _))
  (pss_one (ps_ret (pe_op op_mod (pe_op op_pow (pe_op op_fdivB (pv 4) pe_int) pe_int) (pv 1))))
  pss_nil)
 (pss_one (ps_ret (pe_op op_mod (pe_op op_fdivB (pv 4) pe_int) (pv 1))))))))))), ?_⟩
  refine ⟨_, rfl, pen, _, _, _, rfl, rfl, SqL.of hp, rfl, _, _, rfl, rfl, _, rfl, ?_⟩
  refine ite2 (fun c1 => ?_) (fun c1 => ?_)
  · have c1' : (0 : Int) < r := of_decide_eq_true c1
    refine ⟨_, rfl, pen, _, _, _, rfl, rfl, SqL.of hp, rfl, _, rfl, _, _, rfl, rfl, s0, ?_⟩
    refine ⟨_, rfl, pen, _, _, _, rfl, rfl, SqL.of hp, rfl, _, rfl, _, _, rfl, rfl, ⟨s0, s1⟩, _, rfl, pen, _, _, 2, rfl, rfl, hp, rfl, _, rfl, ?_⟩
    exact q _ _ (Keep.set pen H _) (Pen.put hp hS h63 c0 (by omega) (Int.ediv_nonneg r0 (Int.le_of_lt s0))) (Int.emod_nonneg _ (by omega)) (Int.emod_lt_of_pos _ s0)
  · refine ⟨_, rfl, pen, _, _, _, rfl, rfl, SqL.of hp, rfl, _, rfl, pen, _, _, _, rfl, rfl, SqL.of hp, rfl, a, ns, c, rfl, hS.sq, h63, c0, by omega, fun cell => ?_⟩
    refine ⟨_, rfl, pen, _, _, _, rfl, rfl, SqL.of hp, rfl, _, _, rfl, rfl, _, rfl, pen, _, _, 1, rfl, rfl, hp, rfl, ?_⟩
    have hS1 : Scr K (upd H pen (.lst [.ref a, .int (c + 1), .int r])) a (ns.map V.int) := hS.set hp
    have k1 : Keep pen H (upd H pen (.lst [.ref a, .int (c + 1), .int r])) := Keep.set pen H _
    refine ⟨_, rfl, _, _, rfl, rfl, ⟨by decide, by decide, by decide⟩, _, _, rfl, rfl, _, rfl, ?_⟩
    refine ite2 (fun c2 => ?_) (fun c2 => ?_)
    · have c2' : (10 : Int) ^ 18 ≤ cell := of_decide_eq_true c2
      refine ⟨_, rfl, _, rfl, _, _, rfl, rfl, ⟨s0, s1⟩, _, rfl, pen, _, _, 2, rfl, rfl, upd_same, rfl, _, rfl, _, rfl, _, _, rfl, rfl, s0, ?_⟩
      exact q _ _ (k1.trans (Keep.set pen _ _)) (Pen.put upd_same hS1 h63 (by omega) (by omega) (Int.ediv_nonneg (by omega) (Int.le_of_lt s0))) (Int.emod_nonneg _ (by omega)) (Int.emod_lt_of_pos _ s0)
    · have P1 : Pen K (upd H pen (.lst [.ref a, .int (c + 1), .int r])) pen (n + 1) := Pen.put hp hS h63 (by omega) (by omega) r0
      refine ⟨_, rfl, _, _, rfl, rfl, (by show (0 : Int) < 2147483629; decide), _, rfl, pen, _, _, _, rfl, rfl, SqL.of upd_same, rfl, _, _, rfl, rfl, .inl ⟨by decide, by decide⟩, _, _, rfl, rfl, _, _, rfl, rfl, _, _, rfl, rfl, .inr ⟨by decide, by decide⟩, _, _, rfl, rfl, (by show (0 : Int) < 2147483647; decide), ?_⟩
      generalize hx : ((cell % 2147483629 + 7919 * (c + 1) + 1) * 48271 % 2147483647) = x1
      have g0 : 0 ≤ x1 % 65521 := Int.emod_nonneg _ (by decide)
      have g1 : x1 % 65521 < 65521 := Int.emod_lt_of_pos _ (by decide)
      refine ⟨_, rfl, _, rfl, pen, _, _, _, rfl, rfl, SqL.of upd_same, rfl, _, _, rfl, rfl, _, rfl, _, _, rfl, rfl, (by show (0 : Int) < 65521; decide), _, _, rfl, rfl, _, _, rfl, rfl, .inr ⟨by omega, by omega⟩, _, _, rfl, rfl, (by show (0 : Int) < 2147483629; decide), ?_⟩
      generalize hy : ((x1 + (c + 1)) * (x1 % 65521 + 3) % 2147483629) = x2
      have b0 : 0 ≤ x2 := by rw [← hy]; exact Int.emod_nonneg _ (by decide)
      have b1 : x2 < 2147483629 := by rw [← hy]; exact Int.emod_lt_of_pos _ (by decide)
      refine ⟨_, rfl, _, _, rfl, rfl, ⟨by decide, by decide, by decide⟩, _, _, rfl, rfl, _, rfl, ?_⟩
      refine ite2 (fun _ => ?_) (fun _ => ?_)
      · refine ⟨_, rfl, _, _, rfl, rfl, ⟨by decide, by decide⟩, _, _, rfl, rfl, ⟨by decide, by decide, by omega⟩, _, rfl, _, _, rfl, rfl, s0, ?_⟩
        exact q _ _ k1 P1 (Int.emod_nonneg _ (by omega)) (Int.emod_lt_of_pos _ s0)
      · refine ⟨_, rfl, _, _, rfl, rfl, ⟨by decide, by decide⟩, _, rfl, _, _, rfl, rfl, s0, ?_⟩
        exact q _ _ k1 P1 (Int.emod_nonneg _ (by omega)) (Int.emod_lt_of_pos _ s0)
end

abbrev k_many_worths : Nat := 1
inductive sp_many_worths (u0 : PySem.W.Frag) (vs : List V) (H : Hp) (Q : VK) (E : XK) : Prop
  | mk (L : Nat) (_ : vs = [.int (L : Int)]) (_ : L ≤ 40) (_ : Q (.int (2 ^ L)) H) : sp_many_worths u0 vs H Q E
abbrev k_top_of : Nat := 2
inductive sp_top_of (K : PySem.W.Frag) (vs : List V) (H : Hp) (Q : VK) (E : XK) : Prop
  | mk (b : Addr) (low : Int) (L : Nat) (_ : vs = [.ref b]) (_ : SqT K H b [.int low, .int (L : Int)]) (_ : L ≤ 40) (_ : Q (.int (low + 2 ^ L - 1)) H) : sp_top_of K vs H Q E
section
variable {P : Program} {w : World} {K : PySem.W.Frag} {mg : Str → Option Value} {base : Heap}
theorem ok_many_worths (z : Bz K mg base) : Cal P w K mg base k_many_worths "many_worths" ["levels"] (sp_many_worths K) := by
  have sc := sc_many_worths
  refine z.d_many_worths.cal fun f fd F => F.k sc fun cdv A outer s H vs Q E hr h => ?_
  obtain ⟨L, rfl, hL, q⟩ := h
  refine ⟨_, (pss_cons (pst 1 sc.nd pe_int)
 (pss_cons (ps_for PassesOwn.never rfl (pi_range1 rfl z.range_ (pa_cons (pv 0) pa_nil)) (pgn 2 sc.nd)
  (pss_one (pst 1 sc.nd (pe_op op_mul (pv 1) pe_int))))
 (pss_one (ps_ret (pv 1))))), ?_⟩
  refine ⟨_, rfl, (L : Int), rfl, by omega, by omega, for_range (n := L) (fun i σ H2 => ∃ v : Option V, σ = [some (.int (L : Int)), some (.int (2 ^ i)), v] ∧ H2 = H) ⟨none, rfl, rfl⟩ ?_ ?_⟩
  · rintro i σ H2 hi ⟨v, rfl, rfl⟩
    refine ⟨_, rfl, _, _, rfl, rfl, .inr ⟨by decide, by decide⟩, ?_⟩
    exact ⟨_, by rw [Int.pow_succ]; rfl, rfl⟩
  · rintro σ H2 ⟨v, rfl, rfl⟩
    exact ⟨_, rfl, q⟩
theorem ok_top_of (z : Bz K mg base) : Cal P w K mg base k_top_of "top_of" ["bounds"] (sp_top_of K) := by
  have sc := sc_top_of
  refine z.d_top_of.cal fun f fd F => F.k sc fun cdv A outer s H vs Q E hr h => ?_
  obtain ⟨b, low, L, rfl, hb, hL, q⟩ := h
  refine ⟨_, (pss_one (ps_ret (pe_op op_sub (pe_op op_add (pix ix_tup (pv 0) pe_int) (pe_fn (ok_many_worths z) hr.m (by rfl) (pa_cons (pix ix_tup (pv 0) pe_int) pa_nil))) pe_int))), ?_⟩
  exact ⟨_, rfl, b, _, _, _, rfl, rfl, hb, rfl, _, rfl, b, _, _, _, rfl, rfl, hb, rfl, L, rfl, hL, _, _, rfl, rfl, _, _, rfl, rfl, q⟩
end

abbrev k__law_bounds : Nat := 3
inductive sp__law_bounds (K : PySem.W.Frag) (vs : List V) (H : Hp) (Q : VK) (E : XK) : Prop
  | mk (pen : Addr) (n : Int) (_ : vs = [.ref pen]) (_ : Pen K H pen n) (_ : n < 10000000) (_ : ∀ (b : Addr) (low : Int) (L : Nat) (H' : Hp), Keep pen H H' → Pen K H' pen (n + 4) → H' b = some (.tup [.int low, .int (L : Int)]) → -(10 ^ 40) < low → low < 10 ^ 40 → L ≤ 40 → Q (.ref b) H') : sp__law_bounds K vs H Q E
section
variable {P : Program} {w : World} {K : PySem.W.Frag} {mg : Str → Option Value} {base : Heap}
theorem ok__law_bounds (z : Bz K mg base) : Cal P w K mg base k__law_bounds "_law_bounds" ["_law_pen"] (sp__law_bounds K) := by
  have sc := sc__law_bounds
  refine z.d__law_bounds.cal fun f fd F => F.k sc fun cdv A outer s H vs Q E hr h => ?_
  obtain ⟨pen, n, rfl, P0, hn, q⟩ := h
  refine ⟨_, (pss_cons (pst 1 sc.nd (pix ix_list (pe_lst (pa_cons (pe_fn (ok__law_take z) hr.m (by rfl) (pa_cons (pv 0) (pa_cons pe_int pa_nil))) (pa_cons pe_int (pa_cons pe_int (pa_cons pe_int (pa_cons pe_int (pa_cons pe_int (pa_cons pe_int (pa_cons pe_int pa_nil))))))))) (pe_fn (ok__law_take z) hr.m (by rfl) (pa_cons (pv 0) (pa_cons pe_int pa_nil)))))
 (pss_cons (pst 2 sc.nd (pe_fn (ok__law_take z) hr.m (by rfl) (pa_cons (pv 0) (pa_cons pe_int pa_nil))))
 (pss_cons (ps_if (pt_cmpR op_eq (pv 2) pe_int (nomark _))
  (pss_one (ps_ret (pe_tup (pa_cons (pe_op op_add (pe_op op_sub (pe_fn (ok__law_take z) hr.m (by rfl) (pa_cons (pv 0) (pa_cons (pe_op op_sub (pe_op op_mul pe_int (pe_op op_pow pe_int pe_int)) pe_int) pa_nil))) (pe_op op_pow pe_int pe_int)) pe_int) (pa_cons (pv 1) pa_nil)))))
  pss_nil)
 (pss_cons (ps_if (pt_cmpR op_eq (pv 2) pe_int (nomark _))
  (pss_one (ps_ret (pe_tup (pa_cons pe_int (pa_cons (pv 1) pa_nil)))))
  pss_nil)
 (pss_one (ps_ret (pe_tup (pa_cons (pe_op op_sub (pe_fn (ok__law_take z) hr.m (by rfl) (pa_cons (pv 0) (pa_cons pe_int pa_nil))) pe_int) (pa_cons (pv 1) pa_nil))))))))), ?_⟩
  refine ⟨_, rfl, pen, 41, n, rfl, P0, by omega, by decide, by decide, fun v1 H1 k1 P1 a1 b1 => ⟨szb rfl, fun p hp => ?_⟩⟩
  refine ⟨_, rfl, pen, 8, n + 1, rfl, P1.new hp _, by omega, by decide, by decide, fun v2 H2 k2 P2 a2 b2 => ?_⟩
  obtain ⟨L', hm, hv⟩ := atI_ints (l := [v1, 0, 1, 2, 3, 4, 5, 8]) a2 b2
  have hL : 0 ≤ L' ∧ L' ≤ 40 := by
    simp only [List.mem_cons, List.not_mem_nil, or_false] at hm
    omega
  obtain ⟨L, rfl⟩ := Int.eq_ofNat_of_zero_le hL.1
  have hL2 : L ≤ 40 := by omega
  refine ⟨p, _, _, _, rfl, rfl, SqL.of (k2 _ _ (P1.fresh hp) upd_same), hv, ?_⟩
  refine ⟨_, rfl, pen, 4, n + 1 + 1, rfl, P2, by omega, by decide, by decide, fun v3 H3 k3 P3 a3 b3 => ?_⟩
  have k03 : Keep pen H H3 := k1.trans ((Keep.new hp _).trans (k2.trans k3))
  refine ⟨_, rfl, rfl, _, rfl, ?_⟩
  refine ite2 (fun _ => ?_) (fun _ => ?_)
  · refine ⟨_, rfl, _, _, rfl, rfl, ⟨by decide, by decide, by decide⟩, _, _, rfl, rfl, .inl ⟨by decide, by decide⟩, _, _, rfl, rfl, pen, _, n + 1 + 1 + 1, rfl, P3, by omega, by decide, by decide, fun v4 H4 k4 P4 a4 b4 => ?_⟩
    refine ⟨_, _, rfl, rfl, ⟨by decide, by decide, by decide⟩, _, _, rfl, rfl, _, _, rfl, rfl, _, rfl, szb rfl, fun b hb => ?_⟩
    refine q b _ L _ (k03.trans (k4.trans (Keep.new hb _))) ((P4.new hb _).le (by omega)) upd_same ?_ ?_ hL2
    · show -(10 ^ 40) < v4 - (10 : Int) ^ 40 + 1
      omega
    · show v4 - (10 : Int) ^ 40 + 1 < 10 ^ 40
      have b4' : v4 < 2 * (10 : Int) ^ 40 - 1 := b4
      omega
  · refine ⟨_, rfl, rfl, _, rfl, ?_⟩
    refine ite2 (fun _ => ?_) (fun _ => ?_)
    · refine ⟨_, rfl, szb rfl, fun b hb => ?_⟩
      exact q b _ L _ (k03.trans (Keep.new hb _)) ((P3.new hb _).le (by omega)) upd_same (by decide) (by decide) hL2
    · refine ⟨_, rfl, pen, 99, n + 1 + 1 + 1, rfl, P3, by omega, by decide, by decide, fun v4 H4 k4 P4 a4 b4 => ?_⟩
      refine ⟨_, _, rfl, rfl, _, rfl, szb rfl, fun b hb => ?_⟩
      exact q b _ L _ (k03.trans (k4.trans (Keep.new hb _))) ((P4.new hb _).le (by omega)) upd_same (by omega) (by omega) hL2
end

abbrev k_where : Nat := 3
def whereS (low : Int) (L : Nat) (n : Int) : Str := if n < low then "below" else if low + 2 ^ L - 1 < n then "above" else "within"
theorem whereS_in {low n : Int} {L : Nat} (h : low ≤ n ∧ n < low + 2 ^ L) : whereS low L n = "within" := by
  unfold whereS
  rw [if_neg (by omega), if_neg (by omega)]
inductive sp_where (K : PySem.W.Frag) (vs : List V) (H : Hp) (Q : VK) (E : XK) : Prop
  | mk (b : Addr) (low n : Int) (L : Nat) (_ : vs = [.ref b, .int n]) (_ : SqT K H b [.int low, .int (L : Int)]) (_ : L ≤ 40) (_ : Q (.str (whereS low L n)) H) : sp_where K vs H Q E
section
variable {P : Program} {w : World} {K : PySem.W.Frag} {mg : Str → Option Value} {base : Heap}
theorem ok_where (z : Bz K mg base) : Cal P w K mg base k_where "where" ["bounds", "number"] (sp_where K) := by
  have sc := sc_where
  refine z.d_where.cal fun f fd F => F.k sc fun cdv A outer s H vs Q E hr h => ?_
  obtain ⟨b, low, n, L, rfl, hb, hL, q⟩ := h
  refine ⟨_, (pss_cons (ps_if (pt_cmpR op_lt (pv 1) (pix ix_tup (pv 0) pe_int) (nomark _))
  (pss_one (ps_ret pe_str))
  pss_nil)
 (pss_cons (ps_if (pt_cmpR op_gt (pv 1) (pe_fn (ok_top_of z) hr.m (by rfl) (pa_cons (pv 0) pa_nil)) (nomark _))
  (pss_one (ps_ret pe_str))
  pss_nil)
 (pss_one (ps_ret pe_str)))), ?_⟩
  unfold whereS at q
  refine ⟨_, rfl, _, rfl, b, _, _, _, rfl, rfl, hb, rfl, _, _, rfl, rfl, _, rfl, ?_⟩
  refine ite2 (fun c => ?_) (fun c => ?_)
  · rw [if_pos (of_decide_eq_true c)] at q
    exact q
  · rw [if_neg (fun z => c (decide_eq_true z))] at q
    refine ⟨_, rfl, _, rfl, b, low, L, rfl, hb, hL, _, _, rfl, rfl, _, rfl, ?_⟩
    refine ite2 (fun c => ?_) (fun c => ?_)
    · rw [if_pos (of_decide_eq_true c)] at q
      exact q
    · rw [if_neg (fun z => c (decide_eq_true z))] at q
      exact q
end

/-! ### rows of worths -/
def Wths (low : Int) (L : Nat) (ns : List Int) : Prop := ∀ x ∈ ns, low ≤ x ∧ x < low + 2 ^ L
theorem Wths.snoc {low : Int} {L : Nat} {ns : List Int} {y : Int} (h : Wths low L ns) (h0 : low ≤ y) (h1 : y < low + 2 ^ L) : Wths low L (ns ++ [y]) := fun x hx => by
  rcases List.mem_append.mp hx with h' | h'
  · exact h x h'
  · cases List.mem_singleton.mp h'
    exact ⟨h0, h1⟩
abbrev k__law_row : Nat := 3
inductive sp__law_row (K : PySem.W.Frag) (vs : List V) (H : Hp) (Q : VK) (E : XK) : Prop
  | mk (pen b : Addr) (n g low : Int) (L : Nat) (_ : vs = [.ref pen, .ref b, .int g]) (_ : Pen K H pen n) (_ : n < 10000000) (_ : H b = some (.tup [.int low, .int (L : Int)])) (_ : L ≤ 40) (_ : 0 ≤ g) (_ : g ≤ 60) (_ : ∀ (r : Addr) (ns : List Int) (H' : Hp), Keep pen H H' → Pen K H' pen (n + 80) → H' r = some (.lst (ns.map V.int)) → H r = none → ns.length ≤ 60 → Wths low L ns → Q (.ref r) H') : sp__law_row K vs H Q E
section
variable {P : Program} {w : World} {K : PySem.W.Frag} {mg : Str → Option Value} {base : Heap}
theorem ok__law_row (z : Bz K mg base) : Cal P w K mg base k__law_row "_law_row" ["_law_pen", "_law_bounds_here", "_law_greatest"] (sp__law_row K) := by
  have sc := sc__law_row
  refine z.d__law_row.cal fun f fd F => F.k sc fun cdv A outer s H vs Q E hr h => ?_
  obtain ⟨pen, b, n, g, low, L, rfl, P0, hn, hb, hL, g0, g1, q⟩ := h
  refine ⟨_, (pss_cons (pst 3 sc.nd (pe_op op_shl pe_int (pix ix_tup (pv 1) pe_int)))
 (pss_cons (pst 4 sc.nd (pe_fn (ok__law_take z) hr.m (by rfl) (pa_cons (pv 0) (pa_cons pe_int pa_nil))))
 (pss_cons (ps_if (pt_cmpR op_eq (pe_fn (ok__law_take z) hr.m (by rfl) (pa_cons (pv 0) (pa_cons pe_int pa_nil))) pe_int (nomark _))
  (pss_one (pst 4 sc.nd (pe_fn (ok__law_take z) hr.m (by rfl) (pa_cons (pv 0) (pa_cons (pe_op op_add (pv 2) pe_int) pa_nil)))))
  pss_nil)
 (pss_cons (pst 5 sc.nd (pe_fn (ok__law_take z) hr.m (by rfl) (pa_cons (pv 0) (pa_cons pe_int pa_nil))))
 (pss_cons (ps_setComp (i := 6) (cl := [("_law_size", s.heap.objs.size + 1 + 1), ("_law_pen", s.heap.objs.size + 1 + 0)]) (cn := ["_law_size", "_law_pen"]) (N := ["_law_pen", "_law_size"]) (fr := [0, 3]) (sc0 := defScope s__law_row) sc.nd rfl (Or.inl rfl) rfl (pi_range1 rfl z.range_ (pa_cons (pe_op op_add pe_int (pe_fn (ok__law_take z) hr.m (by rfl) (pa_cons (pv 0) (pa_cons pe_int pa_nil)))) pa_nil)) (fun C s₂ H₂ fp => (pe_fn (ok__law_take z) hr.m (by rfl) (pa_cons (pv 1) (pa_cons (pv 2) pa_nil)))) (by with_unfolding_all rfl) ⟨by with_unfolding_all rfl, by with_unfolding_all rfl, trivial⟩ rfl rfl rfl cok rfl (by with_unfolding_all rfl) (.inl rfl))
 (pss_cons (pst 7 sc.nd (pe_lst pa_nil))
 (pss_cons (ps_for PassesOwn.never rfl (pi_range1 rfl z.range_ (pa_cons (pv 4) pa_nil)) (pgn 8 sc.nd)
  (pss_one (ps_if (pt_cmpR op_eq (pv 5) pe_int (nomark _))
  (pss_one (ps_expr (pe_bm PySem.F.plainAttrs_list PySem.F.slot_list_append PySem.F.type_list_append mt_append (pv 7) (pa_cons (pe_op op_add (pix ix_tup (pv 1) pe_int) (pe_fn (ok__law_take z) hr.m (by rfl) (pa_cons (pv 0) (pa_cons (pv 3) pa_nil)))) pa_nil))))
  (pss_one (ps_if (pt_cmpR op_eq (pv 5) pe_int (nomark _))
  (pss_one (ps_expr (pe_bm PySem.F.plainAttrs_list PySem.F.slot_list_append PySem.F.type_list_append mt_append (pv 7) (pa_cons (pe_op op_add (pix ix_tup (pv 1) pe_int) (pe_op op_mod (pe_op op_add (pix ix_list (pv 6) pe_int) (pe_fn (ok__law_take z) hr.m (by rfl) (pa_cons (pv 0) (pa_cons pe_int pa_nil)))) (pv 3))) pa_nil))))
  (pss_one (ps_expr (pe_bm PySem.F.plainAttrs_list PySem.F.slot_list_append PySem.F.type_list_append mt_append (pv 7) (pa_cons (pe_op op_add (pix ix_tup (pv 1) pe_int) (pix ix_list (pv 6) (pe_fn (ok__law_take z) hr.m (by rfl) (pa_cons (pv 0) (pa_cons (pln z.len_ (pa_cons (pv 6) pa_nil)) pa_nil))))) pa_nil)))))))))
 (pss_cons (ps_if (pt_cmpR op_eq (pv 5) pe_int (nomark _))
  (pss_one (pst 7 sc.nd (pe_callB call_sortedI (by rfl) z.sorted_ bt_sorted (pa_cons (pv 7) pa_nil))))
  pss_nil)
 (pss_one (ps_ret (pv 7))))))))))), ?_⟩
  have hp := p2pos L
  have hq := p2le hL
  refine ⟨_, rfl, b, _, _, _, rfl, rfl, SqT.of hb, rfl, _, _, rfl, rfl, ⟨by omega, by omega, by decide⟩, ?_⟩
  dsimp only
  rw [shlOne]
  refine ⟨_, rfl, pen, 13, n, rfl, P0, by omega, by decide, by decide, fun mv H1 k1 P1 m0 m1 => ?_⟩
  refine ⟨_, rfl, pen, 8, n + 1, rfl, P1, by omega, by decide, by decide, fun v2 H2 k2 P2 a2 b2 => ⟨rfl, _, rfl, ?_⟩⟩
  have PP : Pen K H2 pen (n + 3) := P2.le (by omega)
  have kk : Keep pen H H2 := k1.trans k2
  have mm : mv ≤ 60 := by omega
  refine ite2 (fun _ => ?_) (fun _ => ?_)
  · refine ⟨_, rfl, _, rfl, _, _, rfl, rfl, pen, _, n + 1 + 1, rfl, P2, by omega, by omega, by omega, fun mv H3 k3 P3 m0 m1 => ?_⟩
    have PP : Pen K H3 pen (n + 3) := P3.le (by omega)
    have kk : Keep pen H H3 := kk.trans k3
    have mm : mv ≤ 60 := by omega
    refine ⟨_, rfl, pen, 4, _, rfl, PP, by omega, by decide, by decide, fun wv H4 k4 P4 w0 w1 => ?_⟩
    refine ⟨_, rfl, pen, 4, _, rfl, P4, by omega, by decide, by decide, fun c H5 k5 P5 c0 c1 => ⟨_, _, rfl, rfl, 1 + c, rfl, by omega, by omega, fun D hD => ?_⟩⟩
    have hpl : ∃ xs, H5 pen = some (.lst xs) := P5.at
    have k05 : Keep pen H H5 := kk.trans (k4.trans k5)
    have hD0 : H D = none := by obtain ⟨xs, e⟩ := hpl; exact k05.free hD e
    have hbp : b ≠ pen := P0.ne hb
    refine comp_range (n := (1 + c).toNat) (sz (by omega)) (fun j ys H6 => ∃ fs : List Int, ys = fs.map V.int ∧ fs.length = j ∧ (∀ x ∈ fs, 0 ≤ x ∧ x < (2 : Int) ^ L) ∧ H6 D = some (.lst ys) ∧ Keep pen H H6 ∧ Pen K H6 pen (n + 5 + j))
      ⟨[], rfl, rfl, fun x hx => absurd hx (by simp), upd_same, k05.own hD0, (P5.new hD _).le (by omega)⟩ (fun j ys H6 ⟨fs, e1, e2, _, e3, _⟩ => ⟨e3, by rw [e1, List.length_map]; exact e2⟩) ?_ ?_
    · rintro j ys H6 hj ⟨fs, e1, e2, e4, e3, k6, P6⟩
      refine ⟨_, rfl, _, rfl, pen, _, _, rfl, P6, by omega, hp, by omega, fun u3 H7 k7 P7 z0 z1 => ?_⟩
      have e3' : H7 D = some (.lst ys) := k7 _ _ (P5.fresh hD) e3
      refine ⟨e3', fs ++ [u3], by rw [List.map_append, e1] <;> rfl, by rw [List.length_append, e2] <;> rfl, fun x hx => ?_, upd_same, (k6.trans k7).own hD0, (P7.other (P5.fresh hD) e3' _).le (by omega)⟩
      rcases List.mem_append.mp hx with h' | h'
      · exact e4 x h'
      · cases List.mem_singleton.mp h'
        exact ⟨z0, z1⟩
    · rintro ys H6 ⟨fs, e1, e2, e4, e3, k6, P6⟩
      rw [e1] at e3
      refine ⟨szb rfl, fun r hr => ?_⟩
      have hr0 : H r = none := by
        obtain ⟨xs, e⟩ := P6.at
        exact k6.free hr e
      have hrD : D ≠ r := ne_of_none e3 hr
      have P7 : Pen K (upd H6 r (.lst [])) pen (n + 10) := (P6.new hr _).le (by omega)
      have hfs : 0 < fs.length := by omega
      refine ⟨_, rfl, mv, rfl, by omega, by omega, for_range (n := mv.toNat) (fun i σ H8 => ∃ (ns : List Int) (v8 : Option V), σ = [some (.ref pen), some (.ref b), some (.int g), some (.int (2 ^ L)), some (.int mv), some (.int wv), some (.ref D), some (.ref r), v8] ∧ H8 r = some (.lst (ns.map V.int)) ∧ ns.length = i ∧ Wths low L ns ∧
        H8 D = some (.lst (fs.map V.int)) ∧ Keep pen H H8 ∧ Pen K H8 pen (n + 10 + i)) ⟨[], none, rfl, upd_same, rfl, fun x hx => absurd hx (by simp), (by rw [upd_ne hrD]; exact e3), k6.own hr0, P7.le (by omega)⟩ ?_ ?_⟩
      · rintro i σ H8 hi ⟨ns, v8, rfl, hr8, hl8, hw8, hD8, k8, P8⟩
        have hb8 : H8 b = some (.tup [.int low, .int (L : Int)]) := k8 _ _ hbp hb
        have hpr : r ≠ pen := fun z => by
          obtain ⟨xs, e⟩ := P6.at
          rw [z, e] at hr
          cases hr
        have fin : ∀ (y : Int) (H9 : Hp), low ≤ y → y < low + 2 ^ L → Keep pen H8 H9 → Pen K H9 pen (n + 10 + i + 1) → H9 r = some (.lst (ns.map V.int)) ∧ (ns.map V.int).length < sizeLine ∧
            ∃ (ns' : List Int) (v8' : Option V), [some (V.ref pen), some (.ref b), some (.int g), some (.int (2 ^ L)), some (.int mv), some (.int wv), some (.ref D), some (.ref r), some (.int (0 + (i : Int)))] = [some (V.ref pen), some (.ref b), some (.int g), some (.int (2 ^ L)), some (.int mv), some (.int wv), some (.ref D), some (.ref r), v8'] ∧ (upd H9 r (.lst (ns.map V.int ++ [.int y]))) r = some (.lst (ns'.map V.int)) ∧ ns'.length = i + 1 ∧ Wths low L ns' ∧
              (upd H9 r (.lst (ns.map V.int ++ [.int y]))) D = some (.lst (fs.map V.int)) ∧ Keep pen H (upd H9 r (.lst (ns.map V.int ++ [.int y]))) ∧ Pen K (upd H9 r (.lst (ns.map V.int ++ [.int y]))) pen (n + 10 + ((i + 1 : Nat) : Int)) := by
          intro y H9 y0 y1 k9 P9
          have hr9 := k9 _ _ hpr hr8
          have hD9 := k9 _ _ (P5.fresh hD) hD8
          refine ⟨hr9, by rw [List.length_map, hl8]; exact small1000 (by omega), ns ++ [y], _, rfl, ?_, by rw [List.length_append, hl8] <;> rfl, hw8.snoc y0 y1, by rw [upd_ne hrD]; exact hD9, (k8.trans k9).own hr0, (P9.other hpr hr9 _).le (by omega)⟩
          rw [upd_same, List.map_append]
          rfl
        refine ⟨_, rfl, rfl, _, rfl, ?_⟩
        refine ite2 (fun _ => ?_) (fun _ => ?_)
        · refine ⟨_, rfl, .inl ⟨rfl, _, SqL.of hr8⟩, _, rfl, b, _, _, _, rfl, rfl, SqT.of hb8, rfl, _, rfl, _, rfl, pen, _, _, rfl, P8, by omega, hp, by omega, fun u H9 k9 P9 z0 z1 => ⟨_, _, rfl, rfl, ?_⟩⟩
          obtain ⟨f1, f2, f3⟩ := fin (low + u) H9 (by omega) (by omega) k9 P9
          exact ⟨r, _, _, rfl, rfl, f1, f2, f3⟩
        · refine ⟨_, rfl, rfl, _, rfl, ?_⟩
          refine ite2 (fun _ => ?_) (fun _ => ?_)
          · obtain ⟨f0, hm, hv⟩ := atI_ints (l := fs) (i := 0) (by omega) (by omega)
            refine ⟨_, rfl, .inl ⟨rfl, _, SqL.of hr8⟩, _, rfl, b, _, _, _, rfl, rfl, SqT.of hb8, rfl, _, rfl, D, _, _, _, rfl, rfl, SqL.of hD8, hv, _, rfl, pen, 5, _, rfl, P8, by omega, by decide, by decide, fun u H9 k9 P9 z0 z1 => ⟨_, _, rfl, rfl, _, rfl, _, _, rfl, rfl, hp, _, _, rfl, rfl, ?_⟩⟩
            have b0 : 0 ≤ (f0 + u) % (2 : Int) ^ L := Int.emod_nonneg _ (by omega)
            have b1 : (f0 + u) % (2 : Int) ^ L < 2 ^ L := Int.emod_lt_of_pos _ hp
            obtain ⟨f1, f2, f3⟩ := fin (low + (f0 + u) % (2 : Int) ^ L) H9 (by omega) (by omega) k9 P9
            exact ⟨r, _, _, rfl, rfl, f1, f2, f3⟩
          · refine ⟨_, rfl, .inl ⟨rfl, _, SqL.of hr8⟩, _, rfl, b, _, _, _, rfl, rfl, SqT.of hb8, rfl, _, rfl, _, rfl, _, rfl, D, _, rfl, .inl (SqL.of hD8), pen, _, _, rfl, P8, by omega, by rw [List.length_map]; omega, by rw [List.length_map]; omega, fun u H9 k9 P9 z0 z1 => ?_⟩
            rw [List.length_map] at z1
            obtain ⟨fv, hm, hv⟩ := atI_ints (l := fs) (i := u) z0 z1
            obtain ⟨y0, y1⟩ := e4 fv hm
            obtain ⟨f1, f2, f3⟩ := fin (low + fv) H9 (by omega) (by omega) k9 P9
            exact ⟨D, _, _, _, rfl, rfl, SqL.of (k9 _ _ (P5.fresh hD) hD8), hv, _, _, rfl, rfl, r, _, _, rfl, rfl, f1, f2, f3⟩
      · rintro σ H8 ⟨ns, v8, rfl, hr8, hl8, hw8, hD8, k8, P8⟩
        have hln : ns.length ≤ 60 := by omega
        refine ⟨_, rfl, rfl, _, rfl, ?_⟩
        refine ite2 (fun _ => ?_) (fun _ => ?_)
        · refine ⟨_, rfl, r, ns, rfl, SqL.of hr8, by omega, fun l ms hl pm _ => ⟨_, rfl, ?_⟩⟩
          have hl0 : H l = none := by
            obtain ⟨xs, e⟩ := P8.at
            exact k8.free hl e
          exact q l ms _ (k8.own hl0) ((P8.new hl _).le (by omega)) upd_same hl0 (by rw [pm.length_eq]; exact hln) (fun x hx => hw8 x (pm.mem_iff.mp hx))
        · exact ⟨_, rfl, q r ns _ k8 (P8.le (by omega)) hr8 hr0 hln hw8⟩
  ·
    refine ⟨_, rfl, pen, 4, _, rfl, PP, by omega, by decide, by decide, fun wv H4 k4 P4 w0 w1 => ?_⟩
    refine ⟨_, rfl, pen, 4, _, rfl, P4, by omega, by decide, by decide, fun c H5 k5 P5 c0 c1 => ⟨_, _, rfl, rfl, 1 + c, rfl, by omega, by omega, fun D hD => ?_⟩⟩
    have hpl : ∃ xs, H5 pen = some (.lst xs) := P5.at
    have k05 : Keep pen H H5 := kk.trans (k4.trans k5)
    have hD0 : H D = none := by obtain ⟨xs, e⟩ := hpl; exact k05.free hD e
    have hbp : b ≠ pen := P0.ne hb
    refine comp_range (n := (1 + c).toNat) (sz (by omega)) (fun j ys H6 => ∃ fs : List Int, ys = fs.map V.int ∧ fs.length = j ∧ (∀ x ∈ fs, 0 ≤ x ∧ x < (2 : Int) ^ L) ∧ H6 D = some (.lst ys) ∧ Keep pen H H6 ∧ Pen K H6 pen (n + 5 + j))
      ⟨[], rfl, rfl, fun x hx => absurd hx (by simp), upd_same, k05.own hD0, (P5.new hD _).le (by omega)⟩ (fun j ys H6 ⟨fs, e1, e2, _, e3, _⟩ => ⟨e3, by rw [e1, List.length_map]; exact e2⟩) ?_ ?_
    · rintro j ys H6 hj ⟨fs, e1, e2, e4, e3, k6, P6⟩
      refine ⟨_, rfl, _, rfl, pen, _, _, rfl, P6, by omega, hp, by omega, fun u3 H7 k7 P7 z0 z1 => ?_⟩
      have e3' : H7 D = some (.lst ys) := k7 _ _ (P5.fresh hD) e3
      refine ⟨e3', fs ++ [u3], by rw [List.map_append, e1] <;> rfl, by rw [List.length_append, e2] <;> rfl, fun x hx => ?_, upd_same, (k6.trans k7).own hD0, (P7.other (P5.fresh hD) e3' _).le (by omega)⟩
      rcases List.mem_append.mp hx with h' | h'
      · exact e4 x h'
      · cases List.mem_singleton.mp h'
        exact ⟨z0, z1⟩
    · rintro ys H6 ⟨fs, e1, e2, e4, e3, k6, P6⟩
      rw [e1] at e3
      refine ⟨szb rfl, fun r hr => ?_⟩
      have hr0 : H r = none := by
        obtain ⟨xs, e⟩ := P6.at
        exact k6.free hr e
      have hrD : D ≠ r := ne_of_none e3 hr
      have P7 : Pen K (upd H6 r (.lst [])) pen (n + 10) := (P6.new hr _).le (by omega)
      have hfs : 0 < fs.length := by omega
      refine ⟨_, rfl, mv, rfl, by omega, by omega, for_range (n := mv.toNat) (fun i σ H8 => ∃ (ns : List Int) (v8 : Option V), σ = [some (.ref pen), some (.ref b), some (.int g), some (.int (2 ^ L)), some (.int mv), some (.int wv), some (.ref D), some (.ref r), v8] ∧ H8 r = some (.lst (ns.map V.int)) ∧ ns.length = i ∧ Wths low L ns ∧
        H8 D = some (.lst (fs.map V.int)) ∧ Keep pen H H8 ∧ Pen K H8 pen (n + 10 + i)) ⟨[], none, rfl, upd_same, rfl, fun x hx => absurd hx (by simp), (by rw [upd_ne hrD]; exact e3), k6.own hr0, P7.le (by omega)⟩ ?_ ?_⟩
      · rintro i σ H8 hi ⟨ns, v8, rfl, hr8, hl8, hw8, hD8, k8, P8⟩
        have hb8 : H8 b = some (.tup [.int low, .int (L : Int)]) := k8 _ _ hbp hb
        have hpr : r ≠ pen := fun z => by
          obtain ⟨xs, e⟩ := P6.at
          rw [z, e] at hr
          cases hr
        have fin : ∀ (y : Int) (H9 : Hp), low ≤ y → y < low + 2 ^ L → Keep pen H8 H9 → Pen K H9 pen (n + 10 + i + 1) → H9 r = some (.lst (ns.map V.int)) ∧ (ns.map V.int).length < sizeLine ∧
            ∃ (ns' : List Int) (v8' : Option V), [some (V.ref pen), some (.ref b), some (.int g), some (.int (2 ^ L)), some (.int mv), some (.int wv), some (.ref D), some (.ref r), some (.int (0 + (i : Int)))] = [some (V.ref pen), some (.ref b), some (.int g), some (.int (2 ^ L)), some (.int mv), some (.int wv), some (.ref D), some (.ref r), v8'] ∧ (upd H9 r (.lst (ns.map V.int ++ [.int y]))) r = some (.lst (ns'.map V.int)) ∧ ns'.length = i + 1 ∧ Wths low L ns' ∧
              (upd H9 r (.lst (ns.map V.int ++ [.int y]))) D = some (.lst (fs.map V.int)) ∧ Keep pen H (upd H9 r (.lst (ns.map V.int ++ [.int y]))) ∧ Pen K (upd H9 r (.lst (ns.map V.int ++ [.int y]))) pen (n + 10 + ((i + 1 : Nat) : Int)) := by
          intro y H9 y0 y1 k9 P9
          have hr9 := k9 _ _ hpr hr8
          have hD9 := k9 _ _ (P5.fresh hD) hD8
          refine ⟨hr9, by rw [List.length_map, hl8]; exact small1000 (by omega), ns ++ [y], _, rfl, ?_, by rw [List.length_append, hl8] <;> rfl, hw8.snoc y0 y1, by rw [upd_ne hrD]; exact hD9, (k8.trans k9).own hr0, (P9.other hpr hr9 _).le (by omega)⟩
          rw [upd_same, List.map_append]
          rfl
        refine ⟨_, rfl, rfl, _, rfl, ?_⟩
        refine ite2 (fun _ => ?_) (fun _ => ?_)
        · refine ⟨_, rfl, .inl ⟨rfl, _, SqL.of hr8⟩, _, rfl, b, _, _, _, rfl, rfl, SqT.of hb8, rfl, _, rfl, _, rfl, pen, _, _, rfl, P8, by omega, hp, by omega, fun u H9 k9 P9 z0 z1 => ⟨_, _, rfl, rfl, ?_⟩⟩
          obtain ⟨f1, f2, f3⟩ := fin (low + u) H9 (by omega) (by omega) k9 P9
          exact ⟨r, _, _, rfl, rfl, f1, f2, f3⟩
        · refine ⟨_, rfl, rfl, _, rfl, ?_⟩
          refine ite2 (fun _ => ?_) (fun _ => ?_)
          · obtain ⟨f0, hm, hv⟩ := atI_ints (l := fs) (i := 0) (by omega) (by omega)
            refine ⟨_, rfl, .inl ⟨rfl, _, SqL.of hr8⟩, _, rfl, b, _, _, _, rfl, rfl, SqT.of hb8, rfl, _, rfl, D, _, _, _, rfl, rfl, SqL.of hD8, hv, _, rfl, pen, 5, _, rfl, P8, by omega, by decide, by decide, fun u H9 k9 P9 z0 z1 => ⟨_, _, rfl, rfl, _, rfl, _, _, rfl, rfl, hp, _, _, rfl, rfl, ?_⟩⟩
            have b0 : 0 ≤ (f0 + u) % (2 : Int) ^ L := Int.emod_nonneg _ (by omega)
            have b1 : (f0 + u) % (2 : Int) ^ L < 2 ^ L := Int.emod_lt_of_pos _ hp
            obtain ⟨f1, f2, f3⟩ := fin (low + (f0 + u) % (2 : Int) ^ L) H9 (by omega) (by omega) k9 P9
            exact ⟨r, _, _, rfl, rfl, f1, f2, f3⟩
          · refine ⟨_, rfl, .inl ⟨rfl, _, SqL.of hr8⟩, _, rfl, b, _, _, _, rfl, rfl, SqT.of hb8, rfl, _, rfl, _, rfl, _, rfl, D, _, rfl, .inl (SqL.of hD8), pen, _, _, rfl, P8, by omega, by rw [List.length_map]; omega, by rw [List.length_map]; omega, fun u H9 k9 P9 z0 z1 => ?_⟩
            rw [List.length_map] at z1
            obtain ⟨fv, hm, hv⟩ := atI_ints (l := fs) (i := u) z0 z1
            obtain ⟨y0, y1⟩ := e4 fv hm
            obtain ⟨f1, f2, f3⟩ := fin (low + fv) H9 (by omega) (by omega) k9 P9
            exact ⟨D, _, _, _, rfl, rfl, SqL.of (k9 _ _ (P5.fresh hD) hD8), hv, _, _, rfl, rfl, r, _, _, rfl, rfl, f1, f2, f3⟩
      · rintro σ H8 ⟨ns, v8, rfl, hr8, hl8, hw8, hD8, k8, P8⟩
        have hln : ns.length ≤ 60 := by omega
        refine ⟨_, rfl, rfl, _, rfl, ?_⟩
        refine ite2 (fun _ => ?_) (fun _ => ?_)
        · refine ⟨_, rfl, r, ns, rfl, SqL.of hr8, by omega, fun l ms hl pm _ => ⟨_, rfl, ?_⟩⟩
          have hl0 : H l = none := by
            obtain ⟨xs, e⟩ := P8.at
            exact k8.free hl e
          exact q l ms _ (k8.own hl0) ((P8.new hl _).le (by omega)) upd_same hl0 (by rw [pm.length_eq]; exact hln) (fun x hx => hw8 x (pm.mem_iff.mp hx))
        · exact ⟨_, rfl, q r ns _ k8 (P8.le (by omega)) hr8 hr0 hln hw8⟩
end

/-! ### the tree of a row -/
def grow (low : Int) : Nat → List Int → Tr
  | 0, ns => if ns = [] then .non else .many ns.length
  | e + 1, ns => if ns = [] then .non else .part (ns.map fun n => if n < low + 2 ^ e then 0 else 1) (grow low e (ns.filter fun n => decide (n < low + 2 ^ e))) (grow (low + 2 ^ e) e (ns.filter fun n => decide (low + 2 ^ e ≤ n)))
theorem grow_nil (low : Int) (e : Nat) : grow low e [] = .non := by cases e <;> rfl
theorem grow_zero {low : Int} {ns : List Int} (h : ns ≠ []) : grow low 0 ns = .many ns.length := by unfold grow; rw [if_neg h]
theorem grow_succ {low : Int} {e : Nat} {ns : List Int} (h : ns ≠ []) : grow low (e + 1) ns = .part (ns.map fun n => if n < low + 2 ^ e then 0 else 1) (grow low e (ns.filter fun n => decide (n < low + 2 ^ e))) (grow (low + 2 ^ e) e (ns.filter fun n => decide (low + 2 ^ e ≤ n))) := by
  rw [grow, if_neg h]
theorem grow_deep : ∀ (e : Nat) (low : Int) (ns : List Int), (grow low e ns).deep ≤ e
  | 0, low, ns => by
    by_cases h : ns = []
    · rw [h, grow_nil]; exact Nat.le_refl _
    · rw [grow_zero h]; exact Nat.le_refl _
  | e + 1, low, ns => by
    by_cases h : ns = []
    · rw [h, grow_nil]; exact Nat.zero_le _
    · rw [grow_succ h]
      have h1 := grow_deep e low (ns.filter fun n => decide (n < low + 2 ^ e))
      have h2 := grow_deep e (low + 2 ^ e) (ns.filter fun n => decide (low + 2 ^ e ≤ n))
      show max _ _ + 1 ≤ e + 1
      omega
/-- no marks are long -/
def Tr.fit (b : Nat) : Tr → Prop
  | .non => True
  | .many _ => True
  | .part ms l r => ms.length ≤ b ∧ Tr.fit b l ∧ Tr.fit b r
abbrev kb_grown : Nat := 0
abbrev kn_grown : Nat := 40
abbrev k_grown : Nat := 41
inductive spe_grown (K : PySem.W.Frag) (e : Nat) (vs : List V) (H : Hp) (Q : VK) (E : XK) : Prop
  | mk (least : Int) (a : Addr) (ns : List Int) (_ : vs = [.int least, .int (2 ^ e), .ref a]) (_ : SqL K H a (ns.map V.int)) (_ : ns.length ≤ 1000) (_ : ∀ (H' : Hp) (v : V), Same H H' → TreeAt H' v (grow least e ns) → Q v H') : spe_grown K e vs H Q E
def sp_grown (K : PySem.W.Frag) : Sp := fun vs H Q E => ∃ e, e ≤ kn_grown ∧ spe_grown K e vs H Q E
section
variable {P : Program} {w : World} {K : PySem.W.Frag} {mg : Str → Option Value} {base : Heap}
theorem ok_grown (z : Bz K mg base) : Cal P w K mg base k_grown "grown" ["least", "many", "row"] (sp_grown K) := by
  have sc := sc_grown
  refine z.d_grown.recur (k := kb_grown) (sp := spe_grown K) kn_grown fun e hen c_grown f fd F => F.k sc fun cdv A outer s H vs Q E hr h => ?_
  obtain ⟨least, a, ns, rfl, ha, hl, q⟩ := h
  refine ⟨_, (pss_cons (ps_if (pt_cmpR op_eq (pln z.len_ (pa_cons (pv 2) pa_nil)) pe_int (nomark _))
  (pss_one (ps_ret pe_non))
  pss_nil)
 (pss_cons (ps_if (pt_cmpR op_eq (pv 1) pe_int (nomark _))
  (pss_one (ps_ret (pe_tup (pa_cons pe_str (pa_cons (pln z.len_ (pa_cons (pv 2) pa_nil)) pa_nil)))))
  pss_nil)
 (pss_cons (pst 3 sc.nd (pe_op op_fdivB (pv 1) pe_int))
 (pss_cons (pst 4 sc.nd (pe_op op_add (pv 0) (pv 3)))
 (pss_cons (pst 5 sc.nd (pe_callTy call_tupleF (by rfl) z.tuple_ bt_tuple (pa_cons (pe_comp (cl := [("middle", s.heap.objs.size + 1 + 0)]) (cn := ["middle"]) (N := ["middle"]) (fr := [4]) (sc0 := defScope s_grown) rfl (pi_list (pv 2)) (fun C s₂ H₂ fp => (pe_ifExp (pt_cmpR op_lt (pv 0) (pv 1) (nomark _)) pe_int pe_int)) (by with_unfolding_all rfl) ⟨by with_unfolding_all rfl, trivial⟩ rfl rfl rfl cok rfl) pa_nil)))
 (pss_cons (pst 6 sc.nd (pe_fn c_grown (hr.mono (Nat.le_refl _)) (by rfl) (pa_cons (pv 0) (pa_cons (pv 3) (pa_cons (pe_compIf (cl := [("middle", s.heap.objs.size + 1 + 0)]) (cn := ["middle"]) (N := ["middle"]) (fr := [4]) (sc0 := defScope s_grown) rfl (pi_list (pv 2)) (fun C s₂ H₂ fp => (pv 0)) (fun C s₂ H₂ fp => (pt_cmpR op_lt (pv 0) (pv 1) (nomark _))) (by with_unfolding_all rfl) ⟨by with_unfolding_all rfl, trivial⟩ rfl rfl rfl cok rfl) pa_nil)))))
 (pss_cons (pst 7 sc.nd (pe_fn c_grown (hr.mono (Nat.le_refl _)) (by rfl) (pa_cons (pv 4) (pa_cons (pv 3) (pa_cons (pe_compIf (cl := [("middle", s.heap.objs.size + 1 + 0)]) (cn := ["middle"]) (N := ["middle"]) (fr := [4]) (sc0 := defScope s_grown) rfl (pi_list (pv 2)) (fun C s₂ H₂ fp => (pv 0)) (fun C s₂ H₂ fp => (pt_cmpR op_ge (pv 0) (pv 1) (nomark _))) (by with_unfolding_all rfl) ⟨by with_unfolding_all rfl, trivial⟩ rfl rfl rfl cok rfl) pa_nil)))))
 (pss_one (ps_ret (pe_tup (pa_cons pe_str (pa_cons (pv 5) (pa_cons (pv 6) (pa_cons (pv 7) pa_nil)))))))))))))), ?_⟩
  have hz : ns.length ≤ sizeLine := sz hl
  refine ⟨_, rfl, a, _, rfl, .inl ha, rfl, _, rfl, ?_⟩
  refine ite2 (fun c => ?_) (fun c => ?_)
  · have c' : (((ns.map V.int).length : Nat) : Int) = 0 := V.int.inj (of_decide_eq_true c)
    rw [List.length_map] at c'
    have e0 : ns = [] := List.eq_nil_of_length_eq_zero (by omega)
    subst e0
    exact q H .non (Same.refl H) (by rw [grow_nil]; rfl)
  · have hne : ns ≠ [] := fun z => c (by rw [z]; exact decide_eq_true rfl)
    refine ⟨_, rfl, rfl, _, rfl, ?_⟩
    refine ite2 (fun c2 => ?_) (fun c2 => ?_)
    · have e0 : e = 0 := p2one (V.int.inj (of_decide_eq_true c2))
      subst e0
      refine ⟨_, rfl, a, _, rfl, .inl ha, szb rfl, fun p hp => q _ _ (same_new hp _) ?_⟩
      rw [grow_zero hne]
      refine ⟨p, rfl, ?_⟩
      rw [upd_same, List.length_map]
    · cases e with
      | zero => exact absurd (decide_eq_true rfl) c2
      | succ e =>
        refine ⟨_, rfl, _, _, rfl, rfl, ⟨by decide, by decide⟩, ?_⟩
        dsimp only
        rw [p2half]
        refine ⟨_, rfl, _, rfl, _, _, rfl, rfl, ?_⟩
        refine ⟨_, rfl, a, rfl, ⟨_, ha⟩, fun D hD => ?_⟩
        refine comp_ints (g := fun n => .int (if n < least + 2 ^ e then 0 else 1)) ha hD hz (fun n _ H1 Q1 _ q1 => ?_) ?_
        · refine ⟨_, rfl, _, rfl, _, _, rfl, rfl, _, rfl, ?_⟩
          refine ite2 (fun c3 => ?_) (fun c3 => ?_)
          · rw [if_pos (of_decide_eq_true c3)] at q1
            exact q1
          · rw [if_neg (fun z => c3 (decide_eq_true z))] at q1
            exact q1
        have s1 : Same H (upd H D (.lst (ns.map fun n => V.int (if n < least + 2 ^ e then 0 else 1)))) := same_new hD _
        refine ⟨D, _, rfl, SqL.of upd_same, fun m H2 s2 hm => ?_⟩
        have s02 : Same H H2 := s1.trans s2
        have hm' : TupF H2 m ((ns.map fun n => if n < least + 2 ^ e then (0 : Int) else 1).map V.int) := by rw [List.map_map]; exact hm
        refine ⟨_, rfl, _, rfl, _, rfl, a, rfl, ⟨_, s02.seq ha⟩, fun D2 hD2 => ?_⟩
        refine compIf_ints (p := fun n => decide (n < least + 2 ^ e)) (g := V.int) (s02.seq ha) hD2 hz (fun n _ H1 Q1 _ q1 => ⟨_, rfl, _, rfl, _, _, rfl, rfl, _, rfl, q1⟩) (fun n _ _ H1 Q1 _ q1 => ⟨_, rfl, q1⟩) ?_
        refine ⟨least, D2, _, rfl, SqL.of upd_same, Nat.le_trans (List.length_filter_le _ _) hl, fun H3 lo s3 hlo => ?_⟩
        have s03 : Same H H3 := s02.trans ((same_new hD2 _).trans s3)
        refine ⟨_, rfl, _, rfl, _, rfl, a, rfl, ⟨_, s03.seq ha⟩, fun D3 hD3 => ?_⟩
        refine compIf_ints (p := fun n => decide (least + 2 ^ e ≤ n)) (g := V.int) (s03.seq ha) hD3 hz (fun n _ H1 Q1 _ q1 => ⟨_, rfl, _, rfl, _, _, rfl, rfl, _, rfl, q1⟩) (fun n _ _ H1 Q1 _ q1 => ⟨_, rfl, q1⟩) ?_
        refine ⟨least + 2 ^ e, D3, _, rfl, SqL.of upd_same, Nat.le_trans (List.length_filter_le _ _) hl, fun H4 hi s4 hhi => ?_⟩
        have s34 : Same H3 H4 := (same_new hD3 _).trans s4
        refine ⟨_, rfl, _, rfl, _, rfl, szb rfl, fun p hp => q _ _ (s03.trans (s34.trans (same_new hp _))) ?_⟩
        rw [grow_succ hne]
        have sp : Same H4 (upd H4 p (.tup [.str "part", .ref m, lo, hi])) := same_new hp _
        have s24 : Same H2 H4 := (same_new hD2 _).trans (s3.trans s34)
        exact ⟨p, m, lo, hi, rfl, upd_same, (hm'.same s24).same sp, (hlo.same s34).same sp, hhi.same sp⟩
end
abbrev k_tree_of : Nat := 42
inductive sp_tree_of (K : PySem.W.Frag) (vs : List V) (H : Hp) (Q : VK) (E : XK) : Prop
  | mk (b a : Addr) (low : Int) (L : Nat) (ns : List Int) (_ : vs = [.ref b, .ref a]) (_ : SqT K H b [.int low, .int (L : Int)]) (_ : L ≤ 40) (_ : SqL K H a (ns.map V.int)) (_ : ns.length ≤ 1000) (_ : Wths low L ns) (_ : ∀ (H' : Hp) (v : V), Same H H' → TreeAt H' v (grow low L ns) → Q v H') : sp_tree_of K vs H Q E
section
variable {P : Program} {w : World} {K : PySem.W.Frag} {mg : Str → Option Value} {base : Heap}
theorem ok_tree_of (z : Bz K mg base) : Cal P w K mg base k_tree_of "tree_of" ["bounds", "row"] (sp_tree_of K) := by
  have sc := sc_tree_of
  refine z.d_tree_of.cal fun f fd F => F.k sc fun cdv A outer s H vs Q E hr h => ?_
  obtain ⟨b, a, low, L, ns, rfl, hb, hL, ha, hl, hw, q⟩ := h
  refine ⟨_, (pss_cons (ps_for PassesOwn.never rfl (pi_list (pv 1)) (pgn 2 sc.nd)
  (pss_one (ps_if (pt_cmpR op_ne (pe_fn (ok_where z) hr.m (by rfl) (pa_cons (pv 0) (pa_cons (pv 2) pa_nil))) pe_str (nomark _))
  (pss_one ps_never)
  pss_nil)))
 (pss_one (ps_ret (pe_fn (ok_grown z) hr.m (by rfl) (pa_cons (pix ix_tup (pv 0) pe_int) (pa_cons (pe_fn (ok_many_worths z) hr.m (by rfl) (pa_cons (pix ix_tup (pv 0) pe_int) pa_nil)) (pa_cons (pv 1) pa_nil))))))), ?_⟩
  refine ⟨_, rfl, a, rfl, ⟨_, ha⟩, for_list (K := K) (a := a) (xs := ns.map V.int) (fun i σ H2 => ∃ v : Option V, σ = [some (.ref b), some (.ref a), v] ∧ H2 = H) ⟨none, rfl, rfl⟩ (fun i σ H2 _ ⟨_, _, e⟩ => by rw [e]; exact ha) ?_ ?_⟩
  · rintro i x σ H2 hi ⟨v, rfl, rfl⟩
    obtain ⟨n, hn, rfl⟩ := List.mem_map.mp (List.mem_of_getElem? hi)
    refine ⟨_, rfl, _, rfl, b, low, n, L, rfl, hb, hL, rfl, _, rfl, iteNS (by rw [whereS_in (hw n hn)]) ?_⟩
    exact ⟨_, rfl, rfl⟩
  · rintro σ H2 ⟨v, rfl, rfl⟩
    refine ⟨_, rfl, b, _, _, _, rfl, rfl, hb, rfl, _, rfl, b, _, _, _, rfl, rfl, hb, rfl, L, rfl, hL, ?_⟩
    exact ⟨_, rfl, L, hL, low, a, ns, rfl, ha, hl, q⟩
end

/-! ### sizes, halves, places -/
def trSize : Tr → Int
  | .non => 0
  | .many n => n
  | .part ms _ _ => ms.length
def trHalf : Tr → Int → Tr
  | .part _ l r, mk => if mk = 0 then l else r
  | _, _ => .non
abbrev k_size_of : Nat := 1
inductive sp_size_of (u0 : PySem.W.Frag) (vs : List V) (H : Hp) (Q : VK) (E : XK) : Prop
  | mk (v : V) (t : Tr) (_ : vs = [v]) (_ : TreeAt H v t) (_ : Q (.int (trSize t)) H) : sp_size_of u0 vs H Q E
section
variable {P : Program} {w : World} {K : PySem.W.Frag} {mg : Str → Option Value} {base : Heap}
theorem ok_size_of (z : Bz K mg base) : Cal P w K mg base k_size_of "size_of" ["tree"] (sp_size_of K) := by
  have sc := sc_size_of
  refine z.d_size_of.cal fun f fd F => F.k sc fun cdv A outer s H vs Q E hr h => ?_
  obtain ⟨v, t, rfl, ht, q⟩ := h
  refine ⟨_, (pss_cons (ps_if (pt_cmpR op_isN (pv 0) pe_non (nomark _))
  (pss_one (ps_ret pe_int))
  pss_nil)
 (pss_cons (ps_if (pt_cmpR op_eq (pix ix_tup (pv 0) pe_int) pe_str (nomark _))
  (pss_one (ps_ret (pix ix_tup (pv 0) pe_int)))
  pss_nil)
 (pss_one (ps_ret (pln z.len_ (pa_cons (pix ix_tup (pv 0) pe_int) pa_nil)))))), ?_⟩
  refine ⟨_, rfl, rfl, _, rfl, ?_⟩
  cases t with
  | non =>
    cases ht
    exact ite2 (fun c => q) (fun c => absurd (decide_eq_true rfl) c)
  | many n =>
    obtain ⟨a, rfl, ha⟩ := ht
    refine ite2 (fun c => absurd (of_decide_eq_true c) (by intro z; cases z)) (fun c => ?_)
    refine ⟨_, rfl, a, _, _, _, rfl, rfl, SqT.of ha, rfl, rfl, _, rfl, ?_⟩
    refine ite2 (fun c => ?_) (fun c => absurd (decide_eq_true rfl) c)
    exact ⟨_, rfl, a, _, _, _, rfl, rfl, SqT.of ha, rfl, q⟩
  | part ms l r =>
    obtain ⟨a, m, x, y, rfl, ha, hm, hl, hr'⟩ := ht
    refine ite2 (fun c => absurd (of_decide_eq_true c) (by intro z; cases z)) (fun c => ?_)
    refine ⟨_, rfl, a, _, _, _, rfl, rfl, SqT.of ha, rfl, rfl, _, rfl, ?_⟩
    refine ite2 (fun c => absurd (of_decide_eq_true c) (by decide)) (fun c => ?_)
    refine ⟨_, rfl, a, _, _, _, rfl, rfl, SqT.of ha, rfl, m, _, rfl, .inr hm.sq, ?_⟩
    rw [List.length_map]
    exact q
end

abbrev k_half_of : Nat := 1
inductive sp_half_of (u0 : PySem.W.Frag) (vs : List V) (H : Hp) (Q : VK) (E : XK) : Prop
  | mk (v : V) (t : Tr) (mk : Int) (_ : vs = [v, .int mk]) (_ : TreeAt H v t) (_ : (mk = 0 ∨ mk = 1)) (_ : ∀ u, TreeAt H u (trHalf t mk) → Q u H) : sp_half_of u0 vs H Q E
section
variable {P : Program} {w : World} {K : PySem.W.Frag} {mg : Str → Option Value} {base : Heap}
theorem ok_half_of (z : Bz K mg base) : Cal P w K mg base k_half_of "half_of" ["tree", "mark"] (sp_half_of K) := by
  have sc := sc_half_of
  refine z.d_half_of.cal fun f fd F => F.k sc fun cdv A outer s H vs Q E hr h => ?_
  obtain ⟨v, t, mk, rfl, ht, hmk, q⟩ := h
  refine ⟨_, (pss_cons (ps_if (PW.pt (pw_or (pt_cmpR op_isN (pv 0) pe_non (nomark _)) (pw_or1 (pt_cmpR op_eq (pix ix_tup (pv 0) pe_int) pe_str (nomark _)))))
  (pss_one (ps_ret pe_non))
  pss_nil)
 (pss_one (ps_ret (pix ix_tup (pv 0) (pe_op op_add pe_int (pv 1)))))), ?_⟩
  refine ⟨_, rfl, rfl, _, rfl, ?_⟩
  cases t with
  | non =>
    cases ht
    exact ite2 (fun c => q .non rfl) (fun c => absurd (decide_eq_true rfl) c)
  | many n =>
    obtain ⟨a, rfl, ha⟩ := ht
    refine ite2 (fun c => absurd (of_decide_eq_true c) (by intro z; cases z)) (fun c => ?_)
    refine ⟨_, rfl, a, _, _, _, rfl, rfl, SqT.of ha, rfl, rfl, _, rfl, ?_⟩
    exact ite2 (fun c => q .non rfl) (fun c => absurd (decide_eq_true rfl) c)
  | part ms l r =>
    obtain ⟨a, m, x, y, rfl, ha, hm, hl, hr'⟩ := ht
    refine ite2 (fun c => absurd (of_decide_eq_true c) (by intro z; cases z)) (fun c => ?_)
    refine ⟨_, rfl, a, _, _, _, rfl, rfl, SqT.of ha, rfl, rfl, _, rfl, ?_⟩
    refine ite2 (fun c => absurd (of_decide_eq_true c) (by decide)) (fun c => ?_)
    refine ⟨_, rfl, _, rfl, _, _, rfl, rfl, ?_⟩
    rcases hmk with rfl | rfl
    · exact ⟨a, _, _, _, rfl, rfl, SqT.of ha, rfl, q x hl⟩
    · exact ⟨a, _, _, _, rfl, rfl, SqT.of ha, rfl, q y hr'⟩
end

/-- the places at which p holds -/
def idxs (p : Int → Bool) : List Int → List Nat
  | [] => []
  | o :: os => if p o = true then 0 :: (idxs p os).map (· + 1) else (idxs p os).map (· + 1)
theorem idxs_comp {p q r : Int → Bool} {f : Int → Int} : ∀ (os : List Int) (k : Nat), (∀ o ∈ os, p o = (q o && r (f o))) → (idxs p os)[k]? = ((idxs r ((os.filter q).map f))[k]?).bind fun j => (idxs q os)[j]?
  | [], k, _ => by simp [idxs]
  | o :: os, k, h => by
    have h0 := h o (List.mem_cons_self ..)
    have ih := fun k => idxs_comp (p := p) (q := q) (r := r) (f := f) os k fun x hx => h x (List.mem_cons_of_mem _ hx)
    cases hq : q o with
    | false =>
      have hp : p o = false := by rw [h0, hq]; rfl
      simp only [idxs, hp, hq, List.filter_cons, Bool.false_eq_true, if_false, List.getElem?_map, ih]
      cases (idxs r ((os.filter q).map f))[k]? <;> simp
    | true =>
      cases hr : r (f o) with
      | false =>
        have hp : p o = false := by rw [h0, hq, hr]; rfl
        simp only [idxs, hp, hq, hr, List.filter_cons, Bool.false_eq_true, if_false, if_true, List.map_cons, List.getElem?_map, ih]
        cases (idxs r ((os.filter q).map f))[k]? <;> simp
      | true =>
        have hp : p o = true := by rw [h0, hq, hr]; rfl
        cases k with
        | zero => simp [idxs, hp, hq, hr, List.filter_cons]
        | succ k =>
          simp only [idxs, hp, hq, hr, List.filter_cons, if_true, List.map_cons, List.getElem?_cons_succ, List.getElem?_map, ih]
          cases (idxs r ((os.filter q).map f))[k]? <;> simp
theorem idxs_true : ∀ (os : List Int), idxs (fun _ => true) os = List.range os.length
  | [] => rfl
  | o :: os => by
    rw [idxs, if_pos rfl, idxs_true os, List.length_cons, List.range_succ_eq_map]
/-- whether a number, told by how far from the low it is, lies at a way -/
def inW : Nat → Int → List Int → Bool
  | _, _, [] => true
  | 0, _, _ :: _ => false
  | e + 1, o, w :: ws => (o / 2 ^ e == w) && inW e (o % 2 ^ e) ws
def mk0 (e : Nat) (o : Int) : Int := if o < 2 ^ e then 0 else 1
/-- those of a half, told anew -/
def halfO (e : Nat) (w : Int) (os : List Int) : List Int := (os.filter fun o => mk0 e o == w).map fun o => o % 2 ^ e
theorem div_mk {e : Nat} {o : Int} (h0 : 0 ≤ o) (h1 : o < 2 ^ (e + 1)) : o / 2 ^ e = mk0 e o := by
  have hp : (0 : Int) < 2 ^ e := Int.pow_pos (by decide)
  have hs : (2 : Int) ^ (e + 1) = 2 ^ e + 2 ^ e := by rw [Int.pow_succ]; omega
  unfold mk0
  split
  · exact Int.ediv_eq_zero_of_lt h0 (by assumption)
  · have e1 : o = (o - 2 ^ e) + 1 * 2 ^ e := by omega
    rw [e1, Int.add_mul_ediv_right _ _ (by omega), Int.ediv_eq_zero_of_lt (by omega) (by omega)]
    rfl
def spots (L : Nat) (os ws : List Int) : List Nat := idxs (fun o => inW L o ws) os
theorem spots_cons {e : Nat} {os ws : List Int} {w : Int} (h : ∀ o ∈ os, 0 ≤ o ∧ o < (2 : Int) ^ (e + 1)) (k : Nat) :
    (spots (e + 1) os (w :: ws))[k]? = ((spots e (halfO e w os) ws)[k]?).bind fun j => (idxs (fun o => mk0 e o == w) os)[j]? := by
  unfold spots halfO
  refine idxs_comp os k fun o ho => ?_
  obtain ⟨h0, h1⟩ := h o ho
  show ((o / 2 ^ e == w) && inW e (o % 2 ^ e) ws) = _
  rw [div_mk h0 h1]
def plc (mk : Int) : List Int → Int → Nat → Option Nat
  | [], _, _ => none
  | m :: r, l, i => if m = mk then (if l = 0 then some i else plc mk r (l - 1) (i + 1)) else plc mk r l (i + 1)
theorem plc_idxs {w : Int} {f : Int → Int} : ∀ (os : List Int) (j i : Nat), plc w (os.map f) (j : Int) i = ((idxs (fun o => f o == w) os)[j]?).map (· + i)
  | [], j, i => by simp [plc, idxs]
  | o :: os, j, i => by
    rw [List.map_cons, plc, idxs]
    by_cases c : f o = w
    · rw [if_pos c, if_pos (beq_iff_eq.mpr c)]
      cases j with
      | zero => simp
      | succ j =>
        rw [if_neg (by omega), show (((j + 1 : Nat) : Int) - 1) = (j : Int) by omega, plc_idxs os j (i + 1), List.getElem?_cons_succ, List.getElem?_map, Option.map_map]
        congr 1
        funext x
        show x + (i + 1) = (x + 1) + i
        omega
    · rw [if_neg c, if_neg (by rw [beq_iff_eq]; exact c), plc_idxs os j (i + 1), List.getElem?_map, Option.map_map]
      congr 1
      funext x
      show x + (i + 1) = (x + 1) + i
      omega

def InO (L : Nat) (os : List Int) : Prop := ∀ o ∈ os, 0 ≤ o ∧ o < (2 : Int) ^ L
def growO : Nat → List Int → Tr
  | 0, os => if os = [] then .non else .many os.length
  | e + 1, os => if os = [] then .non else .part (os.map (mk0 e)) (growO e (os.filter fun o => decide (o < 2 ^ e))) (growO e ((os.filter fun o => decide ((2 : Int) ^ e ≤ o)).map fun o => o - 2 ^ e))
theorem growO_nil (e : Nat) : growO e [] = .non := by cases e <;> rfl
theorem growO_zero {os : List Int} (h : os ≠ []) : growO 0 os = .many os.length := by unfold growO; rw [if_neg h]
theorem growO_succ {e : Nat} {os : List Int} (h : os ≠ []) : growO (e + 1) os = .part (os.map (mk0 e)) (growO e (os.filter fun o => decide (o < 2 ^ e))) (growO e ((os.filter fun o => decide ((2 : Int) ^ e ≤ o)).map fun o => o - 2 ^ e)) := by
  rw [growO, if_neg h]
theorem halfO_0 {e : Nat} {os : List Int} (h : InO (e + 1) os) : halfO e 0 os = os.filter fun o => decide (o < 2 ^ e) := by
  unfold halfO
  have e1 : (os.filter fun o => mk0 e o == 0) = os.filter fun o => decide (o < 2 ^ e) := List.filter_congr fun o _ => by
    unfold mk0
    by_cases c : o < 2 ^ e
    · rw [if_pos c, decide_eq_true c]; rfl
    · rw [if_neg c, decide_eq_false c]; rfl
  rw [e1]
  have e2 : ∀ o ∈ (os.filter fun o => decide (o < (2 : Int) ^ e)), o % 2 ^ e = o := fun o ho => by
    obtain ⟨h1, h2⟩ := List.mem_filter.mp ho
    exact Int.emod_eq_of_lt (h o h1).1 (of_decide_eq_true h2)
  rw [List.map_congr_left e2, List.map_id']
theorem halfO_1 {e : Nat} {os : List Int} (h : InO (e + 1) os) : halfO e 1 os = (os.filter fun o => decide ((2 : Int) ^ e ≤ o)).map fun o => o - 2 ^ e := by
  unfold halfO
  have e1 : (os.filter fun o => mk0 e o == 1) = os.filter fun o => decide ((2 : Int) ^ e ≤ o) := List.filter_congr fun o _ => by
    unfold mk0
    by_cases c : o < 2 ^ e
    · rw [if_pos c, decide_eq_false (by omega)]; rfl
    · rw [if_neg c, decide_eq_true (by omega)]; rfl
  rw [e1]
  refine List.map_congr_left fun o ho => ?_
  obtain ⟨h1, h2⟩ := List.mem_filter.mp ho
  have h3 : (2 : Int) ^ e ≤ o := of_decide_eq_true h2
  have h4 := (h o h1).2
  have hs : (2 : Int) ^ (e + 1) = 2 ^ e + 2 ^ e := by rw [Int.pow_succ]; omega
  have e3 : o = (o - 2 ^ e) + 2 ^ e := by omega
  have e4 : o % 2 ^ e = (o - 2 ^ e) % 2 ^ e := by rw [e3, Int.add_emod_right]; congr 1; omega
  rw [e4]
  exact Int.emod_eq_of_lt (by omega) (by omega)
theorem halfO_in {e : Nat} {os : List Int} {w : Int} : InO e (halfO e w os) := fun o ho => by
  obtain ⟨x, _, rfl⟩ := List.mem_map.mp ho
  have hp : (0 : Int) < 2 ^ e := Int.pow_pos (by decide)
  exact ⟨Int.emod_nonneg _ (by omega), Int.emod_lt_of_pos _ hp⟩
theorem halfO_len {e : Nat} {os : List Int} {w : Int} : (halfO e w os).length ≤ os.length := by
  unfold halfO
  rw [List.length_map]
  exact List.length_filter_le _ _
theorem growO_half {e : Nat} {os : List Int} {w : Int} (h : InO (e + 1) os) (hw : w = 0 ∨ w = 1) : trHalf (growO (e + 1) os) w = growO e (halfO e w os) := by
  by_cases hn : os = []
  · subst hn
    rw [growO_nil]
    show Tr.non = growO e ([] : List Int)
    rw [growO_nil]
  · rw [growO_succ hn]
    rcases hw with rfl | rfl
    · rw [halfO_0 h]; rfl
    · rw [halfO_1 h]; rfl
theorem growO_size (e : Nat) (os : List Int) : trSize (growO e os) = os.length := by
  by_cases h : os = []
  · rw [h, growO_nil]; rfl
  · cases e with
    | zero => rw [growO_zero h]; rfl
    | succ e =>
      rw [growO_succ h]
      show ((List.map _ os).length : Int) = _
      rw [List.length_map]
theorem spots_nil {L : Nat} {ws : List Int} : spots L [] ws = [] := rfl
theorem spots_empty {L : Nat} {os : List Int} : spots L os [] = List.range os.length := by
  unfold spots
  have e : (fun o => inW L o []) = fun _ => true := by
    funext o
    cases L <;> rfl
  rw [e, idxs_true]
/-- the next step down: which place it is there -/
theorem spots_down {e : Nat} {os ws : List Int} {w : Int} (h : InO (e + 1) os) (k : Nat) :
    (spots (e + 1) os (w :: ws))[k]? = ((spots e (halfO e w os) ws)[k]?).bind fun j => plc w (os.map (mk0 e)) (j : Int) 0 := by
  rw [spots_cons h]
  congr 1
  funext j
  rw [plc_idxs]
  simp

def B01 (l : List Int) : Prop := ∀ m ∈ l, m = 0 ∨ m = 1
theorem drop_cons {l : List Int} {i : Nat} {m : Int} (h : l[i]? = some m) : l.drop i = m :: l.drop (i + 1) := by
  obtain ⟨h1, h2⟩ := List.getElem?_eq_some_iff.mp h
  rw [List.drop_eq_getElem_cons h1, h2]
theorem plc_cons {mk m l : Int} {r : List Int} {i : Nat} : plc mk (m :: r) l i = if m = mk then (if l = 0 then some i else plc mk r (l - 1) (i + 1)) else plc mk r l (i + 1) := rfl
theorem cut_take (ms : List Int) (k : Nat) : cutV (ms.map V.int) none (some (k : Int)) = (ms.take k).map V.int := by
  unfold cutV
  rw [HT.sIx_nat, HT.sIx_none, List.drop_zero, Nat.sub_zero, List.map_take]
  by_cases h : k ≤ (ms.map V.int).length
  · rw [Nat.min_eq_left h]
  · rw [Nat.min_eq_right (by omega), List.take_length, List.take_of_length_le (by omega)]
abbrev k_place_of : Nat := 1
inductive sp_place_of (K : PySem.W.Frag) (vs : List V) (H : Hp) (Q : VK) (E : XK) : Prop
  | mk (t : Addr) (ms : List Int) (mk num : Int) (p : Nat) (_ : vs = [.ref t, .int mk, .int num]) (_ : SqT K H t (ms.map V.int)) (_ : plc mk ms num 0 = some p) (_ : ∀ H', Same H H' → Q (.int (p : Nat)) H') : sp_place_of K vs H Q E
section
variable {P : Program} {w : World} {K : PySem.W.Frag} {mg : Str → Option Value} {base : Heap}
theorem ok_place_of (z : Bz K mg base) : Cal P w K mg base k_place_of "place_of" ["marks", "mark", "number"] (sp_place_of K) := by
  have sc := sc_place_of
  refine z.d_place_of.cal fun f fd F => F.k sc fun cdv A outer s H vs Q E hr h => ?_
  obtain ⟨t, ms, mk, num, p0, rfl, ht, hp0, q⟩ := h
  refine ⟨_, (pss_cons (pst 3 sc.nd (pv 2))
 (pss_cons (ps_for PassesOwn.never rfl (pi_enum rfl z.enumerate_ (pa_cons (pv 0) pa_nil)) (pg_tup rfl (pgs_cons (pgn 4 sc.nd) (pgs_cons (pgn 5 sc.nd) pgs_nil)))
  (pss_one (ps_if (pt_cmpR op_eq (pv 5) (pv 1) (nomark _))
  (pss_cons (ps_if (pt_cmpR op_eq (pv 3) pe_int (nomark _))
  (pss_one (ps_ret (pv 4)))
  pss_nil)
 (pss_one (pst 3 sc.nd (pe_op op_sub (pv 3) pe_int))))
  pss_nil)))
 (pss_one ps_never))), ?_⟩
  refine ⟨_, rfl, _, rfl, t, rfl, ⟨_, ht⟩, for_enum (xs := ms.map V.int) (fun i σ H2 => ∃ (L : Int) (v u : Option V), σ = [some (.ref t), some (.int mk), some (.int num), some (.int L), v, u] ∧ Same H H2 ∧ plc mk (ms.drop i) L i = some p0)
    ⟨num, none, none, rfl, Same.refl H, hp0⟩ (fun i σ H2 _ ⟨_, _, _, _, s2, _⟩ => s2.seqT ht) ?_ ?_⟩
  · rintro i x σ H2 p hx ⟨L, v, u, rfl, s2, hp⟩ hpn
    obtain ⟨m, gm, rfl⟩ : ∃ m, ms[i]? = some m ∧ V.int m = x := by
      rw [List.getElem?_map] at hx
      cases e : ms[i]? with
      | none => rw [e] at hx; cases hx
      | some m => rw [e] at hx; exact ⟨m, rfl, Option.some.inj hx⟩
    have s3 : Same H (upd H2 p (.tup [.int (i : Nat), .int m])) := s2.trans (same_new hpn _)
    rw [drop_cons gm, plc_cons] at hp
    refine ⟨p, _, rfl, SqT.of upd_same, rfl, _, _, rfl, _, _, rfl, rfl, ?_⟩
    refine ⟨_, rfl, _, rfl, rfl, _, rfl, ?_⟩
    refine ite2 (fun c => ?_) (fun c => ?_)
    · have c' : m = mk := V.int.inj (of_decide_eq_true c)
      rw [if_pos c'] at hp
      refine ⟨_, rfl, rfl, _, rfl, ?_⟩
      refine ite2 (fun c2 => ?_) (fun c2 => ?_)
      · have c2' : L = 0 := V.int.inj (of_decide_eq_true c2)
        rw [if_pos c2'] at hp
        cases hp
        exact ⟨_, rfl, q _ s3⟩
      · have c2' : ¬ L = 0 := fun z => c2 (by rw [z]; exact decide_eq_true rfl)
        rw [if_neg c2'] at hp
        exact ⟨_, rfl, _, _, rfl, rfl, _, _, _, rfl, s3, hp⟩
    · have c' : ¬ m = mk := fun z => c (by rw [z]; exact decide_eq_true rfl)
      rw [if_neg c'] at hp
      exact ⟨_, _, _, rfl, s3, hp⟩
  · rintro σ H2 ⟨L, v, u, rfl, s2, hp⟩
    rw [List.length_map, List.drop_length] at hp
    cases hp
end
theorem all_flat (ms : List Int) : (ms.map V.int).all flatV = true := by
  rw [List.all_eq_true]
  intro x hx
  obtain ⟨i, _, rfl⟩ := List.mem_map.mp hx
  rfl
theorem count_map (ms : List Int) (m : Int) : (ms.map V.int).countP (fun y => eqV y (.int m)) = ms.count m := by
  rw [List.countP_map, List.count_eq_countP]
  rfl
abbrev k_ahead : Nat := 1
inductive sp_ahead (u0 : PySem.W.Frag) (vs : List V) (H : Hp) (Q : VK) (E : XK) : Prop
  | mk (t : Addr) (ms : List Int) (mk : Int) (pl : Nat) (_ : vs = [.ref t, .int mk, .int (pl : Int)]) (_ : TupF H t (ms.map V.int)) (_ : ∀ H', Same H H' → Q (.int ((ms.take pl).count mk : Nat)) H') : sp_ahead u0 vs H Q E
section
variable {P : Program} {w : World} {K : PySem.W.Frag} {mg : Str → Option Value} {base : Heap}
theorem ok_ahead (z : Bz K mg base) : Cal P w K mg base k_ahead "ahead" ["marks", "mark", "place"] (sp_ahead K) := by
  have sc := sc_ahead
  refine z.d_ahead.cal fun f fd F => F.k sc fun cdv A outer s H vs Q E hr h => ?_
  obtain ⟨t, ms, mk, pl, rfl, ht, q⟩ := h
  refine ⟨_, (pss_one (ps_ret (pe_bmF PySem.F.plainAttrs_tuple PySem.F.slot_tuple_count PySem.F.type_tuple_count mt_countT (pe_slice sl_tupF (pv 0) po_none (po_some (pe_callB (call_max2 rfl) (by rfl) z.max_ bt_max (pa_cons (pv 2) (pa_cons pe_int pa_nil))))) (pa_cons (pv 1) pa_nil)))), ?_⟩
  have e1 : (if (0 : Int) > (pl : Int) then (0 : Int) else (pl : Int)) = (pl : Int) := if_neg (by omega)
  refine ⟨_, rfl, _, rfl, _, _, rfl, _, rfl, t, _, rfl, ht, fun p H1 s1 h1 => ?_⟩
  rw [e1, cut_take] at h1
  obtain ⟨o, ho, hc, hd⟩ := id h1
  refine ⟨⟨p, o, _, rfl, ho, hc, hd⟩, _, rfl, p, _, _, rfl, rfl, h1.sq, rfl, all_flat _, ?_⟩
  rw [count_map]
  exact q H1 s1
end

/-! ### stretches led -/
abbrev G3 := List Int × Nat × Nat
def GoodS (L : Nat) (g : G3) : Prop := InO L g.1 ∧ g.2.1 ≤ g.2.2 ∧ g.2.2 ≤ g.1.length ∧ g.1.length ≤ 300
def led1 (e : Nat) (w : Int) (g : G3) : G3 := (halfO e w g.1, ((g.1.map (mk0 e)).take g.2.1).count w, ((g.1.map (mk0 e)).take g.2.2).count w)
def ledS : Nat → List Int → G3 → G3
  | _, [], g => g
  | 0, _ :: _, g => g
  | e + 1, w :: ws, g => ledS e ws (led1 e w g)
theorem ledS_empty (L : Nat) (g : G3) : ledS L [] g = g := by cases L <;> rfl
theorem ledS_cons (e : Nat) (w : Int) (ws : List Int) (g : G3) : ledS (e + 1) (w :: ws) g = ledS e ws (led1 e w g) := rfl
theorem count_mk (e : Nat) (w : Int) (os : List Int) : (os.map (mk0 e)).count w = (halfO e w os).length := by
  unfold halfO
  rw [List.length_map, List.count_eq_countP, List.countP_map, List.countP_eq_length_filter]
  rfl
theorem led1_good {e : Nat} {w : Int} {g : G3} (h : GoodS (e + 1) g) : GoodS e (led1 e w g) := by
  obtain ⟨h1, h2, h3, h4⟩ := h
  refine ⟨halfO_in, ?_, ?_, Nat.le_trans halfO_len h4⟩
  · exact (List.take_sublist_take_left h2).count_le w
  · show ((g.1.map (mk0 e)).take g.2.2).count w ≤ (halfO e w g.1).length
    rw [← count_mk]
    exact (List.take_sublist _ _).count_le w
theorem led1_none {e : Nat} {w : Int} {g : G3} (h : halfO e w g.1 = []) : led1 e w g = ([], 0, 0) := by
  have z : ∀ k, ((g.1.map (mk0 e)).take k).count w = 0 := fun k => by
    have h1 := (List.take_sublist k (g.1.map (mk0 e))).count_le w
    rw [count_mk, h, List.length_nil] at h1
    omega
  unfold led1
  rw [h, z, z]
theorem ledS_nil : ∀ (e : Nat) (ws : List Int), ledS e ws ([], 0, 0) = ([], 0, 0)
  | e, [] => ledS_empty e _
  | 0, _ :: _ => rfl
  | e + 1, w :: ws => by
    rw [ledS_cons, led1_none (e := e) (w := w) (g := ([], 0, 0)) rfl]
    exact ledS_nil e ws
def manyG (gs : List G3) : Int := (gs.map fun g => (g.2.2 : Int) - g.2.1).sum
theorem cnt01 {e : Nat} (os : List Int) (k : Nat) : ((os.map (mk0 e)).take k).count 0 + ((os.map (mk0 e)).take k).count 1 = min k os.length := by
  have z : ∀ l : List Int, (l.map (mk0 e)).count 0 + (l.map (mk0 e)).count 1 = l.length := fun l => by
    induction l with
    | nil => rfl
    | cons x l ih =>
      rw [List.map_cons, List.count_cons, List.count_cons, List.length_cons]
      unfold mk0 at ih ⊢
      by_cases c : x < 2 ^ e
      · simp only [c, if_true] at ih ⊢
        simp
        omega
      · simp only [c, if_false] at ih ⊢
        simp
        omega
  rw [← List.map_take, z, List.length_take]
/-! ### full ways -/
def fullW (L : Nat) (o : Int) : List Int := ((List.range L).map fun i => o / 2 ^ i % 2).reverse
theorem idxs_at {p : Int → Bool} : ∀ (os : List Int) (i : Nat) (o : Int), os[i]? = some o → p o = true → (idxs p os)[(os.take i).countP p]? = some i
  | [], i, o, h, _ => by simp at h
  | x :: os, 0, o, h, hp => by
    have e : x = o := by simpa using h
    rw [idxs, e, if_pos hp]
    rfl
  | x :: os, i + 1, o, h, hp => by
    have h' : os[i]? = some o := by simpa using h
    have ih := idxs_at os i o h' hp
    rw [idxs, List.take_succ_cons, List.countP_cons]
    by_cases c : p x = true
    · rw [if_pos c, if_pos c, List.getElem?_cons_succ, List.getElem?_map, ih]
      rfl
    · rw [if_neg c, if_neg c, Nat.add_zero, List.getElem?_map, ih]
      rfl
theorem idxs_congr {p q : Int → Bool} : ∀ {os : List Int}, (∀ o ∈ os, p o = q o) → idxs p os = idxs q os
  | [], _ => rfl
  | o :: os, h => by
    rw [idxs, idxs, h o (List.mem_cons_self ..), idxs_congr fun x hx => h x (List.mem_cons_of_mem _ hx)]
def StrAt (H : Hp) (L : Nat) (v : V) (g : G3) : Prop := ∃ t u, v = .ref t ∧ H t = some (.tup [u, .int (g.2.1 : Int), .int (g.2.2 : Int)]) ∧ TreeAt H u (growO L g.1)
def GatAt (H : Hp) (L : Nat) (xs : List V) (gs : List G3) : Prop := xs.length = gs.length ∧ ∀ (j : Nat) (x : V) (g : G3), xs[j]? = some x → gs[j]? = some g → StrAt H L x g
theorem StrAt.tk {H H' : Hp} {L : Nat} {v : V} {g : G3} (h : StrAt H L v g) (k : TKeep H H') : StrAt H' L v g := by
  obtain ⟨t, u, e, h1, h2⟩ := h
  exact ⟨t, u, e, (k _ _).1 h1, h2.tk k⟩
theorem GatAt.tk {H H' : Hp} {L : Nat} {xs : List V} {gs : List G3} (h : GatAt H L xs gs) (k : TKeep H H') : GatAt H' L xs gs := ⟨h.1, fun j x g h1 h2 => (h.2 j x g h1 h2).tk k⟩
theorem GatAt.same {H H' : Hp} {L : Nat} {xs : List V} {gs : List G3} (h : GatAt H L xs gs) (s : Same H H') : GatAt H' L xs gs := h.tk (.same s)
theorem GatAt.nil (H : Hp) (L : Nat) : GatAt H L [] [] := ⟨rfl, fun j x g h1 _ => by simp at h1⟩
theorem snoc_get {α : Type} {l : List α} {x y : α} {j : Nat} (h : (l ++ [x])[j]? = some y) : (j < l.length ∧ l[j]? = some y) ∨ (j = l.length ∧ y = x) := by
  by_cases hj : j < l.length
  · rw [List.getElem?_append_left hj] at h
    exact .inl ⟨hj, h⟩
  · have hlt : j < (l ++ [x]).length := (List.getElem?_eq_some_iff.mp h).1
    rw [List.length_append, List.length_singleton] at hlt
    have e : j = l.length := by omega
    subst e
    rw [List.getElem?_append_right (Nat.le_refl _), Nat.sub_self] at h
    exact .inr ⟨rfl, (Option.some.inj h).symm⟩
theorem GatAt.snoc {H : Hp} {L : Nat} {xs : List V} {gs : List G3} {x : V} {g : G3} (h : GatAt H L xs gs) (hx : StrAt H L x g) : GatAt H L (xs ++ [x]) (gs ++ [g]) := by
  refine ⟨by rw [List.length_append, List.length_append, h.1] <;> rfl, fun j y k h1 h2 => ?_⟩
  have hl := h.1
  rcases snoc_get h1 with ⟨a1, a2⟩ | ⟨a1, a2⟩
  · rcases snoc_get h2 with ⟨b1, b2⟩ | ⟨b1, b2⟩
    · exact h.2 j y k a2 b2
    · omega
  · rcases snoc_get h2 with ⟨b1, b2⟩ | ⟨b1, b2⟩
    · omega
    · rw [a2, b2]; exact hx
theorem Same.own {H H' : Hp} {r : Addr} {o : HO} (k : Same H H') (hr : H r = none) : Same H (upd H' r o) := fun c u z => by
  rw [upd_ne (ne_of_none z hr)]
  exact k c u z
theorem non_growO {H : Hp} {e : Nat} {os : List Int} (h : TreeAt H .non (growO e os)) : os = [] := by
  apply Classical.byContradiction
  intro hn
  cases e with
  | zero =>
    rw [growO_zero hn] at h
    obtain ⟨a, z, _⟩ := h
    cases z
  | succ e =>
    rw [growO_succ hn] at h
    obtain ⟨a, m, x, y, z, _⟩ := h
    cases z
abbrev k_led_stretch : Nat := 2
def sp_led_stretch (K : PySem.W.Frag) : Sp := fun vs H Q _ => ∃ (v : V) (wy : Addr) (L : Nat) (ws : List Int) (g : G3), vs = [v, .ref wy] ∧ StrAt H L v g ∧ GoodS L g ∧ SqT K H wy (ws.map V.int) ∧ ws.length ≤ L ∧ B01 ws ∧
  ∀ (H' : Hp) (v' : V), Same H H' → StrAt H' (L - ws.length) v' (ledS L ws g) → Q v' H'
abbrev k_led : Nat := 3
inductive sp_led (K : PySem.W.Frag) (vs : List V) (H : Hp) (Q : VK) (E : XK) : Prop
  | mk (ga wy : Addr) (xs : List V) (L : Nat) (ws : List Int) (gs : List G3) (_ : vs = [.ref ga, .ref wy]) (_ : SqL K H ga xs) (_ : GatAt H L xs gs) (_ : (∀ g ∈ gs, GoodS L g)) (_ : gs.length ≤ 1000) (_ : SqT K H wy (ws.map V.int)) (_ : ws.length ≤ L) (_ : B01 ws) (_ : ∀ (H' : Hp) (D : Addr) (ys : List V), Same H H' → H' D = some (.lst ys) → H D = none → GatAt H' (L - ws.length) ys (gs.map (ledS L ws)) → Q (.ref D) H') : sp_led K vs H Q E
abbrev k_many_in : Nat := 1
inductive sp_many_in (K : PySem.W.Frag) (vs : List V) (H : Hp) (Q : VK) (E : XK) : Prop
  | mk (ga : Addr) (xs : List V) (L : Nat) (gs : List G3) (_ : vs = [.ref ga]) (_ : SqL K H ga xs) (_ : GatAt H L xs gs) (_ : gs.length ≤ 1000) (_ : ∀ H', Same H H' → Q (.int (manyG gs)) H') : sp_many_in K vs H Q E
section
variable {P : Program} {w : World} {K : PySem.W.Frag} {mg : Str → Option Value} {base : Heap}
theorem ok_many_in (z : Bz K mg base) : Cal P w K mg base k_many_in "many_in" ["gathering"] (sp_many_in K) := by
  have sc := sc_many_in
  refine z.d_many_in.cal fun f fd F => F.k sc fun cdv A outer s H vs Q E hr h => ?_
  obtain ⟨ga, xs, L, gs, rfl, hga, hg, hl, q⟩ := h
  refine ⟨_, (pss_one (ps_ret (pe_callB (call_sumI rfl) (by rfl) z.sum_ bt_sum (pa_cons (pe_comp (cl := []) (cn := []) (N := []) (fr := []) (sc0 := defScope s_many_in) rfl (pi_list (pv 0)) (fun C s₂ H₂ fp => (pe_op op_sub (pix (ix_tupK (K := K) rfl) (pv 0) pe_int) (pix (ix_tupK (K := K) rfl) (pv 0) pe_int))) (by with_unfolding_all rfl) trivial rfl rfl rfl cok rfl) pa_nil)))), ?_⟩
  have hxl := hg.1
  refine ⟨_, rfl, ga, rfl, ⟨_, hga⟩, fun D hD => ?_⟩
  refine comp_listP (xs := xs) (sz (by omega)) (fun i ys H2 => ys = (gs.take i).map (fun g => V.int ((g.2.2 : Int) - g.2.1)) ∧ i ≤ gs.length ∧ H2 = upd H D (.lst ys)) ⟨by simp, Nat.zero_le _, rfl⟩ (fun i ys H2 ⟨_, _, e⟩ => by rw [e]; exact (same_new hD _).seq hga)
    (fun i ys H2 ⟨e1, e2, e3⟩ => ⟨by rw [e3]; exact upd_same, by rw [e1, List.length_map, List.length_take]; omega⟩) ?_ ?_
  · rintro i x ys H2 hx ⟨e1, e2, rfl⟩
    have hi : i < gs.length := by rw [← hxl]; exact (List.getElem?_eq_some_iff.mp hx).1
    have gi : gs[i]? = some gs[i] := List.getElem?_eq_getElem hi
    generalize gs[i] = g at gi
    obtain ⟨t, u, rfl, ht, _⟩ := hg.2 i x g hx gi
    have ht' : SqT K (upd H D (.lst ys)) t [u, .int (g.2.1 : Int), .int (g.2.2 : Int)] := SqT.of (same_new hD _ _ _ ht)
    refine ⟨_, rfl, t, _, _, _, rfl, rfl, ht', rfl, _, rfl, t, _, _, _, rfl, rfl, ht', rfl, _, _, rfl, rfl, upd_same, ?_, by omega, by rw [upd_upd]⟩
    rw [List.take_add_one, gi, List.map_append, ← e1]
    rfl
  · rintro ys H2 ⟨e1, e2, rfl⟩
    rw [hxl, List.take_length] at e1
    refine ⟨D, gs.map (fun (g : G3) => (g.2.2 : Int) - (g.2.1 : Int)), rfl, SqL.of ?_, q _ (same_new hD _)⟩
    rw [upd_same, e1, List.map_map]
    rfl
theorem ok_led_stretch (z : Bz K mg base) : Cal P w K mg base k_led_stretch "led_stretch" ["stretch", "way"] (sp_led_stretch K) := by
  have sc := sc_led_stretch
  refine z.d_led_stretch.cal fun f fd F => F.k sc fun cdv A outer s H vs Q E hr h => ?_
  obtain ⟨v, wy, L, ws, g, rfl, ⟨t, u, rfl, ht, hu⟩, hgood, hw, hwl, h01, q⟩ := h
  refine ⟨_, (pss_cons (pst 2 sc.nd (pix ix_tup (pv 0) pe_int))
 (pss_cons (pst 3 sc.nd (pix ix_tup (pv 0) pe_int))
 (pss_cons (pst 4 sc.nd (pix ix_tup (pv 0) pe_int))
 (pss_cons (ps_for PassesOwn.never rfl (pi_tup (pv 1)) (pgn 5 sc.nd)
  (pss_cons (pst 6 sc.nd (pe_fn (ok_half_of z) hr.m (by rfl) (pa_cons (pv 2) (pa_cons (pv 5) pa_nil))))
 (pss_cons (ps_if (pt_cmpR op_isN (pv 6) pe_non (nomark _))
  (pss_one (ps_ret (pe_tup (pa_cons pe_non (pa_cons pe_int (pa_cons pe_int pa_nil))))))
  pss_nil)
 (pss_cons (pst 3 sc.nd (pe_fn (ok_ahead z) hr.m (by rfl) (pa_cons (pix ix_tup (pv 2) pe_int) (pa_cons (pv 5) (pa_cons (pv 3) pa_nil)))))
 (pss_cons (pst 4 sc.nd (pe_fn (ok_ahead z) hr.m (by rfl) (pa_cons (pix ix_tup (pv 2) pe_int) (pa_cons (pv 5) (pa_cons (pv 4) pa_nil)))))
 (pss_one (pst 2 sc.nd (pv 6))))))))
 (pss_one (ps_ret (pe_tup (pa_cons (pv 2) (pa_cons (pv 3) (pa_cons (pv 4) pa_nil)))))))))), ?_⟩
  have htt : SqT K H t [u, .int (g.2.1 : Int), .int (g.2.2 : Int)] := SqT.of ht
  refine ⟨_, rfl, t, _, _, _, rfl, rfl, htt, rfl, _, rfl, t, _, _, _, rfl, rfl, htt, rfl, _, rfl, t, _, _, _, rfl, rfl, htt, rfl, ?_⟩
  refine ⟨_, rfl, wy, rfl, ⟨_, hw⟩, for_tup (K := K) (a := wy) (xs := ws.map V.int) (fun i σ H2 => ∃ (u' : V) (g' : G3) (v5 v6 : Option V), σ = [some (.ref t), some (.ref wy), some u', some (.int (g'.2.1 : Int)), some (.int (g'.2.2 : Int)), v5, v6] ∧ Same H H2 ∧ TreeAt H2 u' (growO (L - i) g'.1) ∧ GoodS (L - i) g' ∧ i ≤ ws.length ∧ ledS L ws g = ledS (L - i) (ws.drop i) g')
    ⟨u, g, none, none, rfl, Same.refl H, hu, hgood, Nat.zero_le _, rfl⟩ (fun i σ H2 _ ⟨_, _, _, _, _, s2, _⟩ => s2.seqT hw) ?_ ?_⟩
  · rintro i x σ H2 hi ⟨u', g', v5, v6, rfl, s2, hu', hg', hil, hled⟩
    obtain ⟨wv, hwv, rfl⟩ : ∃ t, ws[i]? = some t ∧ x = .int t := by
      rw [List.getElem?_map] at hi
      cases e : ws[i]? with
      | none => rw [e] at hi; cases hi
      | some m => rw [e] at hi; exact ⟨m, rfl, (Option.some.inj hi).symm⟩
    have hil2 : i < ws.length := (List.getElem?_eq_some_iff.mp hwv).1
    have hw01 := h01 wv (List.mem_of_getElem? hwv)
    obtain ⟨e, he⟩ : ∃ e, L - i = e + 1 := ⟨L - i - 1, by omega⟩
    have he2 : L - (i + 1) = e := by omega
    have hdr : ws.drop i = wv :: ws.drop (i + 1) := by
      obtain ⟨h1, h2⟩ := List.getElem?_eq_some_iff.mp hwv
      rw [List.drop_eq_getElem_cons h1, h2]
    rw [he] at hu' hg' hled
    rw [hdr, ledS_cons] at hled
    refine ⟨_, rfl, _, rfl, u', _, wv, rfl, hu', hw01, fun u2 hu2 => ?_⟩
    rw [growO_half hg'.1 hw01] at hu2
    refine ⟨_, rfl, rfl, _, rfl, ?_⟩
    refine ite2 (fun c => ?_) (fun c => ?_)
    · have c' : u2 = .non := of_decide_eq_true c
      subst c'
      have h0 := non_growO hu2
      rw [led1_none h0, ledS_nil] at hled
      refine ⟨szb rfl, fun p hp => q _ _ (s2.trans (same_new hp _)) ?_⟩
      rw [hled]
      exact ⟨p, .non, rfl, upd_same, by rw [growO_nil]; rfl⟩
    · have hne : g'.1 ≠ [] := fun z => c (by
        rw [z] at hu2
        have e0 : halfO e wv [] = [] := rfl
        rw [e0, growO_nil] at hu2
        exact decide_eq_true hu2)
      have hu3 := hu'
      rw [growO_succ hne] at hu3
      obtain ⟨a, m, x1, y1, rfl, ha, hm, _, _⟩ := hu3
      refine ⟨_, rfl, a, _, _, _, rfl, rfl, SqT.of ha, rfl, _, rfl, _, rfl, m, g'.1.map (mk0 e), wv, g'.2.1, rfl, hm, fun H3 s3 => ?_⟩
      refine ⟨_, rfl, a, _, _, _, rfl, rfl, SqT.of (s3 _ _ ha), rfl, _, rfl, _, rfl, m, g'.1.map (mk0 e), wv, g'.2.2, rfl, hm.same s3, fun H4 s4 => ?_⟩
      refine ⟨_, rfl, u2, led1 e wv g', _, _, rfl, s2.trans (s3.trans s4), ?_, ?_, by omega, ?_⟩
      · rw [he2]; exact (hu2.same s3).same s4
      · rw [he2]; exact led1_good hg'
      · rw [he2]; exact hled
  · rintro σ H2 ⟨u', g', v5, v6, rfl, s2, hu', hg', hil, hled⟩
    rw [List.length_map] at hu' hled
    rw [List.drop_length, ledS_empty] at hled
    refine ⟨_, rfl, _, rfl, _, rfl, szb rfl, fun p hp => q _ _ (s2.trans (same_new hp _)) ?_⟩
    rw [hled]
    exact ⟨p, u', rfl, upd_same, hu'.same (same_new hp _)⟩
theorem ok_led (z : Bz K mg base) : Cal P w K mg base k_led "led" ["gathering", "way"] (sp_led K) := by
  have sc := sc_led
  refine z.d_led.cal fun f fd F => F.k sc fun cdv A outer s H vs Q E hr h => ?_
  obtain ⟨ga, wy, xs, L, ws, gs, rfl, hga, hg, hgood, hl, hw, hwl, h01, q⟩ := h
  refine ⟨_, (pss_one (ps_ret (pe_comp (cl := [("way", s.heap.objs.size + 1 + 0)]) (cn := ["way"]) (N := ["way"]) (fr := [1]) (sc0 := defScope s_led) rfl (pi_list (pv 0)) (fun C s₂ H₂ fp => (pe_fn (ok_led_stretch z) hr.m (by rfl) (pa_cons (pv 0) (pa_cons (pv 1) pa_nil)))) (by with_unfolding_all rfl) ⟨by with_unfolding_all rfl, trivial⟩ rfl rfl rfl cok rfl))), ?_⟩
  have hxl := hg.1
  refine ⟨_, rfl, ga, rfl, ⟨_, hga⟩, fun D hD => ?_⟩
  refine comp_listP (xs := xs) (sz (by omega)) (fun i ys H2 => H2 D = some (.lst ys) ∧ ys.length = i ∧ Same H H2 ∧ GatAt H2 (L - ws.length) ys ((gs.take i).map (ledS L ws))) ⟨upd_same, rfl, same_new hD _, by simp only [List.take_zero, List.map_nil]; exact GatAt.nil _ _⟩ (fun i ys H2 ⟨_, _, e, _⟩ => e.seq hga)
    (fun i ys H2 ⟨e1, e2, _, _⟩ => ⟨e1, e2⟩) ?_ ?_
  · rintro i x ys H2 hx ⟨e1, e2, s2, hg2⟩
    have hi : i < gs.length := by rw [← hxl]; exact (List.getElem?_eq_some_iff.mp hx).1
    have gi : gs[i]? = some gs[i] := List.getElem?_eq_getElem hi
    generalize gs[i] = g at gi
    refine ⟨_, rfl, _, rfl, x, wy, L, ws, g, rfl, (hg.2 i x g hx gi).tk (.same s2), hgood g (List.mem_of_getElem? gi), s2.seqT hw, hwl, h01, fun H3 v' s3 hv' => ?_⟩
    have e3 := s3 _ _ e1
    have tk : TKeep H3 (upd H3 D (.lst (ys ++ [v']))) := TKeep.set e3
    refine ⟨e3, upd_same, by rw [List.length_append, e2] <;> rfl, Same.own (s2.trans s3) hD, ?_⟩
    rw [List.take_add_one, gi, List.map_append]
    exact ((hg2.same s3).tk tk).snoc (hv'.tk tk)
  · rintro ys H2 ⟨e1, e2, s2, hg2⟩
    rw [hxl, List.take_length] at hg2
    exact q H2 D ys s2 e1 hD hg2
end

/-! ### what is led, by the places -/
theorem filt_takeO {q : Int → Bool} : ∀ (os : List Int) (s : Nat), (os.filter q).take ((os.take s).countP q) = (os.take s).filter q
  | [], s => by simp
  | x :: os, 0 => by simp
  | x :: os, s + 1 => by
    rw [List.take_succ_cons, List.countP_cons, List.filter_cons, List.filter_cons]
    by_cases c : q x = true
    · rw [if_pos c, if_pos c, if_pos c, List.take_succ_cons, filt_takeO os s]
    · rw [if_neg c, if_neg c, if_neg c, Nat.add_zero]
      exact filt_takeO os s
theorem halfO_take {e : Nat} {w : Int} (os : List Int) (s : Nat) : (halfO e w os).take (((os.map (mk0 e)).take s).count w) = halfO e w (os.take s) := by
  unfold halfO
  rw [← List.map_take, ← List.map_take, List.count_eq_countP, List.countP_map]
  congr 1
  exact filt_takeO os s
theorem count_half {e : Nat} {w : Int} {p : Int → Bool} (os : List Int) : (halfO e w os).countP p = os.countP fun o => (mk0 e o == w) && p (o % 2 ^ e) := by
  unfold halfO
  rw [List.countP_map, List.countP_filter]
  congr 1
  funext o
  show (p (o % 2 ^ e) && (mk0 e o == w)) = _
  rw [Bool.and_comm]
theorem inW_step {e : Nat} {o w : Int} {ws : List Int} (h : 0 ≤ o ∧ o < (2 : Int) ^ (e + 1)) : inW (e + 1) o (w :: ws) = ((mk0 e o == w) && inW e (o % 2 ^ e) ws) := by
  show ((o / 2 ^ e == w) && inW e (o % 2 ^ e) ws) = _
  rw [div_mk h.1 h.2]
def selO (L : Nat) (os ws : List Int) : List Int := (os.filter fun o => inW L o ws).map fun o => o % 2 ^ (L - ws.length)
theorem mod_pow {a b : Nat} {o : Int} (h : a ≤ b) : (o % 2 ^ b) % 2 ^ a = o % 2 ^ a := by
  refine Int.emod_emod_of_dvd o ?_
  exact ⟨2 ^ (b - a), by rw [← Int.pow_add]; congr 1; omega⟩
theorem ledS_sel : ∀ (L : Nat) (ws os : List Int) (s t : Nat), ws.length ≤ L → InO L os →
    ledS L ws (os, s, t) = (selO L os ws, (os.take s).countP (fun o => inW L o ws), (os.take t).countP (fun o => inW L o ws)) ∨ (os.length < s ∨ os.length < t)
  | L, [], os, s, t, _, hin => by
    by_cases hs : os.length < s
    · exact .inr (.inl hs)
    · by_cases ht : os.length < t
      · exact .inr (.inr ht)
      · refine .inl ?_
        rw [ledS_empty]
        have e : (fun o => inW L o []) = fun _ => true := by
          funext o
          cases L <;> rfl
        unfold selO
        rw [e]
        have c1 : ∀ l : List Int, l.countP (fun _ => true) = l.length := fun l => by simp
        have c2 : (os.filter fun _ => true) = os := by simp
        rw [c1, c1, c2, List.length_take, List.length_take, Nat.min_eq_left (by omega), Nat.min_eq_left (by omega)]
        have c3 : os.map (fun o => o % 2 ^ (L - ([] : List Int).length)) = os := by
          have : ∀ o ∈ os, o % 2 ^ (L - ([] : List Int).length) = id o := fun o ho => Int.emod_eq_of_lt (hin o ho).1 (hin o ho).2
          rw [List.map_congr_left this, List.map_id]
        rw [c3]
  | 0, _ :: _, _, _, _, h, _ => absurd h (Nat.not_succ_le_zero _)
  | e + 1, w :: ws, os, s, t, h, hin => by
    by_cases hs : os.length < s
    · exact .inr (.inl hs)
    · by_cases ht : os.length < t
      · exact .inr (.inr ht)
      · refine .inl ?_
        have hl : ws.length ≤ e := by rw [List.length_cons] at h; omega
        rw [ledS_cons]
        have hc : ∀ k, ((os.map (mk0 e)).take k).count w ≤ (halfO e w os).length := fun k => by
          rw [← count_mk]
          exact (List.take_sublist _ _).count_le w
        have ih := ledS_sel e ws (halfO e w os) (((os.map (mk0 e)).take s).count w) (((os.map (mk0 e)).take t).count w) hl halfO_in
        rcases ih with ih | ih | ih
        · show ledS e ws (halfO e w os, _, _) = _
          rw [ih, halfO_take, halfO_take, count_half, count_half]
          have hcong : ∀ l : List Int, (∀ o ∈ l, o ∈ os) → l.countP (fun o => (mk0 e o == w) && inW e (o % 2 ^ e) ws) = l.countP fun o => inW (e + 1) o (w :: ws) := fun l hl => by
            refine List.countP_congr fun o ho => ?_
            rw [inW_step (hin o (hl o ho))]
          rw [hcong _ fun o ho => List.mem_of_mem_take ho, hcong _ fun o ho => List.mem_of_mem_take ho]
          have hsel : selO e (halfO e w os) ws = selO (e + 1) os (w :: ws) := by
            unfold selO halfO
            rw [List.filter_map, List.filter_filter, List.map_map, List.length_cons, Nat.add_sub_add_right]
            have f1 : (os.filter fun a => ((fun o => inW e o ws) ∘ fun o => o % 2 ^ e) a && (mk0 e a == w)) = os.filter fun o => inW (e + 1) o (w :: ws) := List.filter_congr fun o ho => by
              rw [inW_step (hin o ho), Bool.and_comm]
              rfl
            rw [f1]
            refine List.map_congr_left fun o _ => ?_
            exact mod_pow (by omega)
          rw [hsel]
        · have := hc s; omega
        · have := hc t; omega
theorem idxs_vals {p : Int → Bool} : ∀ (os : List Int), (idxs p os).map (fun i => (os[i]?).getD 0) = os.filter p
  | [] => rfl
  | o :: os => by
    rw [idxs, List.filter_cons]
    have e : ((idxs p os).map (· + 1)).map (fun i => ((o :: os)[i]?).getD 0) = os.filter p := by
      rw [List.map_map, ← idxs_vals os]
      refine List.map_congr_left fun i _ => ?_
      simp
    by_cases c : p o = true
    · rw [if_pos c, if_pos c, List.map_cons, e]
      rfl
    · rw [if_neg c, if_neg c, e]
/-! ### the ends of what a stretch has between two numbers -/
def Hit (g : G3) (p : Int → Bool) (i : Nat) : Prop := g.2.1 ≤ i ∧ i < g.2.2 ∧ ∃ o, g.1[i]? = some o ∧ p o = true
def EndsOf (g : G3) (p : Int → Bool) : Option (Nat × Nat) → Prop
  | none => ∀ i, ¬ Hit g p i
  | some ab => Hit g p ab.1 ∧ Hit g p ab.2 ∧ ∀ i, Hit g p i → ab.1 ≤ i ∧ i ≤ ab.2
theorem cnt_mono {q : Int → Bool} (os : List Int) {a b : Nat} (h : a ≤ b) : (os.take a).countP q ≤ (os.take b).countP q := by
  have e : os.take a = (os.take b).take a := by rw [List.take_take, Nat.min_eq_left h]
  rw [e]
  exact (List.take_sublist a (os.take b)).countP_le
theorem cnt_step {q : Int → Bool} {os : List Int} {i : Nat} {o : Int} (h : os[i]? = some o) (hq : q o = true) : (os.take (i + 1)).countP q = (os.take i).countP q + 1 := by
  rw [List.take_add_one, h, List.countP_append]
  simp [hq]
theorem idxs_get {q : Int → Bool} : ∀ (os : List Int) (j i : Nat), (idxs q os)[j]? = some i → ∃ o, os[i]? = some o ∧ q o = true ∧ (os.take i).countP q = j
  | [], j, i, h => by simp [idxs] at h
  | o :: os, j, i, h => by
    rw [idxs] at h
    by_cases c : q o = true
    · rw [if_pos c] at h
      cases j with
      | zero =>
        have : i = 0 := by simpa using h.symm
        subst this
        exact ⟨o, rfl, c, rfl⟩
      | succ j =>
        have h' : ((idxs q os).map (· + 1))[j]? = some i := by simpa using h
        rw [List.getElem?_map] at h'
        cases e : (idxs q os)[j]? with
        | none => rw [e] at h'; cases h'
        | some i' =>
          rw [e] at h'
          have : i = i' + 1 := (Option.some.inj h').symm
          subst this
          obtain ⟨o', h1, h2, h3⟩ := idxs_get os j i' e
          exact ⟨o', by simpa using h1, h2, by rw [List.take_succ_cons, List.countP_cons, h3, if_pos c]⟩
    · rw [if_neg c] at h
      have h' : ((idxs q os).map (· + 1))[j]? = some i := by simpa using h
      rw [List.getElem?_map] at h'
      cases e : (idxs q os)[j]? with
      | none => rw [e] at h'; cases h'
      | some i' =>
        rw [e] at h'
        have : i = i' + 1 := (Option.some.inj h').symm
        subst this
        obtain ⟨o', h1, h2, h3⟩ := idxs_get os j i' e
        exact ⟨o', by simpa using h1, h2, by rw [List.take_succ_cons, List.countP_cons, h3, if_neg c] <;> rfl⟩
theorem filt_at {q : Int → Bool} : ∀ (os : List Int) (i : Nat) (o : Int), os[i]? = some o → q o = true → (os.filter q)[(os.take i).countP q]? = some o
  | [], i, o, h, _ => by simp at h
  | a :: os, 0, o, h, hq => by
    have : a = o := by simpa using h
    subst this
    rw [List.filter_cons, if_pos hq]
    rfl
  | a :: os, i + 1, o, h, hq => by
    have ih := filt_at os i o (by simpa using h) hq
    rw [List.filter_cons, List.take_succ_cons, List.countP_cons]
    by_cases c : q a = true
    · rw [if_pos c, if_pos c]
      simpa using ih
    · rw [if_neg c, if_neg c]
      simpa using ih
theorem plc_get {e : Nat} {w : Int} {os : List Int} {j i : Nat} (h : plc w (os.map (mk0 e)) (j : Int) 0 = some i) : ∃ o, os[i]? = some o ∧ mk0 e o = w ∧ (os.take i).countP (fun o => mk0 e o == w) = j := by
  rw [plc_idxs] at h
  cases e1 : (idxs (fun o => mk0 e o == w) os)[j]? with
  | none => rw [e1] at h; cases h
  | some i' =>
    rw [e1] at h
    have : i' = i := by simpa using h
    subst this
    obtain ⟨o, h1, h2, h3⟩ := idxs_get os j i' e1
    exact ⟨o, h1, by simpa using h2, h3⟩
theorem plc_at {e : Nat} {w : Int} {os : List Int} {i : Nat} {o : Int} (h : os[i]? = some o) (hw : mk0 e o = w) : plc w (os.map (mk0 e)) (((os.take i).countP (fun o => mk0 e o == w) : Nat) : Int) 0 = some i := by
  rw [plc_idxs, idxs_at os i o h (by simp [hw])]
  rfl
theorem plc_mono {e : Nat} {w : Int} {os : List Int} {j j' i i' : Nat} (h : plc w (os.map (mk0 e)) (j : Int) 0 = some i) (h' : plc w (os.map (mk0 e)) (j' : Int) 0 = some i') (hj : j ≤ j') : i ≤ i' := by
  obtain ⟨o, h1, h2, h3⟩ := plc_get h
  obtain ⟨o', h1', h2', h3'⟩ := plc_get h'
  apply Classical.byContradiction
  intro c
  have m := cnt_mono (q := fun o => mk0 e o == w) os (show i' + 1 ≤ i by omega)
  rw [cnt_step h1' (by simp [h2']), h3, h3'] at m
  omega
theorem cnt_take (e : Nat) (w : Int) (os : List Int) (s : Nat) : ((os.map (mk0 e)).take s).count w = (os.take s).countP (fun o => mk0 e o == w) := by
  rw [← List.map_take, List.count_eq_countP, List.countP_map]
  rfl
theorem half_at {e : Nat} {w : Int} {os : List Int} {i : Nat} {o : Int} (h : os[i]? = some o) (hw : mk0 e o = w) : (halfO e w os)[(os.take i).countP (fun o => mk0 e o == w)]? = some (o % 2 ^ e) := by
  unfold halfO
  rw [List.getElem?_map, filt_at os i o h (by simp [hw])]
  rfl
theorem mod_mk {e : Nat} {o w : Int} (h0 : 0 ≤ o) (h1 : o < 2 ^ (e + 1)) (hw : mk0 e o = w) : o % 2 ^ e + w * 2 ^ e = o := by
  have d := div_mk h0 h1
  rw [hw] at d
  have := Int.emod_add_mul_ediv o (2 ^ e)
  rw [d, Int.mul_comm] at this
  exact this
theorem hit_up {e : Nat} {w : Int} {g : G3} {p : Int → Bool} (hg : GoodS (e + 1) g) {j : Nat} (h : Hit (led1 e w g) (fun o => p (o + w * 2 ^ e)) j) : ∃ i, plc w (g.1.map (mk0 e)) (j : Int) 0 = some i ∧ Hit g p i := by
  obtain ⟨h1, h2, o', h3, h4⟩ := h
  change ((g.1.map (mk0 e)).take g.2.1).count w ≤ j at h1
  change j < ((g.1.map (mk0 e)).take g.2.2).count w at h2
  change (halfO e w g.1)[j]? = some o' at h3
  rw [cnt_take] at h1 h2
  have hj : j < (idxs (fun o => mk0 e o == w) g.1).length := by
    have l1 := congrArg List.length (idxs_vals (p := fun o => mk0 e o == w) g.1)
    rw [List.length_map] at l1
    have l2 := (List.getElem?_eq_some_iff.mp h3).1
    unfold halfO at l2
    rw [List.length_map] at l2
    omega
  obtain ⟨i, hi⟩ : ∃ i, (idxs (fun o => mk0 e o == w) g.1)[j]? = some i := ⟨_, List.getElem?_eq_getElem hj⟩
  obtain ⟨o, k1, k2, k3⟩ := idxs_get g.1 j i hi
  have k2' : mk0 e o = w := by simpa using k2
  have hh := half_at k1 k2'
  rw [k3, h3] at hh
  have eo : o' = o % 2 ^ e := Option.some.inj hh
  have hin := hg.1 o (List.mem_of_getElem? k1)
  refine ⟨i, by rw [plc_idxs, hi]; rfl, ?_, ?_, o, k1, ?_⟩
  · apply Classical.byContradiction
    intro c
    have m := cnt_mono (q := fun o => mk0 e o == w) g.1 (show i + 1 ≤ g.2.1 by omega)
    rw [cnt_step k1 k2, k3] at m
    omega
  · apply Classical.byContradiction
    intro c
    have m := cnt_mono (q := fun o => mk0 e o == w) g.1 (show g.2.2 ≤ i by omega)
    rw [k3] at m
    omega
  · have h4' : p (o' + w * 2 ^ e) = true := h4
    rw [eo, mod_mk hin.1 hin.2 k2'] at h4'
    exact h4'
theorem hit_down {e : Nat} {w : Int} {g : G3} {p : Int → Bool} (hg : GoodS (e + 1) g) {i : Nat} {o : Int} (h : Hit g p i) (ho : g.1[i]? = some o) (hw : mk0 e o = w) : ∃ j : Nat, plc w (g.1.map (mk0 e)) (j : Int) 0 = some i ∧ Hit (led1 e w g) (fun o => p (o + w * 2 ^ e)) j := by
  obtain ⟨h1, h2, o', h3, h4⟩ := h
  rw [ho] at h3
  cases h3
  have hin := hg.1 o (List.mem_of_getElem? ho)
  refine ⟨_, plc_at ho hw, ?_, ?_, _, half_at ho hw, ?_⟩
  · show ((g.1.map (mk0 e)).take g.2.1).count w ≤ _
    rw [cnt_take]
    exact cnt_mono _ h1
  · show _ < ((g.1.map (mk0 e)).take g.2.2).count w
    rw [cnt_take]
    have m := cnt_mono (q := fun o => mk0 e o == w) g.1 (show i + 1 ≤ g.2.2 by omega)
    rw [cnt_step ho (by simp [hw])] at m
    omega
  · show p (o % 2 ^ e + w * 2 ^ e) = true
    rw [mod_mk hin.1 hin.2 hw]
    exact h4
theorem mk0b (e : Nat) (o : Int) : mk0 e o = 0 ∨ mk0 e o = 1 := by
  unfold mk0
  by_cases h : o < 2 ^ e
  · exact .inl (if_pos h)
  · exact .inr (if_neg h)
/-! ### what a gathering has, and how often -/
def sel (g : G3) : List Int := (g.1.take g.2.2).drop g.2.1
def Wh (gs : List G3) : List Int := gs.flatMap sel
theorem sel_len {L : Nat} {g : G3} (h : GoodS L g) : ((sel g).length : Int) = (g.2.2 : Int) - g.2.1 := by
  obtain ⟨_, h1, h2, _⟩ := h
  unfold sel
  rw [List.length_drop, List.length_take, Nat.min_eq_left h2]
  omega
theorem manyG_W {L : Nat} : ∀ {gs : List G3}, (∀ g ∈ gs, GoodS L g) → manyG gs = ((Wh gs).length : Nat)
  | [], _ => rfl
  | g :: gs, h => by
    have ih := manyG_W (gs := gs) fun x hx => h x (List.mem_cons_of_mem _ hx)
    have hg := sel_len (h g List.mem_cons_self)
    unfold manyG at ih ⊢
    unfold Wh at ih ⊢
    rw [List.map_cons, List.sum_cons, ih, List.flatMap_cons, List.length_append]
    omega
theorem halfO_app {e : Nat} {w : Int} (a b : List Int) : halfO e w (a ++ b) = halfO e w a ++ halfO e w b := by
  unfold halfO
  rw [List.filter_append, List.map_append]
theorem cnt_half_len {e : Nat} {w : Int} (os : List Int) : (os.map (mk0 e)).count w = (halfO e w os).length := count_mk e w os
theorem sel_led1 {e : Nat} {w : Int} {g : G3} (h : GoodS (e + 1) g) : sel (led1 e w g) = halfO e w (sel g) := by
  obtain ⟨_, h1, h2, _⟩ := h
  show ((halfO e w g.1).take (((g.1.map (mk0 e)).take g.2.2).count w)).drop (((g.1.map (mk0 e)).take g.2.1).count w) = _
  rw [halfO_take]
  have e1 : g.1.take g.2.2 = g.1.take g.2.1 ++ sel g := by
    unfold sel
    have := (List.take_append_drop g.2.1 (g.1.take g.2.2)).symm
    rw [List.take_take, Nat.min_eq_left h1] at this
    exact this
  rw [e1, halfO_app]
  have e2 : ((g.1.map (mk0 e)).take g.2.1).count w = (halfO e w (g.1.take g.2.1)).length := by
    rw [← List.map_take]
    exact cnt_half_len _
  rw [e2, List.drop_left]
theorem W_led {e : Nat} {w : Int} : ∀ {gs : List G3}, (∀ g ∈ gs, GoodS (e + 1) g) → Wh (gs.map (led1 e w)) = halfO e w (Wh gs)
  | [], _ => rfl
  | g :: gs, h => by
    have ih := W_led (w := w) (gs := gs) fun x hx => h x (List.mem_cons_of_mem _ hx)
    unfold Wh at ih ⊢
    rw [List.map_cons, List.flatMap_cons, List.flatMap_cons, halfO_app, ih, sel_led1 (h g List.mem_cons_self)]
def fillG (gs : List G3) : List G3 := gs.filter fun g => decide (g.2.1 < g.2.2)
theorem W_fill : ∀ {gs : List G3}, Wh (fillG gs) = Wh gs
  | [] => rfl
  | g :: gs => by
    have ih := W_fill (gs := gs)
    unfold fillG Wh at ih ⊢
    rw [List.filter_cons]
    by_cases c : g.2.1 < g.2.2
    · rw [if_pos (decide_eq_true c), List.flatMap_cons, List.flatMap_cons, ih]
    · rw [if_neg (by simpa using c), ih, List.flatMap_cons]
      have : sel g = [] := by
        unfold sel
        rw [List.drop_eq_nil_iff, List.length_take]
        omega
      rw [this, List.nil_append]
theorem fill_good {L : Nat} {gs : List G3} (h : ∀ g ∈ gs, GoodS L g) : ∀ g ∈ fillG gs, GoodS L g := fun g hg => h g (List.mem_filter.mp hg).1
theorem W_in {L : Nat} {gs : List G3} (h : ∀ g ∈ gs, GoodS L g) : InO L (Wh gs) := fun o ho => by
  obtain ⟨g, hg, ho⟩ := List.mem_flatMap.mp ho
  exact (h g hg).1 o (List.mem_of_mem_take (List.mem_of_mem_drop ho))
theorem W_app (a b : List G3) : Wh (a ++ b) = Wh a ++ Wh b := List.flatMap_append
abbrev P2 := Int × Int
def caF (part floor : Int) : Nat → Int → List Int → List P2
  | 0, least, ws => if (ws.length : Int) * part ≤ floor then [] else [(least, (ws.length : Int))]
  | e + 1, least, ws => if (ws.length : Int) * part ≤ floor then [] else caF part floor e least (halfO e 0 ws) ++ caF part floor e (least + 2 ^ e) (halfO e 1 ws)
theorem ca_le {part floor : Int} : ∀ (e : Nat) (least : Int) (ws : List Int), ∀ p ∈ caF part floor e least ws, p.2 ≤ (ws.length : Int)
  | 0, least, ws, p, hp => by
    unfold caF at hp
    by_cases c : (ws.length : Int) * part ≤ floor
    · rw [if_pos c] at hp; cases hp
    · rw [if_neg c] at hp; rw [List.mem_singleton.mp hp]; exact Int.le_refl _
  | e + 1, least, ws, p, hp => by
    unfold caF at hp
    by_cases c : (ws.length : Int) * part ≤ floor
    · rw [if_pos c] at hp; cases hp
    · rw [if_neg c] at hp
      have l0 := halfO_len (e := e) (os := ws) (w := 0)
      have l1 := halfO_len (e := e) (os := ws) (w := 1)
      rcases List.mem_append.mp hp with hp | hp
      · have := ca_le e _ _ p hp; omega
      · have := ca_le e _ _ p hp; omega
theorem ca_filter {part floor : Int} (hp : 1 ≤ part) (hf : 0 ≤ floor) : ∀ (e : Nat) (least : Int) (ws : List Int), caF part floor e least ws = (caF 1 0 e least ws).filter fun p => decide (floor < p.2 * part) := by
  have mono : ∀ {a b : Int}, a ≤ b → a * part ≤ b * part := fun h => Int.mul_le_mul_of_nonneg_right h (by omega)
  have none_of : ∀ (e : Nat) (least : Int) (ws : List Int), (ws.length : Int) * part ≤ floor → (caF 1 0 e least ws).filter (fun p => decide (floor < p.2 * part)) = [] := fun e least ws c => by
    rw [List.filter_eq_nil_iff]
    intro p h
    have := mono (ca_le e least ws p h)
    simp
    omega
  have pos : ∀ {n : Nat}, ¬ (n : Int) * part ≤ floor → ¬ (n : Int) * 1 ≤ 0 := fun {n} c z => c (by
    have : n = 0 := by omega
    rw [this]
    simp
    exact hf)
  intro e
  induction e with
  | zero =>
    intro least ws
    by_cases c : (ws.length : Int) * part ≤ floor
    · rw [none_of 0 least ws c]
      unfold caF
      rw [if_pos c]
    · unfold caF
      rw [if_neg c, if_neg (pos c), List.filter_cons, if_pos (decide_eq_true (by show floor < (ws.length : Int) * part; omega)), List.filter_nil]
  | succ e ih =>
    intro least ws
    by_cases c : (ws.length : Int) * part ≤ floor
    · rw [none_of (e + 1) least ws c]
      unfold caF
      rw [if_pos c]
    · unfold caF
      rw [if_neg c, if_neg (pos c), List.filter_append, ih, ih]
theorem half_count {e : Nat} {w x : Int} {ws : List Int} (h : InO (e + 1) ws) (hw : w = 0 ∨ w = 1) (h0 : 0 ≤ x) (h1 : x < 2 ^ e) : (halfO e w ws).count x = ws.count (x + w * 2 ^ e) := by
  rw [List.count_eq_countP, List.count_eq_countP, count_half]
  refine List.countP_congr fun o ho => ?_
  have hin := h o ho
  have hp := p2pos e
  rw [Bool.and_eq_true, beq_iff_eq, beq_iff_eq, beq_iff_eq]
  constructor
  · rintro ⟨a, b⟩
    rw [← b]
    exact (mod_mk hin.1 hin.2 a).symm
  · intro a
    have e2 : (2 : Int) ^ (e + 1) = 2 * 2 ^ e := by rw [Int.pow_succ]; omega
    have hm : mk0 e o = w := by
      unfold mk0
      rcases hw with rfl | rfl
      · rw [if_pos (by omega)]
      · rw [if_neg (by omega)]
    refine ⟨hm, ?_⟩
    have := mod_mk hin.1 hin.2 hm
    omega
theorem st_mem : ∀ (e : Nat) (least : Int) (ws : List Int), InO e ws → ∀ (w m : Int), (w, m) ∈ caF 1 0 e least ws ↔ (m = (ws.count (w - least) : Nat) ∧ 0 < m)
  | 0, least, ws, hin, w, m => by
    have hz : ∀ x ∈ ws, x = 0 := fun x hx => by
      have := hin x hx
      simp at this
      omega
    unfold caF
    by_cases c : (ws.length : Int) * 1 ≤ 0
    · rw [if_pos c]
      have : ws = [] := List.eq_nil_of_length_eq_zero (by omega)
      subst this
      simp
      omega
    · rw [if_neg c, List.mem_singleton]
      have call : ws.count 0 = ws.length := List.count_eq_length.mpr fun b hb => (hz b hb).symm
      constructor
      · intro z
        cases z
        rw [Int.sub_self, call]
        exact ⟨rfl, by omega⟩
      · rintro ⟨h1, h2⟩
        have : (w - least) ∈ ws := List.count_pos_iff.mp (by omega)
        have z := hz _ this
        rw [z, call] at h1
        have : w = least := by omega
        rw [this, h1]
  | e + 1, least, ws, hin, w, m => by
    have hp := p2pos e
    have e2 : (2 : Int) ^ (e + 1) = 2 * 2 ^ e := by rw [Int.pow_succ]; omega
    unfold caF
    by_cases c : (ws.length : Int) * 1 ≤ 0
    · rw [if_pos c]
      have : ws = [] := List.eq_nil_of_length_eq_zero (by omega)
      subst this
      simp
      omega
    · rw [if_neg c, List.mem_append, st_mem e _ _ halfO_in, st_mem e _ _ halfO_in]
      have rng : ∀ {x : Int} {us : List Int}, InO e us → 0 < us.count x → 0 ≤ x ∧ x < 2 ^ e := fun h h0 => h _ (List.count_pos_iff.mp h0)
      constructor
      · rintro (⟨h1, h2⟩ | ⟨h1, h2⟩)
        · have r := rng halfO_in (show 0 < (halfO e 0 ws).count (w - least) by omega)
          rw [half_count hin (.inl rfl) r.1 r.2] at h1
          have : w - least + 0 * 2 ^ e = w - least := by omega
          rw [this] at h1
          exact ⟨h1, h2⟩
        · have r := rng halfO_in (show 0 < (halfO e 1 ws).count (w - (least + 2 ^ e)) by omega)
          rw [half_count hin (.inr rfl) r.1 r.2] at h1
          have : w - (least + 2 ^ e) + 1 * 2 ^ e = w - least := by omega
          rw [this] at h1
          exact ⟨h1, h2⟩
      · rintro ⟨h1, h2⟩
        have r := hin _ (List.count_pos_iff.mp (show 0 < ws.count (w - least) by omega))
        by_cases d : w - least < 2 ^ e
        · refine .inl ⟨?_, h2⟩
          rw [half_count hin (.inl rfl) r.1 d]
          have : w - least + 0 * 2 ^ e = w - least := by omega
          rw [this]
          exact h1
        · refine .inr ⟨?_, h2⟩
          rw [half_count hin (.inr rfl) (by omega) (by omega)]
          have : w - (least + 2 ^ e) + 1 * 2 ^ e = w - least := by omega
          rw [this]
          exact h1
theorem st_rng {e : Nat} {least : Int} {ws : List Int} (hin : InO e ws) {p : P2} (h : p ∈ caF 1 0 e least ws) : least ≤ p.1 ∧ p.1 < least + 2 ^ e ∧ 0 < p.2 ∧ p.2 = (ws.count (p.1 - least) : Nat) := by
  obtain ⟨h1, h2⟩ := (st_mem e least ws hin p.1 p.2).mp h
  have r := hin _ (List.count_pos_iff.mp (show 0 < ws.count (p.1 - least) by omega))
  exact ⟨by omega, by omega, h2, h1⟩
theorem st_rise : ∀ (e : Nat) (least : Int) (ws : List Int), InO e ws → (caF 1 0 e least ws).Pairwise fun p q => p.1 < q.1
  | 0, least, ws, _ => by
    unfold caF
    by_cases c : (ws.length : Int) * 1 ≤ 0
    · rw [if_pos c]; exact .nil
    · rw [if_neg c]; simp
  | e + 1, least, ws, hin => by
    unfold caF
    by_cases c : (ws.length : Int) * 1 ≤ 0
    · rw [if_pos c]; exact .nil
    · rw [if_neg c, List.pairwise_append]
      refine ⟨st_rise e _ _ halfO_in, st_rise e _ _ halfO_in, fun p hp q hq => ?_⟩
      have := st_rng halfO_in hp
      have := st_rng halfO_in hq
      omega
theorem half_sum {e : Nat} (ws : List Int) : (halfO e 0 ws).length + (halfO e 1 ws).length = ws.length := by
  have := cnt01 (e := e) ws ws.length
  rw [Nat.min_self, List.take_of_length_le (by simp), cnt_half_len, cnt_half_len] at this
  exact this
def sumM (ps : List P2) : Int := (ps.map fun p => p.2).sum
theorem st_sum : ∀ (e : Nat) (least : Int) (ws : List Int), sumM (caF 1 0 e least ws) = (ws.length : Int)
  | 0, least, ws => by
    unfold caF
    by_cases c : (ws.length : Int) * 1 ≤ 0
    · rw [if_pos c]; show (0 : Int) = _; omega
    · rw [if_neg c]; show (ws.length : Int) + 0 = _; omega
  | e + 1, least, ws => by
    unfold caF
    by_cases c : (ws.length : Int) * 1 ≤ 0
    · rw [if_pos c]; show (0 : Int) = _; omega
    · rw [if_neg c]
      have h1 := st_sum e least (halfO e 0 ws)
      have h2 := st_sum e (least + 2 ^ e) (halfO e 1 ws)
      have h3 := half_sum (e := e) ws
      unfold sumM at h1 h2 ⊢
      rw [List.map_append, List.sum_append, h1, h2]
      omega
/-- what comes most -/
def bstep (b : Option P2) (p : P2) : Option P2 := match b with
  | none => some p
  | some q => if p.2 > q.2 then some p else some q
def bst (ps : List P2) : Option P2 := ps.foldl bstep none
/-- few come often -/
theorem few {part W : Int} (hp : 1 ≤ part) (hW : 0 ≤ W) : ∀ (ps : List P2), (∀ p ∈ ps, W < p.2 * part) → ((ps.length : Int) * (W + 1) ≤ sumM ps * part)
  | [], _ => by simp [sumM]
  | p :: ps, h => by
    have ih := few hp hW ps fun q hq => h q (List.mem_cons_of_mem _ hq)
    have h0 := h p List.mem_cons_self
    unfold sumM at ih ⊢
    rw [List.map_cons, List.sum_cons, List.length_cons, Int.add_mul]
    have : ((ps.length + 1 : Nat) : Int) * (W + 1) = (ps.length : Int) * (W + 1) + (W + 1) := by
      rw [Int.natCast_add, Int.add_mul]; simp
    rw [this]
    omega
/-! ### spans -/
def stS (p : Int × Int) (t : Int) : Int × Int := (if t = 1 then p.1 + p.2 / 2 else p.1, p.2 / 2)
def spanS (low : Int) (L : Nat) (ws : List Int) : Int × Int := ws.foldl stS (low, 2 ^ L)
theorem pow_half (e : Nat) : (2 : Int) ^ (e + 1) / 2 = 2 ^ e := by rw [Int.pow_succ]; omega
theorem take_snoc {α : Type} {l : List α} {i : Nat} {x : α} (h : l[i]? = some x) : l.take (i + 1) = l.take i ++ [x] := by rw [List.take_add_one, h]; rfl
theorem ints_get {ws : List Int} {i : Nat} {x : V} (h : (ws.map V.int)[i]? = some x) : ∃ t, ws[i]? = some t ∧ x = .int t := by
  rw [List.getElem?_map] at h
  cases e : ws[i]? with
  | none => rw [e] at h; cases h
  | some t => rw [e] at h; exact ⟨t, rfl, (Option.some.inj h).symm⟩
theorem fold_snoc {α β : Type} {f : β → α → β} {b : β} {l : List α} {i : Nat} {x : α} (h : l[i]? = some x) : (l.take (i + 1)).foldl f b = f ((l.take i).foldl f b) x := by
  rw [take_snoc h, List.foldl_append]; rfl
abbrev k_span_of : Nat := 2
inductive sp_span_of (K : PySem.W.Frag) (vs : List V) (H : Hp) (Q : VK) (E : XK) : Prop
  | mk (b wy : Addr) (low : Int) (L : Nat) (ws : List Int) (_ : vs = [.ref b, .ref wy]) (_ : SqT K H b [.int low, .int (L : Int)]) (_ : L ≤ 40) (_ : SqT K H wy (ws.map V.int)) (_ : ∀ p, H p = none → Q (.ref p) (upd H p (.tup [.int (spanS low L ws).1, .int ((spanS low L ws).1 + (spanS low L ws).2 - 1)]))) : sp_span_of K vs H Q E
section
variable {P : Program} {w : World} {K : PySem.W.Frag} {mg : Str → Option Value} {base : Heap}
theorem ok_span_of (z : Bz K mg base) : Cal P w K mg base k_span_of "span_of" ["bounds", "way"] (sp_span_of K) := by
  have sc := sc_span_of
  refine z.d_span_of.cal fun f fd F => F.k sc fun cdv A outer s H vs Q E hr h => ?_
  obtain ⟨b, wy, low, L, ws, rfl, hb, hL, hw, q⟩ := h
  refine ⟨_, (pss_cons (pst 2 sc.nd (pix ix_tup (pv 0) pe_int))
 (pss_cons (pst 3 sc.nd (pe_fn (ok_many_worths z) hr.m (by rfl) (pa_cons (pix ix_tup (pv 0) pe_int) pa_nil)))
 (pss_cons (ps_for PassesOwn.never rfl (pi_tup (pv 1)) (pgn 4 sc.nd)
  (pss_cons (pst 3 sc.nd (pe_op op_fdivB (pv 3) pe_int))
 (pss_one (ps_if (pt_cmpR op_eq (pv 4) pe_int (nomark _))
  (pss_one (pst 2 sc.nd (pe_op op_add (pv 2) (pv 3))))
  pss_nil))))
 (pss_one (ps_ret (pe_tup (pa_cons (pv 2) (pa_cons (pe_op op_sub (pe_op op_add (pv 2) (pv 3)) pe_int) pa_nil)))))))), ?_⟩
  refine ⟨_, rfl, b, _, _, _, rfl, rfl, hb, rfl, _, rfl, b, _, _, _, rfl, rfl, hb, rfl, L, rfl, hL, ?_⟩
  refine ⟨_, rfl, wy, rfl, ⟨_, hw⟩, for_tup (K := K) (a := wy) (xs := ws.map V.int) (fun i σ H2 => ∃ v : Option V, σ = [some (.ref b), some (.ref wy), some (.int ((ws.take i).foldl stS (low, 2 ^ L)).1), some (.int ((ws.take i).foldl stS (low, 2 ^ L)).2), v] ∧ H2 = H)
    ⟨none, rfl, rfl⟩ (fun i σ H2 _ ⟨_, _, e⟩ => by rw [e]; exact hw) ?_ ?_⟩
  · rintro i x σ H2 hi ⟨v, rfl, rfl⟩
    obtain ⟨t, ht, rfl⟩ := ints_get hi
    refine ⟨_, rfl, _, _, rfl, rfl, ⟨by decide, by decide⟩, ?_⟩
    refine ⟨_, rfl, rfl, _, rfl, ?_⟩
    refine ite2 (fun c => ?_) (fun c => ?_)
    · have c' : t = 1 := V.int.inj (of_decide_eq_true c)
      refine ⟨_, rfl, _, rfl, _, _, rfl, rfl, some (.int t), ?_, rfl⟩
      rw [fold_snoc ht]
      unfold stS
      rw [if_pos c']
      rfl
    · have c' : ¬ t = 1 := fun z => c (by rw [z]; exact decide_eq_true rfl)
      refine ⟨some (.int t), ?_, rfl⟩
      rw [fold_snoc ht]
      unfold stS
      rw [if_neg c']
      rfl
  · rintro σ H2 ⟨v, rfl, rfl⟩
    refine ⟨_, rfl, _, rfl, _, rfl, _, _, rfl, rfl, _, _, rfl, rfl, szb rfl, fun p hp => ?_⟩
    have e : ws.take (ws.map V.int).length = ws := by rw [List.length_map]; exact List.take_length
    have q' := q p hp
    unfold spanS at q'
    rw [← e] at q'
    exact q'
end
theorem same_put2 {H H1 : Hp} {D : Addr} (s : Same H H1) (hD : H D = none) (o : HO) : Same H (upd H1 D o) := fun b u q => by rw [upd_ne (ne_of_none q hD)]; exact s b u q
def btw (least lo hi : Int) : Int → Bool := fun o => decide (lo ≤ least + o ∧ least + o ≤ hi)
def AllAt {α : Type} (R : Hp → V → α → Prop) (H : Hp) (xs : List V) (ps : List α) : Prop := xs.length = ps.length ∧ ∀ (j : Nat) (x : V) (p : α), xs[j]? = some x → ps[j]? = some p → R H x p
section
variable {α : Type} {R : Hp → V → α → Prop} {H H' : Hp} {xs ys : List V} {ps qs : List α}
theorem AllAt.imp (h : AllAt R H xs ps) (f : ∀ x p, R H x p → R H' x p) : AllAt R H' xs ps := ⟨h.1, fun j x p h1 h2 => f x p (h.2 j x p h1 h2)⟩
theorem AllAt.nil : AllAt R H [] [] := ⟨rfl, fun j x p h1 _ => by simp at h1⟩
theorem AllAt.snoc {x : V} {p : α} (h : AllAt R H xs ps) (hx : R H x p) : AllAt R H (xs ++ [x]) (ps ++ [p]) := by
  refine ⟨by rw [List.length_append, List.length_append, h.1] <;> rfl, fun j y k h1 h2 => ?_⟩
  have hl := h.1
  rcases snoc_get h1 with ⟨a1, a2⟩ | ⟨a1, a2⟩
  · rcases snoc_get h2 with ⟨b1, b2⟩ | ⟨b1, b2⟩
    · exact h.2 j y k a2 b2
    · omega
  · rcases snoc_get h2 with ⟨b1, b2⟩ | ⟨b1, b2⟩
    · omega
    · rw [a2, b2]; exact hx
theorem AllAt.get (h : AllAt R H xs ps) {j : Nat} {x : V} (hx : xs[j]? = some x) : ∃ p, ps[j]? = some p ∧ R H x p := by
  have hj : j < ps.length := by rw [← h.1]; exact (List.getElem?_eq_some_iff.mp hx).1
  exact ⟨ps[j], List.getElem?_eq_getElem hj, h.2 j x ps[j] hx (List.getElem?_eq_getElem hj)⟩
theorem AllAt.app (h : AllAt R H xs ps) (k : AllAt R H ys qs) : AllAt R H (xs ++ ys) (ps ++ qs) := by
  refine ⟨by rw [List.length_append, List.length_append, h.1, k.1], fun j y p h1 h2 => ?_⟩
  by_cases c : j < xs.length
  · rw [List.getElem?_append_left c] at h1
    rw [List.getElem?_append_left (by rw [← h.1]; exact c)] at h2
    exact h.2 j y p h1 h2
  · rw [List.getElem?_append_right (by omega)] at h1
    rw [List.getElem?_append_right (by rw [← h.1]; omega), ← h.1] at h2
    exact k.2 _ y p h1 h2
end
def PsR (H : Hp) (v : V) (p : P2) : Prop := ∃ a, v = .ref a ∧ H a = some (.tup [.int p.1, .int p.2])
theorem PsR.tk {H H' : Hp} (k : TKeep H H') {v : V} {p : P2} (h : PsR H v p) : PsR H' v p := by
  obtain ⟨a, e, h1⟩ := h
  exact ⟨a, e, (k _ _).1 h1⟩
theorem ps_tk {H H' : Hp} {xs : List V} {ps : List P2} (h : AllAt PsR H xs ps) (k : TKeep H H') : AllAt PsR H' xs ps := h.imp fun _ _ z => z.tk k
theorem ps_same {H H' : Hp} {xs : List V} {ps : List P2} (h : AllAt PsR H xs ps) (s : Same H H') : AllAt PsR H' xs ps := ps_tk h (.same s)
theorem ca_len {part floor : Int} (hp : 1 ≤ part) (hf : 0 ≤ floor) {e : Nat} {least : Int} {ws : List Int} (hin : InO e ws) : (caF part floor e least ws).length ≤ ws.length := by
  rw [ca_filter hp hf]
  refine Nat.le_trans (List.length_filter_le _ _) ?_
  have h := few (part := 1) (W := 0) (by decide) (by decide) (caF 1 0 e least ws) (fun p hp => by have := (st_rng hin hp).2.2.1; omega)
  rw [st_sum] at h
  omega
abbrev k_filled : Nat := 1
inductive sp_filled (K : PySem.W.Frag) (vs : List V) (H : Hp) (Q : VK) (E : XK) : Prop
  | mk (ga : Addr) (xs : List V) (L : Nat) (gs : List G3) (_ : vs = [.ref ga]) (_ : SqL K H ga xs) (_ : GatAt H L xs gs) (_ : gs.length ≤ 1000) (_ : ∀ (H' : Hp) (D : Addr) (ys : List V), Same H H' → H' D = some (.lst ys) → H D = none → GatAt H' L ys (fillG gs) → Q (.ref D) H') : sp_filled K vs H Q E
section
variable {P : Program} {w : World} {K : PySem.W.Frag} {mg : Str → Option Value} {base : Heap}
theorem ok_filled (z : Bz K mg base) : Cal P w K mg base k_filled "filled" ["gathering"] (sp_filled K) := by
  have sc := sc_filled
  refine z.d_filled.cal fun f fd F => F.k sc fun cdv A outer s H vs Q E hr h => ?_
  obtain ⟨ga, xs, L, gs, rfl, hga, hg, hl, q⟩ := h
  refine ⟨_, (pss_one (ps_ret (pe_compIf (cl := []) (cn := []) (N := []) (fr := []) (sc0 := defScope s_filled) rfl (pi_list (pv 0)) (fun C s₂ H₂ fp => (pv 0)) (fun C s₂ H₂ fp => (pt_cmpR op_lt (pix (ix_tupK (K := K) rfl) (pv 0) pe_int) (pix (ix_tupK (K := K) rfl) (pv 0) pe_int) (nomark _))) (by with_unfolding_all rfl) trivial rfl rfl rfl cok rfl))), ?_⟩
  have hxl := hg.1
  refine ⟨_, rfl, ga, rfl, ⟨_, hga⟩, fun D hD => ?_⟩
  refine compIf_listP (K := K) (xs := xs) (sz (by omega)) (fun i ys H2 => H2 = upd H D (.lst ys) ∧ ys.length ≤ i ∧ GatAt H L ys (fillG (gs.take i))) ⟨rfl, Nat.le_refl _, GatAt.nil _ _⟩ (fun i ys H2 ⟨e, _⟩ => by rw [e]; exact (same_new hD _).seq hga)
    (fun i ys H2 ⟨e, e2, _⟩ => ⟨by rw [e]; exact upd_same, e2⟩) ?_ ?_
  · rintro i x ys H2 hx ⟨rfl, e2, e3⟩
    have hi : i < gs.length := by rw [← hxl]; exact (List.getElem?_eq_some_iff.mp hx).1
    have gi : gs[i]? = some gs[i] := List.getElem?_eq_getElem hi
    generalize gs[i] = g at gi
    have hsx := hg.2 i x g hx gi
    obtain ⟨t, u, rfl, ht, hu⟩ := hsx
    have ht' : SqT K (upd H D (.lst ys)) t [u, .int (g.2.1 : Int), .int (g.2.2 : Int)] := SqT.of (same_new hD _ _ _ ht)
    refine ⟨_, rfl, t, _, _, _, rfl, rfl, ht', rfl, _, rfl, t, _, _, _, rfl, rfl, ht', rfl, _, _, rfl, rfl, _, rfl, ?_⟩
    have et : fillG (gs.take (i + 1)) = fillG (gs.take i) ++ fillG [g] := by
      unfold fillG
      rw [List.take_add_one, gi, List.filter_append]
      rfl
    refine ite2 (fun c => ?_) (fun c => ?_)
    · have c' := of_decide_eq_true c
      have ef : fillG [g] = [g] := by
        unfold fillG
        rw [List.filter_cons, if_pos (decide_eq_true (by omega))]
        rfl
      refine ⟨_, rfl, upd_same, by rw [upd_upd], by rw [List.length_append]; simp; omega, ?_⟩
      rw [et, ef]
      exact e3.snoc ⟨t, u, rfl, ht, hu⟩
    · have c' : ¬ (g.2.1 : Int) < g.2.2 := fun z => c (decide_eq_true z)
      have ef : fillG [g] = [] := by
        unfold fillG
        rw [List.filter_cons, if_neg (by simp; omega)]
        rfl
      refine ⟨_, by omega, rfl, by omega, rfl, by omega, ?_⟩
      rw [et, ef, List.append_nil]
      exact e3
  · rintro ys H2 ⟨rfl, e2, e3⟩
    rw [hxl, List.take_length] at e3
    exact q _ D ys (same_new hD _) upd_same hD (e3.same (same_new hD _))
end
def wayW : Nat → Int → List Int
  | 0, _ => []
  | e + 1, o => if o < 2 ^ e then 0 :: wayW e o else 1 :: wayW e (o - 2 ^ e)
theorem wayW_lt {e : Nat} {o : Int} (h : o < 2 ^ e) : wayW (e + 1) o = 0 :: wayW e o := by
  show (if o < 2 ^ e then _ else _) = _
  rw [if_pos h]
theorem wayW_ge {e : Nat} {o : Int} (h : ¬ o < 2 ^ e) : wayW (e + 1) o = 1 :: wayW e (o - 2 ^ e) := by
  show (if o < 2 ^ e then _ else _) = _
  rw [if_neg h]
theorem pow2 (e : Nat) : (2 : Int) ^ (e + 1) = 2 ^ e + 2 ^ e := by rw [Int.pow_succ]; omega
theorem wayW_len : ∀ (e : Nat) (o : Int), (wayW e o).length = e
  | 0, _ => rfl
  | e + 1, o => by
    by_cases h : o < 2 ^ e
    · rw [wayW_lt h, List.length_cons, wayW_len e]
    · rw [wayW_ge h, List.length_cons, wayW_len e]
theorem wayW_01 : ∀ (e : Nat) (o : Int), ∀ m ∈ wayW e o, m = 0 ∨ m = 1
  | 0, _, m, hm => by cases hm
  | e + 1, o, m, hm => by
    by_cases h : o < 2 ^ e
    · rw [wayW_lt h] at hm
      rcases List.mem_cons.mp hm with z | z
      · exact .inl z
      · exact wayW_01 e _ m z
    · rw [wayW_ge h] at hm
      rcases List.mem_cons.mp hm with z | z
      · exact .inr z
      · exact wayW_01 e _ m z
theorem where_in {low n : Int} {L : Nat} : whereS low L n = "within" ↔ (low ≤ n ∧ n ≤ low + 2 ^ L - 1) := by
  unfold whereS
  by_cases h : n < low
  · rw [if_pos h]
    exact ⟨fun z => absurd z (by decide), fun z => by omega⟩
  · rw [if_neg h]
    by_cases h2 : low + 2 ^ L - 1 < n
    · rw [if_pos h2]
      exact ⟨fun z => absurd z (by decide), fun z => by omega⟩
    · rw [if_neg h2]
      exact ⟨fun _ => by omega, fun _ => rfl⟩

/-- how many lie ahead of what a way leads to -/
def mlF : Nat → List Int → List Int → Int
  | _, [], _ => 0
  | 0, _ :: _, _ => 0
  | e + 1, w :: ws, us => (if w = 1 then ((halfO e 0 us).length : Int) else 0) + mlF e ws (halfO e w us)
theorem ml_way : ∀ (e : Nat) (o : Int) (us : List Int), 0 ≤ o → o < 2 ^ e → InO e us → mlF e (wayW e o) us = (us.countP fun x => decide (x < o) : Nat)
  | 0, o, us, h0, h1, hin => by
    have : us.countP (fun x => decide (x < o)) = 0 := List.countP_eq_zero.mpr fun x hx => by
      have := hin x hx
      simp at *
      omega
    rw [this]
    rfl
  | e + 1, o, us, h0, h1, hin => by
    have p := pow2 e
    have hp := p2pos e
    by_cases c : o < 2 ^ e
    · rw [wayW_lt c, mlF, if_neg (by decide), ml_way e o _ h0 c halfO_in, count_half, Int.zero_add]
      congr 1
      refine List.countP_congr fun x hx => ?_
      have hx' := hin x hx
      rw [Bool.and_eq_true, beq_iff_eq, decide_eq_true_eq, decide_eq_true_eq]
      constructor
      · rintro ⟨a, b⟩
        have := mod_mk hx'.1 hx'.2 a
        omega
      · intro a
        have hm : mk0 e x = 0 := by unfold mk0; rw [if_pos (by omega)]
        have := mod_mk hx'.1 hx'.2 hm
        exact ⟨hm, by omega⟩
    · rw [wayW_ge c, mlF, if_pos rfl, ml_way e (o - 2 ^ e) _ (by omega) (by omega) halfO_in, count_half]
      have l0 : (halfO e 0 us).length = us.countP fun x => mk0 e x == 0 := by
        unfold halfO
        rw [List.length_map, List.countP_eq_length_filter]
      rw [l0]
      have key : ∀ us : List Int, (∀ x ∈ us, 0 ≤ x ∧ x < (2 : Int) ^ (e + 1)) → (us.countP fun x => mk0 e x == 0) + (us.countP fun x => (mk0 e x == 1) && decide (x % 2 ^ e < o - 2 ^ e)) = us.countP fun x => decide (x < o) := by
        intro us
        induction us with
        | nil => intro _; rfl
        | cons x us ih =>
          intro h
          have ih' := ih fun y hy => h y (List.mem_cons_of_mem _ hy)
          have hx' := h x List.mem_cons_self
          rw [List.countP_cons, List.countP_cons, List.countP_cons, ← ih']
          rcases mk0b e x with m | m
          · have hxl : x < 2 ^ e := by
              unfold mk0 at m
              by_cases z : x < 2 ^ e
              · exact z
              · rw [if_neg z] at m; omega
            rw [m]
            simp [show x < o by omega]
            omega
          · have := mod_mk hx'.1 hx'.2 m
            have hxg : ¬ x < 2 ^ e := by
              unfold mk0 at m
              intro z
              rw [if_pos z] at m; omega
            rw [m]
            by_cases z : x < o
            · have z2 : x % 2 ^ e < o - 2 ^ e := by omega
              simp [z, z2]
              omega
            · have z2 : ¬ x % 2 ^ e < o - 2 ^ e := by omega
              simp [z, z2]
      have := key us hin
      omega
abbrev k_way_of : Nat := 4
inductive sp_way_of (K : PySem.W.Frag) (vs : List V) (H : Hp) (Q : VK) (E : XK) : Prop
  | mk (b : Addr) (low num : Int) (L : Nat) (_ : vs = [.ref b, .int num]) (_ : SqT K H b [.int low, .int (L : Int)]) (_ : L ≤ 40) (_ : (low ≤ num ∧ num ≤ low + 2 ^ L - 1)) (_ : ∀ t H', Same H H' → TupF H' t ((wayW L (num - low)).map V.int) → Q (.ref t) H') : sp_way_of K vs H Q E
abbrev k_many_lesser : Nat := 4
inductive sp_many_lesser (K : PySem.W.Frag) (vs : List V) (H : Hp) (Q : VK) (E : XK) : Prop
  | mk (ga wy : Addr) (xs : List V) (L : Nat) (o : Int) (gs : List G3) (_ : vs = [.ref ga, .ref wy]) (_ : SqL K H ga xs) (_ : GatAt H L xs gs) (_ : (∀ g ∈ gs, GoodS L g)) (_ : gs.length ≤ 100) (_ : SqT K H wy ((wayW L o).map V.int)) (_ : 0 ≤ o) (_ : o < 2 ^ L) (_ : ∀ H', Same H H' → Q (.int ((Wh gs).countP fun x => decide (x < o) : Nat)) H') : sp_many_lesser K vs H Q E
abbrev k_below : Nat := 5
inductive sp_below (K : PySem.W.Frag) (vs : List V) (H : Hp) (Q : VK) (E : XK) : Prop
  | mk (b ga : Addr) (xs : List V) (low num : Int) (L : Nat) (gs : List G3) (_ : vs = [.ref b, .ref ga, .int num]) (_ : SqT K H b [.int low, .int (L : Int)]) (_ : L ≤ 40) (_ : SqL K H ga xs) (_ : GatAt H L xs gs) (_ : (∀ g ∈ gs, GoodS L g)) (_ : gs.length ≤ 100) (_ : ∀ H', Same H H' → Q (.int ((Wh gs).countP fun x => decide (x < num - low) : Nat)) H') : sp_below K vs H Q E
abbrev k_between : Nat := 6
inductive sp_between (K : PySem.W.Frag) (vs : List V) (H : Hp) (Q : VK) (E : XK) : Prop
  | mk (b ga : Addr) (xs : List V) (low lo hi : Int) (L : Nat) (gs : List G3) (_ : vs = [.ref b, .ref ga, .int lo, .int hi]) (_ : SqT K H b [.int low, .int (L : Int)]) (_ : L ≤ 40) (_ : SqL K H ga xs) (_ : GatAt H L xs gs) (_ : (∀ g ∈ gs, GoodS L g)) (_ : gs.length ≤ 100) (_ : ∀ H', Same H H' → Q (.int ((Wh gs).countP (btw low lo hi) : Nat)) H') : sp_between K vs H Q E
theorem cnt_between {low lo hi : Int} (h : lo ≤ hi) : ∀ us : List Int, (us.countP fun x => decide (x < hi + 1 - low)) = (us.countP fun x => decide (x < lo - low)) + us.countP (btw low lo hi)
  | [] => rfl
  | x :: us => by
    rw [List.countP_cons, List.countP_cons, List.countP_cons, cnt_between h us]
    unfold btw
    by_cases c1 : x < lo - low
    · have c2 : x < hi + 1 - low := by omega
      have c3 : ¬ (lo ≤ low + x ∧ low + x ≤ hi) := by omega
      simp [c1, c2, c3]
      omega
    · by_cases c2 : x < hi + 1 - low
      · have c3 : lo ≤ low + x ∧ low + x ≤ hi := by omega
        simp [c1, c2, c3]
        omega
      · have c3 : ¬ (lo ≤ low + x ∧ low + x ≤ hi) := by omega
        simp [c1, c2, c3]
section
variable {P : Program} {w : World} {K : PySem.W.Frag} {mg : Str → Option Value} {base : Heap}
theorem ok_way_of (z : Bz K mg base) : Cal P w K mg base k_way_of "way_of" ["bounds", "number"] (sp_way_of K) := by
  have sc := sc_way_of
  refine z.d_way_of.cal fun f fd F => F.k sc fun cdv A outer s H vs Q E hr h => ?_
  obtain ⟨b, low, num, L, rfl, hb, hL, c', q⟩ := h
  refine ⟨_, (pss_cons (ps_if (pt_cmpR op_ne (pe_fn (ok_where z) hr.m (by rfl) (pa_cons (pv 0) (pa_cons (pv 1) pa_nil))) pe_str (nomark _))
  (pss_one ps_never)
  pss_nil)
 (pss_cons (pst 2 sc.nd (pix ix_tup (pv 0) pe_int))
 (pss_cons (pst 3 sc.nd (pe_fn (ok_many_worths z) hr.m (by rfl) (pa_cons (pix ix_tup (pv 0) pe_int) pa_nil)))
 (pss_cons (pst 4 sc.nd (pe_lst pa_nil))
 (pss_cons (ps_for PassesOwn.never rfl (pi_range1 rfl z.range_ (pa_cons (pix ix_tup (pv 0) pe_int) pa_nil)) (pgn 5 sc.nd)
  (pss_cons (pst 3 sc.nd (pe_op op_fdivB (pv 3) pe_int))
 (pss_one (ps_if (pt_cmpR op_lt (pv 1) (pe_op op_add (pv 2) (pv 3)) (nomark _))
  (pss_one (ps_expr (pe_bm PySem.F.plainAttrs_list PySem.F.slot_list_append PySem.F.type_list_append mt_append (pv 4) (pa_cons pe_int pa_nil))))
  (pss_cons (ps_expr (pe_bm PySem.F.plainAttrs_list PySem.F.slot_list_append PySem.F.type_list_append mt_append (pv 4) (pa_cons pe_int pa_nil)))
 (pss_one (pst 2 sc.nd (pe_op op_add (pv 2) (pv 3)))))))))
 (pss_one (ps_ret (pe_callTy call_tupleF (by rfl) z.tuple_ bt_tuple (pa_cons (pv 4) pa_nil))))))))), ?_⟩
  refine ⟨_, rfl, _, rfl, b, low, num, L, rfl, hb, hL, rfl, _, rfl, ?_⟩
  refine ite2 (fun c => ?_) (fun c => ?_)
  · rw [where_in.mpr c', decide_eq_true rfl] at c
    cases c
  · skip
    refine ⟨_, rfl, b, _, _, _, rfl, rfl, hb, rfl, _, rfl, b, _, _, _, rfl, rfl, hb, rfl, L, rfl, hL, szb rfl, fun wy hwy => ?_⟩
    have hb2 : ∀ o, SqT K (upd H wy o) b [.int low, .int (L : Int)] := fun o => (same_new hwy o).seqT hb
    refine ⟨_, rfl, b, _, _, _, rfl, rfl, hb2 _, rfl, (L : Int), rfl, by omega, by omega, for_range (n := L) (fun i σ H2 => ∃ (le : Int) (ws : List Int) (v : Option V), σ = [some (.ref b), some (.int num), some (.int le), some (.int (2 ^ (L - i))), some (.ref wy), v] ∧
      H2 = upd H wy (.lst (ws.map V.int)) ∧ ws.length = i ∧ 0 ≤ num - le ∧ num - le < 2 ^ (L - i) ∧ wayW L (num - low) = ws ++ wayW (L - i) (num - le)) ⟨low, [], none, rfl, rfl, rfl, by omega, by show num - low < 2 ^ L; omega, rfl⟩ ?_ ?_⟩
    · rintro i σ H2 hi ⟨le, ws, v, rfl, rfl, hl, h0, h1, hw⟩
      obtain ⟨e, he⟩ : ∃ e, L - i = e + 1 := ⟨L - i - 1, by omega⟩
      have he2 : L - (i + 1) = e := by omega
      have p := pow2 e
      have ph := pow_half e
      rw [he] at h1 hw ⊢
      refine ⟨_, rfl, _, _, rfl, rfl, ⟨by decide, by decide⟩, ?_⟩
      refine ⟨_, rfl, _, rfl, _, rfl, _, _, rfl, rfl, _, _, rfl, rfl, _, rfl, ?_⟩
      rw [ph, he2]
      refine ite2 (fun c => ?_) (fun c => ?_)
      · have c2 : num < le + 2 ^ e := of_decide_eq_true c
        rw [wayW_lt (show num - le < 2 ^ e by omega)] at hw
        refine ⟨_, rfl, .inl ⟨rfl, _, SqL.of upd_same⟩, wy, _, _, rfl, rfl, upd_same, ?_, ?_⟩
        · rw [List.length_map]; exact Nat.lt_of_le_of_lt (show ws.length ≤ 1000 by omega) (small1000 (Nat.le_refl _))
        · exact ⟨le, ws ++ [0], some (.int (0 + (i : Int))), congrArg (fun q : Int => [some (V.ref b), some (V.int num), some (V.int le), some (V.int q), some (V.ref wy), some (V.int (0 + (i : Int)))]) ph, by rw [upd_upd, List.map_append] <;> rfl, by rw [List.length_append, hl] <;> rfl, h0, by omega, by rw [hw, List.append_assoc] <;> rfl⟩
      · have c2 : ¬ num < le + 2 ^ e := fun z => c (decide_eq_true z)
        rw [wayW_ge (show ¬ num - le < 2 ^ e by omega)] at hw
        refine ⟨_, rfl, .inl ⟨rfl, _, SqL.of upd_same⟩, wy, _, _, rfl, rfl, upd_same, ?_, ?_⟩
        · rw [List.length_map]; exact Nat.lt_of_le_of_lt (show ws.length ≤ 1000 by omega) (small1000 (Nat.le_refl _))
        · refine ⟨_, rfl, _, rfl, _, _, rfl, rfl, le + 2 ^ e, ws ++ [1], some (.int (0 + (i : Int))), congrArg (fun q : Int => [some (V.ref b), some (V.int num), some (V.int (le + q)), some (V.int q), some (V.ref wy), some (V.int (0 + (i : Int)))]) ph, by rw [upd_upd, List.map_append] <;> rfl, by rw [List.length_append, hl] <;> rfl, by omega, by omega, ?_⟩
          have e2 : num - (le + 2 ^ e) = num - le - 2 ^ e := by omega
          rw [hw, e2, List.append_assoc]
          rfl
    · rintro σ H2 ⟨le, ws, v, rfl, rfl, hl, h0, h1, hw⟩
      rw [Nat.sub_self] at hw
      have hw2 : wayW L (num - low) = ws := by rw [hw]; exact List.append_nil ws
      refine ⟨_, rfl, wy, _, rfl, SqL.of upd_same, fun t H' s' ht => ?_⟩
      exact q t _ ((same_new hwy _).trans s') (by rw [hw2]; exact ht)
theorem ok_many_lesser (z : Bz K mg base) : Cal P w K mg base k_many_lesser "many_lesser" ["gathering", "way"] (sp_many_lesser K) := by
  have sc := sc_many_lesser
  refine z.d_many_lesser.cal fun f fd F => F.k sc fun cdv A outer s H vs Q E hr h => ?_
  obtain ⟨ga, wy, xs, L, o, gs, rfl, hga, hg, hgd, hl, hwy, h0, h1, q⟩ := h
  refine ⟨_, (pss_cons (pst 2 sc.nd pe_int)
 (pss_cons (pst 3 sc.nd (pv 0))
 (pss_cons (ps_for PassesOwn.never rfl (pi_tup (pv 1)) (pgn 4 sc.nd)
  (pss_cons (ps_if (pt_cmpR op_eq (pv 4) pe_int (nomark _))
  (pss_one (pst 2 sc.nd (pe_op op_add (pv 2) (pe_fn (ok_many_in z) hr.m (by rfl) (pa_cons (pe_fn (ok_led z) hr.m (by rfl) (pa_cons (pv 3) (pa_cons (pe_tup (pa_cons pe_int pa_nil)) pa_nil))) pa_nil)))))
  pss_nil)
 (pss_one (pst 3 sc.nd (pe_fn (ok_led z) hr.m (by rfl) (pa_cons (pv 3) (pa_cons (pe_tup (pa_cons (pv 4) pa_nil)) pa_nil)))))))
 (pss_one (ps_ret (pv 2)))))), ?_⟩
  rw [← ml_way L o (Wh gs) h0 h1 (W_in hgd)] at q
  have hwl := wayW_len L o
  have hw01 := wayW_01 L o
  generalize wayW L o = ws at *
  refine ⟨_, rfl, ?_⟩
  refine ⟨_, rfl, wy, rfl, ⟨_, hwy⟩, for_tup (K := K) (a := wy) (xs := ws.map V.int) (fun i σ H2 => ∃ (m : Int) (pa : Addr) (zs : List V) (gs' : List G3) (v4 : Option V), σ = [some (.ref ga), some (.ref wy), some (.int m), some (.ref pa), v4] ∧ Same H H2 ∧ SqL K H2 pa zs ∧ GatAt H2 (L - i) zs gs' ∧ (∀ g ∈ gs', GoodS (L - i) g) ∧ gs'.length ≤ 100 ∧ i ≤ ws.length ∧ mlF L ws (Wh gs) = m + mlF (L - i) (ws.drop i) (Wh gs'))
    ⟨0, ga, xs, gs, none, rfl, Same.refl H, hga, hg, hgd, hl, Nat.zero_le _, by rw [List.drop_zero, Int.zero_add]; rfl⟩ (fun i σ H2 _ ⟨_, _, _, _, _, _, s2, _⟩ => s2.seqT hwy) ?_ ?_⟩
  · rintro i x σ H2 hi ⟨m, pa, zs, gs', v4, rfl, s2, hpa, hg', hgd', hl', hil, hm⟩
    obtain ⟨wv, hwv, rfl⟩ : ∃ t, ws[i]? = some t ∧ x = .int t := by
      rw [List.getElem?_map] at hi
      cases e : ws[i]? with
      | none => rw [e] at hi; cases hi
      | some m => rw [e] at hi; exact ⟨m, rfl, (Option.some.inj hi).symm⟩
    have hil2 : i < ws.length := (List.getElem?_eq_some_iff.mp hwv).1
    have hv01 := hw01 wv (List.mem_of_getElem? hwv)
    obtain ⟨e, he⟩ : ∃ e, L - i = e + 1 := ⟨L - i - 1, by omega⟩
    have he2 : L - (i + 1) = e := by omega
    rw [he] at hg' hgd' hm
    rw [drop_cons hwv, mlF] at hm
    have el : ∀ w : Int, gs'.map (ledS (e + 1) [w]) = gs'.map (led1 e w) := fun w => List.map_congr_left fun g _ => by rw [ledS_cons, ledS_empty]
    have good1 : ∀ w, ∀ g ∈ gs'.map (led1 e w), GoodS e g := fun w g hg => by
      obtain ⟨g', hg', rfl⟩ := List.mem_map.mp hg
      exact led1_good (hgd' g' hg')
    have step : ∀ (H3 : Hp), Same H2 H3 → ∀ (m' : Int), mlF L ws (Wh gs) = m' + mlF e (ws.drop (i + 1)) (halfO e wv (Wh gs')) → True := fun _ _ _ _ => trivial
    refine ⟨_, rfl, rfl, _, rfl, ?_⟩
    rcases hv01 with rfl | rfl
    · refine ite2 (fun c => absurd (V.int.inj (of_decide_eq_true c)) (by decide)) (fun _ => ?_)
      rw [if_neg (by decide), Int.zero_add] at hm
      refine ⟨_, rfl, _, rfl, szb rfl, fun w1 hw1 => ?_⟩
      have s3 := same_new hw1 (.tup [V.int 0])
      have hw1' : upd H2 w1 (.tup [V.int 0]) w1 = some (.tup [V.int 0]) := upd_same
      generalize upd H2 w1 (.tup [V.int 0]) = H3 at *
      refine ⟨pa, w1, zs, e + 1, [0], gs', rfl, s3.seq hpa, hg'.same s3, hgd', by omega, SqT.of hw1', by simp, (fun x hx => by rw [List.mem_singleton.mp hx]; exact .inl rfl), fun H4 D4 z4 s4 hD4 hD4n hg4 => ?_⟩
      rw [el] at hg4
      exact ⟨m, D4, z4, _, _, rfl, s2.trans (s3.trans s4), SqL.of hD4, by rw [he2]; exact hg4, by rw [he2]; exact good1 0, by rw [List.length_map]; exact hl', by omega, by rw [he2, W_led hgd']; exact hm⟩
    · refine ite2 (fun _ => ?_) (fun c => absurd (decide_eq_true rfl) c)
      rw [if_pos rfl] at hm
      refine ⟨_, rfl, _, rfl, szb rfl, fun w0 hw0 => ?_⟩
      have s3 := same_new hw0 (.tup [V.int 0])
      have hw0' : upd H2 w0 (.tup [V.int 0]) w0 = some (.tup [V.int 0]) := upd_same
      generalize upd H2 w0 (.tup [V.int 0]) = H3 at *
      refine ⟨pa, w0, zs, e + 1, [0], gs', rfl, s3.seq hpa, hg'.same s3, hgd', by omega, SqT.of hw0', by simp, (fun x hx => by rw [List.mem_singleton.mp hx]; exact .inl rfl), fun H4 D4 z4 s4 hD4 hD4n hg4 => ?_⟩
      rw [el] at hg4
      refine ⟨D4, z4, e, _, rfl, SqL.of hD4, hg4, by rw [List.length_map]; omega, fun H5 s5 => ⟨_, _, rfl, rfl, ?_⟩⟩
      have s25 := (s3.trans s4).trans s5
      refine ⟨_, rfl, _, rfl, szb rfl, fun w1 hw1 => ?_⟩
      have s6 := same_new hw1 (.tup [V.int 1])
      have hw1' : upd H5 w1 (.tup [V.int 1]) w1 = some (.tup [V.int 1]) := upd_same
      generalize upd H5 w1 (.tup [V.int 1]) = H6 at *
      have s26 := s25.trans s6
      refine ⟨pa, w1, zs, e + 1, [1], gs', rfl, s26.seq hpa, hg'.same s26, hgd', by omega, SqT.of hw1', by simp, (fun x hx => by rw [List.mem_singleton.mp hx]; exact .inr rfl), fun H7 D7 z7 s7 hD7 hD7n hg7 => ?_⟩
      rw [el] at hg7
      refine ⟨_, D7, z7, _, _, rfl, s2.trans (s26.trans s7), SqL.of hD7, by rw [he2]; exact hg7, by rw [he2]; exact good1 1, by rw [List.length_map]; exact hl', by omega, ?_⟩
      rw [he2, W_led hgd', manyG_W (good1 0), W_led hgd', hm]
      omega
  · rintro σ H2 ⟨m, pa, zs, gs', v4, rfl, s2, hpa, hg', hgd', hl', hil, hm⟩
    rw [List.length_map, List.drop_length] at hm
    have e0 : mlF (L - ws.length) [] (Wh gs') = 0 := by cases L - ws.length <;> rfl
    rw [e0, Int.add_zero] at hm
    rw [hm] at q
    exact ⟨_, rfl, q H2 s2⟩
theorem ok_below (z : Bz K mg base) : Cal P w K mg base k_below "below" ["bounds", "gathering", "number"] (sp_below K) := by
  have sc := sc_below
  refine z.d_below.cal fun f fd F => F.k sc fun cdv A outer s H vs Q E hr h => ?_
  obtain ⟨b, ga, xs, low, num, L, gs, rfl, hb, hL, hga, hg, hgd, hl, q⟩ := h
  refine ⟨_, (pss_cons (pst 3 sc.nd (pe_fn (ok_where z) hr.m (by rfl) (pa_cons (pv 0) (pa_cons (pv 2) pa_nil))))
 (pss_cons (ps_if (pt_cmpR op_eq (pv 3) pe_str (nomark _))
  (pss_one (ps_ret pe_int))
  pss_nil)
 (pss_cons (ps_if (pt_cmpR op_eq (pv 3) pe_str (nomark _))
  (pss_one (ps_ret (pe_fn (ok_many_in z) hr.m (by rfl) (pa_cons (pv 1) pa_nil))))
  pss_nil)
 (pss_one (ps_ret (pe_fn (ok_many_lesser z) hr.m (by rfl) (pa_cons (pv 1) (pa_cons (pe_fn (ok_way_of z) hr.m (by rfl) (pa_cons (pv 0) (pa_cons (pv 2) pa_nil))) pa_nil)))))))), ?_⟩
  have hin := W_in hgd
  have hp := p2pos L
  refine ⟨_, rfl, _, rfl, b, low, num, L, rfl, hb, hL, ?_⟩
  unfold whereS
  by_cases c1 : num < low
  · rw [if_pos c1]
    refine ⟨_, rfl, rfl, _, rfl, ite2 (fun _ => ?_) (fun c => absurd (decide_eq_true rfl) c)⟩
    have e0 : (Wh gs).countP (fun x => decide (x < num - low)) = 0 := List.countP_eq_zero.mpr fun x hx => by
      have := hin x hx
      simp
      omega
    rw [e0] at q
    exact q H (Same.refl H)
  rw [if_neg c1]
  by_cases c2 : low + 2 ^ L - 1 < num
  · rw [if_pos c2]
    refine ⟨_, rfl, rfl, _, rfl, ite2 (fun c => absurd (of_decide_eq_true c) (by decide)) (fun _ => ?_)⟩
    refine ⟨_, rfl, rfl, _, rfl, ite2 (fun _ => ?_) (fun c => absurd (decide_eq_true rfl) c)⟩
    have e0 : (Wh gs).countP (fun x => decide (x < num - low)) = (Wh gs).length := List.countP_eq_length.mpr fun x hx => by
      have := hin x hx
      exact decide_eq_true (by omega)
    rw [e0] at q
    refine ⟨_, rfl, ga, xs, L, gs, rfl, hga, hg, by omega, fun H1 s1 => ?_⟩
    rw [manyG_W hgd]
    exact q H1 s1
  rw [if_neg c2]
  refine ⟨_, rfl, rfl, _, rfl, ite2 (fun c => absurd (of_decide_eq_true c) (by decide)) (fun _ => ?_)⟩
  refine ⟨_, rfl, rfl, _, rfl, ite2 (fun c => absurd (of_decide_eq_true c) (by decide)) (fun _ => ?_)⟩
  refine ⟨_, rfl, _, rfl, _, rfl, b, low, num, L, rfl, hb, hL, ⟨by omega, by omega⟩, fun t H1 s1 ht => ?_⟩
  exact ⟨ga, t, xs, L, num - low, gs, rfl, s1.seq hga, hg.same s1, hgd, hl, ht.sq, by omega, by omega, fun H2 s2 => q H2 (s1.trans s2)⟩
theorem ok_between (z : Bz K mg base) : Cal P w K mg base k_between "between" ["bounds", "gathering", "low", "high"] (sp_between K) := by
  have sc := sc_between
  refine z.d_between.cal fun f fd F => F.k sc fun cdv A outer s H vs Q E hr h => ?_
  obtain ⟨b, ga, xs, low, lo, hi, L, gs, rfl, hb, hL, hga, hg, hgd, hl, q⟩ := h
  refine ⟨_, (pss_cons (ps_if (pt_cmpR op_gt (pv 2) (pv 3) (nomark _))
  (pss_one (ps_ret pe_int))
  pss_nil)
 (pss_one (ps_ret (pe_op op_sub (pe_fn (ok_below z) hr.m (by rfl) (pa_cons (pv 0) (pa_cons (pv 1) (pa_cons (pe_op op_add (pv 3) pe_int) pa_nil)))) (pe_fn (ok_below z) hr.m (by rfl) (pa_cons (pv 0) (pa_cons (pv 1) (pa_cons (pv 2) pa_nil)))))))), ?_⟩
  refine ⟨_, rfl, _, rfl, _, _, rfl, rfl, _, rfl, ?_⟩
  refine ite2 (fun c => ?_) (fun c => ?_)
  · have c' := of_decide_eq_true c
    have e0 : (Wh gs).countP (btw low lo hi) = 0 := List.countP_eq_zero.mpr fun x hx => by
      unfold btw
      simp
      omega
    rw [e0] at q
    exact q H (Same.refl H)
  · have c' : ¬ hi < lo := fun z => c (decide_eq_true z)
    refine ⟨_, rfl, _, rfl, _, rfl, _, _, rfl, rfl, b, ga, xs, low, hi + 1, L, gs, rfl, hb, hL, hga, hg, hgd, hl, fun H1 s1 => ?_⟩
    refine ⟨_, rfl, _, rfl, _, rfl, b, ga, xs, low, lo, L, gs, rfl, s1.seqT hb, hL, s1.seq hga, hg.same s1, hgd, hl, fun H2 s2 => ⟨_, _, rfl, rfl, ?_⟩⟩
    have q' := q H2 (s1.trans s2)
    have e0 := cnt_between (low := low) (show lo ≤ hi by omega) (Wh gs)
    have e1 : (((Wh gs).countP (fun x => decide (x < hi + 1 - low)) : Nat) : Int) - (((Wh gs).countP (fun x => decide (x < lo - low)) : Nat) : Int) = (((Wh gs).countP (btw low lo hi) : Nat) : Int) := by omega
    rw [← e1] at q'
    exact q'
end
theorem span_way : ∀ (e : Nat) (l o : Int), 0 ≤ o → o < 2 ^ e → (wayW e o).foldl stS (l, 2 ^ e) = (l + o, 1)
  | 0, l, o, h0, h1 => by
    have e1 : o = 0 := by
      have z : (2 : Int) ^ 0 = 1 := rfl
      omega
    rw [e1, Int.add_zero]
    rfl
  | e + 1, l, o, h0, h1 => by
    have p := pow2 e
    have q := pow_half e
    by_cases h : o < 2 ^ e
    · rw [wayW_lt h, List.foldl_cons]
      have z : stS (l, 2 ^ (e + 1)) 0 = (l, 2 ^ e) := by unfold stS; rw [if_neg (by decide)]; simp only [q]
      rw [z]
      exact span_way e l o h0 h
    · rw [wayW_ge h, List.foldl_cons]
      have z : stS (l, 2 ^ (e + 1)) 1 = (l + 2 ^ e, 2 ^ e) := by unfold stS; rw [if_pos rfl]; simp only [q]
      rw [z, span_way e (l + 2 ^ e) (o - 2 ^ e) (by omega) (by omega)]
      congr 1
      omega
/-! ### the so-many-th least, and sums -/
def kth : Nat → List Int → Nat → Int
  | 0, _, _ => 0
  | e + 1, us, k => if k < (halfO e 0 us).length then kth e (halfO e 0 us) k else 2 ^ e + kth e (halfO e 1 us) (k - (halfO e 0 us).length)
theorem kth_lo {e : Nat} {us : List Int} {k : Nat} (h : k < (halfO e 0 us).length) : kth (e + 1) us k = kth e (halfO e 0 us) k := by rw [kth, if_pos h]
theorem kth_hi {e : Nat} {us : List Int} {k : Nat} (h : ¬ k < (halfO e 0 us).length) : kth (e + 1) us k = 2 ^ e + kth e (halfO e 1 us) (k - (halfO e 0 us).length) := by rw [kth, if_neg h]
theorem kth_rng : ∀ (e : Nat) (us : List Int) (k : Nat), 0 ≤ kth e us k ∧ kth e us k < 2 ^ e
  | 0, us, k => ⟨Int.le_refl _, (by decide : (0 : Int) < 2 ^ 0)⟩
  | e + 1, us, k => by
    have hp := pow2 e
    have h2 := p2pos e
    by_cases c : k < (halfO e 0 us).length
    · rw [kth_lo c]
      have := kth_rng e (halfO e 0 us) k
      omega
    · rw [kth_hi c]
      have := kth_rng e (halfO e 1 us) (k - (halfO e 0 us).length)
      omega
theorem wayW_lo {e : Nat} {us : List Int} {k : Nat} (h : k < (halfO e 0 us).length) : wayW (e + 1) (kth (e + 1) us k) = 0 :: wayW e (kth e (halfO e 0 us) k) := by
  rw [kth_lo h]
  exact wayW_lt (kth_rng e _ k).2
theorem wayW_hi {e : Nat} {us : List Int} {k : Nat} (h : ¬ k < (halfO e 0 us).length) : wayW (e + 1) (kth (e + 1) us k) = 1 :: wayW e (kth e (halfO e 1 us) (k - (halfO e 0 us).length)) := by
  rw [kth_hi h, wayW_ge (by have := (kth_rng e (halfO e 1 us) (k - (halfO e 0 us).length)).1; omega)]
  have : 2 ^ e + kth e (halfO e 1 us) (k - (halfO e 0 us).length) - 2 ^ e = kth e (halfO e 1 us) (k - (halfO e 0 us).length) := by omega
  rw [this]
/-- how many lie below, by halves -/
theorem cntlt_half {e : Nat} {us : List Int} (hin : InO (e + 1) us) (o : Int) : (o ≤ 2 ^ e → us.countP (fun x => decide (x < o)) = (halfO e 0 us).countP (fun x => decide (x < o))) ∧
    (2 ^ e ≤ o → us.countP (fun x => decide (x < o)) = (halfO e 0 us).length + (halfO e 1 us).countP (fun x => decide (x < o - 2 ^ e))) := by
  have l0 : (halfO e 0 us).length = us.countP fun x => mk0 e x == 0 := by
    unfold halfO
    rw [List.length_map, List.countP_eq_length_filter]
  rw [l0, count_half, count_half]
  clear l0
  induction us with
  | nil => exact ⟨fun _ => rfl, fun _ => rfl⟩
  | cons x us ih =>
    obtain ⟨i1, i2⟩ := ih fun y hy => hin y (List.mem_cons_of_mem _ hy)
    have hx := hin x List.mem_cons_self
    rw [List.countP_cons, List.countP_cons, List.countP_cons, List.countP_cons]
    rcases mk0b e x with m | m
    · have hm := mod_mk hx.1 hx.2 m
      have hxl : x < 2 ^ e := by
        unfold mk0 at m
        by_cases z : x < 2 ^ e
        · exact z
        · rw [if_neg z] at m; omega
      have e1 : x % 2 ^ e = x := by omega
      rw [m, e1]
      refine ⟨fun h => ?_, fun h => ?_⟩
      · rw [i1 h]; simp
      · rw [i2 h]
        have : x < o := by omega
        simp [this]
        omega
    · have hm := mod_mk hx.1 hx.2 m
      have hxg : ¬ x < 2 ^ e := by
        unfold mk0 at m
        intro z
        rw [if_pos z] at m; omega
      rw [m]
      refine ⟨fun h => ?_, fun h => ?_⟩
      · rw [i1 h]
        have : ¬ x < o := by omega
        simp [this]
      · rw [i2 h]
        by_cases z : x < o
        · have z2 : x % 2 ^ e < o - 2 ^ e := by omega
          simp [z, z2]
          omega
        · have z2 : ¬ x % 2 ^ e < o - 2 ^ e := by omega
          simp [z, z2]
abbrev ltC (us : List Int) (o : Int) : Nat := us.countP fun x => decide (x < o)
theorem kth_cnt : ∀ (e : Nat) (us : List Int) (k : Nat), InO e us → k < us.length → ltC us (kth e us k) ≤ k ∧ k < ltC us (kth e us k + 1)
  | 0, us, k, hin, hk => by
    have h0 : us.countP (fun x => decide (x < (0 : Int))) = 0 := List.countP_eq_zero.mpr fun x hx => by have := hin x hx; simp; omega
    have h1 : us.countP (fun x => decide (x < (0 : Int) + 1)) = us.length := List.countP_eq_length.mpr fun x hx => by have := hin x hx; simp at this; exact decide_eq_true (by omega)
    show us.countP (fun x => decide (x < (0 : Int))) ≤ k ∧ k < us.countP (fun x => decide (x < (0 : Int) + 1))
    omega
  | e + 1, us, k, hin, hk => by
    have hs := half_sum (e := e) us
    by_cases c : k < (halfO e 0 us).length
    · rw [kth_lo c]
      have r := kth_rng e (halfO e 0 us) k
      obtain ⟨i1, i2⟩ := kth_cnt e (halfO e 0 us) k halfO_in c
      have e1 := (cntlt_half hin (kth e (halfO e 0 us) k)).1 (by omega)
      have e2 := (cntlt_half hin (kth e (halfO e 0 us) k + 1)).1 (by omega)
      unfold ltC at *
      rw [e1, e2]
      exact ⟨i1, i2⟩
    · rw [kth_hi c]
      have r := kth_rng e (halfO e 1 us) (k - (halfO e 0 us).length)
      obtain ⟨i1, i2⟩ := kth_cnt e (halfO e 1 us) (k - (halfO e 0 us).length) halfO_in (by omega)
      have e1 := (cntlt_half hin (2 ^ e + kth e (halfO e 1 us) (k - (halfO e 0 us).length))).2 (by omega)
      have e2 := (cntlt_half hin (2 ^ e + kth e (halfO e 1 us) (k - (halfO e 0 us).length) + 1)).2 (by omega)
      unfold ltC at *
      rw [e1, e2]
      have a1 : 2 ^ e + kth e (halfO e 1 us) (k - (halfO e 0 us).length) - 2 ^ e = kth e (halfO e 1 us) (k - (halfO e 0 us).length) := by omega
      have a2 : 2 ^ e + kth e (halfO e 1 us) (k - (halfO e 0 us).length) + 1 - 2 ^ e = kth e (halfO e 1 us) (k - (halfO e 0 us).length) + 1 := by omega
      rw [a1, a2]
      omega
theorem ltC_mono {us : List Int} {a b : Int} (h : a ≤ b) : ltC us a ≤ ltC us b := List.countP_mono_left fun x _ hx => decide_eq_true (by have := of_decide_eq_true hx; omega)
theorem ltC_succ (us : List Int) (o : Int) : ltC us (o + 1) = ltC us o + us.count o := by
  unfold ltC
  rw [List.count_eq_countP]
  induction us with
  | nil => rfl
  | cons x us ih =>
    rw [List.countP_cons, List.countP_cons, List.countP_cons, ih]
    by_cases c1 : x < o
    · have c2 : x < o + 1 := by omega
      have c3 : ¬ x = o := by omega
      simp only [decide_eq_true c1, decide_eq_true c2, if_true, show (x == o) = false from beq_eq_false_iff_ne.mpr c3]
      simp
      omega
    · by_cases c3 : x = o
      · have c2 : x < o + 1 := by omega
        simp only [decide_eq_false c1, decide_eq_true c2, show (x == o) = true from beq_iff_eq.mpr c3]
        simp
        omega
      · have c2 : ¬ x < o + 1 := by omega
        simp [c1, c2, c3]
/-- sums of the least -/
def sumF : Nat → Int → List Int → Nat → Int
  | 0, least, _, k => least * (k : Int)
  | e + 1, least, us, k => sumF e least (halfO e 0 us) (min k (halfO e 0 us).length) + sumF e (least + 2 ^ e) (halfO e 1 us) (k - min k (halfO e 0 us).length)
/-- led by a full way: how many -/
theorem led_full : ∀ (L : Nat) (o : Int) (gs : List G3), 0 ≤ o → o < 2 ^ L → (∀ g ∈ gs, GoodS L g) → manyG (gs.map (ledS L (wayW L o))) = ((Wh gs).count o : Nat)
  | 0, o, gs, h0, h1, hg => by
    have e0 : gs.map (ledS 0 (wayW 0 o)) = gs := by
      have : ∀ g ∈ gs, ledS 0 (wayW 0 o) g = id g := fun g _ => ledS_empty 0 g
      rw [List.map_congr_left this, List.map_id]
    rw [e0, manyG_W hg]
    have ho : o = 0 := by have : (2 : Int) ^ 0 = 1 := rfl; omega
    have hin := W_in hg
    rw [ho, List.count_eq_length.mpr fun b hb => by have := hin b hb; simp at this; omega]
  | e + 1, o, gs, h0, h1, hg => by
    have hp := pow2 e
    have good1 : ∀ w, ∀ g ∈ gs.map (led1 e w), GoodS e g := fun w g hg' => by
      obtain ⟨g', hg2, rfl⟩ := List.mem_map.mp hg'
      exact led1_good (hg g' hg2)
    have em : ∀ (w : Int) (ws : List Int), gs.map (ledS (e + 1) (w :: ws)) = (gs.map (led1 e w)).map (ledS e ws) := fun w ws => by
      rw [List.map_map]
      exact List.map_congr_left fun g _ => ledS_cons e w ws g
    by_cases c : o < 2 ^ e
    · rw [wayW_lt c, em, led_full e o _ h0 c (good1 0), W_led hg, half_count (W_in hg) (.inl rfl) h0 c]
      have : o + 0 * 2 ^ e = o := by omega
      rw [this]
    · rw [wayW_ge c, em, led_full e (o - 2 ^ e) _ (by omega) (by omega) (good1 1), W_led hg, half_count (W_in hg) (.inr rfl) (by omega) (by omega)]
      have : o - 2 ^ e + 1 * 2 ^ e = o := by omega
      rw [this]
/-- next up and down, out of the steps -/
def stp (L : Nat) (low : Int) (us : List Int) : List P2 := caF 1 0 L low us
theorem find_least {ss : List P2} {f : P2 → Bool} (hs : ss.Pairwise fun p q => p.1 < q.1) {p : P2} (hp : p ∈ ss) (hf : f p = true) (hl : ∀ q ∈ ss, f q = true → p.1 ≤ q.1) : ss.find? f = some p := by
  induction ss with
  | nil => cases hp
  | cons x ss ih =>
    rw [List.find?_cons]
    cases hx : f x with
    | true =>
      rcases List.mem_cons.mp hp with rfl | hp'
      · rfl
      · have h1 := (List.pairwise_cons.mp hs).1 p hp'
        have h2 := hl x List.mem_cons_self hx
        omega
    | false =>
      rcases List.mem_cons.mp hp with rfl | hp'
      · rw [hf] at hx; cases hx
      · exact ih (List.pairwise_cons.mp hs).2 hp' fun q hq => hl q (List.mem_cons_of_mem _ hq)
theorem ltC_le (us : List Int) (o : Int) : ltC us o ≤ us.length := List.countP_le_length
theorem up_find {L : Nat} {low num : Int} {us : List Int} (hin : InO L us) :
    (ltC us (num + 1 - low) = us.length → (stp L low us).find? (fun q => decide (num < q.1)) = none) ∧
    (ltC us (num + 1 - low) ≠ us.length → (stp L low us).find? (fun q => decide (num < q.1)) = some ((low + kth L us (ltC us (num + 1 - low)), ((us.count (kth L us (ltC us (num + 1 - low))) : Nat) : Int)) : P2)) := by
  have hle := ltC_le us (num + 1 - low)
  constructor
  · intro h
    rw [List.find?_eq_none]
    intro q hq hf
    have r := st_rng hin hq
    have hm : q.1 - low ∈ us := List.count_pos_iff.mp (by omega)
    have := List.countP_eq_length.mp h _ hm
    have := of_decide_eq_true this
    have := of_decide_eq_true hf
    omega
  · intro h
    have hk : ltC us (num + 1 - low) < us.length := by omega
    obtain ⟨c1, c2⟩ := kth_cnt L us _ hin hk
    have r := kth_rng L us (ltC us (num + 1 - low))
    generalize hko : kth L us (ltC us (num + 1 - low)) = o at *
    have hge : num + 1 - low ≤ o := by
      apply Classical.byContradiction
      intro c
      have := ltC_mono (us := us) (show o + 1 ≤ num + 1 - low by omega)
      omega
    rw [ltC_succ] at c2
    have hcnt : 0 < us.count o := by
      have := ltC_mono (us := us) hge
      omega
    refine find_least (f := fun q => decide (num < q.1)) (st_rise L low us hin) ((st_mem L low us hin _ _).mpr ⟨by rw [show low + o - low = o by omega], by omega⟩) (decide_eq_true (by show num < low + o; omega)) (fun q hq hf => ?_)
    show low + o ≤ q.1
    have rq := st_rng hin hq
    have hf' := of_decide_eq_true hf
    apply Classical.byContradiction
    intro c
    -- q.1 - low in us, between
    have h1 := ltC_mono (us := us) (show num + 1 - low ≤ q.1 - low by omega)
    have h2 := ltC_mono (us := us) (show q.1 - low + 1 ≤ o by omega)
    rw [ltC_succ] at h2
    have : 0 < us.count (q.1 - low) := by omega
    omega
theorem down_find {L : Nat} {low num : Int} {us : List Int} (hin : InO L us) :
    (ltC us (num - low) = 0 → (stp L low us).reverse.find? (fun q => decide (q.1 < num)) = none) ∧
    (ltC us (num - low) ≠ 0 → (stp L low us).reverse.find? (fun q => decide (q.1 < num)) = some ((low + kth L us (ltC us (num - low) - 1), ((us.count (kth L us (ltC us (num - low) - 1)) : Nat) : Int)) : P2)) := by
  have hle := ltC_le us (num - low)
  constructor
  · intro h
    rw [List.find?_eq_none]
    intro q hq hf
    have r := st_rng hin (List.mem_reverse.mp hq)
    have hm : q.1 - low ∈ us := List.count_pos_iff.mp (by omega)
    have := List.countP_eq_zero.mp h _ hm
    have h2 := of_decide_eq_true hf
    exact this (decide_eq_true (by omega))
  · intro h
    have hk : ltC us (num - low) - 1 < us.length := by omega
    obtain ⟨c1, c2⟩ := kth_cnt L us _ hin hk
    have r := kth_rng L us (ltC us (num - low) - 1)
    generalize hko : kth L us (ltC us (num - low) - 1) = o at *
    have hlt : o < num - low := by
      apply Classical.byContradiction
      intro c
      have := ltC_mono (us := us) (show num - low ≤ o by omega)
      omega
    rw [ltC_succ] at c2
    have hcnt : 0 < us.count o := by omega
    have hmem : ((low + o, ((us.count o : Nat) : Int)) : P2) ∈ stp L low us := (st_mem L low us hin _ _).mpr ⟨by rw [show low + o - low = o by omega], by omega⟩
    have key : ∀ {ss : List P2}, ss.Pairwise (fun p q => p.1 > q.1) → ∀ {p : P2} {f : P2 → Bool}, p ∈ ss → f p = true → (∀ q ∈ ss, f q = true → q.1 ≤ p.1) → ss.find? f = some p := by
      intro ss
      induction ss with
      | nil => intro _ p f hp; cases hp
      | cons x ss ih =>
        intro hs p f hp hf hl
        rw [List.find?_cons]
        cases hx : f x with
        | true =>
          rcases List.mem_cons.mp hp with rfl | hp'
          · rfl
          · have h1 := (List.pairwise_cons.mp hs).1 p hp'
            have h2 := hl x List.mem_cons_self hx
            omega
        | false =>
          rcases List.mem_cons.mp hp with rfl | hp'
          · rw [hf] at hx; cases hx
          · exact ih (List.pairwise_cons.mp hs).2 hp' hf fun q hq => hl q (List.mem_cons_of_mem _ hq)
    refine key (f := fun q => decide (q.1 < num)) (List.pairwise_reverse.mpr (st_rise L low us hin)) (List.mem_reverse.mpr hmem) (decide_eq_true (by show low + o < num; omega)) (fun q hq hf => ?_)
    show q.1 ≤ low + o
    have rq := st_rng hin (List.mem_reverse.mp hq)
    have hf' := of_decide_eq_true hf
    apply Classical.byContradiction
    intro c
    have h1 := ltC_mono (us := us) (show o + 1 ≤ q.1 - low by omega)
    have h2 := ltC_mono (us := us) (show q.1 - low + 1 ≤ num - low by omega)
    rw [ltC_succ] at h2
    rw [ltC_succ] at h1
    have : 0 < us.count (q.1 - low) := by omega
    omega
abbrev kb_lifted : Nat := 1
abbrev kn_lifted : Nat := 40
abbrev k_lifted : Nat := 42
inductive spe_lifted (u0 : PySem.W.Frag) (e : Nat) (vs : List V) (H : Hp) (Q : VK) (E : XK) : Prop
  | mk (v : V) (wy : Addr) (k i : Nat) (L : Nat) (os ws : List Int) (_ : vs = [v, .ref wy, .int (k : Int)]) (_ : TreeAt H v (growO L os)) (_ : TupF H wy (ws.map V.int)) (_ : ws.length = e) (_ : e ≤ L) (_ : B01 ws) (_ : InO L os) (_ : (spots L os ws)[k]? = some i) (_ : ∀ H', Same H H' → Q (.int (i : Int)) H') : spe_lifted u0 e vs H Q E
def sp_lifted (K : PySem.W.Frag) : Sp := fun vs H Q E => ∃ e, e ≤ kn_lifted ∧ spe_lifted K e vs H Q E
theorem cut_tail (w : Int) (ws : List Int) : cutV ((w :: ws).map V.int) (some 1) none = ws.map V.int := by
  unfold cutV
  have e1 : HT.sIx ((w :: ws).map V.int).length 0 (some 1) = 1 := by
    rw [List.length_map, List.length_cons]
    simp [HT.sIx]
    try omega
  rw [e1, HT.sIx_none, List.map_cons, List.drop_succ_cons, List.drop_zero, List.length_cons, Nat.add_sub_cancel]
  exact List.take_length
abbrev k_number_at : Nat := 3
inductive sp_number_at (K : PySem.W.Frag) (vs : List V) (H : Hp) (Q : VK) (E : XK) : Prop
  | mk (b : Addr) (v : V) (i : Nat) (o low : Int) (L : Nat) (os : List Int) (_ : vs = [.ref b, v, .int (i : Int)]) (_ : SqT K H b [.int low, .int (L : Int)]) (_ : L ≤ 40) (_ : TreeAt H v (growO L os)) (_ : InO L os) (_ : os[i]? = some o) (_ : ∀ H', Same H H' → Q (.int (low + o)) H') : sp_number_at K vs H Q E
def muN : St → Nat := fun σ => match σ[4]? with
  | some (some (V.int m)) => m.toNat
  | _ => 0
abbrev k_way_of_nth : Nat := 4
inductive sp_way_of_nth (K : PySem.W.Frag) (vs : List V) (H : Hp) (Q : VK) (E : XK) : Prop
  | mk (ga : Addr) (xs : List V) (L k : Nat) (gs : List G3) (_ : vs = [.int (L : Int), .ref ga, .int (k : Int)]) (_ : L ≤ 40) (_ : H ga = some (.lst xs)) (_ : GatAt H L xs gs) (_ : (∀ g ∈ gs, GoodS L g)) (_ : gs.length ≤ 100) (_ : (Wh gs).length ≤ 900) (_ : k < (Wh gs).length) (_ : ∀ t H', Same H H' → TupF H' t ((wayW L (kth L (Wh gs) k)).map V.int) → Q (.ref t) H') : sp_way_of_nth K vs H Q E
abbrev k_counted_nth : Nat := 5
inductive sp_counted_nth (K : PySem.W.Frag) (vs : List V) (H : Hp) (Q : VK) (E : XK) : Prop
  | mk (b ga : Addr) (xs : List V) (low : Int) (L k : Nat) (gs : List G3) (_ : vs = [.ref b, .ref ga, .int (k : Int)]) (_ : SqT K H b [.int low, .int (L : Int)]) (_ : L ≤ 40) (_ : H ga = some (.lst xs)) (_ : GatAt H L xs gs) (_ : (∀ g ∈ gs, GoodS L g)) (_ : gs.length ≤ 100) (_ : (Wh gs).length ≤ 900) (_ : k < (Wh gs).length) (_ : ∀ v H', Same H H' → PsR H' v (low + kth L (Wh gs) k, (((Wh gs).count (kth L (Wh gs) k) : Nat) : Int)) → Q v H') : sp_counted_nth K vs H Q E
def NxV (H : Hp) (v : V) : Option P2 → Prop
  | none => v = .non
  | some p => PsR H v p
abbrev k_next_up : Nat := 6
inductive sp_next_up (K : PySem.W.Frag) (vs : List V) (H : Hp) (Q : VK) (E : XK) : Prop
  | mk (b ga : Addr) (xs : List V) (low num : Int) (L : Nat) (gs : List G3) (_ : vs = [.ref b, .ref ga, .int num]) (_ : SqT K H b [.int low, .int (L : Int)]) (_ : L ≤ 40) (_ : H ga = some (.lst xs)) (_ : GatAt H L xs gs) (_ : (∀ g ∈ gs, GoodS L g)) (_ : gs.length ≤ 100) (_ : (Wh gs).length ≤ 900) (_ : ∀ v H', Same H H' → NxV H' v ((stp L low (Wh gs)).find? fun q => decide (num < q.1)) → Q v H') : sp_next_up K vs H Q E
abbrev k_next_down : Nat := 6
inductive sp_next_down (K : PySem.W.Frag) (vs : List V) (H : Hp) (Q : VK) (E : XK) : Prop
  | mk (b ga : Addr) (xs : List V) (low num : Int) (L : Nat) (gs : List G3) (_ : vs = [.ref b, .ref ga, .int num]) (_ : SqT K H b [.int low, .int (L : Int)]) (_ : L ≤ 40) (_ : H ga = some (.lst xs)) (_ : GatAt H L xs gs) (_ : (∀ g ∈ gs, GoodS L g)) (_ : gs.length ≤ 100) (_ : (Wh gs).length ≤ 900) (_ : ∀ v H', Same H H' → NxV H' v ((stp L low (Wh gs)).reverse.find? fun q => decide (q.1 < num)) → Q v H') : sp_next_down K vs H Q E
abbrev kb_sum_from : Nat := 3
abbrev kn_sum_from : Nat := 40
abbrev k_sum_from : Nat := 44
inductive spe_sum_from (K : PySem.W.Frag) (e : Nat) (vs : List V) (H : Hp) (Q : VK) (E : XK) : Prop
  | mk (least : Int) (pa : Addr) (xs : List V) (k : Nat) (gs : List G3) (_ : vs = [.int least, .int (2 ^ e), .ref pa, .int (k : Int)]) (_ : SqL K H pa xs) (_ : GatAt H e xs gs) (_ : (∀ g ∈ gs, GoodS e g)) (_ : gs.length ≤ 100) (_ : k ≤ 900) (_ : ∀ H', Same H H' → Q (.int (sumF e least (Wh gs) k)) H') : spe_sum_from K e vs H Q E
def sp_sum_from (K : PySem.W.Frag) : Sp := fun vs H Q E => ∃ e, e ≤ kn_sum_from ∧ spe_sum_from K e vs H Q E
abbrev k_sum_of_least : Nat := 45
inductive sp_sum_of_least (K : PySem.W.Frag) (vs : List V) (H : Hp) (Q : VK) (E : XK) : Prop
  | mk (b ga : Addr) (xs : List V) (low : Int) (L k : Nat) (gs : List G3) (_ : vs = [.ref b, .ref ga, .int (k : Int)]) (_ : SqT K H b [.int low, .int (L : Int)]) (_ : L ≤ 40) (_ : SqL K H ga xs) (_ : GatAt H L xs gs) (_ : (∀ g ∈ gs, GoodS L g)) (_ : gs.length ≤ 100) (_ : (Wh gs).length ≤ 900) (_ : k ≤ (Wh gs).length) (_ : ∀ H', Same H H' → Q (.int (sumF L low (Wh gs) k)) H') : sp_sum_of_least K vs H Q E
section
variable {P : Program} {w : World} {K : PySem.W.Frag} {mg : Str → Option Value} {base : Heap}
theorem ok_lifted (z : Bz K mg base) : Cal P w K mg base k_lifted "lifted" ["tree", "way", "place"] (sp_lifted K) := by
  have sc := sc_lifted
  refine z.d_lifted.recur (k := kb_lifted) (sp := spe_lifted K) kn_lifted fun e hen c_lifted f fd F => F.k sc fun cdv A outer s H vs Q E hr h => ?_
  obtain ⟨v, wy, k, i, L, os, ws, rfl, ht, hw, hwl, heL, h01, hin, hi, q⟩ := h
  refine ⟨_, (pss_cons (ps_if (pt_cmpR op_eq (pln z.len_ (pa_cons (pv 1) pa_nil)) pe_int (nomark _))
  (pss_cons (ps_if (PW.pt (pw_or (pt_cmpR op_lt (pv 2) pe_int (nomark _)) (pw_or1 (pt_cmpR op_ge (pv 2) (pe_fn (ok_size_of z) (hr.mono (Nat.le_trans (by decide : k_size_of ≤ kb_lifted) (Nat.le_add_left _ _))) (by rfl) (pa_cons (pv 0) pa_nil)) (nomark _)))))
  (pss_one ps_never)
  pss_nil)
 (pss_one (ps_ret (pv 2))))
  pss_nil)
 (pss_cons (pst 3 sc.nd (pe_fn c_lifted (hr.mono (Nat.le_refl _)) (by rfl) (pa_cons (pe_fn (ok_half_of z) (hr.mono (Nat.le_trans (by decide : k_half_of ≤ kb_lifted) (Nat.le_add_left _ _))) (by rfl) (pa_cons (pv 0) (pa_cons (pix ix_tup (pv 1) pe_int) pa_nil))) (pa_cons (pe_slice sl_tupF (pv 1) (po_some pe_int) po_none) (pa_cons (pv 2) pa_nil)))))
 (pss_one (ps_ret (pe_fn (ok_place_of z) (hr.mono (Nat.le_trans (by decide : k_place_of ≤ kb_lifted) (Nat.le_add_left _ _))) (by rfl) (pa_cons (pix ix_tup (pv 0) pe_int) (pa_cons (pix ix_tup (pv 1) pe_int) (pa_cons (pv 3) pa_nil)))))))), ?_⟩
  refine ⟨_, rfl, wy, _, rfl, .inr hw.sq, rfl, _, rfl, ?_⟩
  cases ws with
  | nil =>
    refine ite2 (fun _ => ?_) (fun c => absurd (decide_eq_true rfl) c)
    rw [spots_empty] at hi
    have hk : k < os.length := by
      have := (List.getElem?_eq_some_iff.mp hi).1
      rwa [List.length_range] at this
    rw [List.getElem?_range hk] at hi
    cases hi
    refine ⟨_, rfl, _, _, rfl, rfl, _, rfl, ?_⟩
    refine ite2 (fun c => absurd (of_decide_eq_true c) (by omega)) (fun _ => ?_)
    refine ⟨_, rfl, _, rfl, v, _, rfl, ht, _, _, rfl, rfl, _, rfl, ?_⟩
    rw [growO_size]
    refine ite2 (fun c => absurd (of_decide_eq_true c) (by omega)) (fun _ => ?_)
    exact ⟨_, rfl, q H (Same.refl H)⟩
  | cons w0 ws =>
    refine ite2 (fun c => ?_) (fun _ => ?_)
    · exfalso
      have := V.int.inj (of_decide_eq_true c)
      rw [List.length_map, List.length_cons] at this
      omega
    obtain ⟨e', rfl⟩ : ∃ e', e = e' + 1 := ⟨ws.length, by rw [← hwl]; rfl⟩
    obtain ⟨L', rfl⟩ : ∃ L', L = L' + 1 := ⟨L - 1, by omega⟩
    have hw0 : w0 = 0 ∨ w0 = 1 := h01 w0 (List.mem_cons_self ..)
    have h01' : B01 ws := fun m hm => h01 m (List.mem_cons_of_mem _ hm)
    have hwl' : ws.length = e' := by rw [List.length_cons] at hwl; omega
    have h0at : atI ((w0 :: ws).map V.int) 0 = some (.int w0) := by
      show atI _ ((0 : Nat) : Int) = _
      exact atI_nat rfl
    have hdn := spots_down (w := w0) (ws := ws) hin k
    rw [hi] at hdn
    cases hi2 : (spots L' (halfO L' w0 os) ws)[k]? with
    | none => rw [hi2, Option.bind_none] at hdn; cases hdn
    | some i2 =>
      rw [hi2, Option.bind_some] at hdn
      refine ⟨_, rfl, _, rfl, wy, _, _, _, rfl, rfl, hw.sq, h0at, v, _, w0, rfl, ht, hw0, fun u hu => ?_⟩
      rw [growO_half hin hw0] at hu
      refine ⟨_, rfl, 1, rfl, wy, _, rfl, hw, fun w2 H1 s1 hw2 => ⟨_, rfl, ?_⟩⟩
      rw [cut_tail] at hw2
      refine ⟨u, w2, k, i2, L', halfO L' w0 os, ws, rfl, hu.same s1, hw2, hwl', by omega, h01', halfO_in, hi2, fun H2 s2 => ?_⟩
      have s02 := s1.trans s2
      have hne : os ≠ [] := fun z => by
        rw [z] at hi2
        have e0 : halfO L' w0 [] = [] := rfl
        rw [e0, spots_nil] at hi2
        simp at hi2
      have ht2 := ht.same s02
      rw [growO_succ hne] at ht2
      obtain ⟨a, m, x, y, rfl, ha, hm, _, _⟩ := ht2
      exact ⟨_, rfl, a, _, _, _, rfl, rfl, SqT.of ha, rfl, _, rfl, wy, _, _, _, rfl, rfl, (hw.same s02).sq, h0at, _, rfl, m, os.map (mk0 L'), w0, (i2 : Int), i, rfl, hm.sq, hdn.symm, fun H3 s3 => q H3 (s02.trans s3)⟩
theorem ok_way_of_nth (z : Bz K mg base) : Cal P w K mg base k_way_of_nth "way_of_nth" ["levels", "gathering", "k"] (sp_way_of_nth K) := by
  have sc := sc_way_of_nth
  refine z.d_way_of_nth.cal fun f fd F => F.k sc fun cdv A outer s H vs Q E hr h => ?_
  obtain ⟨ga, xs, L, k, gs, rfl, hL, hga, hg, hgd, hl, hw9, hk, q⟩ := h
  refine ⟨_, (pss_cons (pst 3 sc.nd (pe_lst pa_nil))
 (pss_cons (pst 4 sc.nd (pv 1))
 (pss_cons (pst 5 sc.nd (pv 2))
 (pss_cons (ps_for PassesOwn.never rfl (pi_range1 rfl z.range_ (pa_cons (pv 0) pa_nil)) (pgn 6 sc.nd)
  (pss_cons (pst 7 sc.nd (pe_fn (ok_many_in z) hr.m (by rfl) (pa_cons (pe_fn (ok_led z) hr.m (by rfl) (pa_cons (pv 4) (pa_cons (pe_tup (pa_cons pe_int pa_nil)) pa_nil))) pa_nil)))
 (pss_cons (pst 8 sc.nd (pe_ifExp (pt_cmpR op_lt (pv 5) (pv 7) (nomark _)) pe_int pe_int))
 (pss_cons (pst 5 sc.nd (pe_op op_sub (pv 5) (pe_op op_mul (pv 8) (pv 7))))
 (pss_cons (pst 4 sc.nd (pe_fn (ok_led z) hr.m (by rfl) (pa_cons (pv 4) (pa_cons (pe_tup (pa_cons (pv 8) pa_nil)) pa_nil))))
 (pss_one (ps_expr (pe_bm PySem.F.plainAttrs_list PySem.F.slot_list_append PySem.F.type_list_append mt_append (pv 3) (pa_cons (pv 8) pa_nil)))))))))
 (pss_one (ps_ret (pe_callTy call_tupleF (by rfl) z.tuple_ bt_tuple (pa_cons (pv 3) pa_nil)))))))), ?_⟩
  refine ⟨szb rfl, fun wl hwl => ?_⟩
  have s1 := same_new hwl (.lst [])
  have hwl1 : upd H wl (.lst []) wl = some (.lst []) := upd_same
  generalize upd H wl (.lst []) = H1 at *
  have hgw : ga ≠ wl := fun z => by rw [z, hwl] at hga; cases hga
  refine ⟨_, rfl, _, rfl, _, rfl, (L : Int), rfl, by omega, by omega, for_range (n := L) (fun i σ H2 => ∃ (pa : Addr) (zs : List V) (gs' : List G3) (k' : Nat) (ws : List Int) (v6 v7 v8 : Option V), σ = [some (.int (L : Int)), some (.ref ga), some (.int (k : Int)), some (.ref wl), some (.ref pa), some (.int (k' : Int)), v6, v7, v8] ∧ Same H H2 ∧ H2 wl = some (.lst (ws.map V.int)) ∧ ws.length = i ∧ H2 pa = some (.lst zs) ∧ GatAt H2 (L - i) zs gs' ∧ (∀ g ∈ gs', GoodS (L - i) g) ∧ gs'.length ≤ 100 ∧ (Wh gs').length ≤ 900 ∧ k' < (Wh gs').length ∧ pa ≠ wl ∧
      wayW L (kth L (Wh gs) k) = ws ++ wayW (L - i) (kth (L - i) (Wh gs') k')) ⟨ga, xs, gs, k, [], none, none, none, rfl, s1, hwl1, rfl, s1 _ _ hga, hg.same s1, hgd, hl, hw9, hk, hgw, rfl⟩ ?_ ?_⟩
  · rintro i σ H2 hi ⟨pa, zs, gs', k', ws, v6, v7, v8, rfl, s2, hwl2, hwsl, hpa, hg', hgd', hl', hw9', hk', hpw, hway⟩
    obtain ⟨e, he⟩ : ∃ e, L - i = e + 1 := ⟨L - i - 1, by omega⟩
    have he2 : L - (i + 1) = e := by omega
    rw [he] at hg' hgd' hway
    have el : ∀ w : Int, gs'.map (ledS (e + 1) [w]) = gs'.map (led1 e w) := fun w => List.map_congr_left fun g _ => by rw [ledS_cons, ledS_empty]
    have good1 : ∀ w, ∀ g ∈ gs'.map (led1 e w), GoodS e g := fun w g hg => by
      obtain ⟨g', hg', rfl⟩ := List.mem_map.mp hg
      exact led1_good (hgd' g' hg')
    have hsum := half_sum (e := e) (Wh gs')
    have lenH : ∀ w : Int, (halfO e w (Wh gs')).length ≤ 900 := fun w => Nat.le_trans halfO_len hw9'
    refine ⟨_, rfl, szb rfl, fun w0 hw0 => ?_⟩
    have s3 := same_new hw0 (.tup [V.int 0])
    have hw0' : upd H2 w0 (.tup [V.int 0]) w0 = some (.tup [V.int 0]) := upd_same
    generalize upd H2 w0 (.tup [V.int 0]) = H3 at *
    refine ⟨pa, w0, zs, e + 1, [0], gs', rfl, SqL.of (s3 _ _ hpa), hg'.same s3, hgd', by omega, SqT.of hw0', by simp, (fun x hx => by rw [List.mem_singleton.mp hx]; exact .inl rfl), fun H4 D4 z4 s4 hD4 hD4n hg4 => ?_⟩
    rw [el] at hg4
    refine ⟨D4, z4, e, _, rfl, SqL.of hD4, hg4, by rw [List.length_map]; omega, fun H5 s5 => ?_⟩
    rw [manyG_W (good1 0), W_led hgd']
    have s25 := (s3.trans s4).trans s5
    refine ⟨_, rfl, _, rfl, _, _, rfl, rfl, _, rfl, ?_⟩
    refine ite2 (fun c => ?_) (fun c => ?_)
    · have c' : k' < (halfO e 0 (Wh gs')).length := by have := of_decide_eq_true c; omega
      rw [wayW_lo c'] at hway
      refine ⟨_, rfl, _, rfl, _, rfl, _, _, rfl, rfl, .inl ⟨by decide, by decide⟩, _, _, rfl, rfl, ?_⟩
      refine ⟨_, rfl, _, rfl, szb rfl, fun w1 hw1 => ?_⟩
      have s6 := same_new hw1 (.tup [V.int 0])
      have hw1' : upd H5 w1 (.tup [V.int 0]) w1 = some (.tup [V.int 0]) := upd_same
      generalize upd H5 w1 (.tup [V.int 0]) = H6 at *
      have s26 := s25.trans s6
      refine ⟨pa, w1, zs, e + 1, [0], gs', rfl, SqL.of (s26 _ _ hpa), hg'.same s26, hgd', by omega, SqT.of hw1', by simp, (fun x hx => by rw [List.mem_singleton.mp hx]; exact .inl rfl), fun H7 D7 z7 s7 hD7 hD7n hg7 => ?_⟩
      rw [el] at hg7
      have s27 := s26.trans s7
      have hwl7 := s27 _ _ hwl2
      have hD7w : D7 ≠ wl := fun z => by rw [z, s26 _ _ hwl2] at hD7n; cases hD7n
      refine ⟨_, rfl, .inl ⟨rfl, _, SqL.of hwl7⟩, _, rfl, wl, _, _, rfl, rfl, hwl7, by rw [List.length_map]; exact small1000 (by omega), ?_⟩
      have tk : TKeep H7 (upd H7 wl (.lst (ws.map V.int ++ [V.int 0]))) := .set hwl7
      refine ⟨D7, z7, gs'.map (led1 e 0), k', ws ++ [0], some (V.int (0 + (i : Int))), some (V.int ((halfO e 0 (Wh gs')).length : Nat)), some (V.int 0), ?_, same_put2 (s2.trans s27) hwl _, by rw [upd_same, List.map_append]; rfl, by rw [List.length_append, hwsl]; rfl, by rw [upd_ne hD7w]; exact hD7, by rw [he2]; exact hg7.tk tk, by rw [he2]; exact good1 0, by rw [List.length_map]; exact hl', by rw [W_led hgd']; exact lenH 0, by rw [W_led hgd']; exact c', hD7w, ?_⟩
      · have : (k' : Int) - 0 * ((halfO e 0 (Wh gs')).length : Nat) = (k' : Int) := by omega
        exact congrArg (fun q : Int => [some (V.int (L : Int)), some (V.ref ga), some (V.int (k : Int)), some (V.ref wl), some (V.ref D7), some (V.int q), some (V.int (0 + (i : Int))), some (V.int ((halfO e 0 (Wh gs')).length : Nat)), some (V.int 0)]) this
      · rw [hway, he2, W_led hgd', List.append_assoc]; rfl
    · have c' : ¬ k' < (halfO e 0 (Wh gs')).length := fun z => c (decide_eq_true (by omega))
      rw [wayW_hi c'] at hway
      refine ⟨_, rfl, _, rfl, _, rfl, _, _, rfl, rfl, .inl ⟨by decide, by decide⟩, _, _, rfl, rfl, ?_⟩
      refine ⟨_, rfl, _, rfl, szb rfl, fun w1 hw1 => ?_⟩
      have s6 := same_new hw1 (.tup [V.int 1])
      have hw1' : upd H5 w1 (.tup [V.int 1]) w1 = some (.tup [V.int 1]) := upd_same
      generalize upd H5 w1 (.tup [V.int 1]) = H6 at *
      have s26 := s25.trans s6
      refine ⟨pa, w1, zs, e + 1, [1], gs', rfl, SqL.of (s26 _ _ hpa), hg'.same s26, hgd', by omega, SqT.of hw1', by simp, (fun x hx => by rw [List.mem_singleton.mp hx]; exact .inr rfl), fun H7 D7 z7 s7 hD7 hD7n hg7 => ?_⟩
      rw [el] at hg7
      have s27 := s26.trans s7
      have hwl7 := s27 _ _ hwl2
      have hD7w : D7 ≠ wl := fun z => by rw [z, s26 _ _ hwl2] at hD7n; cases hD7n
      refine ⟨_, rfl, .inl ⟨rfl, _, SqL.of hwl7⟩, _, rfl, wl, _, _, rfl, rfl, hwl7, by rw [List.length_map]; exact small1000 (by omega), ?_⟩
      have tk : TKeep H7 (upd H7 wl (.lst (ws.map V.int ++ [V.int 1]))) := .set hwl7
      refine ⟨D7, z7, gs'.map (led1 e 1), k' - (halfO e 0 (Wh gs')).length, ws ++ [1], some (V.int (0 + (i : Int))), some (V.int ((halfO e 0 (Wh gs')).length : Nat)), some (V.int 1), ?_, same_put2 (s2.trans s27) hwl _, by rw [upd_same, List.map_append]; rfl, by rw [List.length_append, hwsl]; rfl, by rw [upd_ne hD7w]; exact hD7, by rw [he2]; exact hg7.tk tk, by rw [he2]; exact good1 1, by rw [List.length_map]; exact hl', by rw [W_led hgd']; exact lenH 1, by rw [W_led hgd']; omega, hD7w, ?_⟩
      · have : (k' : Int) - 1 * ((halfO e 0 (Wh gs')).length : Nat) = ((k' - (halfO e 0 (Wh gs')).length : Nat) : Int) := by omega
        exact congrArg (fun q : Int => [some (V.int (L : Int)), some (V.ref ga), some (V.int (k : Int)), some (V.ref wl), some (V.ref D7), some (V.int q), some (V.int (0 + (i : Int))), some (V.int ((halfO e 0 (Wh gs')).length : Nat)), some (V.int 1)]) this
      · rw [hway, he2, W_led hgd', List.append_assoc]; rfl
  · rintro σ H2 ⟨pa, zs, gs', k', ws, v6, v7, v8, rfl, s2, hwl2, hwsl, hpa, hg', hgd', hl', hw9', hk', hpw, hway⟩
    rw [Nat.sub_self] at hway
    have hw2 : wayW L (kth L (Wh gs) k) = ws := by rw [hway]; exact List.append_nil ws
    rw [hw2] at q
    exact ⟨_, rfl, wl, _, rfl, SqL.of hwl2, fun t H' s' ht => q t H' (s2.trans s') ht⟩
theorem ok_counted_nth (z : Bz K mg base) : Cal P w K mg base k_counted_nth "counted_nth" ["bounds", "gathering", "k"] (sp_counted_nth K) := by
  have sc := sc_counted_nth
  refine z.d_counted_nth.cal fun f fd F => F.k sc fun cdv A outer s H vs Q E hr h => ?_
  obtain ⟨b, ga, xs, low, L, k, gs, rfl, hb, hL, hga, hg, hgd, hl, hw9, hk, q⟩ := h
  refine ⟨_, (pss_cons (pst 3 sc.nd (pe_fn (ok_way_of_nth z) hr.m (by rfl) (pa_cons (pix ix_tup (pv 0) pe_int) (pa_cons (pv 1) (pa_cons (pv 2) pa_nil)))))
 (pss_one (ps_ret (pe_tup (pa_cons (pix ix_tup (pe_fn (ok_span_of z) hr.m (by rfl) (pa_cons (pv 0) (pa_cons (pv 3) pa_nil))) pe_int) (pa_cons (pe_fn (ok_many_in z) hr.m (by rfl) (pa_cons (pe_fn (ok_led z) hr.m (by rfl) (pa_cons (pv 1) (pa_cons (pv 3) pa_nil))) pa_nil)) pa_nil)))))), ?_⟩
  have r := kth_rng L (Wh gs) k
  refine ⟨_, rfl, b, _, _, _, rfl, rfl, hb, rfl, _, rfl, _, rfl, ga, xs, L, k, gs, rfl, hL, hga, hg, hgd, hl, hw9, hk, fun t H1 s1 ht => ?_⟩
  generalize kth L (Wh gs) k = o at *
  refine ⟨_, rfl, _, rfl, b, t, low, L, wayW L o, rfl, s1.seqT hb, hL, ht.sq, fun p hp => ?_⟩
  have hsp : spanS low L (wayW L o) = (low + o, 1) := span_way L low o r.1 r.2
  rw [hsp]
  have s2 := same_new hp (.tup [V.int (low + o), .int (low + o + 1 - 1)])
  have hp2 : upd H1 p (.tup [V.int (low + o), .int (low + o + 1 - 1)]) p = some (.tup [V.int (low + o), .int (low + o + 1 - 1)]) := upd_same
  dsimp only
  generalize upd H1 p (.tup [V.int (low + o), .int (low + o + 1 - 1)]) = H2 at *
  have s02 := s1.trans s2
  refine ⟨p, _, _, _, rfl, rfl, SqT.of hp2, rfl, ?_⟩
  refine ⟨_, rfl, _, rfl, ga, t, xs, L, wayW L o, gs, rfl, SqL.of (s02 _ _ hga), hg.same s02, hgd, by omega, (ht.same s2).sq, by rw [wayW_len]; exact Nat.le_refl _, wayW_01 L o, fun H3 D3 z3 s3 hD3 _ hg3 => ?_⟩
  refine ⟨D3, z3, _, _, rfl, SqL.of hD3, hg3, by rw [List.length_map]; omega, fun H4 s4 => ?_⟩
  rw [led_full L o gs r.1 r.2 hgd]
  exact ⟨szb rfl, fun v hv => q _ _ (((s02.trans s3).trans s4).trans (same_new hv _)) ⟨v, rfl, upd_same⟩⟩
theorem ok_next_up (z : Bz K mg base) : Cal P w K mg base k_next_up "next_up" ["bounds", "gathering", "number"] (sp_next_up K) := by
  have sc := sc_next_up
  refine z.d_next_up.cal fun f fd F => F.k sc fun cdv A outer s H vs Q E hr h => ?_
  obtain ⟨b, ga, xs, low, num, L, gs, rfl, hb, hL, hga, hg, hgd, hl, hw9, q⟩ := h
  refine ⟨_, (pss_cons (pst 3 sc.nd (pe_fn (ok_below z) hr.m (by rfl) (pa_cons (pv 0) (pa_cons (pv 1) (pa_cons (pe_op op_add (pv 2) pe_int) pa_nil)))))
 (pss_cons (ps_if (pt_cmpR op_eq (pv 3) (pe_fn (ok_many_in z) hr.m (by rfl) (pa_cons (pv 1) pa_nil)) (nomark _))
  (pss_one (ps_ret pe_non))
  pss_nil)
 (pss_one (ps_ret (pe_fn (ok_counted_nth z) hr.m (by rfl) (pa_cons (pv 0) (pa_cons (pv 1) (pa_cons (pv 3) pa_nil)))))))), ?_⟩
  obtain ⟨u1, u2⟩ := up_find (L := L) (low := low) (num := num) (W_in hgd)
  have hle := ltC_le (Wh gs) (num + 1 - low)
  refine ⟨_, rfl, _, rfl, _, rfl, _, _, rfl, rfl, b, ga, xs, low, num + 1, L, gs, rfl, hb, hL, SqL.of hga, hg, hgd, hl, fun H1 s1 => ?_⟩
  change ∀ v H', Same H H' → NxV H' v _ → Q v H' at q
  refine ⟨_, rfl, _, rfl, ga, xs, L, gs, rfl, SqL.of (s1 _ _ hga), hg.same s1, by omega, fun H2 s2 => ?_⟩
  rw [manyG_W hgd]
  refine ⟨rfl, _, rfl, ?_⟩
  by_cases c : ltC (Wh gs) (num + 1 - low) = (Wh gs).length
  · rw [u1 c] at q
    refine ite2 (fun _ => q .non H2 (s1.trans s2) rfl) (fun c2 => absurd (decide_eq_true (by show V.int ((ltC (Wh gs) (num + 1 - low) : Nat) : Int) = _; rw [c])) c2)
  · rw [u2 c] at q
    refine ite2 (fun c2 => absurd (by have := V.int.inj (of_decide_eq_true c2); unfold ltC; omega) c) (fun _ => ?_)
    have s02 := s1.trans s2
    exact ⟨_, rfl, _, rfl, _, rfl, b, ga, xs, low, L, ltC (Wh gs) (num + 1 - low), gs, rfl, s02.seqT hb, hL, s02 _ _ hga, hg.same s02, hgd, hl, hw9, by omega, fun v H3 s3 hv => q v H3 (s02.trans s3) hv⟩
theorem ok_next_down (z : Bz K mg base) : Cal P w K mg base k_next_down "next_down" ["bounds", "gathering", "number"] (sp_next_down K) := by
  have sc := sc_next_down
  refine z.d_next_down.cal fun f fd F => F.k sc fun cdv A outer s H vs Q E hr h => ?_
  obtain ⟨b, ga, xs, low, num, L, gs, rfl, hb, hL, hga, hg, hgd, hl, hw9, q⟩ := h
  refine ⟨_, (pss_cons (pst 3 sc.nd (pe_op op_sub (pe_fn (ok_below z) hr.m (by rfl) (pa_cons (pv 0) (pa_cons (pv 1) (pa_cons (pv 2) pa_nil)))) pe_int))
 (pss_cons (ps_if (pt_cmpR op_lt (pv 3) pe_int (nomark _))
  (pss_one (ps_ret pe_non))
  pss_nil)
 (pss_one (ps_ret (pe_fn (ok_counted_nth z) hr.m (by rfl) (pa_cons (pv 0) (pa_cons (pv 1) (pa_cons (pv 3) pa_nil)))))))), ?_⟩
  obtain ⟨u1, u2⟩ := down_find (L := L) (low := low) (num := num) (W_in hgd)
  have hle := ltC_le (Wh gs) (num - low)
  refine ⟨_, rfl, _, rfl, _, rfl, b, ga, xs, low, num, L, gs, rfl, hb, hL, SqL.of hga, hg, hgd, hl, fun H1 s1 => ⟨_, _, rfl, rfl, ?_⟩⟩
  change ∀ v H', Same H H' → NxV H' v _ → Q v H' at q
  refine ⟨_, rfl, _, _, rfl, rfl, _, rfl, ?_⟩
  by_cases c : ltC (Wh gs) (num - low) = 0
  · rw [u1 c] at q
    exact ite2 (fun _ => q .non H1 s1 rfl) (fun c2 => absurd (decide_eq_true (by show ((ltC (Wh gs) (num - low) : Nat) : Int) - 1 < 0; omega)) c2)
  · rw [u2 c] at q
    refine ite2 (fun c2 => absurd (show ((ltC (Wh gs) (num - low) : Nat) : Int) - 1 < 0 from of_decide_eq_true c2) (by omega)) (fun _ => ?_)
    refine ⟨_, rfl, _, rfl, _, rfl, b, ga, xs, low, L, ltC (Wh gs) (num - low) - 1, gs, ?_, s1.seqT hb, hL, s1 _ _ hga, hg.same s1, hgd, hl, hw9, by omega, fun v H3 s3 hv => q v H3 (s1.trans s3) hv⟩
    exact congrArg (fun q : Int => [V.ref b, V.ref ga, V.int q]) (show ((ltC (Wh gs) (num - low) : Nat) : Int) - 1 = ((ltC (Wh gs) (num - low) - 1 : Nat) : Int) by omega)
end
theorem inW_way : ∀ (L : Nat) (o x : Int), 0 ≤ o → o < 2 ^ L → 0 ≤ x → x < 2 ^ L → inW L x (wayW L o) = decide (x = o)
  | 0, o, x, h0, h1, h2, h3 => by
    have : (2 : Int) ^ 0 = 1 := rfl
    rw [decide_eq_true (by omega)]
    rfl
  | e + 1, o, x, h0, h1, h2, h3 => by
    have p := pow2 e
    have hp := p2pos e
    by_cases c : o < 2 ^ e
    · rw [wayW_lt c, inW_step ⟨h2, h3⟩]
      rcases mk0b e x with m | m
      · have mm := mod_mk h2 h3 m
        have r0 := Int.emod_nonneg x (show (2 : Int) ^ e ≠ 0 by omega)
        have r1 := Int.emod_lt_of_pos x hp
        rw [m, inW_way e o (x % 2 ^ e) h0 c r0 r1]
        have : x % 2 ^ e = x := by omega
        rw [this]
        rfl
      · have mm := mod_mk h2 h3 m
        have r0 := Int.emod_nonneg x (show (2 : Int) ^ e ≠ 0 by omega)
        rw [m, decide_eq_false (by omega)]
        rfl
    · rw [wayW_ge c, inW_step ⟨h2, h3⟩]
      have r0 := Int.emod_nonneg x (show (2 : Int) ^ e ≠ 0 by omega)
      have r1 := Int.emod_lt_of_pos x hp
      rcases mk0b e x with m | m
      · have mm := mod_mk h2 h3 m
        rw [m, decide_eq_false (by omega)]
        rfl
      · have mm := mod_mk h2 h3 m
        rw [m, inW_way e (o - 2 ^ e) (x % 2 ^ e) (by omega) (by omega) r0 r1]
        by_cases z : x = o
        · rw [decide_eq_true z, decide_eq_true (by omega)]
          rfl
        · rw [decide_eq_false z, decide_eq_false (by omega)]
          rfl
theorem C_sel2 {q : Int → Bool} {os : List Int} {s t : Nat} (h : s ≤ t) : (os.take s).countP q + (sel (os, s, t)).countP q = (os.take t).countP q := by
  have e : os.take t = os.take s ++ sel (os, s, t) := by
    unfold sel
    have := (List.take_append_drop s (os.take t)).symm
    rw [List.take_take, Nat.min_eq_left h] at this
    exact this
  rw [e, List.countP_append]
theorem Wh_one (g : G3) : Wh [g] = sel g := by unfold Wh; rw [List.flatMap_cons, List.flatMap_nil, List.append_nil]
theorem cnt_q (us : List Int) (o : Int) : us.count o = us.countP fun x => decide (x = o) := by
  rw [List.count_eq_countP]
  refine List.countP_congr fun x _ => ?_
  rw [beq_iff_eq, decide_eq_true_eq]
/-- the place of the so-many-th like one of a stretch -/
theorem lift_at {L : Nat} {g : G3} {o : Int} {left : Nat} (hg : GoodS L g) (h0 : 0 ≤ o) (h1 : o < 2 ^ L) (hl : left < (sel g).count o) :
    ∃ i, (spots L g.1 (wayW L o))[(ledS L (wayW L o) g).2.1 + left]? = some i ∧ g.2.1 ≤ i ∧ i < g.2.2 ∧ g.1[i]? = some o ∧ (sel (g.1, g.2.1, i)).count o = left := by
  obtain ⟨os, s, t⟩ := g
  obtain ⟨hin, hst, htl, _⟩ := hg
  change s ≤ t at hst
  change t ≤ os.length at htl
  have hq : ∀ x ∈ os, inW L x (wayW L o) = decide (x = o) := fun x hx => inW_way L o x h0 h1 (hin x hx).1 (hin x hx).2
  have hs : spots L os (wayW L o) = idxs (fun x => decide (x = o)) os := idxs_congr hq
  have hcc : ∀ k, (os.take k).countP (fun x => inW L x (wayW L o)) = (os.take k).countP fun x => decide (x = o) := fun k => List.countP_congr fun x hx => by rw [hq x (List.mem_of_mem_take hx)]
  have hled : (ledS L (wayW L o) (os, s, t)).2.1 = (os.take s).countP fun x => decide (x = o) := by
    rcases ledS_sel L (wayW L o) os s t (by rw [wayW_len]; exact Nat.le_refl _) hin with e | e | e
    · rw [e]; exact hcc s
    · omega
    · omega
  rw [cnt_q] at hl
  have c1 := C_sel2 (q := fun x => decide (x = o)) (os := os) hst
  have c2 := cnt_mono (q := fun x => decide (x = o)) os htl
  rw [List.take_of_length_le (Nat.le_refl os.length)] at c2
  have hlen : (idxs (fun x => decide (x = o)) os).length = os.countP fun x => decide (x = o) := by
    have := congrArg List.length (idxs_vals (p := fun x => decide (x = o)) os)
    rw [List.length_map] at this
    rw [this, List.countP_eq_length_filter]
  have hk : (os.take s).countP (fun x => decide (x = o)) + left < (idxs (fun x => decide (x = o)) os).length := by omega
  obtain ⟨i, hi⟩ : ∃ i, (idxs (fun x => decide (x = o)) os)[(os.take s).countP (fun x => decide (x = o)) + left]? = some i := ⟨_, List.getElem?_eq_getElem hk⟩
  obtain ⟨o', k1, k2, k3⟩ := idxs_get os _ i hi
  have eo : o' = o := of_decide_eq_true k2
  subst eo
  have hsi : s ≤ i := by
    apply Classical.byContradiction
    intro c
    have m := cnt_mono (q := fun x => decide (x = o')) os (show i + 1 ≤ s by omega)
    rw [cnt_step k1 k2] at m
    omega
  have hit : i < t := by
    apply Classical.byContradiction
    intro c
    have m := cnt_mono (q := fun x => decide (x = o')) os (show t ≤ i by omega)
    omega
  refine ⟨i, ?_, hsi, hit, k1, ?_⟩
  · show (spots L os (wayW L o'))[(ledS L (wayW L o') (os, s, t)).2.1 + left]? = some i
    rw [hs, hled]
    exact hi
  · show (sel (os, s, i)).count o' = left
    rw [cnt_q]
    have c3 := C_sel2 (q := fun x => decide (x = o')) (os := os) hsi
    omega
def Thing (gs : List G3) (o : Int) (num j pl : Nat) : Prop := ∃ g, gs[j]? = some g ∧ g.2.1 ≤ pl ∧ pl < g.2.2 ∧ g.1[pl]? = some o ∧ num = (Wh (gs.take j ++ [(g.1, g.2.1, pl)])).count o
theorem Wh_take {gs : List G3} {j : Nat} {g : G3} (h : gs[j]? = some g) : Wh (gs.take (j + 1)) = Wh (gs.take j) ++ sel g := by
  rw [List.take_add_one, h]
  show Wh (gs.take j ++ [g]) = _
  rw [W_app, Wh_one]
theorem gat_one {H : Hp} {L : Nat} {v : V} {g : G3} (h : StrAt H L v g) : GatAt H L [v] [g] := (GatAt.nil H L).snoc h
abbrev k_nth_alike : Nat := 43
inductive sp_nth_alike (u0 : PySem.W.Frag) (vs : List V) (H : Hp) (Q : VK) (E : XK) : Prop
  | mk (ga wy : Addr) (xs : List V) (L num : Nat) (o : Int) (gs : List G3) (_ : vs = [.ref ga, .ref wy, .int (num : Int)]) (_ : L ≤ 40) (_ : H ga = some (.lst xs)) (_ : GatAt H L xs gs) (_ : (∀ g ∈ gs, GoodS L g)) (_ : gs.length ≤ 100) (_ : TupF H wy ((wayW L o).map V.int)) (_ : 0 ≤ o) (_ : o < 2 ^ L) (_ : num < (Wh gs).count o) (_ : ∀ (p : Addr) (j pl : Nat) (H' : Hp), Same H H' → H' p = some (.tup [.int (j : Int), .int (pl : Int)]) → Thing gs o num j pl → Q (.ref p) H') : sp_nth_alike u0 vs H Q E
abbrev k_nth_least : Nat := 44
inductive sp_nth_least (K : PySem.W.Frag) (vs : List V) (H : Hp) (Q : VK) (E : XK) : Prop
  | mk (b ga : Addr) (xs : List V) (low : Int) (L k : Nat) (gs : List G3) (_ : vs = [.ref b, .ref ga, .int (k : Int)]) (_ : SqT K H b [.int low, .int (L : Int)]) (_ : L ≤ 40) (_ : H ga = some (.lst xs)) (_ : GatAt H L xs gs) (_ : (∀ g ∈ gs, GoodS L g)) (_ : gs.length ≤ 100) (_ : (Wh gs).length ≤ 900) (_ : k < (Wh gs).length) (_ : ∀ (p : Addr) (j pl : Nat) (H' : Hp), Same H H' → SqT K H' p [.int (low + kth L (Wh gs) k), .int (j : Int), .int (pl : Int)] → Thing gs (kth L (Wh gs) k) (k - ltC (Wh gs) (kth L (Wh gs) k)) j pl → Q (.ref p) H') : sp_nth_least K vs H Q E
abbrev k_rank_of : Nat := 5
inductive sp_rank_of (K : PySem.W.Frag) (vs : List V) (H : Hp) (Q : VK) (E : XK) : Prop
  | mk (b ga : Addr) (xs : List V) (low o : Int) (L j pl : Nat) (gs : List G3) (g : G3) (_ : vs = [.ref b, .ref ga, .int (j : Int), .int (pl : Int)]) (_ : SqT K H b [.int low, .int (L : Int)]) (_ : L ≤ 40) (_ : H ga = some (.lst xs)) (_ : GatAt H L xs gs) (_ : (∀ g ∈ gs, GoodS L g)) (_ : gs.length ≤ 90) (_ : gs[j]? = some g) (_ : g.2.1 ≤ pl) (_ : pl < g.2.2) (_ : g.1[pl]? = some o) (_ : ∀ H', Same H H' → Q (.int (((ltC (Wh gs) o : Nat) : Int) + (((Wh (gs.take j ++ [(g.1, g.2.1, pl)])).count o : Nat) : Int))) H') : sp_rank_of K vs H Q E
def muJ (n : Nat) : St → Nat := fun σ => match σ[5]? with
  | some (some (V.int m)) => n - m.toNat
  | _ => 0
section
variable {P : Program} {w : World} {K : PySem.W.Frag} {mg : Str → Option Value} {base : Heap}
end
section
variable {P : Program} {w : World} {K : PySem.W.Frag} {mg : Str → Option Value} {base : Heap}
theorem ok_nth_alike (z : Bz K mg base) : Cal P w K mg base k_nth_alike "nth_alike" ["gathering", "way", "number"] (sp_nth_alike K) := by
  have sc := sc_nth_alike
  refine z.d_nth_alike.cal fun f fd F => F.k sc fun cdv A outer s H vs Q E hr h => ?_
  obtain ⟨ga, wy, xs, L, num, o, gs, rfl, hL, hga, hg, hgd, hl, hwy, h0, h1, hnum, q⟩ := h
  refine ⟨_, (pss_cons (pst 3 sc.nd (pe_fn (ok_led z) hr.m (by rfl) (pa_cons (pv 0) (pa_cons (pv 1) pa_nil))))
 (pss_cons (pst 4 sc.nd (pv 2))
 (pss_cons (pst 5 sc.nd pe_int)
 (pss_cons (ps_while PassesOwn.never (pt_cmpR op_ge (pv 4) (pe_fn (ok_many_in z) hr.m (by rfl) (pa_cons (pe_lst (pa_cons (pix ix_list (pv 3) (pv 5)) pa_nil)) pa_nil)) (nomark _))
  (pss_cons (pst 4 sc.nd (pe_op op_sub (pv 4) (pe_fn (ok_many_in z) hr.m (by rfl) (pa_cons (pe_lst (pa_cons (pix ix_list (pv 3) (pv 5)) pa_nil)) pa_nil))))
 (pss_one (pst 5 sc.nd (pe_op op_add (pv 5) pe_int)))))
 (pss_one (ps_ret (pe_tup (pa_cons (pv 5) (pa_cons (pe_fn (ok_lifted z) hr.m (by rfl) (pa_cons (pix ix_tup (pix ix_list (pv 0) (pv 5)) pe_int) (pa_cons (pv 1) (pa_cons (pe_op op_add (pix ix_tup (pix ix_list (pv 3) (pv 5)) pe_int) (pv 4)) pa_nil)))) pa_nil))))))))), ?_⟩
  have hwl := wayW_len L o
  refine ⟨_, rfl, _, rfl, ga, wy, xs, L, wayW L o, gs, rfl, SqL.of hga, hg, hgd, by omega, hwy.sq, by omega, wayW_01 L o, fun H1 D zs s1 hD _ hg1 => ?_⟩
  rw [hwl, Nat.sub_self] at hg1
  have one : ∀ g ∈ gs, manyG [ledS L (wayW L o) g] = ((sel g).count o : Nat) := fun g hgm => by
    have := led_full L o [g] h0 h1 (fun x hx => by rw [List.mem_singleton.mp hx]; exact hgd g hgm)
    rw [Wh_one] at this
    exact this
  have hjlt : ∀ (j left : Nat), left + (Wh (gs.take j)).count o = num → j < gs.length := fun j left e => by
    apply Classical.byContradiction
    intro c
    rw [List.take_of_length_le (by omega)] at e
    omega
  refine ⟨_, rfl, ?_⟩
  have at1 : ∀ j : Nat, j < gs.length → ∃ g z t t' u u', gs[j]? = some g ∧ zs[j]? = some z ∧ z = V.ref t' ∧ H1 t' = some (.tup [u', .int ((ledS L (wayW L o) g).2.1 : Int), .int ((ledS L (wayW L o) g).2.2 : Int)]) ∧ StrAt H1 0 z (ledS L (wayW L o) g) ∧ xs[j]? = some (V.ref t) ∧ H t = some (.tup [u, .int (g.2.1 : Int), .int (g.2.2 : Int)]) ∧ TreeAt H u (growO L g.1) := by
    intro j hj
    have gj : gs[j]? = some gs[j] := List.getElem?_eq_getElem hj
    have hjz : j < zs.length := by rw [hg1.1, List.length_map]; exact hj
    have hjx : j < xs.length := by rw [hg.1]; exact hj
    have gz := List.getElem?_eq_getElem hjz
    have gx := List.getElem?_eq_getElem hjx
    have hstr := hg1.2 j _ _ gz (by rw [List.getElem?_map, gj]; rfl)
    obtain ⟨t', u', e1, e2, e3⟩ := id hstr
    obtain ⟨t, u, f1, f2, f3⟩ := hg.2 j _ _ gx gj
    rw [f1] at gx
    exact ⟨_, _, t, t', u, u', gj, gz, e1, e2, hstr, gx, f2, f3⟩
  refine while_by (fun σ H2 => ∃ (left j : Nat), σ = [some (.ref ga), some (.ref wy), some (.int (num : Int)), some (.ref D), some (.int (left : Int)), some (.int (j : Int))] ∧ Same H1 H2 ∧ left + (Wh (gs.take j)).count o = num) (fun σ _ => muJ gs.length σ)
    ⟨num, 0, rfl, Same.refl _, rfl⟩ ?_ ?_
  · rintro σ H2 ⟨left, j, rfl, s2, hinv⟩
    have hj := hjlt j left hinv
    obtain ⟨g, z, t, t', u, u', gj, gz, e1, e2, hstr, gx, f2, f3⟩ := at1 j hj
    have hgm := List.mem_of_getElem? gj
    have hwt := Wh_take gj
    refine ⟨_, rfl, _, rfl, _, rfl, D, _, _, _, rfl, rfl, SqL.of (s2 _ _ hD), atI_nat gz, szb rfl, fun l1 hl1 => ?_⟩
    have s3 := same_new hl1 (.lst [z])
    have hl1' : upd H2 l1 (.lst [z]) l1 = some (.lst [z]) := upd_same
    generalize upd H2 l1 (.lst [z]) = H3 at *
    have s13 := s2.trans s3
    refine ⟨l1, [z], 0, [ledS L (wayW L o) g], rfl, SqL.of hl1', gat_one (hstr.tk (.same s13)), by simp, fun H4 s4 => ?_⟩
    rw [one g hgm]
    refine ⟨_, _, rfl, rfl, _, rfl, ?_⟩
    have s14 := s13.trans s4
    refine ite2 (fun c => ?_) (fun c => ?_)
    · have c' : (sel g).count o ≤ left := by have := of_decide_eq_true c; omega
      refine ⟨_, rfl, _, rfl, _, rfl, D, _, _, _, rfl, rfl, SqL.of (s14 _ _ hD), atI_nat gz, szb rfl, fun l2 hl2 => ?_⟩
      have s5 := same_new hl2 (.lst [z])
      have hl2' : upd H4 l2 (.lst [z]) l2 = some (.lst [z]) := upd_same
      generalize upd H4 l2 (.lst [z]) = H5 at *
      have s15 := s14.trans s5
      refine ⟨l2, [z], 0, [ledS L (wayW L o) g], rfl, SqL.of hl2', gat_one (hstr.tk (.same s15)), by simp, fun H6 s6 => ?_⟩
      rw [one g hgm]
      refine ⟨_, _, rfl, rfl, _, rfl, _, _, rfl, rfl, ⟨left - (sel g).count o, j + 1, ?_, s15.trans s6, ?_⟩, ?_⟩
      · have a1 : (left : Int) - ((sel g).count o : Nat) = ((left - (sel g).count o : Nat) : Int) := by omega
        have a2 : (j : Int) + 1 = ((j + 1 : Nat) : Int) := by omega
        show [some (V.ref ga), some (V.ref wy), some (V.int (num : Int)), some (V.ref D), some (V.int ((left : Int) - ((sel g).count o : Nat))), some (V.int ((j : Int) + 1))] = _
        rw [a1, a2]
      · rw [hwt, List.count_append]; omega
      · show gs.length - ((j : Int) + 1).toNat < gs.length - ((j : Int)).toNat
        omega
    · have c' : left < (sel g).count o := by
        apply Classical.byContradiction
        intro z2
        exact c (decide_eq_true (by omega))
      obtain ⟨i, k1, k2, k3, k4, k5⟩ := lift_at (hgd g hgm) h0 h1 c'
      have s04 := s1.trans s14
      refine ⟨_, rfl, _, rfl, _, rfl, ga, _, _, _, rfl, rfl, SqL.of (s04 _ _ hga), atI_nat gx, t, _, _, _, rfl, rfl, SqT.of (s04 _ _ f2), rfl, _, rfl, _, rfl, _, rfl, D, _, _, _, rfl, rfl, SqL.of (s14 _ _ hD), atI_nat gz, ?_⟩
      rw [e1]
      refine ⟨t', _, _, _, rfl, rfl, SqT.of (s14 _ _ e2), rfl, _, rfl, _, _, rfl, rfl, ?_⟩
      refine ⟨L, hL, u, wy, (ledS L (wayW L o) g).2.1 + left, i, L, g.1, wayW L o, ?_, f3.same s04, hwy.same s04, hwl, Nat.le_refl _, wayW_01 L o, (hgd g hgm).1, k1, fun H5 s5 => ⟨szb rfl, fun p hp => ?_⟩⟩
      · exact congrArg (fun q : Int => [u, V.ref wy, V.int q]) (show ((ledS L (wayW L o) g).2.1 : Int) + (left : Int) = (((ledS L (wayW L o) g).2.1 + left : Nat) : Int) by omega)
      refine q p j i _ ((s04.trans s5).trans (same_new hp _)) upd_same ⟨g, gj, k2, k3, k4, ?_⟩
      rw [W_app, Wh_one, List.count_append, k5]
      omega
  · rintro σ H2 Q1 Q2 hq ⟨_, e0, _, e1, _, e2, a, us, i, v, f1, f2, f3, f4, g0, g⟩
    refine ⟨_, e0, _, e1, _, e2, a, us, i, v, f1, f2, f3, f4, g0, fun p hp => ?_⟩
    obtain ⟨ga', xs', L', gs', h1, h2, h3, h4, h5⟩ := g p hp
    refine ⟨ga', xs', L', gs', h1, h2, h3, h4, fun H' s' => ?_⟩
    obtain ⟨i', j', w1, w2, k, w3, w4⟩ := h5 H' s'
    exact ⟨i', j', w1, w2, k, w3, hq _ _ w4⟩
theorem ok_nth_least (z : Bz K mg base) : Cal P w K mg base k_nth_least "nth_least" ["bounds", "gathering", "k"] (sp_nth_least K) := by
  have sc := sc_nth_least
  refine z.d_nth_least.cal fun f fd F => F.k sc fun cdv A outer s H vs Q E hr h => ?_
  obtain ⟨b, ga, xs, low, L, k, gs, rfl, hb, hL, hga, hg, hgd, hl, hw9, hk, q⟩ := h
  refine ⟨_, (pss_cons (ps_if (PW.pt (pw_or (pt_cmpR op_lt (pv 2) pe_int (nomark _)) (pw_or1 (pt_cmpR op_ge (pv 2) (pe_fn (ok_many_in z) hr.m (by rfl) (pa_cons (pv 1) pa_nil)) (nomark _)))))
  (pss_one ps_never)
  pss_nil)
 (pss_cons (pst 3 sc.nd (pe_fn (ok_way_of_nth z) hr.m (by rfl) (pa_cons (pix ix_tup (pv 0) pe_int) (pa_cons (pv 1) (pa_cons (pv 2) pa_nil)))))
 (pss_cons (pst 4 sc.nd (pe_op op_sub (pv 2) (pe_fn (ok_many_lesser z) hr.m (by rfl) (pa_cons (pv 1) (pa_cons (pv 3) pa_nil)))))
 (pss_one (ps_ret (pe_op op_catU (pe_tup (pa_cons (pix ix_tup (pe_fn (ok_span_of z) hr.m (by rfl) (pa_cons (pv 0) (pa_cons (pv 3) pa_nil))) pe_int) pa_nil)) (pe_fn (ok_nth_alike z) hr.m (by rfl) (pa_cons (pv 1) (pa_cons (pv 3) (pa_cons (pv 4) pa_nil)))))))))), ?_⟩
  have r := kth_rng L (Wh gs) k
  obtain ⟨c1, c2⟩ := kth_cnt L (Wh gs) k (W_in hgd) hk
  rw [ltC_succ] at c2
  refine ⟨_, rfl, _, _, rfl, rfl, _, rfl, ?_⟩
  refine ite2 (fun c => absurd (of_decide_eq_true c) (by omega)) (fun _ => ?_)
  refine ⟨_, rfl, _, rfl, ga, xs, L, gs, rfl, SqL.of hga, hg, by omega, fun H1 s1 => ?_⟩
  rw [manyG_W hgd]
  refine ⟨_, _, rfl, rfl, _, rfl, ?_⟩
  refine ite2 (fun c => absurd (of_decide_eq_true c) (by omega)) (fun _ => ?_)
  refine ⟨_, rfl, b, _, _, _, rfl, rfl, s1.seqT hb, rfl, _, rfl, _, rfl, ga, xs, L, k, gs, rfl, hL, s1 _ _ hga, hg.same s1, hgd, hl, hw9, hk, fun t H2 s2 ht => ?_⟩
  have s02 := s1.trans s2
  generalize kth L (Wh gs) k = o at *
  refine ⟨_, rfl, _, rfl, _, rfl, ga, t, xs, L, o, gs, rfl, SqL.of (s02 _ _ hga), hg.same s02, hgd, hl, ht.sq, r.1, r.2, fun H3 s3 => ⟨_, _, rfl, rfl, ?_⟩⟩
  have s03 := s02.trans s3
  refine ⟨_, rfl, _, rfl, b, t, low, L, wayW L o, rfl, s03.seqT hb, hL, (ht.same s3).sq, fun p hp => ?_⟩
  have hsp : spanS low L (wayW L o) = (low + o, 1) := span_way L low o r.1 r.2
  rw [hsp]
  have s4 := same_new hp (.tup [V.int (low + o), .int (low + o + 1 - 1)])
  have hp4 : upd H3 p (.tup [V.int (low + o), .int (low + o + 1 - 1)]) p = some (.tup [V.int (low + o), .int (low + o + 1 - 1)]) := upd_same
  dsimp only
  generalize upd H3 p (.tup [V.int (low + o), .int (low + o + 1 - 1)]) = H4 at *
  refine ⟨p, _, _, _, rfl, rfl, SqT.of hp4, rfl, szb rfl, fun p1 hp1 => ?_⟩
  have s5 := same_new hp1 (.tup [V.int (low + o)])
  have hp5 : upd H4 p1 (.tup [V.int (low + o)]) p1 = some (.tup [V.int (low + o)]) := upd_same
  generalize upd H4 p1 (.tup [V.int (low + o)]) = H5 at *
  have s05 := (s03.trans s4).trans s5
  refine ⟨_, rfl, _, rfl, _, rfl, ga, t, xs, L, k - ltC (Wh gs) o, o, gs, ?_, hL, s05 _ _ hga, hg.same s05, hgd, hl, (((ht.same s3).same s4).same s5), r.1, r.2, by omega, fun p2 j pl H6 s6 hp2 hth => ?_⟩
  · exact congrArg (fun q : Int => [V.ref ga, V.ref t, V.int q]) (show (k : Int) - ((ltC (Wh gs) o : Nat) : Int) = ((k - ltC (Wh gs) o : Nat) : Int) by omega)
  refine ⟨p1, p2, _, _, rfl, rfl, SqT.of (s6 _ _ hp5), SqT.of hp2, szb rfl, fun p3 H7 s7 h3 _ => ?_⟩
  exact q p3 j pl H7 ((s05.trans s6).trans s7) h3 hth
end
theorem pr_alk {K : PySem.W.Frag} {H : Hp} {a b : Addr} {p : P2} (ha : SqT K H a [.int p.1, .int p.2]) (hb : SqT K H b [.int p.1, .int p.2]) : Alk K H 2 (.ref a) (.ref b) := by
  refine .tup ha hb rfl fun i x y g1 g2 => ?_
  match i, g1, g2 with
  | 0, g1, g2 => cases g1; cases g2; exact .flat rfl
  | 1, g1, g2 => cases g1; cases g2; exact .flat rfl
theorem ps_alk {K : PySem.W.Frag} {H : Hp} {a b : Addr} {xs ys : List V} {ps : List P2} (ha : SqL K H a xs) (hb : SqL K H b ys) (hx : AllAt PsR H xs ps) (hy : AllAt PsR H ys ps) : Alk K H 3 (.ref a) (.ref b) := by
  refine .lst ha hb (hx.1.trans hy.1.symm) fun j x y h1 h2 => ?_
  obtain ⟨p, hp, t, rfl, e1⟩ := hx.get h1
  obtain ⟨t', rfl, f1⟩ := hy.2 j y p h2 hp
  exact pr_alk (SqT.of e1) (SqT.of f1)
abbrev kb_counted_above : Nat := 3
abbrev kn_counted_above : Nat := 40
abbrev k_counted_above : Nat := 44
inductive spe_counted_above (K : PySem.W.Frag) (e : Nat) (vs : List V) (H : Hp) (Q : VK) (E : XK) : Prop
  | mk (least part floor : Int) (pa : Addr) (xs : List V) (gs : List G3) (_ : vs = [.int least, .int (2 ^ e), .ref pa, .int part, .int floor]) (_ : SqL K H pa xs) (_ : GatAt H e xs gs) (_ : (∀ g ∈ gs, GoodS e g)) (_ : gs.length ≤ 100) (_ : (Wh gs).length ≤ 900) (_ : 1 ≤ part) (_ : 0 ≤ floor) (_ : ∀ (H' : Hp) (D : Addr) (ys : List V), Same H H' → H' D = some (.lst ys) → H D = none → AllAt PsR H' ys (caF part floor e least (Wh gs)) → Q (.ref D) H') : spe_counted_above K e vs H Q E
def sp_counted_above (K : PySem.W.Frag) : Sp := fun vs H Q E => ∃ e, e ≤ kn_counted_above ∧ spe_counted_above K e vs H Q E
abbrev k_worths_in : Nat := 45
inductive sp_worths_in (K : PySem.W.Frag) (vs : List V) (H : Hp) (Q : VK) (E : XK) : Prop
  | mk (b ga : Addr) (xs : List V) (low : Int) (L : Nat) (gs : List G3) (_ : vs = [.ref b, .ref ga]) (_ : SqT K H b [.int low, .int (L : Int)]) (_ : L ≤ 40) (_ : SqL K H ga xs) (_ : GatAt H L xs gs) (_ : (∀ g ∈ gs, GoodS L g)) (_ : gs.length ≤ 100) (_ : (Wh gs).length ≤ 900) (_ : ∀ (H' : Hp) (D : Addr) (ys : List V), Same H H' → H' D = some (.lst ys) → H D = none → AllAt PsR H' ys (caF 1 0 L low (Wh gs)) → Q (.ref D) H') : sp_worths_in K vs H Q E
abbrev k_often : Nat := 45
inductive sp_often (K : PySem.W.Frag) (vs : List V) (H : Hp) (Q : VK) (E : XK) : Prop
  | mk (b ga : Addr) (xs : List V) (low part : Int) (L : Nat) (gs : List G3) (_ : vs = [.ref b, .ref ga, .int part]) (_ : SqT K H b [.int low, .int (L : Int)]) (_ : L ≤ 40) (_ : SqL K H ga xs) (_ : GatAt H L xs gs) (_ : (∀ g ∈ gs, GoodS L g)) (_ : gs.length ≤ 100) (_ : (Wh gs).length ≤ 900) (_ : 1 ≤ part) (_ : ∀ (H' : Hp) (D : Addr) (ys : List V), Same H H' → H' D = some (.lst ys) → H D = none → AllAt PsR H' ys (caF part ((Wh gs).length : Nat) L low (Wh gs)) → Q (.ref D) H') : sp_often K vs H Q E
def BstV (H : Hp) (v : V) : Option P2 → Prop
  | none => v = .non
  | some p => PsR H v p
abbrev k_most : Nat := 46
inductive sp_most (K : PySem.W.Frag) (vs : List V) (H : Hp) (Q : VK) (E : XK) : Prop
  | mk (b ga : Addr) (xs : List V) (low : Int) (L : Nat) (gs : List G3) (_ : vs = [.ref b, .ref ga]) (_ : SqT K H b [.int low, .int (L : Int)]) (_ : L ≤ 40) (_ : SqL K H ga xs) (_ : GatAt H L xs gs) (_ : (∀ g ∈ gs, GoodS L g)) (_ : gs.length ≤ 100) (_ : (Wh gs).length ≤ 900) (_ : ∀ (H' : Hp) (v : V), Same H H' → BstV H' v (bst (caF 1 0 L low (Wh gs))) → Q v H') : sp_most K vs H Q E
section
variable {P : Program} {w : World} {K : PySem.W.Frag} {mg : Str → Option Value} {base : Heap}
theorem ok_counted_above (z : Bz K mg base) : Cal P w K mg base k_counted_above "counted_above" ["least", "many", "parts", "part", "floor"] (sp_counted_above K) := by
  have sc := sc_counted_above
  refine z.d_counted_above.recur (k := kb_counted_above) (sp := spe_counted_above K) kn_counted_above fun e hen c_counted_above f fd F => F.k sc fun cdv A outer s H vs Q E hr h => ?_
  obtain ⟨least, part, floor, pa, xs, gs, rfl, hpa, hg, hgd, hl, hw, hp1, hf0, q⟩ := h
  refine ⟨_, (pss_cons (pst 5 sc.nd (pe_fn (ok_many_in z) (hr.mono (Nat.le_trans (by decide : k_many_in ≤ kb_counted_above) (Nat.le_add_left _ _))) (by rfl) (pa_cons (pv 2) pa_nil)))
 (pss_cons (ps_if (pt_cmpR op_le (pe_op op_mul (pv 5) (pv 3)) (pv 4) (nomark _))
  (pss_one (ps_ret (pe_lst pa_nil)))
  pss_nil)
 (pss_cons (ps_if (pt_cmpR op_eq (pv 1) pe_int (nomark _))
  (pss_one (ps_ret (pe_lst (pa_cons (pe_tup (pa_cons (pv 0) (pa_cons (pv 5) pa_nil))) pa_nil))))
  pss_nil)
 (pss_cons (pst 6 sc.nd (pe_op op_fdivB (pv 1) pe_int))
 (pss_cons (pst 7 sc.nd (pe_fn c_counted_above (hr.mono (Nat.le_refl _)) (by rfl) (pa_cons (pv 0) (pa_cons (pv 6) (pa_cons (pe_fn (ok_filled z) (hr.mono (Nat.le_trans (by decide : k_filled ≤ kb_counted_above) (Nat.le_add_left _ _))) (by rfl) (pa_cons (pe_fn (ok_led z) (hr.mono (Nat.le_trans (by decide : k_led ≤ kb_counted_above) (Nat.le_add_left _ _))) (by rfl) (pa_cons (pv 2) (pa_cons (pe_tup (pa_cons pe_int pa_nil)) pa_nil))) pa_nil)) (pa_cons (pv 3) (pa_cons (pv 4) pa_nil)))))))
 (pss_cons (pst 8 sc.nd (pe_fn c_counted_above (hr.mono (Nat.le_refl _)) (by rfl) (pa_cons (pe_op op_add (pv 0) (pv 6)) (pa_cons (pv 6) (pa_cons (pe_fn (ok_filled z) (hr.mono (Nat.le_trans (by decide : k_filled ≤ kb_counted_above) (Nat.le_add_left _ _))) (by rfl) (pa_cons (pe_fn (ok_led z) (hr.mono (Nat.le_trans (by decide : k_led ≤ kb_counted_above) (Nat.le_add_left _ _))) (by rfl) (pa_cons (pv 2) (pa_cons (pe_tup (pa_cons pe_int pa_nil)) pa_nil))) pa_nil)) (pa_cons (pv 3) (pa_cons (pv 4) pa_nil)))))))
 (pss_one (ps_ret (pe_op op_cat (pv 7) (pv 8)))))))))), ?_⟩
  have hin := W_in hgd
  have hcl := ca_len (part := part) (floor := floor) (least := least) hp1 hf0 hin
  refine ⟨_, rfl, pa, xs, e, gs, rfl, hpa, hg, by omega, fun H1 s1 => ?_⟩
  rw [manyG_W hgd]
  refine ⟨_, rfl, _, rfl, _, _, rfl, rfl, .inl ⟨by omega, by omega⟩, _, rfl, _, _, rfl, rfl, _, rfl, ?_⟩
  refine ite2 (fun c => ?_) (fun c => ?_)
  · have c' := of_decide_eq_true c
    have e0 : caF part floor e least (Wh gs) = [] := by
      cases e <;> (unfold caF; rw [if_pos c'])
    rw [e0] at q
    exact ⟨szb rfl, fun D hD => q _ D [] (s1.trans (same_new hD _)) upd_same (s1.free hD) AllAt.nil⟩
  have c' : ¬ ((Wh gs).length : Int) * part ≤ floor := fun z => c (decide_eq_true z)
  refine ⟨_, rfl, rfl, _, rfl, ?_⟩
  cases e with
  | zero =>
    refine ite2 (fun _ => ?_) (fun c => absurd (decide_eq_true rfl) c)
    have e0 : caF part floor 0 least (Wh gs) = [(least, (((Wh gs).length : Nat) : Int))] := by unfold caF; rw [if_neg c']
    rw [e0] at q
    refine ⟨_, rfl, _, rfl, szb rfl, fun t ht => ⟨szb rfl, fun D hD => ?_⟩⟩
    have s2 := same_new ht (.tup [.int least, .int ((Wh gs).length : Nat)])
    have s3 := same_new hD (.lst [.ref t])
    refine q _ D [.ref t] ((s1.trans s2).trans s3) upd_same ((s1.trans s2).free hD) ⟨rfl, fun j x p h1 h2 => ?_⟩
    match j, h1, h2 with
    | 0, h1, h2 => cases h1; cases h2; exact ⟨t, rfl, s3 _ _ upd_same⟩
    | j + 1, h1, h2 => simp at h1
  | succ e =>
    have hp2 := p2pos e
    have e2 : (2 : Int) ^ (e + 1) = 2 * 2 ^ e := by rw [Int.pow_succ]; omega
    refine ite2 (fun c => absurd (V.int.inj (of_decide_eq_true c)) (by omega)) (fun _ => ?_)
    have hh : (2 : Int) ^ (e + 1) / 2 = 2 ^ e := by rw [Int.pow_succ]; exact Int.mul_ediv_cancel _ (by decide)
    refine ⟨_, rfl, _, _, rfl, rfl, ⟨by decide, by decide⟩, ?_⟩
    dsimp only
    rw [hh]
    have e0 : caF part floor (e + 1) least (Wh gs) = caF part floor e least (halfO e 0 (Wh gs)) ++ caF part floor e (least + 2 ^ e) (halfO e 1 (Wh gs)) := by rw [caF, if_neg c']
    rw [e0] at q hcl
    have good1 : ∀ w, ∀ g ∈ gs.map (led1 e w), GoodS e g := fun w g hg => by
      obtain ⟨g', hg', rfl⟩ := List.mem_map.mp hg
      exact led1_good (hgd g' hg')
    have el : ∀ w : Int, gs.map (ledS (e + 1) [w]) = gs.map (led1 e w) := fun w => List.map_congr_left fun g _ => by rw [ledS_cons, ledS_empty]
    have e1l : e + 1 - [(0 : Int)].length = e := rfl
    have lenH : ∀ w : Int, (halfO e w (Wh gs)).length ≤ 900 := fun w => Nat.le_trans halfO_len hw
    -- the lower half
    refine ⟨_, rfl, _, rfl, _, rfl, szb rfl, fun w0 hw0 => ?_⟩
    have s2 := same_new hw0 (.tup [V.int 0])
    have hw0' : upd H1 w0 (.tup [V.int 0]) w0 = some (.tup [V.int 0]) := upd_same
    generalize upd H1 w0 (.tup [V.int 0]) = H2 at *
    have s02 := s1.trans s2
    refine ⟨pa, w0, xs, e + 1, [0], gs, rfl, s02.seq hpa, hg.same s02, hgd, by omega, SqT.of hw0', by simp, (fun x hx => by rw [List.mem_singleton.mp hx]; exact .inl rfl), fun H3 D3 z3 s3 hD3 hD3n hg3 => ?_⟩
    rw [el] at hg3
    have hg3' : GatAt H3 e z3 (gs.map (led1 e 0)) := hg3
    refine ⟨D3, z3, e, _, rfl, SqL.of hD3, hg3', by rw [List.length_map]; omega, fun H4 D4 z4 s4 hD4 hD4n hg4 => ?_⟩
    refine ⟨_, rfl, _, rfl, least, part, floor, D4, z4, fillG (gs.map (led1 e 0)), rfl, SqL.of hD4, hg4, fill_good (good1 0), ?_, by rw [W_fill, W_led hgd]; exact lenH 0, hp1, hf0, fun H5 D5 z5 s5 hD5 hD5n hp5 => ?_⟩
    · exact Nat.le_trans (List.length_filter_le _ _) (by rw [List.length_map]; exact hl)
    rw [W_fill, W_led hgd] at hp5
    have s05 := ((s02.trans s3).trans s4).trans s5
    -- the upper half
    refine ⟨_, rfl, _, rfl, _, _, rfl, rfl, _, rfl, _, rfl, szb rfl, fun w1 hw1 => ?_⟩
    have s6 := same_new hw1 (.tup [V.int 1])
    have hw1' : upd H5 w1 (.tup [V.int 1]) w1 = some (.tup [V.int 1]) := upd_same
    generalize upd H5 w1 (.tup [V.int 1]) = H6 at *
    have s06 := s05.trans s6
    refine ⟨pa, w1, xs, e + 1, [1], gs, rfl, s06.seq hpa, hg.same s06, hgd, by omega, SqT.of hw1', by simp, (fun x hx => by rw [List.mem_singleton.mp hx]; exact .inr rfl), fun H7 D7 z7 s7 hD7 hD7n hg7 => ?_⟩
    rw [el] at hg7
    have hg7' : GatAt H7 e z7 (gs.map (led1 e 1)) := hg7
    refine ⟨D7, z7, e, _, rfl, SqL.of hD7, hg7', by rw [List.length_map]; omega, fun H8 D8 z8 s8 hD8 hD8n hg8 => ?_⟩
    refine ⟨_, rfl, _, rfl, least + 2 ^ e, part, floor, D8, z8, fillG (gs.map (led1 e 1)), rfl, SqL.of hD8, hg8, fill_good (good1 1), ?_, by rw [W_fill, W_led hgd]; exact lenH 1, hp1, hf0, fun H9 D9 z9 s9 hD9 hD9n hp9 => ?_⟩
    · exact Nat.le_trans (List.length_filter_le _ _) (by rw [List.length_map]; exact hl)
    rw [W_fill, W_led hgd] at hp9
    have s59 := ((s6.trans s7).trans s8).trans s9
    have hD59 := s59 _ _ hD5
    have hp59 := ps_same hp5 s59
    refine ⟨_, rfl, _, rfl, D5, D9, z5, z9, rfl, rfl, hD59, hD9, sz (by rw [hp5.1, hp9.1, ← List.length_append]; omega), fun D hD => ?_⟩
    exact q _ D _ ((s05.trans s59).trans (same_new hD _)) upd_same ((s05.trans s59).free hD) (ps_same (hp59.app hp9) (same_new hD _))
theorem ok_worths_in (z : Bz K mg base) : Cal P w K mg base k_worths_in "worths_in" ["bounds", "gathering"] (sp_worths_in K) := by
  have sc := sc_worths_in
  refine z.d_worths_in.cal fun f fd F => F.k sc fun cdv A outer s H vs Q E hr h => ?_
  obtain ⟨b, ga, xs, low, L, gs, rfl, hb, hL, hga, hg, hgd, hl, hw, q⟩ := h
  refine ⟨_, (pss_one (ps_ret (pe_fn (ok_counted_above z) hr.m (by rfl) (pa_cons (pix ix_tup (pv 0) pe_int) (pa_cons (pe_fn (ok_many_worths z) hr.m (by rfl) (pa_cons (pix ix_tup (pv 0) pe_int) pa_nil)) (pa_cons (pe_fn (ok_filled z) hr.m (by rfl) (pa_cons (pv 1) pa_nil)) (pa_cons pe_int (pa_cons pe_int pa_nil)))))))), ?_⟩
  refine ⟨_, rfl, b, _, _, _, rfl, rfl, hb, rfl, _, rfl, b, _, _, _, rfl, rfl, hb, rfl, L, rfl, hL, _, rfl, ga, xs, L, gs, rfl, hga, hg, by omega, fun H1 D1 z1 s1 hD1 hD1n hg1 => ?_⟩
  refine ⟨L, hL, low, 1, 0, D1, z1, fillG gs, rfl, SqL.of hD1, hg1, fill_good hgd, Nat.le_trans (List.length_filter_le _ _) hl, by rw [W_fill]; exact hw, by decide, by decide, fun H2 D2 z2 s2 hD2 hD2n hp2 => ?_⟩
  rw [W_fill] at hp2
  exact q H2 D2 z2 (s1.trans s2) hD2 (s1.free hD2n) hp2
theorem ok_often (z : Bz K mg base) : Cal P w K mg base k_often "often" ["bounds", "gathering", "part"] (sp_often K) := by
  have sc := sc_often
  refine z.d_often.cal fun f fd F => F.k sc fun cdv A outer s H vs Q E hr h => ?_
  obtain ⟨b, ga, xs, low, part, L, gs, rfl, hb, hL, hga, hg, hgd, hl, hw, hp, q⟩ := h
  refine ⟨_, (pss_one (ps_ret (pe_fn (ok_counted_above z) hr.m (by rfl) (pa_cons (pix ix_tup (pv 0) pe_int) (pa_cons (pe_fn (ok_many_worths z) hr.m (by rfl) (pa_cons (pix ix_tup (pv 0) pe_int) pa_nil)) (pa_cons (pe_fn (ok_filled z) hr.m (by rfl) (pa_cons (pv 1) pa_nil)) (pa_cons (pv 2) (pa_cons (pe_fn (ok_many_in z) hr.m (by rfl) (pa_cons (pv 1) pa_nil)) pa_nil)))))))), ?_⟩
  refine ⟨_, rfl, b, _, _, _, rfl, rfl, hb, rfl, _, rfl, b, _, _, _, rfl, rfl, hb, rfl, L, rfl, hL, _, rfl, ga, xs, L, gs, rfl, hga, hg, by omega, fun H1 D1 z1 s1 hD1 hD1n hg1 => ?_⟩
  refine ⟨_, rfl, _, rfl, ga, xs, L, gs, rfl, s1.seq hga, hg.same s1, by omega, fun H1' s1' => ?_⟩
  rw [manyG_W hgd]
  refine ⟨L, hL, low, part, _, D1, z1, fillG gs, rfl, SqL.of (s1' _ _ hD1), hg1.same s1', fill_good hgd, Nat.le_trans (List.length_filter_le _ _) hl, by rw [W_fill]; exact hw, hp, by omega, fun H2 D2 z2 s2 hD2 hD2n hp2 => ?_⟩
  rw [W_fill] at hp2
  exact q H2 D2 z2 ((s1.trans s1').trans s2) hD2 ((s1.trans s1').free hD2n) hp2
theorem ok_most (z : Bz K mg base) : Cal P w K mg base k_most "most" ["bounds", "gathering"] (sp_most K) := by
  have sc := sc_most
  refine z.d_most.cal fun f fd F => F.k sc fun cdv A outer s H vs Q E hr h => ?_
  obtain ⟨b, ga, xs, low, L, gs, rfl, hb, hL, hga, hg, hgd, hl, hw, q⟩ := h
  refine ⟨_, (pss_cons (pst 2 sc.nd pe_non)
 (pss_cons (ps_for PassesOwn.never rfl (pi_list (pe_fn (ok_worths_in z) hr.m (by rfl) (pa_cons (pv 0) (pa_cons (pv 1) pa_nil)))) (pgn 3 sc.nd)
  (pss_one (ps_if (PW.pt (pw_or (pt_cmpR op_isN (pv 2) pe_non (nomark _)) (pw_or1 (pt_cmpR op_gt (pix ix_tup (pv 3) pe_int) (pix ix_tup (pv 2) pe_int) (nomark _)))))
  (pss_one (pst 2 sc.nd (pv 3)))
  pss_nil)))
 (pss_one (ps_ret (pv 2))))), ?_⟩
  refine ⟨_, rfl, _, rfl, b, ga, xs, low, L, gs, rfl, hb, hL, hga, hg, hgd, hl, hw, fun H1 D1 z1 s1 hD1 hD1n hp1 => ?_⟩
  generalize caF 1 0 L low (Wh gs) = ps at *
  refine ⟨D1, rfl, ⟨_, SqL.of hD1⟩, for_list (K := K) (a := D1) (xs := z1) (fun j σ H2 => ∃ (bv : V) (v3 : Option V), σ = [some (.ref b), some (.ref ga), some bv, v3] ∧ H2 = H1 ∧ BstV H1 bv ((ps.take j).foldl bstep none)) ⟨.non, none, rfl, rfl, rfl⟩ (fun j σ H2 _ ⟨_, _, _, e, _⟩ => by rw [e]; exact SqL.of hD1) ?_ ?_⟩
  · rintro j x σ H2 hx ⟨bv, v3, rfl, rfl, hbv⟩
    obtain ⟨p, gp, hpx⟩ := hp1.get hx
    have et : (ps.take (j + 1)).foldl bstep none = bstep ((ps.take j).foldl bstep none) p := by
      rw [List.take_add_one, gp, List.foldl_append]
      rfl
    generalize (ps.take j).foldl bstep none = bo at *
    refine ⟨_, rfl, rfl, _, rfl, ?_⟩
    cases bo with
    | none =>
      cases (show bv = .non from hbv)
      refine ite2 (fun _ => ?_) (fun c => absurd rfl c)
      refine ⟨_, rfl, x, _, rfl, rfl, ?_⟩
      rw [et]
      exact hpx
    | some q0 =>
      obtain ⟨ab, rfl, hab⟩ := hbv
      obtain ⟨ap, rfl, hap⟩ := hpx
      refine ite2 (fun c => absurd (of_decide_eq_true c) (by intro z; cases z)) (fun _ => ?_)
      refine ⟨_, rfl, ap, _, _, _, rfl, rfl, SqT.of hap, rfl, _, rfl, ab, _, _, _, rfl, rfl, SqT.of hab, rfl, _, _, rfl, rfl, _, rfl, ?_⟩
      refine ite2 (fun c => ?_) (fun c => ?_)
      · refine ⟨_, rfl, _, _, rfl, rfl, ?_⟩
        rw [et]
        show BstV H2 _ (if p.2 > q0.2 then some p else some q0)
        rw [if_pos (of_decide_eq_true c)]
        exact ⟨ap, rfl, hap⟩
      · refine ⟨_, _, rfl, rfl, ?_⟩
        rw [et]
        show BstV H2 _ (if p.2 > q0.2 then some p else some q0)
        rw [if_neg (fun z => c (decide_eq_true z))]
        exact ⟨ab, rfl, hab⟩
  · rintro σ H2 ⟨bv, v3, rfl, rfl, hbv⟩
    rw [hp1.1, List.take_length] at hbv
    exact ⟨_, rfl, q _ bv s1 hbv⟩
end
/-! ### a number put in, a number taken out -/
def mkOf (mid n : Int) : Int := if n < mid then 0 else 1
def loI (mid : Int) : Int → Bool := fun n => decide (n < mid)
def hiI (mid : Int) : Int → Bool := fun n => decide (mid ≤ n)
theorem grow_part {low : Int} {e : Nat} {ns : List Int} (h : ns ≠ []) : grow low (e + 1) ns = .part (ns.map (mkOf (low + 2 ^ e))) (grow low e (ns.filter (loI (low + 2 ^ e)))) (grow (low + 2 ^ e) e (ns.filter (hiI (low + 2 ^ e)))) := grow_succ h
def insAt (ns : List Int) (pl : Nat) (x : Int) : List Int := ns.take pl ++ x :: ns.drop pl
def hlf (mid mk : Int) : Int → Bool := if mk = 0 then loI mid else hiI mid
def lowOf (low : Int) (e : Nat) (mk : Int) : Int := if mk = 0 then low else low + 2 ^ e
def delAt (ns : List Int) (pl : Nat) : List Int := ns.take pl ++ ns.drop (pl + 1)
theorem grow_non {low : Int} {e : Nat} {ns : List Int} {H : Hp} (h : TreeAt H .non (grow low e ns)) : ns = [] := by
  by_cases z : ns = []
  · exact z
  · cases e with
    | zero => rw [grow_zero z] at h; obtain ⟨a, e1, _⟩ := h; cases e1
    | succ e => rw [grow_part z] at h; obtain ⟨a, m, x, y, e1, _⟩ := h; cases e1
/-! ### turned and flipped -/
theorem grow_shift (d : Int) : ∀ (e : Nat) (low : Int) (ns : List Int), grow (low + d) e (ns.map fun n => n + d) = grow low e ns
  | 0, low, ns => by
    by_cases h : ns = []
    · rw [h]; rfl
    · rw [grow_zero h, grow_zero (by simpa using h), List.length_map]
  | e + 1, low, ns => by
    by_cases h : ns = []
    · rw [h]; rfl
    · have h2 : (ns.map fun n => n + d) ≠ [] := by simpa using h
      rw [grow_part h, grow_part h2]
      have e1 : (ns.map fun n => n + d).map (mkOf (low + d + 2 ^ e)) = ns.map (mkOf (low + 2 ^ e)) := by
        rw [List.map_map]
        refine List.map_congr_left fun n _ => ?_
        show (if n + d < low + d + 2 ^ e then (0 : Int) else 1) = if n < low + 2 ^ e then 0 else 1
        by_cases c : n < low + 2 ^ e
        · rw [if_pos c, if_pos (by omega)]
        · rw [if_neg c, if_neg (by omega)]
      have e2 : (ns.map fun n => n + d).filter (loI (low + d + 2 ^ e)) = (ns.filter (loI (low + 2 ^ e))).map fun n => n + d := by
        rw [List.filter_map]
        congr 1
        refine List.filter_congr fun n _ => ?_
        show decide (n + d < low + d + 2 ^ e) = decide (n < low + 2 ^ e)
        by_cases c : n < low + 2 ^ e
        · rw [decide_eq_true c, decide_eq_true (by omega)]
        · rw [decide_eq_false c, decide_eq_false (by omega)]
      have e3 : (ns.map fun n => n + d).filter (hiI (low + d + 2 ^ e)) = (ns.filter (hiI (low + 2 ^ e))).map fun n => n + d := by
        rw [List.filter_map]
        congr 1
        refine List.filter_congr fun n _ => ?_
        show decide (low + d + 2 ^ e ≤ n + d) = decide (low + 2 ^ e ≤ n)
        by_cases c : low + 2 ^ e ≤ n
        · rw [decide_eq_true c, decide_eq_true (by omega)]
        · rw [decide_eq_false c, decide_eq_false (by omega)]
      rw [e1, e2, e3, grow_shift d e, show low + d + 2 ^ e = (low + 2 ^ e) + d by omega, grow_shift d e]
/-- the other way round within the bounds -/
def flp (low : Int) (e : Nat) (n : Int) : Int := 2 * low + 2 ^ e - 1 - n
theorem flp_mk (low : Int) (e : Nat) (ns : List Int) : (ns.map (flp low (e + 1))).map (mkOf (low + 2 ^ e)) = (ns.map (mkOf (low + 2 ^ e))).map fun m => 1 - m := by
  rw [List.map_map, List.map_map]
  refine List.map_congr_left fun n _ => ?_
  show (if flp low (e + 1) n < low + 2 ^ e then (0 : Int) else 1) = 1 - if n < low + 2 ^ e then 0 else 1
  unfold flp
  have p : (2 : Int) ^ (e + 1) = 2 * 2 ^ e := by rw [Int.pow_succ]; omega
  by_cases c : n < low + 2 ^ e
  · rw [if_pos c, if_neg (by omega)]; rfl
  · rw [if_neg c, if_pos (by omega)]; rfl
theorem flp_lo (low : Int) (e : Nat) (ns : List Int) : grow low e ((ns.map (flp low (e + 1))).filter (loI (low + 2 ^ e))) = grow (low + 2 ^ e) e ((ns.filter (hiI (low + 2 ^ e))).map (flp (low + 2 ^ e) e)) := by
  have p : (2 : Int) ^ (e + 1) = 2 * 2 ^ e := by rw [Int.pow_succ]; omega
  rw [← grow_shift (2 ^ e) e low]
  congr 1
  rw [List.filter_map, List.map_map]
  have e1 : ns.filter (loI (low + 2 ^ e) ∘ flp low (e + 1)) = ns.filter (hiI (low + 2 ^ e)) := List.filter_congr fun n _ => by
    show decide (flp low (e + 1) n < low + 2 ^ e) = decide (low + 2 ^ e ≤ n)
    unfold flp
    by_cases c : low + 2 ^ e ≤ n
    · rw [decide_eq_true c, decide_eq_true (by omega)]
    · rw [decide_eq_false c, decide_eq_false (by omega)]
  rw [e1]
  refine List.map_congr_left fun n _ => ?_
  show flp low (e + 1) n + 2 ^ e = flp (low + 2 ^ e) e n
  unfold flp
  omega
theorem flp_hi (low : Int) (e : Nat) (ns : List Int) : grow (low + 2 ^ e) e ((ns.map (flp low (e + 1))).filter (hiI (low + 2 ^ e))) = grow low e ((ns.filter (loI (low + 2 ^ e))).map (flp low e)) := by
  have p : (2 : Int) ^ (e + 1) = 2 * 2 ^ e := by rw [Int.pow_succ]; omega
  rw [← grow_shift (2 ^ e) e low]
  congr 1
  rw [List.filter_map, List.map_map]
  have e1 : ns.filter (hiI (low + 2 ^ e) ∘ flp low (e + 1)) = ns.filter (loI (low + 2 ^ e)) := List.filter_congr fun n _ => by
    show decide (low + 2 ^ e ≤ flp low (e + 1) n) = decide (n < low + 2 ^ e)
    unfold flp
    by_cases c : n < low + 2 ^ e
    · rw [decide_eq_true c, decide_eq_true (by omega)]
    · rw [decide_eq_false c, decide_eq_false (by omega)]
  rw [e1]
  refine List.map_congr_left fun n _ => ?_
  show flp low (e + 1) n = flp low e n + 2 ^ e
  unfold flp
  omega
/-! ### trees by bounds are trees by offsets -/
theorem growO_grow : ∀ (e : Nat) (os : List Int), growO e os = grow 0 e os
  | 0, os => rfl
  | e + 1, os => by
    by_cases h : os = []
    · rw [h, growO_nil, grow_nil]
    · rw [growO_succ h, grow_succ h, growO_grow e, growO_grow e]
      have z : (0 : Int) + 2 ^ e = 2 ^ e := Int.zero_add _
      rw [z]
      have e2 := grow_shift (2 ^ e) e 0 ((os.filter fun o => decide ((2 : Int) ^ e ≤ o)).map fun o => o - 2 ^ e)
      rw [List.map_map, z] at e2
      have e3 : ((os.filter fun o => decide ((2 : Int) ^ e ≤ o)).map ((fun n => n + 2 ^ e) ∘ fun o => o - 2 ^ e)) = os.filter fun o => decide ((2 : Int) ^ e ≤ o) := by
        rw [show ((fun n : Int => n + 2 ^ e) ∘ fun o => o - 2 ^ e) = id from funext fun o => by show o - 2 ^ e + 2 ^ e = o; omega, List.map_id]
      rw [e3] at e2
      rw [← e2]
      rfl
theorem grow_off (low : Int) (e : Nat) (ns : List Int) : grow low e ns = growO e (ns.map fun n => n - low) := by
  rw [growO_grow, ← grow_shift low e 0, List.map_map, Int.zero_add]
  congr 1
  rw [show ((fun n : Int => n + low) ∘ fun n => n - low) = id from funext fun o => by show o - low + low = o; omega, List.map_id]
theorem off_in {low : Int} {e : Nat} {ns : List Int} (h : Wths low e ns) : InO e (ns.map fun n => n - low) := fun o ho => by
  obtain ⟨n, hn, rfl⟩ := List.mem_map.mp ho
  have := h n hn
  omega
abbrev kb_turned : Nat := 0
abbrev kn_turned : Nat := 40
abbrev k_turned : Nat := 41
inductive spe_turned (u0 : PySem.W.Frag) (e : Nat) (vs : List V) (H : Hp) (Q : VK) (E : XK) : Prop
  | mk (v : V) (low : Int) (ns : List Int) (_ : vs = [v]) (_ : TreeAt H v (grow low e ns)) (_ : ns.length ≤ 900) (_ : ∀ (u : V) (H' : Hp), Same H H' → TreeAt H' u (grow low e ns.reverse) → Q u H') : spe_turned u0 e vs H Q E
def sp_turned (K : PySem.W.Frag) : Sp := fun vs H Q E => ∃ e, e ≤ kn_turned ∧ spe_turned K e vs H Q E
abbrev kb_flipped : Nat := 0
abbrev kn_flipped : Nat := 40
abbrev k_flipped : Nat := 41
inductive spe_flipped (u0 : PySem.W.Frag) (e : Nat) (vs : List V) (H : Hp) (Q : VK) (E : XK) : Prop
  | mk (v : V) (low : Int) (ns : List Int) (_ : vs = [v]) (_ : TreeAt H v (grow low e ns)) (_ : ns.length ≤ 900) (_ : ∀ (u : V) (H' : Hp), Same H H' → TreeAt H' u (grow low e (ns.map (flp low e))) → Q u H') : spe_flipped u0 e vs H Q E
def sp_flipped (K : PySem.W.Frag) : Sp := fun vs H Q E => ∃ e, e ≤ kn_flipped ∧ spe_flipped K e vs H Q E
section
variable {P : Program} {w : World} {K : PySem.W.Frag} {mg : Str → Option Value} {base : Heap}
theorem ok_turned (z : Bz K mg base) : Cal P w K mg base k_turned "turned" ["tree"] (sp_turned K) := by
  have sc := sc_turned
  refine z.d_turned.recur (k := kb_turned) (sp := spe_turned K) kn_turned fun e hen c_turned f fd F => F.k sc fun cdv A outer s H vs Q E hr h => ?_
  obtain ⟨v, low, ns, rfl, hv, hl, q⟩ := h
  refine ⟨_, (pss_cons (ps_if (PW.pt (pw_or (pt_cmpR op_isN (pv 0) pe_non (nomark _)) (pw_or1 (pt_cmpR op_eq (pix ix_tup (pv 0) pe_int) pe_str (nomark _)))))
  (pss_one (ps_ret (pv 0)))
  pss_nil)
 (pss_one (ps_ret (pe_tup (pa_cons pe_str (pa_cons (pe_tupRev rfl (K := K) rfl (by rfl) z.tuple_ (by rfl) z.reversed_ (pa_cons (pix ix_tup (pv 0) pe_int) pa_nil)) (pa_cons (pe_fn c_turned (hr.mono (Nat.le_refl _)) (by rfl) (pa_cons (pix ix_tup (pv 0) pe_int) pa_nil)) (pa_cons (pe_fn c_turned (hr.mono (Nat.le_refl _)) (by rfl) (pa_cons (pix ix_tup (pv 0) pe_int) pa_nil)) pa_nil)))))))), ?_⟩
  refine ⟨_, rfl, rfl, _, rfl, ?_⟩
  by_cases hn : ns = []
  · subst hn
    rw [grow_nil] at hv
    have hv' : v = .non := hv
    subst hv'
    refine ite2 (fun c => ?_) (fun c => absurd (decide_eq_true rfl) c)
    exact ⟨_, rfl, q _ H (Same.refl H) (by rw [List.reverse_nil, grow_nil]; exact hv)⟩
  have hvn : v ≠ .non := fun z => by rw [z] at hv; exact hn (grow_non hv)
  refine ite2 (fun c => absurd (of_decide_eq_true c) hvn) (fun _ => ?_)
  have hrn : ns.reverse ≠ [] := by simpa using hn
  cases e with
  | zero =>
    have hv0 := hv
    rw [grow_zero hn] at hv
    obtain ⟨a, rfl, ha⟩ := hv
    refine ⟨_, rfl, a, _, _, _, rfl, rfl, SqT.of ha, rfl, rfl, _, rfl, ?_⟩
    refine ite2 (fun c => ?_) (fun c => absurd (decide_eq_true rfl) c)
    refine ⟨_, rfl, q _ H (Same.refl H) ?_⟩
    rw [grow_zero hrn, List.length_reverse, ← grow_zero hn (low := low)]
    exact hv0
  | succ e =>
    rw [grow_part hn] at hv
    rw [grow_part hrn, List.map_reverse, List.filter_reverse, List.filter_reverse] at q
    obtain ⟨a, m, x, y, rfl, ha, hm, hx, hy⟩ := hv
    refine ⟨_, rfl, a, _, _, _, rfl, rfl, SqT.of ha, rfl, rfl, _, rfl, ?_⟩
    refine ite2 (fun c => absurd (of_decide_eq_true c) (by decide)) (fun c => ?_)
    refine ⟨_, rfl, a, _, _, _, rfl, rfl, SqT.of ha, rfl, m, _, rfl, hm.sq, by simp only [List.length_map]; omega, fun p3 H3 s3 h3 => ?_⟩
    rw [← List.map_reverse] at h3
    refine ⟨_, rfl, a, _, _, _, rfl, rfl, SqT.of (s3 _ _ ha), rfl, x, low, _, rfl, hx.same s3, Nat.le_trans (List.length_filter_le _ _) hl, fun u4 H4 s4 hu4 => ?_⟩
    have s34 := s3.trans s4
    refine ⟨_, rfl, a, _, _, _, rfl, rfl, SqT.of (s34 _ _ ha), rfl, y, low + 2 ^ e, _, rfl, hy.same s34, Nat.le_trans (List.length_filter_le _ _) hl, fun u5 H5 s5 hu5 => ⟨szb rfl, fun p hp => q _ _ (s34.trans (s5.trans (same_new hp _))) ?_⟩⟩
    have s6 : Same H5 (upd H5 p (.tup [.str "part", .ref p3, u4, u5])) := same_new hp _
    exact ⟨p, p3, u4, u5, rfl, upd_same, ((h3.same s4).same s5).same s6, (hu4.same s5).same s6, hu5.same s6⟩
theorem ok_flipped (z : Bz K mg base) : Cal P w K mg base k_flipped "flipped" ["tree"] (sp_flipped K) := by
  have sc := sc_flipped
  refine z.d_flipped.recur (k := kb_flipped) (sp := spe_flipped K) kn_flipped fun e hen c_flipped f fd F => F.k sc fun cdv A outer s H vs Q E hr h => ?_
  obtain ⟨v, low, ns, rfl, hv, hl, q⟩ := h
  refine ⟨_, (pss_cons (ps_if (PW.pt (pw_or (pt_cmpR op_isN (pv 0) pe_non (nomark _)) (pw_or1 (pt_cmpR op_eq (pix ix_tup (pv 0) pe_int) pe_str (nomark _)))))
  (pss_one (ps_ret (pv 0)))
  pss_nil)
 (pss_one (ps_ret (pe_tup (pa_cons pe_str (pa_cons (pe_callTy call_tupleF (by rfl) z.tuple_ bt_tuple (pa_cons (pe_comp (cl := []) (cn := []) (N := []) (fr := []) (sc0 := defScope s_flipped) rfl (pi_tup (pix ix_tup (pv 0) pe_int)) (fun C s₂ H₂ fp => (pe_op op_sub pe_int (pv 0))) (by with_unfolding_all rfl) trivial rfl rfl rfl cok rfl) pa_nil)) (pa_cons (pe_fn c_flipped (hr.mono (Nat.le_refl _)) (by rfl) (pa_cons (pix ix_tup (pv 0) pe_int) pa_nil)) (pa_cons (pe_fn c_flipped (hr.mono (Nat.le_refl _)) (by rfl) (pa_cons (pix ix_tup (pv 0) pe_int) pa_nil)) pa_nil)))))))), ?_⟩
  refine ⟨_, rfl, rfl, _, rfl, ?_⟩
  by_cases hn : ns = []
  · subst hn
    rw [grow_nil] at hv
    have hv' : v = .non := hv
    subst hv'
    refine ite2 (fun c => ?_) (fun c => absurd (decide_eq_true rfl) c)
    exact ⟨_, rfl, q _ H (Same.refl H) (by rw [List.map_nil, grow_nil]; exact hv)⟩
  have hvn : v ≠ .non := fun z => by rw [z] at hv; exact hn (grow_non hv)
  refine ite2 (fun c => absurd (of_decide_eq_true c) hvn) (fun _ => ?_)
  have hrn : ns.map (flp low e) ≠ [] := by simpa using hn
  cases e with
  | zero =>
    have hv0 := hv
    rw [grow_zero hn] at hv
    obtain ⟨a, rfl, ha⟩ := hv
    refine ⟨_, rfl, a, _, _, _, rfl, rfl, SqT.of ha, rfl, rfl, _, rfl, ?_⟩
    refine ite2 (fun c => ?_) (fun c => absurd (decide_eq_true rfl) c)
    refine ⟨_, rfl, q _ H (Same.refl H) ?_⟩
    rw [grow_zero hrn, List.length_map, ← grow_zero hn (low := low)]
    exact hv0
  | succ e =>
    rw [grow_part hn] at hv
    rw [grow_part hrn, flp_mk, flp_lo, flp_hi] at q
    obtain ⟨a, m, x, y, rfl, ha, hm, hx, hy⟩ := hv
    refine ⟨_, rfl, a, _, _, _, rfl, rfl, SqT.of ha, rfl, rfl, _, rfl, ?_⟩
    refine ite2 (fun c => absurd (of_decide_eq_true c) (by decide)) (fun c => ?_)
    refine ⟨_, rfl, a, _, _, _, rfl, rfl, SqT.of ha, rfl, m, rfl, ⟨_, hm.sq⟩, fun D hD => ?_⟩
    refine comp_tup (xs := (ns.map (mkOf (low + 2 ^ e))).map V.int) (sz (by simp only [List.length_map]; omega)) (fun k ds H2 => H2 D = some (.lst ds) ∧ ds.length = k ∧ Same H H2 ∧ ds = (((ns.map (mkOf (low + 2 ^ e))).take k).map fun m => 1 - m).map V.int) ⟨upd_same, rfl, same_new hD _, rfl⟩ (fun k ds H2 ⟨_, _, s2, _⟩ => (hm.same s2).sq) (fun k ds H2 ⟨e1, e2, _, _⟩ => ⟨e1, e2⟩) ?_ ?_
    · rintro k x0 ds H2 hk ⟨e1, e2, s2, e4⟩
      obtain ⟨z, hz, rfl⟩ : ∃ z, (ns.map (mkOf (low + 2 ^ e)))[k]? = some z ∧ x0 = .int z := by
        rw [List.getElem?_map] at hk
        cases eq : (ns.map (mkOf (low + 2 ^ e)))[k]? with
        | none => rw [eq] at hk; cases hk
        | some z => rw [eq] at hk; exact ⟨z, rfl, (Option.some.inj hk).symm⟩
      refine ⟨_, rfl, _, _, rfl, rfl, e1, upd_same, by rw [List.length_append, e2] <;> rfl, Same.own s2 hD, ?_⟩
      rw [List.take_add_one, hz, e4]
      simp
    rintro ds H2 ⟨e1, e2, s2, e4⟩
    rw [List.length_map, List.take_length] at e4
    subst e4
    refine ⟨D, _, rfl, SqL.of e1, fun p3 H3 s3' h3 => ?_⟩
    have s3 := s2.trans s3'
    refine ⟨_, rfl, a, _, _, _, rfl, rfl, SqT.of (s3 _ _ ha), rfl, y, low + 2 ^ e, _, rfl, hy.same s3, Nat.le_trans (List.length_filter_le _ _) hl, fun u4 H4 s4 hu4 => ?_⟩
    have s34 := s3.trans s4
    refine ⟨_, rfl, a, _, _, _, rfl, rfl, SqT.of (s34 _ _ ha), rfl, x, low, _, rfl, hx.same s34, Nat.le_trans (List.length_filter_le _ _) hl, fun u5 H5 s5 hu5 => ⟨szb rfl, fun p hp => q _ _ (s34.trans (s5.trans (same_new hp _))) ?_⟩⟩
    have s6 : Same H5 (upd H5 p (.tup [.str "part", .ref p3, u4, u5])) := same_new hp _
    exact ⟨p, p3, u4, u5, rfl, upd_same, ((h3.same s4).same s5).same s6, (hu4.same s5).same s6, hu5.same s6⟩
end
def EndV (H : Hp) (u : V) : Option (Nat × Nat) → Prop
  | none => u = .non
  | some ab => ∃ p, u = .ref p ∧ H p = some (.tup [.int (ab.1 : Int), .int (ab.2 : Int)])
abbrev kb_ends_between : Nat := 2
abbrev kn_ends_between : Nat := 40
abbrev k_ends_between : Nat := 43
inductive spe_ends_between (u0 : PySem.W.Frag) (e : Nat) (vs : List V) (H : Hp) (Q : VK) (E : XK) : Prop
  | mk (least lo hi : Int) (v : V) (g : G3) (_ : vs = [.int least, .int (2 ^ e), v, .int lo, .int hi]) (_ : StrAt H e v g) (_ : GoodS e g) (_ : ∀ (H' : Hp) (r : Option (Nat × Nat)) (u : V), Same H H' → EndsOf g (btw least lo hi) r → EndV H' u r → Q u H') : spe_ends_between u0 e vs H Q E
def sp_ends_between (K : PySem.W.Frag) : Sp := fun vs H Q E => ∃ e, e ≤ kn_ends_between ∧ spe_ends_between K e vs H Q E
section
variable {P : Program} {w : World} {K : PySem.W.Frag} {mg : Str → Option Value} {base : Heap}
theorem ok_ends_between (z : Bz K mg base) : Cal P w K mg base k_ends_between "ends_between" ["least", "many", "stretch", "low", "high"] (sp_ends_between K) := by
  have sc := sc_ends_between
  refine z.d_ends_between.recur (k := kb_ends_between) (sp := spe_ends_between K) kn_ends_between fun e hen c_ends_between f fd F => F.k sc fun cdv A outer s H vs Q E hr h => ?_
  obtain ⟨least, lo, hi, v, g, rfl, ⟨t, u, rfl, ht, hu⟩, hg, q⟩ := h
  refine ⟨_, (pss_cons (pst 5 sc.nd (pe_op op_sub (pe_op op_add (pv 0) (pv 1)) pe_int))
 (pss_cons (ps_if (PW.pt (pw_or (pt_cmpR op_eq (pix ix_tup (pv 2) pe_int) (pix ix_tup (pv 2) pe_int) (nomark _)) (pw_or (pt_cmpR op_gt (pv 3) (pv 5) (nomark _)) (pw_or1 (pt_cmpR op_lt (pv 4) (pv 0) (nomark _))))))
  (pss_one (ps_ret pe_non))
  pss_nil)
 (pss_cons (ps_if (PW.pt (pw_and (pt_cmpR op_le (pv 3) (pv 0) (nomark _)) (pw_and1 (pt_cmpR op_le (pv 5) (pv 4) (nomark _)))))
  (pss_one (ps_ret (pe_tup (pa_cons (pix ix_tup (pv 2) pe_int) (pa_cons (pe_op op_sub (pix ix_tup (pv 2) pe_int) pe_int) pa_nil)))))
  pss_nil)
 (pss_cons (pst 6 sc.nd (pe_op op_fdivB (pv 1) pe_int))
 (pss_cons (pst 7 sc.nd (pe_lst pa_nil))
 (pss_cons (ps_for PassesOwn.never rfl (pi_tup (pe_tup (pa_cons pe_int (pa_cons pe_int pa_nil)))) (pgn 8 sc.nd)
  (pss_cons (pst 9 sc.nd (pe_fn c_ends_between (hr.mono (Nat.le_refl _)) (by rfl) (pa_cons (pe_op op_add (pv 0) (pe_op op_mul (pv 8) (pv 6))) (pa_cons (pv 6) (pa_cons (pe_fn (ok_led_stretch z) (hr.mono (Nat.le_trans (by decide : k_led_stretch ≤ kb_ends_between) (Nat.le_add_left _ _))) (by rfl) (pa_cons (pv 2) (pa_cons (pe_tup (pa_cons (pv 8) pa_nil)) pa_nil))) (pa_cons (pv 3) (pa_cons (pv 4) pa_nil)))))))
 (pss_one (ps_if (pt_cmpR op_notN (pv 9) pe_non (nomark _))
  (pss_one (ps_expr (pe_bm PySem.F.plainAttrs_list PySem.F.slot_list_extend PySem.F.type_list_extend mt_extend (pv 7) (pa_cons (pe_comp (cl := [("turn", s.heap.objs.size + 1 + 1), ("stretch", s.heap.objs.size + 1 + 0)]) (cn := ["turn", "stretch"]) (N := ["stretch", "turn"]) (fr := [2, 8]) (sc0 := defScope s_ends_between) rfl (pi_tup (pv 9)) (fun C s₂ H₂ fp => (pe_fn (ok_place_of z) (hr.mono (Nat.le_trans (by decide : k_place_of ≤ kb_ends_between) (Nat.le_add_left _ _))) (by rfl) (pa_cons (pix (ix_tupK (K := K) rfl) (pix (ix_tupK (K := K) rfl) (pv 1) pe_int) pe_int) (pa_cons (pv 2) (pa_cons (pv 0) pa_nil))))) (by with_unfolding_all rfl) ⟨by with_unfolding_all rfl, by with_unfolding_all rfl, trivial⟩ rfl rfl rfl cok rfl) pa_nil))))
  pss_nil))))
 (pss_cons (ps_if (pt_cmpR op_eq (pln z.len_ (pa_cons (pv 7) pa_nil)) pe_int (nomark _))
  (pss_one (ps_ret pe_non))
  pss_nil)
 (pss_one (ps_ret (pe_tup (pa_cons (pe_callB (call_minL rfl) (by rfl) z.min_ bt_min (pa_cons (pv 7) pa_nil)) (pa_cons (pe_callB (call_maxL rfl) (by rfl) z.max_ bt_max (pa_cons (pv 7) pa_nil)) pa_nil)))))))))))), ?_⟩
  have hp2 := p2pos e
  have none_ok : (∀ i, ¬ Hit g (btw least lo hi) i) → ∀ H', Same H H' → Q .non H' := fun h H' s => q H' none .non s h rfl
  have inb : ∀ {i o}, g.1[i]? = some o → 0 ≤ o ∧ o < (2 : Int) ^ e := fun h => hg.1 _ (List.mem_of_getElem? h)
  have htt : SqT K H t [u, .int (g.2.1 : Int), .int (g.2.2 : Int)] := SqT.of ht
  refine ⟨_, rfl, _, rfl, _, _, rfl, rfl, _, _, rfl, rfl, ?_⟩
  refine ⟨_, rfl, t, _, _, _, rfl, rfl, htt, rfl, _, rfl, t, _, _, _, rfl, rfl, htt, rfl, rfl, _, rfl, ?_⟩
  refine ite2 (fun c => ?_) (fun c1 => ?_)
  · have c' : (g.2.1 : Int) = g.2.2 := V.int.inj (of_decide_eq_true c)
    exact none_ok (fun i h => by have := h.1; have := h.2.1; omega) H (Same.refl H)
  have hst : g.2.1 < g.2.2 := by
    have : ¬ g.2.1 = g.2.2 := fun z => c1 (by rw [z]; exact decide_eq_true rfl)
    have := hg.2.1
    omega
  refine ⟨_, rfl, _, rfl, _, _, rfl, rfl, _, rfl, ?_⟩
  refine ite2 (fun c => ?_) (fun c2 => ?_)
  · have c' := of_decide_eq_true c
    refine none_ok (fun i h => ?_) H (Same.refl H)
    obtain ⟨_, _, o, ho, hb⟩ := h
    have := inb ho
    have := of_decide_eq_true hb
    omega
  have c2' : ¬ least + 2 ^ e - 1 < lo := fun z => c2 (decide_eq_true z)
  refine ⟨_, rfl, _, rfl, _, _, rfl, rfl, _, rfl, ?_⟩
  refine ite2 (fun c => ?_) (fun c3 => ?_)
  · have c' := of_decide_eq_true c
    refine none_ok (fun i h => ?_) H (Same.refl H)
    obtain ⟨_, _, o, ho, hb⟩ := h
    have := inb ho
    have := of_decide_eq_true hb
    omega
  have c3' : ¬ hi < least := fun z => c3 (decide_eq_true z)
  refine ⟨_, rfl, _, rfl, _, _, rfl, rfl, _, rfl, ?_⟩
  by_cases hall : lo ≤ least ∧ least + 2 ^ e - 1 ≤ hi
  · refine ite2 (fun _ => ?_) (fun c => absurd (decide_eq_true hall.1) c)
    refine ⟨_, rfl, _, rfl, _, _, rfl, rfl, _, rfl, ?_⟩
    refine ite2 (fun _ => ?_) (fun c => absurd (decide_eq_true hall.2) c)
    refine ⟨_, rfl, t, _, _, _, rfl, rfl, htt, rfl, _, rfl, t, _, _, _, rfl, rfl, htt, rfl, _, _, rfl, rfl, szb rfl, fun p hp => ?_⟩
    have hit : ∀ i, g.2.1 ≤ i → i < g.2.2 → Hit g (btw least lo hi) i := fun i h1 h2 => by
      have hl := hg.2.2.1
      have h3 : g.1[i]? = some g.1[i] := List.getElem?_eq_getElem (by omega)
      have := inb h3
      exact ⟨h1, h2, _, h3, decide_eq_true (by omega)⟩
    refine q _ (some (g.2.1, g.2.2 - 1)) _ (same_new hp _) ⟨hit _ (Nat.le_refl _) hst, hit _ (by show g.2.1 ≤ g.2.2 - 1; omega) (by show g.2.2 - 1 < g.2.2; omega), fun i h => ⟨h.1, by have := h.2.1; show i ≤ g.2.2 - 1; omega⟩⟩ ⟨p, rfl, ?_⟩
    rw [upd_same]
    have e1 : ((g.2.2 : Int) - 1) = ((g.2.2 - 1 : Nat) : Int) := by omega
    show some (HO.tup [.int (g.2.1 : Int), .int ((g.2.2 : Int) - 1)]) = _
    rw [e1]
  have he0 : e ≠ 0 := fun z => by
    subst z
    exact hall ⟨by simp at c2'; omega, by simp; omega⟩
  obtain ⟨e', rfl⟩ : ∃ e', e = e' + 1 := ⟨e - 1, by omega⟩
  have hne : g.1 ≠ [] := fun z => by
    have := hg.2.2.1
    rw [z] at this
    simp at this
    omega
  have hh : (2 : Int) ^ (e' + 1) / 2 = 2 ^ e' := by rw [Int.pow_succ]; exact Int.mul_ediv_cancel _ (by decide)
  have hu3 := hu
  rw [growO_succ hne] at hu3
  obtain ⟨a, mm, x1, y1, rfl, ha, hm, _, _⟩ := hu3
  refine ite2 (fun c4 => ⟨_, rfl, _, rfl, _, _, rfl, rfl, _, rfl, ite2 (fun c5 => absurd ⟨of_decide_eq_true c4, of_decide_eq_true c5⟩ hall) (fun _ => ?_)⟩) (fun _ => ?_)
  all_goals
    refine ⟨_, rfl, _, _, rfl, rfl, ⟨by decide, by decide⟩, szb rfl, fun fl hfl => ?_⟩
    dsimp only
    rw [hh]
    have s1 := same_new hfl (.lst [])
    have hfl1 : upd H fl (.lst []) fl = some (.lst []) := upd_same
    generalize upd H fl (.lst []) = H1 at *
    refine ⟨szb rfl, fun tp htp => ⟨tp, rfl, ⟨_, SqT.of upd_same⟩, ?_⟩⟩
    have s2 := s1.trans (same_new htp (.tup [.int 0, .int 1]))
    have hfl2 := same_new htp (.tup [.int 0, .int 1]) _ _ hfl1
    have htp2 : upd H1 tp (.tup [.int 0, .int 1]) tp = some (.tup [.int 0, .int 1]) := upd_same
    generalize upd H1 tp (.tup [.int 0, .int 1]) = H2 at *
    refine for_tup (K := K) (a := tp) (xs := ([0, 1] : List Int).map V.int) (fun j σ H3 => ∃ (ns : List Nat) (w8 w9 : Option V), σ = [some (.int least), some (.int (2 ^ (e' + 1))), some (.ref t), some (.int lo), some (.int hi), some (.int (least + 2 ^ (e' + 1) - 1)), some (.int (2 ^ e')), some (.ref fl), w8, w9] ∧ Same H H3 ∧ H3 tp = some (.tup [.int 0, .int 1]) ∧
        H3 fl = some (.lst ((ns.map fun (i : Nat) => (i : Int)).map V.int)) ∧ ns.length ≤ 2 * j ∧ (∀ i ∈ ns, Hit g (btw least lo hi) i) ∧ (∀ (i : Nat) (o : Int), Hit g (btw least lo hi) i → g.1[i]? = some o → mk0 e' o ∈ ([0, 1] : List Int).take j → ∃ a ∈ ns, ∃ b ∈ ns, a ≤ i ∧ i ≤ b))
      ⟨[], none, none, rfl, s2, htp2, hfl2, Nat.zero_le _, (fun i hi => nomatch hi), (fun i o _ _ hm => nomatch hm)⟩ (fun j σ H3 _ ⟨_, _, _, _, _, z, _⟩ => SqT.of z) ?_ ?_
    · rintro j uu σ H3 hj ⟨ns, w8, w9, rfl, s3, htp3, hfl3, hnl, hn1, hn2⟩
      obtain ⟨m, hjm, rfl⟩ : ∃ m : Int, ([0, 1] : List Int)[j]? = some m ∧ uu = .int m := by
        rw [List.getElem?_map] at hj
        cases e2 : ([0, 1] : List Int)[j]? with
        | none => rw [e2] at hj; cases hj
        | some t => rw [e2] at hj; exact ⟨t, rfl, (Option.some.inj hj).symm⟩
      have hm01 : m = 0 ∨ m = 1 := by
        have := List.mem_of_getElem? hjm
        simpa using this
      have hj2 : j < 2 := by simpa using (List.getElem?_eq_some_iff.mp hjm).1
      refine ⟨_, rfl, _, rfl, _, rfl, _, _, rfl, rfl, .inl ⟨by omega, by omega⟩, _, _, rfl, rfl, _, rfl, ?_⟩
      refine ⟨_, rfl, _, rfl, szb rfl, fun wy hwy => ?_⟩
      have s4 := same_new hwy (.tup [.int m])
      have hwy4 : upd H3 wy (.tup [.int m]) wy = some (.tup [.int m]) := upd_same
      generalize upd H3 wy (.tup [.int m]) = H4 at *
      have s04 := s3.trans s4
      refine ⟨.ref t, wy, e' + 1, [m], g, rfl, ⟨t, .ref a, rfl, s04 _ _ ht, hu.same s04⟩, hg, SqT.of hwy4, by simp, (fun x hx => by rw [List.mem_singleton.mp hx]; exact hm01), fun H5 v' s5 hv' => ?_⟩
      rw [ledS_cons, ledS_empty] at hv'
      have el : e' + 1 - [m].length = e' := by simp
      rw [el] at hv'
      refine ⟨_, rfl, _, rfl, least + m * 2 ^ e', lo, hi, v', led1 e' m g, rfl, hv', led1_good hg, fun H6 r' u' s6 hr' hu' => ?_⟩
      have s36 := (s4.trans s5).trans s6
      have s06 := s3.trans s36
      have hfl6 := s36 _ _ hfl3
      have htp6 := s36 _ _ htp3
      have pe : (fun o => btw least lo hi (o + m * 2 ^ e')) = btw (least + m * 2 ^ e') lo hi := by
        funext o
        unfold btw
        have : least + (o + m * 2 ^ e') = least + m * 2 ^ e' + o := by omega
        rw [this]
      have tk1 : ([0, 1] : List Int).take (j + 1) = ([0, 1] : List Int).take j ++ [m] := by rw [List.take_add_one, hjm]; rfl
      refine ⟨_, rfl, rfl, _, rfl, ?_⟩
      cases r' with
      | none =>
        cases (show u' = .non from hu')
        refine ite2 (fun c => absurd c (by decide)) (fun _ => ⟨ns, _, _, rfl, s06, htp6, hfl6, by omega, hn1, fun i o hi ho hmk => ?_⟩)
        rw [tk1] at hmk
        rcases List.mem_append.mp hmk with hmk | hmk
        · exact hn2 i o hi ho hmk
        · obtain ⟨k, _, hk⟩ := hit_down hg hi ho (List.mem_singleton.mp hmk)
          rw [pe] at hk
          exact absurd hk (hr' k)
      | some ab =>
        obtain ⟨a1, b1⟩ := ab
        obtain ⟨pq, rfl, hpq⟩ := hu'
        obtain ⟨r1, r2, r3⟩ := hr'
        refine ite2 (fun _ => ?_) (fun c => absurd rfl c)
        obtain ⟨ia, pa1, hia⟩ := hit_up (p := btw least lo hi) hg (by rw [pe]; exact r1)
        obtain ⟨ib, pb1, hib⟩ := hit_up (p := btw least lo hi) hg (by rw [pe]; exact r2)
        have pls : ∀ (k : Nat) (xx : V), [V.int (a1 : Int), V.int (b1 : Int)][k]? = some xx → ∃ (num : Nat) (i : Nat), xx = .int (num : Int) ∧ plc m (g.1.map (mk0 e')) (num : Int) 0 = some i ∧ [ia, ib][k]? = some i := by
          intro k xx hk
          match k, hk with
          | 0, hk => cases hk; exact ⟨a1, ia, rfl, pa1, rfl⟩
          | 1, hk => cases hk; exact ⟨b1, ib, rfl, pb1, rfl⟩
          | k + 2, hk => simp at hk
        refine ⟨_, rfl, .inl ⟨rfl, _, SqL.of hfl6⟩, _, rfl, pq, rfl, ⟨_, SqT.of hpq⟩, fun D hD => ?_⟩
        refine comp_tup (K := K) (xs := [V.int (a1 : Int), V.int (b1 : Int)]) (szb rfl) (fun k ys H7 => Same H6 H7 ∧ H7 D = some (.lst ys) ∧ ys.length = k ∧ ys = (([ia, ib].take k).map fun (i : Nat) => (i : Int)).map V.int)
          ⟨same_new hD _, upd_same, rfl, rfl⟩ (fun k ys H7 ⟨z, _⟩ => SqT.of (z _ _ hpq)) (fun k ys H7 ⟨_, z1, z2, _⟩ => ⟨z1, z2⟩) ?_ ?_
        · rintro k xx ys H7 hk ⟨z1, z2, z3, z4⟩
          obtain ⟨num, i, rfl, hpl, hki⟩ := pls k xx hk
          have s07 := s06.trans z1
          refine ⟨_, rfl, t, _, _, _, rfl, rfl, SqT.of (s07 _ _ ht), rfl, a, _, _, _, rfl, rfl, SqT.of (s07 _ _ ha), rfl, _, rfl, _, rfl, mm, g.1.map (mk0 e'), m, (num : Int), i, rfl, (hm.same s07).sq, hpl, fun H8 s8 => ?_⟩
          refine ⟨s8 _ _ z2, same_put2 (z1.trans s8) hD _, upd_same, by rw [List.length_append, z3]; rfl, ?_⟩
          rw [List.take_add_one, hki, List.map_append, List.map_append, ← z4]
          rfl
        · rintro ys H7 ⟨z1, z2, z3, z4⟩
          have hlen2 : ys.length = 2 := z3
          refine ⟨fl, D, _, ys, rfl, rfl, z1 _ _ hfl6, z2, sz (by rw [List.length_map, List.length_map]; omega), ?_⟩
          refine ⟨ns ++ [ia, ib], _, _, rfl, same_put2 (s06.trans z1) hfl _, ?_, ?_, by rw [List.length_append]; simp; omega, fun i hi => ?_, fun i o hi ho hmk => ?_⟩
          · rw [upd_ne (ne_of (z1 _ _ htp6) (z1 _ _ hfl6) (by intro z; cases z))]
            exact z1 _ _ htp6
          · rw [upd_same, List.map_append, List.map_append, z4]
            rfl
          · rcases List.mem_append.mp hi with hi | hi
            · exact hn1 i hi
            · simp only [List.mem_cons, List.not_mem_nil, or_false] at hi
              rcases hi with rfl | rfl
              · exact hia
              · exact hib
          · rw [tk1] at hmk
            rcases List.mem_append.mp hmk with hmk | hmk
            · obtain ⟨x, hx, y, hy, h1, h2⟩ := hn2 i o hi ho hmk
              exact ⟨x, List.mem_append_left _ hx, y, List.mem_append_left _ hy, h1, h2⟩
            · obtain ⟨k, hk1, hk⟩ := hit_down hg hi ho (List.mem_singleton.mp hmk)
              rw [pe] at hk
              obtain ⟨h1, h2⟩ := r3 k hk
              exact ⟨ia, List.mem_append_right _ (by simp), ib, List.mem_append_right _ (by simp), plc_mono pa1 hk1 h1, plc_mono hk1 pb1 h2⟩
    · rintro σ H3 ⟨ns, w8, w9, rfl, s3, htp3, hfl3, hnl, hn1, hn2⟩
      have cov : ∀ i, Hit g (btw least lo hi) i → ∃ a ∈ ns, ∃ b ∈ ns, a ≤ i ∧ i ≤ b := fun i hi => by
        obtain ⟨o, ho, _⟩ := hi.2.2
        exact hn2 i o hi ho (by rcases mk0b e' o with z | z <;> rw [z] <;> simp)
      refine ⟨_, rfl, fl, _, rfl, .inl (SqL.of hfl3), rfl, _, rfl, ?_⟩
      by_cases hns : ns = []
      · subst hns
        refine ite2 (fun _ => ?_) (fun c => absurd (decide_eq_true rfl) c)
        exact none_ok (fun i hi => by obtain ⟨a, ha, _⟩ := cov i hi; cases ha) H3 s3
      · have hpos : 0 < (ns.map fun (i : Nat) => (i : Int)).length := by rw [List.length_map]; exact List.length_pos_iff.mpr hns
        refine ite2 (fun c => absurd (V.int.inj (of_decide_eq_true c)) (by rw [List.length_map]; omega)) (fun _ => ?_)
        refine ⟨_, rfl, fl, _, rfl, SqL.of hfl3, hpos, fun M hM hMle => ?_⟩
        refine ⟨_, rfl, fl, _, rfl, SqL.of hfl3, hpos, fun N hN hNle => ?_⟩
        obtain ⟨iM, hiM, rfl⟩ := List.mem_map.mp hM
        obtain ⟨iN, hiN, rfl⟩ := List.mem_map.mp hN
        refine ⟨szb rfl, fun p hp => q _ (some (iM, iN)) _ (s3.trans (same_new hp _)) ⟨hn1 _ hiM, hn1 _ hiN, fun i hi => ?_⟩ ⟨p, rfl, upd_same⟩⟩
        obtain ⟨a, ha, b, hb, h1, h2⟩ := cov i hi
        have := hMle (a : Int) (List.mem_map.mpr ⟨a, ha, rfl⟩)
        have := hNle (b : Int) (List.mem_map.mpr ⟨b, hb, rfl⟩)
        constructor
        · show iM ≤ i; omega
        · show i ≤ iN; omega
end
def fstV : Option (Nat × Nat) → V
  | none => .non
  | some ab => .int (ab.1 : Int)
def lstV : Option (Nat × Nat) → V
  | none => .non
  | some ab => .int (ab.2 : Int)
abbrev k_first_place : Nat := 44
inductive sp_first_place (K : PySem.W.Frag) (vs : List V) (H : Hp) (Q : VK) (E : XK) : Prop
  | mk (b : Addr) (v : V) (lo hi low : Int) (L : Nat) (g : G3) (_ : vs = [.ref b, v, .int lo, .int hi]) (_ : SqT K H b [.int low, .int (L : Int)]) (_ : L ≤ 40) (_ : StrAt H L v g) (_ : GoodS L g) (_ : ∀ (H' : Hp) (r : Option (Nat × Nat)), Same H H' → EndsOf g (btw low lo hi) r → Q (fstV r) H') : sp_first_place K vs H Q E
abbrev k_last_place : Nat := 44
inductive sp_last_place (K : PySem.W.Frag) (vs : List V) (H : Hp) (Q : VK) (E : XK) : Prop
  | mk (b : Addr) (v : V) (lo hi low : Int) (L : Nat) (g : G3) (_ : vs = [.ref b, v, .int lo, .int hi]) (_ : SqT K H b [.int low, .int (L : Int)]) (_ : L ≤ 40) (_ : StrAt H L v g) (_ : GoodS L g) (_ : ∀ (H' : Hp) (r : Option (Nat × Nat)), Same H H' → EndsOf g (btw low lo hi) r → Q (lstV r) H') : sp_last_place K vs H Q E
section
variable {P : Program} {w : World} {K : PySem.W.Frag} {mg : Str → Option Value} {base : Heap}
theorem ok_first_place (z : Bz K mg base) : Cal P w K mg base k_first_place "first_place" ["bounds", "stretch", "low", "high"] (sp_first_place K) := by
  have sc := sc_first_place
  refine z.d_first_place.cal fun f fd F => F.k sc fun cdv A outer s H vs Q E hr h => ?_
  obtain ⟨b, v, lo, hi, low, L, g, rfl, hb, hL, hv, hg, q⟩ := h
  refine ⟨_, (pss_cons (pst 4 sc.nd (pe_fn (ok_ends_between z) hr.m (by rfl) (pa_cons (pix ix_tup (pv 0) pe_int) (pa_cons (pe_fn (ok_many_worths z) hr.m (by rfl) (pa_cons (pix ix_tup (pv 0) pe_int) pa_nil)) (pa_cons (pv 1) (pa_cons (pv 2) (pa_cons (pv 3) pa_nil)))))))
 (pss_one (ps_ret (pe_ifExp (pt_cmpR op_isN (pv 4) pe_non (nomark _)) pe_non (pix ix_tup (pv 4) pe_int))))), ?_⟩
  refine ⟨_, rfl, b, _, _, _, rfl, rfl, hb, rfl, _, rfl, b, _, _, _, rfl, rfl, hb, rfl, L, rfl, hL, _, rfl, _, rfl, _, rfl, L, hL, low, lo, hi, v, g, rfl, hv, hg, fun H' r u s1 hr hu => ?_⟩
  have q' := q H' r s1 hr
  refine ⟨_, rfl, rfl, _, rfl, ?_⟩
  cases r with
  | none =>
    cases (show u = .non from hu)
    exact ite2 (fun _ => q') (fun c => absurd rfl c)
  | some ab =>
    obtain ⟨p, rfl, hp⟩ := hu
    exact ite2 (fun c => absurd (of_decide_eq_true c) (by intro z; cases z)) (fun _ => ⟨_, rfl, p, _, _, _, rfl, rfl, SqT.of hp, rfl, q'⟩)
theorem ok_last_place (z : Bz K mg base) : Cal P w K mg base k_last_place "last_place" ["bounds", "stretch", "low", "high"] (sp_last_place K) := by
  have sc := sc_last_place
  refine z.d_last_place.cal fun f fd F => F.k sc fun cdv A outer s H vs Q E hr h => ?_
  obtain ⟨b, v, lo, hi, low, L, g, rfl, hb, hL, hv, hg, q⟩ := h
  refine ⟨_, (pss_cons (pst 4 sc.nd (pe_fn (ok_ends_between z) hr.m (by rfl) (pa_cons (pix ix_tup (pv 0) pe_int) (pa_cons (pe_fn (ok_many_worths z) hr.m (by rfl) (pa_cons (pix ix_tup (pv 0) pe_int) pa_nil)) (pa_cons (pv 1) (pa_cons (pv 2) (pa_cons (pv 3) pa_nil)))))))
 (pss_one (ps_ret (pe_ifExp (pt_cmpR op_isN (pv 4) pe_non (nomark _)) pe_non (pix ix_tup (pv 4) pe_int))))), ?_⟩
  refine ⟨_, rfl, b, _, _, _, rfl, rfl, hb, rfl, _, rfl, b, _, _, _, rfl, rfl, hb, rfl, L, rfl, hL, _, rfl, _, rfl, _, rfl, L, hL, low, lo, hi, v, g, rfl, hv, hg, fun H' r u s1 hr hu => ?_⟩
  have q' := q H' r s1 hr
  refine ⟨_, rfl, rfl, _, rfl, ?_⟩
  cases r with
  | none =>
    cases (show u = .non from hu)
    exact ite2 (fun _ => q') (fun c => absurd rfl c)
  | some ab =>
    obtain ⟨p, rfl, hp⟩ := hu
    exact ite2 (fun c => absurd (of_decide_eq_true c) (by intro z; cases z)) (fun _ => ⟨_, rfl, p, _, _, _, rfl, rfl, SqT.of hp, rfl, q'⟩)
end
/-! ### turned about and flipped: what is told of the numbers -/
def flO (e : Nat) (o : Int) : Int := 2 ^ e - 1 - o
theorem p2s (e : Nat) : (2 : Int) ^ (e + 1) = 2 * 2 ^ e := by rw [Int.pow_succ]; omega
theorem half_rev (e : Nat) (w : Int) (us : List Int) : halfO e w us.reverse = (halfO e w us).reverse := by unfold halfO; rw [List.filter_reverse, List.map_reverse]
theorem ca_rev {part floor : Int} : ∀ (e : Nat) (least : Int) (us : List Int), caF part floor e least us.reverse = caF part floor e least us
  | 0, least, us => by unfold caF; rw [List.length_reverse]
  | e + 1, least, us => by unfold caF; rw [List.length_reverse, half_rev, half_rev, ca_rev e, ca_rev e]
theorem sel_rev {os : List Int} {st en : Nat} (h : en ≤ os.length) : sel (os.reverse, os.length - en, os.length - st) = (sel (os, st, en)).reverse := by
  show ((os.reverse).take (os.length - st)).drop (os.length - en) = ((os.take en).drop st).reverse
  by_cases hs : st ≤ os.length
  · rw [List.take_reverse, List.drop_reverse, List.drop_take, List.length_drop, show os.length - (os.length - st) = st by omega, show os.length - st - (os.length - en) = en - st by omega]
  · rw [show os.length - st = 0 by omega, List.take_zero, List.drop_nil, List.drop_eq_nil_of_le (by rw [List.length_take]; omega), List.reverse_nil]
theorem half_cons (e : Nat) (w o : Int) (us : List Int) : halfO e w (o :: us) = if mk0 e o = w then o % 2 ^ e :: halfO e w us else halfO e w us := by
  unfold halfO
  rw [List.filter_cons]
  by_cases h : mk0 e o = w
  · rw [if_pos h, if_pos (beq_iff_eq.mpr h), List.map_cons]
  · rw [if_neg h, if_neg (by rw [beq_iff_eq]; exact h)]
theorem flO_lo {e : Nat} {o : Int} (h0 : 0 ≤ o) (h1 : o < 2 ^ (e + 1)) : (mk0 e o = 0 ∧ o % 2 ^ e = o ∧ mk0 e (flO (e + 1) o) = 1 ∧ flO (e + 1) o % 2 ^ e = flO e o) ∨ (mk0 e o = 1 ∧ o % 2 ^ e = o - 2 ^ e ∧ mk0 e (flO (e + 1) o) = 0 ∧ flO (e + 1) o % 2 ^ e = flO e (o - 2 ^ e)) := by
  have hp : (0 : Int) < 2 ^ e := Int.pow_pos (by decide)
  have h2 := p2s e
  unfold mk0 flO
  by_cases c : o < 2 ^ e
  · refine .inl ⟨if_pos c, Int.emod_eq_of_lt h0 c, if_neg (by omega), ?_⟩
    rw [show (2 : Int) ^ (e + 1) - 1 - o = (2 ^ e - 1 - o) + 2 ^ e by omega, Int.add_emod_right, Int.emod_eq_of_lt (by omega) (by omega)]
  · refine .inr ⟨if_neg c, ?_, if_pos (by omega), ?_⟩
    · rw [show o = (o - 2 ^ e) + 2 ^ e by omega, Int.add_emod_right, Int.emod_eq_of_lt (by omega) (by omega)]
      omega
    · rw [Int.emod_eq_of_lt (by omega) (by omega)]
      omega
theorem half_flip {e : Nat} : ∀ {us : List Int}, InO (e + 1) us → halfO e 0 (us.map (flO (e + 1))) = (halfO e 1 us).map (flO e) ∧ halfO e 1 (us.map (flO (e + 1))) = (halfO e 0 us).map (flO e)
  | [], _ => ⟨rfl, rfl⟩
  | o :: us, h => by
    obtain ⟨i1, i2⟩ := half_flip fun x hx => h x (List.mem_cons_of_mem _ hx)
    obtain ⟨h0, h1⟩ := h o (List.mem_cons_self ..)
    rw [List.map_cons, half_cons, half_cons, half_cons, half_cons, i1, i2]
    rcases flO_lo h0 h1 with ⟨a, b, c, d⟩ | ⟨a, b, c, d⟩
    · rw [a, b, c, d, if_neg (by decide), if_neg (by decide), if_pos rfl, if_pos rfl]
      exact ⟨rfl, rfl⟩
    · rw [a, b, c, d, if_pos rfl, if_pos rfl, if_neg (by decide), if_neg (by decide)]
      exact ⟨rfl, rfl⟩
theorem in_half (e : Nat) (w : Int) (us : List Int) : InO e (halfO e w us) := fun o ho => by
  have hp : (0 : Int) < 2 ^ e := Int.pow_pos (by decide)
  obtain ⟨x, _, rfl⟩ := List.mem_map.mp ho
  exact ⟨Int.emod_nonneg _ (by omega), Int.emod_lt_of_pos _ hp⟩
theorem ca_shift {part floor d : Int} : ∀ (e : Nat) (least : Int) (us : List Int), caF part floor e (least + d) us = (caF part floor e least us).map fun p => (p.1 + d, p.2)
  | 0, least, us => by
    unfold caF
    split <;> rfl
  | e + 1, least, us => by
    unfold caF
    split
    · rfl
    · rw [ca_shift e, show least + d + 2 ^ e = (least + 2 ^ e) + d by omega, ca_shift e, List.map_append]
theorem ca_flip {part floor : Int} : ∀ (e : Nat) (least : Int) (us : List Int), InO e us → caF part floor e least (us.map (flO e)) = ((caF part floor e least us).map fun p => (2 * least + 2 ^ e - 1 - p.1, p.2)).reverse
  | 0, least, us, _ => by
    unfold caF
    rw [List.length_map]
    split
    · rfl
    · show [(least, (us.length : Int))] = [((2 * least + 2 ^ 0 - 1 - least : Int), (us.length : Int))]
      rw [show (2 * least + 2 ^ 0 - 1 - least : Int) = least by omega]
  | e + 1, least, us, h => by
    have h2 := p2s e
    unfold caF
    rw [List.length_map, (half_flip h).1, (half_flip h).2, ca_flip e _ _ (in_half e 1 us), ca_flip e _ _ (in_half e 0 us)]
    split
    · rfl
    · rw [List.map_append, List.reverse_append, ca_shift e least (halfO e 0 us) (d := 2 ^ e), ca_shift e least (halfO e 1 us) (d := 2 ^ e), List.map_map, List.map_map]
      congr 2
      · refine List.map_congr_left fun p _ => ?_
        show ((2 * least + 2 ^ e - 1 - p.1 : Int), p.2) = ((2 * least + 2 ^ (e + 1) - 1 - (p.1 + 2 ^ e) : Int), p.2)
        rw [h2, show (2 * least + 2 * 2 ^ e - 1 - (p.1 + 2 ^ e) : Int) = 2 * least + 2 ^ e - 1 - p.1 by omega]
      · refine List.map_congr_left fun p _ => ?_
        show ((2 * (least + 2 ^ e) + 2 ^ e - 1 - (p.1 + 2 ^ e) : Int), p.2) = ((2 * least + 2 ^ (e + 1) - 1 - p.1 : Int), p.2)
        rw [h2, show (2 * (least + 2 ^ e) + 2 ^ e - 1 - (p.1 + 2 ^ e) : Int) = 2 * least + 2 * 2 ^ e - 1 - p.1 by omega]
theorem lt_flip (e : Nat) (x : Int) : ∀ us : List Int, (us.map (flO e)).countP (fun o => decide (o < x)) + us.countP (fun o => decide (o < 2 ^ e - x)) = us.length
  | [] => rfl
  | o :: us => by
    have ih := lt_flip e x us
    rw [List.map_cons, List.countP_cons, List.countP_cons, List.length_cons]
    unfold flO at *
    by_cases c : o < 2 ^ e - x
    · rw [if_neg (by rw [decide_eq_true_eq]; omega), if_pos (decide_eq_true c)]; omega
    · rw [if_pos (by rw [decide_eq_true_eq]; omega), if_neg (by rw [decide_eq_true_eq]; exact c)]; omega
theorem kth_flip : ∀ (e : Nat) (us : List Int) (k : Nat), InO e us → k < us.length → kth e (us.map (flO e)) k = 2 ^ e - 1 - kth e us (us.length - 1 - k)
  | 0, us, k, _, _ => rfl
  | e + 1, us, k, h, hk => by
    have h2 := p2s e
    have hs := half_sum (e := e) us
    have f := half_flip h
    by_cases c : k < (halfO e 1 us).length
    · rw [kth_lo (by rw [f.1, List.length_map]; exact c), f.1, kth_flip e _ k (in_half e 1 us) c, kth_hi (by omega), h2, show us.length - 1 - k - (halfO e 0 us).length = (halfO e 1 us).length - 1 - k by omega]
      omega
    · rw [kth_hi (by rw [f.1, List.length_map]; exact c), f.1, f.2, List.length_map, kth_flip e _ _ (in_half e 0 us) (by omega), kth_lo (by omega), h2, show (halfO e 0 us).length - 1 - (k - (halfO e 1 us).length) = us.length - 1 - k by omega]
      omega
theorem nx_flip {L : Nat} {low num : Int} {us : List Int} (h : InO L us) : (stp L low (us.map (flO L))).find? (fun q => decide (2 * low + 2 ^ L - 1 - num < q.1)) = ((stp L low us).reverse.find? fun q => decide (q.1 < num)).map fun p => (2 * low + 2 ^ L - 1 - p.1, p.2) := by
  unfold stp
  rw [ca_flip L low us h, ← List.map_reverse, List.find?_map]
  congr 1
  refine congrFun (congrArg _ (funext fun q => ?_)) _
  show decide (2 * low + 2 ^ L - 1 - num < 2 * low + 2 ^ L - 1 - q.1) = decide (q.1 < num)
  exact decide_eq_decide.mpr ⟨fun z => by omega, fun z => by omega⟩
theorem hit_rev {os : List Int} {st en : Nat} {p : Int → Bool} (he : en ≤ os.length) {i : Nat} (h : Hit (os.reverse, os.length - en, os.length - st) p i) : i < os.length ∧ Hit (os, st, en) p (os.length - 1 - i) := by
  obtain ⟨h1, h2, o, h3, h4⟩ := h
  have h1' : os.length - en ≤ i := h1
  have h2' : i < os.length - st := h2
  have h3' : os.reverse[i]? = some o := h3
  have hi : i < os.length := by omega
  rw [List.getElem?_reverse hi] at h3'
  exact ⟨hi, ⟨by show st ≤ os.length - 1 - i; omega, by show os.length - 1 - i < en; omega, o, h3', h4⟩⟩
theorem hit_rev' {os : List Int} {st en : Nat} {p : Int → Bool} (he : en ≤ os.length) {i : Nat} (h : Hit (os, st, en) p i) : i < os.length ∧ Hit (os.reverse, os.length - en, os.length - st) p (os.length - 1 - i) := by
  obtain ⟨h1, h2, o, h3, h4⟩ := h
  have h1' : st ≤ i := h1
  have h2' : i < en := h2
  have h3' : os[i]? = some o := h3
  have hi : i < os.length := by omega
  refine ⟨hi, ⟨by show os.length - en ≤ os.length - 1 - i; omega, by show os.length - 1 - i < os.length - st; omega, o, ?_, h4⟩⟩
  show os.reverse[os.length - 1 - i]? = some o
  rw [List.getElem?_reverse (by omega), show os.length - 1 - (os.length - 1 - i) = i by omega]
  exact h3'
theorem ends_rev {os : List Int} {st en : Nat} {p : Int → Bool} (he : en ≤ os.length) {r r' : Option (Nat × Nat)} (h : EndsOf (os, st, en) p r) (h' : EndsOf (os.reverse, os.length - en, os.length - st) p r') :
    (r = none ∧ r' = none) ∨ ∃ a b : Nat × Nat, r = some a ∧ r' = some b ∧ a.1 + b.2 = os.length - 1 ∧ 0 < os.length := by
  cases r with
  | none =>
    cases r' with
    | none => exact .inl ⟨rfl, rfl⟩
    | some b => exact absurd (hit_rev he h'.1).2 (h _)
  | some a =>
    cases r' with
    | none => exact absurd (hit_rev' he h.1).2 (h' _)
    | some b =>
      obtain ⟨i1, i2⟩ := hit_rev' he h.1
      obtain ⟨j1, j2⟩ := hit_rev he h'.2.1
      have x1 := (h'.2.2 _ i2).2
      have x2 := (h.2.2 _ j2).1
      exact .inr ⟨a, b, rfl, rfl, by omega, by omega⟩
/-! ### papers -/
inductive Pap where
  | all (n : Int)
  | split (n : Int) (l r : Pap)
def papF (φ : Int → Int → Int → Bool) : Nat → Int → List Int → Pap
  | 0, _, us => .all us.length
  | e + 1, least, us => if φ least (least + 2 ^ (e + 1) - 1) us.length = true then .split us.length (papF φ e least (halfO e 0 us)) (papF φ e (least + 2 ^ e) (halfO e 1 us)) else .all us.length
def exP : Pap → Pap
  | .all n => .all n
  | .split n l r => .split n (exP r) (exP l)
def Kp : Nat → List Int → Pap → Prop
  | _, us, .all n => n = us.length
  | 0, _, .split _ _ _ => False
  | e + 1, us, .split n l r => n = us.length ∧ Kp e (halfO e 0 us) l ∧ Kp e (halfO e 1 us) r
def dpP : Pap → Nat
  | .all _ => 0
  | .split _ l r => max (dpP l) (dpP r) + 1
theorem pap_dp {φ : Int → Int → Int → Bool} : ∀ (e : Nat) (least : Int) (us : List Int), dpP (papF φ e least us) ≤ e
  | 0, _, _ => Nat.le_refl _
  | e + 1, least, us => by
    unfold papF
    split
    · show max _ _ + 1 ≤ e + 1
      have := pap_dp (φ := φ) e least (halfO e 0 us)
      have := pap_dp (φ := φ) e (least + 2 ^ e) (halfO e 1 us)
      omega
    · exact Nat.zero_le _
theorem ex_dp : ∀ p : Pap, dpP (exP p) = dpP p
  | .all _ => rfl
  | .split n l r => by
    show max (dpP (exP r)) (dpP (exP l)) + 1 = max (dpP l) (dpP r) + 1
    rw [ex_dp l, ex_dp r, Nat.max_comm]
theorem kp_flip {φ : Int → Int → Int → Bool} : ∀ (e : Nat) (least : Int) (us : List Int), InO e us → Kp e (us.map (flO e)) (exP (papF φ e least us))
  | 0, _, us, _ => by show (us.length : Int) = ((us.map (flO 0)).length : Nat); rw [List.length_map]
  | e + 1, least, us, h => by
    unfold papF
    split
    · refine ⟨by rw [List.length_map], ?_, ?_⟩
      · rw [(half_flip h).1]; exact kp_flip e _ _ (in_half e 1 us)
      · rw [(half_flip h).2]; exact kp_flip e _ _ (in_half e 0 us)
    · show (us.length : Int) = ((us.map (flO (e + 1))).length : Nat)
      rw [List.length_map]
theorem pap_flip {ψ : Int → Bool} : ∀ (e : Nat) (least least' : Int) (us : List Int), InO e us → papF (fun _ _ t => ψ t) e least (us.map (flO e)) = exP (papF (fun _ _ t => ψ t) e least' us)
  | 0, _, _, us, _ => by show Pap.all ((us.map (flO 0)).length : Nat) = Pap.all (us.length : Nat); rw [List.length_map]
  | e + 1, least, least', us, h => by
    unfold papF
    rw [List.length_map, (half_flip h).1, (half_flip h).2, pap_flip e least (least' + 2 ^ e) _ (in_half e 1 us), pap_flip e (least + 2 ^ e) least' _ (in_half e 0 us)]
    split <;> rfl
/-! ### papers where they lie -/
def PapAt (H : Hp) : V → Pap → Prop
  | v, .all n => ∃ a, v = .ref a ∧ H a = some (.tup [.str "all", .int n])
  | v, .split n l r => ∃ a x y, v = .ref a ∧ H a = some (.tup [.str "split", .int n, x, y]) ∧ PapAt H x l ∧ PapAt H y r
theorem PapAt.tk {H H' : Hp} (k : TKeep H H') : ∀ {p : Pap} {v : V}, PapAt H v p → PapAt H' v p
  | .all _, _, ⟨a, e, h⟩ => ⟨a, e, (k _ _).1 h⟩
  | .split _ _ _, _, ⟨a, x, y, e, h, h1, h2⟩ => ⟨a, x, y, e, (k _ _).1 h, PapAt.tk k h1, PapAt.tk k h2⟩
theorem PapAt.tp {H H' : Hp} (k : ∀ b xs, H b = some (.tup xs) → H' b = some (.tup xs)) : ∀ {p : Pap} {v : V}, PapAt H v p → PapAt H' v p
  | .all _, _, ⟨a, e, h⟩ => ⟨a, e, k _ _ h⟩
  | .split _ _ _, _, ⟨a, x, y, e, h, h1, h2⟩ => ⟨a, x, y, e, k _ _ h, PapAt.tp k h1, PapAt.tp k h2⟩
theorem PapAt.same {H H' : Hp} {p : Pap} {v : V} (h : PapAt H v p) (s : Same H H') : PapAt H' v p := PapAt.tk (.same s) h
theorem alk_pap {K : PySem.W.Frag} {H : Hp} : ∀ {p : Pap} {x y : V}, PapAt H x p → PapAt H y p → Alk K H (dpP p + 2) x y
  | .all n, x, y, ⟨a, ea, ha⟩, ⟨b, eb, hb⟩ => by
    subst ea eb
    refine .tup (SqT.of ha) (SqT.of hb) rfl fun j x y h1 h2 => ?_
    match j, h1, h2 with
    | 0, h1, h2 => cases h1; cases h2; exact .flat rfl
    | 1, h1, h2 => cases h1; cases h2; exact .flat rfl
  | .split n l r, x, y, ⟨a, x1, y1, ea, ha, hl, hr⟩, ⟨b, x2, y2, eb, hb, hl', hr'⟩ => by
    subst ea eb
    have hd : dpP (.split n l r) = max (dpP l) (dpP r) + 1 := rfl
    rw [hd]
    refine .tup (SqT.of ha) (SqT.of hb) rfl fun j x y h1 h2 => ?_
    match j, h1, h2 with
    | 0, h1, h2 => cases h1; cases h2; exact .flat rfl
    | 1, h1, h2 => cases h1; cases h2; exact .flat rfl
    | 2, h1, h2 => cases h1; cases h2; exact (alk_pap hl hl').up (by omega)
    | 3, h1, h2 => cases h1; cases h2; exact (alk_pap hr hr').up (by omega)
def clP : Pap → Bool
  | .all _ => true
  | .split _ _ _ => false
theorem kit_tup {K : PySem.W.Frag} : PySem.W.kitOne K (.type "tuple") (.type "tuple") = some true := by kernel_rfl
abbrev k_is_whole : Nat := 1
inductive sp_is_whole (u0 : PySem.W.Frag) (vs : List V) (H : Hp) (Q : VK) (E : XK) : Prop
  | mk (n : Int) (_ : vs = [.int n]) (_ : Q (.bl true) H) : sp_is_whole u0 vs H Q E
abbrev k_is_word : Nat := 1
inductive sp_is_word (u0 : PySem.W.Frag) (vs : List V) (H : Hp) (Q : VK) (E : XK) : Prop
  | mk (a b : Str) (_ : vs = [.str a, .str b]) (_ : Q (.bl (decide (a = b))) H) : sp_is_word u0 vs H Q E
abbrev k_is_closed : Nat := 2
inductive sp_is_closed (u0 : PySem.W.Frag) (vs : List V) (H : Hp) (Q : VK) (E : XK) : Prop
  | mk (v : V) (p : Pap) (_ : vs = [v]) (_ : PapAt H v p) (_ : Q (.bl (clP p)) H) : sp_is_closed u0 vs H Q E
abbrev k_is_split : Nat := 2
inductive sp_is_split (u0 : PySem.W.Frag) (vs : List V) (H : Hp) (Q : VK) (E : XK) : Prop
  | mk (v : V) (p : Pap) (_ : vs = [v]) (_ : PapAt H v p) (_ : Q (.bl (!clP p)) H) : sp_is_split u0 vs H Q E
abbrev kb_is_kept : Nat := 3
abbrev kn_is_kept : Nat := 40
abbrev k_is_kept : Nat := 44
inductive spe_is_kept (u0 : PySem.W.Frag) (e : Nat) (vs : List V) (H : Hp) (Q : VK) (E : XK) : Prop
  | mk (pa : Addr) (v : V) (p : Pap) (xs : List V) (gs : List G3) (_ : vs = [.int (e : Int), .ref pa, v]) (_ : H pa = some (.lst xs)) (_ : GatAt H e xs gs) (_ : (∀ g ∈ gs, GoodS e g)) (_ : gs.length ≤ 100) (_ : PapAt H v p) (_ : Kp e (Wh gs) p) (_ : ∀ H', Same H H' → Q (.bl true) H') : spe_is_kept u0 e vs H Q E
def sp_is_kept (K : PySem.W.Frag) : Sp := fun vs H Q E => ∃ e, e ≤ kn_is_kept ∧ spe_is_kept K e vs H Q E
abbrev k_keeps : Nat := 45
inductive sp_keeps (u0 : PySem.W.Frag) (vs : List V) (H : Hp) (Q : VK) (E : XK) : Prop
  | mk (ga : Addr) (v : V) (p : Pap) (L : Nat) (xs : List V) (gs : List G3) (_ : vs = [.int (L : Int), .ref ga, v]) (_ : L ≤ 40) (_ : H ga = some (.lst xs)) (_ : GatAt H L xs gs) (_ : (∀ g ∈ gs, GoodS L g)) (_ : gs.length ≤ 100) (_ : PapAt H v p) (_ : Kp L (Wh gs) p) (_ : ∀ H', Same H H' → Q (.bl true) H') : sp_keeps u0 vs H Q E
abbrev kb_paper_from : Nat := 3
abbrev kn_paper_from : Nat := 40
abbrev k_paper_from : Nat := 44
def f3 (ψ : List Int → Bool) : Int → Int → Int → Bool := fun a b c => ψ [a, b, c]
inductive spe_paper_from (K : PySem.W.Frag) (e : Nat) (vs : List V) (H : Hp) (Q : VK) (E : XK) : Prop
  | mk (least : Int) (pa f : Addr) (xs : List V) (gs : List G3) (C : List Int → Prop) (ψ : List Int → Bool) (_ : vs = [.int least, .int (2 ^ e), .ref pa, .ref f]) (_ : SqL K H pa xs) (_ : GatAt H e xs gs) (_ : (∀ g ∈ gs, GoodS e g)) (_ : gs.length ≤ 100) (_ : (Wh gs).length ≤ 900) (_ : Lam K 2 H f C ψ) (_ : (∀ a b c : Int, 0 ≤ c → c ≤ 1000 → C [a, b, c])) (_ : ∀ (H' : Hp) (v : V), Same H H' → PapAt H' v (papF (f3 ψ) e least (Wh gs)) → Q v H') : spe_paper_from K e vs H Q E
def sp_paper_from (K : PySem.W.Frag) : Sp := fun vs H Q E => ∃ e, e ≤ kn_paper_from ∧ spe_paper_from K e vs H Q E
abbrev k_told_paper : Nat := 45
inductive sp_told_paper (K : PySem.W.Frag) (vs : List V) (H : Hp) (Q : VK) (E : XK) : Prop
  | mk (b ga f : Addr) (xs : List V) (low : Int) (L : Nat) (gs : List G3) (C : List Int → Prop) (ψ : List Int → Bool) (_ : vs = [.ref b, .ref ga, .ref f]) (_ : SqT K H b [.int low, .int (L : Int)]) (_ : L ≤ 40) (_ : SqL K H ga xs) (_ : GatAt H L xs gs) (_ : (∀ g ∈ gs, GoodS L g)) (_ : gs.length ≤ 100) (_ : (Wh gs).length ≤ 900) (_ : Lam K 2 H f C ψ) (_ : (∀ a b c : Int, 0 ≤ c → c ≤ 1000 → C [a, b, c])) (_ : ∀ (H' : Hp) (v : V), Same H H' → PapAt H' v (papF (f3 ψ) L low (Wh gs)) → Q v H') : sp_told_paper K vs H Q E
abbrev kb__law_exchanged : Nat := 0
abbrev kn__law_exchanged : Nat := 40
abbrev k__law_exchanged : Nat := 41
inductive spe__law_exchanged (u0 : PySem.W.Frag) (e : Nat) (vs : List V) (H : Hp) (Q : VK) (E : XK) : Prop
  | mk (v : V) (p : Pap) (_ : vs = [v]) (_ : PapAt H v p) (_ : dpP p ≤ e) (_ : ∀ (H' : Hp) (u : V), Same H H' → PapAt H' u (exP p) → Q u H') : spe__law_exchanged u0 e vs H Q E
def sp__law_exchanged (K : PySem.W.Frag) : Sp := fun vs H Q E => ∃ e, e ≤ kn__law_exchanged ∧ spe__law_exchanged K e vs H Q E
section
variable {P : Program} {w : World} {K : PySem.W.Frag} {mg : Str → Option Value} {base : Heap}
theorem ok_is_whole (z : Bz K mg base) : Cal P w K mg base k_is_whole "is_whole" ["thing"] (sp_is_whole K) := by
  have sc := sc_is_whole
  refine z.d_is_whole.cal fun f fd F => F.k sc fun cdv A outer s H vs Q E hr h => ?_
  obtain ⟨n, rfl, q⟩ := h
  refine ⟨_, (pss_one (ps_ret (pe_and (pe_callB call_isi (by rfl) z.isinstance_ bt_isinstance (pa_cons (pv 0) (pa_cons (pe_bltn (v := .ty "int") (u := .type "int") (by rfl) z.int_ bt_int rfl) pa_nil))) (pe_one (pe_not (pe_callB call_isi (by rfl) z.isinstance_ bt_isinstance (pa_cons (pv 0) (pa_cons (pe_bltn (v := .ty "bool") (u := .type "bool") (by rfl) z.bool_ bt_bool rfl) pa_nil)))))))), ?_⟩
  refine ⟨_, rfl, _, _, _, _, rfl, .int _, kit_int_int, _, rfl, ?_⟩
  refine ite2 (fun _ => ?_) (fun c => absurd rfl c)
  exact ⟨_, rfl, _, _, _, _, rfl, .int _, kit_int_bool, _, rfl, q⟩
theorem ok_is_word (z : Bz K mg base) : Cal P w K mg base k_is_word "is_word" ["thing", "word"] (sp_is_word K) := by
  have sc := sc_is_word
  refine z.d_is_word.cal fun f fd F => F.k sc fun cdv A outer s H vs Q E hr h => ?_
  obtain ⟨a, b, rfl, q⟩ := h
  refine ⟨_, (pss_one (ps_ret (pe_and (pe_callB call_isi (by rfl) z.isinstance_ bt_isinstance (pa_cons (pv 0) (pa_cons (pe_bltn (v := .ty "str") (u := .type "str") (by rfl) z.str_ bt_str rfl) pa_nil))) (pe_one (pe_cmpR op_eq (pv 0) (pv 1) (nomark _)))))), ?_⟩
  refine ⟨_, rfl, _, _, _, _, rfl, .str _, kit_str_str, _, rfl, ?_⟩
  refine ite2 (fun _ => ?_) (fun c => absurd rfl c)
  refine ⟨_, rfl, _, rfl, rfl, ?_⟩
  have e : decide (V.str a = V.str b) = decide (a = b) := by
    by_cases h : a = b
    · rw [h]; simp
    · rw [decide_eq_false h, decide_eq_false (fun z => h (V.str.inj z))]
  rw [e]
  exact q
theorem ok_is_closed (z : Bz K mg base) : Cal P w K mg base k_is_closed "is_closed" ["thing"] (sp_is_closed K) := by
  have sc := sc_is_closed
  refine z.d_is_closed.cal fun f fd F => F.k sc fun cdv A outer s H vs Q E hr h => ?_
  obtain ⟨v, p, rfl, hv, q⟩ := h
  refine ⟨_, (pss_one (ps_ret (pe_and (pe_callB call_isi (by rfl) z.isinstance_ bt_isinstance (pa_cons (pv 0) (pa_cons (pe_bltn (v := .ty "tuple") (u := .type "tuple") (by rfl) z.tuple_ bt_tuple rfl) pa_nil))) (pe_and (pe_cmpR op_eq (pln z.len_ (pa_cons (pv 0) pa_nil)) pe_int (nomark _)) (pe_and (pe_fn (ok_is_word z) hr.m (by rfl) (pa_cons (pix ix_tup (pv 0) pe_int) (pa_cons pe_str pa_nil))) (pe_one (pe_fn (ok_is_whole z) hr.m (by rfl) (pa_cons (pix ix_tup (pv 0) pe_int) pa_nil)))))))), ?_⟩
  cases p with
  | all n =>
    obtain ⟨a, rfl, h⟩ := hv
    refine ⟨_, rfl, _, _, _, _, rfl, .tup h, kit_tup, _, rfl, ?_⟩
    refine ite2 (fun _ => ?_) (fun c => absurd rfl c)
    refine ⟨_, rfl, a, _, rfl, .inr (SqT.of h), rfl, _, rfl, ?_⟩
    refine ite2 (fun _ => ?_) (fun c => absurd (decide_eq_true rfl) c)
    refine ⟨_, rfl, a, _, _, _, rfl, rfl, SqT.of h, rfl, _, _, rfl, _, rfl, ?_⟩
    refine ite2 (fun _ => ?_) (fun c => absurd (decide_eq_true rfl) c)
    exact ⟨_, rfl, a, _, _, _, rfl, rfl, SqT.of h, rfl, _, rfl, q⟩
  | split n l r =>
    obtain ⟨a, x, y, rfl, h, _, _⟩ := hv
    refine ⟨_, rfl, _, _, _, _, rfl, .tup h, kit_tup, _, rfl, ?_⟩
    refine ite2 (fun _ => ?_) (fun c => absurd rfl c)
    refine ⟨_, rfl, a, _, rfl, .inr (SqT.of h), rfl, _, rfl, ?_⟩
    exact ite2 (fun c => absurd (V.int.inj (of_decide_eq_true c)) (show ¬ (4 : Int) = 2 by decide)) (fun _ => q)
theorem ok_is_split (z : Bz K mg base) : Cal P w K mg base k_is_split "is_split" ["thing"] (sp_is_split K) := by
  have sc := sc_is_split
  refine z.d_is_split.cal fun f fd F => F.k sc fun cdv A outer s H vs Q E hr h => ?_
  obtain ⟨v, p, rfl, hv, q⟩ := h
  refine ⟨_, (pss_one (ps_ret (pe_and (pe_callB call_isi (by rfl) z.isinstance_ bt_isinstance (pa_cons (pv 0) (pa_cons (pe_bltn (v := .ty "tuple") (u := .type "tuple") (by rfl) z.tuple_ bt_tuple rfl) pa_nil))) (pe_and (pe_cmpR op_eq (pln z.len_ (pa_cons (pv 0) pa_nil)) pe_int (nomark _)) (pe_and (pe_fn (ok_is_word z) hr.m (by rfl) (pa_cons (pix ix_tup (pv 0) pe_int) (pa_cons pe_str pa_nil))) (pe_one (pe_fn (ok_is_whole z) hr.m (by rfl) (pa_cons (pix ix_tup (pv 0) pe_int) pa_nil)))))))), ?_⟩
  cases p with
  | all n =>
    obtain ⟨a, rfl, h⟩ := hv
    refine ⟨_, rfl, _, _, _, _, rfl, .tup h, kit_tup, _, rfl, ?_⟩
    refine ite2 (fun _ => ?_) (fun c => absurd rfl c)
    refine ⟨_, rfl, a, _, rfl, .inr (SqT.of h), rfl, _, rfl, ?_⟩
    exact ite2 (fun c => absurd (V.int.inj (of_decide_eq_true c)) (show ¬ (2 : Int) = 4 by decide)) (fun _ => q)
  | split n l r =>
    obtain ⟨a, x, y, rfl, h, _, _⟩ := hv
    refine ⟨_, rfl, _, _, _, _, rfl, .tup h, kit_tup, _, rfl, ?_⟩
    refine ite2 (fun _ => ?_) (fun c => absurd rfl c)
    refine ⟨_, rfl, a, _, rfl, .inr (SqT.of h), rfl, _, rfl, ?_⟩
    refine ite2 (fun _ => ?_) (fun c => absurd (decide_eq_true rfl) c)
    refine ⟨_, rfl, a, _, _, _, rfl, rfl, SqT.of h, rfl, _, _, rfl, _, rfl, ?_⟩
    refine ite2 (fun _ => ?_) (fun c => absurd (decide_eq_true rfl) c)
    exact ⟨_, rfl, a, _, _, _, rfl, rfl, SqT.of h, rfl, _, rfl, q⟩
theorem ok_is_kept (z : Bz K mg base) : Cal P w K mg base k_is_kept "is_kept" ["levels", "parts", "thing"] (sp_is_kept K) := by
  have sc := sc_is_kept
  refine z.d_is_kept.recur (k := kb_is_kept) (sp := spe_is_kept K) kn_is_kept fun e hen c_is_kept f fd F => F.k sc fun cdv A outer s H vs Q E hr h => ?_
  obtain ⟨pa, v, p, xs, gs, rfl, hpa, hg, hgd, hgl, hv, hk, q⟩ := h
  refine ⟨_, (pss_cons (ps_if (pt_val (pe_fn (ok_is_closed z) (hr.mono (Nat.le_trans (by decide : k_is_closed ≤ kb_is_kept) (Nat.le_add_left _ _))) (by rfl) (pa_cons (pv 2) pa_nil)))
  (pss_one (ps_ret (pe_cmpR op_eq (pix ix_tup (pv 2) pe_int) (pe_fn (ok_many_in z) (hr.mono (Nat.le_trans (by decide : k_many_in ≤ kb_is_kept) (Nat.le_add_left _ _))) (by rfl) (pa_cons (pv 1) pa_nil)) (nomark _))))
  pss_nil)
 (pss_cons (ps_if (PW.pt (pw_or (pt_cmpR op_eq (pv 0) pe_int (nomark _)) (pw_or (pt_not (pt_val (pe_fn (ok_is_split z) (hr.mono (Nat.le_trans (by decide : k_is_split ≤ kb_is_kept) (Nat.le_add_left _ _))) (by rfl) (pa_cons (pv 2) pa_nil)))) (pw_or1 (pt_cmpR op_ne (pix ix_tup (pv 2) pe_int) (pe_fn (ok_many_in z) (hr.mono (Nat.le_trans (by decide : k_many_in ≤ kb_is_kept) (Nat.le_add_left _ _))) (by rfl) (pa_cons (pv 1) pa_nil)) (nomark _))))))
  (pss_one (ps_ret pe_bl))
  pss_nil)
 (pss_cons (ps_for PassesOwn.never rfl (pi_tup (pe_tup (pa_cons pe_int (pa_cons pe_int pa_nil)))) (pgn 3 sc.nd)
  (pss_one (ps_if (pt_not (pt_val (pe_fn c_is_kept (hr.mono (Nat.le_refl _)) (by rfl) (pa_cons (pe_op op_sub (pv 0) pe_int) (pa_cons (pe_fn (ok_filled z) (hr.mono (Nat.le_trans (by decide : k_filled ≤ kb_is_kept) (Nat.le_add_left _ _))) (by rfl) (pa_cons (pe_fn (ok_led z) (hr.mono (Nat.le_trans (by decide : k_led ≤ kb_is_kept) (Nat.le_add_left _ _))) (by rfl) (pa_cons (pv 1) (pa_cons (pe_tup (pa_cons (pv 3) pa_nil)) pa_nil))) pa_nil)) (pa_cons (pix ix_tup (pv 2) (pe_op op_add pe_int (pv 3))) pa_nil))))))
  (pss_one (ps_ret pe_bl))
  pss_nil)))
 (pss_one (ps_ret pe_bl))))), ?_⟩
  have hm : manyG gs = ((Wh gs).length : Nat) := manyG_W hgd
  refine ⟨_, rfl, v, p, rfl, hv, _, rfl, ?_⟩
  cases p with
  | all n =>
    refine ite2 (fun _ => ?_) (fun c => absurd rfl c)
    obtain ⟨a, rfl, h⟩ := hv
    have hk' : n = ((Wh gs).length : Nat) := by cases e <;> exact hk
    subst hk'
    refine ⟨_, rfl, a, _, _, _, rfl, rfl, SqT.of h, rfl, _, rfl, pa, xs, e, gs, rfl, SqL.of hpa, hg, by omega, fun H' s' => ⟨rfl, ?_⟩⟩
    rw [hm, decide_eq_true rfl]
    exact q H' s'
  | split n l r =>
    refine ite2 (fun c => absurd c Bool.false_ne_true) (fun _ => ?_)
    refine ⟨_, rfl, rfl, _, rfl, ?_⟩
    cases e with
    | zero => exact hk.elim
    | succ e =>
      obtain ⟨hn, hl, hr2⟩ := hk
      refine ite2 (fun c => absurd (V.int.inj (of_decide_eq_true c)) (by omega)) (fun _ => ?_)
      refine ⟨_, rfl, v, _, rfl, hv, _, rfl, ?_⟩
      refine ite2 (fun c => absurd c Bool.false_ne_true) (fun _ => ?_)
      obtain ⟨a, x, y, rfl, h, h1, h2⟩ := hv
      subst hn
      refine ⟨_, rfl, a, _, _, _, rfl, rfl, SqT.of h, rfl, _, rfl, pa, xs, e + 1, gs, rfl, SqL.of hpa, hg, by omega, fun H1 s1 => ⟨rfl, _, rfl, ?_⟩⟩
      rw [hm, decide_eq_true rfl]
      refine ite2 (fun z => absurd z (by decide)) (fun _ => ?_)
      refine ⟨szb rfl, fun tp htp => ?_⟩
      have s2 := same_new htp (.tup [V.int 0, .int 1])
      have e2 : upd H1 tp (.tup [V.int 0, .int 1]) tp = some (.tup [V.int 0, .int 1]) := upd_same
      have s02 := s1.trans s2
      generalize upd H1 tp (.tup [V.int 0, .int 1]) = H2 at *
      refine ⟨tp, rfl, ⟨_, SqT.of e2⟩, for_tup (K := K) (a := tp) (xs := [V.int 0, .int 1]) (fun i σ G => ∃ (w3 : Option V), σ = [some (.int ((e + 1 : Nat) : Int)), some (.ref pa), some (.ref a), w3] ∧ Same H2 G)
        ⟨_, rfl, Same.refl _⟩ (fun i σ G _ ⟨_, _, s⟩ => SqT.of (s _ _ e2)) ?_ ?_⟩
      · rintro i y' σ G hi ⟨w3, rfl, sG⟩
        obtain ⟨mk, vv, xx, rfl, hmk, hat, hxx, hkk⟩ : ∃ (mk : Int) (vv : V) (xx : Pap), y' = .int mk ∧ (mk = 0 ∨ mk = 1) ∧ atI [V.str "split", V.int ((Wh gs).length : Nat), x, y] (2 + mk) = some vv ∧ PapAt H vv xx ∧ Kp e (halfO e mk (Wh gs)) xx := by
          match i, hi with
          | 0, hi => cases hi; exact ⟨0, x, _, rfl, .inl rfl, rfl, h1, hl⟩
          | 1, hi => cases hi; exact ⟨1, y, _, rfl, .inr rfl, rfl, h2, hr2⟩
        have sHG := s02.trans sG
        refine ⟨_, rfl, _, _, rfl, rfl, _, rfl, _, rfl, szb rfl, fun w0 hw0 => ?_⟩
        have t1 := same_new hw0 (.tup [V.int mk])
        have ew0 : upd G w0 (.tup [V.int mk]) w0 = some (.tup ([mk].map V.int)) := upd_same
        generalize upd G w0 (.tup [V.int mk]) = G1 at *
        have s1' := sHG.trans t1
        refine ⟨pa, w0, xs, e + 1, [mk], gs, rfl, SqL.of (s1' _ _ hpa), hg.same s1', hgd, by omega, SqT.of ew0, by simp, fun m hm => by rw [List.mem_singleton.mp hm]; exact hmk, fun G2 D2 ys t2 hD2 _ hg2 => ?_⟩
        have eled : gs.map (ledS (e + 1) [mk]) = gs.map (led1 e mk) := List.map_congr_left fun g _ => by rw [ledS_cons, ledS_empty]
        rw [eled] at hg2
        refine ⟨D2, ys, _, _, rfl, SqL.of hD2, hg2, by rw [List.length_map]; omega, fun G3' D3 y3 t3 hD3 _ hg3 => ?_⟩
        have hg3' : GatAt G3' e y3 (fillG (gs.map (led1 e mk))) := hg3
        have s13 := s1'.trans (t2.trans t3)
        refine ⟨_, rfl, _, rfl, _, _, rfl, rfl, a, _, _, _, rfl, rfl, SqT.of (s13 _ _ h), hat, ?_⟩
        have ee : (((e + 1 : Nat) : Int) - 1) = (e : Int) := by omega
        refine ⟨D3, vv, xx, y3, fillG (gs.map (led1 e mk)), congrArg (fun t => [V.int t, V.ref D3, vv]) ee, hD3, hg3', fill_good (fun g hg' => ?_), ?_, hxx.same s13, ?_, fun G4 t4 => ⟨_, rfl, iteF ⟨_, rfl, sG.trans (t1.trans (t2.trans (t3.trans t4)))⟩⟩⟩
        · obtain ⟨g0, hg0, rfl⟩ := List.mem_map.mp hg'
          exact led1_good (hgd g0 hg0)
        · exact Nat.le_trans (List.length_filter_le _ _) (by rw [List.length_map]; exact hgl)
        · rw [W_fill, W_led hgd]
          exact hkk
      · rintro σ G ⟨w3, rfl, sG⟩
        exact q G (s02.trans sG)
theorem ok_keeps (z : Bz K mg base) : Cal P w K mg base k_keeps "keeps" ["levels", "gathering", "paper"] (sp_keeps K) := by
  have sc := sc_keeps
  refine z.d_keeps.cal fun f fd F => F.k sc fun cdv A outer s H vs Q E hr h => ?_
  obtain ⟨ga, v, p, L, xs, gs, rfl, hL, hga, hg, hgd, hl, hv, hk, q⟩ := h
  refine ⟨_, (pss_one (ps_ret (pe_fn (ok_is_kept z) hr.m (by rfl) (pa_cons (pv 0) (pa_cons (pe_fn (ok_filled z) hr.m (by rfl) (pa_cons (pv 1) pa_nil)) (pa_cons (pv 2) pa_nil)))))), ?_⟩
  refine ⟨_, rfl, _, rfl, ga, xs, L, gs, rfl, SqL.of hga, hg, by omega, fun H1 D1 z1 s1 hD1 _ hg1 => ?_⟩
  exact ⟨_, rfl, L, hL, D1, v, p, z1, fillG gs, rfl, hD1, hg1, fill_good hgd, Nat.le_trans (List.length_filter_le _ _) hl, hv.same s1, by rw [W_fill]; exact hk, fun H2 s2 => q H2 (s1.trans s2)⟩
theorem ok_paper_from (z : Bz K mg base) : Cal P w K mg base k_paper_from "paper_from" ["least", "many", "parts", "must_split"] (sp_paper_from K) := by
  have sc := sc_paper_from
  refine z.d_paper_from.recur (k := kb_paper_from) (sp := spe_paper_from K) kn_paper_from fun e hen c_paper_from f fd F => F.k sc fun cdv A outer s H vs Q E hr h => ?_
  obtain ⟨least, pa, fa, xs, gs, C, ψ, rfl, hpa, hg, hgd, hl, hw, hf, hC, q⟩ := h
  refine ⟨_, (pss_cons (pst 4 sc.nd (pe_fn (ok_many_in z) (hr.mono (Nat.le_trans (by decide : k_many_in ≤ kb_paper_from) (Nat.le_add_left _ _))) (by rfl) (pa_cons (pv 2) pa_nil)))
 (pss_cons (ps_if (PW.pt (pw_or (pt_cmpR op_eq (pv 1) pe_int (nomark _)) (pw_or1 (pt_not (pt_val (pe_callV (k := 2) 3 (hr.mono (Nat.le_trans (by decide : 2 ≤ kb_paper_from) (Nat.le_add_left _ _))) (pa_cons (pv 0) (pa_cons (pe_op op_sub (pe_op op_add (pv 0) (pv 1)) pe_int) (pa_cons (pv 4) pa_nil)))))))))
  (pss_one (ps_ret (pe_tup (pa_cons pe_str (pa_cons (pv 4) pa_nil)))))
  pss_nil)
 (pss_cons (pst 5 sc.nd (pe_op op_fdivB (pv 1) pe_int))
 (pss_cons (pst 6 sc.nd (pe_fn c_paper_from (hr.mono (Nat.le_refl _)) (by rfl) (pa_cons (pv 0) (pa_cons (pv 5) (pa_cons (pe_fn (ok_filled z) (hr.mono (Nat.le_trans (by decide : k_filled ≤ kb_paper_from) (Nat.le_add_left _ _))) (by rfl) (pa_cons (pe_fn (ok_led z) (hr.mono (Nat.le_trans (by decide : k_led ≤ kb_paper_from) (Nat.le_add_left _ _))) (by rfl) (pa_cons (pv 2) (pa_cons (pe_tup (pa_cons pe_int pa_nil)) pa_nil))) pa_nil)) (pa_cons (pv 3) pa_nil))))))
 (pss_cons (pst 7 sc.nd (pe_fn c_paper_from (hr.mono (Nat.le_refl _)) (by rfl) (pa_cons (pe_op op_add (pv 0) (pv 5)) (pa_cons (pv 5) (pa_cons (pe_fn (ok_filled z) (hr.mono (Nat.le_trans (by decide : k_filled ≤ kb_paper_from) (Nat.le_add_left _ _))) (by rfl) (pa_cons (pe_fn (ok_led z) (hr.mono (Nat.le_trans (by decide : k_led ≤ kb_paper_from) (Nat.le_add_left _ _))) (by rfl) (pa_cons (pv 2) (pa_cons (pe_tup (pa_cons pe_int pa_nil)) pa_nil))) pa_nil)) (pa_cons (pv 3) pa_nil))))))
 (pss_one (ps_ret (pe_tup (pa_cons pe_str (pa_cons (pv 4) (pa_cons (pv 6) (pa_cons (pv 7) pa_nil)))))))))))), ?_⟩
  refine ⟨_, rfl, pa, xs, e, gs, rfl, hpa, hg, by omega, fun H1 s1 => ?_⟩
  rw [manyG_W hgd]
  refine ⟨_, rfl, rfl, _, rfl, ?_⟩
  cases e with
  | zero =>
    refine ite2 (fun _ => ?_) (fun c => absurd (decide_eq_true rfl) c)
    refine ite2 (fun _ => ?_) (fun c => absurd rfl c)
    exact ⟨_, rfl, szb rfl, fun t ht => q _ _ (s1.trans (same_new ht _)) ⟨t, rfl, upd_same⟩⟩
  | succ e =>
    have hp2 := p2pos e
    have e2 : (2 : Int) ^ (e + 1) = 2 * 2 ^ e := by rw [Int.pow_succ]; omega
    refine ite2 (fun c => absurd (V.int.inj (of_decide_eq_true c)) (by omega)) (fun _ => ?_)
    have hf1 := hf.same s1
    refine ⟨fa, C, ψ, rfl, hf1, _, rfl, _, rfl, _, rfl, _, _, rfl, rfl, _, _, rfl, rfl, _, rfl, [least, least + 2 ^ (e + 1) - 1, ((Wh gs).length : Nat)], rfl, hf1, hC _ _ _ (by omega) (by omega), _, rfl, ?_⟩
    cases hφ : ψ [least, least + 2 ^ (e + 1) - 1, ((Wh gs).length : Nat)] with
    | false =>
      refine ite2 (fun _ => ?_) (fun c => absurd rfl c)
      have e0 : papF (f3 ψ) (e + 1) least (Wh gs) = .all ((Wh gs).length : Nat) := by
        unfold papF
        rw [if_neg (by show ¬ ψ _ = true; rw [hφ]; exact Bool.false_ne_true)]
      rw [e0] at q
      exact ⟨_, rfl, szb rfl, fun t ht => q _ _ (s1.trans (same_new ht _)) ⟨t, rfl, upd_same⟩⟩
    | true =>
      refine ite2 (fun c => absurd c (by decide)) (fun _ => ?_)
      have e0 : papF (f3 ψ) (e + 1) least (Wh gs) = .split ((Wh gs).length : Nat) (papF (f3 ψ) e least (halfO e 0 (Wh gs))) (papF (f3 ψ) e (least + 2 ^ e) (halfO e 1 (Wh gs))) := by
        rw [papF, if_pos (show f3 ψ least (least + 2 ^ (e + 1) - 1) ((Wh gs).length : Nat) = true from hφ)]
      rw [e0] at q
      have hh : (2 : Int) ^ (e + 1) / 2 = 2 ^ e := by rw [Int.pow_succ]; exact Int.mul_ediv_cancel _ (by decide)
      refine ⟨_, rfl, _, _, rfl, rfl, ⟨by decide, by decide⟩, ?_⟩
      dsimp only
      rw [hh]
      have good1 : ∀ w, ∀ g ∈ gs.map (led1 e w), GoodS e g := fun w g hg => by
        obtain ⟨g', hg', rfl⟩ := List.mem_map.mp hg
        exact led1_good (hgd g' hg')
      have el : ∀ w : Int, gs.map (ledS (e + 1) [w]) = gs.map (led1 e w) := fun w => List.map_congr_left fun g _ => by rw [ledS_cons, ledS_empty]
      have lenH : ∀ w : Int, (halfO e w (Wh gs)).length ≤ 900 := fun w => Nat.le_trans halfO_len hw
      have fl : ∀ w, (fillG (gs.map (led1 e w))).length ≤ 100 := fun w => Nat.le_trans (List.length_filter_le _ _) (by rw [List.length_map]; exact hl)
      refine ⟨_, rfl, _, rfl, _, rfl, szb rfl, fun w0 hw0 => ?_⟩
      have s2 := same_new hw0 (.tup [V.int 0])
      have hw0' : upd H1 w0 (.tup [V.int 0]) w0 = some (.tup [V.int 0]) := upd_same
      generalize upd H1 w0 (.tup [V.int 0]) = H2 at *
      have s02 := s1.trans s2
      refine ⟨pa, w0, xs, e + 1, [0], gs, rfl, s02.seq hpa, hg.same s02, hgd, by omega, SqT.of hw0', by simp, (fun x hx => by rw [List.mem_singleton.mp hx]; exact .inl rfl), fun H3 D3 z3 s3 hD3 hD3n hg3 => ?_⟩
      rw [el] at hg3
      have hg3' : GatAt H3 e z3 (gs.map (led1 e 0)) := hg3
      refine ⟨D3, z3, e, _, rfl, SqL.of hD3, hg3', by rw [List.length_map]; omega, fun H4 D4 z4 s4 hD4 hD4n hg4 => ?_⟩
      have s04 := (s02.trans s3).trans s4
      refine ⟨_, rfl, least, D4, fa, z4, fillG (gs.map (led1 e 0)), C, ψ, rfl, SqL.of hD4, hg4, fill_good (good1 0), fl 0, by rw [W_fill, W_led hgd]; exact lenH 0, hf.same s04, hC, fun H5 v5 s5 hp5 => ?_⟩
      rw [W_fill, W_led hgd] at hp5
      have s05 := s04.trans s5
      refine ⟨_, rfl, _, rfl, _, _, rfl, rfl, _, rfl, _, rfl, szb rfl, fun w1 hw1 => ?_⟩
      have s6 := same_new hw1 (.tup [V.int 1])
      have hw1' : upd H5 w1 (.tup [V.int 1]) w1 = some (.tup [V.int 1]) := upd_same
      generalize upd H5 w1 (.tup [V.int 1]) = H6 at *
      have s06 := s05.trans s6
      refine ⟨pa, w1, xs, e + 1, [1], gs, rfl, s06.seq hpa, hg.same s06, hgd, by omega, SqT.of hw1', by simp, (fun x hx => by rw [List.mem_singleton.mp hx]; exact .inr rfl), fun H7 D7 z7 s7 hD7 hD7n hg7 => ?_⟩
      rw [el] at hg7
      have hg7' : GatAt H7 e z7 (gs.map (led1 e 1)) := hg7
      refine ⟨D7, z7, e, _, rfl, SqL.of hD7, hg7', by rw [List.length_map]; omega, fun H8 D8 z8 s8 hD8 hD8n hg8 => ?_⟩
      have s58 := (s6.trans s7).trans s8
      refine ⟨_, rfl, least + 2 ^ e, D8, fa, z8, fillG (gs.map (led1 e 1)), C, ψ, rfl, SqL.of hD8, hg8, fill_good (good1 1), fl 1, by rw [W_fill, W_led hgd]; exact lenH 1, hf.same (s05.trans s58), hC, fun H9 v9 s9 hp9 => ?_⟩
      rw [W_fill, W_led hgd] at hp9
      have s59 := s58.trans s9
      refine ⟨_, rfl, _, rfl, _, rfl, szb rfl, fun t ht => ?_⟩
      have s10 := same_new ht (.tup [V.str "split", .int ((Wh gs).length : Nat), v5, v9])
      exact q _ _ ((s05.trans s59).trans s10) ⟨t, v5, v9, rfl, upd_same, hp5.same (s59.trans s10), hp9.same s10⟩
theorem ok_told_paper (z : Bz K mg base) : Cal P w K mg base k_told_paper "told_paper" ["bounds", "gathering", "must_split"] (sp_told_paper K) := by
  have sc := sc_told_paper
  refine z.d_told_paper.cal fun f fd F => F.k sc fun cdv A outer s H vs Q E hr h => ?_
  obtain ⟨b, ga, fa, xs, low, L, gs, C, ψ, rfl, hb, hL, hga, hg, hgd, hl, hw, hf, hC, q⟩ := h
  refine ⟨_, (pss_one (ps_ret (pe_fn (ok_paper_from z) hr.m (by rfl) (pa_cons (pix ix_tup (pv 0) pe_int) (pa_cons (pe_fn (ok_many_worths z) hr.m (by rfl) (pa_cons (pix ix_tup (pv 0) pe_int) pa_nil)) (pa_cons (pe_fn (ok_filled z) hr.m (by rfl) (pa_cons (pv 1) pa_nil)) (pa_cons (pv 2) pa_nil))))))), ?_⟩
  refine ⟨_, rfl, b, _, _, _, rfl, rfl, hb, rfl, _, rfl, b, _, _, _, rfl, rfl, hb, rfl, L, rfl, hL, _, rfl, ga, xs, L, gs, rfl, hga, hg, by omega, fun H1 D1 z1 s1 hD1 hD1n hg1 => ?_⟩
  refine ⟨_, rfl, L, hL, low, D1, fa, z1, fillG gs, C, ψ, rfl, SqL.of hD1, hg1, fill_good hgd, Nat.le_trans (List.length_filter_le _ _) hl, by rw [W_fill]; exact hw, hf.same s1, hC, fun H2 v2 s2 hp2 => ?_⟩
  rw [W_fill] at hp2
  exact q H2 v2 (s1.trans s2) hp2
theorem ok__law_exchanged (z : Bz K mg base) : Cal P w K mg base k__law_exchanged "_law_exchanged" ["_law_paper"] (sp__law_exchanged K) := by
  have sc := sc__law_exchanged
  refine z.d__law_exchanged.recur (k := kb__law_exchanged) (sp := spe__law_exchanged K) kn__law_exchanged fun e hen c__law_exchanged f fd F => F.k sc fun cdv A outer s H vs Q E hr h => ?_
  obtain ⟨v, p, rfl, hv, hd, q⟩ := h
  refine ⟨_, (pss_cons (ps_if (pt_cmpR op_eq (pix ix_tup (pv 0) pe_int) pe_str (nomark _))
  (pss_one (ps_ret (pv 0)))
  pss_nil)
 (pss_one (ps_ret (pe_tup (pa_cons pe_str (pa_cons (pix ix_tup (pv 0) pe_int) (pa_cons (pe_fn c__law_exchanged (hr.mono (Nat.le_refl _)) (by rfl) (pa_cons (pix ix_tup (pv 0) pe_int) pa_nil)) (pa_cons (pe_fn c__law_exchanged (hr.mono (Nat.le_refl _)) (by rfl) (pa_cons (pix ix_tup (pv 0) pe_int) pa_nil)) pa_nil)))))))), ?_⟩
  cases p with
  | all n =>
    obtain ⟨a, rfl, h⟩ := hv
    refine ⟨_, rfl, a, _, _, _, rfl, rfl, SqT.of h, rfl, rfl, _, rfl, ?_⟩
    exact ite2 (fun _ => ⟨_, rfl, q H _ (Same.refl H) ⟨a, rfl, h⟩⟩) (fun c => absurd (decide_eq_true rfl) c)
  | split n l r =>
    obtain ⟨a, x, y, rfl, h, h1, h2⟩ := hv
    refine ⟨_, rfl, a, _, _, _, rfl, rfl, SqT.of h, rfl, rfl, _, rfl, ?_⟩
    refine ite2 (fun c => absurd (of_decide_eq_true c) (by decide)) (fun c => ?_)
    cases e with
    | zero => exact absurd hd (Nat.not_succ_le_zero _)
    | succ e =>
      have hd' : max (dpP l) (dpP r) + 1 ≤ e + 1 := hd
      refine ⟨_, rfl, a, _, _, _, rfl, rfl, SqT.of h, rfl, _, rfl, a, _, _, _, rfl, rfl, SqT.of h, rfl, y, r, rfl, h2, by omega, fun H1 u1 s1 hp1 => ?_⟩
      refine ⟨_, rfl, a, _, _, _, rfl, rfl, SqT.of (s1 _ _ h), rfl, x, l, rfl, h1.same s1, by omega, fun H2 u2 s2 hp2 => ⟨szb rfl, fun t ht => ?_⟩⟩
      have s3 := same_new ht (.tup [V.str "split", .int n, u1, u2])
      exact q _ _ ((s1.trans s2).trans s3) ⟨t, u1, u2, rfl, upd_same, hp1.same (s2.trans s3), hp2.same s3⟩
end
/-! ### papers told: functions made and handed on -/
theorem TKeep.tab {H H' : Hp} {p : Addr} {ps : Array Value} (s : Keep p H H') (e : H p = some (.tbl ps)) : TKeep H H' := fun _ _ => ⟨fun h => s _ _ (ne_of h e (by intro z; cases z)) h, fun _ h => s _ _ (ne_of h e (by intro z; cases z)) h⟩
abbrev pB : Pos := ⟨244, 41, 244, 114⟩
abbrev qB : Str := "paper_below.<locals>.<lambda>"
def psB (num : Int) : List Int → Bool
  | [a, b, c] => decide (0 < c) && (decide (a < num) && decide (num ≤ b))
  | _ => false
abbrev k_paper_below : Nat := 47
inductive sp_paper_below (u0 : PySem.W.Frag) (vs : List V) (H : Hp) (Q : VK) (E : XK) : Prop
  | mk (b ga : Addr) (xs : List V) (low num : Int) (L : Nat) (gs : List G3) (_ : vs = [.ref b, .ref ga, .int num]) (_ : H b = some (.tup [.int low, .int (L : Int)])) (_ : L ≤ 40) (_ : H ga = some (.lst xs)) (_ : GatAt H L xs gs) (_ : (∀ g ∈ gs, GoodS L g)) (_ : gs.length ≤ 100) (_ : (Wh gs).length ≤ 900) (_ : Tab H 328 pB qB) (_ : ∀ (H' : Hp) (v : V), Keep 328 H H' → Tab H' 328 pB qB → PapAt H' v (papF (f3 (psB num)) L low (Wh gs)) → Q v H') : sp_paper_below u0 vs H Q E
section
variable {P : Program} {w : World} {K : PySem.W.Frag} {mg : Str → Option Value} {base : Heap}
theorem ok_paper_below (z : Bz K mg base) : Cal P w K mg base k_paper_below "paper_below" ["bounds", "gathering", "number"] (sp_paper_below K) := by
  have sc := sc_paper_below
  refine z.d_paper_below.cal sc (fun vs H Q E h => ?_) (fun f A outer s H vs Q E hr h => ?_)
  · obtain ⟨b, ga, xs, low, num, L, gs, rfl, _⟩ := h
    rfl
  obtain ⟨b, ga, xs, low, num, L, gs, rfl, hb, hL, hga, hg, hgd, hl, hw, hT, q⟩ := h
  refine ⟨_, (pss_one (ps_ret (pe_fnC (cl := [("number", s.heap.objs.size + 1)]) (is := [2]) (ok_told_paper z) hr.m (by rfl) ⟨⟨rfl, rfl, rfl, rfl⟩, trivial⟩ (pa_cons (pv 0) (pa_cons (pv 1) (pa_cons (pe_lam rfl z.d_paper_below.hd z.bmn rfl rfl rfl) pa_nil)))))), ?_⟩
  refine ⟨_, rfl, _, rfl, hT, fun fa c oc vs tq pm ctv H1 hfn hf hc hd hv hT1 kp => ⟨[.int num], rfl, fun H2 s2 hcells => ?_⟩⟩
  obtain ⟨ps, hps, _⟩ := id hT
  have tk := TKeep.tab kp hps
  have hb1 := kp _ _ (ne_of hb hps (by intro z; cases z)) hb
  have hga1 := kp _ _ (ne_of hga hps (by intro z; cases z)) hga
  refine ⟨b, ga, fa, xs, low, L, gs, fun ns => ∃ a b c : Int, ns = [a, b, c], psB num, rfl, SqT.of (s2 _ _ hb1), hL, SqL.of (s2 _ _ hga1), (hg.tk tk).same s2, hgd, hl, hw, lam_of (ps := ["least", "greatest", "things"]) (ys := ["number"]) lsc rfl (by simp) (s2 _ _ hf) (s2 _ _ hc) hd hv hcells (mt3 fun _ _ _ => rfl) (fun ns ⟨a, b, c, e⟩ => by rw [e]; rfl) ?_, fun a b c _ _ => ⟨a, b, c, rfl⟩, fun H' v s' hp H3 bk => ?_⟩
  · intro P w mg base A outer s
    refine ⟨_, pe_and (pe_cmpR op_gt (pv 2) pe_int (nomark _)) (pe_one (pe_chain op_lt op_le (pv 0) (pv 3) (pv 1))), ?_⟩
    rintro ns ⟨a, b, c, rfl⟩
    refine ⟨_, rfl, _, _, rfl, rfl, _, rfl, ?_⟩
    refine ite2 (fun h => ?_) (fun h => ?_)
    · refine ⟨_, rfl, _, rfl, _, _, rfl, rfl, _, rfl, ?_⟩
      refine ite2 (fun h' => ⟨_, rfl, _, _, rfl, rfl, ?_⟩) (fun h' => ?_)
      · show V.bl _ = V.bl (decide (0 < c) && (decide (a < num) && decide (num ≤ b)))
        rw [show decide (0 < c) = true from h, show decide (a < num) = true from h', Bool.true_and, Bool.true_and]
      · show V.bl _ = V.bl (decide (0 < c) && (decide (a < num) && decide (num ≤ b)))
        rw [show decide (a < num) = false from Bool.eq_false_iff.mpr h', Bool.false_and, Bool.and_false]
    · show V.bl _ = V.bl (decide (0 < c) && (decide (a < num) && decide (num ≤ b)))
      rw [show decide (0 < c) = false from Bool.eq_false_iff.mpr h, Bool.false_and]
  · have s13 : Same H1 H3 := fun b o e => bk _ _ (s' _ _ (s2 _ _ e)) (.inl (by rw [e]; simp))
    exact q H3 v (fun a o ha e => s13 _ _ (kp _ _ ha e)) (hT1.same s13) (hp.tp fun b xs e => bk _ _ e (.inr (by intro _ _ z; cases z)))
end
abbrev pO : Pos := ⟨247, 41, 247, 94⟩
abbrev qO : Str := "paper_often.<locals>.<lambda>"
def psO (part W : Int) : List Int → Bool
  | [_, _, c] => decide (W < c * part)
  | _ => false
abbrev k_paper_often : Nat := 47
inductive sp_paper_often (u0 : PySem.W.Frag) (vs : List V) (H : Hp) (Q : VK) (E : XK) : Prop
  | mk (b ga : Addr) (xs : List V) (low part : Int) (L : Nat) (gs : List G3) (_ : vs = [.ref b, .ref ga, .int part]) (_ : H b = some (.tup [.int low, .int (L : Int)])) (_ : L ≤ 40) (_ : H ga = some (.lst xs)) (_ : GatAt H L xs gs) (_ : (∀ g ∈ gs, GoodS L g)) (_ : gs.length ≤ 100) (_ : (Wh gs).length ≤ 900) (_ : 0 ≤ part) (_ : part ≤ 1000) (_ : Tab H 335 pO qO) (_ : ∀ (H' : Hp) (v : V), Keep 335 H H' → Tab H' 335 pO qO → PapAt H' v (papF (f3 (psO part ((Wh gs).length : Nat))) L low (Wh gs)) → Q v H') : sp_paper_often u0 vs H Q E
section
variable {P : Program} {w : World} {K : PySem.W.Frag} {mg : Str → Option Value} {base : Heap}
theorem ok_paper_often (z : Bz K mg base) : Cal P w K mg base k_paper_often "paper_often" ["bounds", "gathering", "part"] (sp_paper_often K) := by
  have sc := sc_paper_often
  refine z.d_paper_often.cal sc (fun vs H Q E h => ?_) (fun f A outer s H vs Q E hr h => ?_)
  · obtain ⟨b, ga, xs, low, part, L, gs, rfl, _⟩ := h
    rfl
  obtain ⟨b, ga, xs, low, part, L, gs, rfl, hb, hL, hga, hg, hgd, hl, hw, p0, p1, hT, q⟩ := h
  refine ⟨_, (pss_cons (pst 3 sc.nd (pe_fn (ok_many_in z) hr.m (by rfl) (pa_cons (pv 1) pa_nil)))
 (pss_one (ps_ret (pe_fnC (cl := [("whole", s.heap.objs.size + 2), ("part", s.heap.objs.size + 1)]) (is := [3, 2]) (ok_told_paper z) hr.m (by rfl) ⟨⟨rfl, rfl, rfl, rfl⟩, ⟨rfl, rfl, rfl, rfl⟩, trivial⟩ (pa_cons (pv 0) (pa_cons (pv 1) (pa_cons (pe_lam rfl z.d_paper_often.hd z.bmn rfl rfl rfl) pa_nil))))))), ?_⟩
  refine ⟨_, rfl, ga, xs, L, gs, rfl, SqL.of hga, hg, by omega, fun H0 s0 => ?_⟩
  rw [manyG_W hgd]
  refine ⟨_, rfl, _, rfl, hT.same s0, fun fa c oc vs tq pm ctv H1 hfn hf hc hd hv hT1 kp => ⟨[.int ((Wh gs).length : Nat), .int part], rfl, fun H2 s2 hcells => ?_⟩⟩
  obtain ⟨ps, hps, _⟩ := hT.same s0
  have tk := TKeep.tab kp hps
  have hb1 := kp _ _ (ne_of (s0 _ _ hb) hps (by intro z; cases z)) (s0 _ _ hb)
  have hga1 := kp _ _ (ne_of (s0 _ _ hga) hps (by intro z; cases z)) (s0 _ _ hga)
  refine ⟨b, ga, fa, xs, low, L, gs, fun ns => ∃ a b c : Int, ns = [a, b, c] ∧ 0 ≤ c ∧ c ≤ 1000, psO part ((Wh gs).length : Nat), rfl, SqT.of (s2 _ _ hb1), hL, SqL.of (s2 _ _ hga1), ((hg.same s0).tk tk).same s2, hgd, hl, hw, lam_of (ps := ["least", "greatest", "things"]) (ys := ["whole", "part"]) lsc rfl (by simp) (s2 _ _ hf) (s2 _ _ hc) hd hv hcells (mt3 fun _ _ _ => rfl) (fun ns ⟨a, b, c, e, _⟩ => by rw [e]; rfl) ?_, fun a b c h0 h1 => ⟨a, b, c, rfl, h0, h1⟩, fun H' v s' hp H3 bk => ?_⟩
  · intro P w mg base A outer s
    refine ⟨_, pe_cmpR op_gt (pe_op op_mul (pv 2) (pv 4)) (pv 3) (nomark _), ?_⟩
    rintro ns ⟨a, b, c, rfl, c0, c1⟩
    exact ⟨_, rfl, _, rfl, _, _, rfl, rfl, .inl ⟨by omega, by omega⟩, _, rfl, _, _, rfl, rfl, rfl⟩
  · have s13 : Same H1 H3 := fun b o e => bk _ _ (s' _ _ (s2 _ _ e)) (.inl (by rw [e]; simp))
    exact q H3 v (fun a o ha e => s13 _ _ (kp _ _ ha (s0 _ _ e))) (hT1.same s13) (hp.tp fun b xs e => bk _ _ e (.inr (by intro _ _ z; cases z)))
end
/-! ### turned about -/
theorem ifB {b : Bool} {A C : Prop} (hb : b = false) (h : C) : if b = true then A else C := by
  rw [hb]
  exact h
theorem ifA {b : Bool} {A C : Prop} (hb : b = true) (h : A) : if b = true then A else C := by
  rw [hb]
  exact h
theorem nde {α : Type} [DecidableEq α] {x y : α} (h : x = y) : (!decide (x = y)) = false := by
  rw [decide_eq_true h]
  rfl
theorem Wh1 (g : G3) : Wh [g] = sel g := by
  unfold Wh
  rw [List.flatMap_cons, List.flatMap_nil, List.append_nil]
theorem gat1 {H : Hp} {L : Nat} {t : Addr} {u : V} {os : List Int} {st en : Nat} (ht : H t = some (.tup [u, .int (st : Int), .int (en : Int)])) (hu : TreeAt H u (growO L os)) : GatAt H L [.ref t] [(os, st, en)] :=
  ⟨rfl, fun j x g h1 h2 => by
    match j, h1, h2 with
    | 0, h1, h2 => cases h1; cases h2; exact ⟨t, u, rfl, ht, hu⟩⟩
theorem sel_le {os : List Int} {st en : Nat} : (sel (os, st, en)).length ≤ os.length := by
  show ((os.take en).drop st).length ≤ os.length
  rw [List.length_drop, List.length_take]
  omega
theorem bst_alk {K : PySem.W.Frag} {H : Hp} {x y : V} {Q : Prop} : ∀ {o : Option P2}, BstV H x o → BstV H y o → Q → (x = .non ∧ y = .non ∧ Q) ∨ ∃ (n : Nat) (a b : Addr), x = .ref a ∧ y = .ref b ∧ Alk K H n (.ref a) (.ref b) ∧ n ≤ 60 ∧ Q
  | none, h, h', q => .inl ⟨h, h', q⟩
  | some p, ⟨a, ea, ha⟩, ⟨b, eb, hb⟩, q => .inr ⟨2, a, b, ea, eb, pr_alk (SqT.of ha) (SqT.of hb), by decide, q⟩
abbrev k__law_turned_right : Nat := 47
inductive sp__law_turned_right (K : PySem.W.Frag) (vs : List V) (H : Hp) (Q : VK) (E : XK) : Prop
  | mk (pen b r : Addr) (v : V) (n low : Int) (L st en : Nat) (ns : List Int) (_ : vs = [.ref pen, .ref b, v, .ref r, .int (st : Int), .int (en : Int)]) (_ : Pen K H pen n) (_ : n < 1000000) (_ : H b = some (.tup [.int low, .int (L : Int)])) (_ : L ≤ 40) (_ : H r = some (.lst (ns.map V.int))) (_ : r ≠ pen) (_ : TreeAt H v (grow low L ns)) (_ : Wths low L ns) (_ : ns.length ≤ 60) (_ : st ≤ en) (_ : en ≤ ns.length) (_ : ∀ H' : Hp, Keep pen H H' → Pen K H' pen (n + 12) → Q (.bl true) H') : sp__law_turned_right K vs H Q E
section
variable {P : Program} {w : World} {K : PySem.W.Frag} {mg : Str → Option Value} {base : Heap}
theorem ok__law_turned_right (z : Bz K mg base) : Cal P w K mg base k__law_turned_right "_law_turned_right" ["_law_pen", "_law_bounds_here", "_law_tree", "_law_row_here", "_law_start", "_law_end"] (sp__law_turned_right K) := by
  have sc := sc__law_turned_right
  refine z.d__law_turned_right.cal fun f fd F => F.k sc fun cdv A outer s H vs Q E hr h => ?_
  obtain ⟨pen, b, r, v, n, low, L, st, en, ns, rfl, P0, hn, hb, hL, hr0, nrp, hv, hw, h60, h1, h2, q⟩ := h
  refine ⟨_, (pss_cons (pst 6 sc.nd (pe_fn (ok_turned z) hr.m (by rfl) (pa_cons (pv 2) pa_nil)))
 (pss_cons (pst 7 sc.nd (pe_lst (pa_cons (pe_tup (pa_cons (pv 6) (pa_cons (pe_op op_sub (pln z.len_ (pa_cons (pv 3) pa_nil)) (pv 5)) (pa_cons (pe_op op_sub (pln z.len_ (pa_cons (pv 3) pa_nil)) (pv 4)) pa_nil)))) pa_nil)))
 (pss_cons (pst 8 sc.nd (pe_lst (pa_cons (pe_tup (pa_cons (pv 2) (pa_cons (pv 4) (pa_cons (pv 5) pa_nil)))) pa_nil)))
 (pss_cons (ps_if (PW.pt (pw_or (pt_cmpR (op_neAlk hr.units) (pe_fn (ok_worths_in z) hr.m (by rfl) (pa_cons (pv 1) (pa_cons (pv 7) pa_nil))) (pe_fn (ok_worths_in z) hr.m (by rfl) (pa_cons (pv 1) (pa_cons (pv 8) pa_nil))) (nomark _)) (pw_or1 (pt_cmpR (op_neOpt hr.units) (pe_fn (ok_most z) hr.m (by rfl) (pa_cons (pv 1) (pa_cons (pv 7) pa_nil))) (pe_fn (ok_most z) hr.m (by rfl) (pa_cons (pv 1) (pa_cons (pv 8) pa_nil))) (nomark _)))))
  (pss_one (ps_ret pe_bl))
  pss_nil)
 (pss_cons (ps_for PassesOwn.never rfl (pi_range1 rfl z.range_ (pa_cons pe_int pa_nil)) (pgn 9 sc.nd)
  (pss_cons (pst 10 sc.nd (pe_op op_add (pix ix_tup (pv 1) pe_int) (pe_fn (ok__law_take z) hr.m (by rfl) (pa_cons (pv 0) (pa_cons (pe_op op_shl pe_int (pix ix_tup (pv 1) pe_int)) pa_nil)))))
 (pss_cons (pst 11 sc.nd (pe_op op_add (pv 10) (pe_fn (ok__law_take z) hr.m (by rfl) (pa_cons (pv 0) (pa_cons (pe_op op_shl pe_int (pix ix_tup (pv 1) pe_int)) pa_nil)))))
 (pss_cons (ps_join (ps_if (PW.pt (pw_and (pt_cmpR (op_neL hr.units) (pv 3) (pe_lst pa_nil) (nomark _)) (pw_and1 (pt_cmpR op_eq (pe_fn (ok__law_take z) hr.m (by rfl) (pa_cons (pv 0) (pa_cons pe_int pa_nil))) pe_int (nomark _)))))
  (pss_one (pst 10 sc.nd (pix ix_list (pv 3) (pe_fn (ok__law_take z) hr.m (by rfl) (pa_cons (pv 0) (pa_cons (pln z.len_ (pa_cons (pv 3) pa_nil)) pa_nil))))))
  pss_nil))
 (pss_cons (pst 12 sc.nd (pe_fn (ok_first_place z) hr.m (by rfl) (pa_cons (pv 1) (pa_cons (pix ix_list (pv 8) pe_int) (pa_cons (pv 10) (pa_cons (pv 11) pa_nil))))))
 (pss_cons (pst 13 sc.nd (pe_fn (ok_last_place z) hr.m (by rfl) (pa_cons (pv 1) (pa_cons (pix ix_list (pv 7) pe_int) (pa_cons (pv 10) (pa_cons (pv 11) pa_nil))))))
 (pss_cons (ps_join (ps_if (PW.pt (pw_or (pt_cmpR op_ne (pe_cmpR op_isN (pv 12) pe_non (nomark _)) (pe_cmpR op_isN (pv 13) pe_non (nomark _)) (nomark _)) (pw_or1 (PW.pt (pw_and (pt_cmpR op_notN (pv 12) pe_non (nomark _)) (pw_and1 (pt_cmpR op_ne (pe_op op_add (pv 12) (pv 13)) (pe_op op_sub (pln z.len_ (pa_cons (pv 3) pa_nil)) pe_int) (nomark _))))))))
  (pss_one (ps_ret pe_bl))
  pss_nil))
 (pss_one (ps_if (pt_cmpR op_ne (pe_fn (ok_between z) hr.m (by rfl) (pa_cons (pv 1) (pa_cons (pv 7) (pa_cons (pv 10) (pa_cons (pv 11) pa_nil))))) (pe_fn (ok_between z) hr.m (by rfl) (pa_cons (pv 1) (pa_cons (pv 8) (pa_cons (pv 10) (pa_cons (pv 11) pa_nil))))) (nomark _))
  (pss_one (ps_ret pe_bl))
  pss_nil)))))))))
 (pss_one (ps_ret pe_bl))))))), ?_⟩
  have hp := p2pos L
  have hq := p2le hL
  have hin := off_in hw
  rw [grow_off] at hv
  refine ⟨_, rfl, L, hL, v, low, ns, rfl, by rw [grow_off]; exact hv, by omega, fun u1 H1 s1 hu1 => ?_⟩
  rw [grow_off, List.map_reverse] at hu1
  have hol : (ns.map fun n => n - low).length = ns.length := List.length_map _
  generalize (ns.map fun n => n - low) = os at hv hu1 hin hol
  have hr1 := s1 _ _ hr0
  have c1 : (((ns.map V.int).length : Nat) : Int) - (en : Int) = ((os.length - en : Nat) : Int) := by rw [List.length_map]; omega
  have c2 : (((ns.map V.int).length : Nat) : Int) - (st : Int) = ((os.length - st : Nat) : Int) := by rw [List.length_map]; omega
  refine ⟨_, rfl, _, rfl, r, _, rfl, .inl (SqL.of hr1), _, rfl, _, _, rfl, rfl, _, rfl, r, _, rfl, .inl (SqL.of hr1), _, rfl, _, _, rfl, rfl, szb rfl, fun t1 ht1 => ⟨szb rfl, fun l1 hl1 => ?_⟩⟩
  dsimp only at hl1 ⊢
  rw [c1, c2] at hl1 ⊢
  obtain ⟨H2, e2, s2, g2⟩ := nwH ht1 (.tup [u1, .int ((os.length - en : Nat) : Int), .int ((os.length - st : Nat) : Int)])
  rw [e2] at hl1 ⊢
  obtain ⟨H3, e3, s3, g3⟩ := nwH hl1 (.lst [.ref t1])
  rw [e3]
  refine ⟨_, rfl, _, rfl, _, rfl, szb rfl, fun t2 ht2 => ⟨szb rfl, fun l2 hl2 => ?_⟩⟩
  obtain ⟨H4, e4, s4, g4⟩ := nwH ht2 (.tup [v, .int (st : Int), .int (en : Int)])
  rw [e4] at hl2 ⊢
  obtain ⟨H5, e5, s5, g5⟩ := nwH hl2 (.lst [.ref t2])
  rw [e5]
  have s15 : Same H1 H5 := (s2.trans s3).trans (s4.trans s5)
  have S5 := s1.trans s15
  have gt1 := (s3.trans (s4.trans s5)) _ _ g2
  have gl1 := (s4.trans s5) _ _ g3
  have gt2 := s5 _ _ g4
  have GA : GatAt H5 L [.ref t1] [(os.reverse, os.length - en, os.length - st)] := gat1 gt1 (hu1.same s15)
  have GB : GatAt H5 L [.ref t2] [(os, st, en)] := gat1 gt2 (hv.same S5)
  have ga : ∀ g ∈ [(os.reverse, os.length - en, os.length - st)], GoodS L g := fun g hg => by
    rw [List.mem_singleton.mp hg]
    exact ⟨fun o ho => hin o (List.mem_reverse.mp ho), by show os.length - en ≤ os.length - st; omega, by show os.length - st ≤ os.reverse.length; rw [List.length_reverse]; omega, by show os.reverse.length ≤ 300; rw [List.length_reverse]; omega⟩
  have gb : ∀ g ∈ [(os, st, en)], GoodS L g := fun g hg => by
    rw [List.mem_singleton.mp hg]
    exact ⟨hin, h1, by show en ≤ os.length; omega, by show os.length ≤ 300; omega⟩
  have WA : Wh [(os.reverse, os.length - en, os.length - st)] = (sel (os, st, en)).reverse := by rw [Wh1, sel_rev (by omega)]
  have WB : Wh [(os, st, en)] = sel (os, st, en) := Wh1 _
  have lA : (Wh [(os.reverse, os.length - en, os.length - st)]).length ≤ 900 := by rw [WA, List.length_reverse]; have := sel_le (os := os) (st := st) (en := en); omega
  have lB : (Wh [(os, st, en)]).length ≤ 900 := by rw [WB]; have := sel_le (os := os) (st := st) (en := en); omega
  have nlp1 : l1 ≠ pen := (P0.same (s1.trans s2)).fresh hl1
  have nlp2 : l2 ≠ pen := (P0.same (((s1.trans s2).trans s3).trans s4)).fresh hl2
  obtain ⟨gA, hgA⟩ : ∃ gA, gA = [(os.reverse, os.length - en, os.length - st)] := ⟨_, rfl⟩
  obtain ⟨gB, hgB⟩ : ∃ gB, gB = [(os, st, en)] := ⟨_, rfl⟩
  have la : gA.length ≤ 100 := by rw [hgA]; exact (by decide : 1 ≤ 100)
  have lb : gB.length ≤ 100 := by rw [hgB]; exact (by decide : 1 ≤ 100)
  rw [← hgA] at GA ga WA lA
  rw [← hgB] at GB gb WB lB
  have hb5 := S5 _ _ hb
  have P5 := P0.same S5
  refine ⟨_, rfl, _, rfl, b, l1, _, low, L, gA, rfl, SqT.of hb5, hL, SqL.of gl1, GA, ga, la, lA, fun H6 D6 y6 s6 e6 _ p6 => ?_⟩
  refine ⟨_, rfl, _, rfl, b, l2, _, low, L, gB, rfl, SqT.of (s6 _ _ hb5), hL, SqL.of (s6 _ _ g5), GB.same s6, gb, lb, lB, fun H7 D7 y7 s7 e7 _ p7 => ?_⟩
  rw [WA, ca_rev, ← WB] at p6
  refine ⟨3, D6, D7, rfl, rfl, ps_alk (SqL.of (s7 _ _ e6)) (SqL.of e7) (ps_same p6 s7) p7, by decide, _, rfl, ifB rfl ?_⟩
  have s57 := s6.trans s7
  refine ⟨_, rfl, _, rfl, b, l1, _, low, L, gA, rfl, SqT.of (s57 _ _ hb5), hL, SqL.of (s57 _ _ gl1), GA.same s57, ga, la, lA, fun H8 v8 s8 hv8 => ?_⟩
  have s58 := s57.trans s8
  refine ⟨_, rfl, _, rfl, b, l2, _, low, L, gB, rfl, SqT.of (s58 _ _ hb5), hL, SqL.of (s58 _ _ g5), GB.same s58, gb, lb, lB, fun H9 v9 s9 hv9 => ?_⟩
  rw [WA, ca_rev, ← WB] at hv8
  have s59 := s58.trans s9
  have hv8' : BstV H9 v8 (bst (caF 1 0 L low (Wh gB))) := by
    cases ho : bst (caF 1 0 L low (Wh gB)) with
    | none => rw [ho] at hv8; exact hv8
    | some p => rw [ho] at hv8; exact PsR.tk (.same s9) hv8
  refine bst_alk hv8' hv9 ⟨_, rfl, ifB rfl ?_⟩
  refine ⟨3, rfl, by decide, by decide, for_range (n := 3) (fun i σ G => ∃ (a9 a10 a11 a12 a13 : Option V), σ = [some (.ref pen), some (.ref b), some v, some (.ref r), some (.int (st : Int)), some (.int (en : Int)), some u1, some (.ref l1), some (.ref l2), a9, a10, a11, a12, a13] ∧ Keep pen H9 G ∧ Pen K G pen (n + 4 * i)) ⟨_, _, _, _, _, rfl, Keep.refl _ _, (P5.same s59).le (by omega)⟩ ?_ ?_⟩
  · rintro i σ G hi ⟨a9, a10, a11, a12, a13, rfl, kG, PG⟩
    obtain ⟨pc, hpc⟩ := (P5.same s59).at
    have TK : ∀ {G : Hp}, Keep pen H9 G → TKeep H9 G := fun k => .keep k hpc
    have BG : ∀ {G : Hp}, Keep pen H9 G → G b = some (.tup [.int low, .int (L : Int)]) := fun k => (TK k _ _).1 (s59 _ _ hb5)
    have RG : ∀ {G : Hp}, Keep pen H9 G → G r = some (.lst (ns.map V.int)) := fun k => k _ _ nrp (s59 _ _ (S5 _ _ hr0))
    have AG : ∀ {G : Hp}, Keep pen H9 G → G l1 = some (.lst [.ref t1]) := fun k => k _ _ nlp1 (s59 _ _ gl1)
    have CG : ∀ {G : Hp}, Keep pen H9 G → G l2 = some (.lst [.ref t2]) := fun k => k _ _ nlp2 (s59 _ _ g5)
    have GAG : ∀ {G : Hp}, Keep pen H9 G → GatAt G L [.ref t1] gA := fun k => (GA.same s59).tk (TK k)
    have GBG : ∀ {G : Hp}, Keep pen H9 G → GatAt G L [.ref t2] gB := fun k => (GB.same s59).tk (TK k)
    refine ⟨_, rfl, b, _, _, _, rfl, rfl, SqT.of (BG kG), rfl, _, rfl, _, rfl, b, _, _, _, rfl, rfl, SqT.of (BG kG), rfl, _, _, rfl, rfl, ⟨by omega, by omega, by decide⟩, ?_⟩
    dsimp only
    rw [shlOne]
    refine ⟨pen, 2 ^ L, n + 4 * i, rfl, PG, by omega, hp, by omega, fun x1 G1 k1 P1 x10 x11 => ⟨_, _, rfl, rfl, ?_⟩⟩
    have k01 := kG.trans k1
    refine ⟨_, rfl, _, rfl, _, rfl, b, _, _, _, rfl, rfl, SqT.of (BG k01), rfl, _, _, rfl, rfl, ⟨by omega, by omega, by decide⟩, ?_⟩
    dsimp only
    rw [shlOne]
    refine ⟨pen, 2 ^ L, n + 4 * i + 1, rfl, P1, by omega, hp, by omega, fun x2 G2 k2 P2 x20 x21 => ⟨_, _, rfl, rfl, ?_⟩⟩
    have k02 := k01.trans k2
    refine ⟨fun σ G => ∃ (lo hi : Int), σ = [some (.ref pen), some (.ref b), some v, some (.ref r), some (.int (st : Int)), some (.int (en : Int)), some u1, some (.ref l1), some (.ref l2), some (.int (0 + i)), some (.int lo), some (.int hi), a12, a13] ∧ Keep pen H9 G ∧ Pen K G pen (n + 4 * i + 4), ?_, ?_⟩
    · refine ⟨_, rfl, szb rfl, fun z0 hz0 => ?_⟩
      obtain ⟨G3, ez, sz, gz⟩ := nwH hz0 (.lst [])
      rw [ez]
      have k03 := k02.trans (Keep.same sz)
      refine ⟨r, z0, ns, [], rfl, rfl, SqL.of (RG k03), SqL.of gz, _, rfl, ite2 (fun c => ?_) (fun _ => ⟨_, _, rfl, k03, (P2.same sz).le (by omega)⟩)⟩
      have hne : ns ≠ [] := fun z => by rw [z] at c; exact absurd c (by decide)
      have hpos : 0 < ns.length := List.length_pos_iff.mpr hne
      refine ⟨_, rfl, pen, 2, n + 4 * i + 1 + 1, rfl, P2.same sz, by omega, by decide, by decide, fun x3 G4 k4 P4 _ _ => ⟨rfl, _, rfl, ite2 (fun _ => ?_) (fun _ => ⟨_, _, rfl, k03.trans k4, P4.le (by omega)⟩)⟩⟩
      have k04 := k03.trans k4
      refine ⟨_, rfl, _, rfl, _, rfl, r, _, rfl, .inl (SqL.of (RG k04)), pen, _, n + 4 * i + 1 + 1 + 1, rfl, P4, by omega, by rw [List.length_map]; omega, by rw [List.length_map]; omega, fun x5 G5 k5 P5' x50 x51 => ?_⟩
      rw [List.length_map] at x51
      obtain ⟨j, rfl⟩ := Int.eq_ofNat_of_zero_le x50
      have k05 := k04.trans k5
      have hj : j < ns.length := by omega
      exact ⟨r, _, _, _, rfl, rfl, SqL.of (RG k05), atI_nat (by rw [List.getElem?_map, List.getElem?_eq_getElem hj]; rfl), _, _, rfl, k05, P5'.le (by omega)⟩
    · rintro σ G3 ⟨lo, hi, rfl, k03, P3⟩
      have hgl := (GBG k03).2 0 (.ref t2) (os, st, en) rfl (by rw [hgB]; rfl)
      have hgr := (GAG k03).2 0 (.ref t1) (os.reverse, os.length - en, os.length - st) rfl (by rw [hgA]; rfl)
      have good2 := gb (os, st, en) (by rw [hgB]; exact List.mem_singleton.mpr rfl)
      have good1 := ga (os.reverse, os.length - en, os.length - st) (by rw [hgA]; exact List.mem_singleton.mpr rfl)
      refine ⟨_, rfl, _, rfl, l2, _, _, _, rfl, rfl, SqL.of (CG k03), rfl, _, rfl, _, rfl, b, .ref t2, lo, hi, low, L, _, rfl, SqT.of (BG k03), hL, hgl, good2, fun G4 r4 s4 E4 => ?_⟩
      have k04 := k03.trans (Keep.same s4)
      refine ⟨_, rfl, _, rfl, l1, _, _, _, rfl, rfl, SqL.of (AG k04), rfl, _, rfl, _, rfl, b, .ref t1, lo, hi, low, L, _, rfl, SqT.of (BG k04), hL, StrAt.tk hgr (.same s4), good1, fun G5 r5 s5' E5 => ?_⟩
      have k05 := k04.trans (Keep.same s5')
      refine ⟨fun σ G => σ = [some (.ref pen), some (.ref b), some v, some (.ref r), some (.int (st : Int)), some (.int (en : Int)), some u1, some (.ref l1), some (.ref l2), some (.int (0 + i)), some (.int lo), some (.int hi), some (fstV r4), some (lstV r5)] ∧ G = G5, ?_, ?_⟩
      · rcases ends_rev (by omega) E4 E5 with ⟨rfl, rfl⟩ | ⟨a, b', rfl, rfl, hab, hol0⟩
        · refine ⟨_, rfl, rfl, _, rfl, rfl, rfl, _, rfl, ifB rfl ?_⟩
          refine ⟨_, rfl, rfl, _, rfl, ifB rfl ?_⟩
          exact ifB rfl ⟨rfl, rfl⟩
        · refine ⟨_, rfl, rfl, _, rfl, rfl, rfl, _, rfl, ifB rfl ?_⟩
          refine ⟨_, rfl, rfl, _, rfl, ifA rfl ?_⟩
          refine ⟨_, rfl, _, rfl, _, _, rfl, rfl, _, rfl, r, _, rfl, .inl (SqL.of (RG k05)), _, _, rfl, rfl, rfl, _, rfl, ifB (nde ?_) ⟨rfl, rfl⟩⟩
          rw [List.length_map]
          exact congrArg V.int (by omega)
      · rintro σ G6 ⟨rfl, rfl⟩
        refine ⟨_, rfl, _, rfl, _, rfl, _, rfl, b, l1, _, low, lo, hi, L, gA, rfl, SqT.of (BG k05), hL, SqL.of (AG k05), GAG k05, ga, la, fun G7 s7' => ?_⟩
        have k07 := k05.trans (Keep.same s7')
        refine ⟨_, rfl, _, rfl, _, rfl, _, rfl, b, l2, _, low, lo, hi, L, gB, rfl, SqT.of (BG k07), hL, SqL.of (CG k07), GBG k07, gb, lb, fun G8 s8' => ⟨rfl, _, rfl, ifB (nde ?_) ?_⟩⟩
        · rw [WA, WB, List.countP_reverse]
        · exact ⟨_, _, _, _, _, rfl, k07.trans (Keep.same s8'), ((((P3.same s4).same s5').same s7').same s8').le (by omega)⟩
  · rintro σ G ⟨a9, a10, a11, a12, a13, rfl, kG, PG⟩
    exact q G ((Keep.same (S5.trans s59)).trans kG) PG
end
/-! ### flipped -/
theorem AllAt.rev {α : Type} {R : Hp → V → α → Prop} {H : Hp} {xs : List V} {ps : List α} (h : AllAt R H xs ps) : AllAt R H xs.reverse ps.reverse := by
  refine ⟨by rw [List.length_reverse, List.length_reverse, h.1], fun j x p h1 h2 => ?_⟩
  have hl := h.1
  have hj : j < xs.length := by
    have := (List.getElem?_eq_some_iff.mp h1).1
    rw [List.length_reverse] at this
    exact this
  rw [List.getElem?_reverse hj] at h1
  rw [List.getElem?_reverse (by omega), ← hl] at h2
  exact h.2 _ x p h1 h2
theorem sel_map {os : List Int} {st en : Nat} (f : Int → Int) : sel (os.map f, st, en) = (sel (os, st, en)).map f := by
  show ((os.map f).take en).drop st = ((os.take en).drop st).map f
  rw [← List.map_take, ← List.map_drop]
theorem tab_kp {H H' : Hp} {T p : Addr} {pos : Pos} {q : Str} (x : Tab H T pos q) (k : Keep p H H') (nT : T ≠ p) (hp : ∀ o c, H p ≠ some (.frz o (.own c))) : Tab H' T pos q := by
  obtain ⟨ps, h1, h2, h3⟩ := x
  refine ⟨ps, k _ _ nT h1, h2, ?_⟩
  rcases h3 with h | ⟨c, oc, vs, tq, a, b, d⟩
  · exact .inl h
  · exact .inr ⟨c, oc, vs, tq, a, k _ _ (fun z => by rw [z] at b; exact hp _ _ b) b, d⟩
structure Fl (K : PySem.W.Frag) (pen b l1 l2 t1 t2 : Addr) (low : Int) (L : Nat) (gA gB : List G3) (G : Hp) (n : Int) : Prop where
  hb : G b = some (.tup [.int low, .int (L : Int)])
  pn : Pen K G pen n
  h1 : G l1 = some (.lst [.ref t1])
  h2 : G l2 = some (.lst [.ref t2])
  n1 : l1 ≠ pen
  n2 : l2 ≠ pen
  ga : GatAt G L [.ref t1] gA
  gb : GatAt G L [.ref t2] gB
  tb : Tab G 328 pB qB
  to : Tab G 335 pO qO
section
variable {K : PySem.W.Frag} {pen b l1 l2 t1 t2 : Addr} {low : Int} {L : Nat} {gA gB : List G3} {G G' : Hp} {n m : Int}
theorem Fl.same (x : Fl K pen b l1 l2 t1 t2 low L gA gB G n) (s : Same G G') : Fl K pen b l1 l2 t1 t2 low L gA gB G' n :=
  ⟨s _ _ x.hb, x.pn.same s, s _ _ x.h1, s _ _ x.h2, x.n1, x.n2, x.ga.same s, x.gb.same s, x.tb.same s, x.to.same s⟩
theorem Fl.pk (x : Fl K pen b l1 l2 t1 t2 low L gA gB G n) (k : Keep pen G G') (p : Pen K G' pen m) : Fl K pen b l1 l2 t1 t2 low L gA gB G' m := by
  obtain ⟨ys, e⟩ := x.pn.at
  have tk : TKeep G G' := .keep k e
  have ne : ∀ o c, G pen ≠ some (.frz o (.own c)) := fun o c z => by rw [e] at z; cases z
  obtain ⟨ps, h1, _⟩ := x.tb
  obtain ⟨qs, h2, _⟩ := x.to
  exact ⟨(tk _ _).1 x.hb, p, k _ _ x.n1 x.h1, k _ _ x.n2 x.h2, x.n1, x.n2, x.ga.tk tk, x.gb.tk tk, tab_kp x.tb k (ne_of h1 e (by intro z; cases z)) ne, tab_kp x.to k (ne_of h2 e (by intro z; cases z)) ne⟩
theorem Pen.tb {T : Addr} {ps : Array Value} (p : Pen K G pen n) (k : Keep T G G') (e : G T = some (.tbl ps)) : Pen K G' pen n := by
  obtain ⟨a, ns, c, r, h1, h2, h3⟩ := p
  refine ⟨a, ns, c, r, k _ _ (ne_of h1 e (by intro z; cases z)) h1, ?_, h3⟩
  rcases h2 with ⟨o, h⟩ | h
  · exact .inl ⟨o, k _ _ (ne_of h e (by intro z; cases z)) h⟩
  · exact .inr h
theorem Fl.tB (x : Fl K pen b l1 l2 t1 t2 low L gA gB G n) (k : Keep 328 G G') (t : Tab G' 328 pB qB) : Fl K pen b l1 l2 t1 t2 low L gA gB G' n := by
  obtain ⟨ps, e, _⟩ := x.tb
  have tk := TKeep.tab k e
  exact ⟨(tk _ _).1 x.hb, x.pn.tb k e, k _ _ (ne_of x.h1 e (by intro z; cases z)) x.h1, k _ _ (ne_of x.h2 e (by intro z; cases z)) x.h2, x.n1, x.n2, x.ga.tk tk, x.gb.tk tk, t, tab_kp x.to k (by decide) fun o c z => by rw [e] at z; cases z⟩
theorem Fl.tO (x : Fl K pen b l1 l2 t1 t2 low L gA gB G n) (k : Keep 335 G G') (t : Tab G' 335 pO qO) : Fl K pen b l1 l2 t1 t2 low L gA gB G' n := by
  obtain ⟨ps, e, _⟩ := x.to
  have tk := TKeep.tab k e
  exact ⟨(tk _ _).1 x.hb, x.pn.tb k e, k _ _ (ne_of x.h1 e (by intro z; cases z)) x.h1, k _ _ (ne_of x.h2 e (by intro z; cases z)) x.h2, x.n1, x.n2, x.ga.tk tk, x.gb.tk tk, tab_kp x.tb k (by decide) (fun o c z => by rw [e] at z; cases z), t⟩
theorem Fl.le (x : Fl K pen b l1 l2 t1 t2 low L gA gB G n) (h : n ≤ m) : Fl K pen b l1 l2 t1 t2 low L gA gB G m := ⟨x.hb, x.pn.le h, x.h1, x.h2, x.n1, x.n2, x.ga, x.gb, x.tb, x.to⟩
end
theorem pap_ref {H : Hp} : ∀ {p : Pap} {v : V}, PapAt H v p → ∃ a, v = .ref a
  | .all _, _, ⟨a, e, _⟩ => ⟨a, e⟩
  | .split _ _ _, _, ⟨a, _, _, e, _⟩ => ⟨a, e⟩
theorem fl_off (low : Int) (L : Nat) (ns : List Int) : (ns.map (flp low L)).map (fun n => n - low) = (ns.map fun n => n - low).map (flO L) := by
  rw [List.map_map, List.map_map]
  refine List.map_congr_left fun n _ => ?_
  show 2 * low + 2 ^ L - 1 - n - low = 2 ^ L - 1 - (n - low)
  omega
theorem fl_in {L : Nat} {os : List Int} (h : InO L os) : InO L (os.map (flO L)) := fun o ho => by
  obtain ⟨x, hx, rfl⟩ := List.mem_map.mp ho
  have := h x hx
  show 0 ≤ 2 ^ L - 1 - x ∧ 2 ^ L - 1 - x < 2 ^ L
  omega
theorem sel_in {L : Nat} {os : List Int} {st en : Nat} (h : InO L os) : InO L (sel (os, st, en)) := fun o ho => h o (List.mem_of_mem_take (List.mem_of_mem_drop ho))
abbrev k__law_flipped_right : Nat := 48
inductive sp__law_flipped_right (K : PySem.W.Frag) (vs : List V) (H : Hp) (Q : VK) (E : XK) : Prop
  | mk (pen b : Addr) (v v3 : V) (n low : Int) (L st en : Nat) (ns : List Int) (_ : vs = [.ref pen, .ref b, v, v3, .int (st : Int), .int (en : Int)]) (_ : Pen K H pen n) (_ : n < 1000000) (_ : H b = some (.tup [.int low, .int (L : Int)])) (_ : L ≤ 40) (_ : TreeAt H v (grow low L ns)) (_ : Wths low L ns) (_ : ns.length ≤ 60) (_ : st ≤ en) (_ : en ≤ ns.length) (_ : Tab H 328 pB qB) (_ : Tab H 335 pO qO) (_ : ∀ H' : Hp, Q (.bl true) H') : sp__law_flipped_right K vs H Q E
section
variable {P : Program} {w : World} {K : PySem.W.Frag} {mg : Str → Option Value} {base : Heap}
theorem ok__law_flipped_right (z : Bz K mg base) : Cal P w K mg base k__law_flipped_right "_law_flipped_right" ["_law_pen", "_law_bounds_here", "_law_tree", "_law_row_here", "_law_start", "_law_end"] (sp__law_flipped_right K) := by
  have sc := sc__law_flipped_right
  refine z.d__law_flipped_right.cal fun f fd F => F.k sc fun cdv A outer s H vs Q E hr h => ?_
  obtain ⟨pen, b, v, v3, n, low, L, st, en, ns, rfl, P0, hn, hb, hL, hv, hw, h60, h1, h2, hT1, hT2, q⟩ := h
  refine ⟨_, (pss_cons (pst 6 sc.nd (pe_op op_add (pix ix_tup (pv 1) pe_int) (pe_fn (ok_top_of z) hr.m (by rfl) (pa_cons (pv 1) pa_nil))))
 (pss_cons (pst 7 sc.nd (pe_lst (pa_cons (pe_tup (pa_cons (pe_fn (ok_flipped z) hr.m (by rfl) (pa_cons (pv 2) pa_nil)) (pa_cons (pv 4) (pa_cons (pv 5) pa_nil)))) pa_nil)))
 (pss_cons (pst 8 sc.nd (pe_lst (pa_cons (pe_tup (pa_cons (pv 2) (pa_cons (pv 4) (pa_cons (pv 5) pa_nil)))) pa_nil)))
 (pss_cons (pst 9 sc.nd (pe_op op_sub (pv 5) (pv 4)))
 (pss_cons (pst 10 sc.nd (pe_fn (ok_worths_in z) hr.m (by rfl) (pa_cons (pv 1) (pa_cons (pv 8) pa_nil))))
 (pss_cons (ps_if (pt_cmpR (op_neAlk hr.units) (pe_fn (ok_worths_in z) hr.m (by rfl) (pa_cons (pv 1) (pa_cons (pv 7) pa_nil))) (pe_compG (x := "_law_worth") (cl := [("_law_whole", s.heap.objs.size + 1 + 0)]) (cn := ["_law_whole"]) (TN := ["_law_count"]) (N := ["_law_whole"]) (fr := [6]) (sc0 := defScope s__law_flipped_right) rfl (pi_rev rfl z.reversed_ (pa_cons (pv 10) pa_nil)) (fun C s₂ H₂ fp => (pe_tup (pa_cons (pe_op op_sub (pv 2) (pv 0)) (pa_cons (pv 1) pa_nil)))) (fun C s₂ H₂ fp => pts_nil) (fun C s₂ H₂ fp => (pg_tupK (K := K) (n := 2) rfl rfl (pgs_cons (pg_name (i := 0) (show (["_law_worth", "_law_count", "_law_whole"] : List Str).Nodup by decide +kernel) rfl (Or.inl rfl)) (pgs_cons (pg_name (i := 1) (show (["_law_worth", "_law_count", "_law_whole"] : List Str).Nodup by decide +kernel) rfl (Or.inl rfl)) pgs_nil)))) (by with_unfolding_all rfl) ⟨by with_unfolding_all rfl, trivial⟩ rfl rfl rfl ⟨by decide +kernel, by decide +kernel, by decide +kernel, by decide +kernel⟩ rfl) (nomark _))
  (pss_one (ps_ret pe_bl))
  pss_nil)
 (pss_cons (ps_for PassesOwn.never rfl (pi_range1 rfl z.range_ (pa_cons (pe_callB (call_min2 rfl) (by rfl) z.min_ bt_min (pa_cons (pv 9) (pa_cons pe_int pa_nil))) pa_nil)) (pgn 11 sc.nd)
  (pss_cons (pst 12 sc.nd (pe_fn (ok__law_take z) hr.m (by rfl) (pa_cons (pv 0) (pa_cons (pv 9) pa_nil))))
 (pss_one (ps_if (pt_cmpR op_ne (pix ix_tup (pe_fn (ok_nth_least z) hr.m (by rfl) (pa_cons (pv 1) (pa_cons (pv 7) (pa_cons (pv 12) pa_nil)))) pe_int) (pe_op op_sub (pv 6) (pix ix_tup (pe_fn (ok_nth_least z) hr.m (by rfl) (pa_cons (pv 1) (pa_cons (pv 8) (pa_cons (pe_op op_sub (pe_op op_sub (pv 9) pe_int) (pv 12)) pa_nil)))) pe_int)) (nomark _))
  (pss_one (ps_ret pe_bl))
  pss_nil))))
 (pss_cons (ps_for PassesOwn.never rfl (pi_range1 rfl z.range_ (pa_cons pe_int pa_nil)) (pgn 11 sc.nd)
  (pss_cons (pst 13 sc.nd (pe_op op_sub (pe_op op_add (pix ix_tup (pv 1) pe_int) (pe_fn (ok__law_take z) hr.m (by rfl) (pa_cons (pv 0) (pa_cons (pe_op op_add (pe_op op_shl pe_int (pix ix_tup (pv 1) pe_int)) pe_int) pa_nil)))) pe_int))
 (pss_cons (ps_if (pt_cmpR op_ne (pe_fn (ok_below z) hr.m (by rfl) (pa_cons (pv 1) (pa_cons (pv 7) (pa_cons (pe_op op_sub (pv 6) (pv 13)) pa_nil)))) (pe_op op_sub (pv 9) (pe_fn (ok_below z) hr.m (by rfl) (pa_cons (pv 1) (pa_cons (pv 8) (pa_cons (pe_op op_add (pv 13) pe_int) pa_nil))))) (nomark _))
  (pss_one (ps_ret pe_bl))
  pss_nil)
 (pss_cons (pst 14 sc.nd (pe_fn (ok_next_up z) hr.m (by rfl) (pa_cons (pv 1) (pa_cons (pv 7) (pa_cons (pe_op op_sub (pv 6) (pv 13)) pa_nil)))))
 (pss_cons (pst 15 sc.nd (pe_fn (ok_next_down z) hr.m (by rfl) (pa_cons (pv 1) (pa_cons (pv 8) (pa_cons (pv 13) pa_nil)))))
 (pss_cons (ps_join (ps_if (PW.pt (pw_or (pt_cmpR op_ne (pe_cmpR op_isN (pv 14) pe_non (nomark _)) (pe_cmpR op_isN (pv 15) pe_non (nomark _)) (nomark _)) (pw_or1 (PW.pt (pw_and (pt_cmpR op_notN (pv 14) pe_non (nomark _)) (pw_and1 (pt_cmpR (op_neAlk hr.units) (pv 14) (pe_tup (pa_cons (pe_op op_sub (pv 6) (pix ix_tup (pv 15) pe_int)) (pa_cons (pix ix_tup (pv 15) pe_int) pa_nil))) (nomark _))))))))
  (pss_one (ps_ret pe_bl))
  pss_nil))
 (pss_one (ps_if (pt_not (pt_val (pe_fn (ok_keeps z) hr.m (by rfl) (pa_cons (pix ix_tup (pv 1) pe_int) (pa_cons (pv 7) (pa_cons (pe_fn (ok__law_exchanged z) hr.m (by rfl) (pa_cons (pe_fn (ok_paper_below z) hr.m (by rfl) (pa_cons (pv 1) (pa_cons (pv 8) (pa_cons (pv 13) pa_nil)))) pa_nil)) pa_nil))))))
  (pss_one (ps_ret pe_bl))
  pss_nil))))))))
 (pss_cons (pst 16 sc.nd (pe_op op_add pe_int (pe_fn (ok__law_take z) hr.m (by rfl) (pa_cons (pv 0) (pa_cons pe_int pa_nil)))))
 (pss_cons (ps_setCompG (i := 17) (x := "_law_worth") (cl := [("_law_whole", s.heap.objs.size + 1 + 0)]) (cn := ["_law_whole"]) (TN := ["_law_count"]) (N := ["_law_whole"]) (fr := [6]) (sc0 := defScope s__law_flipped_right) sc.nd rfl (Or.inl rfl) rfl (pi_rev rfl z.reversed_ (pa_cons (pe_fn (ok_often z) hr.m (by rfl) (pa_cons (pv 1) (pa_cons (pv 8) (pa_cons (pv 16) pa_nil)))) pa_nil)) (fun C s₂ H₂ fp => (pe_tup (pa_cons (pe_op op_sub (pv 2) (pv 0)) (pa_cons (pv 1) pa_nil)))) (fun C s₂ H₂ fp => pts_nil) (fun C s₂ H₂ fp => (pg_tupK (K := K) (n := 2) rfl rfl (pgs_cons (pg_name (i := 0) (show (["_law_worth", "_law_count", "_law_whole"] : List Str).Nodup by decide +kernel) rfl (Or.inl rfl)) (pgs_cons (pg_name (i := 1) (show (["_law_worth", "_law_count", "_law_whole"] : List Str).Nodup by decide +kernel) rfl (Or.inl rfl)) pgs_nil)))) (by with_unfolding_all rfl) ⟨by with_unfolding_all rfl, trivial⟩ rfl rfl rfl ⟨by decide +kernel, by decide +kernel, by decide +kernel, by decide +kernel⟩ rfl (by with_unfolding_all rfl) (.inl rfl))
 (pss_cons (ps_if (pt_cmpR (op_neAlk hr.units) (pe_fn (ok_often z) hr.m (by rfl) (pa_cons (pv 1) (pa_cons (pv 7) (pa_cons (pv 16) pa_nil)))) (pv 17) (nomark _))
  (pss_one (ps_ret pe_bl))
  pss_nil)
 (pss_one (ps_ret (pe_cmpR (op_eqAlk hr.units) (pe_fn (ok_paper_often z) hr.m (by rfl) (pa_cons (pv 1) (pa_cons (pv 7) (pa_cons (pv 16) pa_nil)))) (pe_fn (ok__law_exchanged z) hr.m (by rfl) (pa_cons (pe_fn (ok_paper_often z) hr.m (by rfl) (pa_cons (pv 1) (pa_cons (pv 8) (pa_cons (pv 16) pa_nil)))) pa_nil)) (nomark _))))))))))))))), ?_⟩
  have hp := p2pos L
  have hq := p2le hL
  have hin := off_in hw
  refine ⟨_, rfl, b, _, _, _, rfl, rfl, SqT.of hb, rfl, _, rfl, b, low, L, rfl, SqT.of hb, hL, _, _, rfl, rfl, ?_⟩
  obtain ⟨wh, hwh⟩ : ∃ wh, wh = low + (low + 2 ^ L - 1) := ⟨_, rfl⟩
  dsimp only
  rw [← hwh]
  refine ⟨_, rfl, L, hL, v, low, ns, rfl, hv, by omega, fun u1 H1 s1 hu1 => ⟨_, rfl, _, rfl, szb rfl, fun t1 ht1 => ⟨szb rfl, fun l1 hl1 => ?_⟩⟩⟩
  rw [grow_off, fl_off] at hu1
  rw [grow_off] at hv
  have hol : (ns.map fun n => n - low).length = ns.length := List.length_map _
  generalize (ns.map fun n => n - low) = os at hv hu1 hin hol
  obtain ⟨H2, e2, s2, g2⟩ := nwH ht1 (.tup [u1, .int (st : Int), .int (en : Int)])
  rw [e2] at hl1 ⊢
  obtain ⟨H3, e3, s3, g3⟩ := nwH hl1 (.lst [.ref t1])
  rw [e3]
  refine ⟨_, rfl, _, rfl, _, rfl, szb rfl, fun t2 ht2 => ⟨szb rfl, fun l2 hl2 => ?_⟩⟩
  obtain ⟨H4, e4, s4, g4⟩ := nwH ht2 (.tup [v, .int (st : Int), .int (en : Int)])
  rw [e4] at hl2 ⊢
  obtain ⟨H5, e5, s5, g5⟩ := nwH hl2 (.lst [.ref t2])
  rw [e5]
  have s15 : Same H1 H5 := (s2.trans s3).trans (s4.trans s5)
  have S5 := s1.trans s15
  obtain ⟨gA, hgA⟩ : ∃ gA : List G3, gA = [(os.map (flO L), st, en)] := ⟨_, rfl⟩
  obtain ⟨gB, hgB⟩ : ∃ gB : List G3, gB = [(os, st, en)] := ⟨_, rfl⟩
  have X5 : Fl K pen b l1 l2 t1 t2 low L gA gB H5 n := ⟨S5 _ _ hb, P0.same S5, (s4.trans s5) _ _ g3, g5, (P0.same (s1.trans s2)).fresh hl1, (P0.same (((s1.trans s2).trans s3).trans s4)).fresh hl2,
    by rw [hgA]; exact gat1 ((s3.trans (s4.trans s5)) _ _ g2) (hu1.same s15), by rw [hgB]; exact gat1 (s5 _ _ g4) (hv.same S5), hT1.same S5, hT2.same S5⟩
  have ga : ∀ g ∈ gA, GoodS L g := fun g hg => by
    rw [hgA] at hg
    rw [List.mem_singleton.mp hg]
    exact ⟨fl_in hin, h1, by show en ≤ (os.map _).length; rw [List.length_map]; omega, by show (os.map _).length ≤ 300; rw [List.length_map]; omega⟩
  have gb : ∀ g ∈ gB, GoodS L g := fun g hg => by
    rw [hgB] at hg
    rw [List.mem_singleton.mp hg]
    exact ⟨hin, h1, by show en ≤ os.length; omega, by show os.length ≤ 300; omega⟩
  have la : gA.length ≤ 100 := by rw [hgA]; exact (by decide : 1 ≤ 100)
  have lb : gB.length ≤ 100 := by rw [hgB]; exact (by decide : 1 ≤ 100)
  have hsi : InO L (sel (os, st, en)) := sel_in hin
  have hsl : (sel (os, st, en)).length = en - st := by
    show ((os.take en).drop st).length = en - st
    rw [List.length_drop, List.length_take, Nat.min_eq_left (by omega)]
  have WA : Wh gA = (sel (os, st, en)).map (flO L) := by rw [hgA, Wh1, sel_map]
  have WB : Wh gB = sel (os, st, en) := by rw [hgB, Wh1]
  generalize sel (os, st, en) = us at hsi hsl WA WB
  have lA : (Wh gA).length = en - st := by rw [WA, List.length_map, hsl]
  have lB : (Wh gB).length = en - st := by rw [WB, hsl]
  clear hgA hgB g2 g3 g4 g5 hu1 hv hT1 hT2 e2 e3 e4 e5 ht1 ht2 hl1 hl2 s2 s3 s4 s5 s15
  obtain ⟨M, hM⟩ : ∃ M, M = en - st := ⟨_, rfl⟩
  refine ⟨_, rfl, _, rfl, _, _, rfl, rfl, ?_⟩
  dsimp only
  rw [show (en : Int) - (st : Int) = (M : Int) by omega]
  rw [← hM] at lA lB hsl
  have hFL : ∀ part floor : Int, caF part floor L low (Wh gA) = ((caF part floor L low (Wh gB)).reverse.map fun p => (wh - p.1, p.2)) := fun part floor => by
    rw [WA, WB, ca_flip L low us hsi, List.map_reverse]
    congr 2
    funext p
    rw [show 2 * low + 2 ^ L - 1 - p.1 = wh - p.1 by omega]
  have cl : ∀ part floor : Int, 1 ≤ part → 0 ≤ floor → (caF part floor L low (Wh gB)).length ≤ 60 := fun part floor hp hf => by
    have := ca_len hp hf (least := low) (W_in gb)
    omega
  refine ⟨_, rfl, _, rfl, b, l2, _, low, L, gB, rfl, SqT.of X5.hb, hL, SqL.of X5.h2, X5.gb, gb, lb, by omega, fun H6 D6 y6 s6 e6 _ p6 => ?_⟩
  have X6 := X5.same s6
  refine ⟨_, rfl, _, rfl, b, l1, _, low, L, gA, rfl, SqT.of X6.hb, hL, SqL.of X6.h1, X6.ga, ga, la, by omega, fun H7 D7 y7 s7 e7 _ p7 => ?_⟩
  have X7 := X6.same s7
  have e67 := s7 _ _ e6
  have p67 := ps_same p6 s7
  refine ⟨_, rfl, D6, y6, rfl, SqL.of e67, fun E8 hE8 => ?_⟩
  refine compG_rev (sz (by have := cl 1 0 (by decide) (by decide); have := p6.1; omega)) (fun i us H8 => H8 E8 = some (.lst us) ∧ us.length = i ∧ Same H7 H8 ∧ AllAt PsR H8 us ((((caF 1 0 L low (Wh gB)).reverse).take i).map fun p => (wh - p.1, p.2))) ⟨upd_same, rfl, same_new hE8 _, AllAt.nil⟩ (fun i us H8 ⟨_, _, e, _⟩ => SqL.of (e _ _ e67))
    (fun i us H8 ⟨e1, e2, _⟩ => ⟨e1, Nat.le_of_eq e2⟩) ?_ ?_
  · rintro i x us' H8 hx ⟨f1, f2, f3, f4⟩ vs3 hvs3
    obtain ⟨p, gp, px, rfl, hpx⟩ := (ps_same p67 f3).rev.get hx
    match vs3, hvs3 with
    | [x0, x1], _ =>
      refine ⟨px, _, rfl, SqT.of hpx, rfl, _, _, rfl, _, _, rfl, rfl, ⟨[_, _], rfl, rfl⟩, iteT ?_⟩
      refine ⟨_, rfl, _, rfl, _, _, rfl, rfl, _, rfl, szb rfl, fun p2 hp2 => ?_⟩
      obtain ⟨H9, e9, s9, g9⟩ := nwH hp2 (.tup [V.int (wh - p.1), .int p.2])
      dsimp only at hp2 ⊢
      rw [e9]
      have f1' := s9 _ _ f1
      have tk : TKeep H9 (upd H9 E8 (.lst (us' ++ [.ref p2]))) := TKeep.set f1'
      refine ⟨f1', upd_same, by rw [List.length_append, f2] <;> rfl, Same.own (f3.trans s9) hE8, ?_⟩
      rw [List.take_add_one, gp, List.map_append]
      exact (ps_tk (ps_same f4 s9) tk).snoc (PsR.tk tk ⟨p2, rfl, g9⟩)
  rintro us3 H8 ⟨f1, f2, f3, f4⟩
  rw [p6.1, ← List.length_reverse, List.take_length, ← hFL] at f4
  refine ⟨3, D7, E8, rfl, rfl, ps_alk (SqL.of (f3 _ _ e7)) (SqL.of f1) (ps_same p7 f3) f4, by decide, _, rfl, ifB rfl ?_⟩
  have X8 := X7.same f3
  clear f1 f2 f3 f4 e7 p7 e67 p67 X7 X6 X5 e6 p6 s6 s7
  refine ⟨_, rfl, _, _, rfl, ?_⟩
  obtain ⟨mn, hmn⟩ : ∃ mn : Nat, (if (4 : Int) < (M : Int) then (4 : Int) else (M : Int)) = (mn : Int) ∧ mn ≤ 4 ∧ mn ≤ M := by
    by_cases c : (4 : Int) < (M : Int)
    · rw [if_pos c]; exact ⟨4, rfl, by omega, by omega⟩
    · rw [if_neg c]; exact ⟨M, rfl, by omega, by omega⟩
  obtain ⟨em, hm4, hmM⟩ := hmn
  rw [em]
  refine ⟨mn, rfl, by omega, by omega, for_range (n := ((mn : Int)).toNat) (fun i σ G => ∃ (a11 a12 : Option V), σ = [some (.ref pen), some (.ref b), some v, some v3, some (.int (st : Int)), some (.int (en : Int)), some (.int wh), some (.ref l1), some (.ref l2), some (.int (M : Int)), some (.ref D6), a11, a12, none, none, none, none, none] ∧ Fl K pen b l1 l2 t1 t2 low L gA gB G (n + i)) ⟨_, _, rfl, X8.le (by omega)⟩ ?_ ?_⟩
  · rintro i σ G hi ⟨a11, a12, rfl, XG⟩
    refine ⟨_, rfl, _, rfl, pen, M, n + i, rfl, XG.pn, by omega, by omega, by omega, fun kv G1 k1 P1 k10 k11 => ?_⟩
    have X1 := XG.pk k1 P1
    obtain ⟨k, rfl⟩ := Int.eq_ofNat_of_zero_le k10
    have hkM : k < M := by omega
    refine ⟨_, rfl, _, rfl, _, rfl, b, l1, _, low, L, k, gA, rfl, SqT.of X1.hb, hL, X1.h1, X1.ga, ga, la, by omega, by omega, fun p j pl G2 s2 hp _ => ?_⟩
    have X2 := X1.same s2
    refine ⟨p, _, _, _, rfl, rfl, hp, rfl, _, rfl, _, rfl, _, rfl, _, rfl, _, _, rfl, rfl, _, rfl, _, _, rfl, rfl, b, l2, _, low, L, M - 1 - k, gB, congrArg (fun t => [V.ref b, V.ref l2, V.int t]) (by omega), SqT.of X2.hb, hL, X2.h2, X2.gb, gb, lb, by omega, by omega, fun p3 j3 pl3 G3 s3 hp3 _ => ?_⟩
    refine ⟨p3, _, _, _, rfl, rfl, hp3, rfl, _, _, rfl, rfl, rfl, _, rfl, ifB (nde ?_) ⟨_, _, rfl, (X2.same s3).le (by omega)⟩⟩
    rw [WA, WB, kth_flip L us k hsi (by omega), hsl]
    exact congrArg V.int (by omega)
  rintro σ G ⟨a11, a12, rfl, XG⟩
  rw [show ((mn : Int)).toNat = mn by omega] at XG
  refine ⟨3, rfl, by decide, by decide, for_range (n := 3) (fun i σ G => ∃ (a11 a13 a14 a15 : Option V), σ = [some (.ref pen), some (.ref b), some v, some v3, some (.int (st : Int)), some (.int (en : Int)), some (.int wh), some (.ref l1), some (.ref l2), some (.int (M : Int)), some (.ref D6), a11, a12, a13, a14, a15, none, none] ∧ Fl K pen b l1 l2 t1 t2 low L gA gB G (n + 4 + i)) ⟨_, _, _, _, rfl, XG.le (by omega)⟩ ?_ ?_⟩
  · clear XG X8 G
    rintro i σ G hi ⟨a11, a13, a14, a15, rfl, XG⟩
    refine ⟨_, rfl, b, _, _, _, rfl, rfl, SqT.of XG.hb, rfl, _, rfl, _, rfl, b, _, _, _, rfl, rfl, SqT.of XG.hb, rfl, _, _, rfl, rfl, ⟨by omega, by omega, by decide⟩, ?_⟩
    dsimp only
    rw [shlOne]
    refine ⟨_, _, rfl, rfl, pen, 2 ^ L + 2, n + 4 + i, rfl, XG.pn, by omega, by omega, by omega, fun x1 G1 k1 P1 x10 x11 => ⟨_, _, rfl, rfl, _, _, rfl, rfl, ?_⟩⟩
    have X1 := XG.pk k1 P1
    obtain ⟨nu, hnu⟩ : ∃ nu, nu = low + x1 - 1 := ⟨_, rfl⟩
    dsimp only
    rw [← hnu]
    refine ⟨_, rfl, _, rfl, _, rfl, _, rfl, _, _, rfl, rfl, b, l1, _, low, wh - nu, L, gA, rfl, SqT.of X1.hb, hL, SqL.of X1.h1, X1.ga, ga, la, fun G2 s2 => ?_⟩
    have X2 := X1.same s2
    refine ⟨_, rfl, _, rfl, _, rfl, _, rfl, _, _, rfl, rfl, b, l2, _, low, nu + 1, L, gB, rfl, SqT.of X2.hb, hL, SqL.of X2.h2, X2.gb, gb, lb, fun G3 s3 => ⟨_, _, rfl, rfl, rfl, _, rfl, ifB (nde ?_) ?_⟩⟩
    · have hf := lt_flip L (wh - nu - low) us
      rw [WA, WB]
      rw [show (2 : Int) ^ L - (wh - nu - low) = nu + 1 - low by omega] at hf
      exact congrArg V.int (by omega)
    have X3 := X2.same s3
    refine ⟨_, rfl, _, rfl, _, rfl, _, rfl, _, _, rfl, rfl, b, l1, _, low, wh - nu, L, gA, rfl, SqT.of X3.hb, hL, X3.h1, X3.ga, ga, la, by omega, fun v4 G4 s4 hv4 => ?_⟩
    have X4 := X3.same s4
    refine ⟨_, rfl, _, rfl, _, rfl, b, l2, _, low, nu, L, gB, rfl, SqT.of X4.hb, hL, X4.h2, X4.gb, gb, lb, by omega, fun v5 G5 s5 hv5 => ?_⟩
    have X5 := X4.same s5
    have hnx := nx_flip (low := low) (num := nu) hsi
    rw [← WA, ← WB, show 2 * low + 2 ^ L - 1 - nu = wh - nu by omega] at hnx
    rw [hnx] at hv4
    generalize (stp L low (Wh gB)).reverse.find? (fun q => decide (q.1 < nu)) = oo at hv4 hv5
    refine ⟨fun σ G => σ = [some (.ref pen), some (.ref b), some v, some v3, some (.int (st : Int)), some (.int (en : Int)), some (.int wh), some (.ref l1), some (.ref l2), some (.int (M : Int)), some (.ref D6), some (.int (0 + i)), a12, some (.int nu), some v4, some v5, none, none] ∧ Fl K pen b l1 l2 t1 t2 low L gA gB G (n + 4 + i + 1), ?_, ?_⟩
    · cases oo with
      | none =>
        obtain rfl : v4 = .non := hv4
        obtain rfl : v5 = .non := hv5
        refine ⟨_, rfl, rfl, _, rfl, rfl, rfl, _, rfl, ifB rfl ?_⟩
        refine ⟨_, rfl, rfl, _, rfl, ifB rfl ?_⟩
        exact ifB rfl ⟨rfl, X5⟩
      | some p =>
        obtain ⟨pa, rfl, hpa⟩ : PsR G4 v4 (2 * low + 2 ^ L - 1 - p.1, p.2) := hv4
        obtain ⟨pb, rfl, hpb⟩ : PsR G5 v5 p := hv5
        refine ⟨_, rfl, rfl, _, rfl, rfl, rfl, _, rfl, ifB rfl ?_⟩
        refine ⟨_, rfl, rfl, _, rfl, ifA rfl ?_⟩
        refine ⟨_, rfl, _, rfl, _, rfl, pb, _, _, _, rfl, rfl, SqT.of hpb, rfl, _, _, rfl, rfl, _, rfl, pb, _, _, _, rfl, rfl, SqT.of hpb, rfl, szb rfl, fun t6 ht6 => ?_⟩
        dsimp only at ht6 ⊢
        obtain ⟨G6, e6, s6, g6⟩ := nwH ht6 (.tup [V.int (wh - p.1), .int p.2])
        rw [e6]
        rw [show 2 * low + 2 ^ L - 1 - p.1 = wh - p.1 by omega] at hpa
        exact ⟨2, pa, t6, rfl, rfl, pr_alk (p := (wh - p.1, p.2)) (SqT.of (s6 _ _ (s5 _ _ hpa))) (SqT.of g6), by decide, _, rfl, ifB rfl ⟨rfl, X5.same s6⟩⟩
    · rintro σ G6 ⟨rfl, X6⟩
      refine ⟨_, rfl, b, _, _, _, rfl, rfl, SqT.of X6.hb, rfl, _, rfl, _, rfl, _, rfl, _, rfl, b, l2, _, low, nu, L, gB, rfl, X6.hb, hL, X6.h2, X6.gb, gb, lb, by omega, X6.tb, fun G7 v7 k7 t7 hp7 => ?_⟩
      have X7 := X6.tB k7 t7
      refine ⟨40, Nat.le_refl _, v7, _, rfl, hp7, Nat.le_trans (pap_dp _ _ _) hL, fun G8 v8 s8 hp8 => ?_⟩
      have X8 := X7.same s8
      refine ⟨l1, v8, _, L, _, gA, rfl, hL, X8.h1, X8.ga, ga, la, hp8, by rw [WA, WB]; exact kp_flip L low us hsi, fun G9 s9 => ⟨_, rfl, ifB rfl ?_⟩⟩
      exact ⟨_, _, _, _, rfl, (X8.same s9).le (by omega)⟩
  rintro σ G ⟨a11, a13, a14, a15, rfl, XG⟩
  refine ⟨_, rfl, pen, 6, _, rfl, XG.pn, by omega, by decide, by decide, fun x1 G1 k1 P1 x10 x11 => ⟨_, _, rfl, rfl, ?_⟩⟩
  have X1 := XG.pk k1 P1
  obtain ⟨pt, hpt⟩ : ∃ pt, pt = 1 + x1 := ⟨_, rfl⟩
  dsimp only
  rw [← hpt]
  refine ⟨_, rfl, _, rfl, _, rfl, b, l2, _, low, pt, L, gB, rfl, SqT.of X1.hb, hL, SqL.of X1.h2, X1.gb, gb, lb, by omega, by omega, fun G2 D2 y2 s2 e2 _ p2 => ?_⟩
  have X2 := X1.same s2
  refine ⟨D2, y2, rfl, SqL.of e2, fun E8 hE8 => ?_⟩
  refine compG_rev (sz (by have := cl pt ((Wh gB).length : Nat) (by omega) (by omega); have := p2.1; omega)) (fun i us H8 => H8 E8 = some (.lst us) ∧ us.length = i ∧ Same G2 H8 ∧ AllAt PsR H8 us ((((caF pt ((Wh gB).length : Nat) L low (Wh gB)).reverse).take i).map fun p => (wh - p.1, p.2))) ⟨upd_same, rfl, same_new hE8 _, AllAt.nil⟩ (fun i us H8 ⟨_, _, e, _⟩ => SqL.of (e _ _ e2))
    (fun i us H8 ⟨e1, e2, _⟩ => ⟨e1, Nat.le_of_eq e2⟩) ?_ ?_
  · rintro i x us' H8 hx ⟨f1, f2, f3, f4⟩ vs3 hvs3
    obtain ⟨p, gp, px, rfl, hpx⟩ := (ps_same p2 f3).rev.get hx
    match vs3, hvs3 with
    | [x0, x1], _ =>
      refine ⟨px, _, rfl, SqT.of hpx, rfl, _, _, rfl, _, _, rfl, rfl, ⟨[_, _], rfl, rfl⟩, iteT ?_⟩
      refine ⟨_, rfl, _, rfl, _, _, rfl, rfl, _, rfl, szb rfl, fun p2 hp2 => ?_⟩
      obtain ⟨H9, e9, s9, g9⟩ := nwH hp2 (.tup [V.int (wh - p.1), .int p.2])
      dsimp only at hp2 ⊢
      rw [e9]
      have f1' := s9 _ _ f1
      have tk : TKeep H9 (upd H9 E8 (.lst (us' ++ [.ref p2]))) := TKeep.set f1'
      refine ⟨f1', upd_same, by rw [List.length_append, f2] <;> rfl, Same.own (f3.trans s9) hE8, ?_⟩
      rw [List.take_add_one, gp, List.map_append]
      exact (ps_tk (ps_same f4 s9) tk).snoc (PsR.tk tk ⟨p2, rfl, g9⟩)
  rintro us3 H8 ⟨f1, f2, f3, f4⟩
  rw [p2.1, ← List.length_reverse, List.take_length, ← hFL, lB, ← lA] at f4
  have X8 := X2.same f3
  refine ⟨_, rfl, _, rfl, _, rfl, b, l1, _, low, pt, L, gA, rfl, SqT.of X8.hb, hL, SqL.of X8.h1, X8.ga, ga, la, by omega, by omega, fun G9 D9 y9 s9 e9 _ p9 => ?_⟩
  have X9 := X8.same s9
  refine ⟨_, rfl, 3, D9, E8, rfl, rfl, ps_alk (SqL.of e9) (SqL.of (s9 _ _ f1)) p9 (ps_same f4 s9), by decide, _, rfl, ifB rfl ?_⟩
  refine ⟨_, rfl, _, rfl, _, rfl, b, l1, _, low, pt, L, gA, rfl, X9.hb, hL, X9.h1, X9.ga, ga, la, by omega, by omega, by omega, X9.to, fun Ga va ka ta hpa => ?_⟩
  have Xa := X9.tO ka ta
  refine ⟨_, rfl, _, rfl, _, rfl, b, l2, _, low, pt, L, gB, rfl, Xa.hb, hL, Xa.h2, Xa.gb, gb, lb, by omega, by omega, by omega, Xa.to, fun Gb vb kb tb hpb => ?_⟩
  obtain ⟨ps, eT, _⟩ := Xa.to
  have hpa' := hpa.tk (TKeep.tab kb eT)
  refine ⟨40, Nat.le_refl _, vb, _, rfl, hpb, Nat.le_trans (pap_dp _ _ _) hL, fun Gc vc sc' hpc => ?_⟩
  have hpa2 := hpa'.same sc'
  have ef : ∀ W : Int, My.f3 (psO pt W) = fun _ _ t => decide (W < t * pt) := fun W => rfl
  rw [lA, WA, ef, pap_flip L low low us hsi] at hpa2
  rw [lB, WB, ef] at hpc
  obtain ⟨aa, rfl⟩ := pap_ref hpa2
  obtain ⟨ac, rfl⟩ := pap_ref hpc
  exact ⟨_, aa, ac, rfl, rfl, alk_pap hpa2 hpc, by rw [ex_dp]; have := pap_dp (φ := fun _ _ t => decide (((M : Nat) : Int) < t * pt)) L low us; omega, q _⟩
end
theorem flp2 (low : Int) (L : Nat) (ns : List Int) : (ns.map (flp low L)).map (flp low L) = ns := by
  rw [List.map_map, show (flp low L ∘ flp low L) = id from funext fun n => by show 2 * low + 2 ^ L - 1 - (2 * low + 2 ^ L - 1 - n) = n; omega, List.map_id]
theorem flp_in {low : Int} {L : Nat} {ns : List Int} (h : Wths low L ns) : Wths low L (ns.map (flp low L)) := fun x hx => by
  obtain ⟨n, hn, rfl⟩ := List.mem_map.mp hx
  have := h n hn
  show low ≤ 2 * low + 2 ^ L - 1 - n ∧ 2 * low + 2 ^ L - 1 - n < low + 2 ^ L
  omega
abbrev k_law : Nat := 49
abbrev sp_law (K : PySem.W.Frag) : Sp := spLawT K [335, 328]
section
variable {P : Program} {w : World} {K : PySem.W.Frag} {mg : Str → Option Value} {base : Heap}
theorem ok_law (z : Bz K mg base) : ∀ (f : Addr) (fd : FuncData), Fun K "law" "law" s_law f fd → FnOk P w K mg base CX0 k_law f fd ["_law_script"] (sp_law K) := by
  have sc := sc_law
  intro f fd F
  refine F.k sc fun cdv A outer s H vs Q E hr h => ?_
  obtain ⟨a, sn, rfl, hS, h63, hT, hnl, q⟩ := h
  refine ⟨_, (pss_cons (pst 1 sc.nd (pe_lst (pa_cons (pv 0) (pa_cons pe_int (pa_cons pe_int pa_nil)))))
 (pss_cons (pst 2 sc.nd (pe_fn (ok__law_bounds z) hr.m (by rfl) (pa_cons (pv 1) pa_nil)))
 (pss_cons (pst 3 sc.nd (pe_fn (ok__law_row z) hr.m (by rfl) (pa_cons (pv 1) (pa_cons (pv 2) (pa_cons pe_int pa_nil)))))
 (pss_cons (pst 4 sc.nd (pe_fn (ok_tree_of z) hr.m (by rfl) (pa_cons (pv 2) (pa_cons (pv 3) pa_nil))))
 (pss_cons (pst 5 sc.nd (pe_op op_add (pix ix_tup (pv 2) pe_int) (pe_fn (ok_top_of z) hr.m (by rfl) (pa_cons (pv 2) pa_nil))))
 (pss_cons (ps_if (PW.pt (pw_or (pt_cmpR (op_neTr hr.units) (pe_fn (ok_turned z) hr.m (by rfl) (pa_cons (pv 4) pa_nil)) (pe_fn (ok_tree_of z) hr.m (by rfl) (pa_cons (pv 2) (pa_cons (pe_rev (pv 3)) pa_nil))) (nomark _)) (pw_or1 (pt_cmpR (op_neTr hr.units) (pe_fn (ok_turned z) hr.m (by rfl) (pa_cons (pe_fn (ok_turned z) hr.m (by rfl) (pa_cons (pv 4) pa_nil)) pa_nil)) (pv 4) (nomark _)))))
  (pss_one (ps_ret pe_bl))
  pss_nil)
 (pss_cons (ps_if (PW.pt (pw_or (pt_cmpR (op_neTr hr.units) (pe_fn (ok_flipped z) hr.m (by rfl) (pa_cons (pv 4) pa_nil)) (pe_fn (ok_tree_of z) hr.m (by rfl) (pa_cons (pv 2) (pa_cons (pe_comp (cl := [("_law_whole", s.heap.objs.size + 1 + 0)]) (cn := ["_law_whole"]) (N := ["_law_whole"]) (fr := [5]) (sc0 := defScope s_law) rfl (pi_list (pv 3)) (fun C s₂ H₂ fp => (pe_op op_sub (pv 1) (pv 0))) (by with_unfolding_all rfl) ⟨by with_unfolding_all rfl, trivial⟩ rfl rfl rfl cok rfl) pa_nil))) (nomark _)) (pw_or1 (pt_cmpR (op_neTr hr.units) (pe_fn (ok_flipped z) hr.m (by rfl) (pa_cons (pe_fn (ok_flipped z) hr.m (by rfl) (pa_cons (pv 4) pa_nil)) pa_nil)) (pv 4) (nomark _)))))
  (pss_one (ps_ret pe_bl))
  pss_nil)
 (pss_cons (ps_if (pt_cmpR (op_neTr hr.units) (pe_fn (ok_turned z) hr.m (by rfl) (pa_cons (pe_fn (ok_flipped z) hr.m (by rfl) (pa_cons (pv 4) pa_nil)) pa_nil)) (pe_fn (ok_flipped z) hr.m (by rfl) (pa_cons (pe_fn (ok_turned z) hr.m (by rfl) (pa_cons (pv 4) pa_nil)) pa_nil)) (nomark _))
  (pss_one (ps_ret pe_bl))
  pss_nil)
 (pss_cons (pst 6 sc.nd (pe_fn (ok__law_take z) hr.m (by rfl) (pa_cons (pv 1) (pa_cons (pe_op op_add (pln z.len_ (pa_cons (pv 3) pa_nil)) pe_int) pa_nil))))
 (pss_cons (pst 7 sc.nd (pe_op op_add (pv 6) (pe_fn (ok__law_take z) hr.m (by rfl) (pa_cons (pv 1) (pa_cons (pe_op op_sub (pe_op op_add (pln z.len_ (pa_cons (pv 3) pa_nil)) pe_int) (pv 6)) pa_nil)))))
 (pss_cons (ps_if (pt_not (pt_val (pe_fn (ok__law_turned_right z) hr.m (by rfl) (pa_cons (pv 1) (pa_cons (pv 2) (pa_cons (pv 4) (pa_cons (pv 3) (pa_cons (pv 6) (pa_cons (pv 7) pa_nil)))))))))
  (pss_one (ps_ret pe_bl))
  pss_nil)
 (pss_one (ps_ret (pe_fn (ok__law_flipped_right z) hr.m (by rfl) (pa_cons (pv 1) (pa_cons (pv 2) (pa_cons (pv 4) (pa_cons (pv 3) (pa_cons (pv 6) (pa_cons (pv 7) pa_nil)))))))))))))))))))), ?_⟩
  have hS' : Scr K H a (sn.map V.int) := by
    rcases hS with (h | h) | h
    · exact absurd h (hnl _ _)
    · exact .inl h
    · exact .inr h
  have T1 : Tab H 328 pB qB := ⟨#[], hT 328 (by simp), trivial, .inl rfl⟩
  have T2 : Tab H 335 pO qO := ⟨#[], hT 335 (by simp), trivial, .inl rfl⟩
  refine ⟨_, rfl, szb rfl, fun pen hpen => ?_⟩
  obtain ⟨H1, e1, s1, g1⟩ := nwH hpen (.lst [.ref a, .int 0, .int 0])
  rw [e1]
  have P1 : Pen K H1 pen 0 := ⟨a, sn, 0, 0, g1, hS'.same s1, h63, by decide, by decide, by decide⟩
  have n1 : (328 : Addr) ≠ pen := ne_of (s1 _ _ (hT 328 (by simp))) g1 (by intro z; cases z)
  have n2 : (335 : Addr) ≠ pen := ne_of (s1 _ _ (hT 335 (by simp))) g1 (by intro z; cases z)
  refine ⟨_, rfl, pen, 0, rfl, P1, by decide, fun b low L H2 k2 P2 hb2 lo1 lo2 hL => ?_⟩
  have hp := p2pos L
  have hq := p2le hL
  refine ⟨_, rfl, _, rfl, pen, b, 0 + 4, 30, low, L, rfl, P2, by decide, hb2, hL, by decide, by decide, fun r ns H3 k3 P3 hr3 hrn h60 hw => ?_⟩
  have nrp : r ≠ pen := P2.fresh hrn
  have hb3 := k3 _ _ (P2.ne hb2) hb2
  have kT : ∀ {T : Addr} {p : Pos} {q : Str}, Tab H T p q → T ≠ pen → Tab H3 T p q := fun t nT => tab_kp (t.same s1) (k2.trans k3) nT fun o c z => by rw [g1] at z; cases z
  have t1 := kT T1 n1
  have t2 := kT T2 n2
  clear T1 T2 kT hT hnl hS hS' e1 s1 g1 k2 k3 P1 P2 hb2 hrn hpen
  refine ⟨_, rfl, _, rfl, b, r, low, L, ns, rfl, SqT.of hb3, hL, SqL.of hr3, by omega, hw, fun H4 v s4 hv => ?_⟩
  have hb4 := s4 _ _ hb3
  have hr4 := s4 _ _ hr3
  refine ⟨_, rfl, b, _, _, _, rfl, rfl, SqT.of hb4, rfl, _, rfl, b, low, L, rfl, SqT.of hb4, hL, _, _, rfl, rfl, ?_⟩
  dsimp only
  rw [show low + (low + 2 ^ L - 1) = 2 * low + 2 ^ L - 1 by omega]
  have dp : ∀ xs : List Int, (grow low L xs).deep ≤ 60 := fun xs => Nat.le_trans (grow_deep L low xs) (by omega)
  -- turned
  refine ⟨_, rfl, L, hL, v, low, ns, rfl, hv, by omega, fun u5 H5 s5 hu5 => ?_⟩
  refine ⟨_, rfl, _, rfl, r, _, rfl, SqL.of (s5 _ _ hr4), fun r6 hr6 => ?_⟩
  rw [show (ns.map V.int).reverse = ns.reverse.map V.int from List.map_reverse.symm]
  obtain ⟨H6, e6, s6, g6⟩ := nwH hr6 (.lst (ns.reverse.map V.int))
  rw [e6]
  have s46 := s5.trans s6
  refine ⟨b, r6, low, L, ns.reverse, rfl, SqT.of (s46 _ _ hb4), hL, SqL.of g6, by rw [List.length_reverse]; omega, fun x hx => hw x (List.mem_reverse.mp hx), fun H7 u7 s7 hu7 => ?_⟩
  refine ⟨_, (hu5.same s6).same s7, hu7, dp _, _, rfl, ifB rfl ?_⟩
  have s47 := s46.trans s7
  refine ⟨_, rfl, L, hL, v, low, ns, rfl, hv.same s47, by omega, fun u8 H8 s8 hu8 => ?_⟩
  refine ⟨L, hL, u8, low, ns.reverse, rfl, hu8, by rw [List.length_reverse]; omega, fun u9 H9 s9 hu9 => ?_⟩
  rw [List.reverse_reverse] at hu9
  have s49 := s47.trans (s8.trans s9)
  refine ⟨_, rfl, _, hu9, hv.same s49, dp _, _, rfl, ifB rfl ?_⟩
  -- flipped
  have hr9 := s49 _ _ hr4
  have hv9 := hv.same s49
  refine ⟨_, rfl, L, hL, v, low, ns, rfl, hv9, by omega, fun u10 H10 s10 hu10 => ?_⟩
  refine ⟨_, rfl, _, rfl, r, rfl, ⟨_, SqL.of (s10 _ _ hr9)⟩, fun D hD => ?_⟩
  refine comp_ints (g := fun n => V.int (flp low L n)) (SqL.of (s10 _ _ hr9)) hD (sz (by omega)) (fun n _ G5 Q1 _ q1 => ⟨_, rfl, _, rfl, _, _, rfl, rfl, q1⟩) ?_
  rw [show (ns.map fun n => V.int (flp low L n)) = (ns.map (flp low L)).map V.int by rw [List.map_map]; rfl]
  obtain ⟨H11, e11, s11, g11⟩ := nwH hD (.lst ((ns.map (flp low L)).map V.int))
  rw [e11]
  have s9b := s10.trans s11
  refine ⟨b, D, low, L, ns.map (flp low L), rfl, SqT.of (s9b _ _ (s49 _ _ hb4)), hL, SqL.of g11, by rw [List.length_map]; omega, flp_in hw, fun H12 u12 s12 hu12 => ?_⟩
  refine ⟨_, (hu10.same s11).same s12, hu12, dp _, _, rfl, ifB rfl ?_⟩
  have s9c := s9b.trans s12
  refine ⟨_, rfl, L, hL, v, low, ns, rfl, hv9.same s9c, by omega, fun u13 H13 s13 hu13 => ?_⟩
  refine ⟨L, hL, u13, low, _, rfl, hu13, by rw [List.length_map]; omega, fun u14 H14 s14 hu14 => ?_⟩
  rw [flp2] at hu14
  have s9e := s9c.trans (s13.trans s14)
  refine ⟨_, rfl, _, hu14, hv9.same s9e, dp _, _, rfl, ifB rfl ?_⟩
  -- both
  have S14 := s49.trans s9e
  have hv14 := hv.same S14
  refine ⟨_, rfl, L, hL, v, low, ns, rfl, hv14, by omega, fun u15 H15 s15 hu15 => ?_⟩
  refine ⟨L, hL, u15, low, _, rfl, hu15, by rw [List.length_map]; omega, fun u16 H16 s16 hu16 => ?_⟩
  have sb := s15.trans s16
  refine ⟨_, rfl, L, hL, v, low, ns, rfl, hv14.same sb, by omega, fun u17 H17 s17 hu17 => ?_⟩
  refine ⟨L, hL, u17, low, _, rfl, hu17, by rw [List.length_reverse]; omega, fun u18 H18 s18 hu18 => ?_⟩
  rw [List.map_reverse] at hu18
  have sc' := s17.trans s18
  refine ⟨_, hu16.same sc', hu18, dp _, _, rfl, ifB rfl ?_⟩
  have S18 := S14.trans (sb.trans sc')
  have S := s4.trans S18
  have hr18 := S _ _ hr3
  have hb18 := S _ _ hb3
  have hv18 := hv.same S18
  have P18 := P3.same S
  have t1' := t1.same S
  have t2' := t2.same S
  clear S S18 sc' sb S14 s9e s9c s9b s49 s47 s46 hu5 hu7 hu8 hu9 hu10 hu12 hu13 hu14 hu15 hu16 hu17 hu18 t1 t2 P3 hb3 hr3 hb4 hr4 hv hv9 hv14 hr9 g6 g11 e6 e11
  -- a stretch
  refine ⟨_, rfl, _, rfl, r, _, rfl, .inl (SqL.of hr18), _, _, rfl, rfl, pen, _, 0 + 4 + 80, rfl, P18, by decide, by omega, by rw [List.length_map]; omega, fun stv Ha ka Pa a0 a1 => ?_⟩
  rw [List.length_map] at a1
  obtain ⟨st, rfl⟩ := Int.eq_ofNat_of_zero_le a0
  obtain ⟨pc, hpc⟩ := P18.at
  have hra := ka _ _ nrp hr18
  refine ⟨_, rfl, _, rfl, _, rfl, r, _, rfl, .inl (SqL.of hra), _, _, rfl, rfl, _, rfl, _, _, rfl, rfl, pen, _, 0 + 4 + 80 + 1, rfl, Pa, by decide, by rw [List.length_map]; omega, by rw [List.length_map]; omega, fun dv Hb kb Pb b0 b1 => ⟨_, _, rfl, rfl, ?_⟩⟩
  rw [List.length_map] at b1
  obtain ⟨dd, rfl⟩ := Int.eq_ofNat_of_zero_le b0
  dsimp only
  rw [show (st : Int) + (dd : Int) = ((st + dd : Nat) : Int) by omega]
  have kab := ka.trans kb
  have tk : TKeep H18 Hb := .keep kab hpc
  have ne : ∀ o c, H18 pen ≠ some (.frz o (.own c)) := fun o c z => by rw [hpc] at z; cases z
  have t1b := tab_kp t1' kab n1 ne
  have t2b := tab_kp t2' kab n2 ne
  obtain ⟨qc, hqc⟩ := Pb.at
  refine ⟨_, rfl, _, rfl, _, rfl, _, rfl, _, rfl, _, rfl, pen, b, r, v, 0 + 4 + 80 + 1 + 1, low, L, st, st + dd, ns, rfl, Pb, by decide, (tk _ _).1 hb18, hL, kb _ _ nrp hra, nrp, hv18.tk tk, hw, h60, by omega, by omega, fun Hc kc Pc => ⟨_, rfl, ifB rfl ?_⟩⟩
  have tk2 : TKeep Hb Hc := .keep kc hqc
  have ne2 : ∀ o c, Hb pen ≠ some (.frz o (.own c)) := fun o c z => by rw [hqc] at z; cases z
  exact ⟨_, rfl, _, rfl, _, rfl, _, rfl, _, rfl, _, rfl, pen, b, v, .ref r, 0 + 4 + 80 + 1 + 1 + 12, low, L, st, st + dd, ns, rfl, Pc, by decide, (tk2 _ _).1 ((tk _ _).1 hb18), hL, (hv18.tk tk).tk tk2, hw, h60, by omega, by omega, tab_kp t1b kc n1 ne2, tab_kp t2b kc n2 ne2, q⟩
end

end My
open PySem PySem.W PyProof.Rows
set_option maxRecDepth 100000 in
set_option maxHeartbeats 0 in
theorem PySem.Challenge.cw_manyleast_k65_whole_turned_and_flipped_holds : PySem.Challenge.rw_manyleast_k65_whole_turned_and_flipped.Holds := by
  refine MyQ.hd ?_
  k_fill
  refine L2.walkT (k := My.k_law) (l := PySem.Challenge.rw_manyleast_k65_whole_turned_and_flipped) [(339, 335), (332, 328)] ⟨rfl, by decide, by decide⟩ rfl rfl (fun w h Y => PySem.W.km_in_of Y) (fun w h Y => PySem.W.km_tabs_of Y) ?F
  case F =>
    intro w mg fa h KX G hmg
    refine ⟨List.forall_mem_cons.mpr ⟨⟨by kernel_rfl, by kernel_rfl⟩, List.forall_mem_cons.mpr ⟨⟨by kernel_rfl, by kernel_rfl⟩, fun _ h => nomatch h⟩⟩, ?_⟩
    have d_law : L2.Def (L2.KOf KX) mg "law" My.s_law ["_law_script"] := by
      dsimp only [L2.KOf]
      refine' L2.def_mk KX G ?a ?l ?c ?k ?b
      (case a => k_is); (case l => k_is); (case c => k_is); (case k => k_is)
      (case b => exact fun _ _ _ _ _ _ us hl => match us, hl with | [_], _ => rfl)
    have z : ∀ base : Heap, L2.BMain mg base → My.Bz (L2.KOf KX) mg base := by
      dsimp only [L2.KOf]
      intro base bm
      refine' ⟨PySem.W.mg_none_of KX G ?z0, PySem.W.mg_none_of KX G ?z1, PySem.W.mg_none_of KX G ?z2, PySem.W.mg_none_of KX G ?z3, PySem.W.mg_none_of KX G ?z4, PySem.W.mg_none_of KX G ?z5, PySem.W.mg_none_of KX G ?z6, PySem.W.mg_none_of KX G ?z7, PySem.W.mg_none_of KX G ?z8, PySem.W.mg_none_of KX G ?z9, PySem.W.mg_none_of KX G ?z10, PySem.W.mg_none_of KX G ?z11, PySem.W.mg_none_of KX G ?z12, L2.def_mk KX G ?a0 ?l0 ?c0 ?k0 (fun _ _ _ _ _ _ => L2.mt1 fun _ => rfl), L2.def_mk KX G ?a1 ?l1 ?c1 ?k1 (fun _ _ _ _ _ _ => L2.mt1 fun _ => rfl), L2.def_mk KX G ?a2 ?l2 ?c2 ?k2 (fun _ _ _ _ _ _ => L2.mt1 fun _ => rfl), L2.def_mk KX G ?a3 ?l3 ?c3 ?k3 (fun _ _ _ _ _ _ => L2.mt2 fun _ _ => rfl), L2.def_mk KX G ?a4 ?l4 ?c4 ?k4 (fun _ _ _ _ _ _ => L2.mt2 fun _ _ => rfl), L2.def_mk KX G ?a5 ?l5 ?c5 ?k5 (fun _ _ _ _ _ _ => L2.mt2 fun _ _ => rfl), L2.def_mk KX G ?a6 ?l6 ?c6 ?k6 (fun _ _ _ _ _ _ => L2.mt3 fun _ _ _ => rfl), L2.def_mk KX G ?a7 ?l7 ?c7 ?k7 (fun _ _ _ _ _ _ => L2.mt3 fun _ _ _ => rfl), L2.def_mk KX G ?a8 ?l8 ?c8 ?k8 (fun _ _ _ _ _ _ => L2.mt2 fun _ _ => rfl), L2.def_mk KX G ?a9 ?l9 ?c9 ?k9 (fun _ _ _ _ _ _ => L2.mt3 fun _ _ _ => rfl), L2.def_mk KX G ?a10 ?l10 ?c10 ?k10 (fun _ _ _ _ _ _ => L2.mt2 fun _ _ => rfl), L2.def_mk KX G ?a11 ?l11 ?c11 ?k11 (fun _ _ _ _ _ _ => L2.mt2 fun _ _ => rfl), L2.def_mk KX G ?a12 ?l12 ?c12 ?k12 (fun _ _ _ _ _ _ => L2.mt1 fun _ => rfl), L2.def_mk KX G ?a13 ?l13 ?c13 ?k13 (fun _ _ _ _ _ _ => L2.mt1 fun _ => rfl), L2.def_mk KX G ?a14 ?l14 ?c14 ?k14 (fun _ _ _ _ _ _ => L2.mt1 fun _ => rfl), L2.def_mk KX G ?a15 ?l15 ?c15 ?k15 (fun _ _ _ _ _ _ => L2.mt2 fun _ _ => rfl), L2.def_mk KX G ?a16 ?l16 ?c16 ?k16 (fun _ _ _ _ _ _ => L2.mt2 fun _ _ => rfl), L2.def_mk KX G ?a17 ?l17 ?c17 ?k17 (fun _ _ _ _ _ _ => L2.mt3 fun _ _ _ => rfl), L2.def_mk KX G ?a18 ?l18 ?c18 ?k18 (fun _ _ _ _ _ _ => L2.mt1 fun _ => rfl), L2.def_mk KX G ?a19 ?l19 ?c19 ?k19 (fun _ _ _ _ _ _ => L2.mt1 fun _ => rfl), L2.def_mk KX G ?a20 ?l20 ?c20 ?k20 (fun _ _ _ _ _ _ => L2.mt3 fun _ _ _ => rfl), L2.def_mk KX G ?a21 ?l21 ?c21 ?k21 (fun _ _ _ _ _ _ => L2.mt3 fun _ _ _ => rfl), L2.def_mk KX G ?a22 ?l22 ?c22 ?k22 (fun _ _ _ _ _ _ => L2.mt3 fun _ _ _ => rfl), L2.def_mk KX G ?a23 ?l23 ?c23 ?k23 (fun _ _ _ _ _ _ => L2.mt2 fun _ _ => rfl), L2.def_mk KX G ?a24 ?l24 ?c24 ?k24 (fun _ _ _ _ _ _ => L2.mt3 fun _ _ _ => rfl), L2.def_mk KX G ?a25 ?l25 ?c25 ?k25 (fun _ _ _ _ _ _ => L2.mt4 fun _ _ _ _ => rfl), L2.def_mk KX G ?a26 ?l26 ?c26 ?k26 (fun _ _ _ _ _ _ => L2.mt2 fun _ _ => rfl), L2.def_mk KX G ?a27 ?l27 ?c27 ?k27 (fun _ _ _ _ _ _ => L2.mt2 fun _ _ => rfl), L2.def_mk KX G ?a28 ?l28 ?c28 ?k28 (fun _ _ _ _ _ _ => L2.mt3 fun _ _ _ => rfl), L2.def_mk KX G ?a29 ?l29 ?c29 ?k29 (fun _ _ _ _ _ _ => L2.mt5 fun _ _ _ _ _ => rfl), L2.def_mk KX G ?a30 ?l30 ?c30 ?k30 (fun _ _ _ _ _ _ => L2.mt3 fun _ _ _ => rfl), L2.def_mk KX G ?a31 ?l31 ?c31 ?k31 (fun _ _ _ _ _ _ => L2.mt3 fun _ _ _ => rfl), L2.def_mk KX G ?a32 ?l32 ?c32 ?k32 (fun _ _ _ _ _ _ => L2.mt1 fun _ => rfl), L2.def_mk KX G ?a33 ?l33 ?c33 ?k33 (fun _ _ _ _ _ _ => L2.mt1 fun _ => rfl), L2.def_mk KX G ?a34 ?l34 ?c34 ?k34 (fun _ _ _ _ _ _ => L2.mt4 fun _ _ _ _ => rfl), L2.def_mk KX G ?a35 ?l35 ?c35 ?k35 (fun _ _ _ _ _ _ => L2.mt4 fun _ _ _ _ => rfl), L2.def_mk KX G ?a36 ?l36 ?c36 ?k36 (fun _ _ _ _ _ _ => L2.mt5 fun _ _ _ _ _ => rfl), L2.def_mk KX G ?a37 ?l37 ?c37 ?k37 (fun _ _ _ _ _ _ => L2.mt3 fun _ _ _ => rfl), L2.def_mk KX G ?a38 ?l38 ?c38 ?k38 (fun _ _ _ _ _ _ => L2.mt3 fun _ _ _ => rfl), L2.def_mk KX G ?a39 ?l39 ?c39 ?k39 (fun _ _ _ _ _ _ => L2.mt3 fun _ _ _ => rfl), L2.defL_mk KX G ?a40 ?l40 ?c40 ?k40 ?h40 (fun _ _ _ _ _ _ => L2.mt3 fun _ _ _ => rfl), L2.defL_mk KX G ?a41 ?l41 ?c41 ?k41 ?h41 (fun _ _ _ _ _ _ => L2.mt3 fun _ _ _ => rfl), L2.def_mk KX G ?a42 ?l42 ?c42 ?k42 (fun _ _ _ _ _ _ => L2.mt3 fun _ _ _ => rfl), L2.def_mk KX G ?a43 ?l43 ?c43 ?k43 (fun _ _ _ _ _ _ => L2.mt4 fun _ _ _ _ => rfl), L2.def_mk KX G ?a44 ?l44 ?c44 ?k44 (fun _ _ _ _ _ _ => L2.mt2 fun _ _ => rfl), L2.def_mk KX G ?a45 ?l45 ?c45 ?k45 (fun _ _ _ _ _ _ => L2.mt2 fun _ _ => rfl), L2.def_mk KX G ?a46 ?l46 ?c46 ?k46 (fun _ _ _ _ _ _ => L2.mt1 fun _ => rfl), L2.def_mk KX G ?a47 ?l47 ?c47 ?k47 (fun _ _ _ _ _ _ => L2.mt3 fun _ _ _ => rfl), L2.def_mk KX G ?a48 ?l48 ?c48 ?k48 (fun _ _ _ _ _ _ => L2.mt1 fun _ => rfl), L2.def_mk KX G ?a49 ?l49 ?c49 ?k49 (fun _ _ _ _ _ _ => L2.mt6 fun _ _ _ _ _ _ => rfl), L2.def_mk KX G ?a50 ?l50 ?c50 ?k50 (fun _ _ _ _ _ _ => L2.mt6 fun _ _ _ _ _ _ => rfl), bm⟩
      (case z0 => k_is)
      (case z1 => k_is)
      (case z2 => k_is)
      (case z3 => k_is)
      (case z4 => k_is)
      (case z5 => k_is)
      (case z6 => k_is)
      (case z7 => k_is)
      (case z8 => k_is)
      (case z9 => k_is)
      (case z10 => k_is)
      (case z11 => k_is)
      (case z12 => k_is)
      (case a0 | l0 | c0 | k0 => k_is)
      (case a1 | l1 | c1 | k1 => k_is)
      (case a2 | l2 | c2 | k2 => k_is)
      (case a3 | l3 | c3 | k3 => k_is)
      (case a4 | l4 | c4 | k4 => k_is)
      (case a5 | l5 | c5 | k5 => k_is)
      (case a6 | l6 | c6 | k6 => k_is)
      (case a7 | l7 | c7 | k7 => k_is)
      (case a8 | l8 | c8 | k8 => k_is)
      (case a9 | l9 | c9 | k9 => k_is)
      (case a10 | l10 | c10 | k10 => k_is)
      (case a11 | l11 | c11 | k11 => k_is)
      (case a12 | l12 | c12 | k12 => k_is)
      (case a13 | l13 | c13 | k13 => k_is)
      (case a14 | l14 | c14 | k14 => k_is)
      (case a15 | l15 | c15 | k15 => k_is)
      (case a16 | l16 | c16 | k16 => k_is)
      (case a17 | l17 | c17 | k17 => k_is)
      (case a18 | l18 | c18 | k18 => k_is)
      (case a19 | l19 | c19 | k19 => k_is)
      (case a20 | l20 | c20 | k20 => k_is)
      (case a21 | l21 | c21 | k21 => k_is)
      (case a22 | l22 | c22 | k22 => k_is)
      (case a23 | l23 | c23 | k23 => k_is)
      (case a24 | l24 | c24 | k24 => k_is)
      (case a25 | l25 | c25 | k25 => k_is)
      (case a26 | l26 | c26 | k26 => k_is)
      (case a27 | l27 | c27 | k27 => k_is)
      (case a28 | l28 | c28 | k28 => k_is)
      (case a29 | l29 | c29 | k29 => k_is)
      (case a30 | l30 | c30 | k30 => k_is)
      (case a31 | l31 | c31 | k31 => k_is)
      (case a32 | l32 | c32 | k32 => k_is)
      (case a33 | l33 | c33 | k33 => k_is)
      (case a34 | l34 | c34 | k34 => k_is)
      (case a35 | l35 | c35 | k35 => k_is)
      (case a36 | l36 | c36 | k36 => k_is)
      (case a37 | l37 | c37 | k37 => k_is)
      (case a38 | l38 | c38 | k38 => k_is)
      (case a39 | l39 | c39 | k39 => k_is)
      (case a40 | l40 | c40 | k40 => k_is)
      (case h40 => kernel_rfl)
      (case a41 | l41 | c41 | k41 => k_is)
      (case h41 => kernel_rfl)
      (case a42 | l42 | c42 | k42 => k_is)
      (case a43 | l43 | c43 | k43 => k_is)
      (case a44 | l44 | c44 | k44 => k_is)
      (case a45 | l45 | c45 | k45 => k_is)
      (case a46 | l46 | c46 | k46 => k_is)
      (case a47 | l47 | c47 | k47 => k_is)
      (case a48 | l48 | c48 | k48 => k_is)
      (case a49 | l49 | c49 | k49 => k_is)
      (case a50 | l50 | c50 | k50 => k_is)
    exact L2.law_mkT d_law (fun base f fd bm hf => My.ok_law (base := base) (z base bm) f fd hf) hmg
#print axioms PySem.Challenge.cw_manyleast_k65_whole_turned_and_flipped_holds
