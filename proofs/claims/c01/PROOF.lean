import PyProof.Rows.All
import Wide.All
import OpenK.AllK
import Wide.FinOn
import PyProof.EqAt
import PyProof.EqKinds
import PyProof.TupleCall
import KE.BitLaws
import Open.SpecLaws
import KE.OsHead
import KE.OsGo
import PyVbmiai
import PyFlatLaws
import KE.KSortKey
import PyProof.Draws
import PyProof.EnumMake
import PySem.Challenge.RW_mineroads_s01_answers
import KE.KEqDeep
set_option Elab.async false
set_option linter.all false
set_option maxRecDepth 100000
set_option maxHeartbeats 4000000
theorem Mr.ws:PySem.Challenge.rw_mineroads_s01_answers.wellSaid=true:=by decide +kernel
structure PySem.W.Fast:Prop where(tw1798364725241206400 tw2116713006787565370 tw12156506663020778475 tw11621751959640211265 tw4781182647350814747 tw10890291575340886061 tw2594588940934062667 tw12682961434414648981 tw13099868978104824383 tw89681411363727423 tw5511391931865782720 tw7572508911827959051 tw2634245656243240099 tw14957484619777598315 tw10098159145634535749 tw11812731174023350049 tw4825874547641882191 tw3670746907601122499 tw2551632985489017634 tw18076318627573871809 tw698080068595126660 tw4689617187822133456 tw11179901986947698919 tw6518254351224040619 tw2599285311649471425 tw11258350605447006280 tw15810906629772046064 tw1148228859646418862 tw6269902379415392230 tw14469317518219986716 tw6089464582950057095 tw45790675674700615 tw341219817367896384 tw5117270397397024321 tw9594710679778479733 tw14519337661889147894 tw2935231439631922236 tw15163042349619334789 tw8653892968901656283 tw1218728557710176203 tw164181338430679346 tw14341265519693194554 tw8950061454847596427 tw16930476355686652830 tw16927120029671354198 tw12246196654435100112 tw10715851824416717534 tw10839296900817166112 tw324455665262025802 tw2804106196012529392 tw5412972663027819593 tw8429573348451923889 tw7264046834447763014 tw16185725101082521814 tw10233297672353237027 tw15921416824746681370 tw15309586786433690291 tw8136280975704327577 tw3623634908368675713 tw12484128719741417759 tw17569923759627119144 tw17325633584484558786 tw14117919990730433494 tw7501602312585849998 tw16300125094122800580 tw2786158730254915205 tw12213494601491395688 tw5291536090875470698 tw3207037595530213999 tw3555345313220552814 tw11157489806977247124 tw14946264286339117370 tw3252036241402204976 tw15724001814110751620 tw2948410528245261408 tw16945416104709940179 tw15535847001351148758 tw11824331112117395121 tw12785180678527693054 tw8995514799774487895 tw5267962381077216425 tw926543685499509187 tw690996651346312643 tw15320849326494612980 tw11432106138623695849 tw17033346443276612698 tw1634074168666884979 tw8520309905006195511 tw1375911514787265948 tw12882680209864158067 tw6179167921135089101 tw12344790211071342385 tw8367554597535101970 tw12245820977144646921 tw17399554514447823097 tw8233705701297845103 tw17276755881270729568 tw13798133563280083615 tw12064056573736887349 tw6481660296360156002 tw1902898603605340735 tw4516366304450811267 tw14070682950979318695 tw16715867767178432818 tw14055437072774539661 tw13962583083450922429 tw10456653221801599639 tw6508854995905886915 tw9703618017546901850 tw14341943531377748270 tw7027809236556224788 tw11437447498363798357 tw14583320912828695837 tw6573107191681920563 tw12984289048432607958 tw5132751205459930031 tw5006086136956599889 tw14367752482286910702 tw5367941844825402133 tw18080796224039845266 tw12969908602935415798 tw4059983289404372492 tw13981661859157470087 tw12908984445398973422 tw11308776407865662174 tw14594025774141484759 tw7952107305811325135 tw3727096472291035429 tw14045033842260135686 tw7577027275239269549 tw2534455432086250852 tw4672670589059718839 tw2076312949038553858 tw10977397749960447180 tw17070356980995170544 tw18192255790074091379 tw18166637299286388307 tw13061182199261057810 tw1888402183442974946 tw16096469311926302348 tw12060660323391578040 tw15431484600190553036 tw5912194377277190189 tw7845992823452373655 tw10360273156629665893 tw13017817760294786060 tw1216937417982895507 tw14647352786924597081 tw4360150959136843280 tw9126497436905477272 tw14907213844075944967 tw11704668143874658265 tw12967632944656869878 tw805129734992490118 tw15118091193808960585 tw9811436506105164189 tw3725203007494771127 tw2836083965567463390 tw8787124203369229492 tw14406126551681156289 tw6208705684538051909 tw10051882382266537756 tw4592066394382001937 tw6447431798511636331 tw14724993350165953616 tw10453650527782157255 tw16510720183359609662 tw12545063717990028185 tw11360771606307718279 tw18075585898740920474 tw14969670852794250561 tw15040434993969076545 tw17134607128489790579 tw9886261230802909586 tw8847826706220850240 tw3710291922788551760 tw5438081755086435470 tw16256947516582294172 tw11345540043555156550 tw17002807310359365399 tw17974869976948642751 tw5818349110704508747 tw8997713707018151639 tw5658292729904092777 tw17307159646638173004 tw1954453997989778917 tw4968249010335072579 tw5361571343112898320 tw5538627066752822146 tw12565726377302429845 tw13159127341079205224 tw17857475355259806688 tw11170752728313905709 tw3722421801972768610 tw282436781590613217 tw7752863657071556598 tw11989988755224025774 tw18281368055653220736 tw5188757003898216538 tw18302067722075199869 tw12276021904293992855 tw14540035287102673536 tw4577634299969132198 tw5643247509941888064 tw15237807988475420602 tw15631215185182923563 tw13986314604814463077 tw6284520012908336455 tw9926999133267708835 tw8509439287036759811 tw1905708408796306574 tw216476860526057684 tw18304475856503609825 tw8743347103986852023 tw15147684668133862528 tw6841197956078997001 tw4398830475193447792 tw13540792502916121689 tw13174455660952635802 tw2179637846479580178 tw1477040939452830354 tw12327627527693256494 tw15074266942439254911 tw9719466991629326012 tw590648311166096372 tw915263156161923814 tw18156964595571135724 tw16092493979774717242 tw15983382553499002188 tw5784251861420539228 tw1947072520359696706 tw9025936699899829381 tw8787750400245022059 tw12251310771639113600 tw16328152100076351598 tw15640219683967912953 tw14372370681994465576 tw13196145938659149601 tw177060018045311731 tw16255286727346861192 tw15217890706120077270 tw13477024357357726818 tw15713536849000246556 tw15543610190418454852 tw3706201274021333908 tw2999725965270103910 tw8789939391698838765 tw6000020707695613590 tw10771935023809081096 tw6072095139010759354 tw13621582303557317543 tw11770219075546402490 tw8931615932922414083 tw17881545116050908882 tw9761602419816403801 tw5829202438808524131 tw16261287537008094929 tw3401777128484768560 tw1181431064599297869 tw17068308397649618208 tw10686856104081442703 tw8256714114143141638 tw17306418686474929087 tw1141080246865426715 tw7673387847304934020 tw11821487447546767725 tw9569906062197308241 tw11871980260326642849 tw15380046543609365894 tw2659548901111267561 tw16952304465945291843 tw5559930324628331486 tw13006636967492279802 tw7563683143531604414 tw9365943429597455970 tw13756968064052683308 tw504109674462301059 tw10218496239524661799 tw6567191396641845968 tw5924042464635327908 tw7923314466549593925 tw8285608162398136545 tw14776618804590006688 tw10180155411843508580 tw3950917922112475521 tw17956007364469402304 tw8254758835884785295 tw2873682402801494760 tw11611639135705249183 tw3698636394895025040 tw16377214212475183639 tw9108456241039582017 tw11706848517409165198 tw5458154453077047614 tw3198732545622042064 tw15116588799391014165 tw4792270830811823931 tw14502150773869674490 tw1176938706676170216 tw8699309549310235700 tw13861661825022471313 tw4114933400783382979 tw5233284715148000642 tw8441310494960583098 tw4786736120771050791 tw12259865064353838252 tw16319636509720805473 tw12743098651676439368 tw16901091808942393834 tw16366450605726583021 tw11763651025784144182 tw15999290085312565130 tw2503549818076683642 tw18014314597580865780 tw18102204691847622126 tw964964248453352587 tw10940834070975752087 tw2378745510803830955 tw4182471406544109886 tw15974824475385770301 tw14959554970629454511 tw14115448191086536193 tw16814038487279252878 tw10990932969687980615 tw17953424491847369236 tw2584532778465916650 tw12555683878917019634 tw5016897784252399197 tw425616697425342255 tw11187144094628965634 tw3290561218632092944 tw12302330875394136590 tw17799376826678553672 tw16567407468891020938 tw262828514909889160 tw13061849628028595439 tw9038793993436425854 tw17304365118699407127 tw11316382523928865578 tw5252927354841509320 tw9837459396140059006 tw5859736367690340161 tw9030583474007991325 tw13426053916624271269 tw12667429238152799648 tw6129159632599618185 tw14781124776647984646 tw14125424874341595735 tw6340624063529141072 tw7943685485046286547 tw15560896554920090899 tw2105281250619628576 tw7984682961766908834 tw15962388383976518676 tw8490621943361455173 tw6827814683262366639 tw6052072356812073650 tw13887622563578955767 tw216679443126458453 tw14726694207876611324 tw11741469132300803060 tw11498606718325687098 tw13369436003512200552 tw10437180652518173548 tw2114844318287537715 tw14607095199956851673 tw13146594293198657466 tw2171651108591207058 tw15063728992833165110 tw1834350938762658720 tw3183661609608780900 tw4804489473374099702 tw7662110939172083052 tw6279924202669078178 tw13998044057903763157 tw9397796089048538881 tw4188424390282419937 tw14129434270259090068 tw7735260770960362822 tw13516060240953160698 tw12874475189642774910 tw11746224342032232648 tw2210282248622004051 tw4132470951326483289 tw11781780767956913202 tw9632574794456237799 tw10670026307233473684 tw15381925174436087037 tw4342831636208617797 tw10410688901594886268 tw5217549749529142967 tw15628604770477674099 tw15329060555513079819 tw14482718770819170442 tw10102823208176425142 tw4064710305356126092 tw2480680823015738179 tw12246520039791284626 tw7193646813838052425 tw1782595153457703595 tw5601061801486413405 tw17852617453810032770 tw4937057876255592257 tw3138490767328976714 tw14643328817473522318 tw2078639191569969807 tw8636112140184708798 tw7704577593147363152 tw10158394949658659445 tw7650162169387959475 tw1829734324635481502 tw13404061944417541194 tw12186125382707482898 tw451807248785748604 tw4044673265745889135 tw9227477357313428818 tw9905631548253824419 tw13603551754612112741 tw4987578693176619569 tw8416187849208220660 tw5707215048631844624 tw12044345270417915400 tw16284930780400553918 tw7481651399739136258 tw3849543787328115313 tw12982073814100531668 tw15031005848884703582 tw629515329100441595 tw6253676709948921811 tw3358176822118075554 tw4420041116232120394 tw9494914334674172273 tw7679423510173900343 tw9063879515410887026 tw9903227122464517965 tw7673141421764799889 tw2051297349498005698 tw760246215666500193 tw10077167415766825912 tw5507464444675844349 tw12522550462012402719 tw4120093886985345352 tw8218029271998845383 tw6421988504814348275 tw11654462882050228714 tw9145895743380225883 tw12930414640286737955 tw8745013008780247528 tw3573325760651256535 tw1920598366776489874 tw3008210395644001299 tw15857138216912224085 tw15205011446737026625 tw8903833270245802578 tw7356567471278599068 tw10189107822427115756 tw675919945563429543 tw614023282959208895 tw8164810619534985911 tw13390212622614408236 tw16270823386225657010 tw3393240104321203317 tw7466642821451372169 tw7804635403627788287 tw11164963845440456133 tw2042329175007654959 tw1553171032855440011 tw6787043646827464552 tw10494257202958118513 tw3253465315834897946 tw263762900477752501 tw3313128651259839181 tw1494734299949606903 tw5066153032520654212 tw704404416627849826 tw12598783823625392880 tw6960171975560932921 tw4411672573252824455 tw4815094593620110747 tw14139748376239956034 tw6743445945341947051 tw4593700028455844234 tw12752943507089702313 tw7466745759563085724 tw5971609404173231624 tw5168142167522513793 tw11562005721612411285 tw5923990404673507685 tw14390300317101719087 tw9515636468578013936 tw17265868305193173749 tw12298482829331188382 tw18366855254839860993 tw5181408854841067285 tw17442206204890513791 tw1285548593040302701 tw10543334281675997173 tw5941768987687550609 tw4754732473013211603 tw7771101856479816664 tw5281069804670677428 tw12118917046045748291 tw3622377317650777774 tw3054883185706959696 tw10779953530329720910 tw12420748481458364665 tw17597683580989508764 tw4936439669149835070 tw4692417117069220940 tw9776242385788644511 tw2914294502352000487 tw17094553387280063948 tw10710872428490179253 tw11448642700342329030 tw11389074424593441369 tw15020893053854411799 tw17442355985997272480 tw10758097354977738471 tw12521914700625066407 tw6591826879537027266 tw9060028869398347306 tw14938579329911550653 tw17726414992601375548 tw13836110240326754101 tw17102118615132061408 tw5891246114553109000 tw11414270635073179772 tw1178346662755702713 tw8732203265015850167 tw1373595190849114383 tw8376063118562318550 tw8977402903308324503 tw1107047748510325257 tw17947278566269942645 tw7233043215482545847 tw1426220709294648706 tw16577787023234571815 tw16029992878134882716 tw6080594950249808307 tw15835015871927187271 tw16708591540023405148 tw3093462410911813716 tw2257548702072288115 tw9124669711316711516 tw7518787200851752905 tw13871147851346998713 tw2597615022491265427 tw2864488501400213285 tw18262401673672765237 tw10055914573037869359 tw8226235844097523609 tw16064067617963628294 tw3185198864868244196 tw13176792989563829015 tw14030803055406049062 tw833318317296804476 tw9555669916382476188 tw7613150591782048690 tw11880810637318748448 tw9514067721096929009 tw5666910077512908762 tw12985039747377955897 tw7072810186378644770 tw7529015516354339655 tw15778509741134766302 tw17105783168131216099 tw18170908045280184927 tw11996377736141216965 tw12610049064366574956 tw9471044336717908001 tw17945249986366372973 tw9058329128707285911 tw4028578687019232287 tw1797168787560007614 tw5855931478813350298 tw8460568042717540248 tw16571247628965441144 tw14322248887996823597 tw6440499544416076312 tw17936660428633184310 tw5821618198973527819 tw8251454157581932930 tw5692233989111831706 tw592533419728576351 tw12777451469082582853 tw16111386058244039288 tw5570233787252015162 tw985093879323886934 tw16545179154846690129 tw13718390753132233627 tw17793596074147449972 tw12789217022183434587 tw3183699459089391805 tw2861340611873040401 tw14068167719289073754 tw9511063323233620726 tw11492150756932794327 tw16815825751537889911 tw11177153246409150103 tw4603973173172757249 tw14764234386110820928 tw9963114306428855434 tw18132920911158139027 tw8032672038157268630 tw11162970085305871323 tw18157578801946321880 tw14993269355335649906 tw9185751057072398520 tw10633212475375388159 tw13902187777072118663 tw7153411337433577604 tw10983147102426843710 tw14170596706589588656 tw17568543727646956258 tw16802274260519483441 tw4838484330097903924 tw12274368772224764697 tw12099883037040677878 tw14353544352193955702 tw11710335161113414370 tw10248728551540561178 tw9670538077154647151 tw4110562413432015907 tw11089135187922999620 tw17362814589056467081 tw2506206153531497329 tw7884116564460385149 tw15988122927052878678 tw12161995106997449039 tw15381880754815309828 tw11189438213935170822 tw2423493129500204939 tw7123420637660556703 tw13918093200483141097 tw15480409788959108418 tw15400392796078099334 tw3779759534832887339 tw17869531217145455811 tw6859882134771736669 tw10113325300328954219 tw2031044742148932099 tw581087058496675963 tw4548881352413860878 tw11365533126683502517 tw15028847035230045431 tw5572869324908845709 tw12328512677500811030 tw4872112053201732539 tw14531813051468984397 tw17843881671366466752 tw9854107652111380697 tw13847565851791431677 tw15602103396198139364 tw5209917809468465654 tw367863964524551799 tw4719984949973481802 tw9350983623848762281 tw716278386976705284 tw2247613369816980816 tw3923090839304774417 tw14347496835043104918 tw13709814668315355406 tw16013102301687695138 tw9644718339142262552 tw13146129267460102605 tw9137964900815123346 tw4881984509683246994 tw2348029309449734955 tw9531614400400990258 tw12766376912696109192 tw9742671806297939902 tw915164355487664151 tw11007598047644764130 tw829358186886964692 tw15741777516681633365 tw6657563958704416870 tw14258948720093782517 tw12442558155264742190 tw17251540255028771234 tw15415149770382921431 tw3804659319555350591 tw11295337560939573552 tw719535296239300859 tw8431324911514747135 tw2182995867660361205 tw169358722095499037 tw10785468403741063464 tw11639493396174240952 tw12056623792759233399 tw11001097612884735332 tw2336426971198018675 tw7444810443629521616 tw9528093254325446837 tw10461238317747766543 tw12795163211906636926 tw14243896661365045230 tw15745369793024154248 tw4128849930913332016 tw8143004393930957242 tw13774493727650984217 tw13689917594974197900 tw7121024848815820352 tw185876473312160365 tw11763569005833487479 tw8685221560702504177 tw12136481901818927927 tw17976626363780592409 tw18150455975596475334 tw14253074628212505661 tw1095685451607995847 tw8594257349306276121 tw4167311622179744042 tw1715616384629017980 tw3654229750946877576 tw1813904078726189595 tw16371058030595324866 tw18159018181779802905 tw12243579816903672879 tw12146808053555445955 tw17401422254229170069 tw15039849796995209592 tw13583391087451391404 tw14808958435710912366 tw15544470233153510862 tw3915903828617454999 tw4648114102270832134 tw15474791766512745856 tw11505052944141764424 tw13056276899169485211 tw6237975317143017840 tw1817438257746180230 tw9509301601085027221 tw14130339589186214020 tw5598238776524766482 tw7056821872510350155 tw15269067021156852745 tw9226244285254087402 tw8418192280335698471 tw14837927748580672483 tw2318494035270167207 tw5385443982070257511 tw1133733032267048213 tw12459267359967717651 tw542430158235695689 tw8496389763420075461 tw17228116250449503592 tw12579240278589094937 tw955100630130149561 tw14630110417742624054 tw15824013113279160556 tw12655865007135403756 tw15057499392992101681 tw15056465267601594081 tw14518756799249597105 tw2645458115424979551 tw4321191909457757410 tw9709992394225391947 tw8422271181141214534 tw15711004168080100938 tw786404363853450697 tw9581703665520900843 tw1856909482340834946 tw9625896171144346903 tw18428488748911016247 tw16993155199495374907 tw13230432154599839283 tw17523737687222559550 tw9532620244342005410 tw1198509230003018152 tw9821245381688144937 tw8180497451847960269 tw7806191599852248622 tw1025198229960411613 tw1683522946612087583 tw13424936031373285015 tw18029001238738936589 tw7259397981613187057 tw9308818308075951577 tw16985145510698675233 tw14332406768428000864 tw10175507538120659967 tw8352190428655313024 tw4776124596433642940 tw13002538896801334798 tw11109236249170379803 tw2610922041353388617 tw13803821734799331505 tw11751964215835230008 tw10598279546614125500 tw10918593259848066261 tw14462254080254513142 tw3502779572770399954 tw15220294107295028156 tw10081934810488212913 tw356055081300798866 tw2867251664603350260 tw8861100212952913382 tw10710539267802654966 tw5756459366239093912 tw12787049256150814332 tw179397564946933991 tw1320768528941584347 tw18200098970257244026 tw10885519128717920249 tw6859574097748936776 tw9808797856651980966 tw9179001191058163540 tw16793543370300013324 tw859052708551166380 tw16979444142692327213 tw14033877782328328645 tw16999254291487777490 tw11560316123787384502 tw12739692312633956470 tw1178012475901079095 tw4592812220167596237 tw4636365251983313819 tw9401688566720360768 tw6523951251385088435 tw4595712046670320070:True)
section
namespace L2
open PySem PySem.Spec PyProof.Rows
abbrev fJ:=Sum Int Str
def zC:fJ→Value→Bool
 | .inl k,v=>Value.isInt k v
 | .inr x,v=>Value.isStrOf x v
def oo (w:World):fJ→Int
 | .inl k=>hashInt k
 | .inr x=>hashStr w x
theorem eU:∀ {k:fJ}{v:Value},zC k v=true→(∃ i t,k=Sum.inl i∧v=Value.int i t)∨(∃ x t,k=Sum.inr x∧v=Value.str x t)
 | .inl i,v,h=>by
  obtain ⟨t,e⟩:=Value.isInt_shape (k:=i) (v:=v) h
  exact .inl ⟨i,t,rfl,e⟩
 | .inr x,v,h=>by
  obtain ⟨t,e⟩:=Value.isStrOf_shape (x:=x) (v:=v) h
  exact .inr ⟨x,t,rfl,e⟩
theorem Ud (i:Int) (t:Tok):zC (.inl i) (.int i t)=true:=by simp[zC,Value.isInt]
theorem Uq (x:Str) (t:Tok):zC (.inr x) (.str x t)=true:=by simp[zC,Value.isStrOf]
theorem Wx (a b:Int):decide ((Sum.inl a:fJ)=Sum.inl b)=(a == b):=by
 by_cases e:a=b
 ·subst e;simp
 ·have h:¬ (Sum.inl a:fJ)=Sum.inl b:=fun q=>e (Sum.inl.inj q)
  rw[decide_eq_false h]
  exact (beq_eq_false_iff_ne.mpr e).symm
theorem iu (a b:Str):decide ((Sum.inr a:fJ)=Sum.inr b)=decide (a=b):=by
 by_cases e:a=b
 ·subst e;simp
 ·have h:¬ (Sum.inr a:fJ)=Sum.inr b:=fun q=>e (Sum.inr.inj q)
  rw[decide_eq_false h,decide_eq_false e]
theorem gt (a:Int) (b:Str):decide ((Sum.inl a:fJ)=Sum.inr b)=false:=decide_eq_false (fun q=>nomatch q)
theorem ia (a:Str) (b:Int):decide ((Sum.inr a:fJ)=Sum.inl b)=false:=decide_eq_false (fun q=>nomatch q)
def dP (prog:Program) (w:World):PySem.KeyKind prog w fJ where
 is:=zC
 hash:=oo w
 inj:=fun v a b ha hb=>by
  rcases eU ha with ⟨i,t,rfl,rfl⟩ | ⟨x,t,rfl,rfl⟩
  ·rcases eU hb with ⟨j,u,rfl,e⟩ | ⟨y,u,rfl,e⟩
   ·injection e with e1 _;rw[e1]
   ·exact nomatch e
  ·rcases eU hb with ⟨j,u,rfl,e⟩ | ⟨y,u,rfl,e⟩
   ·exact nomatch e
   ·injection e with e1 _;rw[e1]
 byValue:=fun k v h=>by
  rcases eU h with ⟨i,t,rfl,rfl⟩ | ⟨x,t,rfl,rfl⟩ <;> rfl
 pyHash:=fun hv h=>by
  rcases eU hv with ⟨i,t,rfl,rfl⟩ | ⟨x,t,rfl,rfl⟩
  ·exact wpAny_pyHash_int h
  ·exact wpAny_pyHash_str h
 eqBool:=fun hu hv h=>by
  rcases eU hu with ⟨i,t,rfl,rfl⟩ | ⟨x,t,rfl,rfl⟩
  ·rcases eU hv with ⟨j,u,rfl,rfl⟩ | ⟨y,u,rfl,rfl⟩
   ·rw[Wx] at h;exact wpAny_eqBool_int h
   ·rw[gt] at h;exact SeqAt.EqAt.int_str i t y u _ _ _ _ h
  ·rcases eU hv with ⟨j,u,rfl,rfl⟩ | ⟨y,u,rfl,rfl⟩
   ·rw[ia] at h;exact SeqAt.EqAt.str_int x t j u _ _ _ _ h
   ·rw[iu] at h;exact wpAny_eqBool_str h
 «strs»:=fun k x t v h=>by
  rcases eU h with ⟨i,u,rfl,e⟩ | ⟨y,u,rfl,e⟩
  ·exact nomatch e
  ·injection e with e1 _
   subst e1
   cases v <;> rfl
theorem zK (prog:Program) (w:World) (i:Int) (t:Tok):(dP prog w).is (.inl i) (.int i t)=true:=Ud i t
theorem zL (prog:Program) (w:World) (x:Str) (t:Tok):(dP prog w).is (.inr x) (.str x t)=true:=Uq x t
end L2
namespace L2
open PySem PySem.Spec PyProof.Rows
inductive V where
 | non | bl (b:Bool) | int (i:Int) | str (x:Str) | byt (b:Array UInt8) | flt (b:UInt64) | ref (a:Addr) | ty (n:String)
 deriving DecidableEq
def RelV:V→Value→Prop
 | .non,u=>u=Value.none
 | .bl b,u=>u=Value.bool b
 | .int i,u=>∃ t,u=Value.int i t
 | .str x,u=>∃ t,u=Value.str x t
 | .byt b,u=>∃ t,u=Value.bytes b t
 | .flt b,u=>∃ t,u=Value.float b t
 | .ref a,u=>u=Value.ref a
 | .ty n,u=>u=Value.type n
abbrev Vals:List V→List Value→Prop:=Paired RelV
theorem Vals.length {xs:List V}{us:List Value} (r:Vals xs us):xs.length=us.length:=Paired.length r
theorem Vals.get:∀ {xs:List V}{us:List Value}{i:Nat}{x:V},Vals xs us→xs[i]? = some x→∃ u,us[i]? = some u∧RelV x u
 | _,_,_,_,.nil,e=>by simp at e
 | _,_,0,_,.cons r _,e=>by simp at e;subst e;exact ⟨_,rfl,r⟩
 | _,_,i + 1,x,.cons _ t,e=>by
  obtain ⟨u,h1,h2⟩:=Vals.get (i:=i) (x:=x) t (by simpa using e)
  exact ⟨u,by simpa using h1,h2⟩
theorem Vals.append:∀ {xs ys:List V}{us ws:List Value},Vals xs us→Vals ys ws→Vals (xs ++ ys) (us ++ ws)
 | _,_,_,_,.nil,s=>s
 | _,_,_,_,.cons r t,s=>.cons r (Vals.append t s)
theorem Vals.take:∀ {xs:List V}{us:List Value} (n:Nat),Vals xs us→Vals (xs.take n) (us.take n)
 | _,_,0,_=>.nil
 | _,_,_ + 1,.nil=>.nil
 | _,_,n + 1,.cons r t=>.cons r (Vals.take n t)
theorem Vals.drop:∀ {xs:List V}{us:List Value} (n:Nat),Vals xs us→Vals (xs.drop n) (us.drop n)
 | _,_,0,r=>r
 | _,_,_ + 1,.nil=>.nil
 | _,_,n + 1,.cons _ t=>Vals.drop n t
def RelO:Option V→Option Value→Prop
 | some v,some u=>RelV v u
 | none,none=>True
 | _,_=>False
def KV {κ:Type}:List (κ×V)→List (κ×Value)→Prop:=Paired fun (p:κ×V) (q:κ×Value)=>p.1=q.1∧RelV p.2 q.2
def kV:fJ→V
 | .inl i=>.int i
 | .inr x=>.str x
inductive HO where
 | lst (xs:List V)
 | tup (xs:List V)
 | dK (kvs:List (fJ×V)) | dT (kvs:List (List fJ×V))
 | set (S:Int→Bool) (n:Nat)
 | ins (C dx:Addr) (fs:List (Str×V))
 | own (x:Addr)
 | xd (fs:List (Str×V))
 | met (f x:Addr)
 | rng (lo hi:Int)
 | frz (o:Obj) (u:HO)
 | tbl (ps:Array Value)
 | ext (φ:Heap→Prop)
abbrev Hp:=Addr→Option HO
def cA (H:Hp) (a:Addr) (o:HO):Hp:=fun b=>if b=a then some o else H b
theorem aF {H:Hp}{a:Addr}{o:HO}:cA H a o a=some o:=by unfold cA;rw[if_pos rfl]
theorem aV {H:Hp}{a b:Addr}{o:HO} (h:b≠a):cA H a o b=H b:=by unfold cA;rw[if_neg h]
theorem dN {H:Hp}{a:Addr}{o u:HO}:cA (cA H a o) a u=cA H a u:=by
 funext b;unfold cA;split <;> rfl
theorem jM {H:Hp}{a b:Addr}{o u:HO} (h:H a=some o) (h':H b=some u) (d:o≠u):a≠b:=by
 intro e;subst e;rw[h] at h';exact d (Option.some.inj h')
theorem aQ {H:Hp}{a b:Addr}{o:HO} (h:H a=some o) (h':H b=none):a≠b:=by
 intro e;subst e;rw[h] at h';cases h'
section
variable (P:Program) (w:World)
def ObjOk (H:Hp) (h:Heap) (a:Addr):HO→Prop
 | .lst xs=>xs.length≤sizeLine∧∃ (its:List Value) (n:Nat),Vals xs its∧h.get? a=some { cls:=.type "list",data:=.seq its.toArray n }
 | .tup xs=>xs.length≤sizeLine∧∃ its:List Value,Vals xs its∧IsTup h a its.toArray
 | .dK kvs=>kvs.length≤sizeLine∧(a == sysModules)=false∧∃ vs,KV kvs vs∧h.DictOf (dP P w) a vs
 | .dT kvs=>kvs.length≤sizeLine∧(a == sysModules)=false∧∃ xs:List (List fJ×Addr×Value),
   Paired (fun (p:List fJ×V) (q:List fJ×Addr×Value)=>p.1=q.1∧H q.2.1=some (.tup (p.1.map kV))∧RelV p.2 q.2.2) kvs xs ∧
   ∃ o es ep,h.get? a=some o∧o.ExactDict∧o.data = .dict es ep∧es.toList=xs.map (entryOfKey (tupleKind (dP P w)))∧(xs.map (·.1)).Nodup
 | .set S n=>h.SetOf (intKind P w) a S n
 | .ins C dx fs=>H dx=some (.own a)∧fs.length≤1000∧dx≠a∧h.get? a=some (PySem.W.instObj C dx) ∧
   ∃ mA,h.Ns1 dx mA∧(∀ f,RelO (fs.lookup f) (mA f))∧PySem.Within mA (fs.map (·.1))
 | .own _=>∃ o,h.get? a=some o
 | .xd fs=>∃ mA,h.Ns1 a mA∧∀ f,RelO (fs.lookup f) (mA f)
 | .rng lo hi=>∃ t u v,h.get? a=some { cls:=.type "range",data:=.fields #[.int lo t,.int hi u,.int 1 v] }
 | .frz o u=>h.get? a=some o∧ObjOk H h a u
 | .tbl ps=>h.get? a=some { cls:=.none,data:=.fields ps }
 | .met f x=>h.get? a=some (PySem.W.methodObj (.ref f) (.ref x))
 | .ext φ=>φ h∧(∃ o,h.get? a=some o)∧∀ h1 h2:Heap,φ h1→(∀ o,h1.get? a=some o→h2.get? a=some o)→φ h2
def HOk (H:Hp) (h:Heap):Prop:=∀ a o,H a=some o→ObjOk P w H h a o
end
section
variable {P:Program}{w:World}{H H':Hp}{h h':Heap}{a:Addr}{o:HO}
theorem ObjOk.lt (x:ObjOk P w H h a o):a<h.objs.size:=by
 cases o with
 | lst xs=>obtain ⟨_,_,_,_,e⟩:=x;exact Heap.lt_size e
 | tup xs=>obtain ⟨_,_,_,p⟩:=x;exact p.lt
 | dK kvs=>obtain ⟨_,_,_,_,o,_,_,e,_⟩:=x;exact Heap.lt_size e
 | dT kvs=>obtain ⟨_,_,_,_,o,_,_,e,_⟩:=x;exact Heap.lt_size e
 | set S n=>obtain ⟨o,_,_,_,e,_⟩:=x;exact Heap.lt_size e
 | ins C dx fs=>obtain ⟨_,_,_,e,_⟩:=x;exact Heap.lt_size e
 | own y=>obtain ⟨_,e⟩:=x;exact Heap.lt_size e
 | xd fs=>obtain ⟨_,⟨_,_,_,e,_⟩,_⟩:=x;exact Heap.lt_size e
 | rng lo hi=>obtain ⟨_,_,_,e⟩:=x;exact Heap.lt_size e
 | frz ob u=>obtain ⟨e,_⟩:=x;exact Heap.lt_size e
 | tbl ps=>exact Heap.lt_size (show h.get? a=some _ from x)
 | met f y=>exact Heap.lt_size (show h.get? a=some _ from x)
 | ext φ=>obtain ⟨_,⟨_,e⟩,_⟩:=x;exact Heap.lt_size e
theorem Paired.mapP {α β:Type}{F G:α→β→Prop}:∀ {l₁:List α}{l₂:List β},Paired F l₁ l₂→(∀ a b,F a b→G a b)→Paired G l₁ l₂
 | _,_,.nil,_=>.nil
 | _,_,.cons r t,f=>.cons (f _ _ r) (Paired.mapP t f)
theorem ObjOk.stay (x:ObjOk P w H h a o) (k:∀ b u,(b=a∨H b=some (.own a))→h.get? b=some u→h'.get? b=some u)
  (ho:∀ b,H b=some (.own a)→H' b=some (.own a)) (ht:∀ b xs,H b=some (.tup xs)→H' b=some (.tup xs)):ObjOk P w H' h' a o:=by
 induction o with
 | lst xs=>obtain ⟨z,its,n,r,e⟩:=x;exact ⟨z,its,n,r,k _ _ (.inl rfl) e⟩
 | tup xs=>obtain ⟨z,its,r,ob,e,c⟩:=x;exact ⟨z,its,r,ob,k _ _ (.inl rfl) e,c⟩
 | dK kvs=>obtain ⟨z,y,vs,r,ob,es,ep,e,c⟩:=x;exact ⟨z,y,vs,r,ob,es,ep,k _ _ (.inl rfl) e,c⟩
 | dT kvs=>
  obtain ⟨z,y,xs,r,ob,es,ep,e,c⟩:=x
  exact ⟨z,y,xs,Paired.mapP r fun p q z=>⟨z.1,ht _ _ z.2.1,z.2.2⟩,ob,es,ep,k _ _ (.inl rfl) e,c⟩
 | set S n=>obtain ⟨ob,es,ep,t,e,c⟩:=x;exact ⟨ob,es,ep,t,k _ _ (.inl rfl) e,c⟩
 | ins C dx fs=>
  obtain ⟨d,z,ne,e,mA,⟨od,es,ep,e2,c⟩,r⟩:=x
  exact ⟨ho _ d,z,ne,k _ _ (.inl rfl) e,mA,⟨od,es,ep,k _ _ (.inr d) e2,c⟩,r⟩
 | own y=>obtain ⟨ob,e⟩:=x;exact ⟨ob,k _ _ (.inl rfl) e⟩
 | xd fs=>obtain ⟨mA,⟨od,es,ep,e,c⟩,r⟩:=x;exact ⟨mA,⟨od,es,ep,k _ _ (.inl rfl) e,c⟩,r⟩
 | rng lo hi=>obtain ⟨t,u,v,e⟩:=x;exact ⟨t,u,v,k _ _ (.inl rfl) e⟩
 | frz ob u ih=>obtain ⟨e,q⟩:=x;exact ⟨k _ _ (.inl rfl) e,ih q⟩
 | tbl ps=>
  have e:h.get? a=some { cls:=.none,data:=.fields ps }:=x
  show h'.get? a=some { cls:=.none,data:=.fields ps }
  exact k a _ (.inl rfl) e
 | met f y=>
  have e:h.get? a=some (PySem.W.methodObj (.ref f) (.ref y)):=x
  show h'.get? a=some (PySem.W.methodObj (.ref f) (.ref y))
  exact k a _ (.inl rfl) e
 | ext φ=>obtain ⟨p,⟨o,e⟩,st⟩:=x;exact ⟨st _ _ p fun o q=>k _ _ (.inl rfl) q,⟨o,k _ _ (.inl rfl) e⟩,st⟩
theorem HOk.lt (x:HOk P w H h) (e:H a=some o):a<h.objs.size:=(x a o e).lt
theorem HOk.fresh (x:HOk P w H h) (e:h.objs.size≤a):H a=none:=by
 cases q:H a with
 | none=>rfl
 | some u=>exact absurd (Nat.lt_of_lt_of_le (x.lt q) e) (Nat.lt_irrefl _)
theorem HOk.kept (x:HOk P w H h) (k:∀ b u,h.get? b=some u→h'.get? b=some u):HOk P w H h':=fun a o e=>
 (x a o e).stay (fun b u _ q=>k b u q) (fun _ q=>q) fun _ _ q=>q
theorem HOk.laid (x:HOk P w H h) (k:∀ b u,h.get? b=some u→h'.get? b=some u) (hp:h.objs.size≤a) (new:ObjOk P w (cA H a o) h' a o):HOk P w (cA H a o) h':=fun b u e=>by
 have hn:=x.fresh hp
 by_cases hb:b=a
 ·subst hb;rw[aF] at e;cases e;exact new
 ·rw[aV hb] at e
  exact (x b u e).stay (fun c v _ q=>k c v q) (fun c q=>by rw[aV (aQ q hn)];exact q) fun c xs q=>by rw[aV (aQ q hn)];exact q
end
def Rd (H:Hp) (a:Addr) (u:HO):Prop:=H a=some u∨∃ o,H a=some (.frz o u)
theorem Rd.ok {P:Program}{w:World}{H:Hp}{h:Heap}{a:Addr}{u:HO} (r:Rd H a u) (x:HOk P w H h):ObjOk P w H h a u:=by
 rcases r with r | ⟨o,r⟩
 ·exact x a u r
 ·obtain ⟨_,q⟩:=x a _ r
  exact q
def cu:Option HO→Prop
 | some (.lst _)=>True
 | some (.dK _)=>True
 | some (.dT _)=>True
 | some (.set _ _)=>True
 | some (.ins _ _ _)=>True
 | some (.ext _)=>True
 | _=>False
section
variable {P:Program}{w:World}{H:Hp}{h h':Heap}{x e:Addr}{o':HO}
theorem HOk.write (ok:HOk P w H h) (mu:cu (H x)) (he:e=x∨H e=some (.own x)) (k:∀ b u,b≠e→h.get? b=some u→h'.get? b=some u) (heo:∃ u,h'.get? e=some u)
  (new:ObjOk P w (cA H x o') h' x o'):HOk P w (cA H x o') h':=fun b u q=>by
 have nown:∀ c y,H c=some (.own y)→c≠x:=fun c y r z=>by subst z;rw[r] at mu;exact mu
 have ntup:∀ c xs,H c=some (.tup xs)→c≠x:=fun c xs r z=>by subst z;rw[r] at mu;exact mu
 by_cases hb:b=x
 ·subst hb;rw[aF] at q;cases q;exact new
 ·rw[aV hb] at q
  by_cases hbe:b=e
  ·have q':H b=some (.own x):=by
    rcases he with z | z
    ·exact absurd (hbe.trans z) hb
    ·rw[hbe];exact z
   rw[q] at q';cases q'
   obtain ⟨v,hv⟩:=heo
   exact ⟨v,by rw[hbe];exact hv⟩
  ·refine (ok b u q).stay (fun c v hc r=>k c v ?_ r) (fun c r=>by rw[aV (nown c b r)];exact r) fun c xs r=>by rw[aV (ntup c xs r)];exact r
   rcases hc with rfl | hc
   ·exact hbe
   ·rintro rfl
    rcases he with z | z
    ·exact nown c b hc z
    ·rw[hc] at z;cases z;exact hb rfl
end
structure Un (fs ex:List Addr) (H H':Hp) (h h':Heap):Prop where
 keep:∀ b o,h.get? b=some o→H b=none→b ∉ fs→b ∉ ex→h'.get? b=some o
 slot:∀ b o,h.get? b=some o→H b=none→b ∈ fs→b ∉ ex→∃ sl,h'.get? b=some { o with slots:=sl }
 free:∀ b o,h.get? b=some o→H b=none→b ∉ ex→H' b=none
 there:∀ b o,h.get? b=some o→b ∉ ex→∃ o',h'.get? b=some o'
 tups:∀ b xs,H b=some (.tup xs)→H' b=some (.tup xs)
 frzs:∀ b o u,H b=some (.frz o u)→H' b=some (.frz o u)
 tbls:∀ b ps,H b=some (.tbl ps)→∃ more,H' b=some (.tbl (ps ++ more))
section
variable {fs fs' ex ex':List Addr}{H H1 H2:Hp}{h h1 h2 h':Heap}{a x e:Addr}{o:HO}
theorem Un.any (u:Un fs ex H H1 h h1) {b:Addr}{ob:Obj} (q:h.get? b=some ob) (n:H b=none) (hx:b ∉ ex):∃ sl,h1.get? b=some { ob with slots:=sl }:=by
 by_cases hb:b ∈ fs
 ·exact u.slot b ob q n hb hx
 ·exact ⟨ob.slots,u.keep b ob q n hb hx⟩
theorem Un.kept (k:∀ b u,h.get? b=some u→h'.get? b=some u):Un fs ex H H h h' :=
 ⟨fun b ob q _ _ _=>k b ob q,fun b ob q _ _ _=>⟨ob.slots,k b ob q⟩,fun _ _ _ n _=>n,fun b ob q _=>⟨ob,k b ob q⟩,fun _ _ q=>q,fun _ _ _ q=>q,fun _ ps q=>⟨#[],by rw[q];simp⟩⟩
theorem Un.refl:Un fs ex H H h h:=Un.kept fun _ _ q=>q
theorem Un.laid (k:∀ b u,h.get? b=some u→h'.get? b=some u) (hp:h.objs.size≤a) (hn:H a=none):Un fs ex H (cA H a o) h h' where
 keep:=fun b u q _ _ _=>k b u q
 slot:=fun b u q _ _ _=>⟨u.slots,k b u q⟩
 free:=fun b u q n _=>by rw[aV (Nat.ne_of_lt (Nat.lt_of_lt_of_le (Heap.lt_size q) hp))];exact n
 there:=fun b u q _=>⟨u,k b u q⟩
 tups:=fun b xs q=>by rw[aV (aQ q hn)];exact q
 frzs:=fun b u xs q=>by rw[aV (aQ q hn)];exact q
 tbls:=fun b ps q=>⟨#[],by rw[aV (aQ q hn),q];simp⟩
theorem Un.write (mu:cu (H x)) (he:e=x∨H e=some (.own x)) (k:∀ b u,b≠e→h.get? b=some u→h'.get? b=some u) (heo:∃ u,h'.get? e=some u):Un fs ex H (cA H x o) h h':=by
 have hx:∀ b,H b=none→b≠x:=fun b n z=>by subst z;rw[n] at mu;exact mu
 have hb:∀ b,H b=none→b≠e:=fun b n z=>by
  subst z
  rcases he with r | r
  ·exact hx b n r
  ·rw[n] at r;cases r
 have hm:∀ b u,H b=some u→¬ cu (some u)→b≠x:=fun b u q nm z=>by subst z;rw[q] at mu;exact nm mu
 refine ⟨fun b u q n _ _=>k b u (hb b n) q,fun b u q n _ _=>⟨u.slots,k b u (hb b n) q⟩,fun b u q n _=>by rw[aV (hx b n)];exact n,fun b u q _=>?_,
  fun b xs q=>by rw[aV (hm b _ q fun z=>z)];exact q,fun b u xs q=>by rw[aV (hm b _ q fun z=>z)];exact q,fun b ps q=>⟨#[],by rw[aV (hm b _ q fun z=>z),q];simp⟩⟩
 by_cases hbe:b=e
 ·subst hbe;exact heo
 ·exact ⟨u,k b u hbe q⟩
end
def mx (h:Heap) (H:Hp):List Addr:=(List.range h.objs.size).filter fun a=>(H a).isSome
def Ik (h:Heap) (H:Hp):Heap:=PySem.W.hideAll h (mx h H)
theorem Uw (h:Heap) (H:Hp):(Ik h H).objs.size=h.objs.size:=PySem.W.hideAll_size _ _
theorem Xz {h:Heap}{H:Hp}{b:Addr}{o:Obj} (e:h.get? b=some o) (n:H b=none):(Ik h H).get? b=some o :=
 PySem.W.hideAll_get _ e fun hm=>by
  have q:(H b).isSome=true:=(List.mem_filter.mp hm).2
  rw[n] at q;simp at q
theorem bq {h:Heap}{H:Hp}{b:Addr}{o:Obj} (e:(Ik h H).get? b=some o):h.get? b=some o∧H b=none:=by
 have e':h.get? b=some o:=PySem.W.of_hideAll (mx h H) e
 refine ⟨e',?_⟩
 cases q:H b with
 | none=>rfl
 | some x=>
  have hm:b ∈ mx h H:=List.mem_filter.mpr ⟨List.mem_range.mpr (Heap.lt_size e'),by simp[q]⟩
  have z:(Ik h H).get? b=none:=PySem.W.hideAll_none (mx h H) hm
  rw[z] at e;cases e
end L2
namespace L2
open PySem PySem.Spec PyProof.Rows
structure Mod (K:PySem.W.Frag) (mg:Str→Option Value) (base:Heap):Prop where
 kin:K.In base
 glob:base.Ns mainGlobals mg
 blt:∃ mb,base.Ns builtinsNs mb∧∀ x:Str,x ≠ "__name__" → mb x=bootBuiltins x
 nolimit:base.NoLimit
structure Cx where
 prog:Program
 w:World
 K:PySem.W.Frag
 mg:Str→Option Value
 base:Heap
 A:Around
 N:List Str
 s_0:Shared
 H_0:Hp
 env:Env
 outer:List Env
 stack:List Env
 ex:List Addr
 fn:Str→Bool
 calm:Bool
 pn:List (Addr×Obj)
 xe:Value→Shared→Prop
def Vu (l:List Env):List Addr:=l.filterMap (·.frame)
abbrev Cx.fs (X:Cx):List Addr:=Vu X.outer
def jp (sc:Scope) (x:Str):Prop:=sc.names.lookup x=some .local ∨sc.names.lookup x=some .cell∨sc.names.lookup x=some .free
def mt (sc:Scope) (x:Str):Prop:=sc.names.lookup x=some .local ∨sc.names.lookup x=some .cell
def ol (env:Env) (h:Heap) (m:Str→Option Value) (x:Str) (u:Value):Prop :=
 (env.kindOf x=some .local ∧m x=some u)∨((env.kindOf x=some .cell∨env.kindOf x=some .free)∧∃ c,env.cells.lookup x=some c∧h.IsCell c (some u))
structure Cx.Ok (X:Cx):Prop where
 mod:Mod X.K X.mg X.base
 kind:X.env.scope.kind = .function
 glob:X.env.globals=mainGlobals
 blt:X.env.builtins=builtinsNs
 above:X.s_0.heap.objs.size≤X.env.locals
 inj:∀ x y c,X.env.cells.lookup x=some c→X.env.cells.lookup y=some c→x=y
 has:∀ x,(X.env.kindOf x=some .cell∨X.env.kindOf x=some .free)→∃ c,X.env.cells.lookup x=some c
 cab:∀ x c,X.fn x=true→X.env.cells.lookup x=some c→X.s_0.heap.objs.size≤c
 hd:X.calm=true→X.A.handled=none
 frames:X.A.frames=some X.stack
 stk:X.stack=X.outer∨(X.stack=X.env :: X.outer∧X.env.frame=some X.env.locals)
 exf:∀ b ∈ X.ex,b≠X.env.locals∧∀ x c,X.env.cells.lookup x=some c→c≠b
 bs:∀ b o,X.base.get? b=some o→X.s_0.heap.get? b=some o∧X.H_0 b=none
 bsz:X.base.objs.size≤X.s_0.heap.objs.size
 noex:∀ b o,X.base.get? b=some o→b ∉ X.ex
 exfs:∀ b ∈ X.ex,b ∉ X.fs
 funs:X.s_0.heap.FunFrames X.base X.outer
 frf:∀ b ∈ X.fs,X.H_0 b=none
structure Inv (X:Cx) (pins:List (Addr×Obj)) (σ:List (Option V)) (H:Hp) (s:Shared):Prop where
 ok:X.Ok
 os:s.os=X.s_0.os
 bare:AllBare s.gens
 base:Un X.fs X.ex X.H_0 H X.s_0.heap s.heap
 loc:∃ m,s.heap.Ns X.env.locals m∧∀ (i:Nat) (x:Str) (v:V),X.N[i]? = some x→σ[i]? = some (some v)→jp X.env.scope x→∃ u,RelV v u∧ol X.env s.heap m x u
 cell:∀ x c,X.env.cells.lookup x=some c→∃ v,s.heap.IsCell c v
 free:H X.env.locals=none
 freeC:∀ x c,X.env.cells.lookup x=some c→H c=none
 pin:∀ p ∈ X.pn ++ pins,s.heap.get? p.1=some p.2∧H p.1=none∧p.1≠X.env.locals∧p.1 ∉ X.fs∧∀ v,p.2.data ≠ .cell v
 hok:HOk X.prog X.w H s.heap
 len:σ.length=X.N.length
section
variable {X:Cx}{pins:List (Addr×Obj)}{σ:List (Option V)}{H H':Hp}{s:Shared}{h':Heap}
theorem Cx.Ok.nofr (ok:X.Ok) {b:Addr}{o:Obj} (e:X.base.get? b=some o):b ∉ X.fs:=fun hb=>by
 have:=(ok.funs.mem hb).1
 rw[e] at this;cases this
theorem Inv.bs (I:Inv X pins σ H s):∀ b o,X.base.get? b=some o→s.heap.get? b=some o∧H b=none:=fun b o e=>
 ⟨I.base.keep b o (I.ok.bs b o e).1 (I.ok.bs b o e).2 (I.ok.nofr e) (I.ok.noex b o e),I.base.free b o (I.ok.bs b o e).1 (I.ok.bs b o e).2 (I.ok.noex b o e)⟩
theorem Inv.bk (I:Inv X pins σ H s):∀ b o,X.base.get? b=some o→s.heap.get? b=some o:=fun b o e=>(I.bs b o e).1
theorem Inv.mod (I:Inv X pins σ H s):Mod X.K X.mg X.base:=I.ok.mod
theorem Inv.kIn (I:Inv X pins σ H s):X.K.In s.heap:=I.ok.mod.kin.keeps I.bk
theorem Inv.lt (I:Inv X pins σ H s):X.env.locals<s.heap.objs.size:=let ⟨_,hn,_⟩:=I.loc;hn.lt
theorem Inv.sz (I:Inv X pins σ H s):X.s_0.heap.objs.size≤s.heap.objs.size:=Nat.le_trans I.ok.above (Nat.le_of_lt I.lt)
theorem Inv.nofs (I:Inv X pins σ H s) {a:Addr} (h:s.heap.objs.size≤a):a ∉ X.fs:=fun hb=>by
 obtain ⟨_,o,ho,_⟩:=I.ok.funs.mem hb
 exact absurd (Nat.lt_of_lt_of_le (Heap.lt_size ho) (Nat.le_trans I.sz h)) (Nat.lt_irrefl _)
theorem Inv.cne (I:Inv X pins σ H s):∀ x c,X.env.cells.lookup x=some c→c≠X.env.locals:=fun x c e z=>by
 obtain ⟨v,o,ho,hd⟩:=I.cell x c e
 obtain ⟨m,⟨o',es,ep,ho',hd',_⟩,_⟩:=I.loc
 rw[z,ho'] at ho;cases ho;rw[hd'] at hd;cases hd
theorem Inv.funs (I:Inv X pins σ H s):s.heap.FunFrames X.base X.outer:=by
 have all:∀ (l:List Env),(∀ b ∈ Vu l,b ∈ X.fs)→X.s_0.heap.FunFrames X.base l→s.heap.FunFrames X.base l:=by
  intro l
  induction l with
  | nil=>intro _ _;trivial
  | cons env r ih=>
   intro hs hl
   obtain ⟨hk,⟨L,o,hf,hn,ho,hd⟩,hr⟩:=hl
   have hL:L ∈ X.fs:=hs L (by unfold Vu;rw[List.filterMap_cons,hf];exact List.mem_cons_self)
   obtain ⟨sl,e⟩:=I.base.slot L o ho (I.ok.frf L hL) hL fun z=>I.ok.exfs L z hL
   exact ⟨hk,⟨L,_,hf,hn,e,hd⟩,ih (fun b hb=>hs b (by unfold Vu;rw[List.filterMap_cons,hf];exact List.mem_cons_of_mem _ hb)) hr⟩
 exact all X.outer (fun _ hb=>hb) I.ok.funs
theorem Inv.stack (I:Inv X pins σ H s):s.heap.FunFrames X.base X.stack:=by
 rcases I.ok.stk with e | ⟨e,hf⟩
 ·rw[e];exact I.funs
 ·rw[e]
  obtain ⟨m,hn,_⟩:=I.loc
  refine .cons (by rw[I.ok.kind];decide) hf hn ?_ I.funs
  exact Heap.get?_none_of_le (Nat.le_trans I.ok.bsz I.ok.above)
theorem Inv.stkSub (I:Inv X pins σ H s):∀ b ∈ Vu X.stack,b ∈ X.env.locals :: X.fs:=fun b hb=>by
 rcases I.ok.stk with e | ⟨e,hf⟩
 ·rw[e] at hb;exact List.mem_cons_of_mem _ hb
 ·rw[e] at hb
  unfold Vu at hb
  rw[List.filterMap_cons,hf] at hb
  exact hb
theorem Inv.stkFree (I:Inv X pins σ H s):∀ b ∈ Vu X.stack,H b=none:=fun b hb=>by
 rcases List.mem_cons.mp (I.stkSub b hb) with e | hb
 ·rw[e];exact I.free
 ·obtain ⟨_,o,ho,_⟩:=I.ok.funs.mem hb
  exact I.base.free b o ho (I.ok.frf b hb) fun z=>I.ok.exfs b z hb
theorem Inv.step {g':Array GenState}{t':Nat}{d':Drawn}{ch:List Addr} (I:Inv X pins σ H s)
  (hch:∀ b ∈ ch,(b ∈ X.ex∨X.s_0.heap.objs.size≤b)∧b≠X.env.locals∧(∀ x c,X.env.cells.lookup x=some c→c≠b)∧∀ p ∈ X.pn ++ pins,p.1≠b)
  (keep:∀ b o,b≠X.env.locals→b ∉ X.fs→b ∉ ch→s.heap.get? b=some o→H b=none→h'.get? b=some o)
  (slot:∀ b o,b≠X.env.locals→b ∈ X.fs→b ∉ ch→s.heap.get? b=some o→H b=none→∃ sl,h'.get? b=some { o with slots:=sl }) (free:∀ b o,b ∉ ch→s.heap.get? b=some o→H b=none→H' b=none)
  (there:∀ b o,b ∉ ch→s.heap.get? b=some o→∃ o',h'.get? b=some o')
  (tups:∀ b xs,H b=some (.tup xs)→H' b=some (.tup xs)) (frzs:∀ b o u,H b=some (.frz o u)→H' b=some (.frz o u)) (tbls:∀ b ps,H b=some (.tbl ps)→∃ more,H' b=some (.tbl (ps ++ more)))
  (ns:∀ m,s.heap.Ns X.env.locals m→h'.Ns X.env.locals m) (hok:HOk X.prog X.w H' h') (hg:AllBare g') :
  Inv X pins σ H' { s with heap:=h',gens:=g',drawn:=d',toks:=t' }:=by
 have neL:∀ b o,X.s_0.heap.get? b=some o→b≠X.env.locals:=fun b o e=>Nat.ne_of_lt (Nat.lt_of_lt_of_le (Heap.lt_size e) I.ok.above)
 have neC:∀ b o,X.s_0.heap.get? b=some o→b ∉ X.ex→b ∉ ch:=fun b o e hx hb=>by
  rcases (hch b hb).1 with z | z
  ·exact hx z
  ·exact absurd (Nat.lt_of_lt_of_le (Heap.lt_size e) z) (Nat.lt_irrefl _)
 have cellK:∀ x c,X.env.cells.lookup x=some c→∀ v,s.heap.IsCell c v→h'.IsCell c v:=fun x c e v ⟨o,ho,hd⟩=>by
  have nch:c ∉ ch:=fun z=>(hch c z).2.2.1 x c e rfl
  by_cases hc:c ∈ X.fs
  ·obtain ⟨sl,q⟩:=slot c o (I.cne x c e) hc nch ho (I.freeC x c e)
   exact ⟨_,q,hd⟩
  ·exact ⟨o,keep c o (I.cne x c e) hc nch ho (I.freeC x c e),hd⟩
 refine ⟨I.ok,I.os,hg,⟨fun b o e n hb hx=>?_,fun b o e n hb hx=>?_,fun b o e n hx=>?_,fun b o e hx=>?_,fun b xs e=>tups b xs (I.base.tups b xs e),fun b o xs e=>frzs b o xs (I.base.frzs b o xs e),fun b ps e=>?_⟩,?_,fun x c e=>?_,?_,fun x c e=>?_,fun p hp=>?_,hok,I.len⟩
 ·exact keep b o (neL b o e) hb (neC b o e hx) (I.base.keep b o e n hb hx) (I.base.free b o e n hx)
 ·obtain ⟨sl,e1⟩:=I.base.slot b o e n hb hx
  obtain ⟨sl',e2⟩:=slot b _ (neL b o e) hb (neC b o e hx) e1 (I.base.free b o e n hx)
  exact ⟨sl',e2⟩
 ·obtain ⟨o',e1⟩:=I.base.there b o e hx
  exact free b o' (neC b o e hx) e1 (I.base.free b o e n hx)
 ·obtain ⟨o',e1⟩:=I.base.there b o e hx
  exact there b o' (neC b o e hx) e1
 ·obtain ⟨m1,e1⟩:=I.base.tbls b ps e
  obtain ⟨m2,e2⟩:=tbls b _ e1
  exact ⟨m1 ++ m2,by rw[e2,Array.append_assoc]⟩
 ·obtain ⟨m,hn,hl⟩:=I.loc
  refine ⟨m,ns m hn,fun i x v e1 e2 e3=>?_⟩
  obtain ⟨u,r,l⟩:=hl i x v e1 e2 e3
  refine ⟨u,r,?_⟩
  rcases l with l | ⟨k,c,e,z⟩
  ·exact .inl l
  ·exact .inr ⟨k,c,e,cellK x c e _ z⟩
 ·obtain ⟨v,z⟩:=I.cell x c e
  exact ⟨v,cellK x c e v z⟩
 ·obtain ⟨m,⟨o,_,_,ho,_⟩,_⟩:=I.loc
  exact free _ o (fun z=>(hch _ z).2.1 rfl) ho I.free
 ·obtain ⟨v,o,ho,hd⟩:=I.cell x c e
  exact free c o (fun z=>(hch c z).2.2.1 x c e rfl) ho (I.freeC x c e)
 ·obtain ⟨e,n,ne,nf,d⟩:=I.pin p hp
  have nch:p.1 ∉ ch:=fun z=>(hch p.1 z).2.2.2 p hp rfl
  exact ⟨keep p.1 p.2 ne nf nch e n,free p.1 p.2 nch e n,ne,nf,d⟩
theorem Inv.un {t':Nat} (I:Inv X pins σ H s) (u:Un X.fs [] H H' s.heap h') (hok:HOk X.prog X.w H' h'):Inv X pins σ H' { s with heap:=h',toks:=t' }:=by
 obtain ⟨m,⟨o,es,ep,ho,r⟩,_⟩:=id I.loc
 obtain ⟨sl,hL⟩:=u.any ho I.free (by simp)
 exact I.step (g':=s.gens) (d':=s.drawn) (ch:=[]) (fun _ z=>nomatch z) (fun b o _ hb _ e n=>u.keep b o e n hb (by simp)) (fun b o _ hb _ e n=>u.slot b o e n hb (by simp)) (fun b o _ e n=>u.free b o e n (by simp)) (fun b o _ e=>u.there b o e (by simp)) u.tups u.frzs u.tbls (fun m' hm=>by
  obtain ⟨o',es',ep',ho',r'⟩:=hm
  rw[ho] at ho';cases ho'
  exact ⟨_,es',ep',hL,r'⟩) hok I.bare
theorem Inv.call {g':Array GenState}{t':Nat}{d':Drawn}{ch:List Addr} (I:Inv X pins σ H s) (u:Un (Vu X.stack) ch H H' s.heap h') (hok:HOk X.prog X.w H' h') (hg:AllBare g')
  (hch:∀ b ∈ ch,(b ∈ X.ex∨X.s_0.heap.objs.size≤b)∧b≠X.env.locals∧(∀ x c,X.env.cells.lookup x=some c→c≠b)∧∀ p ∈ X.pn ++ pins,p.1≠b) :
  Inv X pins σ H' { s with heap:=h',gens:=g',drawn:=d',toks:=t' }:=by
 obtain ⟨m,⟨o,es,ep,ho,r⟩,_⟩:=id I.loc
 obtain ⟨sl,hL⟩:=u.any ho I.free fun z=>(hch _ z).2.1 rfl
 exact I.step (ch:=ch) hch (fun b o hL hb hc e n=>u.keep b o e n (fun z=>(List.mem_cons.mp (I.stkSub b z)).elim hL hb) hc) (fun b o _ _ hc e n=>u.any e n hc) (fun b o hc e n=>u.free b o e n hc) (fun b o hc e=>u.there b o e hc) u.tups u.frzs u.tbls (fun m' hm=>by
  obtain ⟨o',es',ep',ho',r'⟩:=hm
  rw[ho] at ho';cases ho'
  exact ⟨_,es',ep',hL,r'⟩) hok hg
theorem Inv.turned {t':Nat}{it:Addr} (I:Inv X pins σ H s) (k:∀ b o,b≠it→s.heap.get? b=some o→h'.get? b=some o) (hn:H it=none) (hL:it≠X.env.locals)
  (h1:it ∈ X.ex∨X.s_0.heap.objs.size≤it) (h2:∀ x c,X.env.cells.lookup x=some c→c≠it) (h3:∀ p ∈ X.pn ++ pins,p.1≠it):Inv X pins σ H { s with heap:=h',toks:=t' }:=by
 have nit:∀ b u,H b=some u→b≠it:=fun b u e z=>by rw[z,hn] at e;cases e
 refine I.step (g':=s.gens) (d':=s.drawn) (ch:=[it]) (fun b hb=>?_) (fun b o _ _ hc e _=>k b o (fun z=>hc (by simp[z])) e) (fun b o _ _ hc e _=>⟨o.slots,k b o (fun z=>hc (by simp[z])) e⟩) (fun _ _ _ _ n=>n)
  (fun b o hc e=>⟨o,k b o (fun z=>hc (by simp[z])) e⟩) (fun _ _ e=>e) (fun _ _ _ e=>e) (fun b ps e=>⟨#[],by rw[e];simp⟩) (fun m hm=>?_) (fun b u e=>?_) I.bare
 ·have e:b=it:=by simpa using hb
  subst e
  exact ⟨h1,hL,h2,h3⟩
 ·obtain ⟨o,es,ep,ho,r⟩:=hm
  exact ⟨o,es,ep,k _ o (Ne.symm hL) ho,r⟩
 ·refine (I.hok b u e).stay (fun c v hc q=>k c v ?_ q) (fun _ q=>q) fun _ _ q=>q
  rcases hc with z | z
  ·rw[z];exact nit b u e
  ·exact nit c _ z
theorem Inv.tok (I:Inv X pins σ H s) (t:Nat):Inv X pins σ H { s with toks:=t }:=I.un (h':=s.heap) (t':=t) Un.refl I.hok
theorem Inv.kept {t':Nat} (I:Inv X pins σ H s) (k:∀ b u,s.heap.get? b=some u→h'.get? b=some u):Inv X pins σ H { s with heap:=h',toks:=t' }:=I.un (Un.kept k) (I.hok.kept k)
theorem Inv.laid {a:Addr}{o:HO}{t':Nat} (I:Inv X pins σ H s) (k:∀ b u,s.heap.get? b=some u→h'.get? b=some u) (hp:s.heap.objs.size≤a) (new:ObjOk X.prog X.w (cA H a o) h' a o) :
  Inv X pins σ (cA H a o) { s with heap:=h',toks:=t' }:=I.un (Un.laid k hp (I.hok.fresh hp)) (I.hok.laid k hp new)
theorem Inv.write {x e:Addr}{o:HO}{t':Nat} (I:Inv X pins σ H s) (mu:cu (H x)) (he:e=x∨H e=some (.own x)) (k:∀ b u,b≠e→s.heap.get? b=some u→h'.get? b=some u) (heo:∃ u,h'.get? e=some u)
  (new:ObjOk X.prog X.w (cA H x o) h' x o):Inv X pins σ (cA H x o) { s with heap:=h',toks:=t' }:=I.un (Un.write mu he k heo) (I.hok.write mu he k heo new)
theorem Inv.weak {σ':List (Option V)} (I:Inv X pins σ H s) (hl:σ'.length=σ.length) (w:∀ (i:Nat) v,σ'[i]? = some (some v)→σ[i]? = some (some v)):Inv X pins σ' H s :=
 ⟨I.ok,I.os,I.bare,I.base,let ⟨m,hn,hl'⟩:=I.loc;⟨m,hn,fun i x v e1 e2 e3=>hl' i x v e1 (w i v e2) e3⟩,I.cell,I.free,I.freeC,I.pin,I.hok,hl.trans I.len⟩
theorem Inv.pins_of {pins':List (Addr×Obj)} (I:Inv X pins σ H s) (h:∀ p ∈ pins',s.heap.get? p.1=some p.2∧H p.1=none∧p.1≠X.env.locals∧p.1 ∉ X.fs∧∀ v,p.2.data ≠ .cell v):Inv X pins' σ H s :=
 ⟨I.ok,I.os,I.bare,I.base,I.loc,I.cell,I.free,I.freeC,fun p hp=>(List.mem_append.mp hp).elim (fun z=>I.pin p (List.mem_append_left _ z)) (h p),I.hok,I.len⟩
theorem Cb {N:List Str} (hN:N.Nodup) {i j:Nat}{x:Str} (a:N[i]? = some x) (b:N[j]? = some x):i=j:=by
 obtain ⟨h1,e1⟩:=List.getElem?_eq_some_iff.mp a
 obtain ⟨h2,e2⟩:=List.getElem?_eq_some_iff.mp b
 exact (List.getElem_inj hN).mp (e1.trans e2.symm)
theorem Hs {M:Model}{A:Around}{E:Value→Shared→Prop}{i:Nat}{x:Str}{v:V}{u:Value}{Q:Unit→Shared→Prop} (I:Inv X pins σ H s) (hN:X.N.Nodup) (hi:X.N[i]? = some x) (hx:mt X.env.scope x) (r:RelV v u)
  (h:∀ s',Inv X pins (σ.set i (some v)) H s'→(∃ a,Heap.SameBut a s.heap s'.heap∧(a=X.env.locals∨X.env.cells.lookup x=some a))→Q () s') (hf:X.fn x=true∨X.env.scope.names.lookup x=some .local:=by first | exact .inl rfl | exact .inr rfl | assumption):wpAny M A (storeName X.env x u) Q E s:=by
 obtain ⟨m,hn,hl⟩:=id I.loc
 have hcls:(X.env.scope.kind == .class || (X.env.scope.kind == .module && X.env.locals != X.env.globals))=false:=by rw[I.ok.kind];rfl
 have hiσ:i<σ.length:=by rw[I.len];exact (List.getElem?_eq_some_iff.mp hi).1
 have cne:=I.cne
 have tracked:∀ {a:Addr}{h':Heap},(∃ o,s.heap.get? a=some o∧H a=none)→Heap.SameBut a s.heap h'→HOk X.prog X.w H h':=fun {a h'} ha hs b ob e=>by
  obtain ⟨_,_,hfree⟩:=ha
  refine (I.hok b ob e).stay (fun c w' hc q=>(hs.2 c ?_).trans q) (fun _ q=>q) fun _ _ q=>q
  rintro rfl
  rcases hc with rfl | hc
  ·rw[hfree] at e;cases e
  ·rw[hfree] at hc;cases hc
 rcases hx with hk | hk
 ·refine wpAny_storeName_local hk hn (fun h' hn' hs=>?_) hcls
  obtain ⟨oL,_,_,hoL,_⟩:=id hn
  refine h _ ⟨I.ok,I.os,I.bare,⟨fun b o e n hb hx=>?_,fun b o e n hb hx=>?_,I.base.free,fun b o e hx=>?_,I.base.tups,I.base.frzs,I.base.tbls⟩,⟨_,hn',fun j y v' e1 e2 e3=>?_⟩,fun y c e=>?_,I.free,I.freeC,fun p hp=>?_,tracked ⟨oL,hoL,I.free⟩ hs,by simpa using I.len⟩ ⟨_,hs,.inl rfl⟩
  ·exact (hs.2 b (Nat.ne_of_lt (Nat.lt_of_lt_of_le (Heap.lt_size e) I.ok.above))).trans (I.base.keep b o e n hb hx)
  ·obtain ⟨sl,e1⟩:=I.base.slot b o e n hb hx
   exact ⟨sl,(hs.2 b (Nat.ne_of_lt (Nat.lt_of_lt_of_le (Heap.lt_size e) I.ok.above))).trans e1⟩
  ·obtain ⟨o',e1⟩:=I.base.there b o e hx
   exact ⟨o',(hs.2 b (Nat.ne_of_lt (Nat.lt_of_lt_of_le (Heap.lt_size e) I.ok.above))).trans e1⟩
  ·by_cases hj:j=i
   ·subst hj
    rw[hi] at e1;cases e1
    rw[List.getElem?_set_self hiσ] at e2
    cases e2
    exact ⟨u,r,.inl ⟨hk,by simp⟩⟩
   ·rw[List.getElem?_set_ne (Ne.symm hj)] at e2
    obtain ⟨u',r',q⟩:=hl j y v' e1 e2 e3
    refine ⟨u',r',?_⟩
    rcases q with ⟨k,e⟩ | ⟨k,c,e,z⟩
    ·refine .inl ⟨k,?_⟩
     have:y≠x:=fun e=>hj (Cb hN e1 (e ▸ hi))
     simp[this,e]
    ·exact .inr ⟨k,c,e,z.sameBut hs (cne y c e)⟩
  ·obtain ⟨w',z⟩:=I.cell y c e
   exact ⟨w',z.sameBut hs (cne y c e)⟩
  ·obtain ⟨e,n,ne,nf,d⟩:=I.pin p hp
   exact ⟨(hs.2 p.1 ne).trans e,n,ne,nf,d⟩
 ·have hfn:X.fn x=true:=by
   rcases hf with z | z
   ·exact z
   ·rw[z] at hk;cases hk
  obtain ⟨c,hc⟩:=I.ok.has x (.inl hk)
  obtain ⟨w',z⟩:=I.cell x c hc
  refine wpAny_storeName_cell I.ok.kind hk hc z (fun h' hc' hs=>?_)
  obtain ⟨oc,hoc,hocd⟩:=id z
  refine h { s with heap:=h' } ⟨I.ok,I.os,I.bare,⟨fun b o e n hb hx=>?_,fun b o e n hb hx=>?_,I.base.free,fun b o e hx=>?_,I.base.tups,I.base.frzs,I.base.tbls⟩,⟨m,hn.sameBut hs (Ne.symm (cne x c hc)),fun j y v' e1 e2 e3=>?_⟩,fun y c' e=>?_,I.free,I.freeC,fun p hp=>?_,tracked ⟨oc,hoc,I.freeC x c hc⟩ hs,by simpa using I.len⟩ ⟨c,hs,.inr hc⟩
  ·exact (hs.2 b (Nat.ne_of_lt (Nat.lt_of_lt_of_le (Heap.lt_size e) (I.ok.cab x c hfn hc)))).trans (I.base.keep b o e n hb hx)
  ·obtain ⟨sl,e1⟩:=I.base.slot b o e n hb hx
   exact ⟨sl,(hs.2 b (Nat.ne_of_lt (Nat.lt_of_lt_of_le (Heap.lt_size e) (I.ok.cab x c hfn hc)))).trans e1⟩
  ·obtain ⟨o',e1⟩:=I.base.there b o e hx
   exact ⟨o',(hs.2 b (Nat.ne_of_lt (Nat.lt_of_lt_of_le (Heap.lt_size e) (I.ok.cab x c hfn hc)))).trans e1⟩
  ·by_cases hj:j=i
   ·subst hj
    rw[hi] at e1;cases e1
    rw[List.getElem?_set_self hiσ] at e2
    cases e2
    exact ⟨u,r,.inr ⟨.inl hk,c,hc,hc'⟩⟩
   ·rw[List.getElem?_set_ne (Ne.symm hj)] at e2
    obtain ⟨u',r',q⟩:=hl j y v' e1 e2 e3
    refine ⟨u',r',?_⟩
    rcases q with q | ⟨k,c',e,z'⟩
    ·exact .inl q
    ·refine .inr ⟨k,c',e,z'.sameBut hs ?_⟩
     rintro rfl
     exact hj (Cb hN e1 (I.ok.inj _ _ _ e hc ▸ hi))
  ·by_cases hcc:c'=c
   ·subst hcc;exact ⟨_,hc'⟩
   ·obtain ⟨w2,z2⟩:=I.cell y c' e
    exact ⟨w2,z2.sameBut hs hcc⟩
  ·obtain ⟨e,n,ne,nf,d⟩:=I.pin p hp
   refine ⟨(hs.2 p.1 ?_).trans e,n,ne,nf,d⟩
   intro q
   rw[q,hoc] at e
   have q':oc=p.2:=Option.some.inj e
   exact d w' (by rw[←q'];exact hocd)
theorem Me {M:Model}{A:Around}{E:Value→Shared→Prop}{i:Nat}{x:Str}{v:V}{u:Value}{Q:Unit→Shared→Prop} (I:Inv X pins σ H s) (hN:X.N.Nodup) (hi:X.N[i]? = some x) (hx:mt X.env.scope x) (r:RelV v u)
  (h:∀ s',Inv X pins (σ.set i (some v)) H s'→Q () s') (hf:X.fn x=true∨X.env.scope.names.lookup x=some .local:=by first | exact .inl rfl | exact .inr rfl | assumption):wpAny M A (storeName X.env x u) Q E s :=
 Hs I hN hi hx r (fun s' I' _=>h s' I') hf
theorem Inv.call' {s':Shared}{ch:List Addr} (I:Inv X pins σ H s) (ho:s'.os=s.os) (u:Un (Vu X.stack) ch H H' s.heap s'.heap) (hok:HOk X.prog X.w H' s'.heap) (hg:AllBare s'.gens)
  (hch:∀ b ∈ ch,(b ∈ X.ex∨X.s_0.heap.objs.size≤b)∧b≠X.env.locals∧(∀ x c,X.env.cells.lookup x=some c→c≠b)∧∀ p ∈ X.pn ++ pins,p.1≠b):Inv X pins σ H' s':=by
 obtain ⟨h',g',d',t',o'⟩:=s'
 have e:o'=s.os:=ho
 subst e
 exact I.call (g':=g') (t':=t') (d':=d') u hok hg hch
end
abbrev XK:=Value→Option Addr→Hp→Prop
abbrev St:=List (Option V)
abbrev VK:=V→Hp→Prop
abbrev TE:=St→Hp→VK→Prop
abbrev TT:=St→Hp→(Bool→Hp→Prop)→Prop
abbrev TA:=St→Hp→(List V→Hp→Prop)→Prop
structure jB where
 nx:St→Hp→Prop
 rt:VK
 bk:St→Hp→Prop:=fun _ _=>False
 ct:St→Hp→Prop:=fun _ _=>False
abbrev TS:=jB→St→Hp→Prop
def EP (X:Cx) (pins:List (Addr×Obj)) (σ:St) (Q:VK) (u:Value) (s':Shared):Prop:=∃ v H',Inv X pins σ H' s'∧RelV v u∧Q v H'
def TP (X:Cx) (pins:List (Addr×Obj)) (σ:St) (Q:Bool→Hp→Prop) (b:Bool) (s':Shared):Prop:=∃ H',Inv X pins σ H' s'∧Q b H'
def AP (X:Cx) (pins:List (Addr×Obj)) (σ:St) (Q:List V→Hp→Prop) (us:List Value) (s':Shared):Prop:=∃ vs H',Inv X pins σ H' s'∧Vals vs us∧Q vs H'
def SP (X:Cx) (pins:List (Addr×Obj)) (D:jB) (f:Flow) (s':Shared):Prop :=
 match f with
 | .next=>∃ σ' H',Inv X pins σ' H' s'∧D.nx σ' H'
 | .brk=>∃ σ' H',Inv X pins σ' H' s'∧D.bk σ' H'
 | .cont=>∃ σ' H',Inv X pins σ' H' s'∧D.ct σ' H'
 | .ret u=>∃ v σ' H',Inv X pins σ' H' s'∧RelV v u∧D.rt v H'
def PE (X:Cx) (e:Expr) (t:TE):Prop :=
 ∀ (pins:List (Addr×Obj)) (s:Shared) (σ:St) (H:Hp) (Q:VK),Inv X pins σ H s→t σ H Q→wpAny (model X.prog X.w) X.A (eval e X.env) (EP X pins σ Q) X.xe s
def PT (X:Cx) (e:Expr) (t:TT):Prop :=
 ∀ (pins:List (Addr×Obj)) (s:Shared) (σ:St) (H:Hp) (Q:Bool→Hp→Prop),Inv X pins σ H s→t σ H Q→wpAny (model X.prog X.w) X.A (isTrue e X.env (eval e X.env)) (TP X pins σ Q) X.xe s
def PW (X:Cx) (e:Expr) (t:TT):Prop :=
 ∀ (whole:Sem Value) (pins:List (Addr×Obj)) (s:Shared) (σ:St) (H:Hp) (Q:Bool→Hp→Prop),Inv X pins σ H s→t σ H Q→wpAny (model X.prog X.w) X.A (isTrue e X.env whole) (TP X pins σ Q) X.xe s
theorem PW.pt {X:Cx}{e:Expr}{t:TT} (h:PW X e t):PT X e t:=h _
def PA (X:Cx) (es:List Expr) (t:TA):Prop :=
 ∀ (pos:Pos) (pins:List (Addr×Obj)) (s:Shared) (σ:St) (H:Hp) (Q:List V→Hp→Prop),Inv X pins σ H s→t σ H Q→wpAny (model X.prog X.w) X.A (spliced (backTo pos (starEach es X.env))) (AP X pins σ Q) X.xe s
def PS (X:Cx) (st:Stmt) (t:TS):Prop :=
 ∀ (pins:List (Addr×Obj)) (s:Shared) (σ:St) (H:Hp) (D:jB),Inv X pins σ H s→t D σ H→wpAny (model X.prog X.w) X.A (exec st X.env) (SP X pins D) X.xe s
def PSs (X:Cx) (st:List Stmt) (t:TS):Prop :=
 ∀ (pins:List (Addr×Obj)) (s:Shared) (σ:St) (H:Hp) (D:jB),Inv X pins σ H s→t D σ H→wpAny (model X.prog X.w) X.A (execs st X.env) (SP X pins D) X.xe s
theorem eZ {α:Type}{t:Sem α}{Q Q':α→Shared→Prop}{M:Model}{A:Around}{E:Value→Shared→Prop}{s:Shared} (h:wpAny M A t Q E s) (hQ:∀ a s,Q a s→Q' a s):wpAny M A t Q' E s:=wpAny_mono h hQ fun _ _ x=>x
end L2
namespace L2
open PySem PySem.Spec PyProof.Rows
section
variable {X:Cx}
def lR (i:Nat):TE:=fun σ H Q=>∃ v,σ[i]? = some (some v)∧Q v H
def tC (v:V):TE:=fun _ H Q=>Q v H
theorem iy {i:Nat}{x:Str}{pos:Pos} (hN:X.N[i]? = some x) (hv:jp X.env.scope x) (hd:(x == ("__debug__" : Str))=false:=by decide) (hcd:(x == ("__classdict__" : Str))=false:=by decide):PE X (.Name x pos) (lR i):=by
 intro pins s σ H Q I h
 obtain ⟨v,e,h⟩:=h
 obtain ⟨m,hn,hl⟩:=I.loc
 obtain ⟨u,r,l⟩:=hl i x v hN e hv
 have wA:EP X pins σ Q u s:=⟨v,H,I,r,h⟩
 rcases l with ⟨hk,hm⟩ | ⟨hk,c,hc,hcell⟩
 ·exact wpAny_Name (wpAny_loadName_local I.ok.kind hk hn hm wA) hd
 ·rcases hk with hk | hk
  ·exact wpAny_Name (wpAny_loadName_cell I.ok.kind hk hc hcell wA) hd
  ·exact wpAny_Name (wpAny_loadName_free I.ok.kind hk hc hcell wA hcd) hd
theorem aM {i j pos}:PE X (.Constant (.int i) j pos) (tC (.int i)):=fun _ _ _ H _ I h=>wpAny_Constant_int ⟨.int i,H,I.tok _,⟨_,rfl⟩,h⟩
theorem Wg {b j pos}:PE X (.Constant (.bool b) j pos) (tC (.bl b)):=fun _ _ _ H _ I h=>Constant_bool ⟨.bl b,H,I,rfl,h⟩
theorem jQ {j pos}:PE X (.Constant .none j pos) (tC .non):=fun _ _ _ H _ I h=>Constant_none ⟨.non,H,I,rfl,h⟩
theorem kM {x j pos}:PE X (.Constant (.str x) j pos) (tC (.str x)):=fun _ _ _ H _ I h=>Calls.Constant_str ⟨.str x,H,I.tok _,⟨_,rfl⟩,h⟩
def Gl (X:Cx) (x:Str):Prop:=X.env.kindOf x=some .globalImplicit
theorem wE {E:Value→Shared→Prop}{pins:List (Addr×Obj)}{s:Shared}{σ:St}{H:Hp}{x:Str}{u:Value}{pos:Pos}{Q:Value→Shared→Prop} (I:Inv X pins σ H s) (hg:Gl X x) (hm:X.mg x=some u) (h:Q u s)
  (hd:(x == ("__debug__" : Str))=false:=by decide):wpAny (model X.prog X.w) X.A (eval (.Name x pos) X.env) Q E s :=
 Calls.Name_function_global I.ok.kind hg (Calls.loadGlobal_global (by rw[I.ok.glob];exact I.mod.glob.keeps I.bk) hm h) hd
theorem xM {E:Value→Shared→Prop}{pins:List (Addr×Obj)}{s:Shared}{σ:St}{H:Hp}{x:Str}{u:Value}{pos:Pos}{Q:Value→Shared→Prop} (I:Inv X pins σ H s) (hg:Gl X x) (hm:X.mg x=none) (hv:bootBuiltins x=some u) (h:Q u s)
  (hn:x ≠ "__name__":=by decide) (hd:(x == ("__debug__" : Str))=false:=by decide):wpAny (model X.prog X.w) X.A (eval (.Name x pos) X.env) Q E s:=by
 obtain ⟨mb,h1,h2⟩:=I.mod.blt
 exact Calls.Name_function_global I.ok.kind hg (Calls.loadGlobal_builtin (by rw[I.ok.glob];exact I.mod.glob.keeps I.bk) hm (by rw[I.ok.blt];exact h1.keeps I.bk) ((h2 x hn).trans hv) h) hd
theorem fC {x:Str}{v:V}{u:Value}{pos:Pos} (hg:Gl X x) (hm:X.mg x=some u) (r:RelV v u) (hd:(x == ("__debug__" : Str))=false:=by decide):PE X (.Name x pos) (tC v) :=
 fun _ _ _ H _ I h=>wE I hg hm ⟨v,H,I,r,h⟩ hd
variable {a b:Expr}{ta tb:TE}{pos:Pos}
def PC (X:Cx) (op:CmpOp) (a b:Expr) (t:TE):Prop :=
 ∀ (pins:List (Addr×Obj)) (s:Shared) (σ:St) (H:Hp) (Q:VK),Inv X pins σ H s→t σ H Q →
  wpAny (model X.prog X.w) X.A (eval a X.env) (fun v s₁=>wpAny (model X.prog X.w) X.A (eval b X.env) (fun u s₂=>wpAny (model X.prog X.w) X.A (compareOp op v u) (EP X pins σ Q) X.xe s₂) X.xe s₁) X.xe s
def tB (t:TE):TT:=fun σ H Q=>t σ H fun x H1=>∃ c,x = .bl c∧Q c H1
theorem qC {op:CmpOp}{t:TE} (h:PC X op a b t) (h1:behindInMarks op b=false:=by first | exact nobehind _ (by decide) (by decide) | rfl):PT X (.Compare a [op] [b] pos) (tB t):=by
 intro pins s σ H Q I hw
 refine wpAny_isTrue_Compare1 (eZ (h pins s σ H _ I hw) fun v s1 h1=>eZ h1 fun u s2 h2=>eZ h2 fun c s3 ⟨x,H1,I1,r1,q1⟩=>?_) h1
 obtain ⟨d,rfl,q⟩:=q1
 cases r1
 exact wpAny_truthy_bool ⟨H1,I1,q⟩
theorem bK {e:Expr}{t:TE} (h:PE X e t) (he:∀ whole,isTrue e X.env whole=(do let v ←whole;standAt e.pos;holding [v] (truthy v)):=by intro _;rfl):PT X e (tB t):=by
 intro pins s σ H Q I hw
 refine isTrue_plain (eZ (h pins s σ H _ I hw) fun v s1 ⟨x,H1,I1,r1,q1⟩=>?_) (he _)
 obtain ⟨d,rfl,q⟩:=q1
 cases r1
 exact wpAny_truthy_bool ⟨H1,I1,q⟩
variable {tA tB':TT}{rest:List Expr}
def Zl (t u:TT):TT:=fun σ H Q=>t σ H fun c H1=>if c=true then u σ H1 Q else Q false H1
def qf (t u:TT):TT:=fun σ H Q=>t σ H fun c H1=>if c=true then Q true H1 else u σ H1 Q
def fb (t:TT):TT:=fun σ H Q=>t σ H fun c H1=>Q (!c) H1
theorem eL (ha:PT X a tA):PW X (.BoolOp .And [a] pos) tA:=by
 intro wh pins s σ H Q I h
 refine isTrue_and (eZ (ha pins s σ H Q I h) fun c s1 e=>?_)
 cases c with
 | true=>exact isTrue_and_nil e
 | false=>exact e
theorem vC (ha:PT X a tA):PW X (.BoolOp .Or [a] pos) tA:=by
 intro wh pins s σ H Q I h
 refine isTrue_or (eZ (ha pins s σ H Q I h) fun c s1 e=>?_)
 cases c with
 | false=>exact isTrue_or_nil e
 | true=>exact e
theorem cU (ha:PT X a tA) (hb:PW X (.BoolOp .And (b :: rest) pos) tB'):PW X (.BoolOp .And (a :: b :: rest) pos) (Zl tA tB'):=by
 intro wh pins s σ H Q I h
 refine isTrue_and (eZ (ha pins s σ H _ I h) fun c s1 ⟨H1,I1,q1⟩=>?_)
 cases c with
 | true=>exact hb wh pins s1 σ H1 Q I1 q1
 | false=>exact ⟨H1,I1,q1⟩
theorem yZ (ha:PT X a tA) (hb:PW X (.BoolOp .Or (b :: rest) pos) tB'):PW X (.BoolOp .Or (a :: b :: rest) pos) (qf tA tB'):=by
 intro wh pins s σ H Q I h
 refine isTrue_or (eZ (ha pins s σ H _ I h) fun c s1 ⟨H1,I1,q1⟩=>?_)
 cases c with
 | true=>exact ⟨H1,I1,q1⟩
 | false=>exact hb wh pins s1 σ H1 Q I1 q1
theorem dJ (ha:PT X a tA):PT X (.UnaryOp .Not a pos) (fb tA):=by
 intro pins s σ H Q I h
 exact isTrue_not (ha pins s σ H (fun c H1=>Q (!c) H1) I h)
def kx (ta tb:TE):TE:=fun σ H Q=>ta σ H fun x H1=>∃ c,x = .bl c∧if c=true then tb σ H1 Q else Q (.bl false) H1
def jy (ta tb:TE):TE:=fun σ H Q=>ta σ H fun x H1=>∃ c,x = .bl c∧if c=true then Q (.bl true) H1 else tb σ H1 Q
theorem Ol {op}{t:TE} (h:PE X a t):PE X (.BoolOp op [a] pos) t:=fun pins s σ H Q I hw=>BoolOp_one (h pins s σ H Q I hw)
theorem Xh (ha:PE X a ta) (hb:PE X (.BoolOp .And (b :: rest) pos) tb):PE X (.BoolOp .And (a :: b :: rest) pos) (kx ta tb):=by
 intro pins s σ H Q I h
 refine BoolOp_and (eZ (ha pins s σ H _ I h) fun v s1 ⟨x,H1,I1,r1,q1⟩=>?_)
 obtain ⟨c,rfl,q1⟩:=q1
 cases r1
 refine wpAny_truthy_bool ?_
 cases c with
 | true=>exact hb pins s1 σ H1 Q I1 q1
 | false=>exact ⟨.bl false,H1,I1,rfl,q1⟩
theorem lm (ha:PE X a ta) (hb:PE X (.BoolOp .Or (b :: rest) pos) tb):PE X (.BoolOp .Or (a :: b :: rest) pos) (jy ta tb):=by
 intro pins s σ H Q I h
 refine BoolOp_or (eZ (ha pins s σ H _ I h) fun v s1 ⟨x,H1,I1,r1,q1⟩=>?_)
 obtain ⟨c,rfl,q1⟩:=q1
 cases r1
 refine wpAny_truthy_bool ?_
 cases c with
 | false=>exact hb pins s1 σ H1 Q I1 q1
 | true=>exact ⟨.bl true,H1,I1,rfl,q1⟩
def mr (t:TT) (ta tb:TE):TE:=fun σ H Q=>t σ H fun c H1=>if c=true then ta σ H1 Q else tb σ H1 Q
theorem rN {c:Expr} (hc:PT X c tA) (ha:PE X a ta) (hb:PE X b tb):PE X (.IfExp c a b pos) (mr tA ta tb):=by
 intro pins s σ H Q I h
 refine wpAny_IfExp (eZ (hc pins s σ H _ I h) fun d s1 ⟨H1,I1,q1⟩=>?_)
 cases d with
 | true=>exact ha pins s1 σ H1 Q I1 q1
 | false=>exact hb pins s1 σ H1 Q I1 q1
end
end L2
namespace L2
open PySem PySem.Spec PyProof.Rows
def SqL (K:PySem.W.Frag) (H:Hp) (a:Addr) (xs:List V):Prop :=
 Rd H a (.lst xs) ∨
  ∃ (o:Obj) (its:Array Value) (n:Nat),K.lookup a=some o∧o.cls = .type "list" ∧ o.dict=none∧o.data = .seq its n∧its.size≤sizeLine∧Vals xs its.toList
def SqT (K:PySem.W.Frag) (H:Hp) (a:Addr) (xs:List V):Prop :=
 Rd H a (.tup xs) ∨
  ∃ (o:Obj) (its:Array Value) (n:Nat),K.lookup a=some o∧o.cls = .type "tuple" ∧ o.data = .seq its n∧its.size≤sizeLine∧Vals xs its.toList
def og:Value→Option V
 | .none=>some .non
 | .bool b=>some (.bl b)
 | .int i _=>some (.int i)
 | .str x _=>some (.str x)
 | .bytes b _=>some (.byt b)
 | .float b _=>some (.flt b)
 | .ref a=>some (.ref a)
 | .type n=>some (.ty n)
 | _=>none
theorem RelV.abs {x:V}{u:Value} (r:RelV x u):og u=some x:=by
 cases x with
 | non=>cases r;rfl
 | bl _=>cases r;rfl
 | int _=>obtain ⟨t,rfl⟩:=r;rfl
 | str _=>obtain ⟨t,rfl⟩:=r;rfl
 | byt _=>obtain ⟨t,rfl⟩:=r;rfl
 | flt _=>obtain ⟨t,rfl⟩:=r;rfl
 | ref _=>cases r;rfl
 | ty _=>cases r;rfl
theorem RelV.inj {x y:V}{u:Value} (r:RelV x u) (q:RelV y u):x=y:=Option.some.inj (r.abs.symm.trans q.abs)
theorem Vals.inj:∀ {xs ys:List V}{us:List Value},Vals xs us→Vals ys us→xs=ys
 | _,_,_,.nil,.nil=>rfl
 | _,_,_,.cons r t,.cons r' t'=>by rw[r.inj r',Vals.inj t t']
section
variable {X:Cx}{pins:List (Addr×Obj)}{σ:St}{H:Hp}{s:Shared}{a:Addr}{xs ys:List V}
theorem SqL.of {K:PySem.W.Frag} (h:H a=some (.lst xs)):SqL K H a xs:=.inl (.inl h)
theorem SqT.of {K:PySem.W.Frag} (h:H a=some (.tup xs)):SqT K H a xs:=.inl (.inl h)
theorem Inv.list (I:Inv X pins σ H s) (h:SqL X.K H a xs):∃ its:List Value,Vals xs its∧PlainL s.heap a its.toArray∧xs.length≤sizeLine:=by
 rcases h with h | ⟨o,its,n,hk,hc,hd,hs,hz,r⟩
 ·obtain ⟨z,its,n,r,e⟩:=h.ok I.hok
  exact ⟨its,r,⟨_,n,e,rfl,rfl,rfl⟩,z⟩
 ·refine ⟨its.toList,r,⟨o,n,I.kIn a o hk,hc,hd,by simpa using hs⟩,?_⟩
  have e:=r.length
  simp only[Array.length_toList] at e
  omega
theorem Inv.tuple (I:Inv X pins σ H s) (h:SqT X.K H a xs):∃ its:List Value,Vals xs its∧IsTup s.heap a its.toArray∧xs.length≤sizeLine:=by
 rcases h with h | ⟨o,its,n,hk,hc,hs,hz,r⟩
 ·obtain ⟨z,its,r,p⟩:=h.ok I.hok
  exact ⟨its,r,p,z⟩
 ·refine ⟨its.toList,r,⟨o,I.kIn a o hk,hc,n,by simpa using hs⟩,?_⟩
  have e:=r.length
  simp only[Array.length_toList] at e
  omega
theorem Inv.list_inj (I:Inv X pins σ H s) (h:SqL X.K H a xs) (h':SqL X.K H a ys):xs=ys:=by
 obtain ⟨its,r,⟨o,n,e,_,_,d⟩,_⟩:=I.list h
 obtain ⟨its',r',⟨o',n',e',_,_,d'⟩,_⟩:=I.list h'
 rw[e] at e';cases e'
 rw[d] at d'
 injection d' with d1 _
 have:its=its':=by simpa using congrArg Array.toList d1
 subst this
 exact r.inj r'
theorem Inv.tuple_inj (I:Inv X pins σ H s) (h:SqT X.K H a xs) (h':SqT X.K H a ys):xs=ys:=by
 obtain ⟨its,r,⟨o,e,_,n,d⟩,_⟩:=I.tuple h
 obtain ⟨its',r',⟨o',e',_,n',d'⟩,_⟩:=I.tuple h'
 rw[e] at e';cases e'
 rw[d] at d'
 injection d' with d1 _
 have:its=its':=by simpa using congrArg Array.toList d1
 subst this
 exact r.inj r'
end
abbrev Cx.wish (X:Cx) (E:Value→Shared→Prop):Cx:={ X with xe:=E }
abbrev Cx.nox (X:Cx):Cx:=X.wish fun _ _=>False
theorem Cx.Ok.wish {X:Cx} (ok:X.Ok) (E:Value→Shared→Prop):(X.wish E).Ok :=
 ⟨ok.mod,ok.kind,ok.glob,ok.blt,ok.above,ok.inj,ok.has,ok.cab,ok.hd,ok.frames,ok.stk,ok.exf,ok.bs,ok.bsz,ok.noex,ok.exfs,ok.funs,ok.frf⟩
theorem Cx.Ok.unwish {X:Cx}{E:Value→Shared→Prop} (ok:(X.wish E).Ok):X.Ok :=
 ⟨ok.mod,ok.kind,ok.glob,ok.blt,ok.above,ok.inj,ok.has,ok.cab,ok.hd,ok.frames,ok.stk,ok.exf,ok.bs,ok.bsz,ok.noex,ok.exfs,ok.funs,ok.frf⟩
section
variable {X:Cx}{pins:List (Addr×Obj)}{σ:St}{H:Hp}{s:Shared}{E:Value→Shared→Prop}
theorem Inv.wish (I:Inv X pins σ H s) (E:Value→Shared→Prop):Inv (X.wish E) pins σ H s:=⟨I.ok.wish E,I.os,I.bare,I.base,I.loc,I.cell,I.free,I.freeC,I.pin,I.hok,I.len⟩
theorem Inv.unwish (I:Inv (X.wish E) pins σ H s):Inv X pins σ H s:=⟨I.ok.unwish,I.os,I.bare,I.base,I.loc,I.cell,I.free,I.freeC,I.pin,I.hok,I.len⟩
theorem SP.unwish {D:jB}{f:Flow}{s':Shared} (h:SP (X.wish E) pins D f s'):SP X pins D f s':=by
 cases f with
 | next=>obtain ⟨σ',H',I,q⟩:=h;exact ⟨σ',H',I.unwish,q⟩
 | brk=>obtain ⟨σ',H',I,q⟩:=h;exact ⟨σ',H',I.unwish,q⟩
 | cont=>obtain ⟨σ',H',I,q⟩:=h;exact ⟨σ',H',I.unwish,q⟩
 | ret u=>obtain ⟨v,σ',H',I,r,q⟩:=h;exact ⟨v,σ',H',I.unwish,r,q⟩
theorem PSs.nox {st:List Stmt}{t:TS} (h:PSs X.nox st t):PSs X st t:=fun pins s σ H D I hw=>
 wpAny_mono (h pins s σ H D (I.wish _) hw) (fun _ _ q=>q.unwish) fun _ _ z=>False.elim z
end
section
variable {X:Cx}{st:Stmt}{rest:List Stmt}{t u:TS}{e:Expr}{te:TE}{pos:Pos}
def zA:TS:=fun D σ H=>D.nx σ H
def pC (t u:TS):TS:=fun D σ H=>t { D with nx:=u D } σ H
theorem aU:PSs X [] zA:=fun _ _ σ H _ I h=>wpAny_execs_nil ⟨σ,H,I,h⟩
theorem aC (h1:PS X st t) (h2:PSs X rest u):PSs X (st :: rest) (pC t u):=by
 intro pins s σ H D I h
 refine wpAny_execs_cons (eZ (h1 pins s σ H { D with nx:=u D } I h) fun f s1 q=>?_)
 cases f with
 | next=>
  obtain ⟨σ',H',I',q⟩:=q
  exact h2 pins s1 σ' H' D I' q
 | ret v=>exact q
 | brk=>exact q
 | cont=>exact q
theorem aE (h1:PS X st t):PSs X [st] t:=by
 intro pins s σ H D I h
 refine wpAny_execs_cons (eZ (h1 pins s σ H D I h) fun f s1 q=>?_)
 cases f with
 | next=>exact wpAny_execs_nil q
 | ret v=>exact q
 | brk=>exact q
 | cont=>exact q
theorem Inv.quiet {pins:List (Addr×Obj)}{σ:St}{H:Hp}{s:Shared} (I:Inv X pins σ H s):interactive X.env=false:=by simp[interactive,I.ok.kind]
def Lr (te:TE):TS:=fun D σ H=>te σ H fun _ H1=>D.nx σ H1
theorem cI (he:PE X e te) (hs:swapsWith e none pos.line X.env=pure false:=by rfl):PS X (.Expr e pos) (Lr te):=by
 intro pins s σ H D I h
 exact wpAny_Expr_any (eZ (he pins s σ H _ I h) fun v s1 ⟨x,H1,I1,r1,q1⟩=>⟨σ,H1,I1,q1⟩) I.quiet hs
def Ln (te:TE):TS:=fun D σ H=>te σ H D.rt
theorem aK (he:PE X e te):PS X (.Return (some e) pos) (Ln te):=by
 intro pins s σ H D I h
 exact wpAny_Return_some (eZ (he pins s σ H _ I h) fun v s1 ⟨x,H1,I1,r1,q1⟩=>⟨x,σ,H1,I1,r1,q1⟩)
def Fk (c:TT) (t u:TS):TS:=fun D σ H=>c σ H fun b H1=>if b=true then t D σ H1 else u D σ H1
theorem bJ {c:Expr}{a b:List Stmt}{tc:TT} (hc:PT X c tc) (ha:PSs X a t) (hb:PSs X b u):PS X (.If c a b pos) (Fk tc t u):=by
 intro pins s σ H D I h
 refine wpAny_If (eZ (hc pins s σ H _ I h) fun d s1 ⟨H1,I1,q1⟩=>?_)
 cases d with
 | true=>exact ha pins s1 σ H1 D I1 q1
 | false=>exact hb pins s1 σ H1 D I1 q1
end
abbrev TG:=V→St→Hp→(St→Hp→Prop)→Prop
abbrev dz:=List V→St→Hp→(St→Hp→Prop)→Prop
def PG (X:Cx) (target:Expr) (t:TG):Prop :=
 ∀ (pins:List (Addr×Obj)) (s:Shared) (σ:St) (H:Hp) (v:V) (u:Value) (Q:St→Hp→Prop),Inv X pins σ H s→RelV v u→t v σ H Q →
  wpAny (model X.prog X.w) X.A (assign target X.env u) (fun _ s'=>∃ σ' H',Inv X pins σ' H' s'∧Q σ' H') X.xe s
def mv (X:Cx) (ts:List Expr) (t:dz):Prop :=
 ∀ (pins:List (Addr×Obj)) (s:Shared) (σ:St) (H:Hp) (vs:List V) (us:List Value) (Q:St→Hp→Prop),Inv X pins σ H s→Vals vs us→t vs σ H Q →
  wpAny (model X.prog X.w) X.A (assignInOrder ((assignEach ts X.env).map (·.2)) us) (fun _ s'=>∃ σ' H',Inv X pins σ' H' s'∧Q σ' H') X.xe s
section
variable {X:Cx}{pos:Pos}
def jC (i:Nat):TG:=fun v σ H Q=>Q (σ.set i (some v)) H
theorem bV {i:Nat}{x:Str} (hN:X.N.Nodup) (hi:X.N[i]? = some x) (hx:mt X.env.scope x) (hf:X.fn x=true∨X.env.scope.names.lookup x=some .local:=by first | exact .inl rfl | exact .inr rfl | assumption):PG X (.Name x pos) (jC i):=by
 intro pins s σ H v u Q I r h
 exact wpAny_assign_Name (Me I hN hi hx r (fun s' I'=>⟨_,H,I',h⟩) hf)
def om:dz:=fun vs σ H Q=>vs=[]∧Q σ H
def lg (t:TG) (u:dz):dz:=fun vs σ H Q=>∃ v r,vs=v :: r∧t v σ H fun σ' H'=>u r σ' H' Q
theorem Jd:mv X [] om:=by
 intro pins s σ H vs us Q I r h
 obtain ⟨e,h⟩:=h
 subst e
 cases r
 exact assignInOrder_nil ⟨σ,H,I,h⟩
theorem pE {e:Expr}{es:List Expr}{t:TG}{u:dz} (h1:PG X e t) (h2:mv X es u)
  (hs:(assignEach (e :: es) X.env).map (·.2)=assign e X.env :: (assignEach es X.env).map (·.2):=by rfl):mv X (e :: es) (lg t u):=by
 intro pins s σ H vs us Q I r h
 obtain ⟨v,vr,e1,h⟩:=h
 subst e1
 cases r with
 | cons r rr=>
  rw[hs]
  refine assignInOrder_cons (eZ (h1 pins s σ H _ _ _ I r h) fun _ s1 ⟨σ1,H1,I1,q1⟩=>?_)
  exact h2 pins s1 σ1 H1 _ _ Q I1 rr q1
def on (K:PySem.W.Frag) (n:Nat) (t:dz):TG:=fun v σ H Q=>∃ a xs,v = .ref a∧SqT K H a xs∧xs.length=n∧t xs σ H Q
theorem Ow {es:List Expr}{k:Nat}{t:dz}{n:Nat} (hc:X.calm=true) (h:mv X es t)
  (hn:(assignEach es X.env).length=n:=by rfl) (hst:(assignEach es X.env).findIdx? (·.1)=none:=by rfl):PG X (.Tuple es k pos) (on X.K n t):=by
 intro pins s σ H v u Q I r hw
 obtain ⟨a,xs,e1,hq,hl,hw⟩:=hw
 subst e1
 cases r
 obtain ⟨its,rv,ht,hz⟩:=I.tuple hq
 refine assign_Tuple_tuple (I.ok.hd hc) ht (by simp[hn,←hl,rv.length]) hst fun h' hx=>?_
 have I1:Inv X pins σ H { s with heap:=h' }:=I.kept (t':=s.toks) fun b o e=>hx b o (Nat.ne_of_lt (Heap.lt_size e)) e
 exact h pins _ σ H xs _ Q I1 (by simpa using rv) hw
def Sr (te:TE) (g:TG):TS:=fun D σ H=>te σ H fun x H1=>g x σ H1 D.nx
theorem aR {i:Nat}{x:Str}{e:Expr}{te:TE}{pos':Pos} (hN:X.N.Nodup) (hi:X.N[i]? = some x) (hx:mt X.env.scope x) (he:PE X e te) (hs:swapsWith e (some (.Name x pos')) pos.line X.env=pure false:=by rfl) (hf:X.fn x=true∨X.env.scope.names.lookup x=some .local:=by first | exact .inl rfl | exact .inr rfl | assumption) :
  PS X (.Assign [.Name x pos'] e pos) (Sr te (jC i)):=by
 intro pins s σ H D I h
 refine wpAny_Assign_Name (eZ (he pins s σ H _ I h) fun v s1 ⟨y,H1,I1,r1,q1⟩=>?_) hs
 exact Me I1 hN hi hx r1 (fun s2 I2=>⟨_,H1,I2,q1⟩) hf
end
section
variable {X:Cx}{pos:Pos}
def Xl (c:TT) (tb:TS):TS:=fun D σ H=>∃ W:Nat→St→Hp→Prop,(∃ m,W m σ H)∧∀ m σ H,W m σ H →
 c σ H fun b H1=>if b=true then ∃ N:St→Hp→Prop,(∀ σ' H',N σ' H'→∃ m',m'<m∧W m' σ' H')∧tb { D with nx:=N,ct:=N,bk:=D.nx } σ H1 else D.nx σ H1
theorem rQ {c:Expr}{body:List Stmt}{tc:TT}{tb:TS} (hp:PassesOwn (model X.prog X.w) X.A X.env X.xe) (hc:PT X c tc) (hb:PSs X body tb):PS X (.While c body [] pos) (Xl tc tb):=by
 intro pins s σ H D I h
 obtain ⟨W,⟨m0,w0⟩,turn⟩:=h
 refine wpAny_While (codeAny_whileLoop (fun n s'=>∃ σ' H',Inv X pins σ' H' s'∧W n σ' H') ?_ m0 ⟨σ,H,I,w0⟩)
 rintro n s1 ⟨σ1,H1,I1,w1⟩
 refine wpAny_passesOwn hp (eZ (hc pins s1 σ1 H1 _ I1 (turn n σ1 H1 w1)) fun b s2 ⟨H2,I2,q2⟩=>?_)
 cases b with
 | true=>
  obtain ⟨N,hN,q2⟩:=q2
  rw[if_pos rfl]
  refine wpAny_passesOwn hp (eZ (hb pins s2 σ1 H2 _ I2 q2) fun f s3 q3=>?_)
  cases f with
  | next=>
   obtain ⟨σ3,H3,I3,n3⟩:=q3
   obtain ⟨m',hm,w3⟩:=hN σ3 H3 n3
   exact ⟨m',hm,σ3,H3,I3,w3⟩
  | cont=>
   obtain ⟨σ3,H3,I3,n3⟩:=q3
   obtain ⟨m',hm,w3⟩:=hN σ3 H3 n3
   exact ⟨m',hm,σ3,H3,I3,w3⟩
  | brk=>exact q3
  | ret v=>exact q3
 | false=>
  rw[if_neg Bool.false_ne_true]
  exact wpAny_execs_nil ⟨σ1,H2,I2,q2⟩
end
structure It where
 go:Nat→Hp→Prop
 yld:Nat→Hp→V→Hp→Prop
 stop:Nat→Hp→Prop
def pZ (X:Cx) (pins:List (Addr×Obj)) (H:Hp) (b:Addr):Prop :=
 H b=none∧b≠X.env.locals∧b ∉ X.fs∧(b ∈ X.ex∨X.s_0.heap.objs.size≤b)∧(∀ x c,X.env.cells.lookup x=some c→c≠b)∧∀ p ∈ X.pn ++ pins,p.1≠b
theorem Inv.fpOk {X:Cx}{pins:List (Addr×Obj)}{σ:St}{H H':Hp}{s:Shared}{b:Addr} (I:Inv X pins σ H s) (hb:s.heap.objs.size≤b) (hn:H' b=none):pZ X pins H' b:=by
 refine ⟨hn,Nat.ne_of_gt (Nat.lt_of_lt_of_le I.lt hb),I.nofs hb,.inr (Nat.le_trans I.sz hb),fun x c e z=>?_,fun p hp z=>?_⟩
 ·obtain ⟨v,q⟩:=I.cell x c e
  exact absurd (Nat.lt_of_lt_of_le q.lt (by rw[z];exact hb)) (Nat.lt_irrefl _)
 ·exact absurd (Nat.lt_of_lt_of_le (Heap.lt_size (I.pin p hp).1) (by rw[z];exact hb)) (Nat.lt_irrefl _)
structure Ij (P:Program) (w:World) (K:PySem.W.Frag) (tg:Expr) (J:It) (fp:List Addr) (it:Addr) (tn:Nat→Heap→Prop):Prop where
 mem:it ∈ fp
 obj:∀ i h,tn i h→∀ b ∈ fp,∃ o,h.get? b=some o∧∀ v,o.data ≠ .cell v
 keep:∀ i h h',tn i h→(∀ b ∈ fp,∀ o,h.get? b=some o→h'.get? b=some o)→tn i h'
 item:∀ (X:Cx),X.prog=P→X.w=w→X.K=K→X.calm=true→∀ (i:Nat) (pins:List (Addr×Obj)) (s:Shared) (σ:St) (H:Hp) (E:Value→Shared→Prop),Inv X pins σ H s→(∀ b ∈ fp,pZ X pins H b)→tn i s.heap→J.go i H →
  wpAny (model P w) X.A (pyNext (.ref it)) (fun r s1=>∃ u,r=some u ∧
   wpAny (model P w) X.A (letOwnedTupleGo tg (.ref it) u) (fun _ s2=>∃ x H',Inv X pins σ H' s2∧RelV x u∧J.yld i H x H'∧tn (i + 1) s2.heap∧∀ b ∈ fp,H' b=none) E s1) E s
 done:∀ (X:Cx),X.prog=P→X.w=w→X.K=K→X.calm=true→∀ (i:Nat) (pins:List (Addr×Obj)) (s:Shared) (σ:St) (H:Hp) (E:Value→Shared→Prop),Inv X pins σ H s→(∀ b ∈ fp,pZ X pins H b)→tn i s.heap→J.stop i H →
  wpAny (model P w) X.A (pyNext (.ref it)) (fun r s1=>r=none∧Inv X pins σ H s1) E s
 self:∀ (A:Around) (i:Nat) (s:Shared) (Q:Value→Shared→Prop) (E:Value→Shared→Prop),tn i s.heap→Q (.ref it) s→wpAny (model P w) A (pyIter (.ref it)) Q E s
abbrev TI:=St→Hp→(It→Hp→Prop)→Prop
def nk (X:Cx) (pins:List (Addr×Obj)) (σ:St) (tg:Expr) (R:It→Hp→Prop) (itv:Value) (s2:Shared):Prop :=
 ∃ (it:Addr) (fp:List Addr) (tn:Nat→Heap→Prop) (J:It) (H':Hp),itv = .ref it∧Inv X pins σ H' s2∧Ij X.prog X.w X.K tg J fp it tn∧tn 0 s2.heap∧(∀ b ∈ fp,pZ X pins H' b)∧R J H'
def PI (X:Cx) (tg iter:Expr) (wi:TI):Prop :=
 ∀ (pins:List (Addr×Obj)) (s:Shared) (σ:St) (H:Hp) (R:It→Hp→Prop),Inv X pins σ H s→wi σ H R →
  wpAny (model X.prog X.w) X.A (eval iter X.env) (fun v s1=>wpAny (model X.prog X.w) X.A (pyIter v) (nk X pins σ tg R) X.xe s1) X.xe s
theorem Lo {M:Model}{A:Around}{E:Value→Shared→Prop}{s:Shared}{tg:Expr}{it:Addr}{u:Value}{o:Obj}{n:String}{vs:Array Value}{Q:Unit→Shared→Prop} (ho:s.heap.get? it=some o) (hc:o.cls = .type n) (hd:o.data = .fields vs)
    (hn:["enumerate","zip","dict_itemiterator","dict_reverseitemiterator","odict_iterator","itertools.zip_longest","itertools.pairwise"].contains n=false) (hQ:Q () s):wpAny M A (letOwnedTupleGo tg (.ref it) u) Q E s:=by
  unfold letOwnedTupleGo
  cases tg <;> first
    | exact wpAny_pure hQ
    | (cases u <;> first
        | exact wpAny_pure hQ
        | (refine wpAny_bind (wpAny_load ho ?_)
           rw[hc,hd]
           show wpAny M A (if (["enumerate","zip","dict_itemiterator","dict_reverseitemiterator","odict_iterator","itertools.zip_longest","itertools.pairwise"].contains n && vs[0]? == some (rawInt _))=true then _ else _) Q E s
           rw[if_neg (by intro h;rw[hn,Bool.false_and] at h;cases h)]
           exact wpAny_pure hQ))
def yX (K:PySem.W.Frag) (a:Addr):It :=
 ⟨fun i H=>∃ xs x,SqL K H a xs∧xs[i]? = some x,fun i H x H'=>H'=H∧∀ xs,SqL K H a xs→xs[i]? = some x,fun i H=>∃ xs,SqL K H a xs∧xs.length≤i⟩
def cw (K:PySem.W.Frag) (a:Addr):It :=
 ⟨fun i H=>∃ xs x,SqT K H a xs∧xs[i]? = some x,fun i H x H'=>H'=H∧∀ xs,SqT K H a xs→xs[i]? = some x,fun i H=>∃ xs,SqT K H a xs∧xs.length≤i⟩
def jm (lo:Int) (n:Nat):It:=⟨fun i _=>i<n,fun i H x H'=>H'=H∧x = .int (lo + i),fun i _=>n≤i⟩
theorem Us {P:Program}{w:World}{K:PySem.W.Frag}{tg:Expr} (a it:Addr):Ij P w K tg (yX K a) [it] it (fun i h=>h.IsListIter it a i) where
 mem:=by simp
 obj:=fun i h st b hb=>by
  have e:b=it:=by simpa using hb
  subst e
  obtain ⟨o,e,c,d⟩:=st
  exact ⟨o,e,fun v z=>by rw[d] at z;cases z⟩
 keep:=fun i h h' st k=>st.at fun o e=>k it (by simp) o e
 item:=by
  intro X hP hw hK hc i pins s σ H E I hf st hg
  subst hP hw hK
  obtain ⟨xs,x,hq,hx⟩:=hg
  obtain ⟨its,rv,p,hz⟩:=I.list hq
  obtain ⟨u,hu,ru⟩:=rv.get hx
  obtain ⟨f0,f1,f2,f3,f4,f5⟩:=hf it (by simp)
  refine wpAny_pyNext_list_item st p.isList (x:=u) (by simpa using hu) fun h' st' sb=>?_
  have I1:Inv X pins σ H { s with heap:=h' }:=I.turned (t':=s.toks) (fun b o hb e=>(sb.2 b hb).trans e) f0 f1 f3 f4 f5
  obtain ⟨o,e,c,d⟩:=id st'
  exact ⟨u,rfl,Lo (s:={ s with heap:=h' }) e c d (by decide) ⟨x,H,I1,ru,⟨rfl,fun ys hy=>by rw[I.list_inj hy hq];exact hx⟩,st',fun b hb=>(hf b hb).1⟩⟩
 done:=by
  intro X hP hw hK hc i pins s σ H E I hf st hg
  subst hP hw hK
  obtain ⟨xs,hq,hx⟩:=hg
  obtain ⟨its,rv,p,hz⟩:=I.list hq
  obtain ⟨f0,f1,f2,f3,f4,f5⟩:=hf it (by simp)
  have hl:=rv.length
  exact wpAny_pyNext_list_end (I.ok.hd hc) st p.isList (by simp;omega) fun h' eb=>⟨rfl,I.turned (t':=s.toks) (fun b o hb e=>eb b o hb e) f0 f1 f3 f4 f5⟩
 self:=fun _ _ _ _ _ st h=>wpAny_pyIter_listiter st h
theorem Qq {P:Program}{w:World}{K:PySem.W.Frag}{tg:Expr} (a it:Addr):Ij P w K tg (cw K a) [it] it (fun i h=>h.IsTupleIter it a i) where
 mem:=by simp
 obj:=fun i h st b hb=>by
  have e:b=it:=by simpa using hb
  subst e
  obtain ⟨o,e,c,d⟩:=st
  exact ⟨o,e,fun v z=>by rw[d] at z;cases z⟩
 keep:=fun i h h' st k=>st.at fun o e=>k it (by simp) o e
 item:=by
  intro X hP hw hK hc i pins s σ H E I hf st hg
  subst hP hw hK
  obtain ⟨xs,x,hq,hx⟩:=hg
  obtain ⟨its,rv,p,hz⟩:=I.tuple hq
  obtain ⟨u,hu,ru⟩:=rv.get hx
  obtain ⟨f0,f1,f2,f3,f4,f5⟩:=hf it (by simp)
  refine wpAny_pyNext_tuple_item st (show s.heap.IsTuple a its.toArray from p) (x:=u) (by simpa using hu) fun h' st' sb=>?_
  have I1:Inv X pins σ H { s with heap:=h' }:=I.turned (t':=s.toks) (fun b o hb e=>(sb.2 b hb).trans e) f0 f1 f3 f4 f5
  obtain ⟨o,e,c,d⟩:=id st'
  exact ⟨u,rfl,Lo (s:={ s with heap:=h' }) e c d (by decide) ⟨x,H,I1,ru,⟨rfl,fun ys hy=>by rw[I.tuple_inj hy hq];exact hx⟩,st',fun b hb=>(hf b hb).1⟩⟩
 done:=by
  intro X hP hw hK hc i pins s σ H E I hf st hg
  subst hP hw hK
  obtain ⟨xs,hq,hx⟩:=hg
  obtain ⟨its,rv,p,hz⟩:=I.tuple hq
  obtain ⟨f0,f1,f2,f3,f4,f5⟩:=hf it (by simp)
  have hl:=rv.length
  exact wpAny_pyNext_tuple_end (I.ok.hd hc) st (show s.heap.IsTuple a its.toArray from p) (by simp;omega) fun h' eb=>⟨rfl,I.turned (t':=s.toks) (fun b o hb e=>eb b o hb e) f0 f1 f3 f4 f5⟩
 self:=fun _ _ _ _ _ st h=>wpAny_pyIter_tupleiter st h
theorem Qu {P:Program}{w:World}{K:PySem.W.Frag}{tg:Expr} (it:Addr) (lo:Int) (n:Nat):Ij P w K tg (jm lo n) [it] it (fun i h=>IsRangeIter h it (lo + (i:Nat) * 1) ((n:Int) - (i:Nat)) 1) where
 mem:=by simp
 obj:=fun i h st b hb=>by
  have e:b=it:=by simpa using hb
  subst e
  exact ⟨_,st,fun v z=>by
   have z':Data.fields _=Data.cell v:=z
   cases z'⟩
 keep:=fun i h h' st k=>k it (by simp) _ st
 item:=by
  intro X hP hw hK hc i pins s σ H E I hf st hg
  subst hP hw hK
  obtain ⟨f0,f1,f2,f3,f4,f5⟩:=hf it (by simp)
  have W:=Walks.range (prog:=X.prog) (w:=X.w) (I.ok.hd hc) it lo 1 n
  refine W.item i s _ _ hg st fun v h' tk hv st' kk=>?_
  obtain ⟨t,rfl⟩:=hv
  have I1:Inv X pins σ H { s with heap:=h',toks:=tk }:=I.turned (fun b o hb e=>kk b o (by simpa using hb) e) f0 f1 f3 f4 f5
  refine ⟨_,rfl,Lo (s:={ s with heap:=h',toks:=tk }) (n:="range_iterator") st' rfl rfl (by decide) ⟨.int (lo + i),H,I1,⟨t,?_⟩,⟨rfl,rfl⟩,st',fun b hb=>(hf b hb).1⟩⟩
  rw[Int.mul_one]
 done:=by
  intro X hP hw hK hc i pins s σ H E I hf st hg
  subst hP hw hK
  obtain ⟨f0,f1,f2,f3,f4,f5⟩:=hf it (by simp)
  exact wpAny_pyNext_range_end (I.ok.hd hc) st (by have:n≤i:=hg;omega) fun h' eb=>⟨rfl,I.turned (t':=s.toks) (fun b o hb e=>eb b o hb e) f0 f1 f3 f4 f5⟩
 self:=fun _ _ _ _ _ st h=>wpAny_pyIter_rangeiter st h
end L2
namespace L2
open PySem PySem.Spec PyProof.Rows
section
variable {X:Cx}{tg:Expr}
def wB (K:PySem.W.Frag) (tl:TE):TI:=fun σ H R=>tl σ H fun x H1=>∃ a,x = .ref a∧(∃ xs,SqL K H1 a xs)∧R (yX K a) H1
def kg (K:PySem.W.Frag) (tl:TE):TI:=fun σ H R=>tl σ H fun x H1=>∃ a,x = .ref a∧(∃ xs,SqT K H1 a xs)∧R (cw K a) H1
theorem cH {l:Expr}{tl:TE} (hl:PE X l tl):PI X tg l (wB X.K tl):=by
 intro pins s σ H R I h
 refine eZ (hl pins s σ H _ I h) fun v s1 ⟨x,H1,I1,r1,q1⟩=>?_
 obtain ⟨a,e,⟨xs,hq⟩,q⟩:=q1
 subst e
 cases r1
 obtain ⟨its,rv,p,hz⟩:=I1.list hq
 refine wpAny_pyIter_list p.isList ?_
 refine ⟨s1.heap.objs.size,[s1.heap.objs.size],_,_,H1,rfl,I1.kept (t':=s1.toks) fun b o e=>Heap.get?_push_of_some _ e,Us a _,⟨_,Heap.get?_push_size _ rfl,rfl,rfl⟩,fun b hb=>?_,q⟩
 have e:b=s1.heap.objs.size:=by simpa using hb
 subst e
 exact I1.fpOk (Nat.le_refl _) (I1.hok.fresh (Nat.le_refl _))
theorem gw {l:Expr}{tl:TE} (hl:PE X l tl):PI X tg l (kg X.K tl):=by
 intro pins s σ H R I h
 refine eZ (hl pins s σ H _ I h) fun v s1 ⟨x,H1,I1,r1,q1⟩=>?_
 obtain ⟨a,e,⟨xs,hq⟩,q⟩:=q1
 subst e
 cases r1
 obtain ⟨its,rv,p,hz⟩:=I1.tuple hq
 refine wpAny_pyIter_tuple (show s1.heap.IsTuple a its.toArray from p) ?_
 refine ⟨s1.heap.objs.size,[s1.heap.objs.size],_,_,H1,rfl,I1.kept (t':=s1.toks) fun b o e=>Heap.get?_push_of_some _ e,Qq a _,⟨_,Heap.get?_push_size _ rfl,rfl,rfl⟩,fun b hb=>?_,q⟩
 have e:b=s1.heap.objs.size:=by simpa using hb
 subst e
 exact I1.fpOk (Nat.le_refl _) (I1.hok.fresh (Nat.le_refl _))
theorem Yf {pins:List (Addr×Obj)}{σ:St}{H:Hp}{s:Shared}{R:It→Hp→Prop}{E:Value→Shared→Prop}{lo hi:Int}{t u v:Tok}{tk:Nat} (I:Inv X pins σ H s) (h1 : -(2 ^ 62)≤lo) (h2:lo<2 ^ 62) (h3 : -(2 ^ 62)≤hi) (h4:hi<2 ^ 62)
  (q:R (jm lo (hi - lo).toNat) H):wpAny (model X.prog X.w) X.A (pyIter (.ref s.heap.objs.size)) (nk X pins σ tg R) E { s with heap:=s.heap.push { cls:=.type "range",data:=.fields #[.int lo t,.int hi u,.int 1 v] },toks:=tk }:=by
 refine wpAny_pyIter_range (IsRange.new ..) (small_one h1 h2 h3 h4) ?_
 have I1:Inv X pins σ H { s with heap:=s.heap.push { cls:=.type "range",data:=.fields #[.int lo t,.int hi u,.int 1 v] },toks:=tk }:=I.kept fun b o e=>Heap.get?_push_of_some _ e
 refine ⟨(s.heap.push { cls:=.type "range",data:=.fields #[.int lo t,.int hi u,.int 1 v] }).objs.size,[(s.heap.push { cls:=.type "range",data:=.fields #[.int lo t,.int hi u,.int 1 v] }).objs.size],_,_,H,rfl,
  I1.kept (t':=tk) fun b o e=>Heap.get?_push_of_some _ e,Qu _ lo (hi - lo).toNat,?_,fun b hb=>?_,q⟩
 ·have e1:lo + ((0:Nat):Int) * 1=lo:=by simp
  have e2:(((hi - lo).toNat:Nat):Int) - ((0:Nat):Int)=Builtin.Range.rangeSize lo hi 1:=by rw[rangeSize_one];split <;> omega
  show IsRangeIter _ _ (lo + ((0:Nat):Int) * 1) ((((hi - lo).toNat:Nat):Int) - ((0:Nat):Int)) 1
  rw[e1,e2]
  exact Heap.get?_push_size _ rfl
 ·have e:b=(s.heap.push { cls:=.type "range",data:=.fields #[.int lo t,.int hi u,.int 1 v] }).objs.size:=by simpa using hb
  subst e
  exact I1.fpOk (Nat.le_refl _) (I1.hok.fresh (Nat.le_refl _))
def kn (ta:TA):TI:=fun σ H R=>ta σ H fun vs H1=>∃ j:Int,vs=[.int j] ∧ -(2 ^ 62)≤j∧j<2 ^ 62∧R (jm 0 j.toNat) H1
theorem Te {a:Expr}{ta:TA}{p pos:Pos} (hg:Gl X "range") (hm:X.mg "range" = none) (ha:PA X [a] ta) (hs:starEach [a] X.env=[(false,eval a X.env)]:=by rfl):PI X tg (.Call (.Name "range" p) [a] [] pos) (kn ta):=by
 intro pins s σ H R I h
 refine Call_ (xM I hg hm boot_range (PyProof.Rows.callWith_type1 (eZ (ha pos pins s σ H _ I h) fun us s1 ⟨vs,H1,I1,r1,q1⟩=>?_) hs rfl))
 obtain ⟨j,e,q1,q2,q⟩:=q1
 subst e
 cases r1 with
 | cons r rr=>
  cases rr
  obtain ⟨t,rfl⟩:=r
  exact call_range_1 (Yf I1 (by omega) (by omega) q1 q2 (by simpa using q))
def Fi (wi:TI) (g:TG) (tb:TS):TS:=fun D σ H=>wi σ H fun J H1=>∃ W:Nat→Nat→St→Hp→Prop,(∃ m,W 0 m σ H1)∧∀ i m σ H,W i m σ H →
 (J.stop i H∧D.nx σ H)∨(J.go i H∧∃ N:St→Hp→Prop,(∀ σ' H',N σ' H'→∃ m',m'<m∧W (i + 1) m' σ' H')∧∀ x H',J.yld i H x H'→g x σ H' fun σ2 H2=>tb { D with nx:=N,ct:=N,bk:=D.nx } σ2 H2)
def Bz (fp:List Addr) (h:Heap):List (Addr×Obj):=fp.filterMap fun b=>(h.get? b).map fun o=>(b,o)
theorem mD {fp:List Addr}{h:Heap}{b:Addr}{o:Obj} (hb:b ∈ fp) (e:h.get? b=some o):(b,o) ∈ Bz fp h:=List.mem_filterMap.mpr ⟨b,hb,by rw[e];rfl⟩
theorem Tx {fp:List Addr}{h:Heap}{p:Addr×Obj} (hp:p ∈ Bz fp h):p.1 ∈ fp∧h.get? p.1=some p.2:=by
 obtain ⟨b,hb,e⟩:=List.mem_filterMap.mp hp
 cases q:h.get? b with
 | none=>rw[q] at e;cases e
 | some o=>
  rw[q] at e
  have e':(b,o)=p:=Option.some.inj e
  subst e'
  exact ⟨hb,q⟩
theorem Inv.pinned {pins:List (Addr×Obj)}{σ:St}{H:Hp}{s:Shared}{fp:List Addr} (I:Inv X pins σ H s) (hf:∀ b ∈ fp,pZ X pins H b) (ho:∀ b ∈ fp,∃ o,s.heap.get? b=some o∧∀ v,o.data ≠ .cell v):Inv X (pins ++ Bz fp s.heap) σ H s :=
 I.pins_of fun p hp=>(List.mem_append.mp hp).elim (fun z=>I.pin p (List.mem_append_right _ z)) fun z=>by
  obtain ⟨hb,e⟩:=Tx z
  obtain ⟨f0,f1,f2,_⟩:=hf p.1 hb
  obtain ⟨o,e',d⟩:=ho p.1 hb
  rw[e] at e';cases e'
  exact ⟨e,f0,f1,f2,d⟩
theorem Inv.unpinned {pins pl:List (Addr×Obj)}{σ:St}{H:Hp}{s:Shared} (I:Inv X (pins ++ pl) σ H s):Inv X pins σ H s:=I.pins_of fun p hp=>I.pin p (List.mem_append_right _ (List.mem_append_left _ hp))
theorem eK {iter:Expr}{body:List Stmt}{wi:TI}{g:TG}{tb:TS}{pos:Pos} (hp:PassesOwn (model X.prog X.w) X.A X.env X.xe) (hc:X.calm=true) (hi:PI X tg iter wi) (hg:PG X tg g) (hb:PSs X body tb)
  (hs:∀ x,foldedSetIterable iter X.env x=pure x:=by intro _;rfl):PS X (.For tg iter body [] pos) (Fi wi g tb):=by
 intro pins s σ H D I h
 refine wpAny_For (eZ (hi pins s σ H _ I h) fun v s1 h1=>eZ h1 fun itv s2 h2=>?_) hs
 obtain ⟨it,fp,tn,J,H2,e,I2,T,st2,f2,W,⟨m0,w0⟩,turn⟩:=h2
 subst e
 have stat:∀ {H':Hp},(∀ b ∈ fp,H' b=none)→∀ b ∈ fp,pZ X pins H' b:=fun hn b hb=>⟨hn b hb,(f2 b hb).2⟩
 refine codeAny_forLoop_any (fun n s'=>∃ i σ' H',Inv X pins σ' H' s'∧tn i s'.heap∧(∀ b ∈ fp,H' b=none)∧W i n σ' H') ?_ m0 ⟨0,σ,H2,I2,st2,fun b hb=>(f2 b hb).1,w0⟩
 rintro n s3 ⟨i,σ3,H3,I3,st3,fr3,w3⟩
 rcases turn i n σ3 H3 w3 with ⟨stop,qn⟩ | ⟨go,N,hN,step⟩
 ·refine wpAny_passesOwn hp (eZ (T.done X rfl rfl rfl hc i pins s3 σ3 H3 X.xe I3 (stat fr3) st3 stop) fun r s4 ⟨hr,I4⟩=>?_)
  subst hr
  exact wpAny_execs_nil ⟨σ3,H3,I4,qn⟩
 ·refine wpAny_passesOwn hp (eZ (T.item X rfl rfl rfl hc i pins s3 σ3 H3 X.xe I3 (stat fr3) st3 go) fun r s4 ⟨u,hr,h4⟩=>?_)
  subst hr
  refine wpAny_passesOwn hp (eZ h4 fun _ s5 ⟨x,H5,I5,r5,y5,st5,fr5⟩=>?_)
  have I5':=I5.pinned (stat fr5) (T.obj _ _ st5)
  refine wpAny_passesOwn hp (eZ (hg _ s5 σ3 H5 x u _ I5' r5 (step x H5 y5)) fun _ s6 ⟨σ6,H6,I6,q6⟩=>?_)
  refine wpAny_passesOwn hp (eZ (hb _ s6 σ6 H6 _ I6 q6) fun f s7 q7=>?_)
  have again:∀ {σ7:St}{H7:Hp},Inv X (pins ++ Bz fp s5.heap) σ7 H7 s7→N σ7 H7→∃ m,m<n∧∃ i σ' H',Inv X pins σ' H' s7∧tn i s7.heap∧(∀ b ∈ fp,H' b=none)∧W i m σ' H':=fun {σ7 H7} I7 n7=>by
   obtain ⟨m',hm,w7⟩:=hN σ7 H7 n7
   refine ⟨m',hm,i + 1,σ7,H7,I7.unpinned,T.keep _ _ _ st5 fun b hb o e=>(I7.pin (b,o) (List.mem_append_right _ (List.mem_append_right _ (mD hb e)))).1,fun b hb=>?_,w7⟩
   obtain ⟨o,e,d⟩:=T.obj _ _ st5 b hb
   exact (I7.pin (b,o) (List.mem_append_right _ (List.mem_append_right _ (mD hb e)))).2.1
  cases f with
  | next=>obtain ⟨σ7,H7,I7,n7⟩:=q7;exact again I7 n7
  | cont=>obtain ⟨σ7,H7,I7,n7⟩:=q7;exact again I7 n7
  | brk=>obtain ⟨σ7,H7,I7,q7⟩:=q7;exact ⟨σ7,H7,I7.unpinned,q7⟩
  | ret v=>obtain ⟨x7,σ7,H7,I7,r7,q7⟩:=q7;exact ⟨x7,σ7,H7,I7.unpinned,r7,q7⟩
end
theorem Co {K:PySem.W.Frag}{a:Addr}{xs:List V}{g:TG}{tb:TS}{D:jB}{σ:St}{H:Hp} (Pv:Nat→St→Hp→Prop) (h0:Pv 0 σ H) (hl:∀ i σ H,i≤xs.length→Pv i σ H→SqL K H a xs)
  (hs:∀ i x σ H,xs[i]? = some x→Pv i σ H→g x σ H fun σ2 H2=>tb { D with nx:=Pv (i + 1),ct:=Pv (i + 1),bk:=D.nx } σ2 H2) (hd:∀ σ H,Pv xs.length σ H→D.nx σ H) :
  ∃ W:Nat→Nat→St→Hp→Prop,(∃ m,W 0 m σ H)∧∀ i m σ H,W i m σ H →
   ((yX K a).stop i H∧D.nx σ H)∨((yX K a).go i H∧∃ N:St→Hp→Prop,(∀ σ' H',N σ' H'→∃ m',m'<m∧W (i + 1) m' σ' H')∧∀ x H',(yX K a).yld i H x H'→g x σ H' fun σ2 H2=>tb { D with nx:=N,ct:=N,bk:=D.nx } σ2 H2):=by
 refine ⟨fun i m σ H=>m=xs.length - i∧i≤xs.length∧Pv i σ H,⟨xs.length,by simp,Nat.zero_le _,h0⟩,?_⟩
 rintro i m σ H ⟨rfl,hi,p⟩
 have q:=hl i σ H hi p
 by_cases hlt:i<xs.length
 ·refine .inr ⟨⟨xs,xs[i],q,by simp[hlt]⟩,Pv (i + 1),fun σ' H' p'=>⟨xs.length - (i + 1),by omega,rfl,hlt,p'⟩,fun x H' y=>?_⟩
  obtain ⟨e,y⟩:=y
  subst e
  exact hs i x σ _ (y xs q) p
 ·have e:i=xs.length:=by omega
  subst e
  exact .inl ⟨⟨xs,q,Nat.le_refl _⟩,hd σ H p⟩
theorem bn {K:PySem.W.Frag}{a:Addr}{xs:List V}{g:TG}{tb:TS}{D:jB}{σ:St}{H:Hp} (Pv:Nat→St→Hp→Prop) (h0:Pv 0 σ H) (hl:∀ i σ H,i≤xs.length→Pv i σ H→SqT K H a xs)
  (hs:∀ i x σ H,xs[i]? = some x→Pv i σ H→g x σ H fun σ2 H2=>tb { D with nx:=Pv (i + 1),ct:=Pv (i + 1),bk:=D.nx } σ2 H2) (hd:∀ σ H,Pv xs.length σ H→D.nx σ H) :
  ∃ W:Nat→Nat→St→Hp→Prop,(∃ m,W 0 m σ H)∧∀ i m σ H,W i m σ H →
   ((cw K a).stop i H∧D.nx σ H)∨((cw K a).go i H∧∃ N:St→Hp→Prop,(∀ σ' H',N σ' H'→∃ m',m'<m∧W (i + 1) m' σ' H')∧∀ x H',(cw K a).yld i H x H'→g x σ H' fun σ2 H2=>tb { D with nx:=N,ct:=N,bk:=D.nx } σ2 H2):=by
 refine ⟨fun i m σ H=>m=xs.length - i∧i≤xs.length∧Pv i σ H,⟨xs.length,by simp,Nat.zero_le _,h0⟩,?_⟩
 rintro i m σ H ⟨rfl,hi,p⟩
 have q:=hl i σ H hi p
 by_cases hlt:i<xs.length
 ·refine .inr ⟨⟨xs,xs[i],q,by simp[hlt]⟩,Pv (i + 1),fun σ' H' p'=>⟨xs.length - (i + 1),by omega,rfl,hlt,p'⟩,fun x H' y=>?_⟩
  obtain ⟨e,y⟩:=y
  subst e
  exact hs i x σ _ (y xs q) p
 ·have e:i=xs.length:=by omega
  subst e
  exact .inl ⟨⟨xs,q,Nat.le_refl _⟩,hd σ H p⟩
theorem Vg {lo:Int}{n:Nat}{g:TG}{tb:TS}{D:jB}{σ:St}{H:Hp} (Pv:Nat→St→Hp→Prop) (h0:Pv 0 σ H)
  (hs:∀ i σ H,i<n→Pv i σ H→g (.int (lo + i)) σ H fun σ2 H2=>tb { D with nx:=Pv (i + 1),ct:=Pv (i + 1),bk:=D.nx } σ2 H2) (hd:∀ σ H,Pv n σ H→D.nx σ H) :
  ∃ W:Nat→Nat→St→Hp→Prop,(∃ m,W 0 m σ H)∧∀ i m σ H,W i m σ H →
   ((jm lo n).stop i H∧D.nx σ H)∨((jm lo n).go i H∧∃ N:St→Hp→Prop,(∀ σ' H',N σ' H'→∃ m',m'<m∧W (i + 1) m' σ' H')∧∀ x H',(jm lo n).yld i H x H'→g x σ H' fun σ2 H2=>tb { D with nx:=N,ct:=N,bk:=D.nx } σ2 H2):=by
 refine ⟨fun i m σ H=>m=n - i∧i≤n∧Pv i σ H,⟨n,by simp,Nat.zero_le _,h0⟩,?_⟩
 rintro i m σ H ⟨rfl,hi,p⟩
 by_cases hlt:i<n
 ·refine .inr ⟨hlt,Pv (i + 1),fun σ' H' p'=>⟨n - (i + 1),by omega,rfl,hlt,p'⟩,fun x H' y=>?_⟩
  obtain ⟨e,y⟩:=y
  subst e y
  exact hs i σ _ hlt p
 ·have e:i=n:=by omega
  subst e
  exact .inl ⟨Nat.le_refl _,hd σ H p⟩
end L2
namespace L2
open PySem PySem.Spec PyProof.Rows
abbrev R2:=V→V→Hp→VK→Prop
def zW (X:Cx) (f:Value→Value→Sem Value) (r:R2):Prop :=
 ∀ (pins:List (Addr×Obj)) (s:Shared) (σ:St) (H:Hp) (x y:V) (v u:Value) (Q:VK),Inv X pins σ H s→RelV x v→RelV y u→r x y H Q →
  wpAny (model X.prog X.w) X.A (f v u) (EP X pins σ Q) X.xe s
def oe (X:Cx) (f:Value→Sem Value) (r:V→Hp→VK→Prop):Prop :=
 ∀ (pins:List (Addr×Obj)) (s:Shared) (σ:St) (H:Hp) (x:V) (v:Value) (Q:VK),Inv X pins σ H s→RelV x v→r x H Q →
  wpAny (model X.prog X.w) X.A (f v) (EP X pins σ Q) X.xe s
def uN (X:Cx) (f:Value) (r:List V→Hp→VK→Prop):Prop :=
 ∀ (pins:List (Addr×Obj)) (s:Shared) (σ:St) (H:Hp) (xs:List V) (us:List Value) (Q:VK),Inv X pins σ H s→Vals xs us→r xs H Q →
  wpAny (model X.prog X.w) X.A (call f us) (EP X pins σ Q) X.xe s
def Fh (r:R2) (ta tb:TE):TE:=fun σ H Q=>ta σ H fun x H1=>tb σ H1 fun y H2=>r x y H2 Q
def np (r:V→Hp→VK→Prop) (ta:TE):TE:=fun σ H Q=>ta σ H fun x H1=>r x H1 Q
def rI (C:Int→Int→Prop) (g:Int→Int→V):R2:=fun x y H Q=>∃ i j,x = .int i∧y = .int j∧C i j∧Q (g i j) H
def Sn (g:Int→Int→V):R2:=fun x y H Q=>∃ i j,x = .int i∧y = .int j∧Q (g i j) H
def rU (g:Int→V):V→Hp→VK→Prop:=fun x H Q=>∃ i,x = .int i∧Q (g i) H
section
variable {X:Cx}{a b c:Expr}{ta tb tc:TE}{pos:Pos}
theorem em (ha:PE X a ta) (hb:PE X b tb) {pins:List (Addr×Obj)}{s:Shared}{σ:St}{H:Hp}{R:V→V→Hp→Prop} (I:Inv X pins σ H s)
  (h:ta σ H fun x H1=>tb σ H1 fun y H2=>R x y H2) {Q:Value→Shared→Prop}{f:Value→Value→Sem Value}
  (hf:∀ v u s2 x y H2,Inv X pins σ H2 s2→RelV x v→RelV y u→R x y H2→wpAny (model X.prog X.w) X.A (f v u) Q X.xe s2) :
  wpAny (model X.prog X.w) X.A (eval a X.env) (fun v s₁=>wpAny (model X.prog X.w) X.A (eval b X.env) (fun u s₂=>wpAny (model X.prog X.w) X.A (f v u) Q X.xe s₂) X.xe s₁) X.xe s:=by
 refine eZ (ha pins s σ H _ I h) fun v s1 ⟨x,H1,I1,r1,q1⟩=>?_
 refine eZ (hb pins s1 σ H1 _ I1 q1) fun u s2 ⟨y,H2,I2,r2,q2⟩=>?_
 exact hf v u s2 x y H2 I2 r1 r2 q2
theorem cO {op:Operator}{r:R2} (ho:zW X (binaryOp op) r) (ha:PE X a ta) (hb:PE X b tb):PE X (.BinOp a op b pos) (Fh r ta tb):=by
 intro pins s σ H Q I h
 exact wpAny_BinOp (em ha hb I h fun v u s2 x y H2 I2 rx ry q=>ho pins s2 σ H2 x y v u Q I2 rx ry q)
theorem Wb {op:UnaryOp}{r:V→Hp→VK→Prop} (ho:oe X (unaryOp op) r) (ha:PE X a ta):PE X (.UnaryOp op a pos) (np r ta):=by
 intro pins s σ H Q I h
 exact UnaryOp_ (eZ (ha pins s σ H _ I h) fun v s1 ⟨x,H1,I1,r1,q1⟩=>ho pins s1 σ H1 x v Q I1 r1 q1)
theorem mz {f:Value→Value→Sem Value}{C:Int→Int→Prop}{g:Int→Int→Int}
  (rule:∀ (i j:Int) (t u:Tok) (s:Shared) (Q:Value→Shared→Prop) (E:Value→Shared→Prop),C i j→Q (.int (g i j) s.toks) { s with toks:=s.toks + 1 }→wpAny (model X.prog X.w) X.A (f (.int i t) (.int j u)) Q E s) :
  zW X f (rI C fun i j=>.int (g i j)):=by
 intro pins s σ H x y v u Q I rx ry h
 obtain ⟨i,j,rfl,rfl,hc,q⟩:=h
 obtain ⟨t,rfl⟩:=rx
 obtain ⟨t',rfl⟩:=ry
 exact rule i j t t' s _ _ hc ⟨.int (g i j),H,I.tok _,⟨_,rfl⟩,q⟩
theorem jv {f:Value→Value→Sem Value}{g:Int→Int→Int}
  (rule:∀ (i j:Int) (t u:Tok) (s:Shared) (Q:Value→Shared→Prop) (E:Value→Shared→Prop),Q (.int (g i j) s.toks) { s with toks:=s.toks + 1 }→wpAny (model X.prog X.w) X.A (f (.int i t) (.int j u)) Q E s) :
  zW X f (Sn fun i j=>.int (g i j)):=by
 intro pins s σ H x y v u Q I rx ry h
 obtain ⟨i,j,rfl,rfl,q⟩:=h
 obtain ⟨t,rfl⟩:=rx
 obtain ⟨t',rfl⟩:=ry
 exact rule i j t t' s _ _ ⟨.int (g i j),H,I.tok _,⟨_,rfl⟩,q⟩
theorem Zo {f:Value→Value→Sem Value}{g:Int→Int→Bool}
  (rule:∀ (i j:Int) (t u:Tok) (s:Shared) (Q:Value→Shared→Prop) (E:Value→Shared→Prop),Q (.bool (g i j)) s→wpAny (model X.prog X.w) X.A (f (.int i t) (.int j u)) Q E s) :
  zW X f (Sn fun i j=>.bl (g i j)):=by
 intro pins s σ H x y v u Q I rx ry h
 obtain ⟨i,j,rfl,rfl,q⟩:=h
 obtain ⟨t,rfl⟩:=rx
 obtain ⟨t',rfl⟩:=ry
 exact rule i j t t' s _ _ ⟨.bl (g i j),H,I,rfl,q⟩
def pd (i j:Int):Prop:=0<j∧j<1073741824
def CMul (i j:Int):Prop:=(-(2 ^ 64)<i∧i<2 ^ 64)∨(-(2 ^ 64)<j∧j<2 ^ 64)
theorem CMul.ok {i j:Int} (h:CMul i j):IntMulOk i j:=by
 rcases h with ⟨h1,h2⟩ | ⟨h1,h2⟩
 ·exact .of_left (intBits_le_64 h1 h2)
 ·exact .of_right (intBits_le_64 h1 h2)
theorem eR:zW X (binaryOp .Add) (Sn fun i j=>.int (i + j)):=jv fun _ _ _ _ _ _ _ q=>add_int q
theorem rH:zW X (binaryOp .Sub) (Sn fun i j=>.int (i - j)):=jv fun _ _ _ _ _ _ _ q=>sub_int q
theorem vD:zW X (binaryOp .Mult) (rI CMul fun i j=>.int (i * j)):=mz fun _ _ _ _ _ _ _ hc q=>mul_int q hc.ok
theorem Sf:zW X (binaryOp .FloorDiv) (rI pd fun i j=>.int (i / j)):=mz fun i j _ _ _ _ _ hc q=>by
 have h1:(0:Int)<j:=hc.1
 have h2:j<1073741824:=hc.2
 exact floordiv_int (by omega) (by rw[Int.fdiv_eq_ediv_of_nonneg i (by omega)];exact q) (.inl (PyProof.noPylong_small (by omega)))
theorem Il:zW X (binaryOp .Mod) (rI (fun _ j=>0<j) fun i j=>.int (i % j)):=mz fun i j _ _ _ _ _ hc q=>by
 have h1:(0:Int)<j:=hc
 exact mod_int' (by omega) (by rw[Int.fmod_eq_emod_of_nonneg i (by omega)];exact q)
theorem qi {f:Value→Sem Value}{g:Int→Int}
  (rule:∀ (i:Int) (t:Tok) (s:Shared) (Q:Value→Shared→Prop) (E:Value→Shared→Prop),Q (.int (g i) s.toks) { s with toks:=s.toks + 1 }→wpAny (model X.prog X.w) X.A (f (.int i t)) Q E s) :
  oe X f (rU fun i=>.int (g i)):=by
 intro pins s σ H x v Q I rx h
 obtain ⟨i,rfl,q⟩:=h
 obtain ⟨t,rfl⟩:=rx
 exact rule i t s _ _ ⟨.int (g i),H,I.tok _,⟨_,rfl⟩,q⟩
theorem Ou:oe X (unaryOp .USub) (rU fun i=>.int (-i)):=qi fun _ _ _ _ _ q=>neg_int q
end
def Zr:V→V→Bool
 | .non,.non=>true | .non,.int _=>true | .int _,.non=>true | .non,.bl _=>true | .bl _,.non=>true | .non,.str _=>true | .str _,.non=>true
 | .int _,.int _=>true | .bl _,.bl _=>true | .str _,.str _=>true | .byt _,.byt _=>true
 | .int _,.str _=>true | .str _,.int _=>true | .bl _,.str _=>true | .str _,.bl _=>true
 | _,_=>false
def mq:R2:=fun x y H Q=>Zr x y=true∧Q (.bl (decide (x=y))) H
def qd:R2:=fun x y H Q=>Zr x y=true∧Q (.bl (!decide (x=y))) H
theorem Rv {i j:Int}:decide (V.int i=V.int j)=(i == j):=by
 rw[Bool.eq_iff_iff]
 simp
theorem Xf {i j:Bool}:decide (V.bl i=V.bl j)=(i == j):=by
 rw[Bool.eq_iff_iff]
 simp
theorem Rs {i j:Str}:decide (V.str i=V.str j)=(i == j):=by
 rw[Bool.eq_iff_iff]
 simp
theorem Sb {i j:Array UInt8}:decide (V.byt i=V.byt j)=(i.toList == j.toList):=by
 rw[Bool.eq_iff_iff]
 cases i
 cases j
 simp
section
variable {X:Cx}{a b c:Expr}{ta tb tc:TE}{pos:Pos}
theorem dR {pins:List (Addr×Obj)}{σ:St}{H:Hp}{s:Shared}{Q:VK}{k k':Bool} (I:Inv X pins σ H s) (q:Q (.bl k) H) (e:k=k'):EP X pins σ Q (.bool k') s:=by
 subst e
 exact ⟨.bl k,H,I,rfl,q⟩
theorem fW:zW X (compareOp .Eq) mq:=by
 intro pins s σ H x y v u Q I rx ry h
 obtain ⟨hs,q⟩:=h
 cases x with
 | non=>
  cases rx
  cases y with
  | non=>cases ry;exact PySem.EqNone.eq_none_none (dR I q (by simp))
  | bl j=>cases ry;exact PySem.EqNone.eq_none_bool (dR I q (by simp))
  | int j=>obtain ⟨t',rfl⟩:=ry;exact PySem.EqNone.eq_none_int (dR I q (by simp))
  | str j=>obtain ⟨t',rfl⟩:=ry;exact PySem.EqNone.eq_none_str (dR I q (by simp))
  | _=>exact absurd (show false=true from hs) Bool.false_ne_true
 | bl i=>
  cases rx
  cases y with
  | non=>cases ry;exact PySem.EqNone.eq_bool_none (dR I q (by simp))
  | bl j=>cases ry;exact eq_bool (dR I q Xf)
  | str j=>obtain ⟨t',rfl⟩:=ry;exact PySem.EqMixed.eq_bool_str (dR I q (by simp))
  | _=>exact absurd (show false=true from hs) Bool.false_ne_true
 | int i=>
  obtain ⟨t,rfl⟩:=rx
  cases y with
  | non=>cases ry;exact PySem.EqNone.eq_int_none (dR I q (by simp))
  | int j=>obtain ⟨t',rfl⟩:=ry;exact eq_int (dR I q Rv)
  | str j=>obtain ⟨t',rfl⟩:=ry;exact PySem.EqMixed.eq_int_str (dR I q (by simp))
  | _=>exact absurd (show false=true from hs) Bool.false_ne_true
 | str i=>
  obtain ⟨t,rfl⟩:=rx
  cases y with
  | non=>cases ry;exact PySem.EqNone.eq_str_none (dR I q (by simp))
  | bl j=>cases ry;exact PySem.EqMixed.eq_str_bool (dR I q (by simp))
  | int j=>obtain ⟨t',rfl⟩:=ry;exact PySem.EqMixed.eq_str_int (dR I q (by simp))
  | str j=>obtain ⟨t',rfl⟩:=ry;exact eq_str (dR I q Rs)
  | _=>exact absurd (show false=true from hs) Bool.false_ne_true
 | byt i=>
  obtain ⟨t,rfl⟩:=rx
  cases y with
  | byt j=>obtain ⟨t',rfl⟩:=ry;exact PySem.W.eq_bytes (dR I q Sb)
  | _=>exact absurd (show false=true from hs) Bool.false_ne_true
 | _=>cases y <;> exact absurd (show false=true from hs) Bool.false_ne_true
theorem Br:zW X (compareOp .NotEq) qd:=by
 intro pins s σ H x y v u Q I rx ry h
 obtain ⟨hs,q⟩:=h
 cases x with
 | non=>
  cases rx
  cases y with
  | non=>cases ry;exact PySem.EqNone.ne_none_none (dR I q (by simp))
  | bl j=>cases ry;exact PySem.EqNone.ne_none_bool (dR I q (by simp))
  | int j=>obtain ⟨t',rfl⟩:=ry;exact PySem.EqNone.ne_none_int (dR I q (by simp))
  | str j=>obtain ⟨t',rfl⟩:=ry;exact PySem.EqNone.ne_none_str (dR I q (by simp))
  | _=>exact absurd (show false=true from hs) Bool.false_ne_true
 | bl i=>
  cases rx
  cases y with
  | non=>cases ry;exact PySem.EqNone.ne_bool_none (dR I q (by simp))
  | bl j=>cases ry;exact ne_bool (dR I q (congrArg not Xf))
  | str j=>obtain ⟨t',rfl⟩:=ry;exact PySem.EqMixed.ne_bool_str (dR I q (by simp))
  | _=>exact absurd (show false=true from hs) Bool.false_ne_true
 | int i=>
  obtain ⟨t,rfl⟩:=rx
  cases y with
  | non=>cases ry;exact PySem.EqNone.ne_int_none (dR I q (by simp))
  | int j=>obtain ⟨t',rfl⟩:=ry;exact ne_int (dR I q (congrArg not Rv))
  | str j=>obtain ⟨t',rfl⟩:=ry;exact PySem.EqMixed.ne_int_str (dR I q (by simp))
  | _=>exact absurd (show false=true from hs) Bool.false_ne_true
 | str i=>
  obtain ⟨t,rfl⟩:=rx
  cases y with
  | non=>cases ry;exact PySem.EqNone.ne_str_none (dR I q (by simp))
  | bl j=>cases ry;exact PySem.EqMixed.ne_str_bool (dR I q (by simp))
  | int j=>obtain ⟨t',rfl⟩:=ry;exact PySem.EqMixed.ne_str_int (dR I q (by simp))
  | str j=>obtain ⟨t',rfl⟩:=ry;exact ne_str (dR I q (congrArg not Rs))
  | _=>exact absurd (show false=true from hs) Bool.false_ne_true
 | byt i=>
  obtain ⟨t,rfl⟩:=rx
  cases y with
  | byt j=>obtain ⟨t',rfl⟩:=ry;exact PySem.W.ne_bytes (dR I q (congrArg not Sb))
  | _=>exact absurd (show false=true from hs) Bool.false_ne_true
 | _=>cases y <;> exact absurd (show false=true from hs) Bool.false_ne_true
theorem uM:zW X (compareOp .Lt) (Sn fun i j=>.bl (decide (i<j))):=Zo fun _ _ _ _ _ _ _ q=>lt_int q
theorem fX:zW X (compareOp .LtE) (Sn fun i j=>.bl (decide (i≤j))):=Zo fun _ _ _ _ _ _ _ q=>le_int q
theorem pD:zW X (compareOp .Gt) (Sn fun i j=>.bl (decide (j<i))):=Zo fun _ _ _ _ _ _ _ q=>gt_int q
theorem uP:zW X (compareOp .GtE) (Sn fun i j=>.bl (decide (j≤i))):=Zo fun _ _ _ _ _ _ _ q=>ge_int q
theorem Ot:zW X (compareOp .Is) (fun x y H Q=>y = .non∧Q (.bl (decide (x = .non))) H):=by
 intro pins s σ H x y v u Q I rx ry h
 obtain ⟨rfl,q⟩:=h
 cases ry
 refine is_none_gen (dR I q ?_)
 cases x <;> first
  | (cases rx;rfl)
  | (obtain ⟨t,rfl⟩:=rx;rfl)
theorem Iz:zW X (compareOp .IsNot) (fun x y H Q=>y = .non∧Q (.bl (!decide (x = .non))) H):=by
 intro pins s σ H x y v u Q I rx ry h
 obtain ⟨rfl,q⟩:=h
 cases ry
 refine isnot_none_gen (dR I q ?_)
 cases x <;> first
  | (cases rx;rfl)
  | (obtain ⟨t,rfl⟩:=rx;rfl)
theorem bD (b:Expr) {op:CmpOp} (h:op ≠ .In:=by decide) (h2:op ≠ .NotIn:=by decide):behindInMarks op b=false:=by
 have e1:(op == CmpOp.In)=false:=by cases op <;> first | rfl | exact absurd rfl h
 have e2:(op == CmpOp.NotIn)=false:=by cases op <;> first | rfl | exact absurd rfl h2
 cases b <;> simp[behindInMarks,e1,e2]
theorem nR {op:CmpOp}{r:R2} (ho:zW X (compareOp op) r) (ha:PE X a ta) (hb:PE X b tb) (hm:behindInMarks op b=false):PE X (.Compare a [op] [b] pos) (Fh r ta tb):=by
 intro pins s σ H Q I h
 exact wpAny_Compare1 (em ha hb I h fun v u s2 x y H2 I2 rx ry q=>ho pins s2 σ H2 x y v u Q I2 rx ry q) hm
def Gv (t:TE):TT:=fun σ H Q=>t σ H fun x H'=>∃ k,x = .bl k∧Q k H'
theorem aY {op:CmpOp}{r:R2} (ho:zW X (compareOp op) r) (ha:PE X a ta) (hb:PE X b tb) (hm:behindInMarks op b=false):PT X (.Compare a [op] [b] pos) (Gv (Fh r ta tb)):=by
 intro pins s σ H Q I h
 refine wpAny_isTrue_Compare1 (eZ (ha pins s σ H _ I h) fun v s1 ⟨x,H1,I1,r1,q1⟩=>eZ (hb pins s1 σ H1 _ I1 q1) fun u s2 ⟨y,H2,I2,r2,q2⟩=>
  eZ (ho pins s2 σ H2 x y v u _ I2 r1 r2 q2) fun c s3 ⟨z,H3,I3,r3,k,e,q3⟩=>?_) hm
 subst e
 cases r3
 exact wpAny_truthy_bool ⟨H3,I3,q3⟩
def Wt (r r':R2) (ta tb tc:TE):TE:=fun σ H Q=>ta σ H fun x H1=>tb σ H1 fun y H2=>r x y H2 fun z H3=>∃ k,z = .bl k ∧
 (if k=true then tc σ H3 fun w' H4=>r' y w' H4 Q else Q (.bl false) H3)
theorem jG {op op':CmpOp}{r r':R2} (ho:zW X (compareOp op) r) (ho':zW X (compareOp op') r') (ha:PE X a ta) (hb:PE X b tb) (hc:PE X c tc)
  (hm:lastMarks [op,op'] [b,c]=false:=by with_unfolding_all rfl):PE X (.Compare a [op,op'] [b,c] pos) (Wt r r' ta tb tc):=by
 intro pins s σ H Q I h
 refine Compare_chain (eZ (ha pins s σ H _ I h) fun v s1 ⟨x,H1,I1,r1,q1⟩=>chain_link (eZ (hb pins s1 σ H1 _ I1 q1) fun u s2 ⟨y,H2,I2,r2,q2⟩=>
  eZ (ho pins s2 σ H2 x y v u _ I2 r1 r2 q2) fun d s3 ⟨z,H3,I3,r3,k,e,q3⟩=>?_)) hm
 subst e
 cases r3
 refine wpAny_truthy_bool ?_
 cases k with
 | false=>exact ite_ff ⟨.bl false,H3,I3,rfl,q3⟩
 | true=>exact ite_tt (chain_last (eZ (hc pins s3 σ H3 _ I3 q3) fun w' s4 ⟨z',H4,I4,r4,q4⟩=>ho' pins s4 σ H4 y z' u w' Q I4 r2 r4 q4))
theorem Ov:(sizeLine:Nat)<2 ^ 63:=by rw[sizeLine_eq];decide
theorem Pk:zW X (binaryOp .Add) (fun x y H Q=>∃ i j,x = .str i∧y = .str j∧i.length + j.length≤sizeLine∧Q (.str (i ++ j)) H):=by
 intro pins s σ H x y v u Q I rx ry h
 obtain ⟨i,j,rfl,rfl,hz,q⟩:=h
 obtain ⟨t,rfl⟩:=rx
 obtain ⟨t',rfl⟩:=ry
 exact add_str (fun t' tk=>⟨.str (i ++ j),H,I.tok _,⟨_,rfl⟩,q⟩) hz
theorem Gy {x:V}{us:List Value} (r:Vals [x] us):∃ u,us=[u]∧RelV x u:=by
 cases r with
 | cons r1 r2=>cases r2;exact ⟨_,rfl,r1⟩
theorem Mq:uN X (.builtin "abs") (fun xs H Q=>∃ i,xs=[.int i]∧Q (.int (if i<0 then -i else i)) H):=by
 intro pins s σ H xs us Q I r h
 obtain ⟨i,rfl,q⟩:=h
 obtain ⟨u,rfl,t,rfl⟩:=Gy r
 exact call_abs_int fun u tk=>⟨.int (if i<0 then -i else i),H,I.tok _,⟨_,rfl⟩,q⟩
theorem Kt:uN X (.type "str") (fun xs H Q=>∃ i,xs=[.int i]∧i.natAbs.log2<1920∧Q (.str (toString i)) H):=by
 intro pins s σ H xs us Q I r h
 obtain ⟨i,rfl,hz,q⟩:=h
 obtain ⟨u,rfl,t,rfl⟩:=Gy r
 exact PySem.P.str_of_int hz ⟨.str _,H,I.tok _,⟨_,rfl⟩,q⟩
theorem Xo:uN X (.builtin "ord") (fun xs H Q=>∃ x,xs=[.str x]∧x.length=1∧Q (.int (x.cps.getD 0 0:Nat)) H):=by
 intro pins s σ H xs us Q I r h
 obtain ⟨x,rfl,hz,q⟩:=h
 obtain ⟨u,rfl,t,rfl⟩:=Gy r
 exact ord_of_one hz ⟨.int _,H,I.tok _,⟨_,rfl⟩,q⟩
end
end L2
namespace L2
open PySem PySem.Spec PyProof.Rows
structure ObjM (h:Heap) (x dx C:Addr) (mA:Str→Option Value):Prop where
 obj:h.get? x=some (PySem.W.instObj C dx)
 ns:h.Ns1 dx mA
 ne:dx≠x
theorem Ur {h:Heap}{dx:Addr}{mA:Str→Option Value} (n:h.Ns1 dx mA):∃ od,h.get? dx=some od∧∀ name,PySem.W.lookIn name od=some (mA name):=by
 obtain ⟨o,es,ep,ho,hd,hk,_,hm⟩:=n
 refine ⟨o,ho,fun name=>?_⟩
 have e:=hm name
 unfold nsFind findBy at e
 rw[←Array.find?_toList] at e
 unfold PySem.W.lookIn
 rw[hd]
 dsimp only
 split
 ·rename_i y q
  rw[q] at e
  exact congrArg some e
 ·rename_i q
  rw[q] at e
  have a:es.toList.any (·.refKey)=false:=by
   rw[List.any_eq_false]
   intro y hy
   obtain ⟨z,t,hkey⟩:=hk y (Array.mem_toList_iff.mp hy)
   simp[DictEntry.refKey,hkey]
  have a':¬ es.toList.any (·.refKey)=true:=by rw[a];exact Bool.false_ne_true
  rw[if_neg a']
  exact congrArg some e
theorem ObjM.look {h:Heap}{x dx C:Addr}{mA:Str→Option Value} (I:ObjM h x dx C mA):∃ od,PySem.W.InstAt h x (PySem.W.instObj C dx) C (some od)∧∀ name,PySem.W.lookIn name od=some (mA name) :=
 let ⟨od,ho,hl⟩:=Ur I.ns
 ⟨od,⟨I.obj,rfl,rfl,ho⟩,hl⟩
section
variable {prog:Program}{w:World}{A:Around}{E:Value→Shared→Prop}{s:Shared}{K:PySem.W.Frag}{x dx C f:Addr}{mA:Str→Option Value}{name:Str}{v:Value}
theorem bd {expr:Bool}{Q:Value→Shared→Prop} (X:K.In s.heap) (I:ObjM s.heap x dx C mA) (hg:PySem.W.plainGet K C name=true) (hh:PySem.W.hasDictIn K C=true)
  (ha:PySem.W.findIn K (.ref C) name=some none) (hv:mA name=some v) (hv':PySem.W.handedIn v=true) (h:Q v { s with toks:=s.toks + 1 }) :
  wpAny (model prog w) A (getAttr (.ref x) name expr) Q E s:=by
 obtain ⟨od,J,hl⟩:=I.look
 exact PySem.W.get_value X J (PySem.W.plainGet_of hg).1 (PySem.W.findObj_own hh ha rfl (by rw[hl,hv])) hv' h
theorem Yh {pl:Sem Bool}{Q:Value×List Value→Shared→Prop} (X:K.In s.heap) (I:ObjM s.heap x dx C mA) (hg:PySem.W.plainGet K C name=true)
  (hf:PySem.W.findIn K (.ref C) name=some (some (.ref f))) (ht:PySem.W.isFn K (.ref f)=true) (hv:mA name=none) (h:Q (.ref f,[.ref x]) s) :
  wpAny (model prog w) A (getMethod (.ref x) name pl) Q E s:=by
 obtain ⟨od,J,hl⟩:=I.look
 exact PySem.W.method_fn X J (PySem.W.plainGet_of hg).1 (PySem.W.plainGet_of hg).2 hf (beq_iff_eq.mp ht) (by show (PySem.W.lookIn name od).map (·.isSome)=some false;rw[hl,hv];rfl) h
theorem bc {ns:List Str}{Q:Unit→Shared→Prop} (X:K.In s.heap) (I:ObjM s.heap x dx C mA)
  (hs:PySem.W.findIn K (.ref C) "__setattr__" = some (some (.builtin "object.__setattr__"))) (hp:PySem.W.plainOver K C=true) (ht:PySem.W.takerIn K C name=some none) (hh:PySem.W.hasDictIn K C=true)
  (hw:PySem.Within mA ns) (hsz:ns.length≤sizeLine)
  (h:∀ h',ObjM h' x dx C (fun y=>if y=name then some v else mA y)→Heap.SameBut dx s.heap h'→Q () { s with heap:=h',toks:=s.toks + 2 }) :
  wpAny (model prog w) A (setAttr (.ref x) name v) Q E s:=by
 obtain ⟨od,J,hl⟩:=I.look
 refine PySem.W.set_plain X J hs (PySem.W.osa_open (s:={ s with toks:=s.toks + 1 }) (r:=none) X J hp ht fun b=>?_)
 obtain ⟨cd,hc,hd'⟩:=PySem.W.any_some hh
 have hx:s.heap.get? x=some ⟨.ref C,some dx,.plain,#[]⟩:=I.obj
 refine wpAny_bind (wpAny_pure (wpAny_bind (wpAny_bind (wpAny_loadPart hx (wpAny_bind (PySem.W.Looks.here (s:={ s with toks:=s.toks + 1 }) (PySem.W.looks_clsIn X hc) ?_))))))
 rw[hd']
 refine wpAny_pure (a:=some dx) (wpAny_bind (wpAny_pure (wpAny_bind ?_)))
 refine wpAny_nsSet1 (s:={ s with toks:=s.toks + 1 }) I.ns fun h' hn2 hs2=>?_
 obtain ⟨oD,esD,epD,hoD,hdD,hcD⟩:=hn2.count (PySem.Within.cons name v hw)
 refine wpAny_bind (wpAny_lookBehind hoD (by rw[hdD];exact pastItsLine_dict (Nat.le_trans hcD (by rw[List.length_cons];omega))) ?_)
 exact wpAny_pure (h _ ⟨(hs2.2 _ (Ne.symm I.ne)).trans I.obj,hn2,I.ne⟩ hs2)
theorem Yr {R:Result→Shared→Prop}{vs:List Value}{kw:List (Str×Value)} (X:K.In s.heap) (hm:PySem.W.makesIn K C=true)
  (hi:PySem.W.findIn K (.ref C) "__init__" = some (some (.ref f))) (hf:PySem.W.typeIn K (.ref f)=some (.type "function"))
  (h:codeAny (model prog w) (A.under (.builtin "type.__call__" ⟨.ref C :: vs,kw⟩)) (.call (.ref f) ⟨.ref (s.heap.objs.size + 1) :: vs,kw⟩) (PySem.W.InitBack (s.heap.objs.size + 1) R)
   { s with heap:=(s.heap.push PySem.W.emptyDict).push (PySem.W.instObj C s.heap.objs.size) }) :
  codeAny (model prog w) A (.call (.ref C) ⟨vs,kw⟩) R s:=by
 obtain ⟨hh,g,d,t,os⟩:=s
 exact PySem.W.make_core (PySem.W.makes_of X hm) (PySem.W.looks_findIn X hi) (fun self=>PySem.W.bind_fn X self hf) (.inl rfl) h
end
def eE (f:Str) (v:V):List (Str×V)→List (Str×V)
 | []=>[(f,v)]
 | (g,x) :: r=>if g=f then (g,v) :: r else (g,x) :: eE f v r
theorem zQ (f g:Str) (v:V):∀ fs:List (Str×V),(eE f v fs).lookup g=if g=f then some v else fs.lookup g
 | []=>by
  show List.lookup g [(f,v)]=_
  by_cases h:g=f
  ·have hb:(g == f)=true:=beq_iff_eq.mpr h
   simp only[List.lookup,hb,if_pos h]
  ·have hb:(g == f)=false:=beq_eq_false_iff_ne.mpr h
   simp only[List.lookup,hb,if_neg h]
 | (k,x) :: r=>by
  have ih:=zQ f g v r
  rw[show eE f v ((k,x) :: r)=(if k=f then (k,v) :: r else (k,x) :: eE f v r) from rfl]
  by_cases hk:k=f
  ·rw[if_pos hk]
   by_cases h:g=k
   ·have hb:(g == k)=true:=beq_iff_eq.mpr h
    simp only[List.lookup,hb,if_pos (h.trans hk)]
   ·have hb:(g == k)=false:=beq_eq_false_iff_ne.mpr h
    simp only[List.lookup,hb,if_neg (fun e:g=f=>h (e.trans hk.symm))]
  ·rw[if_neg hk]
   by_cases h:g=k
   ·have hb:(g == k)=true:=beq_iff_eq.mpr h
    simp only[List.lookup,hb,if_neg (fun e:g=f=>hk (h.symm.trans e))]
   ·have hb:(g == k)=false:=beq_eq_false_iff_ne.mpr h
    simp only[List.lookup,hb]
    exact ih
theorem yB (f:Str) (v:V):∀ fs:List (Str×V),f ∈ (eE f v fs).map (·.1)∧∀ g,g ∈ fs.map (·.1)→g ∈ (eE f v fs).map (·.1)
 | []=>⟨by simp[eE],fun g h=>by simp at h⟩
 | (k,x) :: r=>by
  obtain ⟨i1,i2⟩:=yB f v r
  rw[show eE f v ((k,x) :: r)=(if k=f then (k,v) :: r else (k,x) :: eE f v r) from rfl]
  by_cases hk:k=f
  ·rw[if_pos hk]
   subst hk
   exact ⟨by simp,fun g h=>by simpa using h⟩
  ·rw[if_neg hk]
   refine ⟨?_,fun g h=>?_⟩
   ·rw[List.map_cons]
    exact List.mem_cons_of_mem _ i1
   ·rw[List.map_cons] at h ⊢
    rcases List.mem_cons.mp h with e | e
    ·exact List.mem_cons.mpr (.inl e)
    ·exact List.mem_cons_of_mem _ (i2 g e)
theorem zP (f:Str) (v:V):∀ fs:List (Str×V),(eE f v fs).length≤fs.length + 1
 | []=>by simp[eE]
 | (k,x) :: r=>by
  have ih:=zP f v r
  rw[show eE f v ((k,x) :: r)=(if k=f then (k,v) :: r else (k,x) :: eE f v r) from rfl]
  by_cases hk:k=f
  ·rw[if_pos hk,List.length_cons,List.length_cons];omega
  ·rw[if_neg hk,List.length_cons,List.length_cons];omega
theorem RelO.some_of {v:V}{o:Option Value} (r:RelO (some v) o):∃ u,o=some u∧RelV v u:=by
 cases o with
 | none=>exact (show False from r).elim
 | some u=>exact ⟨u,rfl,r⟩
theorem RelO.none_of {o:Option Value} (r:RelO none o):o=none:=by
 cases o with
 | none=>rfl
 | some u=>exact (show False from r).elim
theorem Vd {v:V}{u:Value} (r:RelV v u):PySem.W.handedIn u=true:=by
 cases v with
 | non=>cases (show u=Value.none from r);rfl
 | bl b=>cases (show u=Value.bool b from r);rfl
 | int i=>obtain ⟨t,e⟩:=(show ∃ t,u=Value.int i t from r);cases e;rfl
 | str x=>obtain ⟨t,e⟩:=(show ∃ t,u=Value.str x t from r);cases e;rfl
 | byt b=>obtain ⟨t,e⟩:=(show ∃ t,u=Value.bytes b t from r);cases e;rfl
 | flt b=>obtain ⟨t,e⟩:=(show ∃ t,u=Value.float b t from r);cases e;rfl
 | ref a=>cases (show u=Value.ref a from r);rfl
 | ty n=>cases (show u=Value.type n from r);rfl
section
variable {P:Program}{w:World}{H H':Hp}{h h':Heap}{a C dx:Addr}{fs fs':List (Str×V)}
theorem Jg (hok:HOk P w H h) (e:H a=some (.ins C dx fs)):∃ mA,ObjM h a dx C mA∧(∀ f,RelO (fs.lookup f) (mA f))∧PySem.Within mA (fs.map (·.1))∧fs.length≤1000∧H dx=some (.own a):=by
 obtain ⟨d,z,ne,ob,mA,n,r,q⟩:=(show ObjOk P w H h a (.ins C dx fs) from hok a _ e)
 exact ⟨mA,⟨ob,n,ne⟩,r,q,z,d⟩
end
structure Cls (K:PySem.W.Frag) (C:Addr):Prop where
 pg:PySem.W.plainGet K C Str.empty=true
 hd:PySem.W.hasDictIn K C=true
 po:PySem.W.plainOver K C=true
 sa:PySem.W.findIn K (.ref C) "__setattr__" = some (some (.builtin "object.__setattr__"))
theorem Cls.get {K:PySem.W.Frag}{C:Addr} (c:Cls K C) (f:Str):PySem.W.plainGet K C f=true:=c.pg
def NoAttr (K:PySem.W.Frag) (C:Addr) (f:Str):Prop:=PySem.W.findIn K (.ref C) f=some none
theorem NoAttr.taker {K:PySem.W.Frag}{C:Addr}{f:Str} (n:NoAttr K C f):PySem.W.takerIn K C f=some none:=by
 unfold PySem.W.takerIn
 rw[show PySem.W.findIn K (.ref C) f=some none from n]
 rfl
structure Zk (K:PySem.W.Frag) (C:Addr) (m:Str) (f:Addr):Prop where
 at_:PySem.W.findIn K (.ref C) m=some (some (.ref f))
 fn:PySem.W.isFn K (.ref f)=true
 kp:PySem.W.keepIn K (.ref f)=true
section
variable {X:Cx}{pins:List (Addr×Obj)}{σ:St}{H:Hp}{s:Shared}{a C dx:Addr}{fs:List (Str×V)}{f:Str}{v:V}{A:Around}{E:Value→Shared→Prop}
theorem Oz {b:Bool}{Q:Value→Shared→Prop} (I:Inv X pins σ H s) (e:H a=some (.ins C dx fs)) (c:Cls X.K C) (n:NoAttr X.K C f) (l:fs.lookup f=some v)
  (h:∀ u s',Inv X pins σ H s'→RelV v u→Q u s'):wpAny (model X.prog X.w) A (getAttr (.ref a) f b) Q E s:=by
 obtain ⟨mA,O,r,_,_,_⟩:=Jg I.hok e
 obtain ⟨u,hu,ru⟩:=RelO.some_of (v:=v) (o:=mA f) (by rw[←l];exact r f)
 exact bd I.kIn O (c.get f) c.hd n hu (Vd ru) (h u _ (I.tok _) ru)
theorem Cw {m:Str}{g:Addr}{pl:Sem Bool}{Q:Value×List Value→Shared→Prop} (I:Inv X pins σ H s) (e:H a=some (.ins C dx fs)) (c:Cls X.K C) (k:Zk X.K C m g) (l:fs.lookup m=none)
  (h:Q (.ref g,[.ref a]) s):wpAny (model X.prog X.w) A (getMethod (.ref a) m pl) Q E s:=by
 obtain ⟨mA,O,r,_,_,_⟩:=Jg I.hok e
 have hn:mA m=none:=RelO.none_of (by rw[←l];exact r m)
 exact Yh I.kIn O (c.get m) k.at_ k.fn hn h
theorem Qb {y:V}{u:Value}{Q:Unit→Shared→Prop} (I:Inv X pins σ H s) (e:H a=some (.ins C dx fs)) (c:Cls X.K C) (n:NoAttr X.K C f) (hl:fs.length<1000) (ry:RelV y u)
  (h:∀ s',Inv X pins σ (cA H a (.ins C dx (eE f y fs))) s'→Q () s'):wpAny (model X.prog X.w) A (setAttr (.ref a) f u) Q E s:=by
 obtain ⟨mA,O,r,wi,_,ho⟩:=Jg I.hok e
 have hz:(fs.map (·.1)).length≤sizeLine:=by rw[List.length_map,sizeLine_eq];omega
 refine bc I.kIn O c.sa c.po n.taker c.hd wi hz fun h' O' sb=>h _ ?_
 have hd:∃ o,h'.get? dx=some o:=let ⟨o,_,_,e',_⟩:=O'.ns;⟨o,e'⟩
 refine I.write (x:=a) (e:=dx) (by rw[e];exact True.intro) (.inr ho) (fun b q hb z=>(sb.2 b hb).trans z) hd ?_
 refine ⟨by rw[aV O.ne];exact ho,?_,O.ne,O'.obj,_,O'.ns,fun g=>?_,fun g hg=>?_⟩
 ·have:=zP f y fs;omega
 ·show RelO ((eE f y fs).lookup g) (if g=f then some u else mA g)
  rw[zQ]
  by_cases q:g=f
  ·rw[if_pos q,if_pos q];exact ry
  ·rw[if_neg q,if_neg q];exact r g
 ·by_cases q:g=f
  ·rw[q];exact (yB f y fs).1
  ·refine (yB f y fs).2 g (wi g fun z=>hg ?_)
   show (if g=f then some u else mA g)=none
   rw[if_neg q];exact z
theorem Inv.made (I:Inv X pins σ H s):Inv X pins σ (cA (cA H s.heap.objs.size (.own (s.heap.objs.size + 1))) (s.heap.objs.size + 1) (.ins C s.heap.objs.size []))
  { s with heap:=(s.heap.push PySem.W.emptyDict).push (PySem.W.instObj C s.heap.objs.size) }:=by
 have e1:(s.heap.push PySem.W.emptyDict).get? s.heap.objs.size=some PySem.W.emptyDict:=Heap.get?_push_size s.heap rfl
 have e2:((s.heap.push PySem.W.emptyDict).push (PySem.W.instObj C s.heap.objs.size)).get? (s.heap.objs.size + 1)=some (PySem.W.instObj C s.heap.objs.size):=by
  have:=Heap.get?_push_size (s.heap.push PySem.W.emptyDict) (o:=PySem.W.instObj C s.heap.objs.size) rfl
  rwa [Heap.size_push] at this
 have e3:(s.heap.push PySem.W.emptyDict).Ns s.heap.objs.size (fun _=>none):=⟨PySem.W.emptyDict,#[],_,e1,rfl,(fun e he=>absurd he (by simp)),fun _=>rfl⟩
 have I1:=I.laid (a:=s.heap.objs.size) (o:=.own (s.heap.objs.size + 1)) (h':=s.heap.push PySem.W.emptyDict) (t':=s.toks) (fun b u q=>Heap.get?_push_of_some _ q) (Nat.le_refl _) ⟨_,e1⟩
 refine I1.laid (a:=s.heap.objs.size + 1) (o:=.ins C s.heap.objs.size []) (t':=s.toks) (fun b u q=>Heap.get?_push_of_some _ q) (Nat.le_of_eq (Heap.size_push _ _)) ?_
 have ne:s.heap.objs.size≠s.heap.objs.size + 1:=Nat.ne_of_lt (Nat.lt_succ_self _)
 refine ⟨by rw[aV ne,aF],Nat.zero_le _,ne,e2,fun _=>none,(Heap.Ns1.of_empty e3).at fun o q=>Heap.get?_push_of_some _ q,fun _=>True.intro,fun y hy=>absurd rfl hy⟩
theorem am {prog:Program}{w:World}{env:Env}{e:Expr}{f:Str}{pos:Pos}{s:Shared}{Q:Value→Shared→Prop} (hb:attributeBase e f env (eval e env)=eval e env)
  (h:wpAny (model prog w) A (eval e env) (fun o s₁=>wpAny (model prog w) A (getAttr o f true) Q E s₁) E s):wpAny (model prog w) A (eval (.Attribute e f pos) env) Q E s :=
 Attribute_any_ h (by rw[arm_eval_Attribute,hb])
end
def Bn (K:PySem.W.Frag) (ta:TE) (f:Str):TE:=fun σ H Q=>ta σ H fun x H1=>∃ a C dx fs v,x = .ref a∧H1 a=some (.ins C dx fs)∧Cls K C∧NoAttr K C f∧fs.lookup f=some v∧Q v H1
def Vv (K:PySem.W.Frag) (ta tv:TE) (f:Str):TS:=fun D σ H=>tv σ H fun y H1=>ta σ H1 fun x H2=>∃ a C dx fs,x = .ref a∧H2 a=some (.ins C dx fs)∧Cls K C∧NoAttr K C f∧fs.length<1000 ∧
 D.nx σ (cA H2 a (.ins C dx (eE f y fs)))
section
variable {X:Cx}{o e value:Expr}{f:Str}{pos pos' tpos:Pos}{ta tv:TE}
theorem aI (he:PE X e ta) (hb:attributeBase e f X.env (eval e X.env)=eval e X.env):PE X (.Attribute e f pos) (Bn X.K ta f):=by
 intro pins s σ H Q I h
 refine am hb (eZ (he pins s σ H _ I h) fun u s1 ⟨x,H1,I1,rx,a,C,dx,fs,v,ex,ea,c,n,l,q⟩=>?_)
 subst ex
 obtain rfl:u=Value.ref a:=rx
 exact Oz I1 ea c n l fun u' s2 I2 ru=>⟨v,H1,I2,ru,q⟩
theorem cV (ha:PE X o ta) (hv:PE X value tv) (hs:swapsWith value (some (.Attribute o f pos')) pos.line X.env=pure false):PS X (.Assign [.Attribute o f pos'] value pos) (Vv X.K ta tv f):=by
 intro pins s σ H D I h
 refine plainObj_wpAny_Assign_Attribute (eZ (hv pins s σ H _ I h) fun u s1 ⟨y,H1,I1,ry,q⟩=>eZ (ha pins s1 σ H1 _ I1 q) fun ov s2 ⟨x,H2,I2,rx,a,C,dx,fs,ex,ea,c,n,l,q2⟩=>?_) hs
 subst ex
 obtain rfl:ov=Value.ref a:=rx
 exact Qb I2 ea c n l ry fun s3 I3=>⟨σ,_,I3,q2⟩
end
section
variable {X:Cx}{pins:List (Addr×Obj)}{σ:St}{H:Hp}{s:Shared}{A:Around}{E:Value→Shared→Prop}{Q:Value→Shared→Prop}{c:Value}{b:Bool}
end
end L2
namespace L2
open PySem PySem.Spec PyProof.Rows
structure Room (k:Nat) (A:Around):Prop where
 hd:A.handled=none
 dp:A.depth + 3 * k + 5<recursionLimit
 un:A.units + 16 * k + 200<cLine
theorem Room.mono {j k:Nat}{A:Around} (r:Room k A) (h:j≤k):Room j A:=⟨r.hd,by have:=r.dp;omega,by have:=r.un;omega⟩
theorem Room.deeper {k:Nat}{A:Around} (r:Room (k + 1) A) (env:Env):Room k (A.deeper env) :=
 ⟨r.hd,by have:=r.dp;show A.depth + 1 + 3 * k + 5<_;omega,by have:=r.un;show A.units + 3 + 16 * k + 200<_;omega⟩
theorem Room.in1 {k:Nat}{A:Around} (r:Room (k + 1) A):Room k A.in1 :=
 ⟨r.hd,by have:=r.dp;show A.depth + 3 * k + 5<_;omega,by have:=r.un;show A.units + 1 + 16 * k + 200<_;omega⟩
theorem Pb {A:Around}{C:Addr}{us:List Value}{kw:List (Str×Value)}:(A.under (.builtin "type.__call__" ⟨.ref C :: us,kw⟩)).depth=A.depth + 1:=by
 first | rfl | simp[Around.under,Code.weight,Code.isCreation,Code.isGuard,Code.isCaller,Code.frames,Code.isFrame,guardIds]
theorem Pp {A:Around}{C:Addr}{us:List Value}{kw:List (Str×Value)}:(A.under (.builtin "type.__call__" ⟨.ref C :: us,kw⟩)).units=A.units + 1:=by
 first | rfl | simp[Around.under,Code.cUnits,Code.frames,Code.isFrame]
theorem Room.make {k:Nat}{A:Around} (r:Room (k + 1) A) (C:Addr) (us:List Value) (kw:List (Str×Value)):Room k (A.under (.builtin "type.__call__" ⟨.ref C :: us,kw⟩)) :=
 ⟨r.hd,by have:=r.dp;rw[Pb];omega,by have:=r.un;rw[Pp];omega⟩
theorem Room.depth {k:Nat}{A:Around} (r:Room k A):A.depth<recursionLimit:=by have:=r.dp;omega
theorem Room.units {k:Nat}{A:Around} (r:Room k A):A.units + 64<cLine:=by have:=r.un;omega
def lQ:TA:=fun _ H Q=>Q [] H
def gJ (ta:TE) (tr:TA):TA:=fun σ H Q=>ta σ H fun x H1=>tr σ H1 fun xs H2=>Q (x :: xs) H2
section
variable {X:Cx}{e:Expr}{es:List Expr}{te:TE}{t:TA}{pos:Pos}
theorem aD:PA X [] lQ:=fun _ _ _ _ H Q I h=>Calls.spliced_nil ⟨[],H,I,.nil,h⟩
theorem aB (ha:PE X e te) (hr:PA X es t) (hs:starEach (e :: es) X.env=(false,eval e X.env) :: starEach es X.env:=by rfl):PA X (e :: es) (gJ te t):=by
 intro pos pins s σ H Q I h
 rw[hs]
 show wpAny _ _ (spliced ((false,eval e X.env) :: backTo pos (starEach es X.env))) _ _ s
 refine Calls.spliced_cons (eZ (ha pins s σ H _ I h) fun u s1 ⟨x,H1,I1,r1,q1⟩=>?_)
 exact eZ (hr pos pins s1 σ H1 _ I1 q1) fun us s2 ⟨xs,H2,I2,r2,q2⟩=>⟨x :: xs,H2,I2,.cons r1 r2,q2⟩
def Zp (t:TA):TE:=fun σ H Q=>t σ H fun xs H1=>xs.length≤sizeLine∧∀ p,H1 p=none→Q (.ref p) (cA H1 p (.tup xs))
def Zq (t:TA):TE:=fun σ H Q=>t σ H fun xs H1=>xs.length≤sizeLine∧∀ p,H1 p=none→Q (.ref p) (cA H1 p (.lst xs))
theorem lX {x1} (h:PA X es t):PE X (.Tuple es x1 pos) (Zp t):=by
 intro pins s σ H Q I hq
 refine wpAny_Tuple_spliced (eZ (h pos pins s σ H _ I hq) fun us s1 ⟨xs,H1,I1,r,z,q⟩=>⟨by rw[←r.length];exact z,?_⟩)
 have hf:H1 s1.heap.objs.size=none:=I1.hok.fresh (Nat.le_refl _)
 refine ⟨.ref s1.heap.objs.size,cA H1 s1.heap.objs.size (.tup xs),I1.laid (t':=s1.toks) (fun b u e=>Heap.get?_push_of_some _ e) (Nat.le_refl _) ?_,rfl,q _ hf⟩
 exact ⟨z,us,r,⟨_,Heap.get?_push_size _ rfl,rfl,_,rfl⟩⟩
theorem bE (h:PA X es t):PE X (.List es pos) (Zq t):=by
 intro pins s σ H Q I hq
 refine wpAny_List_spliced (eZ (h pos pins s σ H _ I hq) fun us s1 ⟨xs,H1,I1,r,z,q⟩=>⟨by rw[←r.length];exact z,?_⟩)
 have hf:H1 s1.heap.objs.size=none:=I1.hok.fresh (Nat.le_refl _)
 refine ⟨.ref s1.heap.objs.size,cA H1 s1.heap.objs.size (.lst xs),I1.laid (t':=s1.toks) (fun b u e=>Heap.get?_push_of_some _ e) (Nat.le_refl _) ?_,rfl,q _ hf⟩
 exact ⟨z,us,0,r,Heap.get?_push_size _ rfl⟩
end
abbrev Sp:=List V→Hp→VK→XK→Prop
abbrev Vr:=List Env→Hp→Shared→XK→Value→Shared→Prop
structure Env0 (P:Program) (w:World) (K:PySem.W.Frag) (mg:Str→Option Value) (base:Heap) (A:Around) (outer:List Env) (s:Shared) (H:Hp):Prop where
 frames:A.frames=some outer
 mod:Mod K mg base
 bs:∀ b o,base.get? b=some o→s.heap.get? b=some o∧H b=none
 bsz:base.objs.size≤s.heap.objs.size
 funs:s.heap.FunFrames base outer
 frf:∀ b ∈ Vu outer,H b=none
 hok:HOk P w H s.heap
 bare:AllBare s.gens
def CE (outer:List Env) (P:Program) (w:World) (H:Hp) (s:Shared) (Q:VK) (u:Value) (s':Shared):Prop :=
 ∃ v H',s'.os=s.os∧AllBare s'.gens∧Un (Vu outer) [] H H' s.heap s'.heap∧HOk P w H' s'.heap∧RelV v u∧Q v H'
def CR (CX:Vr) (outer:List Env) (P:Program) (w:World) (H:Hp) (s:Shared) (Q:VK) (E:XK) (r:Result) (s':Shared):Prop :=
 match r with
 | .ok (.ret u)=>CE outer P w H s Q u s'
 | .ok _=>False
 | .error e=>CX outer H s E e s'
structure bO (P:Program) (w:World) (K:PySem.W.Frag) (mg:Str→Option Value) (base:Heap) (CX:Vr) (k:Nat) (f:Addr) (fd:FuncData) (ps:List Str) (sp:Sp):Prop where
 len:∀ vs H Q E,sp vs H Q E→vs.length=ps.length
 run:∀ (A:Around) (outer:List Env) (s:Shared) (H:Hp) (args:Args) (us:List Value) (vs:List V) (Q:VK) (E:XK),Room k A→Env0 P w K mg base A outer s H→BindsTo s fd args (ps.zip us)→Vals vs us→sp vs H Q E →
  codeAny (model P w) A (.call (.ref f) args) (CR CX outer P w H s Q E) s
theorem Env0.make {P:Program}{w:World}{K:PySem.W.Frag}{mg:Str→Option Value}{base:Heap}{A:Around}{outer:List Env}{s:Shared}{H:Hp} (e:Env0 P w K mg base A outer s H) (C:Addr) (us:List Value) (kw:List (Str×Value)) :
  Env0 P w K mg base (A.under (.builtin "type.__call__" ⟨.ref C :: us,kw⟩)) outer s H:=⟨by first | exact e.frames | (simpa [Around.under,Code.envs,Code.isFrame,pushEnvs] using e.frames),e.mod,e.bs,e.bsz,e.funs,e.frf,e.hok,e.bare⟩
theorem Env0.in1 {P:Program}{w:World}{K:PySem.W.Frag}{mg:Str→Option Value}{base:Heap}{A:Around}{outer:List Env}{s:Shared}{H:Hp} (e:Env0 P w K mg base A outer s H) :
  Env0 P w K mg base A.in1 outer s H:=⟨e.frames,e.mod,e.bs,e.bsz,e.funs,e.frf,e.hok,e.bare⟩
section
variable {X:Cx}{pins:List (Addr×Obj)}{σ:St}{H:Hp}{s s':Shared}
theorem Inv.env0 (I:Inv X pins σ H s):Env0 X.prog X.w X.K X.mg X.base X.A X.stack s H :=
 ⟨I.ok.frames,I.ok.mod,I.bs,Nat.le_trans I.ok.bsz I.sz,I.stack,I.stkFree,I.hok,I.bare⟩
theorem Inv.after {Q:VK}{u:Value} (I:Inv X pins σ H s) (h:CE X.stack X.prog X.w H s Q u s'):EP X pins σ Q u s':=by
 obtain ⟨v,H',os,bare,un,hok,r,q⟩:=h
 obtain ⟨hh,g,d,t,os'⟩:=s'
 obtain rfl:os'=s.os:=os
 exact ⟨v,H',I.call (h':=hh) (g':=g) (d':=d) (t':=t) (ch:=[]) un hok bare (fun b z=>absurd z (by simp)),r,q⟩
end
def zB (sp:Sp) (dvs:List V) (E:XK) (t:TA):TE:=fun σ H Q=>t σ H fun vs H1=>sp (vs ++ dvs) H1 Q E
def Rc (C:Addr) (m:Str) (sp:Sp) (dvs:List V) (E:XK) (ta:TE) (t:TA):TE:=fun σ H Q=>ta σ H fun x H1=>∃ a dx fs,x = .ref a∧H1 a=some (.ins C dx fs)∧fs.lookup m=none ∧
 t σ H1 fun vs H2=>sp (x :: (vs ++ dvs)) H2 Q E
def Re (C:Addr) (sp:Sp) (dvs:List V) (E:XK) (t:TA):TE:=fun σ H Q=>t σ H fun vs H1=>∀ x dx,H1 x=none→H1 dx=none→dx≠x →
 sp (.ref x :: (vs ++ dvs)) (cA (cA H1 dx (.own x)) x (.ins C dx [])) (fun v H2=>v = .non∧Q (.ref x) H2) E
def Binds (K:PySem.W.Frag) (fd:FuncData) (ps:List Str) (ds:List Value):Prop :=
 ∀ (s:Shared) (us:List Value),K.In s.heap→(us ++ ds).length=ps.length→BindsTo s fd ⟨us,[]⟩ (ps.zip (us ++ ds))
theorem Binds.all {K:PySem.W.Frag}{fd:FuncData}{ps:List Str} (h:∀ us:List Value,us.length=ps.length→bindArgs fd ⟨us,[]⟩=pure (ps.zip us)):Binds K fd ps []:=fun s us _ hl=>by
 rw[List.append_nil] at hl ⊢
 exact .of_eq (h us hl)
def qD (CX:Vr) (X:Cx) (E:XK):Prop:=∀ (pins:List (Addr×Obj)) (σ:St) (H:Hp) (s:Shared) (e:Value) (s':Shared),Inv X pins σ H s→CX X.stack H s E e s'→X.xe e s'
section
variable {X:Cx}{CX:Vr}{k:Nat}{f C:Addr}{fd:FuncData}{ps:List Str}{sp:Sp}{dvs:List V}{ds:List Value}{E:XK}{x m:Str}{p pos apos:Pos}{e o:Expr}{es:List Expr}{ta:TE}{t:TA}
theorem Bx {pins:List (Addr×Obj)}{σ:St}{H:Hp}{s:Shared}{Q:VK}{us:List Value}{vs:List V} (F:bO X.prog X.w X.K X.mg X.base CX k f fd ps sp) (hr:Room k X.A) (hb:Binds X.K fd ps ds) (hd:Vals dvs ds) (hx:qD CX X E)
  (I:Inv X pins σ H s) (r:Vals vs us) (h:sp (vs ++ dvs) H Q E):wpAny (model X.prog X.w) X.A (call (.ref f) us) (EP X pins σ Q) X.xe s:=by
 have r2:Vals (vs ++ dvs) (us ++ ds):=r.append hd
 have hl:(us ++ ds).length=ps.length:=by rw[←r2.length];exact F.len _ _ _ _ h
 refine wpAny_call (codeAny_mono (F.run X.A X.stack s H ⟨us,[]⟩ (us ++ ds) (vs ++ dvs) Q E hr I.env0 (hb s us I.kIn hl) r2 h) fun r s' hq=>?_)
 cases r with
 | error e=>exact hx pins σ H s e s' I hq
 | ok fl=>
  cases fl with
  | ret u=>exact I.after hq
  | next=>exact False.elim hq
  | brk=>exact False.elim hq
  | cont=>exact False.elim hq
theorem aG (F:bO X.prog X.w X.K X.mg X.base CX k f fd ps sp) (hr:Room k X.A) (hg:Gl X x) (hm:X.mg x=some (.ref f)) (hk:PySem.W.keepIn X.K (.ref f)=true) (hb:Binds X.K fd ps ds) (hd:Vals dvs ds) (hx:qD CX X E)
  (ha:PA X (e :: es) t) (hdb:(x == ("__debug__" : Str))=false:=by decide) (he:starEach (e :: es) X.env=(false,eval e X.env) :: starEach es X.env:=by rfl) (hpl:(backTo pos (starEach es X.env)).any (·.1)=false:=by rfl) :
  PE X (.Call (.Name x p) (e :: es) [] pos) (zB sp dvs E t):=by
 intro pins s σ H Q I h
 refine wpAny_Call_Name_kw (wE I hg hm ?_ hdb)
 refine PySem.W.callWith_K (h₀:=X.base) I.ok.mod.kin hk (eZ (ha pos pins s σ H _ I h) fun us s1 ⟨vs,H1,I1,r,q⟩=>⟨I1.kIn,?_⟩) he hpl
 exact Bx F hr hb hd hx I1 r q
theorem Yz (F:bO X.prog X.w X.K X.mg X.base CX k f fd ps sp) (hr:Room k X.A) (hg:Gl X x) (hm:X.mg x=some (.ref f)) (hk:PySem.W.keepIn X.K (.ref f)=true) (hb:Binds X.K fd ps ds) (hd:Vals dvs ds) (hx:qD CX X E)
  (hdb:(x == ("__debug__" : Str))=false:=by decide):PE X (.Call (.Name x p) [] [] pos) (zB sp dvs E lQ):=by
 intro pins s σ H Q I h
 refine wpAny_Call_Name_kw (wE I hg hm ?_ hdb)
 exact PySem.W.callWith_K0 I.kIn hk (Bx (us:=[]) F hr hb hd hx I .nil h)
theorem Jj {pl:Sem Bool} (he:PE X o ta) (c:Cls X.K C) (hm:Zk X.K C m f) (F:bO X.prog X.w X.K X.mg X.base CX k f fd ps sp) (hr:Room k X.A) (hb:Binds X.K fd ps ds) (hd:Vals dvs ds) (hx:qD CX X E) (ha:PA X (e :: es) t)
  (hst:starEach (e :: es) X.env=(false,eval e X.env) :: starEach es X.env:=by rfl) (hpl:(backTo pos (starEach es X.env)).any (·.1)=false:=by rfl)
  (ht:eval (.Call (.Attribute o m apos) (e :: es) [] pos) X.env=(do
   let ov ←eval o X.env
   standAt apos.atName
   let (f,first) ←holding [ov] (getMethod ov m pl)
   callWith pos f first (backTo pos (starEach (e :: es) X.env)) (backToKw pos (keywordEach [] X.env))):=by rfl) :
  PE X (.Call (.Attribute o m apos) (e :: es) [] pos) (Rc C m sp dvs E ta t):=by
 intro pins s σ H Q I h
 refine PySem.W.methodCall_KW (pl:=pl) (eZ (he pins s σ H _ I h) fun u s1 ⟨x,H1,I1,rx,a,dx,fs,ex,ea,l,q⟩=>?_) ht
 subst ex
 obtain rfl:u=Value.ref a:=rx
 refine Cw I1 ea c hm l ?_
 refine PySem.W.callWith_K (first:=[.ref a]) (h₀:=X.base) I.ok.mod.kin hm.kp (eZ (ha pos pins s1 σ H1 _ I1 q) fun us s2 ⟨vs,H2,I2,r,q2⟩=>⟨I2.kIn,?_⟩) hst hpl
 exact Bx (us:=.ref a :: us) (vs:=.ref a :: vs) F hr hb hd hx I2 (.cons rfl r) q2
theorem lY {pl:Sem Bool} (he:PE X o ta) (c:Cls X.K C) (hm:Zk X.K C m f) (F:bO X.prog X.w X.K X.mg X.base CX k f fd ps sp) (hr:Room k X.A) (hb:Binds X.K fd ps ds) (hd:Vals dvs ds) (hx:qD CX X E)
  (ht:eval (.Call (.Attribute o m apos) [] [] pos) X.env=(do
   let ov ←eval o X.env
   standAt apos.atName
   let (f,first) ←holding [ov] (getMethod ov m pl)
   callWith pos f first (backTo pos (starEach [] X.env)) (backToKw pos (keywordEach [] X.env))):=by rfl) :
  PE X (.Call (.Attribute o m apos) [] [] pos) (Rc C m sp dvs E ta lQ):=by
 intro pins s σ H Q I h
 refine PySem.W.methodCall_KW (pl:=pl) (eZ (he pins s σ H _ I h) fun u s1 ⟨x,H1,I1,rx,a,dx,fs,ex,ea,l,q⟩=>?_) ht
 subst ex
 obtain rfl:u=Value.ref a:=rx
 refine Cw I1 ea c hm l ?_
 exact PySem.W.callWith_K0 (first:=[.ref a]) I1.kIn hm.kp (Bx (us:=[.ref a]) (vs:=[.ref a]) F hr hb hd hx I1 (.cons rfl .nil) q)
structure Mk (K:PySem.W.Frag) (C f:Addr):Prop where
 makes:PySem.W.makesIn K C=true
 init:PySem.W.findIn K (.ref C) "__init__" = some (some (.ref f))
 fn:PySem.W.isFn K (.ref f)=true
 kp:PySem.W.keepIn K (.ref C)=true
theorem Mo {pins:List (Addr×Obj)}{σ:St}{H:Hp}{s:Shared}{Q:VK}{us:List Value}{vs:List V} (M:Mk X.K C f) (F:bO X.prog X.w X.K X.mg X.base CX k f fd ps sp) (hr:Room (k + 1) X.A) (hb:Binds X.K fd ps ds) (hd:Vals dvs ds)
  (hx:qD CX X E) (I:Inv X pins σ H s) (r:Vals vs us)
  (h:∀ x dx,H x=none→H dx=none→dx≠x→sp (.ref x :: (vs ++ dvs)) (cA (cA H dx (.own x)) x (.ins C dx [])) (fun v H2=>v = .non∧Q (.ref x) H2) E) :
  wpAny (model X.prog X.w) X.A (call (.ref C) us) (EP X pins σ Q) X.xe s:=by
 have hq:=h (s.heap.objs.size + 1) s.heap.objs.size (I.hok.fresh (Nat.le_succ _)) (I.hok.fresh (Nat.le_refl _)) (Nat.ne_of_lt (Nat.lt_succ_self _))
 have I2:=Inv.made (C:=C) I
 have r2:Vals (V.ref (s.heap.objs.size + 1) :: (vs ++ dvs)) (Value.ref (s.heap.objs.size + 1) :: (us ++ ds)):=.cons rfl (r.append hd)
 have hl:(Value.ref (s.heap.objs.size + 1) :: us ++ ds).length=ps.length:=by
  have e:=r2.length
  rw[F.len _ _ _ _ hq] at e
  exact e.symm
 refine wpAny_call (Yr (f:=f) I.kIn M.makes M.init (beq_iff_eq.mp M.fn) (codeAny_mono (F.run _ X.stack _ _ ⟨Value.ref (s.heap.objs.size + 1) :: us,[]⟩ (Value.ref (s.heap.objs.size + 1) :: (us ++ ds)) _ _ E (hr.make C us [])
  (I2.env0.make C us []) (hb _ (Value.ref (s.heap.objs.size + 1) :: us) I2.kIn hl) r2 hq) fun r s' hq'=>?_))
 cases r with
 | error e=>exact hx pins σ _ _ e s' I2 hq'
 | ok fl=>
  cases fl with
  | ret u=>
   obtain ⟨v,H',I3,rv,ev,q3⟩:=I2.after hq'
   subst ev
   exact ⟨rv,⟨V.ref (s.heap.objs.size + 1),H',I3,rfl,q3⟩⟩
  | next=>exact False.elim hq'
  | brk=>exact False.elim hq'
  | cont=>exact False.elim hq'
theorem hC (M:Mk X.K C f) (F:bO X.prog X.w X.K X.mg X.base CX k f fd ps sp) (hr:Room (k + 1) X.A) (hg:Gl X x) (hm:X.mg x=some (.ref C)) (hb:Binds X.K fd ps ds) (hd:Vals dvs ds) (hx:qD CX X E)
  (ha:PA X (e :: es) t) (hdb:(x == ("__debug__" : Str))=false:=by decide) (he:starEach (e :: es) X.env=(false,eval e X.env) :: starEach es X.env:=by rfl) (hpl:(backTo pos (starEach es X.env)).any (·.1)=false:=by rfl) :
  PE X (.Call (.Name x p) (e :: es) [] pos) (Re C sp dvs E t):=by
 intro pins s σ H Q I h
 refine wpAny_Call_Name_kw (wE I hg hm ?_ hdb)
 refine PySem.W.callWith_K (h₀:=X.base) I.ok.mod.kin M.kp (eZ (ha pos pins s σ H _ I h) fun us s1 ⟨vs,H1,I1,r,q⟩=>⟨I1.kIn,?_⟩) he hpl
 exact Mo M F hr hb hd hx I1 r q
theorem Yy (M:Mk X.K C f) (F:bO X.prog X.w X.K X.mg X.base CX k f fd ps sp) (hr:Room (k + 1) X.A) (hg:Gl X x) (hm:X.mg x=some (.ref C)) (hb:Binds X.K fd ps ds) (hd:Vals dvs ds) (hx:qD CX X E)
  (hdb:(x == ("__debug__" : Str))=false:=by decide):PE X (.Call (.Name x p) [] [] pos) (Re C sp dvs E lQ):=by
 intro pins s σ H Q I h
 refine wpAny_Call_Name_kw (wE I hg hm ?_ hdb)
 exact PySem.W.callWith_K0 I.kIn M.kp (Mo (us:=[]) M F hr hb hd hx I .nil h)
end
def PK (X:Cx) (kws:List Keyword) (t:TA):Prop :=
 ∀ (pos:Pos) (pins:List (Addr×Obj)) (s:Shared) (σ:St) (H:Hp) (Q:List V→Hp→Prop),Inv X pins σ H s→t σ H Q→wpAny (model X.prog X.w) X.A (evalAll ((backToKw pos (keywordEach kws X.env)).map (·.2))) (AP X pins σ Q) X.xe s
section
variable {X:Cx}{CX:Vr}{k:Nat}{f C:Addr}{fd:FuncData}{ps ks:List Str}{sp:Sp}{E:XK}{x m:Str}{p pos apos kpos:Pos}{e o:Expr}{es:List Expr}{kws:List Keyword}{te ta:TE}{t tk:TA}{nm:Option Str}
theorem fz:PK X [] lQ:=fun _ _ _ _ H Q I h=>wpAny_evalAll_nil ⟨[],H,I,.nil,h⟩
theorem aw (ha:PE X e te) (hr:PK X kws t):PK X (⟨nm,e,kpos⟩ :: kws) (gJ te t):=by
 intro pos pins s σ H Q I h
 show wpAny _ _ (evalAll ((do let v ←eval e X.env;standAt pos;pure v) :: (backToKw pos (keywordEach kws X.env)).map (·.2))) _ _ s
 refine wpAny_evalAll_cons (wpAny_bind (eZ (ha pins s σ H _ I h) fun u s1 ⟨x,H1,I1,r1,q1⟩=>wpAny_bind (wpAny_standAt (wpAny_pure ?_))))
 exact eZ (hr pos pins s1 σ H1 _ I1 q1) fun us s2 ⟨xs,H2,I2,r2,q2⟩=>⟨x :: xs,H2,I2,.cons r1 r2,q2⟩
variable {g:List Value→List Value→List Value}{gV:List V→List V→List V}
end
structure aP (N P:List Str) (sc:Scope):Prop where
 kind:sc.kind = .function
 co:sc.isCoroutine=false
 gen:sc.isGenerator=false
 nd:N.Nodup
 pre:N.take P.length=P
 par:∀ x ∈ P,sc.names.lookup x=some .local ∨sc.names.lookup x=some .cell
 nofree:∀ y ∈ sc.names,y.2 ≠ .free
theorem Hq {kindOf:Str→Option NameKind}{x:Str}:∀ {binds:List (Str×Value)}{m:Str→Option Value},(∀ v,(x,v) ∉ binds)→bindL kindOf binds m x=m x
 | [],_,_=>rfl
 | (n,v) :: r,m,h=>by
  unfold bindL
  rw[Hq fun w hw=>h w (List.mem_cons_of_mem _ hw)]
  split
  ·have:x≠n:=by rintro rfl;exact h v List.mem_cons_self
   simp[this]
  ·rfl
theorem Hk {kindOf:Str→Option NameKind}{x:Str}:∀ {binds:List (Str×Value)}{m:Str→Option Value},(∀ v,(x,v) ∉ binds)→bindC kindOf binds m x=m x
 | [],_,_=>rfl
 | (n,v) :: r,m,h=>by
  unfold bindC
  rw[Hk fun w hw=>h w (List.mem_cons_of_mem _ hw)]
  split
  ·rfl
  ·have:x≠n:=by rintro rfl;exact h v List.mem_cons_self
   simp[this]
theorem Ia {kindOf:Str→Option NameKind}{x:Str}{v:Value}:∀ {P:List Str}{vs:List Value}{i:Nat}{m:Str→Option Value},P.Nodup→P[i]? = some x→vs[i]? = some v→kindOf x=some .local →
  bindL kindOf (P.zip vs) m x=some v
 | [],_,_,_,_,h,_,_=>by simp at h
 | _ :: _,[],_,_,_,_,h,_=>by simp at h
 | p :: P,w :: vs,0,m,nd,h1,h2,hk=>by
  simp at h1 h2;subst h1;subst h2
  show bindL kindOf ((p,w) :: P.zip vs) m p=_
  unfold bindL
  rw[Hq fun v hv=>(List.nodup_cons.mp nd).1 (List.of_mem_zip hv).1,if_pos hk]
  simp
 | p :: P,w :: vs,i + 1,m,nd,h1,h2,hk=>by
  show bindL kindOf ((p,w) :: P.zip vs) m x=_
  unfold bindL
  exact Ia (i:=i) (List.nodup_cons.mp nd).2 (by simpa using h1) (by simpa using h2) hk
theorem Ib {kindOf:Str→Option NameKind}{x:Str}{v:Value}:∀ {P:List Str}{vs:List Value}{i:Nat}{m:Str→Option Value},P.Nodup→P[i]? = some x→vs[i]? = some v→kindOf x≠some .local →
  bindC kindOf (P.zip vs) m x=some v
 | [],_,_,_,_,h,_,_=>by simp at h
 | _ :: _,[],_,_,_,_,h,_=>by simp at h
 | p :: P,w :: vs,0,m,nd,h1,h2,hk=>by
  simp at h1 h2;subst h1;subst h2
  show bindC kindOf ((p,w) :: P.zip vs) m p=_
  unfold bindC
  rw[Hk fun v hv=>(List.nodup_cons.mp nd).1 (List.of_mem_zip hv).1,if_neg hk]
  simp
 | p :: P,w :: vs,i + 1,m,nd,h1,h2,hk=>by
  show bindC kindOf ((p,w) :: P.zip vs) m x=_
  unfold bindC
  exact Ib (i:=i) (List.nodup_cons.mp nd).2 (by simpa using h1) (by simpa using h2) hk
def start (N:List Str) (vs:List V):St:=vs.map some ++ List.replicate (N.length - vs.length) none
def Sv (CX:Vr) (P:Program) (w:World) (K:PySem.W.Frag) (mg:Str→Option Value) (base:Heap) (N:List Str) (qual:Str) (scope:Scope) (f:Addr) (cd:Value) (A:Around) (outer:List Env) (s:Shared) (H:Hp) (E:XK):Cx where
 prog:=P
 w:=w
 K:=K
 mg:=mg
 base:=base
 A:=A.deeper (envOfC qual scope s.heap.objs.size f cd)
 N:=N
 s_0:=s
 H_0:=H
 env:=envOfC qual scope s.heap.objs.size f cd
 outer:=outer
 stack:=envOfC qual scope s.heap.objs.size f cd :: outer
 ex:=[]
 calm:=true
 fn:=fun _=>true
 pn:=[]
 xe:=fun e s'=>wpAny (model P w) (A.deeper (envOfC qual scope s.heap.objs.size f cd)) (leaving (envOfC qual scope s.heap.objs.size f cd) e) (fun _ s''=>CX outer H s E e s'') (fun e' s''=>CX outer H s E e' s'') s'
theorem Mt {sc:Scope}{n:Nat}{x:Str} (h:sc.names.lookup x=some .cell):∃ c,(cellsFrom n sc.names []).lookup x=some c:=by
 have q:=PySem.W.cellsFrom_some sc.names n [] (.inl h)
 exact Option.isSome_iff_exists.mp q
theorem Uy {CX:Vr}{P:Program}{w:World}{K:PySem.W.Frag}{mg:Str→Option Value}{base:Heap}{N ps:List Str}{qual:Str}{scope:Scope}{f:Addr}{cd:Value}{A:Around}{outer:List Env}{s s1:Shared}{H:Hp}{E:XK}{us:List Value}{vs:List V}
  (S:aP N ps scope) (hd:A.handled=none) (e0:Env0 P w K mg base A outer s H) (hl:vs.length=ps.length) (r:Vals vs us)
  (x:InCallC s s.heap.objs.size (bindL (envOfC qual scope s.heap.objs.size f cd).kindOf (ps.zip us) fun _=>none) (cellsFrom (s.heap.objs.size + 1) scope.names []) (bindC (envOfC qual scope s.heap.objs.size f cd).kindOf (ps.zip us) fun _=>none) s1) :
  Inv (Sv CX P w K mg base N qual scope f cd A outer s H E) [] (start N vs) H s1:=by
 have hpl:ps.length≤N.length:=by have:=congrArg List.length S.pre;rw[List.length_take] at this;omega
 obtain ⟨h1,tk,rfl,hk⟩:=x.done
 have noA:∀ b:Addr,b ∉ (Sv CX P w K mg base N qual scope f cd A outer s H E).ex:=fun b z=>absurd (show b ∈ ([]:List Addr) from z) (by simp)
 refine ⟨⟨e0.mod,S.kind,rfl,rfl,Nat.le_refl _,fun y z c h1 h2=>?_,fun y hy=>?_,fun y c _ h=>?_,fun _=>hd,Around.frames_deeper e0.frames,.inr ⟨rfl,rfl⟩,fun b z=>absurd z (noA b),e0.bs,e0.bsz,fun b _ _=>noA b,fun b z=>absurd z (noA b),e0.funs,e0.frf⟩,
  rfl,e0.bare,Un.kept hk,⟨_,x.toInCall.ns,fun i y v h1 h2 h3=>?_⟩,fun y c h=>⟨_,x.cell y c h⟩,e0.hok.fresh (Nat.le_refl _),fun y c h=>?_,fun p hp=>absurd (show p ∈ ([]:List (Addr×Obj)) from hp) (by simp),e0.hok.kept hk,?_⟩
 ·exact name_of_addr x.apart (PySem.mem_of_lookup h1) (PySem.mem_of_lookup h2)
 ·have hy:scope.names.lookup y=some .cell∨scope.names.lookup y=some .free:=hy
  rcases hy with hy | hy
  ·exact Mt hy
  ·exact absurd rfl (S.nofree _ (PySem.mem_of_lookup hy))
 ·exact Nat.le_of_lt (x.above y c (PySem.mem_of_lookup h))
 ·have hi:i<vs.length:=by
   unfold start at h2
   by_cases hi:i<vs.length
   ·exact hi
   ·rw[List.getElem?_append_right (by simpa using hi)] at h2
    rw[List.getElem?_replicate] at h2
    split at h2 <;> cases h2
  have ha:vs[i]? = some v:=by
   unfold start at h2
   rw[List.getElem?_append_left (by simpa using hi),List.getElem?_map] at h2
   cases e:vs[i]? with
   | none=>rw[e] at h2;cases h2
   | some a=>rw[e] at h2;cases h2;rfl
  obtain ⟨u,hu,rv⟩:=r.get ha
  have hp:ps[i]? = some y:=by
   rw[←S.pre,List.getElem?_take_of_lt (by omega)];exact h1
  have ndP:ps.Nodup:=by rw[←S.pre];exact S.nd.sublist (List.take_sublist _ _)
  refine ⟨u,rv,?_⟩
  rcases S.par y (List.mem_of_getElem? hp) with k | k
  ·exact .inl ⟨k,Ia ndP hp hu k⟩
  ·obtain ⟨c,e⟩:=Mt (n:=s.heap.objs.size + 1) k
   refine .inr ⟨.inl k,c,e,?_⟩
   have q:=x.cell y c e
   rw[Ib ndP hp hu (by show scope.names.lookup y≠_;rw[k];decide)] at q
   exact q
 ·exact e0.hok.fresh (Nat.le_of_lt (x.above y c (PySem.mem_of_lookup h)))
 ·unfold start
  show _=N.length
  rw[List.length_append,List.length_map,List.length_replicate]
  omega
theorem km {CX:Vr}{P:Program}{w:World}{K:PySem.W.Frag}{mg:Str→Option Value}{base:Heap}{k:Nat}{f:Addr}{name qual:Str}{params:Arguments}{body:List Stmt}{scope:Scope}{dV kV doc pm cdv ct oc:Value}{an od:Option Addr}
  {osl:Array (Option Value)}{N ps:List Str}{sp:Sp} (lk:K.lookup f=some ⟨oc,od,.func (PySem.W.fnOf name qual params body scope dV kV doc pm an cdv ct),osl⟩) (hcd:PySem.W.codeIn K cdv qual=true) (S:aP N ps scope)
  (len:∀ vs H Q E,sp vs H Q E→vs.length=ps.length)
  (hbody:∀ (A:Around) (outer:List Env) (s:Shared) (H:Hp) (vs:List V) (Q:VK) (E:XK),Room k (A.deeper (envOfC qual scope s.heap.objs.size f cdv))→sp vs H Q E →
   ∃ t,PSs (Sv CX P w K mg base N qual scope f cdv A outer s H E) body t∧t { nx:=fun _ H'=>Q .non H',rt:=Q } (start N vs) H) :
  bO P w K mg base CX (k + 1) f (PySem.W.fnOf name qual params body scope dV kV doc pm an cdv ct) ps sp:=by
 refine ⟨len,fun A outer s H args us vs Q E hr e0 hb r hsp=>?_⟩
 have hl:=len _ _ _ _ hsp
 have KX:K.In s.heap:=e0.mod.kin.keeps fun b o e=>(e0.bs b o e).1
 have lim:s.heap.NoLimit:=e0.mod.nolimit.keeps fun b o e=>(e0.bs b o e).1
 have hkind:∀ y ∈ ps.zip us,scope.names.lookup y.1=some .local ∨(scope.names.lookup y.1=some .cell∧((cellsFrom (s.heap.objs.size + 1) scope.names []).lookup y.1).isSome=true):=fun ⟨n,v⟩ hy=>by
  rcases S.par n (List.of_mem_zip hy).1 with q | q
  ·exact .inl q
  ·exact .inr ⟨q,PySem.W.cellsFrom_some _ _ _ (.inl q)⟩
 refine codeAny_call_function hr.depth (KX _ _ lk) rfl S.co S.gen rfl (PySem.W.codeRec_of KX hcd) (hb _ _ _ _ ?_)
 refine wpAny_newFunctionEnv_cells S.kind hkind fun env he s1 x=>?_
 subst he
 refine ⟨lim.keeps x.toInCall.keep,codeAny_func ?_⟩
 obtain ⟨t,ht,hq⟩:=hbody A outer s H vs Q E (hr.deeper _) hsp
 have I:Inv (Sv CX P w K mg base N qual scope f cdv A outer s H E) [] (start N vs) H s1:=Uy S hr.hd e0 hl r x
 refine wpAny_mono (ht [] s1 (start N vs) H _ I hq) (fun fl s' hs=>?_) fun e s' hs=>hs
 have wA:∀ {σ':St}{H':Hp}{v:V}{u:Value},Inv (Sv CX P w K mg base N qual scope f cdv A outer s H E) [] σ' H' s'→RelV v u→Q v H'→CE outer P w H s Q u s' :=
  fun {σ' H' v u} J rv q=>⟨v,H',J.os,J.bare,J.base,J.hok,rv,q⟩
 cases fl with
 | ret u=>
  obtain ⟨v,σ',H',J,rv,q⟩:=hs
  exact wA J rv q
 | next=>
  obtain ⟨σ',H',J,q⟩:=hs
  exact wA (v:=V.non) (u:=Value.none) J rfl q
 | brk=>
  obtain ⟨_,_,_,q⟩:=hs
  exact False.elim q
 | cont=>
  obtain ⟨_,_,_,q⟩:=hs
  exact False.elim q
end L2
namespace L2
open PySem PySem.Spec PyProof.Rows
section
variable {X:Cx}{x:Str}{p pos:Pos}{e:Expr}{es:List Expr}{t:TA}{id T:String}{r:List V→Hp→VK→Prop}
def du (r:List V→Hp→VK→Prop) (t:TA):TE:=fun σ H Q=>t σ H fun vs H1=>r vs H1 Q
theorem bU (hc:uN X (.builtin id) r) (hg:Gl X x) (hm:X.mg x=none) (hv:bootBuiltins x=some (.builtin id)) (ha:PA X (e :: es) t) (hn:x ≠ "__name__":=by decide) (hdb:(x == ("__debug__" : Str))=false:=by decide)
  (he:starEach (e :: es) X.env=(false,eval e X.env) :: starEach es X.env:=by rfl) (hpl:(backTo pos (starEach es X.env)).any (·.1)=false:=by rfl):PE X (.Call (.Name x p) (e :: es) [] pos) (du r t):=by
 intro pins s σ H Q I h
 refine wpAny_Call_Name_kw (xM I hg hm hv ?_ hn hdb)
 exact PyProof.Rows.callWith_builtin1 (eZ (ha pos pins s σ H _ I h) fun us s1 ⟨vs,H1,I1,r1,q1⟩=>hc pins s1 σ H1 vs us Q I1 r1 q1) he hpl
theorem pM (hc:uN X (.type T) r) (hg:Gl X x) (hm:X.mg x=none) (hv:bootBuiltins x=some (.type T)) (ha:PA X (e :: es) t) (hn:x ≠ "__name__":=by decide) (hdb:(x == ("__debug__" : Str))=false:=by decide)
  (he:starEach (e :: es) X.env=(false,eval e X.env) :: starEach es X.env:=by rfl) (hpl:(backTo pos (starEach es X.env)).any (·.1)=false:=by rfl):PE X (.Call (.Name x p) (e :: es) [] pos) (du r t):=by
 intro pins s σ H Q I h
 refine wpAny_Call_Name_kw (xM I hg hm hv ?_ hn hdb)
 exact PyProof.Rows.callWith_type1 (eZ (ha pos pins s σ H _ I h) fun us s1 ⟨vs,H1,I1,r1,q1⟩=>hc pins s1 σ H1 vs us Q I1 r1 q1) he hpl
end
end L2
namespace HT
open PySem PyProof.Rows
section
open PySem.SeqAt
open PySem.AutoSeq1 (wpAny_loadPart')
open PySem.MeetsSeq PySem.MeetsSeq2 PySem.MeetsSeq3
end
section
variable {prog:Program}{w:World}{A:Around}{E:Value→Shared→Prop}{s:Shared}
def sIx (n d:Nat):Option Int→Nat
 | none=>d
 | some v=>if v<0 then (v + (n:Int)).toNat else min v.toNat n
theorem sIx_nat (n d k:Nat):sIx n d (some (k:Int))=min k n:=by
 show (if (k:Int)<0 then ((k:Int) + (n:Int)).toNat else min (k:Int).toNat n)=min k n
 rw[if_neg (by omega),Int.toNat_natCast]
end
end HT
namespace L2
open PySem PySem.Spec PyProof.Rows
abbrev TO:=St→Hp→(Option Int→Hp→Prop)→Prop
def PO (X:Cx) (e:Option Expr) (t:TO):Prop :=
 ∀ (pins:List (Addr×Obj)) (s:Shared) (σ:St) (H:Hp) (Q:Option Int→Hp→Prop),Inv X pins σ H s→t σ H Q →
  wpAny (model X.prog X.w) X.A (evalPart e X.env) (fun u s'=>∃ o H',Inv X pins σ H' s'∧IsPart u o∧Q o H') X.xe s
def Rl:TO:=fun _ H Q=>Q none H
def df (t:TE):TO:=fun σ H Q=>t σ H fun x H1=>∃ i,x = .int i∧Q (some i) H1
section
variable {X:Cx}{e:Expr}{te:TE}{lo hi:Option Expr}{tl th:TO}{pos p2:Pos}
theorem Bi:PO X none Rl:=by
 intro pins s σ H Q I h
 rw[evalPart_none]
 exact wpAny_pure ⟨none,H,I,.none,h⟩
theorem nP (h:PE X e te):PO X (some e) (df te):=by
 intro pins s σ H Q I hw
 rw[evalPart_some]
 refine eZ (h pins s σ H _ I hw) fun u s1 ⟨x,H1,I1,r1,q1⟩=>?_
 obtain ⟨i,rfl,q⟩:=q1
 obtain ⟨t,rfl⟩:=r1
 exact ⟨some i,H1,I1,.int i t,q⟩
def qb (X:Cx) (r:V→Option Int→Option Int→Hp→VK→Prop):Prop :=
 ∀ (pins:List (Addr×Obj)) (s:Shared) (σ:St) (H:Hp) (x:V) (v vl vu:Value) (lo hi:Option Int) (sl:Addr) (Q:VK),Inv X pins σ H s→RelV x v→s.heap.IsSliceOf sl vl vu .none→IsPart vl lo→IsPart vu hi→r x lo hi H Q →
  ∃ T id,typeLookup (.type T) "__getitem__" = pure (some (.builtin id))∧s.TypeIs v T∧wpAny (model X.prog X.w) X.A (getItem v (.ref sl)) (EP X pins σ Q) X.xe s
def nu (r:V→Option Int→Option Int→Hp→VK→Prop) (te:TE) (tl th:TO):TE:=fun σ H Q=>te σ H fun x H1=>tl σ H1 fun l H2=>th σ H2 fun u H3=>r x l u H3 Q
theorem pG {r:V→Option Int→Option Int→Hp→VK→Prop} (hr:qb X r) (he:PE X e te) (hl:PO X lo tl) (hu:PO X hi th):PE X (.Subscript e (.Slice lo hi none p2) pos) (nu r te tl th):=by
 intro pins s σ H Q I h
 refine Subscript_ (eZ (he pins s σ H _ I h) fun v s1 ⟨x,H1,I1,r1,q1⟩=>?_)
 refine wpAny_Slice (eZ (hl pins s1 σ H1 _ I1 q1) fun vl s2 ⟨l,H2,I2,pl,q2⟩=>eZ (hu pins s2 σ H2 _ I2 q2) fun vu s3 ⟨u,H3,I3,pu,q3⟩=>?_)
 rw[evalPart_none]
 refine wpAny_pure ?_
 have I4:Inv X pins σ H3 { s3 with heap:=s3.heap.push { cls:=.type "slice",data:=.fields #[vl,vu,.none] } }:=I3.kept (t':=s3.toks) fun b ob q=>Heap.get?_push_of_some _ q
 obtain ⟨T,id,hT,ht,hg⟩:=hr pins { s3 with heap:=s3.heap.push { cls:=.type "slice",data:=.fields #[vl,vu,.none] } } σ H3 x v vl vu l u s3.heap.objs.size Q I4 r1 (Heap.IsSliceOf.new ..) pl pu q3
 show wpAny (model X.prog X.w) X.A (subscriptTail e (.Slice lo hi none p2) v (.ref s3.heap.objs.size)) (EP X pins σ Q) X.xe { s3 with heap:=s3.heap.push { cls:=.type "slice",data:=.fields #[vl,vu,.none] } }
 exact tail_any (ops:=[.ref s3.heap.objs.size,v]) ht hT hg (by with_unfolding_all rfl)
def xJ (xs:List V) (lo hi:Option Int):List V:=(xs.drop (HT.sIx xs.length 0 lo)).take (HT.sIx xs.length xs.length hi - HT.sIx xs.length 0 lo)
theorem Nc (xs:List V) (lo hi:Option Int):(xJ xs lo hi).length≤xs.length:=by
 unfold xJ
 rw[List.length_take,List.length_drop]
 omega
end
end L2
namespace L2
open PySem PySem.Spec PyProof.Rows
def cp (n:Nat) (i:Int):Option Nat:=if 0≤i then (if i<n then some i.toNat else none) else if -(n:Int)≤i then some (i + n).toNat else none
def Gs {α:Type} (xs:List α) (i:Int):Option α:=(cp xs.length i).bind fun j=>xs[j]?
theorem bh {n:Nat}{i:Int}{j:Nat} (h:cp n i=some j):seqIndex? i n=some j∧j<n ∧ -(n:Int)≤i∧i<n:=by
 unfold cp at h
 by_cases h0:0≤i
 ·rw[if_pos h0] at h
  by_cases h1:i<n
  ·rw[if_pos h1] at h
   have e:i.toNat=j:=Option.some.inj h
   exact ⟨by rw[seqIndex_of h0 h1,e],by omega,by omega,h1⟩
  ·rw[if_neg h1] at h;cases h
 ·rw[if_neg h0] at h
  by_cases h1 : -(n:Int)≤i
  ·rw[if_pos h1] at h
   have e:(i + n).toNat=j:=Option.some.inj h
   exact ⟨by rw[seqIndex_neg (by omega) h1,e],by omega,h1,by omega⟩
  ·rw[if_neg h1] at h;cases h
theorem Rx {α:Type}{xs:List α}{i:Int}{v:α} (h:Gs xs i=some v):∃ j,seqIndex? i xs.length=some j∧xs[j]? = some v∧j<xs.length ∧ -(xs.length:Int)≤i∧i<xs.length:=by
 unfold Gs at h
 cases e:cp xs.length i with
 | none=>rw[e] at h;cases h
 | some j=>
  rw[e] at h
  obtain ⟨h1,h2,h3,h4⟩:=bh e
  exact ⟨j,h1,h,h2,h3,h4⟩
theorem wI {α:Type}{xs:List α}{j:Nat}{v:α} (h:xs[j]? = some v):Gs xs (j:Int)=some v:=by
 have hj:j<xs.length:=(List.getElem?_eq_some_iff.mp h).1
 have e:cp xs.length (j:Int)=some j:=by
  unfold cp
  rw[if_pos (by omega),if_pos (by omega)];simp
 unfold Gs;rw[e];exact h
theorem Ml {α:Type} (xs:List α) (v:α):Gs (xs ++ [v]) (-1)=some v:=by
 have hl:(xs ++ [v]).length=xs.length + 1:=by simp
 have e:cp (xs ++ [v]).length (-1)=some xs.length:=by
  unfold cp
  rw[hl,if_neg (by decide),if_pos (by omega)]
  congr 1
  omega
 unfold Gs
 rw[e]
 show (xs ++ [v])[xs.length]? = some v
 simp
def bj (b:Expr):Prop:=∀ o i,subscripted b false o i=operate [o,i] (getItem o i)
def ml (X:Cx) (r:R2):Prop :=
 ∀ (value slice:Expr) (pins:List (Addr×Obj)) (s:Shared) (σ:St) (H:Hp) (x y:V) (v u:Value) (Q:VK),Inv X pins σ H s→RelV x v→RelV y u→r x y H Q →
  subscripted slice false v u=operate [v,u] (getItem v u)→wpAny (model X.prog X.w) X.A (subscriptTail value slice v u) (EP X pins σ Q) X.xe s
def mo (X:Cx) (id:String) (r:V→List V→Hp→VK→Prop):Prop :=
 ∀ (pins:List (Addr×Obj)) (s:Shared) (σ:St) (H:Hp) (x:V) (xs:List V) (v:Value) (us:List Value) (Q:VK),Inv X pins σ H s→RelV x v→Vals xs us→r x xs H Q →
  wpAny (model X.prog X.w) X.A (call (.builtin id) (v :: us)) (EP X pins σ Q) X.xe s
section
variable {X:Cx}{a b:Expr}{ta tb:TE}{pos:Pos}
theorem bX {r:R2} (hr:ml X r) (ha:PE X a ta) (hb:PE X b tb) (hs:bj b):PE X (.Subscript a b pos) (Fh r ta tb):=by
 intro pins s σ H Q I h
 exact Subscript_ (em ha hb I h fun v u s2 x y H2 I2 rx ry q=>hr a b pins s2 σ H2 x y v u Q I2 rx ry q (hs _ _))
def ff (K:PySem.W.Frag):R2:=fun x y H Q=>∃ p xs i v,x = .ref p∧y = .int i∧SqL K H p xs∧Gs xs i=some v∧Q v H
def ju (K:PySem.W.Frag):R2:=fun x y H Q=>∃ p xs i v,x = .ref p∧y = .int i∧SqT K H p xs∧Gs xs i=some v∧Q v H
theorem bC:ml X (ff X.K):=by
 intro value slice pins s σ H x y v u Q I rx ry h hs
 obtain ⟨p,xs,i,z,rfl,rfl,hq,he,q⟩:=h
 cases rx
 obtain ⟨t,rfl⟩:=ry
 obtain ⟨its,r,pl,hz⟩:=I.list hq
 obtain ⟨j,h1,h2,h3,h4,h5⟩:=Rx he
 obtain ⟨w,ew,rw'⟩:=r.get h2
 have hl:=r.length
 have hn:=Ov
 have wA:EP X pins σ Q w s:=⟨z,H,I,rw',q⟩
 by_cases h0:0≤i
 ·have hj:i.toNat=j:=by
   rw[seqIndex_of h0 h5] at h1
   exact Option.some.inj h1
  exact item_listR pl.isList h0 (by omega) (by rw[hj];simpa using ew) wA hs
 ·have hj:(i + (its.toArray.size:Int)).toNat=j:=by
   rw[seqIndex_neg (by omega) h4] at h1
   rw[List.size_toArray,←hl]
   exact Option.some.inj h1
  exact subscriptTail_builtinR (x:=w) pl.isList.typeIs slot_list_getitem.lookup
   (wpAny_getItem_list_neg (Q:=fun r s'=>r=w∧EP X pins σ Q r s') pl.isList (by omega) (by rw[List.size_toArray] <;> omega) (by omega) (by rw[hj];simpa using ew) ⟨rfl,wA⟩) hs
theorem xK:ml X (ju X.K):=by
 intro value slice pins s σ H x y v u Q I rx ry h hs
 obtain ⟨p,xs,i,z,rfl,rfl,hq,he,q⟩:=h
 cases rx
 obtain ⟨t,rfl⟩:=ry
 obtain ⟨its,r,pl,hz⟩:=I.tuple hq
 obtain ⟨j,h1,h2,h3,h4,h5⟩:=Rx he
 obtain ⟨w,ew,rw'⟩:=r.get h2
 have hl:=r.length
 have hn:=Ov
 have wA:EP X pins σ Q w s:=⟨z,H,I,rw',q⟩
 exact subscriptTail_builtinR (x:=w) pl.typeIs slot_tuple_getitem.lookup
  (getItem_tuple (j:=j) (Q:=fun r s'=>r=w∧EP X pins σ Q r s') pl (by omega) (by omega) (by rw[List.size_toArray,←hl];exact h1) (by simpa using ew) ⟨rfl,wA⟩) hs
theorem Km (lo hi:Option Int) (n:Nat):(sliceBounds lo hi none n).1=((HT.sIx n 0 lo:Nat):Int)∧(sliceBounds lo hi none n).2.1=((HT.sIx n n hi:Nat):Int)∧(sliceBounds lo hi none n).2.2=1:=by
 refine ⟨?_,?_,rfl⟩
 ·cases lo with
  | none=>simp[sliceBounds,HT.sIx]
  | some i=>
   simp only[sliceBounds,HT.sIx,Option.getD_none,show (1:Int) > 0 by decide,if_true]
   by_cases h:i<0
   ·simp only[h,if_true] <;> omega
   ·simp only[h,if_false] <;> omega
 ·cases hi with
  | none=>simp[sliceBounds,HT.sIx]
  | some i=>
   simp only[sliceBounds,HT.sIx,Option.getD_none,show (1:Int) > 0 by decide,if_true]
   by_cases h:i<0
   ·simp only[h,if_true] <;> omega
   ·simp only[h,if_false] <;> omega
theorem Fm (its:List Value) (lo hi:Option Int):slicePick its.toArray lo hi none=((its.drop (HT.sIx its.length 0 lo)).take (HT.sIx its.length its.length hi - HT.sIx its.length 0 lo)).toArray:=by
 obtain ⟨h1,h2,h3⟩:=Km lo hi its.toArray.size
 unfold slicePick
 rw[h1,h2,h3]
 simp only[sliceRange_one,pick_run,List.size_toArray] <;> rfl
def fg (K:PySem.W.Frag):V→Option Int→Option Int→Hp→VK→Prop:=fun x lo hi H Q=>∃ a xs,x = .ref a∧SqL K H a xs∧∀ p,H p=none→Q (.ref p) (cA H p (.lst (xJ xs lo hi)))
theorem uA:qb X (fg X.K):=by
 intro pins s σ H x v vl vu lo hi sl Q I rx hs pl pu h
 obtain ⟨a,xs,rfl,hx,q⟩:=h
 cases rx
 obtain ⟨its,r,ht,hz⟩:=I.list hx
 have hlen:=r.length
 refine ⟨"list",_,slot_list_getitem.lookup,ht.isList.typeIs,?_⟩
 refine wpAny_getItem_list_slice ht.isList hs pl pu .none (by simp) ?_ (by rw[List.size_toArray] <;> omega)
 rw[Fm,←hlen]
 refine ⟨.ref s.heap.objs.size,_,I.laid (t':=s.toks) (o:=.lst (xJ xs lo hi)) (fun b ob q=>Heap.get?_push_of_some _ q) (Nat.le_refl _) ?_,rfl,q _ (I.hok.fresh (Nat.le_refl _))⟩
 exact ⟨Nat.le_trans (Nc xs lo hi) hz,_,0,(r.drop (HT.sIx xs.length 0 lo)).take (HT.sIx xs.length xs.length hi - HT.sIx xs.length 0 lo),Heap.get?_push_size _ rfl⟩
theorem bG:uN X (.builtin "len") (fun xs H Q=>∃ p ys,xs=[.ref p]∧(SqL X.K H p ys∨SqT X.K H p ys)∧Q (.int ys.length) H):=by
 intro pins s σ H xs us Q I r h
 obtain ⟨p,ys,rfl,hq,q⟩:=h
 obtain ⟨u,rfl,rx⟩:=Gy r
 cases rx
 have hn:=Ov
 rcases hq with hq | hq
 ·obtain ⟨its,r',pl,hz⟩:=I.list hq
  have hlen:=r'.length
  exact Calls.call_len_list pl.isList (by simp only[List.size_toArray] <;> omega) ⟨.int ys.length,H,I.tok _,⟨s.toks + 1,by rw[List.size_toArray,hlen]⟩,q⟩
 ·obtain ⟨its,r',pl,hz⟩:=I.tuple hq
  have hlen:=r'.length
  exact len_tuple pl (by simp only[List.size_toArray] <;> omega) ⟨.int ys.length,H,I.tok _,⟨s.toks + 1,by rw[List.size_toArray,hlen]⟩,q⟩
theorem lL:uN X (.type "list") (fun xs H Q=>∃ p ys,xs=[.ref p]∧(SqL X.K H p ys∨SqT X.K H p ys)∧∀ l,H l=none→Q (.ref l) (cA H l (.lst ys))):=by
 intro pins s σ H xs us Q I r h
 obtain ⟨p,ys,rfl,hq,q⟩:=h
 obtain ⟨u,rfl,rx⟩:=Gy r
 cases rx
 have wA:∀ (its:List Value),Vals ys its→ys.length≤sizeLine→∀ (h':Heap) (c':Nat),(∀ b o',s.heap.get? b=some o'→h'.get? b=some o') →
   h'.get? s.heap.objs.size=some { cls:=.type "list",dict:=none,data:=.seq its.toArray c',slots:=#[] }→EP X pins σ Q (.ref s.heap.objs.size) { s with heap:=h' }:=fun its r' hz h' c' kp e=>
  ⟨.ref s.heap.objs.size,_,I.laid (t':=s.toks) kp (Nat.le_refl _) (show ObjOk X.prog X.w _ h' _ (.lst ys) from ⟨hz,its,c',r',e⟩),rfl,q _ (I.hok.fresh (Nat.le_refl _))⟩
 rcases hq with hq | hq
 ·obtain ⟨its,r',pl,hz⟩:=I.list hq
  have hlen:=r'.length
  obtain ⟨o,ho,hc,n,hd⟩:=pl.isList
  exact call_list_seq p (.inl rfl) ho hc hd (fun h' c' kp e=>wA its r' hz h' c' kp e) (by simp only[List.size_toArray] <;> omega)
 ·obtain ⟨its,r',pl,hz⟩:=I.tuple hq
  have hlen:=r'.length
  obtain ⟨o,ho,hc,n,hd⟩:=pl
  exact call_list_seq p (.inr rfl) ho hc hd (fun h' c' kp e=>wA its r' hz h' c' kp e) (by simp only[List.size_toArray] <;> omega)
def nh (K:PySem.W.Frag) (T:String) (x:V) (H:Hp):Prop:=match x with
 | .str _=>T = "str"
 | .int _=>T = "int"
 | .ref p=>(T = "list" ∧ ∃ xs,SqL K H p xs)∨(T = "tuple" ∧ ∃ o,K.lookup p=some o∧o.cls = .type "tuple" ∧ o.dict=none) ∨
   (T = "dict" ∧ ((∃ kvs,H p=some (.dK kvs))∨∃ kvs,H p=some (.dT kvs)))∨(T = "set" ∧ ∃ S n,H p=some (.set S n))
 | _=>False
theorem Xj {pins:List (Addr×Obj)}{σ:St}{H:Hp}{s:Shared}{T:String}{x:V}{v:Value} (I:Inv X pins σ H s) (r:RelV x v) (ty:nh X.K T x H) :
  s.TypeIs v T∧∀ a,v = .ref a→∃ ob,s.heap.get? a=some ob∧ob.dict=none:=by
 cases x with
 | str z=>
  obtain ⟨t,rfl⟩:=r
  cases (show T = "str" from ty)
  exact ⟨typeIs_str s z t,fun _ e=>nomatch e⟩
 | int i=>
  obtain ⟨t,rfl⟩:=r
  cases (show T = "int" from ty)
  exact ⟨typeIs_int s i t,fun _ e=>nomatch e⟩
 | ref p=>
  cases r
  rcases ty with ⟨rfl,xs,hq⟩ | ⟨rfl,o,hk,hc,hd⟩ | ⟨rfl,hk⟩ | ⟨rfl,S,n,hk⟩
  ·obtain ⟨its,_,pl,_⟩:=I.list hq
   refine ⟨pl.isList.typeIs,fun a e=>?_⟩
   cases e
   obtain ⟨o,n,e,c,hd,_⟩:=pl
   exact ⟨o,e,hd⟩
  ·refine ⟨⟨o,I.kIn p o hk,hc⟩,fun a e=>?_⟩
   cases e
   exact ⟨o,I.kIn _ o hk,hd⟩
  ·have z:∃ o,s.heap.get? p=some o∧o.ExactDict:=by
    rcases hk with ⟨kvs,hk⟩ | ⟨kvs,hk⟩
    ·obtain ⟨_,_,_,_,o,_,_,e,ex,_⟩:=I.hok p _ hk
     exact ⟨o,e,ex⟩
    ·obtain ⟨_,_,_,_,o,_,_,e,ex,_⟩:=I.hok p _ hk
     exact ⟨o,e,ex⟩
   obtain ⟨o,e,ex⟩:=z
   refine ⟨⟨o,e,ex.1⟩,fun a e2=>?_⟩
   cases e2
   exact ⟨o,e,ex.2.1⟩
  ·obtain ⟨o,_,_,_,e,ex,_⟩:=I.hok p _ hk
   refine ⟨⟨o,e,ex.1⟩,fun a e2=>?_⟩
   cases e2
   exact ⟨o,e,ex.2.1⟩
 | _=>exact False.elim ty
def jw (K:PySem.W.Frag) (T:String) (r:V→List V→Hp→VK→Prop) (to:TE):TE:=fun σ H Q=>to σ H fun x H1=>nh K T x H1∧r x [] H1 Q
def dv (K:PySem.W.Frag) (T:String) (r:V→List V→Hp→VK→Prop) (to:TE) (t:TA):TE:=fun σ H Q=>to σ H fun x H1=>nh K T x H1∧t σ H1 fun xs H2=>r x xs H2 Q
variable {o e:Expr}{es:List Expr}{to:TE}{t:TA}{name:Str}{apos cpos:Pos}{T id:String}{r:V→List V→Hp→VK→Prop}
theorem Op (pa:PlainAttrs T) (slot:Slot T name id) (hty:typeOf (.builtin id)=pure (.type "method_descriptor")) (hm:mo X id r) (ho:PE X o to)
  (hbase:attributeBase o name X.env (eval o X.env)=eval o X.env:=by rfl) (hline:(apos.endLine == cpos.line)=true:=by rfl):PE X (.Call (.Attribute o name apos) [] [] cpos) (jw X.K T r to):=by
 intro pins s σ H Q I h
 refine wpAny_Call_method0_late hbase hline (eZ (ho pins s σ H _ I h) fun v s1 ⟨x,H1,I1,r1,ty,q1⟩=>?_)
 obtain ⟨h1,h2⟩:=Xj I1 r1 ty
 exact ⟨T,id,pa,slot,hty,h1,h2,Calls.callWith_builtin rfl (PySem.evalArgs_none (hm pins s1 σ H1 x [] v [] Q I1 r1 .nil q1))⟩
theorem fG (pa:PlainAttrs T) (slot:Slot T name id) (hty:typeOf (.builtin id)=pure (.type "method_descriptor")) (hm:mo X id r) (ho:PE X o to) (ha:PA X (e :: es) t)
  (hbase:attributeBase o name X.env (eval o X.env)=eval o X.env:=by rfl)
  (hfew:((backTo cpos (starEach (e :: es) X.env)).all (fun x=>!x.1) && (backToKw cpos (keywordEach [] X.env)).all (fun x=>x.1.isSome)
   && decide ((e :: es).length + ([]:List Keyword).length + (if ([]:List Keyword).isEmpty then 0 else 1)<30))=true:=by rfl)
  (hline:(apos.endLine == cpos.line)=true:=by rfl) (hs:starEach (e :: es) X.env=(false,eval e X.env) :: starEach es X.env:=by rfl) (hplain:(backTo cpos (starEach es X.env)).any (·.1)=false:=by rfl) :
  PE X (.Call (.Attribute o name apos) (e :: es) [] cpos) (dv X.K T r to t):=by
 intro pins s σ H Q I h
 refine wpAny_Call_method_late hbase hfew hline rfl (eZ (ho pins s σ H _ I h) fun v s1 ⟨x,H1,I1,r1,ty,q1⟩=>?_)
 obtain ⟨h1,h2⟩:=Xj I1 r1 ty
 refine ⟨T,id,pa,slot,hty,h1,h2,?_⟩
 have hA:=ha cpos pins s1 σ H1 _ I1 q1
 rw[hs] at hA ⊢
 refine Calls.callWith_builtin (by show (false || (backTo cpos (starEach es X.env)).any (·.1))=false;rw[hplain] <;> rfl) (Calls.evalArgs_plain ?_)
 exact eZ hA fun us s2 ⟨vs,H2,I2,r2,q2⟩=>hm pins s2 σ H2 x vs v us Q I2 r1 r2 q2
end
end L2
namespace L2
open PySem PySem.Spec PyProof.Rows
def jo (X:Cx) (id:String) (r:V→List V→Hp→VK→Prop):Prop :=
 ∀ (pins:List (Addr×Obj)) (s:Shared) (σ:St) (H:Hp) (x:V) (xs:List V) (v:Value) (us:List Value) (Q:VK),Inv X pins σ H s→RelV x v→Vals xs us→r x xs H Q →
  wpAny (model X.prog X.w) X.A (call (.builtin id) (v :: us)) (EP X pins σ Q) X.xe s
theorem Vals.one:∀ {x:V}{us:List Value},Vals [x] us→∃ u,us=[u]∧RelV x u
 | _,_,.cons r .nil=>⟨_,rfl,r⟩
theorem Vals.zero:∀ {us:List Value},Vals [] us→us=[]
 | _,.nil=>rfl
theorem Vals.dropLast {xs:List V}{us:List Value} (h:Vals xs us):Vals xs.dropLast us.dropLast:=by
 induction h with
 | nil=>exact .nil
 | cons r t ih=>
  cases t with
  | nil=>exact .nil
  | cons q t'=>exact .cons r ih
theorem Vals.eraseIdx:∀ {xs:List V}{us:List Value} (i:Nat),Vals xs us→Vals (xs.eraseIdx i) (us.eraseIdx i)
 | _,_,_,.nil=>.nil
 | _,_,0,.cons _ t=>t
 | _,_,i + 1,.cons r t=>.cons r (Vals.eraseIdx i t)
theorem Vals.reverse {xs:List V}{us:List Value} (h:Vals xs us):Vals xs.reverse us.reverse:=by
 induction h with
 | nil=>exact .nil
 | cons r t ih=>rw[List.reverse_cons,List.reverse_cons];exact Vals.append ih (.cons r .nil)
theorem Qv {α:Type} (l:List α):l.eraseIdx (l.length - 1)=l.dropLast:=by
 induction l with
 | nil=>rfl
 | cons a r ih=>
  cases r with
  | nil=>rfl
  | cons b r=>
   have e:(a :: b :: r).length - 1=((b :: r).length - 1) + 1:=by
    have h1:(a :: b :: r).length=r.length + 2:=rfl
    have h2:(b :: r).length=r.length + 1:=rfl
    omega
   rw[e,List.eraseIdx_cons_succ,ih]
   all_goals rfl
theorem Hr {α:Type}:∀ (l:List α) (i:Nat),(l.eraseIdx i).length≤l.length
 | [],_=>Nat.le_refl _
 | _ :: _,0=>Nat.le_succ _
 | _ :: r,i + 1=>Nat.succ_le_succ (Hr r i)
section
variable {X:Cx}{pins:List (Addr×Obj)}{σ:St}{H:Hp}{s:Shared}{l b:Addr}{xs ys zs:List V}
theorem Inv.lset {its its':List Value}{n:Nat}{f:Array Value→Array Value}{t':Nat} (I:Inv X pins σ H s) (hH:H l=some (.lst xs))
  (e:s.heap.get? l=some { cls:=.type "list",data:=.seq its.toArray n }) (hf:f its.toArray=its'.toArray) (hv:Vals ys its') (hz:ys.length≤sizeLine) :
  Inv X pins σ (cA H l (.lst ys)) { s with heap:=s.heap.update l (Obj.mapSeq f),toks:=t' }:=by
 have q:=PySem.IsL.update e f
 rw[hf] at q
 refine I.write (x:=l) (e:=l) (by rw[hH];exact trivial) (.inl rfl) (fun b' u hb hu=>(Heap.get?_update_other s.heap (Obj.mapSeq f) (Ne.symm hb)).trans hu) ⟨_,q⟩ ?_
 exact ⟨hz,its',_,hv,q⟩
theorem Inv.lnew {its:List Value}{t':Nat} (I:Inv X pins σ H s) (hv:Vals ys its) (hz:ys.length≤sizeLine) :
  Inv X pins σ (cA H s.heap.objs.size (.lst ys)) { s with heap:=s.heap.push { cls:=.type "list",data:=.seq its.toArray },toks:=t' } :=
 I.laid (fun _ _ q=>Heap.get?_push_of_some _ q) (Nat.le_refl _) ⟨hz,its,0,hv,Heap.get?_push_size _ rfl⟩
theorem Inv.fresh (I:Inv X pins σ H s):H s.heap.objs.size=none:=I.hok.fresh (Nat.le_refl _)
theorem Inv.lstM (I:Inv X pins σ H s) (hH:H l=some (.lst xs)):xs.length≤sizeLine∧∃ (its:List Value) (n:Nat),Vals xs its∧xs.length=its.length∧s.heap.get? l=some { cls:=.type "list",data:=.seq its.toArray n }:=by
 obtain ⟨z,its,n,r,e⟩:=I.hok l _ hH
 exact ⟨z,its,n,r,r.length,e⟩
theorem Ys {n:Nat} (h:n≤sizeLine):Builtin.List.listTooLong n=false:=by
 unfold Builtin.List.listTooLong
 exact decide_eq_false (by omega)
end
section
variable {X:Cx}
def tZ:V→List V→Hp→VK→Prop:=fun x vs H Q=>∃ l xs y,x = .ref l∧vs=[y]∧H l=some (.lst xs)∧xs.length<sizeLine∧Q .non (cA H l (.lst (xs ++ [y])))
theorem dB:jo X "list.append" tZ:=by
 intro pins s σ H x vs v us Q I rx rv h
 obtain ⟨l,xs,y,rfl,rfl,hH,hz,q⟩:=h
 cases rx
 obtain ⟨u,rfl,ru⟩:=rv.one
 obtain ⟨z,its,n,r,hl,e⟩:=I.lstM hH
 refine call_meets F.slot_list_append ⟨_,e,rfl⟩ F.entry_list_append (F.args_list_append_2 _ _) (PySem.list_append l its.toArray n u (by rw[List.size_toArray];omega)) ⟨e,?_⟩
 refine ⟨.non,_,I.lset (its':=its ++ [u]) hH e (by simp) (r.append (.cons ru .nil)) ?_,rfl,q⟩
 rw[List.length_append,List.length_singleton]
 omega
def Bg:V→List V→Hp→VK→Prop:=fun x vs H Q=>∃ l b xs zs,x = .ref l∧vs=[.ref b]∧H l=some (.lst xs)∧H b=some (.lst zs)∧xs.length + zs.length≤sizeLine∧Q .non (cA H l (.lst (xs ++ zs)))
theorem iY:jo X "list.extend" Bg:=by
 intro pins s σ H x vs v us Q I rx rv h
 obtain ⟨l,b,xs,zs,rfl,rfl,hH,hB,hz,q⟩:=h
 cases rx
 obtain ⟨u,rfl,ru⟩:=rv.one
 cases ru
 obtain ⟨z,its,n,r,hl,e⟩:=I.lstM hH
 obtain ⟨z2,its2,n2,r2,hl2,e2⟩:=I.lstM hB
 have hsz:its.toArray.size + its2.toArray.size≤sizeLine:=by rw[List.size_toArray,List.size_toArray];omega
 have hlong:¬ (!its.toArray.isEmpty && Builtin.List.listTooLong (its.toArray.size + its2.toArray.size))=true:=by
  rw[Ys hsz,Bool.and_false]
  exact Bool.false_ne_true
 refine call_meets F.slot_list_extend ⟨_,e,rfl⟩ F.entry_list_extend (F.args_list_extend_2 _ _)
  (AutoSeq1.list_extend_list_list_0 l its.toArray n b its2.toArray n2 hlong (by rw[List.size_toArray];omega) (by omega)) ⟨e,e2,?_⟩
 refine ⟨.non,_,I.lset (its':=its ++ its2) hH e (by simp) (r.append r2) ?_,rfl,q⟩
 rw[List.length_append]
 omega
def pz:V→List V→Hp→VK→Prop:=fun x vs H Q=>∃ l xs y,x = .ref l∧vs=[]∧H l=some (.lst xs)∧xs[xs.length - 1]? = some y∧Q y (cA H l (.lst xs.dropLast))
theorem ib:jo X "list.pop" pz:=by
 intro pins s σ H x vs v us Q I rx rv h
 obtain ⟨l,xs,y,rfl,rfl,hH,hy,q⟩:=h
 cases rx
 have hus:=rv.zero
 subst hus
 obtain ⟨z,its,n,r,hl,e⟩:=I.lstM hH
 obtain ⟨u,hu,ru⟩:=r.get hy
 have hy':its.toArray[its.toArray.size - 1]? = some u:=by
  show its.toArray[its.length - 1]? = some u
  rw[←Array.getElem?_toList,←hl]
  exact hu
 refine call_meets F.slot_list_pop ⟨_,e,rfl⟩ F.entry_list_pop (F.args_list_pop_1 _) (MeetsSeq.list_pop_last l its.toArray n u hy' (by rw[List.size_toArray];omega)) ⟨e,?_⟩
 refine ⟨y,_,I.lset (its':=its.dropLast) hH e ?_ r.dropLast ?_,ru,q⟩
 ·show its.toArray.eraseIdxIfInBounds (its.toArray.size - 1)=its.dropLast.toArray
  rw[List.size_toArray,List.eraseIdxIfInBounds_toArray,Qv]
 ·rw[List.length_dropLast]
  omega
def ie:V→List V→Hp→VK→Prop:=fun x vs H Q=>∃ l xs i k y,x = .ref l∧vs=[.int i]∧H l=some (.lst xs) ∧ -(2 ^ 63)≤i∧i<2 ^ 63∧seqIndex? i xs.length=some k∧xs[k]? = some y∧Q y (cA H l (.lst (xs.eraseIdx k)))
theorem Yb:jo X "list.pop" ie:=by
 intro pins s σ H x vs v us Q I rx rv h
 obtain ⟨l,xs,i,k,y,rfl,rfl,hH,h1,h2,hk,hy,q⟩:=h
 cases rx
 obtain ⟨u,rfl,ru⟩:=rv.one
 obtain ⟨t,rfl⟩:=ru
 obtain ⟨z,its,n,r,hl,e⟩:=I.lstM hH
 obtain ⟨w,hw,rw'⟩:=r.get hy
 refine call_meets F.slot_list_pop ⟨_,e,rfl⟩ F.entry_list_pop (F.args_list_pop_2 _ _)
  (MeetsSeq.list_pop_at l its.toArray n i t k w (fitsIndex_both h1 h2) (by rw[List.size_toArray,←hl];exact hk) (by rw[←Array.getElem?_toList];exact hw) (by rw[List.size_toArray];omega)) ⟨e,?_⟩
 refine ⟨y,_,I.lset (its':=its.eraseIdx k) hH e ?_ (r.eraseIdx k) ?_,rw',q⟩
 ·show its.toArray.eraseIdxIfInBounds k=(its.eraseIdx k).toArray
  rw[List.eraseIdxIfInBounds_toArray]
 ·have:=Hr xs k
  omega
def Mi:V→List V→Hp→VK→Prop:=fun x vs H Q=>∃ l xs,x = .ref l∧vs=[]∧H l=some (.lst xs)∧Q .non (cA H l (.lst xs.reverse))
theorem Dm:jo X "list.reverse" Mi:=by
 intro pins s σ H x vs v us Q I rx rv h
 obtain ⟨l,xs,rfl,rfl,hH,q⟩:=h
 cases rx
 have hus:=rv.zero
 subst hus
 obtain ⟨z,its,n,r,hl,e⟩:=I.lstM hH
 refine call_meets F.slot_list_reverse ⟨_,e,rfl⟩ F.entry_list_reverse (F.args_list_reverse_1 _) (AutoSeq1.list_reverse_list_0 l its.toArray n (by rw[List.size_toArray];omega)) ⟨e,?_⟩
 refine ⟨.non,_,I.lset (its':=its.reverse) hH e (by simp) r.reverse ?_,rfl,q⟩
 rw[List.length_reverse]
 omega
def fi:R2:=fun x y H Q=>∃ l b xs zs,x = .ref l∧y = .ref b∧H l=some (.lst xs)∧H b=some (.lst zs)∧xs.length + zs.length≤sizeLine∧∀ p,H p=none→Q (.ref p) (cA H p (.lst (xs ++ zs)))
theorem qB:zW X (binaryOp .Add) fi:=by
 intro pins s σ H x y v u Q I rx ry h
 obtain ⟨l,b,xs,zs,rfl,rfl,hH,hB,hz,q⟩:=h
 cases rx
 cases ry
 obtain ⟨z,its,n,r,hl,e⟩:=I.lstM hH
 obtain ⟨z2,its2,n2,r2,hl2,e2⟩:=I.lstM hB
 refine PySem.P.add_list e e2 ?_ (by rw[List.size_toArray,List.size_toArray];omega)
 have ea:its.toArray ++ its2.toArray=(its ++ its2).toArray:=by simp
 rw[ea]
 exact ⟨.ref _,_,I.lnew (t':=s.toks) (r.append r2) (by rw[List.length_append];omega),rfl,q _ I.fresh⟩
end
section
variable {prog:Program}{w:World}{A:Around}{E:Value→Shared→Prop}{s:Shared}
set_option maxRecDepth 100000 in
end
section
variable {X:Cx}
end
end L2
namespace L2
open PySem PySem.Spec PyProof.Rows
theorem Vals.bls:∀ {bs:List Bool}{us:List Value},Vals (bs.map V.bl) us→us=bs.map Value.bool
 | [],us,h=>by
  rw[List.map_nil] at h
  cases h
  rfl
 | b :: bs,us,h=>by
  rw[List.map_cons] at h
  cases h with
  | cons r t=>
   cases r
   rw[Vals.bls t,List.map_cons]
theorem Vals.ref1 {a:Addr}{us:List Value} (r:Vals [V.ref a] us):us=[Value.ref a]:=by
 cases r with
 | cons r t=>
  cases t
  cases r
  rfl
section
variable {prog:Program}{w:World}{A:Around}{E:Value→Shared→Prop}{s:Shared}{l:Addr}{its:List Value}{ns:List Int}{Q:Value→Shared→Prop}
end
section
variable {X:Cx}
end
section
variable {X:Cx}
end
section
variable {X:Cx}
end
theorem Yp {prog:Program}{w:World}{A:Around}{E:Value→Shared→Prop}{s:Shared}{l:Addr}{items:Array Value}{Q:Value→Shared→Prop} (hl:s.heap.IsList l items)
  (h:∀ s₂:Shared,s₂={ s with heap:=s.heap.push { cls:=.type "list_iterator",data:=.fields #[.ref l,.int 0 0] } } →
   (s₂.heap.IsListIter s.heap.objs.size l 0∧s₂.heap.IsList l items)→l≠s.heap.objs.size→Q (.ref s.heap.objs.size) s₂):wpAny (model prog w) A (pyIter (.ref l)) Q E s:=by
 have hlt:l<s.heap.objs.size:=by obtain ⟨_,e,_⟩:=hl;exact Heap.lt_size e
 exact wpAny_pyIter_list hl (h _ rfl ⟨⟨_,Heap.get?_push_size _ rfl,rfl,rfl⟩,hl.push _⟩ (Nat.ne_of_lt hlt))
theorem Nj {prog:Program}{w:World}{A:Around}{bs:List Bool}{its:List Value} (e:its=bs.map Value.bool) :
  TruthOf prog w A (fun i v=>its.toArray[i]? = some v) (fun i=>bs.getD i false):=fun i v s Q E hv hq=>by
 have hv':its[i]? = some v:=by simpa using hv
 rw[e,List.getElem?_map] at hv'
 obtain ⟨b,hb,rfl⟩:=Option.map_eq_some_iff.mp hv'
 have hg:bs.getD i false=b:=by rw[List.getD_eq_getElem?_getD,hb] <;> rfl
 have hq':Q (bs.getD i false) s:=hq
 rw[hg] at hq'
 exact wpAny_truthy_bool hq'
theorem Ht:∀ bs:List Bool,(List.range bs.length).all (fun i=>bs.getD i false)=bs.all id
 | []=>rfl
 | b :: bs=>by
  rw[List.length_cons,List.range_succ_eq_map,List.all_cons,List.all_map,List.all_cons,←Ht bs]
  all_goals rfl
section
variable {X:Cx}
def oh (K:PySem.W.Frag):List V→Hp→VK→Prop:=fun vs H Q=>∃ (a:Addr) (bs:List Bool),vs=[V.ref a]∧SqL K H a (bs.map V.bl)∧Q (.bl (bs.all id)) H
theorem On (hc:X.calm=true):uN X (.builtin "all") (oh X.K):=by
 intro pins s σ H vs us Q I r h
 obtain ⟨a,bs,rfl,hs,q⟩:=h
 obtain ⟨its,rv,hl,_⟩:=I.list hs
 rw[Vals.ref1 r]
 have hb:=rv.bls
 refine call_all_walk (Yp hl.isList fun s₂ e2 st hne=>?_)
 subst e2
 refine ⟨_,_,_,_,_,_,_,rfl,Walks.list (A:=X.A.in1) (I.ok.hd hc) _ a hne its.toArray,st,Nj hb,fun h' tk hk=>?_⟩
 refine ⟨.bl _,H,I.kept fun b o eo=>hk b o (fun hmem=>?_) (Heap.get?_push_of_some _ eo),?_,q⟩
 ·rcases List.mem_cons.mp hmem with e1 | hmem
  ·exact absurd (e1 ▸ Heap.lt_size eo) (Nat.lt_irrefl _)
  ·cases hmem
 ·show Value.bool _=Value.bool _
  rw[←Ht,hb,List.size_toArray,List.length_map]
end
mutual
inductive Dp (K:PySem.W.Frag) (H:Hp):V→PyData→Prop
 | non:Dp K H .non .none
 | bl (b:Bool):Dp K H (.bl b) (.bool b)
 | int (i:Int):Dp K H (.int i) (.int i)
 | str (x:Str):Dp K H (.str x) (.str x)
 | lst {a:Addr}{xs:List V}{ds:List PyData}:SqL K H a xs→Bp K H xs ds→Dp K H (.ref a) (.list ds)
 | tup {a:Addr}{xs:List V}{ds:List PyData}:SqT K H a xs→Bp K H xs ds→Dp K H (.ref a) (.tuple ds)
inductive Bp (K:PySem.W.Frag) (H:Hp):List V→List PyData→Prop
 | nil:Bp K H [] []
 | cons {v:V}{vs:List V}{d:PyData}{ds:List PyData}:Dp K H v d→Bp K H vs ds→Bp K H (v :: vs) (d :: ds)
end
section
variable {X:Cx}{pins:List (Addr×Obj)}{σ:St}{H:Hp}{s:Shared}
mutual
theorem Dp.reads (I:Inv X pins σ H s):∀ (d:PyData) (v:V) (u:Value),Dp X.K H v d→RelV v u→∃ as,Reads s.heap u d as
 | .none,_,_,h,r=>by
  cases h
  cases r
  exact ⟨_,Reads.none⟩
 | .bool b,_,_,h,r=>by
  cases h
  cases r
  exact ⟨_,Reads.bool b⟩
 | .int i,_,_,h,r=>by
  cases h
  obtain ⟨t,rfl⟩:=r
  exact ⟨_,Reads.int i t⟩
 | .str x,_,_,h,r=>by
  cases h
  obtain ⟨t,rfl⟩:=r
  exact ⟨_,Reads.str x t⟩
 | .list ds,_,_,h,r=>by
  cases h with
  | lst hs ha=>
   cases r
   obtain ⟨its,rv,⟨o,n,ho,hc,_,hd⟩,_⟩:=I.list hs
   obtain ⟨as,hr⟩:=Dp.readsAll I ds _ its ha rv
   exact ⟨_,Reads.list ho hc hd hr⟩
 | .tuple ds,_,_,h,r=>by
  cases h with
  | tup hs ha=>
   cases r
   obtain ⟨its,rv,⟨o,ho,hc,n,hd⟩,_⟩:=I.tuple hs
   obtain ⟨as,hr⟩:=Dp.readsAll I ds _ its ha rv
   exact ⟨_,Reads.tuple ho hc hd hr⟩
 | .dict _,_,_,h,_=>by cases h
theorem Dp.readsAll (I:Inv X pins σ H s):∀ (ds:List PyData) (vs:List V) (us:List Value),Bp X.K H vs ds→Vals vs us→∃ as,ReadsAll s.heap us ds as
 | [],_,_,h,r=>by
  cases h
  cases r
  exact ⟨_,ReadsAll.nil⟩
 | d :: ds,_,_,h,r=>by
  cases h with
  | cons h1 h2=>
   cases r with
   | cons r1 r2=>
    obtain ⟨as,q1⟩:=Dp.reads I d _ _ h1 r1
    obtain ⟨bs,q2⟩:=Dp.readsAll I ds _ _ h2 r2
    exact ⟨_,ReadsAll.cons q1 q2⟩
end
end
section
variable {X:Cx}
def Zt (K:PySem.W.Frag):R2:=fun x y H Q=>∃ d e,Dp K H x d∧Dp K H y e∧SeqAt.shaped d=true∧SeqAt.shaped e=true∧Q (.bl (PyData.eqv d e)) H
def ke (K:PySem.W.Frag):R2:=fun x y H Q=>∃ d e,Dp K H x d∧Dp K H y e∧SeqAt.shaped d=true∧SeqAt.shaped e=true∧Q (.bl (!PyData.eqv d e)) H
theorem Oj (hu:X.A.units + 64<cLine):zW X (compareOp .Eq) (Zt X.K):=by
 intro pins s σ H x y v u Q I rx ry h
 obtain ⟨d,e,hd,he,sd,se,q⟩:=h
 obtain ⟨as,r1⟩:=Dp.reads I d x v hd rx
 obtain ⟨bs,r2⟩:=Dp.reads I e y u he ry
 exact SeqAt.compareEq_shaped r1 r2 sd se hu ⟨.bl _,H,I,rfl,q⟩
theorem gu (hu:X.A.units + 64<cLine):zW X (compareOp .NotEq) (ke X.K):=by
 intro pins s σ H x y v u Q I rx ry h
 obtain ⟨d,e,hd,he,sd,se,q⟩:=h
 obtain ⟨as,r1⟩:=Dp.reads I d x v hd rx
 obtain ⟨bs,r2⟩:=Dp.reads I e y u he ry
 exact SeqAt.compareNe_shaped r1 r2 sd se hu ⟨.bl _,H,I,rfl,q⟩
end
end L2
namespace L2
open PySem PySem.Spec PyProof.Rows
abbrev Wm (h:Heap) (c:Addr) (v:Option Value):Prop:=h.IsCell c v
def pj (scope sc:Scope):Scope :=
 { scope with names:=scope.names.map fun (n,k)=>if (k == .free && sc.kind == .function && sc.names.lookup n == some .cell) then (n,.cell) else (n,k) }
def eI (cells:List (Str×Addr)):List (Str×NameKind)→List (Str×Addr)→List (Str×Addr)
 | [],acc=>acc
 | (n,k) :: r,acc=>if k == .free then eI cells r ((n,(cells.lookup n).getD 0) :: acc) else eI cells r acc
theorem wW (env:Env) (f:Str×NameKind→List (Str×Addr)→Sem (ForInStep (List (Str×Addr))))
  (hf:∀ n k c,f (n,k) c=if k == .free then (do let a ←cellOf env n;pure (.yield ((n,a) :: c))) else pure (.yield c)) :
  ∀ (names:List (Str×NameKind)) (acc:List (Str×Addr)),(∀ y ∈ names,y.2 = .free→∃ c,env.cells.lookup y.1=some c)→forIn names acc f=pure (eI env.cells names acc)
 | [],acc,_=>by rw[List.forIn_nil];rfl
 | (n,k) :: r,acc,h=>by
  rw[List.forIn_cons,hf]
  have ih:=fun acc=>wW env f hf r acc fun y hy=>h y (List.mem_cons_of_mem _ hy)
  unfold eI
  by_cases hk:(k == NameKind.free)=true
  ·rw[if_pos hk,if_pos hk]
   obtain ⟨c,hc⟩:=h (n,k) List.mem_cons_self (by simpa using hk)
   have e:cellOf env n=pure c:=by unfold cellOf;rw[hc]
   rw[e]
   have e2:(env.cells.lookup n).getD 0=c:=by rw[hc];rfl
   rw[e2]
   exact ih _
  ·rw[if_neg hk,if_neg hk]
   exact ih _
theorem Py {scope:Scope}{env:Env} (h:∀ y ∈ scope.names,y.2 = .free→∃ c,env.cells.lookup y.1=some c):closureFor scope env=pure (eI env.cells scope.names []):=by
 simp only[closureFor]
 rw[wW env _ (fun n k c=>rfl) scope.names [] h]
 rfl
theorem vQ {α:Type}:∀ {l:List (Str×α)}{n:Str}{c:α},(n,c) ∈ l→∃ c',l.lookup n=some c'
 | (k,v) :: r,n,c,h=>by
  rw[List.lookup_cons]
  cases hb:n == k with
  | true=>exact ⟨_,rfl⟩
  | false=>
   rcases List.mem_cons.mp h with e | h
   ·cases e;simp at hb
   ·exact vQ h
theorem nT {cells:List (Str×Addr)}:∀ {names:List (Str×NameKind)}{acc:List (Str×Addr)}{n:Str}{c:Addr},(n,c) ∈ eI cells names acc→(n,c) ∈ acc∨((n,.free) ∈ names∧c=(cells.lookup n).getD 0)
 | [],_,_,_,h=>.inl h
 | (m,k) :: r,acc,n,c,h=>by
  unfold eI at h
  split at h
  ·rename_i hk
   have hk:k = .free:=by simpa using hk
   rcases nT h with h | ⟨h1,h2⟩
   ·rcases List.mem_cons.mp h with e | h
    ·cases e;exact .inr ⟨hk ▸ List.mem_cons_self,rfl⟩
    ·exact .inl h
   ·exact .inr ⟨List.mem_cons_of_mem _ h1,h2⟩
  ·rcases nT h with h | ⟨h1,h2⟩
   ·exact .inl h
   ·exact .inr ⟨List.mem_cons_of_mem _ h1,h2⟩
theorem sD {cells:List (Str×Addr)}:∀ {names:List (Str×NameKind)}{acc:List (Str×Addr)}{p:Str×Addr},p ∈ acc→p ∈ eI cells names acc
 | [],_,_,h=>h
 | (m,k) :: r,acc,p,h=>by
  unfold eI
  split
  ·exact sD (List.mem_cons_of_mem _ h)
  ·exact sD h
theorem tE {cells:List (Str×Addr)}:∀ {names:List (Str×NameKind)}{acc:List (Str×Addr)}{n:Str},(n,.free) ∈ names→(n,(cells.lookup n).getD 0) ∈ eI cells names acc
 | (m,k) :: r,acc,n,h=>by
  unfold eI
  rcases List.mem_cons.mp h with e | h
  ·cases e
   exact sD List.mem_cons_self
  ·split
   ·exact tE h
   ·exact tE h
theorem pK:∀ {names:List (Str×NameKind)}{h:Heap}{acc:List (Str×Addr)}{x:Str}{c:Addr},(x,c) ∈ cellsFrom h.objs.size names acc →
  (x,c) ∈ acc∨((x,.cell) ∈ names∧h.objs.size≤c∧Wm (pushCells h names) c none)
 | [],_,_,_,_,h=>.inl h
 | (n,k) :: r,h,acc,x,c,hm=>by
  unfold cellsFrom at hm
  unfold pushCells
  split at hm
  ·rename_i hk
   rw[if_pos hk]
   have hk:k = .cell:=by simpa using hk
   rw[←Heap.size_push h { cls:=.type "cell",data:=.cell none }] at hm
   rcases pK hm with hm | ⟨h1,h2,h3⟩
   ·rcases List.mem_cons.mp hm with e | hm
    ·cases e
     exact .inr ⟨hk ▸ List.mem_cons_self,Nat.le_refl _,_,pushCells_keeps r _ _ _ (Heap.get?_push_size _ rfl),rfl⟩
    ·exact .inl hm
   ·rw[Heap.size_push] at h2
    exact .inr ⟨List.mem_cons_of_mem _ h1,Nat.le_of_succ_le h2,h3⟩
  ·rename_i hk
   rw[if_neg hk]
   rcases pK hm with hm | ⟨h1,h2,h3⟩
   ·exact .inl hm
   ·exact .inr ⟨List.mem_cons_of_mem _ h1,h2,h3⟩
theorem uD:∀ {names:List (Str×NameKind)}{n:Nat}{acc:List (Str×Addr)}{p:Str×Addr},p ∈ acc→p ∈ cellsFrom n names acc
 | [],_,_,_,h=>h
 | (m,k) :: r,n,acc,p,h=>by
  unfold cellsFrom
  split
  ·exact uD (List.mem_cons_of_mem _ h)
  ·exact uD h
theorem yG:∀ {names:List (Str×NameKind)}{n:Nat}{acc:List (Str×Addr)}{x:Str},(x,.cell) ∈ names→∃ c,(x,c) ∈ cellsFrom n names acc
 | (m,k) :: r,n,acc,x,h=>by
  unfold cellsFrom
  rcases List.mem_cons.mp h with e | h
  ·cases e
   exact ⟨n,uD List.mem_cons_self⟩
  ·split
   ·exact yG h
   ·exact yG h
theorem yD:∀ {names:List (Str×NameKind)}{h:Heap}{acc:List (Str×Addr)}{x y:Str}{c:Addr},(∀ p ∈ acc,p.2<h.objs.size)→(∀ x y c,(x,c) ∈ acc→(y,c) ∈ acc→x=y) →
  (x,c) ∈ cellsFrom h.objs.size names acc→(y,c) ∈ cellsFrom h.objs.size names acc→x=y
 | [],_,_,_,_,_,_,hi,h1,h2=>hi _ _ _ h1 h2
 | (n,k) :: r,h,acc,x,y,c,hl,hi,h1,h2=>by
  unfold cellsFrom at h1 h2
  split at h1
  ·rename_i hk
   rw[if_pos hk] at h2
   rw[←Heap.size_push h { cls:=.type "cell",data:=.cell none }] at h1 h2
   refine yD (h:=h.push _) (fun p hp=>?_) (fun x y c a b=>?_) h1 h2
   ·rw[Heap.size_push]
    rcases List.mem_cons.mp hp with rfl | hp
    ·exact Nat.lt_succ_self _
    ·exact Nat.lt_succ_of_lt (hl p hp)
   ·rcases List.mem_cons.mp a with e | a <;> rcases List.mem_cons.mp b with e' | b
    ·cases e;cases e';rfl
    ·cases e;exact absurd (hl _ b) (Nat.lt_irrefl _)
    ·cases e';exact absurd (hl _ a) (Nat.lt_irrefl _)
    ·exact hi _ _ _ a b
  ·rename_i hk
   rw[if_neg hk] at h2
   exact yD hl hi h1 h2
theorem Nd {M:Model}{A:Around}{E:Value→Shared→Prop}{s:Shared}{scope:Scope}{globals:Addr}{closure:List (Str×Addr)}{qual:Str}{func:Option Addr}{code:Value}{around:Env}{builtins:Addr}{Q:Env→Shared→Prop}
  (h:Q (newEnv scope s.heap.objs.size globals (cellsFrom (s.heap.objs.size + 1) scope.names closure) qual func code (some around) builtins)
   { s with heap:=pushCells (s.heap.push { cls:=.type "dict",data:=.dict #[] }) scope.names }) :
  wpAny M A (newFunctionEnv scope globals closure [] qual func code (some around) builtins) Q E s:=by
 simp only[newFunctionEnv,Option.isSome_some,if_true]
 refine wpAny_bind (wpAny_alloc ?_)
 refine wpAny_bind (wpAny_layCells _ (fun n k c=>rfl) scope.names closure _ _ ?_)
 rw[show ({ s with heap:=s.heap.push { cls:=.type "dict",data:=.dict #[] } }:Shared).heap.objs.size=s.heap.objs.size + 1 from Heap.size_push ..]
 rw[List.forIn_nil]
 exact wpAny_bind (wpAny_pure (wpAny_pure h))
theorem tG {sc:Scope}:∀ {names:List (Str×NameKind)}{x:Str}{k:NameKind},
  (names.map fun (n,k)=>if (k == NameKind.free && sc.kind == .function && sc.names.lookup n == some .cell) then (n,NameKind.cell) else (n,k)).lookup x=some k →
  ∃ k',names.lookup x=some k'∧(k=k'∨(k' = .free∧k = .cell))
 | [],_,_,h=>by simp at h
 | (n,k₀) :: r,x,k,h=>by
  have ih:=@tG sc r x k
  have h':List.lookup x ((if (k₀ == NameKind.free && sc.kind == .function && sc.names.lookup n == some .cell)=true then (n,NameKind.cell) else (n,k₀)) :: (r.map _))=some k:=h
  cases hx:x == n with
  | true=>
   simp only[List.lookup_cons,hx]
   by_cases hc:(k₀ == NameKind.free && sc.kind == .function && sc.names.lookup n == some .cell)=true
   ·rw[if_pos hc] at h'
    simp only[List.lookup_cons,hx] at h'
    cases h'
    simp only[Bool.and_eq_true,beq_iff_eq] at hc
    exact ⟨k₀,rfl,.inr ⟨hc.1.1,rfl⟩⟩
   ·rw[if_neg hc] at h'
    simp only[List.lookup_cons,hx] at h'
    cases h'
    exact ⟨_,rfl,.inl rfl⟩
  | false=>
   simp only[List.lookup_cons,hx]
   by_cases hc:(k₀ == NameKind.free && sc.kind == .function && sc.names.lookup n == some .cell)=true
   ·rw[if_pos hc] at h'
    simp only[List.lookup_cons,hx] at h'
    exact ih h'
   ·rw[if_neg hc] at h'
    simp only[List.lookup_cons,hx] at h'
    exact ih h'
structure Gz (N:List Str) (sc scope:Scope) (own:List (Str×Nat)):Prop where
 kind:scope.kind = .function
 uniq:∀ y ∈ scope.names,scope.names.lookup y.1=some y.2
 ix:∀ p ∈ own,N[p.2]? = some p.1
 free:∀ y ∈ scope.names,y.2 = .free→sc.names.lookup y.1=some .cell∨sc.names.lookup y.1=some .free
 own:∀ y ∈ scope.names,y.2 = .local ∨y.2 = .cell→y.1 ∈ own.map (·.1)∨y.1 ∉ N
def eY (σ:St):List Nat→St
 | []=>σ
 | v :: vs=>(eY σ vs).set v none
theorem sX (σ:St):∀ vs:List Nat,(eY σ vs).length=σ.length
 | []=>rfl
 | v :: vs=>by unfold eY;rw[List.length_set,sX σ vs]
theorem yF {σ:St}{i:Nat}{x:V}:∀ {vs:List Nat},(eY σ vs)[i]? = some (some x)→σ[i]? = some (some x)∧i ∉ vs
 | [],h=>⟨h,by simp⟩
 | v :: vs,h=>by
  unfold eY at h
  by_cases hi:v=i
  ·subst hi
   by_cases hv:v<(eY σ vs).length
   ·rw[List.getElem?_set_self hv] at h;cases h
   ·rw[List.getElem?_eq_none (by simpa using hv)] at h;cases h
  ·rw[List.getElem?_set_ne hi] at h
   obtain ⟨h1,h2⟩:=yF h
   exact ⟨h1,by simp only[List.mem_cons,not_or];exact ⟨fun e=>hi e.symm,h2⟩⟩
abbrev Cx.blk (X:Cx) (s:Shared) (H:Hp) (scope:Scope) (cenv:Env) (fp:List Addr):Cx:={ X with s_0:=s,H_0:=H,env:=cenv,outer:=X.stack,ex:=fp,fn:=fun x=>scope.names.lookup x == some .cell,pn:=[],xe:=fun _ _=>False }
section
variable {X:Cx}{pins:List (Addr×Obj)}{σ:St}{H:Hp}{s:Shared}
theorem Nn {scope:Scope}{own:List (Str×Nat)}{fp:List Addr} (I:Inv X pins σ H s) (ok:Gz X.N X.env.scope scope own) (hN:X.N.Nodup) (hfp:∀ b ∈ fp,pZ X pins H b∧b<s.heap.objs.size) :
  Inv (X.blk s H scope (compEnvC scope (cellsFrom (s.heap.objs.size + 1) scope.names (eI X.env.cells scope.names [])) s.heap.objs.size X.env) fp) [] (eY σ (own.map (·.2))) H { s with heap:=pushCells (s.heap.push { cls:=.type "dict",data:=.dict #[] }) scope.names }:=by
 have hfree:∀ y ∈ scope.names,y.2 = .free→∃ c,X.env.cells.lookup y.1=some c:=fun y hy e=>by
  rcases ok.free y hy e with k | k
  ·exact I.ok.has _ (.inl k)
  ·exact I.ok.has _ (.inr k)
 generalize hcenv:compEnvC scope (cellsFrom (s.heap.objs.size + 1) scope.names (eI X.env.cells scope.names [])) s.heap.objs.size X.env=cenv
 have kp:∀ b o,s.heap.get? b=some o→(pushCells (s.heap.push { cls:=.type "dict",data:=.dict #[] }) scope.names).get? b=some o:=fun b o e=>pushCells_keeps _ _ _ _ (Heap.get?_push_of_some _ e)
 have hL:cenv.locals=s.heap.objs.size:=by rw[←hcenv];rfl
 have hcl:cenv.cells=cellsFrom (s.heap.objs.size + 1) scope.names (eI X.env.cells scope.names []):=by rw[←hcenv];rfl
 have hsc:cenv.scope=pj scope X.env.scope:=by rw[←hcenv];rfl
 rw[←Heap.size_push s.heap { cls:=.type "dict",data:=.dict #[] }] at hcl
 have cm:∀ {y c},(y,c) ∈ eI X.env.cells scope.names []→X.env.cells.lookup y=some c∧c<s.heap.objs.size:=fun {y c} hm=>by
  rcases nT hm with hm | ⟨h1,rfl⟩
  ·cases hm
  ·obtain ⟨c,hc⟩:=hfree _ h1 rfl
   rw[hc]
   obtain ⟨w,z⟩:=I.cell _ _ hc
   exact ⟨rfl,z.lt⟩
 have mem:∀ {y c},cenv.cells.lookup y=some c→(X.env.cells.lookup y=some c∧c<s.heap.objs.size)∨(s.heap.objs.size + 1≤c∧Wm (pushCells (s.heap.push { cls:=.type "dict",data:=.dict #[] }) scope.names) c none):=fun {y c} e=>by
  rw[hcl] at e
  rcases pK (PySem.mem_of_lookup e) with hm | ⟨_,h2,h3⟩
  ·exact .inl (cm hm)
  ·rw[Heap.size_push] at h2;exact .inr ⟨h2,h3⟩
 have look:∀ {y},scope.names.lookup y=some .free→∃ c,cenv.cells.lookup y=some c∧X.env.cells.lookup y=some c:=fun {y} hl=>by
  have hy:(y,NameKind.free) ∈ scope.names:=PySem.mem_of_lookup hl
  obtain ⟨c',e'⟩:=vQ (uD (names:=scope.names) (n:=(s.heap.push { cls:=.type "dict",data:=.dict #[] }).objs.size) (tE (cells:=X.env.cells) (acc:=[]) hy))
  rw[←hcl] at e'
  refine ⟨c',e',?_⟩
  rw[hcl] at e'
  rcases pK (PySem.mem_of_lookup e') with hm | ⟨h1,_,_⟩
  ·exact (cm hm).1
  ·have:=ok.uniq _ h1
   rw[hl] at this;cases this
 have okB:(X.blk s H scope cenv fp).Ok:=by
  refine ⟨I.ok.mod,by show cenv.scope.kind=_;rw[hsc];exact ok.kind,by show cenv.globals=_;rw[←hcenv];exact I.ok.glob,by show cenv.builtins=_;rw[←hcenv];exact I.ok.blt,by show s.heap.objs.size≤cenv.locals;rw[hL];exact Nat.le_refl _,
   fun y z c e1 e2=>?_,fun y hy=>?_,fun y c z e=>?_,I.ok.hd,I.ok.frames,.inl rfl,fun b hb=>⟨?_,fun y c e z=>?_⟩,I.bs,Nat.le_trans I.ok.bsz I.sz,fun b o e hb=>?_,fun b hb z=>?_,I.stack,I.stkFree⟩
  ·have e1:cenv.cells.lookup y=some c:=e1
   have e2:cenv.cells.lookup z=some c:=e2
   rw[hcl] at e1 e2
   refine yD (fun p hp=>?_) (fun y z c a b=>I.ok.inj y z c (cm a).1 (cm b).1) (PySem.mem_of_lookup e1) (PySem.mem_of_lookup e2)
   rw[Heap.size_push]
   exact Nat.lt_succ_of_lt (cm (y:=p.1) (c:=p.2) hp).2
  ·show ∃ c,cenv.cells.lookup y=some c
   have key:∀ k,cenv.kindOf y=some k→(k = .cell∨k = .free)→∃ c,cenv.cells.lookup y=some c:=fun k hk hk'=>by
    unfold Env.kindOf at hk
    rw[hsc] at hk
    obtain ⟨k',e,r⟩:=tG hk
    have:k' = .cell∨k' = .free:=by
     rcases r with rfl | ⟨rfl,_⟩
     ·exact hk'
     ·exact .inr rfl
    rcases this with rfl | rfl
    ·obtain ⟨c,hm⟩:=yG (n:=(s.heap.push { cls:=.type "dict",data:=.dict #[] }).objs.size) (acc:=eI X.env.cells scope.names []) (PySem.mem_of_lookup e)
     obtain ⟨c',e'⟩:=vQ hm
     exact ⟨c',by rw[hcl];exact e'⟩
    ·obtain ⟨c,h1,_⟩:=look e
     exact ⟨c,h1⟩
   rcases hy with hy | hy
   ·exact key _ hy (.inl rfl)
   ·exact key _ hy (.inr rfl)
  ·have z:(scope.names.lookup y == some NameKind.cell)=true:=z
   have z:scope.names.lookup y=some .cell:=by simpa using z
   have e:cenv.cells.lookup y=some c:=e
   rw[hcl] at e
   rcases pK (PySem.mem_of_lookup e) with hm | ⟨_,h2,_⟩
   ·rcases nT hm with hm | ⟨h1,_⟩
    ·cases hm
    ·have q:=ok.uniq _ h1
     rw[z] at q;cases q
   ·rw[Heap.size_push] at h2
    exact Nat.le_of_succ_le h2
  ·show b≠cenv.locals
   rw[hL];exact Nat.ne_of_lt (hfp b hb).2
  ·have e:cenv.cells.lookup y=some c:=e
   rcases mem e with ⟨h1,_⟩ | ⟨h1,_⟩
   ·exact (hfp b hb).1.2.2.2.2.1 y c h1 z
   ·have h2:s.heap.objs.size + 1≤b:=by rw[←z];exact h1
    exact absurd (Nat.lt_of_lt_of_le (hfp b hb).2 (Nat.le_of_succ_le h2)) (Nat.lt_irrefl _)
  ·rcases (hfp b hb).1.2.2.2.1 with z | z
   ·exact I.ok.noex b o e z
   ·exact absurd (Nat.lt_of_lt_of_le (Heap.lt_size e) (Nat.le_trans I.ok.bsz z)) (Nat.lt_irrefl _)
  ·rcases List.mem_cons.mp (I.stkSub b z) with z | z
   ·exact (hfp b hb).1.2.1 z
   ·exact (hfp b hb).1.2.2.1 z
 refine ⟨okB,rfl,I.bare,Un.kept kp,⟨fun _=>none,?_,fun i y av e1 e2 e3=>?_⟩,fun y c e=>?_,?_,fun y c e=>?_,fun p hp=>?_,I.hok.kept kp,by rw[sX];exact I.len⟩
 ·show Heap.Ns _ cenv.locals _
  rw[hL]
  exact Heap.Ns.keeps (Heap.Ns.new ..) fun b o e=>pushCells_keeps _ _ _ _ e
 ·obtain ⟨e2,hne⟩:=yF e2
  have hfr:scope.names.lookup y=some .free∧(cenv.kindOf y=some .cell∨cenv.kindOf y=some .free):=by
   have key:∀ k,cenv.scope.names.lookup y=some k→k = .local ∨k = .cell∨k = .free→scope.names.lookup y=some .free∧(cenv.kindOf y=some .cell∨cenv.kindOf y=some .free):=fun k hk hk'=>by
    have hk0:=hk
    rw[hsc] at hk
    obtain ⟨k',e,r⟩:=tG hk
    have no:¬ (k' = .local ∨k' = .cell):=fun hh=>by
     rcases ok.own _ (PySem.mem_of_lookup e) hh with e' | e'
     ·obtain ⟨p,hp,hpy⟩:=List.mem_map.mp e'
      have e3:=ok.ix p hp
      have:p.1=y:=hpy
      rw[this] at e3
      exact hne (List.mem_map.mpr ⟨p,hp,Cb hN e3 e1⟩)
     ·exact e' (List.mem_of_getElem? e1)
    rcases r with rfl | ⟨rfl,rfl⟩
    ·rcases hk' with rfl | rfl | rfl
     ·exact absurd (.inl rfl) no
     ·exact absurd (.inr rfl) no
     ·exact ⟨e,.inr hk0⟩
    ·exact ⟨e,.inl hk0⟩
   have e3:jp cenv.scope y:=e3
   rcases e3 with e3 | e3 | e3
   ·exact key _ e3 (.inl rfl)
   ·exact key _ e3 (.inr (.inl rfl))
   ·exact key _ e3 (.inr (.inr rfl))
  obtain ⟨m,hn,hl⟩:=I.loc
  have hvis:jp X.env.scope y:=(ok.free _ (PySem.mem_of_lookup hfr.1) rfl).elim (fun k=>.inr (.inl k)) (fun k=>.inr (.inr k))
  obtain ⟨w,r,q⟩:=hl i y av e1 e2 hvis
  refine ⟨w,r,.inr ⟨hfr.2,?_⟩⟩
  obtain ⟨c,h1,h2⟩:=look hfr.1
  rcases q with ⟨k,_⟩ | ⟨_,c',e',z⟩
  ·have k:X.env.scope.names.lookup y=some .local:=k
   rcases ok.free _ (PySem.mem_of_lookup hfr.1) rfl with k' | k' <;> rw[show X.env.scope.names.lookup y=_ from k'] at k <;> cases k
  ·rw[h2] at e';cases e'
   exact ⟨c,h1,z.keeps kp⟩
 ·have e:cenv.cells.lookup y=some c:=e
  rcases mem e with ⟨h1,_⟩ | ⟨_,z⟩
  ·obtain ⟨w,z⟩:=I.cell y c h1
   exact ⟨w,z.keeps kp⟩
  ·exact ⟨_,z⟩
 ·show H cenv.locals=none
  rw[hL];exact I.hok.fresh (Nat.le_refl _)
 ·have e:cenv.cells.lookup y=some c:=e
  rcases mem e with ⟨h1,_⟩ | ⟨h1,_⟩
  ·exact I.freeC y c h1
  ·exact I.hok.fresh (Nat.le_of_succ_le h1)
 ·exact absurd (show p ∈ ([]:List (Addr×Obj)) ++ [] from hp) (by simp)
theorem ig {E:Value→Shared→Prop}{D:Addr}{xs:List V}{y:V}{v:Value}{Q:Value→Shared→Prop} (I:Inv X pins σ H s) (hD:H D=some (.lst xs)) (hz:xs.length<sizeLine) (r:RelV y v)
  (h:∀ s',Inv X pins σ (cA H D (.lst (xs ++ [y]))) s'→Q .none s'):wpAny (model X.prog X.w) X.A (call (.builtin "list.append") [.ref D,v]) Q E s:=by
 obtain ⟨hz',its,n,ri,e⟩:=I.hok D _ hD
 have hl:=ri.length
 refine append_at (hsz:=by rw[List.size_toArray];omega) e fun h' sb ho'=>?_
 refine h { s with heap:=h' } (I.write (t':=s.toks) (by rw[hD];trivial) (.inl rfl) (fun b u hb q=>(sb.2 b hb).trans q) ⟨_,ho'⟩ ⟨by rw[List.length_append];exact hz,its ++ [v],n + 1,ri.append (.cons r .nil),?_⟩)
 rw[ho']
 simp
def jq (X:Cx) (ifs:List Expr) (t:TT):Prop :=
 ∀ (pins:List (Addr×Obj)) (s:Shared) (σ:St) (H:Hp) (Q:Bool→Hp→Prop),Inv X pins σ H s→t σ H Q →
  wpAny (model X.prog X.w) X.A (forIn ifs true fun c r=>if r=true then do let ok ←isTrue c X.env (eval c X.env);pure (ForInStep.yield ok) else pure (ForInStep.yield r)) (TP X pins σ Q) X.xe s
def Zv:TT:=fun _ H Q=>Q true H
theorem iI:jq X [] Zv:=fun _ _ _ H _ I h=>wpAny_tests_nil ⟨H,I,h⟩
theorem wF {c:Expr}{t:TT} (h:PT X c t):jq X [c] t:=fun pins s σ H Q I hw=>wpAny_tests_one (h pins s σ H Q I hw)
end
theorem Sq {α:Type}{t:Sem α}{Q Q':α→Shared→Prop}{M:Model}{A:Around}{E:Value→Shared→Prop}{s:Shared} (h:wpAny M A t Q (fun _ _=>False) s) (hQ:∀ a s,Q a s→Q' a s):wpAny M A t Q' E s:=wpAny_mono h hQ fun _ _ z=>False.elim z
theorem Jm {prog:Program}{w:World}{A:Around}{R:Result→Shared→Prop}{s:Shared}{elt target iter:Expr}{ifs:List Expr}{scope:Scope}{pos:Pos}{it acc:Value}{env:Env} (I:Nat→Shared→Prop)
  (turn:∀ n s,I n s→wpAny (model prog w) A (pyNext it) (fun r s₁=>match r with
   | none=>R (.ok .next) s₁
   | some v=>wpAny (model prog w) A (letOwnedTupleGo target it v) (fun _ s₁'=>wpAny (model prog w) A (assign target env v) (fun _ s₂=>
     wpAny (model prog w) A (forIn ifs true fun c r=>if r=true then do let ok ←isTrue c env (eval c env);pure (ForInStep.yield ok) else pure (ForInStep.yield r)) (fun ok s₃=>
      if ok=true then wpAny (model prog w) A (eval elt env) (fun x s₄=>
       wpAny (model prog w) A (call (.builtin "list.append") [acc,x]) (fun _ s₅=>∃ m,m<n∧I m s₅) (notedBy (model prog w) A env fun e s'=>R (.error e) s') s₄) (notedBy (model prog w) A env fun e s'=>R (.error e) s') s₃
      else ∃ m,m<n∧I m s₃) (notedBy (model prog w) A env fun e s'=>R (.error e) s') s₂) (notedBy (model prog w) A env fun e s'=>R (.error e) s') s₁') (notedBy (model prog w) A env fun e s'=>R (.error e) s') s₁) (notedBy (model prog w) A env fun e s'=>R (.error e) s') s)
  (n:Nat) (h:I n s) :
  codeAny (model prog w) A (.compLoop (.ListComp elt [⟨target,iter,ifs,0⟩] scope pos) 0 it acc env) R s:=by
 refine codeAny_loop rfl I (fun n s hI=>?_) n h
 show wpAny _ A ((compTurn (.ListComp elt [⟨target,iter,ifs,0⟩] scope pos) 0 it acc env).onRaise (fun x=>do noteFrame x env;theTreesLotGoes x)) _ _ s
 refine wpAny_noted ?_
 rw[compTurn_list]
 refine wpAny_bind (wpAny_standAt (wpAny_bind (wpAny_mono (turn n s hI) (fun r s₁ h₁=>?_) fun _ _ h'=>h')))
 cases r with
 | none=>exact wpAny_pure h₁
 | some v=>
  refine wpAny_bind (wpAny_mono h₁ (fun _ s₁' h₁'=>?_) fun _ _ h'=>h')
  refine wpAny_bind (wpAny_mono h₁' (fun _ s₂ h₂=>wpAny_bind (wpAny_mono h₂ (fun ok s₃ h₃=>?_) fun _ _ h'=>h')) fun _ _ h'=>h')
  cases ok with
  | false=>exact wpAny_pure ⟨rfl,h₃⟩
  | true=>
   exact wpAny_bind (wpAny_bind (wpAny_mono h₃ (fun x s₄ h₄=>wpAny_bind (wpAny_mono h₄ (fun _ s₅ h₅=>wpAny_pure (wpAny_pure ⟨rfl,h₅⟩)) fun _ _ h'=>h')) fun _ _ h'=>h'))
section
variable {X:Cx}
def cv (wi:TI) (g:TG) (tt:TT) (te:TE) (vs:List Nat):TE:=fun σ H Q=>wi σ H fun J H1=>∀ D,H1 D=none→∃ W:Nat→Nat→Hp→Prop,(∃ m,W 0 m (cA H1 D (.lst [])))∧∀ i m H,W i m H →
 (J.stop i H∧Q (.ref D) H)∨(J.go i H∧∃ Nx:Hp→Prop,(∀ H',Nx H'→∃ m',m'<m∧W (i + 1) m' H')∧∀ x H',J.yld i H x H'→g x (eY σ vs) H' fun σ2 H2=>eY σ2 vs=eY σ vs∧tt σ2 H2 fun b H3=>
  if b=true then te σ2 H3 fun y H4=>∃ acc,H4 D=some (.lst acc)∧acc.length<sizeLine∧Nx (cA H4 D (.lst (acc ++ [y]))) else Nx H3)
theorem Ri {pins:List (Addr×Obj)}{s:Shared}{σ:St}{H:Hp}{Q:VK}{elt tg iter:Expr}{ifs:List Expr}{scope:Scope}{own:List (Str×Nat)}{pos pos':Pos}{wi:TI}{g:TG}{tt:TT}{te:TE}{use:Option (Value→Sem Unit)}{Qf:Value→Shared→Prop}
  (hc:X.calm=true) (hN:X.N.Nodup) (I:Inv X pins σ H s) (hi:PI X tg iter wi) (ok:Gz X.N X.env.scope scope own)
  (hg:∀ (s:Shared) (H:Hp) (C:Addr) (cl:List (Str×Addr)) (fp:List Addr),PG (X.blk s H scope (compEnvC scope cl C X.env) fp) tg g) (ht:∀ (s:Shared) (H:Hp) (C:Addr) (cl:List (Str×Addr)) (fp:List Addr),jq (X.blk s H scope (compEnvC scope cl C X.env) fp) ifs tt)
  (he:∀ (s:Shared) (H:Hp) (C:Addr) (cl:List (Str×Addr)) (fp:List Addr),PE (X.blk s H scope (compEnvC scope cl C X.env) fp) elt te) (hs:∀ x,foldedSetIterable iter X.env x=pure x)
  (h:cv wi g tt te (own.map (·.2)) σ H Q)
  (hRR:∀ D C s' m H',Inv X pins σ H' s'→Q (.ref D) H'→s'.heap.Ns C m→pZ X pins H' C→compPost (model X.prog X.w) X.A X.xe use Qf (.ref D) C (.ok .next) s') :
  wpAny (model X.prog X.w) X.A (comprehension (.ListComp elt [⟨tg,iter,ifs,0⟩] scope pos) scope X.env pos' (newList []) false (eval iter X.env) use) Qf X.xe s:=by
 have hfree:∀ y ∈ scope.names,y.2 = .free→∃ c,X.env.cells.lookup y.1=some c:=fun y hy e=>by
  rcases ok.free y hy e with k | k
  ·exact I.ok.has _ (.inl k)
  ·exact I.ok.has _ (.inr k)
 refine wpAny_comprehension_free (use:=use) rfl hs (Py hfree) ok.kind (fun y hy e=>by rw[ok.uniq y hy,e])
  (eZ (hi pins s σ H _ I h) fun xv s1 hx=>eZ hx fun itv s2 h2=>?_)
 obtain ⟨it,fp,tn,J,H2,e,I2,T,st2,f2,q⟩:=h2
 subst e
 refine wpAny_newObj_type (Nd ?_) (by show 0≤sizeLine;decide)
 generalize hD:s2.heap.objs.size=D
 have hDn:H2 D=none:=I2.hok.fresh (Nat.le_of_eq hD)
 obtain ⟨W,⟨m0,w0⟩,turn⟩:=q D hDn
 generalize hs3:({ s2 with heap:=s2.heap.push { cls:=.type "list",data:=.seq ([]:List Value).toArray } }:Shared)=s3
 have I3:Inv X pins σ (cA H2 D (.lst [])) s3:=by
  rw[←hs3]
  refine I2.laid (t':=s2.toks) (fun b o e=>Heap.get?_push_of_some _ e) (Nat.le_of_eq hD) ⟨Nat.zero_le _,[],0,.nil,?_⟩
  rw[←hD]
  exact Heap.get?_push_size _ rfl
 have h3:s3.heap=s2.heap.push { cls:=.type "list",data:=.seq ([]:List Value).toArray }:=by rw[←hs3]
 have sz:∀ b ∈ fp,b<s2.heap.objs.size:=fun b hb=>by
  obtain ⟨o,e,_⟩:=T.obj _ _ st2 b hb
  exact Heap.lt_size e
 have f3:∀ b ∈ fp,pZ X pins (cA H2 D (.lst [])) b∧b<s3.heap.objs.size:=fun b hb=>by
  have hlt:=sz b hb
  refine ⟨⟨?_,(f2 b hb).2⟩,by rw[h3,Heap.size_push];exact Nat.lt_succ_of_lt hlt⟩
  rw[aV (by rw[←hD];exact Nat.ne_of_lt hlt)]
  exact (f2 b hb).1
 have st3:tn 0 s3.heap:=T.keep _ _ _ st2 fun b _ o e=>by rw[h3];exact Heap.get?_push_of_some _ e
 have I4:=Nn I3 ok hN f3
 have pg:=hg s3 (cA H2 D (.lst [])) s3.heap.objs.size (cellsFrom (s3.heap.objs.size + 1) scope.names (eI X.env.cells scope.names [])) fp
 have pt:=ht s3 (cA H2 D (.lst [])) s3.heap.objs.size (cellsFrom (s3.heap.objs.size + 1) scope.names (eI X.env.cells scope.names [])) fp
 have pe:=he s3 (cA H2 D (.lst [])) s3.heap.objs.size (cellsFrom (s3.heap.objs.size + 1) scope.names (eI X.env.cells scope.names [])) fp
 show codeAny _ _ (.compStart (.ListComp elt [⟨tg,iter,ifs,0⟩] scope pos) 0 (.ref it) (.ref D) (compEnvC scope (cellsFrom (s3.heap.objs.size + 1) scope.names (eI X.env.cells scope.names [])) s3.heap.objs.size X.env)) (compPost (model X.prog X.w) X.A X.xe use Qf (.ref D) s3.heap.objs.size) { s3 with heap:=pushCells (s3.heap.push { cls:=.type "dict",data:=.dict #[] }) scope.names }
 have nfp:∀ b ∈ fp,(cA H2 D (.lst [])) b=none:=fun b hb=>(f3 b hb).1.1
 generalize hce:compEnvC scope (cellsFrom (s3.heap.objs.size + 1) scope.names (eI X.env.cells scope.names [])) s3.heap.objs.size X.env=ce at I4 pg pt pe ⊢
 have cL:ce.locals=s3.heap.objs.size:=by subst hce;rfl
 generalize hH3:cA H2 D (.lst [])=H3 at I3 I4 pg pt pe w0 nfp f3
 generalize hs4:({ s3 with heap:=pushCells (s3.heap.push { cls:=.type "dict",data:=.dict #[] }) scope.names }:Shared)=s4 at I4 ⊢
 have st4:tn 0 s4.heap:=T.keep _ _ _ st3 fun b _ o e=>by rw[←hs4];exact pushCells_keeps _ _ _ _ (Heap.get?_push_of_some _ e)
 have stat:∀ {σ':St}{H':Hp}{s':Shared},Inv (X.blk s3 H3 scope ce fp) [] σ' H' s'→(∀ b ∈ fp,H' b=none)→∀ b ∈ fp,pZ (X.blk s3 H3 scope ce fp) [] H' b:=fun {σ' H' s'} I' hn b hb=>
  ⟨hn b hb,(I'.ok.exf b hb).1,I'.ok.exfs b hb,.inl hb,fun x c e=>(I'.ok.exf b hb).2 x c e,fun p hp=>absurd (show p ∈ ([]:List (Addr×Obj)) ++ [] from hp) (by simp)⟩
 have loop:codeAny (model X.prog X.w) X.A (.compLoop (.ListComp elt [⟨tg,iter,ifs,0⟩] scope pos) 0 (.ref it) (.ref D) ce) (compPost (model X.prog X.w) X.A X.xe use Qf (.ref D) s3.heap.objs.size) s4:=by
  refine Jm (fun n s'=>∃ i H',Inv (X.blk s3 H3 scope ce fp) [] (eY σ (own.map (·.2))) H' s'∧tn i s'.heap∧(∀ b ∈ fp,H' b=none)∧W i n H') ?_ m0 ⟨0,H3,I4,st4,nfp,w0⟩
  rintro n s5 ⟨i,H5,I5,st5,n5,w5⟩
  rcases turn i n H5 w5 with ⟨stop,qq⟩ | ⟨go,Nx,hNx,step⟩
  ·have td:=T.done (X.blk s3 H3 scope ce fp) rfl rfl rfl hc i [] s5 _ H5 (fun _ _=>False) I5 (stat I5 n5) st5 stop
   refine Sq td fun r s6 ⟨hr,I6⟩=>?_
   subst hr
   have I7:Inv X pins σ H5 s6:=I3.call' (ch:=fp) I6.os I6.base I6.hok I6.bare fun b hb=>⟨(f3 b hb).1.2.2.2.1,(f3 b hb).1.2.1,(f3 b hb).1.2.2.2.2.1,(f3 b hb).1.2.2.2.2.2⟩
   have nC:H5 s3.heap.objs.size=none:=by
    have z:H5 ce.locals=none:=I6.free
    rw[cL] at z
    exact z
   obtain ⟨m,hn,_⟩:=I6.loc
   have hn:s6.heap.Ns ce.locals m:=hn
   rw[cL] at hn
   exact hRR D s3.heap.objs.size s6 m H5 I7 qq hn (I3.fpOk (Nat.le_refl _) nC)
  ·have ti:=T.item (X.blk s3 H3 scope ce fp) rfl rfl rfl hc i [] s5 _ H5 (fun _ _=>False) I5 (stat I5 n5) st5 go
   refine Sq ti fun r s6 ⟨u,hr,h6⟩=>?_
   subst hr
   refine Sq h6 fun _ s7 ⟨x,H7,I7,r7,y7,st7,n7⟩=>?_
   have I7':=I7.pinned (stat I7 n7) (T.obj _ _ st7)
   refine Sq (pg _ s7 _ H7 x u _ I7' r7 (step x H7 y7)) fun _ s8 ⟨σ8,H8,I8,hw8,q8⟩=>?_
   refine Sq (pt _ s8 σ8 H8 _ I8 q8) fun b s9 ⟨H9,I9,q9⟩=>?_
   have wA:∀ {s':Shared}{H':Hp},Inv (X.blk s3 H3 scope ce fp) ([] ++ Bz fp s7.heap) σ8 H' s'→Nx H'→∃ m,m<n∧∃ i H',Inv (X.blk s3 H3 scope ce fp) [] (eY σ (own.map (·.2))) H' s'∧tn i s'.heap∧(∀ b ∈ fp,H' b=none)∧W i m H':=fun {s' H'} I' nx=>by
    obtain ⟨m',hm,w'⟩:=hNx H' nx
    have pin':∀ b ∈ fp,∀ o,s7.heap.get? b=some o→s'.heap.get? b=some o∧H' b=none:=fun b hb o e=>
     let z:=I'.pin (b,o) (List.mem_append_right _ (List.mem_append_right _ (mD hb e)))
     ⟨z.1,z.2.1⟩
    have hl:(eY σ (own.map (·.2))).length=σ8.length:=by rw[←hw8,sX]
    refine ⟨m',hm,i + 1,H',(I'.unpinned (pins:=[])).weak hl (fun j v e=>?_),T.keep _ _ _ st7 fun b hb o e=>(pin' b hb o e).1,fun b hb=>?_,w'⟩
    ·rw[←hw8] at e
     exact (yF e).1
    ·obtain ⟨o,e,_⟩:=T.obj _ _ st7 b hb
     exact (pin' b hb o e).2
   cases b with
   | false=>
    simp only[Bool.false_eq_true,if_false] at q9 ⊢
    exact wA I9 q9
   | true=>
    simp only[if_true] at q9 ⊢
    refine Sq (pe _ s9 σ8 H9 _ I9 q9) fun z s10 ⟨yv,H10,I10,r10,acc,hD10,hz10,nx⟩=>?_
    exact ig (X:=X.blk s3 H3 scope ce fp) I10 hD10 hz10 r10 fun s11 I11=>wA I11 nx
 exact codeAny_compStart_list loop (T.self X.A 0 _ _ _ st4 loop)
theorem nM {elt tg iter:Expr}{ifs:List Expr}{scope:Scope}{own:List (Str×Nat)}{pos:Pos}{wi:TI}{g:TG}{tt:TT}{te:TE} (hc:X.calm=true) (hN:X.N.Nodup) (hi:PI X tg iter wi) (ok:Gz X.N X.env.scope scope own)
  (hg:∀ (s:Shared) (H:Hp) (C:Addr) (cl:List (Str×Addr)) (fp:List Addr),PG (X.blk s H scope (compEnvC scope cl C X.env) fp) tg g) (ht:∀ (s:Shared) (H:Hp) (C:Addr) (cl:List (Str×Addr)) (fp:List Addr),jq (X.blk s H scope (compEnvC scope cl C X.env) fp) ifs tt)
  (he:∀ (s:Shared) (H:Hp) (C:Addr) (cl:List (Str×Addr)) (fp:List Addr),PE (X.blk s H scope (compEnvC scope cl C X.env) fp) elt te) (hs:∀ x,foldedSetIterable iter X.env x=pure x:=by intro _;rfl) :
  PE X (.ListComp elt [⟨tg,iter,ifs,0⟩] scope pos) (cv wi g tt te (own.map (·.2))):=by
 intro pins s σ H Q I h
 rw[eval_ListComp]
 refine Ri hc hN I hi ok hg ht he hs h fun D C s' m H' I' q hn f=>⟨m,hn,fun h'' sb=>?_⟩
 obtain ⟨f0,f1,f2,f3,f4,f5⟩:=f
 exact ⟨.ref D,H',I'.turned (t':=s'.toks) (fun b o hb e=>(sb.2 b hb).trans e) f0 f1 f3 f4 f5,rfl,q⟩
theorem Cq {i:Nat}{y:Str}{py:Pos}{elt tg iter:Expr}{ifs:List Expr}{scope:Scope}{own:List (Str×Nat)}{pos spos:Pos}{wi:TI}{g:TG}{tt:TT}{te:TE} (hc:X.calm=true) (hN:X.N.Nodup) (hy:X.N[i]? = some y) (hyl:X.env.scope.names.lookup y=some .local)
  (hsw:swapsWith (.ListComp elt [⟨tg,iter,ifs,0⟩] scope pos) (some (.Name y py)) spos.line X.env=pure true) (hi:PI X tg iter wi) (ok:Gz X.N X.env.scope scope own)
  (hg:∀ (s:Shared) (H:Hp) (C:Addr) (cl:List (Str×Addr)) (fp:List Addr),PG (X.blk s H scope (compEnvC scope cl C X.env) fp) tg g) (ht:∀ (s:Shared) (H:Hp) (C:Addr) (cl:List (Str×Addr)) (fp:List Addr),jq (X.blk s H scope (compEnvC scope cl C X.env) fp) ifs tt)
  (he:∀ (s:Shared) (H:Hp) (C:Addr) (cl:List (Str×Addr)) (fp:List Addr),PE (X.blk s H scope (compEnvC scope cl C X.env) fp) elt te) (hs:∀ x,foldedSetIterable iter X.env x=pure x:=by intro _;rfl) :
  PS X (.Assign [.Name y py] (.ListComp elt [⟨tg,iter,ifs,0⟩] scope pos) spos) (Sr (cv wi g tt te (own.map (·.2))) (jC i)):=by
 intro pins s σ H D I h
 rw[exec_Assign_Name_used _ _ _ _ hsw]
 refine wpAny_bind (wpAny_standAt (wpAny_bind ?_))
 show wpAny _ X.A (do let _ ←comprehension (.ListComp elt [⟨tg,iter,ifs,0⟩] scope pos) scope X.env (firstIterPos [⟨tg,iter,ifs,0⟩] pos) (newList []) false (eval iter X.env) (some (assign (.Name y py) X.env))) _ _ s
 have h:cv wi g tt te (own.map (·.2)) σ H (fun x H1=>jC i x σ H1 D.nx):=h
 refine wpAny_bind (eZ (Ri (Qf:=fun _ s'=>SP X pins D .next s') hc hN I hi ok hg ht he hs h fun L C s' m H' I' q hn f=>?_) fun _ s' hq=>wpAny_pure (wpAny_pure hq))
 show wpAny _ _ (assign (.Name y py) X.env (.ref L)) _ _ _
 refine wpAny_assign_Name (Hs (v:=V.ref L) I' hN hy (.inl hyl) rfl (fun s2 I2 ⟨a,sb,ha⟩=>?_) (.inr hyl))
 obtain ⟨f0,f1,f2,f3,f4,f5⟩:=f
 have haC:C≠a:=by
  rcases ha with z | z
  ·rw[z];exact f1
  ·exact fun e=>f4 y a z e.symm
 refine ⟨m,hn.sameBut sb haC,fun h3 sb3=>?_⟩
 exact ⟨_,H',I2.turned (t':=s2.toks) (fun b o hb e=>(sb3.2 b hb).trans e) f0 f1 f3 f4 f5,q⟩
end
theorem Rt {K:PySem.W.Frag}{a:Addr}{xs:List V}{g:TG}{tt:TT}{te:TE}{vs:List Nat}{σ:St}{H1:Hp}{D:Addr}{Qd:Hp→Prop} (Pv:Nat→Hp→Prop) (h0:Pv 0 (cA H1 D (.lst []))) (hl:∀ i H,i≤xs.length→Pv i H→SqL K H a xs)
  (hs:∀ i x H,xs[i]? = some x→Pv i H→g x (eY σ vs) H fun σ2 H2=>eY σ2 vs=eY σ vs∧tt σ2 H2 fun b H3=>
   if b=true then te σ2 H3 fun y H4=>∃ acc,H4 D=some (.lst acc)∧acc.length<sizeLine∧Pv (i + 1) (cA H4 D (.lst (acc ++ [y]))) else Pv (i + 1) H3) (hd:∀ H,Pv xs.length H→Qd H) :
  ∃ W:Nat→Nat→Hp→Prop,(∃ m,W 0 m (cA H1 D (.lst [])))∧∀ i m H,W i m H →
   ((yX K a).stop i H∧Qd H)∨((yX K a).go i H∧∃ Nx:Hp→Prop,(∀ H',Nx H'→∃ m',m'<m∧W (i + 1) m' H')∧∀ x H',(yX K a).yld i H x H'→g x (eY σ vs) H' fun σ2 H2=>eY σ2 vs=eY σ vs∧tt σ2 H2 fun b H3=>
    if b=true then te σ2 H3 fun y H4=>∃ acc,H4 D=some (.lst acc)∧acc.length<sizeLine∧Nx (cA H4 D (.lst (acc ++ [y]))) else Nx H3):=by
 refine ⟨fun i m H=>m=xs.length - i∧i≤xs.length∧Pv i H,⟨xs.length,by simp,Nat.zero_le _,h0⟩,?_⟩
 rintro i m H ⟨rfl,hi,p⟩
 have q:=hl i H hi p
 by_cases hlt:i<xs.length
 ·refine .inr ⟨⟨xs,xs[i],q,by simp[hlt]⟩,Pv (i + 1),fun H' p'=>⟨xs.length - (i + 1),by omega,rfl,hlt,p'⟩,fun x H' y=>?_⟩
  obtain ⟨e,y⟩:=y
  subst e
  exact hs i x _ (y xs q) p
 ·have e:i=xs.length:=by omega
  subst e
  exact .inl ⟨⟨xs,q,Nat.le_refl _⟩,hd H p⟩
def fh (N:List Str) (sc scope:Scope) (own:List (Str×Nat)):Bool :=
 (match scope.kind with | .function=>true | _=>false) && (scope.names.all fun y=>decide (scope.names.lookup y.1=some y.2)) && (own.all fun p=>decide (N[p.2]? = some p.1)) &&
  (scope.names.all fun y=>match y.2 with
   | .free=>(match sc.names.lookup y.1 with | some .cell=>true | some .free=>true | _=>false)
   | .local=>decide (y.1 ∈ own.map (·.1)) || decide (y.1 ∉ N)
   | .cell=>decide (y.1 ∈ own.map (·.1)) || decide (y.1 ∉ N)
   | _=>true)
theorem Xu {N:List Str}{sc scope:Scope}{own:List (Str×Nat)} (h:fh N sc scope own=true):Gz N sc scope own:=by
 unfold fh at h
 simp only[Bool.and_eq_true,List.all_eq_true,decide_eq_true_eq] at h
 obtain ⟨⟨⟨h1,h2⟩,h3⟩,h4⟩:=h
 refine ⟨?_,h2,h3,fun y hy e=>?_,fun y hy e=>?_⟩
 ·split at h1
  ·assumption
  ·cases h1
 ·have q:=h4 y hy
  simp only[e] at q
  split at q <;> first | exact .inl (by assumption) | exact .inr (by assumption) | cases q
 ·have q:=h4 y hy
  rcases e with e | e <;> (simp only[e,Bool.or_eq_true,decide_eq_true_eq] at q;exact q)
end L2
namespace L2
open PySem PySem.Spec PyProof.Rows
section
variable {prog:Program}{w:World}{A:Around}{R:Result→Shared→Prop}{s:Shared}{elt t0 i0 t1 i1:Expr}{ifs0 ifs1:List Expr}{scope:Scope}{pos:Pos}{it acc:Value}{env:Env}
end
section
variable {X:Cx}
end
end L2
namespace L2
open PySem PySem.Spec PyProof.Rows
section
variable {κ:Type} [DecidableEq κ]
def lD (kvs:List (κ×V)) (k:κ):Option V:=(kvs.find? fun kv=>decide (kv.1=k)).map (·.2)
def pY (kvs:List (κ×V)) (k:κ) (v:V):List (κ×V) :=
 if (kvs.any fun kv=>decide (kv.1=k))=true then kvs.map (fun kv=>if kv.1=k then (kv.1,v) else kv) else kvs ++ [(k,v)]
theorem Ca {p:κ×V}{r:List (κ×V)}{k:κ} (e:p.1=k):lD (p :: r) k=some p.2:=by simp[lD,List.find?_cons,e]
theorem Cd {p:κ×V}{r:List (κ×V)}{k:κ} (e:¬ p.1=k):lD (p :: r) k=lD r k:=by simp[lD,List.find?_cons,e]
theorem Mc (k:κ):∀ kvs:List (κ×V),(kvs.any fun kv=>decide (kv.1=k))=(lD kvs k).isSome
 | []=>rfl
 | p :: r=>by
  rw[List.any_cons]
  by_cases e:p.1=k
  ·simp only[Ca e,decide_eq_true e,Bool.true_or,Option.isSome_some]
  ·rw[Cd e,decide_eq_false e,Bool.false_or];exact Mc k r
theorem sQ (kvs:List (κ×V)) (k:κ) (v:V):(pY kvs k v).length≤kvs.length + 1:=by
 unfold pY
 split
 ·rw[List.length_map];omega
 ·rw[List.length_append,List.length_cons,List.length_nil];omega
theorem RelO.isSome_eq {o:Option V}{u:Option Value} (r:RelO o u):o.isSome=u.isSome:=by
 cases o with
 | none=>cases u with
  | none=>rfl
  | some _=>exact (show False from r).elim
 | some _=>cases u with
  | none=>exact (show False from r).elim
  | some _=>rfl
theorem RelO.getD {o:Option V}{u:Option Value}{d:V}{d':Value} (r:RelO o u) (rd:RelV d d'):RelV (o.getD d) (u.getD d'):=by
 cases o with
 | none=>cases u with
  | none=>exact rd
  | some _=>exact (show False from r).elim
 | some _=>cases u with
  | none=>exact (show False from r).elim
  | some _=>exact r
theorem KV.val {kvs:List (κ×V)}{vs:List (κ×Value)} (r:KV kvs vs) (k:κ):RelO (lD kvs k) (valueAt vs k):=by
 unfold KV at r
 induction r with
 | nil=>exact True.intro
 | @cons p q ps qs h t ih=>
  obtain ⟨h1,h2⟩:=h
  by_cases e:p.1=k
  ·have e':q.1=k:=h1.symm.trans e
   have b:valueAt (q :: qs) k=some q.2:=by simp[valueAt,List.find?_cons,e']
   rw[Ca e,b];exact h2
  ·have e':¬ q.1=k:=fun z=>e (h1.trans z)
   have b:valueAt (q :: qs) k=valueAt qs k:=by simp[valueAt,List.find?_cons,e']
   rw[Cd e,b];exact ih
theorem KV.any {kvs:List (κ×V)}{vs:List (κ×Value)} (r:KV kvs vs) (k:κ):(kvs.any fun kv=>decide (kv.1=k))=vs.any fun kv=>decide (kv.1=k):=by
 unfold KV at r
 induction r with
 | nil=>rfl
 | cons h t ih=>rw[List.any_cons,List.any_cons,ih,h.1]
theorem KV.repl {kvs:List (κ×V)}{vs:List (κ×Value)} (r:KV kvs vs) (k:κ) {y:V}{u:Value} (ry:RelV y u) :
  KV (kvs.map fun kv=>if kv.1=k then (kv.1,y) else kv) (vs.map fun kv=>if kv.1=k then (kv.1,u) else kv):=by
 unfold KV at r ⊢
 induction r with
 | nil=>exact .nil
 | @cons p q ps qs h t ih=>
  rw[List.map_cons,List.map_cons]
  refine .cons ?_ ih
  obtain ⟨h1,h2⟩:=h
  by_cases e:p.1=k
  ·rw[if_pos e,if_pos (h1.symm.trans e)];exact ⟨h1,ry⟩
  ·rw[if_neg e,if_neg (fun z=>e (h1.trans z))];exact ⟨h1,h2⟩
theorem KV.put {kvs:List (κ×V)}{vs:List (κ×Value)} (r:KV kvs vs) (k:κ) {y:V}{u:Value} (ry:RelV y u):KV (pY kvs k y) (stored vs k u):=by
 unfold pY stored
 rw[r.any k]
 by_cases e:(vs.any fun kv=>decide (kv.1=k))=true
 ·rw[if_pos e,if_pos e];exact r.repl k ry
 ·rw[if_neg e,if_neg e];exact Paired.snoc r ⟨rfl,ry⟩
theorem KV.length {kvs:List (κ×V)}{vs:List (κ×Value)} (r:KV kvs vs):kvs.length=vs.length:=Paired.length r
end
theorem zF {P:Program}{w:World}{k:fJ}{u:Value} (r:RelV (kV k) u):(dP P w).is k u=true:=by
 cases k with
 | inl i=>obtain ⟨t,e⟩:=(show ∃ t,u=Value.int i t from r);subst e;exact zK P w i t
 | inr x=>obtain ⟨t,e⟩:=(show ∃ t,u=Value.str x t from r);subst e;exact zL P w x t
theorem Hj {P:Program}{w:World}:∀ {ks:List fJ}{us:List Value},Vals (ks.map kV) us→ItemsAre (dP P w) ks us
 | [],_,r=>by rw[List.map_nil] at r;cases r;exact .nil
 | k :: ks,_,r=>by
  rw[List.map_cons] at r
  cases r with
  | cons h t=>exact .cons (zF h) (Hj t)
abbrev KT (H:Hp):List (List fJ×V)→List (List fJ×Addr×Value)→Prop:=Paired fun p q=>p.1=q.1∧H q.2.1=some (.tup (p.1.map kV))∧RelV p.2 q.2.2
theorem KT.val {H:Hp}{kvs:List (List fJ×V)}{xs:List (List fJ×Addr×Value)} (r:KT H kvs xs) (k:List fJ):RelO (lD kvs k) ((atKey xs k).map (·.2)):=by
 induction r with
 | nil=>exact True.intro
 | @cons p q ps qs h t ih=>
  obtain ⟨h1,_,h2⟩:=h
  by_cases e:p.1=k
  ·have e':q.1=k:=h1.symm.trans e
   have b:atKey (q :: qs) k=some q.2:=by simp[atKey,List.find?_cons,e']
   rw[Ca e,b];exact h2
  ·have e':¬ q.1=k:=fun z=>e (h1.trans z)
   have b:atKey (q :: qs) k=atKey qs k:=by simp[atKey,List.find?_cons,e']
   rw[Cd e,b];exact ih
theorem KT.repl {H:Hp}{kvs:List (List fJ×V)}{xs:List (List fJ×Addr×Value)} (r:KT H kvs xs) (k:List fJ) {y:V}{u:Value} (ry:RelV y u) :
  KT H (kvs.map fun kv=>if kv.1=k then (kv.1,y) else kv) (xs.map (putAt k u)):=by
 induction r with
 | nil=>exact .nil
 | @cons p q ps qs h t ih=>
  rw[List.map_cons,List.map_cons]
  refine .cons ?_ ih
  obtain ⟨h1,h2,h3⟩:=h
  unfold putAt
  by_cases e:p.1=k
  ·rw[if_pos e,if_pos (h1.symm.trans e)];exact ⟨h1,h2,ry⟩
  ·rw[if_neg e,if_neg (fun z=>e (h1.trans z))];exact ⟨h1,h2,h3⟩
theorem KT.put {H:Hp}{kvs:List (List fJ×V)}{xs:List (List fJ×Addr×Value)} (r:KT H kvs xs) (k:List fJ) {b:Addr}{y:V}{u:Value} (hb:H b=some (.tup (k.map kV))) (ry:RelV y u) :
  KT H (pY kvs k y) (storedH xs k b u):=by
 have e:(kvs.any fun kv=>decide (kv.1=k))=(atKey xs k).isSome:=by
  rw[Mc,(r.val k).isSome_eq,Option.isSome_map]
 unfold pY storedH
 rw[e]
 by_cases q:(atKey xs k).isSome=true
 ·rw[if_pos q,if_pos q];exact r.repl k ry
 ·rw[if_neg q,if_neg q];exact Paired.snoc r ⟨rfl,hb,ry⟩
theorem KT.keeps {H H':Hp}{kvs:List (List fJ×V)}{xs:List (List fJ×Addr×Value)} (r:KT H kvs xs) (ht:∀ b ys,H b=some (.tup ys)→H' b=some (.tup ys)):KT H' kvs xs :=
 Paired.mapP r fun _ _ z=>⟨z.1,ht _ _ z.2.1,z.2.2⟩
section
variable {P:Program}{w:World}{H:Hp}{h:Heap}{a:Addr}
theorem cz {u:HO} (ok:HOk P w H h) (e:Rd H a u):ObjOk P w H h a u:=e.ok ok
theorem zE {kvs:List (fJ×V)} (ok:HOk P w H h) (e:Rd H a (.dK kvs)):kvs.length≤sizeLine∧(a == sysModules)=false∧∃ vs,KV kvs vs∧h.DictOf (dP P w) a vs :=
 show ObjOk P w H h a (.dK kvs) from cz ok e
theorem da {kvs:List (fJ×V)} (ok:HOk P w H h) (e:H a=some (.dK kvs)):kvs.length≤sizeLine∧(a == sysModules)=false∧∃ vs,KV kvs vs∧h.DictOf (dP P w) a vs:=zE ok (.inl e)
theorem xP {ks:List fJ} (ok:HOk P w H h) (e:H a=some (.tup (ks.map kV))):(tupleKind (dP P w)).is h ks a:=by
 obtain ⟨_,its,r,o,h1,h2,n,h3⟩:=(show ObjOk P w H h a (.tup (ks.map kV)) from ok a _ e)
 exact ⟨o,its.toArray,n,h1,h2,h3,by simpa using Hj r⟩
theorem Bo {kvs:List (List fJ×V)} (ok:HOk P w H h) (e:Rd H a (.dT kvs)):kvs.length≤sizeLine∧(a == sysModules)=false ∧
  ∃ xs,KT H kvs xs∧h.DictOfH (tupleKind (dP P w)) a xs:=by
 obtain ⟨z,y,xs,r,o,es,ep,h1,h2,h3,h4,h5⟩:=(show ObjOk P w H h a (.dT kvs) from cz ok e)
 refine ⟨z,y,xs,r,o,es,ep,h1,h2,h3,h4,fun x hx=>?_,h5⟩
 have all:∀ {l:List (List fJ×V)}{m:List (List fJ×Addr×Value)},KT H l m→∀ x ∈ m,(tupleKind (dP P w)).is h x.1 x.2.1:=by
  intro l m q
  induction q with
  | nil=>intro x hx;exact nomatch hx
  | @cons p q ps qs hq t ih=>
   intro x hx
   rcases List.mem_cons.mp hx with e | hx
   ·subst e
    exact xP ok (by rw[←hq.1];exact hq.2.1)
   ·exact ih x hx
 exact all r x hx
theorem lx {kvs:List (List fJ×V)} (ok:HOk P w H h) (e:H a=some (.dT kvs)):kvs.length≤sizeLine∧(a == sysModules)=false ∧
  ∃ xs,KT H kvs xs∧h.DictOfH (tupleKind (dP P w)) a xs:=Bo ok (.inl e)
end
def DGet (H:Hp) (a:Addr) (y:V) (r:Option V):Prop :=
 (∃ kvs k,Rd H a (.dK kvs)∧y=kV k∧r=lD kvs k)∨∃ kvs k b,Rd H a (.dT kvs)∧y = .ref b∧H b=some (.tup (k.map kV))∧r=lD kvs k
def DPut (H:Hp) (a:Addr) (y v:V) (H':Hp):Prop :=
 (∃ kvs k,H a=some (.dK kvs)∧y=kV k∧kvs.length<sizeLine∧H'=cA H a (.dK (pY kvs k v))) ∨
 ∃ kvs k b,H a=some (.dT kvs)∧y = .ref b∧H b=some (.tup (k.map kV))∧kvs.length<sizeLine∧H'=cA H a (.dT (pY kvs k v))
theorem DGet.k {H:Hp}{a:Addr}{kvs:List (fJ×V)}{k:fJ} (e:H a=some (.dK kvs)):DGet H a (kV k) (lD kvs k):=.inl ⟨kvs,k,.inl e,rfl,rfl⟩
theorem DPut.k {H:Hp}{a:Addr}{kvs:List (fJ×V)}{k:fJ}{v:V} (e:H a=some (.dK kvs)) (hl:kvs.length<sizeLine):DPut H a (kV k) v (cA H a (.dK (pY kvs k v))):=.inl ⟨kvs,k,e,rfl,hl,rfl⟩
section
variable {X:Cx}{pins:List (Addr×Obj)}{σ:St}{H:Hp}{s:Shared}{a:Addr}{y v:V}{u r:Value}{o:Option V}{A:Around}{E:Value→Shared→Prop}
theorem Inv.big (I:Inv X pins σ H s):sysModules<s.heap.objs.size:=by
 have h:mainGlobals<s.heap.objs.size:=(I.mod.glob.keeps I.bk).lt
 exact Nat.lt_trans (by decide) h
theorem Ty {Q:Value→Shared→Prop} (hu:A.units + 1<cLine) (I:Inv X pins σ H s) (g:DGet H a y (some v)) (ry:RelV y u) (h:∀ w' s',Inv X pins σ H s'→RelV v w'→Q w' s') :
  wpAny (model X.prog X.w) A (getItem (.ref a) u) Q E s:=by
 rcases g with ⟨kvs,k,e,ey,l⟩ | ⟨kvs,k,b,e,ey,eb,l⟩
 ·subst ey
  obtain ⟨z,hd,vs,rel,dd⟩:=zE I.hok e
  obtain ⟨w',hw,rw'⟩:=RelO.some_of (v:=v) (o:=valueAt vs k) (by rw[l];exact rel.val k)
  exact wpAny_getItem_of (zF ry) dd.mapOf hw (h w' _ (I.tok _) rw')
 ·subst ey
  cases (show u=Value.ref b from ry)
  obtain ⟨z,hd,xs,rel,dd⟩:=Bo I.hok e
  obtain ⟨w',hw,rw'⟩:=RelO.some_of (v:=v) (o:=(atKey xs k).map (·.2)) (by rw[l];exact rel.val k)
  obtain ⟨p,hp,hp2⟩:=Option.map_eq_some_iff.mp hw
  refine wpAny_getItem_heap (tupleKind_room_in1 hu) (xP I.hok eb) dd hp ?_
  rw[hp2]
  exact h w' _ (I.tok _) rw'
theorem pw {Q:Value→Shared→Prop} (hu:A.units + 1<cLine) (I:Inv X pins σ H s) (g:DGet H a y o) (ry:RelV y u) (h:∀ s',Inv X pins σ H s'→Q (.bool o.isSome) s') :
  wpAny (model X.prog X.w) A (compareOp .In u (.ref a)) Q E s:=by
 rcases g with ⟨kvs,k,e,ey,l⟩ | ⟨kvs,k,b,e,ey,eb,l⟩
 ·subst ey
  obtain ⟨z,hd,vs,rel,dd⟩:=zE I.hok e
  refine wpAny_in_of (zF ry) hd dd.mapOf ?_
  rw[←(rel.val k).isSome_eq,←l]
  exact h _ (I.tok _)
 ·subst ey
  cases (show u=Value.ref b from ry)
  obtain ⟨z,hd,xs,rel,dd⟩:=Bo I.hok e
  refine wpAny_in_heap (tupleKind_room_in1 hu) (xP I.hok eb) hd dd ?_
  have q:=(rel.val k).isSome_eq
  rw[Option.isSome_map] at q
  rw[←q,←l]
  exact h _ (I.tok _)
theorem ai {Q:Value→Shared→Prop} (hu:A.units + 1<cLine) (I:Inv X pins σ H s) (g:DGet H a y o) (ry:RelV y u) (h:∀ s',Inv X pins σ H s'→Q (.bool (!o.isSome)) s') :
  wpAny (model X.prog X.w) A (compareOp .NotIn u (.ref a)) Q E s:=by
 rcases g with ⟨kvs,k,e,ey,l⟩ | ⟨kvs,k,b,e,ey,eb,l⟩
 ·subst ey
  obtain ⟨z,hd,vs,rel,dd⟩:=zE I.hok e
  refine wpAny_notIn_of (zF ry) hd dd.mapOf ?_
  rw[←(rel.val k).isSome_eq,←l]
  exact h _ (I.tok _)
 ·subst ey
  cases (show u=Value.ref b from ry)
  obtain ⟨z,hd,xs,rel,dd⟩:=Bo I.hok e
  refine wpAny_notIn_heap (tupleKind_room_in1 hu) (xP I.hok eb) hd dd ?_
  have q:=(rel.val k).isSome_eq
  rw[Option.isSome_map] at q
  rw[←q,←l]
  exact h _ (I.tok _)
theorem Iy {h':Heap}{t':Nat}{ob:HO} (I:Inv X pins σ H s) (mu:cu (H a)) (hs:Heap.SameBut a s.heap h') (he:∃ q,h'.get? a=some q) (new:ObjOk X.prog X.w (cA H a ob) h' a ob) :
  Inv X pins σ (cA H a ob) { s with heap:=h',toks:=t' } :=
 I.write (x:=a) (e:=a) mu (.inl rfl) (fun b q hb z=>(hs.2 b hb).trans z) he new
theorem Wj {P:Program}{w:World}{H':Hp}{h':Heap}{kvs:List (fJ×V)}{vs:List (fJ×Value)} (z:kvs.length≤sizeLine) (hd:(a == sysModules)=false) (rel:KV kvs vs) (dd:h'.DictOf (dP P w) a vs) :
  ObjOk P w H' h' a (.dK kvs):=⟨z,hd,vs,rel,dd⟩
theorem Tr {H':Hp}{Q:Unit→Shared→Prop} (hu:A.units + 1<cLine) (I:Inv X pins σ H s) (g:DPut H a y v H') (ry:RelV y u) (rv:RelV v r) (h:∀ s',Inv X pins σ H' s'→Q () s') :
  wpAny (model X.prog X.w) A (setItem (.ref a) u r) Q E s:=by
 rcases g with ⟨kvs,k,e,ey,l,eH⟩ | ⟨kvs,k,b,e,ey,eb,l,eH⟩
 ·subst ey eH
  obtain ⟨z,hd,vs,rel,dd⟩:=da I.hok e
  have hz:vs.length≤sizeLine:=by rw[←rel.length];exact z
  have hl:(pY kvs k v).length≤sizeLine:=by have:=sQ kvs k v;omega
  refine wpAny_setItem_pairs (hsz:=hz) (zF ry) dd fun h' dd' hs=>h _ ?_
  have he:∃ q,h'.get? a=some q:=let ⟨q,_,_,hq,_⟩:=dd';⟨q,hq⟩
  exact Iy I (by rw[e];exact True.intro) hs he (Wj hl hd (rel.put k rv) dd')
 ·subst ey eH
  cases (show u=Value.ref b from ry)
  obtain ⟨z,hd,xs,rel,dd⟩:=lx I.hok e
  have hz:xs.length≤sizeLine:=by rw[←Paired.length rel];exact z
  have hl:(pY kvs k v).length≤sizeLine:=by have:=sQ kvs k v;omega
  refine wpAny_setItem_heap (hsz:=hz) (tupleKind_room_in1 hu) (xP I.hok eb) dd fun h' dd' hs=>h _ ?_
  obtain ⟨q,es,ep,hq,h2,h3,h4,_,h5⟩:=dd'
  refine Iy I (by rw[e];exact True.intro) hs ⟨q,hq⟩ ⟨hl,hd,_,(rel.put k eb rv).keeps fun c ys ec=>?_,q,es,ep,hq,h2,h3,h4,h5⟩
  rw[aV (jM ec e (fun z=>nomatch z))]
  exact ec
end
section
variable {X:Cx}{pins:List (Addr×Obj)}{σ:St}{H:Hp}{s:Shared}{a:Addr}{kvs:List (fJ×V)}{k:fJ}{u:Value}{A:Around}{E:Value→Shared→Prop}
theorem kr {Q:Value→Shared→Prop} (I:Inv X pins σ H s) (e:Rd H a (.dK kvs)) (h:∀ t s',Inv X pins σ H s'→Q (.int kvs.length t) s'):wpAny (model X.prog X.w) A (call (.builtin "len") [.ref a]) Q E s:=by
 obtain ⟨z,hd,vs,rel,dd⟩:=zE I.hok e
 refine call_len_dict hd dd (by rw[←rel.length];rw[sizeLine_eq] at z;omega) ?_
 rw[←rel.length]
 exact h _ _ (I.tok _)
end
def eh (i:Expr):Prop:=∀ ov iv,subscripted i false ov iv=operate [ov,iv] (getItem ov iv)
theorem Sc {prog:Program}{w:World}{A:Around}{E:Value→Shared→Prop}{s:Shared}{env:Env}{value slice:Expr}{pos:Pos}{T id:String}{Q:Value→Shared→Prop}
  (hl:typeLookup (.type T) "__getitem__" = pure (some (.builtin id))) (hs:eh slice)
  (h:wpAny (model prog w) A (eval value env) (fun o s₁=>wpAny (model prog w) A (eval slice env) (fun i s₂=>s₂.TypeIs o T∧wpAny (model prog w) A (getItem o i) Q E s₂) E s₁) E s) :
  wpAny (model prog w) A (eval (.Subscript value slice pos) env) Q E s:=by
 refine Subscript_ (wpAny_mono h (fun o s₁ h₁=>wpAny_mono h₁ (fun i s₂ h₂=>?_) fun _ _ x=>x) fun _ _ x=>x)
 obtain ⟨hT,h₂⟩:=h₂
 unfold subscriptTail
 refine wpAny_bind ?_
 rw[getitemInPython_of_ne hT.not_modules]
 refine wpAny_bind (wpAny_specialOf hT hl ?_)
 have wA:wpAny (model prog w) A (subscripted slice false o i) (fun r s₃=>wpAny (model prog w) A (letTemporaryGo value o r >>= fun _=>pure r) Q E s₃) E s₂:=by
  rw[hs o i]
  exact wpAny_operating (wpAny_mono h₂ (fun r s₃ h₃=>wpAny_bind (wpAny_letTemporaryGo (wpAny_pure h₃))) fun _ _ x=>x)
 first
  | exact wpAny_pure (wpAny_bind wA)
  | exact wpAny_bind (wpAny_pure (wpAny_bind wA))
  | exact wpAny_bind wA
theorem Ng {X:Cx}{pins:List (Addr×Obj)}{σ:St}{H:Hp}{s:Shared}{a:Addr}{y:V}{o:Option V} (I:Inv X pins σ H s) (g:DGet H a y o):s.TypeIs (.ref a) "dict":=by
 rcases g with ⟨kvs,k,e,_,_⟩ | ⟨kvs,k,b,e,_,_,_⟩
 ·obtain ⟨_,_,vs,_,dd⟩:=zE I.hok e
  exact dd.typeIs
 ·obtain ⟨_,_,xs,_,dd⟩:=Bo I.hok e
  exact dd.typeIs
def Wc (td ty:TE):TE:=fun σ H Q=>td σ H fun x H1=>ty σ H1 fun y H2=>∃ a v,x = .ref a∧DGet H2 a y (some v)∧Q v H2
def fc (ty td:TE):TE:=fun σ H Q=>ty σ H fun y H1=>td σ H1 fun x H2=>∃ a o,x = .ref a∧DGet H2 a y o∧Q (.bl o.isSome) H2
def Ry (ty td:TE):TE:=fun σ H Q=>ty σ H fun y H1=>td σ H1 fun x H2=>∃ a o,x = .ref a∧DGet H2 a y o∧Q (.bl (!o.isSome)) H2
def Rh (td ty tv:TE):TS:=fun D σ H=>tv σ H fun v H1=>td σ H1 fun x H2=>ty σ H2 fun y H3=>∃ a H4,x = .ref a∧DPut H3 a y v H4∧D.nx σ H4
section
variable {X:Cx}{o i e value:Expr}{pos pos' tpos:Pos}{td ty tv:TE}
theorem gQ (hu:X.A.units + 1<cLine) (ho:PE X o td) (hi:PE X i ty) (hs:eh i):PE X (.Subscript o i pos) (Wc td ty):=by
 intro pins s σ H Q I h
 refine Sc PySem.F.slot_dict_getitem.lookup hs (eZ (ho pins s σ H _ I h) fun u s1 ⟨x,H1,I1,rx,q1⟩=>eZ (hi pins s1 σ H1 _ I1 q1) fun iv s2 ⟨y,H2,I2,ry,a,v,ex,g,q2⟩=>?_)
 subst ex
 obtain rfl:u=Value.ref a:=rx
 exact ⟨Ng I2 g,Ty hu I2 g ry fun w' s3 I3 rw'=>⟨v,H2,I3,rw',q2⟩⟩
theorem Om (hu:X.A.units + 1<cLine) (hi:PE X i ty) (ho:PE X o td):PC X .In i o (fc ty td):=by
 intro pins s σ H Q I h
 refine eZ (hi pins s σ H _ I h) fun iv s1 ⟨y,H1,I1,ry,q1⟩=>eZ (ho pins s1 σ H1 _ I1 q1) fun u s2 ⟨x,H2,I2,rx,a,ov,ex,g,q2⟩=>?_
 subst ex
 obtain rfl:u=Value.ref a:=rx
 exact pw hu I2 g ry fun s3 I3=>⟨.bl ov.isSome,H2,I3,rfl,q2⟩
theorem lO (hu:X.A.units + 1<cLine) (hi:PE X i ty) (ho:PE X o td):PC X .NotIn i o (Ry ty td):=by
 intro pins s σ H Q I h
 refine eZ (hi pins s σ H _ I h) fun iv s1 ⟨y,H1,I1,ry,q1⟩=>eZ (ho pins s1 σ H1 _ I1 q1) fun u s2 ⟨x,H2,I2,rx,a,ov,ex,g,q2⟩=>?_
 subst ex
 obtain rfl:u=Value.ref a:=rx
 exact ai hu I2 g ry fun s3 I3=>⟨.bl (!ov.isSome),H2,I3,rfl,q2⟩
theorem Rn (hu:X.A.units + 1<cLine) (ho:PE X o td) (hi:PE X i ty) (hv:PE X value tv) (hs:swapsWith value (some (.Subscript o i pos')) pos.line X.env=pure false) :
  PS X (.Assign [.Subscript o i pos'] value pos) (Rh td ty tv):=by
 intro pins s σ H D I h
 refine wpAny_Assign_Subscript (eZ (hv pins s σ H _ I h) fun r s1 ⟨v,H1,I1,rv,q1⟩=>eZ (ho pins s1 σ H1 _ I1 q1) fun u s2 ⟨x,H2,I2,rx,q2⟩=>eZ (hi pins s2 σ H2 _ I2 q2) fun iv s3 ⟨y,H3,I3,ry,a,H4,ex,g,q3⟩=>?_) hs
 subst ex
 obtain rfl:u=Value.ref a:=rx
 exact Tr hu I3 g ry rv fun s4 I4=>⟨σ,H4,I4,q3⟩
end
theorem Xv {P:Program}{w:World}{H:Hp} (h:Heap) (hb:sysModules<h.objs.size):ObjOk P w H (h.push { cls:=.type "dict",data:=.dict #[] }) h.objs.size (.dK []) :=
 ⟨Nat.zero_le _,beq_eq_false_iff_ne.mpr (Ne.symm (Nat.ne_of_lt hb)),[],.nil,Heap.DictOf.new h⟩
section
variable {X:Cx}{pos:Pos}
end
def Ox:List (TE×TE)→St→Hp→(List (V×V)→Hp→Prop)→Prop
 | [],_,H,Q=>Q [] H
 | (tk,tv) :: r,σ,H,Q=>tk σ H fun x H1=>tv σ H1 fun y H2=>Ox r σ H2 fun ps H3=>Q ((x,y) :: ps) H3
abbrev VV:List (V×V)→List (Value×Value)→Prop:=Paired fun p q=>RelV p.1 q.1∧RelV p.2 q.2
def mw (X:Cx) (pos:Pos) (keys:List (Option Expr)) (values:List Expr) (trs:List (TE×TE)):Prop :=
 ∀ (pins:List (Addr×Obj)) (s:Shared) (σ:St) (H:Hp) (Q:List (V×V)→Hp→Prop),Inv X pins σ H s→Ox trs σ H Q →
  wpAny (model X.prog X.w) X.A (evalPairs (pairTrees keys values X.env pos)) (fun vs s'=>∃ ps H',Inv X pins σ H' s'∧VV ps vs∧Q ps H') X.xe s
theorem Rq {X:Cx}{pos:Pos}:mw X pos [] [] []:=fun pins s σ H Q I h=>pairTrees_nil_walk ⟨[],H,I,.nil,h⟩
theorem Mg {X:Cx}{pos:Pos}{k v:Expr}{ks:List (Option Expr)}{vs:List Expr}{tk tv:TE}{trs:List (TE×TE)} (hk:PE X k tk) (hv:PE X v tv) (hr:mw X pos ks vs trs) :
  mw X pos (some k :: ks) (v :: vs) ((tk,tv) :: trs):=fun pins s σ H Q I h=>
 pairTrees_cons_walk (eZ (hk pins s σ H _ I h) fun u s1 ⟨x,H1,I1,rx,q1⟩=>eZ (hv pins s1 σ H1 _ I1 q1) fun w2 s2 ⟨y,H2,I2,ry,q2⟩=>
  eZ (hr pins s2 σ H2 _ I2 q2) fun ws s3 ⟨ps,H3,I3,rel,q3⟩=>⟨(x,y) :: ps,H3,I3,.cons ⟨rx,ry⟩ rel,q3⟩)
def vA (kvs more:List (fJ×V)):List (fJ×V):=more.foldl (fun acc kv=>pY acc kv.1 kv.2) kvs
theorem KV.merge:∀ {more:List (fJ×V)}{rs:List (fJ×Value)}{kvs:List (fJ×V)}{vs:List (fJ×Value)},KV more rs→KV kvs vs→KV (vA kvs more) (merged vs rs):=by
 intro more rs kvs vs r
 unfold KV at r
 induction r generalizing kvs vs with
 | nil=>intro q;exact q
 | @cons p q ps qs h t ih=>
  intro r0
  have e:KV (pY kvs p.1 p.2) (stored vs q.1 q.2):=by
   have:=r0.put p.1 h.2
   rw[←h.1];exact this
  exact ih e
theorem uS:∀ (more kvs:List (fJ×V)),(vA kvs more).length≤kvs.length + more.length
 | [],kvs=>by show kvs.length≤kvs.length + 0;omega
 | p :: r,kvs=>by
  have h1:=uS r (pY kvs p.1 p.2)
  have h2:=sQ kvs p.1 p.2
  show (vA (pY kvs p.1 p.2) r).length≤_
  rw[List.length_cons];omega
theorem Cz {P:Program}{w:World}:∀ {kvs:List (fJ×V)}{ws:List (Value×Value)},VV (kvs.map fun kv=>(kV kv.1,kv.2)) ws→∃ rs,Carries (dP P w) ws rs∧KV kvs rs
 | [],_,r=>by rw[List.map_nil] at r;cases r;exact ⟨[],True.intro,.nil⟩
 | p :: kvs,_,r=>by
  rw[List.map_cons] at r
  cases r with
  | @cons a b as bs h t=>
   obtain ⟨rs,c,q⟩:=Cz (P:=P) (w:=w) t
   obtain ⟨b1,b2⟩:=b
   exact ⟨(p.1,b2) :: rs,⟨zF h.1,rfl,c⟩,.cons ⟨rfl,h.2⟩ q⟩
def lu (trs:List (TE×TE)):TE:=fun σ H Q=>∀ p,H p=none→Ox trs σ (cA H p (.dK [])) fun ps H2=>H2 p=some (.dK [])∧∃ kvs:List (fJ×V),ps=kvs.map (fun kv=>(kV kv.1,kv.2))∧kvs.length≤15∧Q (.ref p) (cA H2 p (.dK (vA [] kvs)))
theorem Rk {X:Cx}{pos:Pos}{keys:List (Option Expr)}{values:List Expr}{trs:List (TE×TE)} (h:mw X pos keys values trs) (hall:keys.all (·.isSome)=true) (hl:keys.length=values.length) (h0:keys≠[])
  (h15:keys.length≤15):PE X (.Dict keys values pos) (lu trs):=by
 intro pins s σ H Q I q
 have hn:=I.hok.fresh (Nat.le_refl s.heap.objs.size)
 have I1:=I.laid (a:=s.heap.objs.size) (o:=.dK []) (h':=s.heap.push { cls:=.type "dict",data:=.dict #[] }) (t':=s.toks) (fun _ _ q=>Heap.get?_push_of_some _ q) (Nat.le_refl _) (Xv s.heap I.big)
 refine wpAny_Dict_walk (knd:=dP X.prog X.w) hall hl h0 h15 (eZ (h pins _ σ _ _ I1 (q _ hn)) fun ws s2 ⟨ps,H2,I2,rel,e,kvs,ep,lk,q2⟩=>?_)
 subst ep
 obtain ⟨rs,c,rk⟩:=Cz (P:=X.prog) (w:=X.w) rel
 obtain ⟨z,hd,vs0,r0,dd⟩:=da I2.hok e
 cases r0
 refine ⟨rs,c,dd,fun h' dd' hs=>⟨.ref s.heap.objs.size,_,?_,rfl,q2⟩⟩
 have hz:(vA [] kvs).length≤sizeLine:=by
  have h1:=uS kvs []
  rw[List.length_nil] at h1
  rw[sizeLine_eq];omega
 have he:∃ q,h'.get? s.heap.objs.size=some q:=let ⟨q,_,_,hq,_⟩:=dd';⟨q,hq⟩
 exact Iy I2 (by rw[e];exact True.intro) hs he (Wj hz hd (rk.merge .nil) dd')
structure M2 (X:Cx) (o:Expr) (m:Str) (apos:Pos) (e f:Expr) (cpos:Pos):Prop where
 base:attributeBase o m X.env (eval o X.env)=eval o X.env
 few:((backTo cpos (starEach [e,f] X.env)).all (fun x=>!x.1) && (backToKw cpos (keywordEach [] X.env)).all (fun x=>x.1.isSome)
  && decide (([e,f]:List Expr).length + ([]:List Keyword).length + (if ([]:List Keyword).isEmpty then 0 else 1)<30))=true
 line:(apos.endLine == cpos.line)=true
 trees:backTo cpos (starEach [e,f] X.env)=[(false,eval e X.env),(false,eval f X.env)]
def qc (H:Hp) (a:Addr):Prop:=(∃ kvs,Rd H a (.dK kvs))∨∃ kvs,Rd H a (.dT kvs)
theorem gy {X:Cx}{pins:List (Addr×Obj)}{σ:St}{H:Hp}{s:Shared}{a:Addr} (I:Inv X pins σ H s) (d:qc H a) :
  s.TypeIs (.ref a) "dict" ∧ (∀ b,Value.ref a = .ref b→∃ ob,s.heap.get? b=some ob∧ob.dict=none)∧(a == sysModules)=false:=by
 rcases d with ⟨kvs,e⟩ | ⟨kvs,e⟩
 ·obtain ⟨_,hd,vs,_,dd⟩:=zE I.hok e
  refine ⟨dd.typeIs,fun b q=>?_,hd⟩
  cases q
  obtain ⟨ob,_,_,h1,h2,_⟩:=dd
  exact ⟨ob,h1,h2.2.1⟩
 ·obtain ⟨_,hd,xs,_,dd⟩:=Bo I.hok e
  refine ⟨dd.typeIs,fun b q=>?_,hd⟩
  cases q
  obtain ⟨ob,_,_,h1,h2,_⟩:=dd
  exact ⟨ob,h1,h2.2.1⟩
section
variable {X:Cx}{pins:List (Addr×Obj)}{σ:St}{H:Hp}{s:Shared}{a:Addr}{y d:V}{u r:Value}{o:Option V}{A:Around}{E:Value→Shared→Prop}
theorem im {Q:Value→Shared→Prop} (hu:A.units + 1<cLine) (I:Inv X pins σ H s) (g:DGet H a y o) (ry:RelV y u) (rd:RelV d r) (h:∀ w' s',Inv X pins σ H s'→RelV (o.getD d) w'→Q w' s') :
  wpAny (model X.prog X.w) A (call (.builtin "dict.get") [.ref a,u,r]) Q E s:=by
 rcases g with ⟨kvs,k,e,ey,l⟩ | ⟨kvs,k,b,e,ey,eb,l⟩
 ·subst ey
  obtain ⟨z,hd,vs,rel,dd⟩:=zE I.hok e
  refine call_meetsIn PySem.F.slot_dict_get dd.typeIs PySem.F.entry_dict_get (PySem.F.args_dict_get_3 _ _ _) (meets_dict_get_default (dP X.prog X.w) a (zF ry) hd r) ⟨_,dd.mapOf,h _ _ (I.tok _) ?_⟩
  rw[l]
  exact (rel.val k).getD rd
 ·subst ey
  cases (show u=Value.ref b from ry)
  obtain ⟨z,hd,xs,rel,dd⟩:=Bo I.hok e
  refine call_meetsIn PySem.F.slot_dict_get dd.typeIs PySem.F.entry_dict_get (PySem.F.args_dict_get_3 _ _ _) (meetsH_dict_get_default (tupleKind (dP X.prog X.w)) a b hd r) ⟨tupleKind_room_in1 hu,k,xs,xP I.hok eb,dd,h _ _ (I.tok _) ?_⟩
  rw[l]
  exact (rel.val k).getD rd
end
def Xk (td ty tx:TE):TE:=fun σ H Q=>td σ H fun x H1=>∃ a,x = .ref a∧qc H1 a∧ty σ H1 fun y H2=>tx σ H2 fun z H3=>∃ o,DGet H3 a y o∧Q (o.getD z) H3
section
variable {X:Cx}{o e f:Expr}{apos cpos:Pos}{td ty tx:TE}
theorem rM (hu:X.A.units + 1<cLine) (ho:PE X o td) (he:PE X e ty) (hf:PE X f tx) (m:M2 X o "get" apos e f cpos):PE X (.Call (.Attribute o "get" apos) [e,f] [] cpos) (Xk td ty tx):=by
 intro pins s σ H Q I h
 refine wpAny_Call_method m.base m.few m.line PySem.F.plainAttrs_dict PySem.F.slot_dict_get PySem.F.type_dict_get (eZ (ho pins s σ H _ I h) fun u s1 ⟨x,H1,I1,rx,a,ex,d,q1⟩=>?_)
 subst ex
 obtain rfl:u=Value.ref a:=rx
 obtain ⟨t1,t2,_⟩:=gy I1 d
 refine ⟨t1,t2,?_⟩
 rw[m.trees]
 refine Calls.callWith_builtin rfl (Calls.evalArgs_plain (Calls.spliced_cons (eZ (he pins s1 σ H1 _ I1 q1) fun iv s2 ⟨y,H2,I2,ry,q2⟩=>
  Calls.spliced_cons (eZ (hf pins s2 σ H2 _ I2 q2) fun fv s3 ⟨z,H3,I3,rz,ov,g,q3⟩=>Calls.spliced_nil ?_))))
 exact im hu I3 g ry rz fun w' s4 I4 rw'=>⟨_,H3,I4,rw',q3⟩
end
section
variable {X:Cx}{pins:List (Addr×Obj)}{σ:St}{H:Hp}{s:Shared}{a:Addr}{kvs:List (fJ×V)}{A:Around}{E:Value→Shared→Prop}
end
section
variable {X:Cx}{pins:List (Addr×Obj)}{σ:St}{H:Hp}{s:Shared}{a:Addr}{y:V}{u:Value}{A:Around}{E:Value→Shared→Prop}
end
end L2
namespace L2
open PySem PySem.Spec PyProof.Rows
section
variable {prog:Program}{w:World}{A:Around}{E:Value→Shared→Prop}
end
section
variable {X:Cx}
end
end L2
namespace L2
open PySem PySem.Spec PyProof.Rows
section
variable {X:Cx}{pins:List (Addr×Obj)}{σ:St}{H:Hp}{s:Shared}{h':Heap}
theorem Inv.turnedNew {t':Nat}{ch:List Addr}{T:Addr}{ob:HO} (I:Inv X pins σ H s) (k:∀ b o,b ∉ ch→s.heap.get? b=some o→h'.get? b=some o) (hf:∀ b ∈ ch,pZ X pins H b) (hT:s.heap.objs.size≤T)
  (new:ObjOk X.prog X.w (cA H T ob) h' T ob):Inv X pins σ (cA H T ob) { s with heap:=h',toks:=t' }:=by
 have hn:H T=none:=I.hok.fresh hT
 have nit:∀ b u,H b=some u→b ∉ ch:=fun b u e z=>by
  have q:=(hf b z).1
  rw[q] at e;cases e
 refine I.step (g':=s.gens) (d':=s.drawn) (ch:=ch) (fun b hb=>⟨(hf b hb).2.2.2.1,(hf b hb).2.1,(hf b hb).2.2.2.2.1,(hf b hb).2.2.2.2.2⟩) (fun b o _ _ hc e _=>k b o hc e) (fun b o _ _ hc e _=>⟨o.slots,k b o hc e⟩)
  (fun b o _ e n=>?_) (fun b o hc e=>⟨o,k b o hc e⟩) (fun b xs e=>?_) (fun b o u e=>?_) (fun b ps e=>⟨#[],?_⟩) (fun m hm=>?_) (fun b u e=>?_) I.bare
 ·rw[aV (Nat.ne_of_lt (Nat.lt_of_lt_of_le (Heap.lt_size e) hT))];exact n
 ·rw[aV (aQ e hn)];exact e
 ·rw[aV (aQ e hn)];exact e
 ·rw[aV (aQ e hn),e];simp
 ·obtain ⟨o,es,ep,ho,r⟩:=hm
  exact ⟨o,es,ep,k _ o (fun z=>(hf _ z).2.1 rfl) ho,r⟩
 ·by_cases hb:b=T
  ·subst hb
   rw[aF] at e
   cases e
   exact new
  ·rw[aV hb] at e
   refine (I.hok b u e).stay (fun c v hc q=>k c v ?_ q) (fun c q=>by rw[aV (aQ q hn)];exact q) fun c xs q=>by rw[aV (aQ q hn)];exact q
   rcases hc with z | z
   ·rw[z];exact nit b u e
   ·exact nit c _ z
theorem Inv.lock {d:Addr}{u:HO} (I:Inv X pins σ H s) (h:H d=some u) (mu:cu (some u)):∃ od,Inv X pins σ (cA H d (.frz od u)) s:=by
 have x:=I.hok d u h
 have ex:∃ od,s.heap.get? d=some od:=by
  cases u with
  | lst xs=>obtain ⟨_,_,_,_,e⟩:=x;exact ⟨_,e⟩
  | dK kvs=>obtain ⟨_,_,_,_,o,_,_,e,_⟩:=x;exact ⟨o,e⟩
  | dT kvs=>obtain ⟨_,_,_,_,o,_,_,e,_⟩:=x;exact ⟨o,e⟩
  | set S n=>obtain ⟨o,_,_,_,e,_⟩:=x;exact ⟨o,e⟩
  | ins C dx fs=>obtain ⟨_,_,_,e,_⟩:=x;exact ⟨_,e⟩
  | ext φ=>obtain ⟨_,⟨_,e⟩,_⟩:=x;exact ⟨_,e⟩
  | _=>exact False.elim mu
 obtain ⟨od,e⟩:=ex
 have new:ObjOk X.prog X.w (cA H d (.frz od u)) s.heap d (.frz od u):=by
  refine ⟨e,x.stay (fun b v _ q=>q) (fun b q=>?_) fun b xs q=>?_⟩
  ·rw[aV (fun z=>by rw[z,h] at q;cases q;exact mu)];exact q
  ·rw[aV (fun z=>by rw[z,h] at q;cases q;exact mu)];exact q
 exact ⟨od,I.write (x:=d) (e:=d) (t':=s.toks) (h':=s.heap) (by rw[h];exact mu) (.inl rfl) (fun b v _ q=>q) ⟨od,e⟩ new⟩
theorem Inv.nofrz {d:Addr}{u:HO} (I:Inv X pins σ H s) (h:H d=some u) (mu:cu (some u)):∀ o' u',X.H_0 d≠some (.frz o' u'):=fun o' u' e=>by
 have q:=I.base.frzs d o' u' e
 rw[h] at q
 cases q
 exact mu
theorem Inv.unlock {d:Addr}{od:Obj}{u:HO} (I:Inv X pins σ H s) (h:H d=some (.frz od u)) (hn:∀ o' u',X.H_0 d≠some (.frz o' u')):Inv X pins σ (cA H d u) s:=by
 have neH:∀ b o,H b=some o→(∀ o' u',o ≠ .frz o' u')→b≠d:=fun b o e hne z=>by
  rw[z,h] at e
  cases e
  exact hne _ _ rfl
 have neN:∀ b,H b=none→b≠d:=fun b e z=>by rw[z,h] at e;cases e
 refine ⟨I.ok,I.os,I.bare,⟨I.base.keep,I.base.slot,fun b o e n hx=>?_,I.base.there,fun b xs e=>?_,fun b o x e=>?_,fun b ps e=>?_⟩,I.loc,I.cell,?_,fun x c e=>?_,fun p hp=>?_,fun b o e=>?_,I.len⟩
 ·rw[aV (neN b (I.base.free b o e n hx))];exact I.base.free b o e n hx
 ·have q:=I.base.tups b xs e
  rw[aV (neH b _ q (fun _ _ z=>nomatch z))];exact q
 ·have q:=I.base.frzs b o x e
  rw[aV (fun z=>by rw[z] at e;exact hn _ _ e)];exact q
 ·obtain ⟨m,q⟩:=I.base.tbls b ps e
  exact ⟨m,by rw[aV (neH b _ q (fun _ _ z=>nomatch z))];exact q⟩
 ·rw[aV (neN _ I.free)];exact I.free
 ·rw[aV (neN c (I.freeC x c e))];exact I.freeC x c e
 ·obtain ⟨e,n,r⟩:=I.pin p hp
  exact ⟨e,by rw[aV (neN _ n)];exact n,r⟩
 ·by_cases hb:b=d
  ·rw[hb,aF] at e
   cases e
   rw[hb]
   obtain ⟨_,x⟩:=I.hok d _ h
   exact x.stay (fun c v _ q=>q) (fun c q=>by rw[aV (neH c _ q (fun _ _ z=>nomatch z))];exact q) fun c xs q=>by rw[aV (neH c _ q (fun _ _ z=>nomatch z))];exact q
  ·rw[aV hb] at e
   exact (I.hok b o e).stay (fun c v _ q=>q) (fun c q=>by rw[aV (neH c _ q (fun _ _ z=>nomatch z))];exact q) fun c xs q=>by rw[aV (neH c _ q (fun _ _ z=>nomatch z))];exact q
end
def fq (t:TE):TE:=fun σ H Q=>∃ d u,H d=some u∧cu (some u)∧∀ od,t σ (cA H d (.frz od u)) fun v H'=>H' d=some (.frz od u)∧Q v (cA H' d u)
section
variable {X:Cx}
theorem bp {e:Expr}{t:TE} (h:PE X e t):PE X e (fq t):=by
 intro pins s σ H Q I hw
 obtain ⟨d,u,hd,mu,hw⟩:=hw
 obtain ⟨od,I1⟩:=I.lock hd mu
 refine eZ (h pins s σ _ _ I1 (hw od)) fun v s1 ⟨x,H1,I2,r,e2,q⟩=>?_
 exact ⟨x,_,I2.unlock e2 (I.nofrz hd mu),r,q⟩
theorem Oo {tg:Expr}{pins:List (Addr×Obj)}{σ:St}{H:Hp}{s:Shared}{R:It→Hp→Prop}{J:It}{tn:Nat→Heap→Prop}{tk:Nat} (I:Inv X pins σ H s) (o:Obj)
  (T:Ij X.prog X.w X.K tg J [s.heap.objs.size] s.heap.objs.size tn) (st:tn 0 (s.heap.push o)) (q:R J H):nk X pins σ tg R (.ref s.heap.objs.size) { s with heap:=s.heap.push o,toks:=tk }:=by
 refine ⟨s.heap.objs.size,[s.heap.objs.size],tn,J,H,rfl,I.kept fun b ob e=>Heap.get?_push_of_some _ e,T,st,fun b hb=>?_,q⟩
 have e:b=s.heap.objs.size:=by simpa using hb
 subst e
 exact I.fpOk (Nat.le_refl _) (I.hok.fresh (Nat.le_refl _))
end
section
variable {X:Cx}{tg:Expr}
end
section
variable {X:Cx}{tg:Expr}
end
def qe (x:Str):It:=⟨fun i _=>i<x.cps.size,fun i H v H'=>H'=H∧∃ c,x.cps[i]? = some c∧v = .str ⟨#[c]⟩,fun i _=>x.cps.size≤i⟩
theorem Ma {P:Program}{w:World}{K:PySem.W.Frag}{tg:Expr} (it:Addr) (x:Str) (t:Tok) (ty:String) (hty:ty = "str_ascii_iterator" ∨ ty = "str_iterator") :
  Ij P w K tg (qe x) [it] it (fun i h=>h.IsStrIter it ty x t i) where
 mem:=by simp
 obj:=fun i h st b hb=>by
  have e:b=it:=by simpa using hb
  subst e
  obtain ⟨o,e,c,d⟩:=st
  exact ⟨o,e,fun v z=>by rw[d] at z;cases z⟩
 keep:=fun i h h' st k=>let ⟨o,ho,r⟩:=st;⟨o,k it (by simp) o ho,r⟩
 item:=by
  intro X hP hw hK hc i pins s σ H E I hf st hg
  subst hP hw hK
  obtain ⟨f0,f1,f2,f3,f4,f5⟩:=hf it (by simp)
  have W:Walks X.prog X.w X.A it [it] [it] x.cps.size (SignAt x) (fun i h=>h.IsStrIter it ty x t i):=by
   rcases hty with e | e
   ·rw[e];exact Walks.strAscii (I.ok.hd hc) it x t
   ·rw[e];exact Walks.strWide (I.ok.hd hc) it x t
  have hno:["enumerate","zip","dict_itemiterator","dict_reverseitemiterator","odict_iterator","itertools.zip_longest","itertools.pairwise"].contains ty=false:=by
   rcases hty with e | e
   ·rw[e];decide
   ·rw[e];decide
  refine W.item i s _ _ hg st fun v h' tk hv st' kk=>?_
  obtain ⟨c,u,hcx,rfl⟩:=hv
  have I1:Inv X pins σ H { s with heap:=h',toks:=tk }:=I.turned (fun b o hb e=>kk b o (by simpa using hb) e) f0 f1 f3 f4 f5
  obtain ⟨oi,e,cc,dd⟩:=id st'
  exact ⟨_,rfl,Lo (s:={ s with heap:=h',toks:=tk }) e cc dd hno ⟨.str ⟨#[c]⟩,H,I1,⟨u,rfl⟩,⟨rfl,c,hcx,rfl⟩,st',fun b hb=>(hf b hb).1⟩⟩
 done:=by
  intro X hP hw hK hc i pins s σ H E I hf st hg
  subst hP hw hK
  obtain ⟨f0,f1,f2,f3,f4,f5⟩:=hf it (by simp)
  have hx:x.cps[i]? = none:=Array.getElem?_eq_none hg
  rcases hty with e | e
  ·rw[e] at st
   exact wpAny_pyNext_ascii_end (I.ok.hd hc) st hx fun h' eb=>⟨rfl,I.turned (t':=s.toks) (fun b o hb e=>eb b o hb e) f0 f1 f3 f4 f5⟩
  ·rw[e] at st
   exact wpAny_pyNext_wide_end (I.ok.hd hc) st hx fun h' eb=>⟨rfl,I.turned (t':=s.toks) (fun b o hb e=>eb b o hb e) f0 f1 f3 f4 f5⟩
 self:=fun A i s Q E st h=>by
  rcases hty with e | e
  ·rw[e] at st;exact wpAny_pyIter_striter_ascii st h
  ·rw[e] at st;exact wpAny_pyIter_striter_wide st h
def ka (te:TE):TI:=fun σ H R=>te σ H fun v H1=>∃ x,v = .str x∧R (qe x) H1
theorem ir {X:Cx}{tg e:Expr}{te:TE} (he:PE X e te):PI X tg e (ka te):=by
 intro pins s σ H R I h
 refine eZ (he pins s σ H _ I h) fun v s1 ⟨y,H1,I1,r1,x,ex,q⟩=>?_
 subst ex
 obtain ⟨t,rfl⟩:=r1
 cases ha:x.cps.all (· < 128)
 ·exact wpAny_pyIter_wide ha (Oo (tk:=s1.toks) I1 _ (Ma _ x t "str_iterator" (.inr rfl)) ⟨_,Heap.get?_push_size _ rfl,rfl,rfl⟩ q)
 ·exact wpAny_pyIter_ascii ha (Oo (tk:=s1.toks) I1 _ (Ma _ x t "str_ascii_iterator" (.inl rfl)) ⟨_,Heap.get?_push_size _ rfl,rfl,rfl⟩ q)
section
variable {prog:Program}{w:World}{A:Around}{E:Value→Shared→Prop}{s:Shared}
theorem Uz {d:Addr}{o:Obj}{es:Array DictEntry}{ep:Nat}{Q:Value→Shared→Prop} (hd:(d == sysModules)=false) (ho:s.heap.get? d=some o) (hc:o.ExactDict) (hdat:o.data = .dict es ep)
  (hQ:Q (.ref s.heap.objs.size) { s with heap:=s.heap.push { cls:=.type "dict_keyiterator",data:=.fields #[.ref d,.int 0 0,.int es.size 0,.int ep 0] } }) :
  wpAny (model prog w) A (pyIter (.ref d)) Q E s:=by
 have hT:s.TypeIs (.ref d) "dict":=⟨o,ho,hc.1⟩
 refine wpAny_pyIter_slot hT F.slot_dict_iter (wpAny_call_entry F.slot_dict_iter hT F.entry_dict_iter ?_ (F.args_dict_iter_1 _))
 unfold Builtin.«dict.__iter__»
 refine wpAny_bind ?_
 unfold Builtin.Dict.dictSlotNone
 refine wpAny_bind (wpAny_notOrdered_dict hT ?_)
 show wpAny _ _ (pure (Value.ref d)) _ _ s
 refine wpAny_pure ?_
 show wpAny _ _ (Builtin.Dict.showsAll d >>= _) _ _ s
 unfold Builtin.Dict.showsAll
 rw[if_neg (by rw[hd];exact Bool.false_ne_true)]
 refine wpAny_bind (wpAny_pure ?_)
 refine wpAny_bind (wpAny_dictEntries ho hdat ?_)
 refine wpAny_bind (wpAny_dictEpoch ho hdat ?_)
 refine wpAny_bind (wpAny_newObj_type (wpAny_pure ⟨_,rfl,"dict_keyiterator",_,⟨_,Heap.get?_push_size _ rfl,rfl⟩,F.slot_dict_keyiterator_next.lookup,?_⟩))
 simpa [rawInt] using hQ
theorem Jn {it d:Addr}{i n ep:Nat}{od:Obj}{es:Array DictEntry}{Q:Option Value→Shared→Prop} (hh:A.handled=none) (hit:s.heap.IsKeyIter it d i n ep) (hod:s.heap.get? d=some od) (hdd:od.data = .dict es ep)
  (hsz:es.size=n) (hge:n≤i) (hQ:∀ h',Heap.ExtBut it s.heap h'→Q none { s with heap:=h' }):wpAny (model prog w) A (pyNext (.ref it)) Q E s:=by
 obtain ⟨o,ho,hc,hd⟩:=id hit
 unfold pyNext
 refine wpAny_bind (wpAny_attempt (wpAny_callSpecial?_slot (name:=Str.ofString "__next__") hit.typeIs F.slot_dict_keyiterator_next
  (wpAny_call_entry F.slot_dict_keyiterator_next hit.typeIs F.entry_dict_keyiterator_next ?_ (F.args_dict_keyiterator_next_1 _))))
 refine wpAny_bind (wpAny_pure ?_)
 refine wpAny_bind ?_
 refine wpAny_bind ?_
 first | refine wpAny_bind (wpAny_typeNameOfWhole_keyiter hit.typeIs (wpAny_pure ?_)) | refine wpAny_bind (wpAny_typeNameOf_keyiter hit.typeIs (wpAny_pure ?_))
 refine wpAny_bind (wpAny_fieldsOf ho hd ?_)
 have hown:Builtin.Dict_items.ownsTuple "dict_keyiterator" = false:=by decide
 simp only[hown,Bool.false_eq_true,if_false]
 show wpAny _ _ (if (Value.ref d == Value.none)=true then _ else _) _ _ s
 rw[if_neg (show ¬ ((Value.ref d == Value.none)=true) from Bool.false_ne_true)]
 refine wpAny_bind (wpAny_pure ?_)
 refine wpAny_bind (wpAny_dictEntries hod hdd ?_)
 rw[if_neg (by rw[hsz];simp)]
 refine wpAny_bind (wpAny_pure ?_)
 refine wpAny_bind (wpAny_dictEpoch hod hdd ?_)
 rw[if_neg (by simp)]
 refine wpAny_pure ?_
 have hge':es.size≤i:=by rw[hsz];exact hge
 simp only[show ¬ ((i:Int)<0) from by omega,if_false,Int.toNat_natCast,Array.getElem?_eq_none hge']
 refine wpAny_bind ?_
 first | refine wpAny_bind (wpAny_typeNameOfWhole_keyiter hit.typeIs (wpAny_pure ?_)) | refine wpAny_bind (wpAny_typeNameOf_keyiter hit.typeIs (wpAny_pure ?_))
 show wpAny _ _ (setField (.ref it) 0 .none >>= _) _ _ s
 refine wpAny_bind (wpAny_setField ho hd (by simp) ?_)
 show wpAny _ _ (newExc (.type "StopIteration") [] >>= _) _ _ _
 refine wpAny_bind ?_
 simp only[newExc,newTuple]
 refine wpAny_bind (wpAny_newObj_type ?_ (by size_fits))
 refine wpAny_bind (m:=firstArgMember _ _) (wpAny_of_eq (a:=Value.none) (by first | rfl | (simp only[firstArgMember];rfl)) ?_)
 refine wpAny_newObj_type ?_ (by size_fits)
 simp only[raiseNew]
 refine wpAny_bind (wpAny_handled ?_)
 rw[show A.in1.handled=none from hh]
 refine wpAny_bind (wpAny_pure (wpAny_throw ?_))
 refine wpAny_bind (wpAny_isInstance (T:="StopIteration") (b:=true) ⟨_,Heap.get?_push_size _ rfl,rfl⟩ isSubtype_stop ?_)
 exact wpAny_pure (hQ _ (((Heap.SameBut.update ..).extBut.push _).push _))
end
theorem gz {κ:Type}{kvs:List (κ×V)}{vs:List (κ×Value)} (h:KV kvs vs):∀ {i:Nat}{k:κ}{v:V},kvs[i]? = some (k,v)→∃ u,vs[i]? = some (k,u)∧RelV v u:=by
 unfold KV at h
 induction h with
 | nil=>intro i k v e;simp at e
 | @cons a b l₁ l₂ r t ih=>
  intro i k v e
  cases i with
  | zero=>
   simp only[List.getElem?_cons_zero,Option.some.injEq] at e
   subst e
   refine ⟨b.2,?_,r.2⟩
   simp only[List.getElem?_cons_zero]
   exact congrArg some (Prod.ext r.1.symm rfl)
  | succ j=>
   simp only[List.getElem?_cons_succ] at e ⊢
   exact ih e
theorem Yd {k:fJ}{u:Value} (h:zC k u=true):RelV (kV k) u:=by
 rcases eU h with ⟨i,t,rfl,rfl⟩ | ⟨x,t,rfl,rfl⟩
 ·exact ⟨t,rfl⟩
 ·exact ⟨t,rfl⟩
section
variable {X:Cx}{pins:List (Addr×Obj)}{σ:St}{H:Hp}{s:Shared}{d:Addr}{o:Obj}
end
section
variable {P:Program}{w:World}{K:PySem.W.Frag}{tg:Expr}{d:Addr}{o:Obj}{es:Array DictEntry}{ep:Nat}
end
section
variable {X:Cx}{tg e:Expr}{td:TE}{apos cpos:Pos}
end
def Vt (K:PySem.W.Frag) (a:Addr):It :=
 ⟨fun i H=>∃ (xs:List V) (x:V),SqL K H a xs∧xs[i]? = some x,fun i H v H'=>∃ T x,v = .ref T∧H T=none∧H'=cA H T (.tup [.int (i:Nat),x])∧∀ xs,SqL K H a xs→xs[i]? = some x,fun i H=>∃ xs:List V,SqL K H a xs∧xs.length≤i⟩
theorem Sy {P:Program}{w:World}{K:PySem.W.Frag}{elts:List Expr}{kk:Nat}{tpos:Pos} (a e it:Addr) :
  Ij P w K (.Tuple elts kk tpos) (Vt K a) [e,it] e (fun i h=>(∃ old,IsEnum h e it ((i:Nat):Int) old)∧h.IsListIter it a i∧e≠it) where
 mem:=by simp
 obj:=fun i h st b hb=>by
  obtain ⟨⟨old,he⟩,⟨o,ho,hc,hd⟩,_⟩:=st
  have e':b=e∨b=it:=by simpa using hb
  rcases e' with z | z
  ·rw[z];exact ⟨_,he,fun v q=>nomatch q⟩
  ·rw[z];exact ⟨o,ho,fun v q=>by rw[hd] at q;cases q⟩
 keep:=fun i h h' st k=>let ⟨⟨old,he⟩,hi,hne⟩:=st;⟨⟨old,k e (by simp) _ he⟩,hi.at fun o q=>k it (by simp) o q,hne⟩
 item:=by
  intro X hP hw hK hc i pins s σ H E I hf st hg
  subst hP hw hK
  obtain ⟨⟨old,he⟩,hit,hne⟩:=st
  obtain ⟨xs,x,hq,hx⟩:=hg
  obtain ⟨its,rv,p,hz⟩:=I.list hq
  obtain ⟨u,hu,ru⟩:=rv.get hx
  have hel:e<s.heap.objs.size:=Heap.lt_size he
  have hil:it<s.heap.objs.size:=by obtain ⟨_,q,_⟩:=hit;exact Heap.lt_size q
  refine wpAny_pyNext_enum_item he hit p.isList (x:=u) (by simpa using hu) hne fun h' ho hit' hT hsz hk=>?_
  refine ⟨_,rfl,wpAny_letOwnedTupleGo_enum (s:={ s with heap:=h',toks:=s.toks + 1 }) ho fun h'' he' sb=>?_⟩
  have hT2:h''.get? s.heap.objs.size=some { cls:=.type "tuple",data:=.seq #[.int i s.toks,u] }:=(sb.2 _ (Nat.ne_of_gt hel)).trans hT
  have new:ObjOk X.prog X.w (cA H s.heap.objs.size (.tup [.int (i:Nat),x])) h'' s.heap.objs.size (.tup [.int (i:Nat),x]) :=
   ⟨by show 2≤sizeLine;decide,[.int i s.toks,u],.cons ⟨_,rfl⟩ (.cons ru .nil),⟨_,hT2,rfl,_,rfl⟩⟩
  have I1:Inv X pins σ (cA H s.heap.objs.size (.tup [.int (i:Nat),x])) { s with heap:=h'',toks:=s.toks + 1 } :=
   I.turnedNew (ch:=[e,it]) (fun b ob hb q=>(sb.2 b (fun z=>hb (by simp[z]))).trans (hk b ob (fun z=>hb (by simp[z])) (fun z=>hb (by simp[z])) q)) hf (Nat.le_refl _) new
  refine ⟨.ref s.heap.objs.size,_,I1,rfl,⟨_,x,rfl,I.hok.fresh (Nat.le_refl _),rfl,fun ys hy=>by rw[I.list_inj hy hq];exact hx⟩,⟨⟨u,?_⟩,hit'.at fun o q=>(sb.2 it (Ne.symm hne)).trans q,hne⟩,fun b hb=>?_⟩
  ·have e1:((i + 1:Nat):Int)=(i:Int) + 1:=by omega
   rw[e1];exact he'
  ·have hb':b<s.heap.objs.size:=by
    have e':b=e∨b=it:=by simpa using hb
    rcases e' with z | z
    ·rw[z];exact hel
    ·rw[z];exact hil
   rw[aV (Nat.ne_of_lt hb')]
   exact (hf b hb).1
 done:=by
  intro X hP hw hK hc i pins s σ H E I hf st hg
  subst hP hw hK
  obtain ⟨⟨old,he⟩,hit,hne⟩:=st
  obtain ⟨xs,hq,hx⟩:=hg
  obtain ⟨its,rv,p,hz⟩:=I.list hq
  obtain ⟨f0,f1,f2,f3,f4,f5⟩:=hf it (by simp)
  have hl:=rv.length
  exact wpAny_pyNext_enum_end (I.ok.hd hc) he hit p.isList (by simp;omega) fun h' eb=>⟨rfl,I.turned (t':=s.toks) (fun b o hb q=>eb b o hb q) f0 f1 f3 f4 f5⟩
 self:=fun A i s Q E st h=>let ⟨⟨_,he⟩,_⟩:=st;wpAny_pyIter_enum he h
def dh (K:PySem.W.Frag) (ta:TA):TI:=fun σ H R=>ta σ H fun vs H1=>∃ a xs,vs=[.ref a]∧SqL K H1 a xs∧R (Vt K a) H1
theorem bx {X:Cx}{e:Expr}{ta:TA}{p pos tpos:Pos}{elts:List Expr}{kk:Nat} (hg:Gl X "enumerate") (hm:X.mg "enumerate" = none) (ha:PA X [e] ta) (hs:starEach [e] X.env=[(false,eval e X.env)]:=by rfl) :
  PI X (.Tuple elts kk tpos) (.Call (.Name "enumerate" p) [e] [] pos) (dh X.K ta):=by
 intro pins s σ H R I h
 refine Call_ (xM I hg hm boot_enumerate (PyProof.Rows.callWith_type1 (eZ (ha pos pins s σ H _ I h) fun us s1 ⟨vs,H1,I1,r1,q1⟩=>?_) hs rfl))
 obtain ⟨a,xs,ex,hq,q⟩:=q1
 subst ex
 cases r1 with
 | cons r rr=>
  cases rr
  cases r
  obtain ⟨its,rv,p',hz⟩:=I1.list hq
  refine call_enumerate_list p'.isList fun h' he hit hsz hk=>wpAny_pyIter_enum he ?_
  have I2:Inv X pins σ H1 { s1 with heap:=h' }:=I1.kept (t':=s1.toks) hk
  refine ⟨s1.heap.objs.size + 1,[s1.heap.objs.size + 1,s1.heap.objs.size],_,_,H1,rfl,I2,Sy a (s1.heap.objs.size + 1) s1.heap.objs.size,⟨⟨.none,he⟩,hit,Nat.succ_ne_self _⟩,fun b hb=>?_,q⟩
  have e':b=s1.heap.objs.size + 1∨b=s1.heap.objs.size:=by simpa using hb
  have hle:s1.heap.objs.size≤b:=by
   rcases e' with z | z
   ·rw[z];exact Nat.le_add_right _ _
   ·rw[z];exact Nat.le_refl _
  exact I1.fpOk hle (I1.hok.fresh hle)
end L2
section
namespace Bits
open PySem PyProof.Rows
end Bits
end
section
namespace TL
open PySem PySem.Builtin PySem.Builtin.Str PySem.StrLaws
abbrev tl (x:Str):List Nat:=x.cps.toList
theorem tl_append (x y:Str):tl (x ++ y)=tl x ++ tl y:=by
 show (x ++ y).cps.toList=_
 rw[Str.cps_append,Array.toList_append]
def joinL (S:List Nat):List (List Nat)→List Nat
 | []=>[]
 | [p]=>p
 | p :: q :: r=>p ++ (S ++ joinL S (q :: r))
theorem tl_join (y:Str):∀ parts:List Str,tl (Str.join y parts)=joinL (tl y) (parts.map tl)
 | []=>rfl
 | [_]=>rfl
 | x :: z :: r=>by
  show tl (x ++ y ++ Str.join y (z :: r))=tl x ++ (tl y ++ joinL (tl y) ((z :: r).map tl))
  rw[tl_append,tl_append,tl_join y (z :: r),List.append_assoc]
theorem join_eq (y:Str) (parts:List Str):Txt.join y parts=Str.join y parts:=glued_eq_join y parts
def numL (n:Nat):List Nat:=(Nat.toDigits 10 n).map Char.toNat
theorem tl_num (n:Nat):tl (Str.ofString (toString ((n:Nat):Int)))=numL n:=PySem.W.KIN.signs_num n
end TL
end
namespace L2
open PySem PySem.Spec PyProof.Rows
theorem qL:∀ {ys:List Str}{us:List Value},Vals (ys.map V.str) us→StrsAre us ys
 | [],_,.nil=>.nil
 | y :: ys,_,.cons r t=>by
  obtain ⟨k,rfl⟩:=r
  exact .cons y k (qL t)
section
variable {X:Cx}{pins:List (Addr×Obj)}{σ:St}{H:Hp}{s:Shared}{Q:VK}
end
section
variable {X:Cx}
theorem Zz:mo X "str.join" (fun x xs H Q=>∃ a p,∃ ys:List Str,x = .str a∧xs=[.ref p]∧(SqL X.K H p (ys.map V.str)∨SqT X.K H p (ys.map V.str)) ∧
  (ys.map (·.length)).sum + ys.length * a.length≤16777216∧Q (.str (Txt.join a ys)) H):=by
 intro pins s σ H x xs v us Q I rx rs h
 obtain ⟨a,p,ys,rfl,rfl,hp,hz,h⟩:=h
 obtain ⟨t,rfl⟩:=rx
 cases rs with
 | cons r1 rs=>
  cases rs
  cases r1
  rcases hp with hp | hp
  ·obtain ⟨its,r,⟨o,n,ho,hc,_,hd⟩,_⟩:=I.list hp
   exact PyProof.Rows.join_list (items:=its.toArray) ⟨o,ho,hc,n,hd⟩ (by rw[List.toList_toArray];exact qL r) hz fun t' k=>⟨.str _,H,I.tok k,⟨t',rfl⟩,h⟩
  ·obtain ⟨its,r,ht,_⟩:=I.tuple hp
   exact PyProof.Rows.join_tuple (items:=its.toArray) ht (by rw[List.toList_toArray];exact qL r) hz fun t' k=>⟨.str _,H,I.tok k,⟨t',rfl⟩,h⟩
end
section
variable {X:Cx}{o e:Expr}{to te:TE}
def ni (r:V→List V→Hp→VK→Prop) (to te:TE):TE:=fun σ H Q=>to σ H fun x H1=>(∃ a,x = .str a)∧te σ H1 fun y H2=>r x [y] H2 Q
theorem ly {id:String}{name:Str}{apos pos:Pos}{r:V→List V→Hp→VK→Prop} (slot:Slot "str" name id) (ty:typeOf (.builtin id)=pure (.type "method_descriptor")) (rule:mo X id r) (ho:PE X o to) (he:PE X e te)
  (hs:starEach [e] X.env=[(false,eval e X.env)]:=by rfl) (hbase:attributeBase o name X.env (eval o X.env)=eval o X.env:=by rfl) (hline:(apos.endLine == pos.line)=true:=by rfl) :
  PE X (.Call (.Attribute o name apos) [e] [] pos) (ni r to te):=by
 intro pins s σ H Q I h
 refine PySem.Call_method1 hbase hs hline (eZ (ho pins s σ H _ I h) fun v s1 ⟨x,H1,I1,r1,q1⟩=>?_)
 obtain ⟨⟨a,rfl⟩,q1⟩:=q1
 obtain ⟨t,rfl⟩:=_root_.id r1
 refine ⟨"str",_,F.plainAttrs_str,slot,ty,typeIs_str _ _ _,(fun _ e=>nomatch e),Calls.callWith_builtin rfl (Calls.evalArgs_plain (Calls.spliced_cons ?_))⟩
 exact eZ (he pins s1 σ H1 _ I1 q1) fun u s2 ⟨y,H2,I2,r2,q2⟩=>Calls.spliced_nil (rule pins s2 σ H2 _ [y] _ [u] Q I2 r1 (.cons r2 .nil) q2)
theorem Rr {apos pos:Pos} (ho:PE X o to) (he:PE X e te) (hs:starEach [e] X.env=[(false,eval e X.env)]:=by rfl) (hbase:attributeBase o "join" X.env (eval o X.env)=eval o X.env:=by rfl) (hline:(apos.endLine == pos.line)=true:=by rfl) :
  PE X (.Call (.Attribute o "join" apos) [e] [] pos) (ni (fun x xs H Q=>∃ a p,∃ ys:List Str,x = .str a∧xs=[.ref p]∧(SqL X.K H p (ys.map V.str)∨SqT X.K H p (ys.map V.str)) ∧
   (ys.map (·.length)).sum + ys.length * a.length≤16777216∧Q (.str (Txt.join a ys)) H) to te) :=
 ly F.slot_str_join F.type_str_join Zz ho he hs hbase hline
end
end L2
namespace L2
open PySem PySem.Spec PyProof.Rows
section
variable {X:Cx}
end
end L2
namespace Att
open PySem PySem.W PySem.Calls PyProof.Rows
section
variable {prog:Program}{w:World}{A:Around}{E:Value→Shared→Prop}{s:Shared}{K:Frag}
end
end Att
namespace L2
open PySem PySem.Spec PyProof.Rows
end L2
namespace L2
open PySem PySem.Spec PyProof.Rows
end L2
namespace L2
open PySem PySem.Spec PyProof.Rows
def fL (s:Stmt) (j:Nat):Stmt:=match s with
 | .ClassDef _ _ _ body _ _ _ _ _ _ _=>body.getD j (.Pass ⟨0,0,0,0⟩)
 | _=>.Pass ⟨0,0,0,0⟩
def jX (s:Stmt):Arguments:=match s with
 | .FunctionDef _ a _ _ _ _ _ _ _ _=>a
 | _=>{ posonlyargs:=[],args:=[],vararg:=none,kwonlyargs:=[],kw_defaults:=[],kwarg:=none,defaults:=[] }
def jD (s:Stmt):List Stmt:=match s with
 | .FunctionDef _ _ b _ _ _ _ _ _ _=>b
 | _=>[]
def aJ (s:Stmt):Scope:=match s with
 | .FunctionDef _ _ _ _ _ _ sc _ _ _=>sc
 | _=>{ kind:=.function,names:=[],isGenerator:=false,isCoroutine:=false }
abbrev eC:Vr:=fun _ _ _ _ _ _=>False
abbrev E0:XK:=fun _ _ _=>False
theorem aN {X:Cx}:qD eC X E0:=fun _ _ _ _ _ _ _ h=>h.elim
structure Fun (K:PySem.W.Frag) (x qual:Str) (st:Stmt) (f:Addr) (fd:FuncData):Prop where
 ex:∃ (oc:Value) (od:Option Addr) (kV doc pm:Value) (an:Option Addr) (cdv ct:Value) (osl:Array (Option Value)),
  fd=PySem.W.fnOf x qual (jX st) (jD st) (aJ st) .none kV doc pm an cdv ct∧K.lookup f=some ⟨oc,od,.func fd,osl⟩∧PySem.W.codeIn K cdv qual=true
 kp:PySem.W.keepIn K (.ref f)=true
section
variable {P:Program}{w:World}{K:PySem.W.Frag}{mg:Str→Option Value}{base:Heap}
theorem Fun.ok {x qual:Str}{st:Stmt}{f:Addr}{fd:FuncData}{N ps:List Str}{k:Nat}{sp:Sp} (F:Fun K x qual st f fd) (S:aP N ps (aJ st)) (len:∀ vs H Q E,sp vs H Q E→vs.length=ps.length)
  (hbody:∀ (cdv:Value) (A:Around) (outer:List Env) (s:Shared) (H:Hp) (vs:List V) (Q:VK) (E:XK),Room k (A.deeper (envOfC qual (aJ st) s.heap.objs.size f cdv))→sp vs H Q E →
   ∃ t,PSs (Sv eC P w K mg base N qual (aJ st) f cdv A outer s H E).nox (jD st) t∧t { nx:=fun _ H'=>Q .non H',rt:=Q } (start N vs) H):bO P w K mg base eC (k + 1) f fd ps sp:=by
 obtain ⟨oc,od,kV,doc,pm,an,cdv,ct,osl,rfl,lk,hcd⟩:=F.ex
 refine km lk hcd S len fun A outer s H vs Q E hr hsp=>?_
 obtain ⟨t,h,q⟩:=hbody cdv A outer s H vs Q E hr hsp
 exact ⟨t,h.nox,q⟩
theorem Fun.binds {x qual:Str}{st:Stmt}{f:Addr}{fd:FuncData}{ps:List Str} (F:Fun K x qual st f fd)
  (h:∀ (kV doc pm:Value) (an:Option Addr) (cdv ct:Value) (us:List Value),us.length=ps.length→bindArgs (PySem.W.fnOf x qual (jX st) (jD st) (aJ st) .none kV doc pm an cdv ct) ⟨us,[]⟩=pure (ps.zip us)):Binds K fd ps []:=by
 obtain ⟨oc,od,kV,doc,pm,an,cdv,ct,osl,rfl,lk,hcd⟩:=F.ex
 exact .all (h kV doc pm an cdv ct)
theorem xR {x qual:Str}{st:Stmt}{f:Addr}{oc:Value}{od an:Option Addr}{osl:Array (Option Value)}{kV doc pm cdv ct:Value} (l:K.lookup f=some ⟨oc,od,.func (PySem.W.fnOf x qual (jX st) (jD st) (aJ st) .none kV doc pm an cdv ct),osl⟩)
  (c:PySem.W.codeIn K cdv qual=true) (k:PySem.W.keepIn K (.ref f)=true):Fun K x qual st f (PySem.W.fnOf x qual (jX st) (jD st) (aJ st) .none kV doc pm an cdv ct):=⟨⟨oc,od,kV,doc,pm,an,cdv,ct,osl,rfl,l,c⟩,k⟩
end
theorem nN {A:Around}{k:Nat} (hr:Room k A):A.units + 1<cLine:=Nat.lt_of_le_of_lt (Nat.add_le_add_left (by decide:1≤64) _) hr.units
theorem cE {n:Nat} (h:n≤1000):n<sizeLine:=Nat.lt_of_le_of_lt h (by decide)
section
variable {X:Cx}
theorem pv (i:Nat) {x:Str}{pos:Pos} (hN:X.N[i]? = some x:=by rfl) (hv:jp X.env.scope x:=by first | exact Or.inl rfl | exact Or.inr (Or.inl rfl) | exact Or.inr (Or.inr rfl)) (hd:(x == ("__debug__" : Str))=false:=by decide)
  (hcd:(x == ("__classdict__" : Str))=false:=by decide):PE X (.Name x pos) (lR i):=iy hN hv hd hcd
theorem Hm:uN X (.builtin "len") (fun xs H Q=>∃ a kvs,xs=[V.ref a]∧H a=some (.dK kvs)∧Q (.int kvs.length) H):=by
 intro pins s σ H xs us Q I r h
 obtain ⟨a,kvs,rfl,ha,q⟩:=h
 obtain ⟨u,rfl,ru⟩:=Gy r
 cases ru
 exact kr I (.inl ha) fun t s' I'=>⟨.int kvs.length,H,I',⟨t,rfl⟩,q⟩
end
theorem rG {A B:Prop} (h:B):if false=true then A else B:=by
 rw[if_neg Bool.false_ne_true]
 exact h
theorem iE {A B:Prop} (h:A):if true=true then A else B:=by
 rw[if_pos rfl]
 exact h
theorem Vy {c A B:Prop} [Decidable c] (h1:c→A) (h2:¬ c→B):if c then A else B:=by
 by_cases h:c
 ·rw[if_pos h]
  exact h1 h
 ·rw[if_neg h]
  exact h2 h
def Same (H H':Hp):Prop:=∀ b o,H b=some o→H' b=some o
theorem Same.refl (H:Hp):Same H H:=fun _ _ h=>h
theorem Same.trans {H H1 H2:Hp} (a:Same H H1) (b:Same H1 H2):Same H H2:=fun c o h=>b c o (a c o h)
theorem Same.free {H H':Hp} (e:Same H H') {l:Addr} (h:H' l=Option.none):H l=Option.none:=by
 cases q:H l with
 | none=>rfl
 | some o=>
  rw[e l o q] at h
  cases h
theorem Same.seq {K:PySem.W.Frag}{H H':Hp}{a:Addr}{xs:List V} (e:Same H H') (h:SqL K H a xs):SqL K H' a xs:=by
 rcases h with (h | ⟨o,h⟩) | h
 ·exact .inl (.inl (e _ _ h))
 ·exact .inl (.inr ⟨o,e _ _ h⟩)
 ·exact .inr h
section
variable {κ:Type} [DecidableEq κ]
end
theorem cY {xs:List V}{z:Int}{j:Nat}{v:V} (e:z=(j:Int)) (h:xs[j]? = some v):Gs xs z=some v:=by
 rw[e]
 exact wI h
end L2
end
section
section
namespace L2
open PySem PySem.Spec PyProof.Rows
open PySem.W (WData Codec OpenSpec Well WellAll ReadsW ReadsAllW)
mutual
inductive Dw (K:PySem.W.Frag) (H:Hp):V→WData→Prop
 | non:Dw K H .non .none
 | bl (b:Bool):Dw K H (.bl b) (.bool b)
 | int (i:Int):Dw K H (.int i) (.int i)
 | str (x:Str):Dw K H (.str x) (.str x)
 | byt (b:Array UInt8):Dw K H (.byt b) (.bytes b.toList)
 | lst {a:Addr}{xs:List V}{ds:List WData}:SqL K H a xs→qV K H xs ds→Dw K H (.ref a) (.list ds)
 | tup {a:Addr}{xs:List V}{ds:List WData}:SqT K H a xs→qV K H xs ds→Dw K H (.ref a) (.tuple ds)
inductive qV (K:PySem.W.Frag) (H:Hp):List V→List WData→Prop
 | nil:qV K H [] []
 | cons {v:V}{vs:List V}{d:WData}{ds:List WData}:Dw K H v d→qV K H vs ds→qV K H (v :: vs) (d :: ds)
end
theorem Ro {K:PySem.W.Frag}{H:Hp}:∀ ns:List Int,qV K H (ns.map V.int) (ns.map WData.int)
 | []=>.nil
 | n :: r=>.cons (.int n) (Ro r)
theorem Sg {K:PySem.W.Frag}{H:Hp}:∀ (ns:List Int) (xs:List V),qV K H xs (ns.map WData.int)→xs=ns.map V.int
 | [],xs,h=>by
  cases h
  rfl
 | n :: r,xs,h=>by
  cases h with
  | cons h1 h2=>
   cases h1
   rw[Sg r _ h2] <;> rfl
section
variable {P:Program}{w:World}{K:PySem.W.Frag}{H:Hp}{h:Heap}{R:PySem.W.WRecords}{cl:Str→Option Addr}
theorem fu {a:Addr}{xs:List V} (hok:HOk P w H h) (KX:K.In h) (q:SqL K H a xs):∃ (its:List Value) (o:Obj) (n:Nat),Vals xs its∧h.get? a=some o∧o.cls = .type "list" ∧ o.data = .seq its.toArray n:=by
 rcases q with q | ⟨o,its,n,e,hc,_,hd,_,hv⟩
 ·obtain ⟨_,its,n,hv,e⟩:=(show ObjOk P w H h a (.lst xs) from q.ok hok)
  exact ⟨its,_,n,hv,e,rfl,rfl⟩
 ·exact ⟨its.toList,o,n,hv,KX _ _ e,hc,by simp[hd]⟩
theorem gj {a:Addr}{xs:List V} (hok:HOk P w H h) (KX:K.In h) (q:SqT K H a xs):∃ (its:List Value) (o:Obj) (n:Nat),Vals xs its∧h.get? a=some o∧o.cls = .type "tuple" ∧ o.data = .seq its.toArray n:=by
 rcases q with q | ⟨o,its,n,e,hc,hd,_,hv⟩
 ·obtain ⟨_,its,hv,o,e,hc,n,hd⟩:=(show ObjOk P w H h a (.tup xs) from q.ok hok)
  exact ⟨its,o,n,hv,e,hc,hd⟩
 ·exact ⟨its.toList,o,n,hv,KX _ _ e,hc,by simp[hd]⟩
mutual
theorem Dw.reads (hok:HOk P w H h) (KX:K.In h):∀ (d:WData) (v:V) (u:Value),Dw K H v d→RelV v u→∃ as,ReadsW R cl h u d as
 | .none,_,_,x,r=>by
  cases x
  cases r
  exact ⟨_,ReadsW.none⟩
 | .bool b,_,_,x,r=>by
  cases x
  cases r
  exact ⟨_,ReadsW.bool b⟩
 | .int i,_,_,x,r=>by
  cases x
  obtain ⟨t,rfl⟩:=r
  exact ⟨_,ReadsW.int i t⟩
 | .str s,_,_,x,r=>by
  cases x
  obtain ⟨t,rfl⟩:=r
  exact ⟨_,ReadsW.str s t⟩
 | .bytes b,_,_,x,r=>by
  cases x
  obtain ⟨t,rfl⟩:=r
  exact ⟨_,ReadsW.bytes _ t⟩
 | .list ds,_,_,x,r=>by
  cases x with
  | lst hs ha=>
   cases r
   obtain ⟨its,o,n,rv,ho,hc,hd⟩:=fu hok KX hs
   obtain ⟨as,hr⟩:=Dw.readsAll hok KX ds _ its ha rv
   exact ⟨_,ReadsW.list ho hc hd hr⟩
 | .tuple ds,_,_,x,r=>by
  cases x with
  | tup hs ha=>
   cases r
   obtain ⟨its,o,n,rv,ho,hc,hd⟩:=gj hok KX hs
   obtain ⟨as,hr⟩:=Dw.readsAll hok KX ds _ its ha rv
   exact ⟨_,ReadsW.tuple ho hc hd hr⟩
 | .float _,_,_,x,_=>by cases x
 | .dict _,_,_,x,_=>by cases x
 | .bytearray _,_,_,x,_=>by cases x
 | .set _,_,_,x,_=>by cases x
 | .frozenset _,_,_,x,_=>by cases x
 | .obj _ _,_,_,x,_=>by cases x
theorem Dw.readsAll (hok:HOk P w H h) (KX:K.In h):∀ (ds:List WData) (vs:List V) (us:List Value),qV K H vs ds→Vals vs us→∃ as,ReadsAllW R cl h us ds as
 | [],_,_,x,r=>by
  cases x
  cases r
  exact ⟨_,ReadsAllW.nil⟩
 | d :: ds,_,_,x,r=>by
  cases x with
  | cons h1 h2=>
   cases r with
   | cons r1 r2=>
    obtain ⟨as,q1⟩:=Dw.reads hok KX d _ _ h1 r1
    obtain ⟨bs,q2⟩:=Dw.readsAll hok KX ds _ _ h2 r2
    exact ⟨_,ReadsAllW.cons q1 q2⟩
end
end
mutual
def Rb:WData→Bool
 | .none=>true
 | .bool _=>true
 | .int _=>true
 | .str _=>true
 | .bytes _=>true
 | .list xs=>zX xs
 | .tuple xs=>zX xs
 | _=>false
def zX:List WData→Bool
 | []=>true
 | x :: r=>Rb x && zX r
end
theorem Mv {α:Type}{f:α→WData} (h:∀ a,Rb (f a)=true):∀ l:List α,zX (l.map f)=true
 | []=>rfl
 | x :: r=>by
  show (Rb (f x) && zX (r.map f))=true
  rw[h x,Mv h r] <;> rfl
theorem rK:∀ (c:Codec) (a:c.denote),Rb (c.enc a)=true
 | .unit,_=>rfl
 | .bool,_=>rfl
 | .int _ _,_=>rfl
 | .nat _ _,_=>rfl
 | .u8,_=>rfl
 | .bytes _ _,_=>rfl
 | .text _ _ _ _,_=>rfl
 | .list _ _ c,a=>Mv (fun x=>rK c x) a
 | .pair c d,a=>by
  show (Rb (c.enc a.1) && (Rb (d.enc a.2) && true))=true
  rw[rK c a.1,rK d a.2] <;> rfl
 | .triple c d e,a=>by
  show (Rb (c.enc a.1) && (Rb (d.enc a.2.1) && (Rb (e.enc a.2.2) && true)))=true
  rw[rK c a.1,rK d a.2.1,rK e a.2.2] <;> rfl
 | .option c,none=>rfl
 | .option c,some x=>rK c x
theorem Hz:∀ (cs:List Codec) (a:Codec.denoteAll cs),zX (Codec.encAll cs a)=true
 | [],_=>rfl
 | c :: cs,a=>by
  show (Rb (c.enc a.1) && zX (Codec.encAll cs a.2))=true
  rw[rK c a.1,Hz cs a.2] <;> rfl
theorem vJ:∀ {xs:List WData}{d:WData},d ∈ xs→d.weight≤WData.weightAll xs
 | [],d,h=>absurd h (by simp)
 | x :: r,d,h=>by
  show d.weight≤x.weight + 1 + WData.weightAll r
  rcases List.mem_cons.mp h with e | m
  ·rw[e]
   omega
  ·have z:=vJ m
   omega
def Ll:Value→V
 | .none=>.non
 | .bool b=>.bl b
 | .int i _=>.int i
 | .str x _=>.str x
 | .bytes b _=>.byt b
 | .ref a=>.ref a
 | _=>.non
def OkU (A:List Addr):Value→Prop
 | .none=>True
 | .bool _=>True
 | .int _ _=>True
 | .str _ _=>True
 | .bytes _ _=>True
 | .ref a=>a ∈ A
 | _=>False
theorem OkU.mono {A B:List Addr} (h:∀ a ∈ A,a ∈ B):∀ {u:Value},OkU A u→OkU B u:=fun {u} x=>by
 cases u with
 | ref a=>exact h a x
 | none=>trivial
 | bool b=>trivial
 | int i t=>trivial
 | str s t=>trivial
 | bytes b t=>trivial
 | _=>exact False.elim x
theorem Xq {A:List Addr}{u:Value} (x:OkU A u):RelV (Ll u) u:=by
 cases u with
 | ref a=>rfl
 | none=>rfl
 | bool b=>rfl
 | int i t=>exact ⟨t,rfl⟩
 | str s t=>exact ⟨t,rfl⟩
 | bytes b t=>exact ⟨t,rfl⟩
 | _=>exact False.elim x
theorem pI {A:List Addr}:∀ {vs:List Value},(∀ u ∈ vs,OkU A u)→Vals (vs.map Ll) vs
 | [],_=>.nil
 | u :: r,h=>.cons (Xq (h u (List.mem_cons_self ..))) (pI fun x hx=>h x (List.mem_cons_of_mem _ hx))
def ArgOb (h:Heap) (A:List Addr) (a:Addr):Prop:=∃ vs:List Value,vs.length≤sizeLine∧(∀ u ∈ vs,OkU A u) ∧
 (h.get? a=some { cls:=.type "list",data:=.seq vs.toArray }∨h.get? a=some { cls:=.type "tuple",data:=.seq vs.toArray })
theorem ArgOb.mono {h:Heap}{A B:List Addr}{a:Addr} (k:∀ a ∈ A,a ∈ B) (x:ArgOb h A a):ArgOb h B a:=by
 obtain ⟨vs,h1,h2,h3⟩:=x
 exact ⟨vs,h1,fun u hu=>(h2 u hu).mono k,h3⟩
theorem nU {P:Params}{h:Heap}:∀ {vs:List Value}{ds:List WData},WellAll P h vs ds→vs.length=ds.length
 | _,_,.nil=>rfl
 | _,_,.cons _ b=>by
  show _ + 1=_ + 1
  rw[nU b]
theorem Hw {P:Params}{h:Heap}{v:Value}{ds:List WData} (x:Well P h v (.list ds)):∃ (a:Addr) (vs:List Value),v = .ref a∧h.get? a=some { cls:=.type "list",data:=.seq vs.toArray }∧WellAll P h vs ds:=by
 cases x with
 | list ho hall=>exact ⟨_,_,rfl,ho,hall⟩
theorem Cv {P:Params}{h:Heap}{v:Value}{ds:List WData} (x:Well P h v (.tuple ds)):∃ (a:Addr) (vs:List Value),v = .ref a∧h.get? a=some { cls:=.type "tuple",data:=.seq vs.toArray }∧WellAll P h vs ds:=by
 cases x with
 | tuple ho hall=>exact ⟨_,_,rfl,ho,hall⟩
theorem Hx {P:Params}{h:Heap}{us:List Value}{d:WData}{ds:List WData} (x:WellAll P h us (d :: ds)):∃ (v:Value) (vs:List Value),us=v :: vs∧Well P h v d∧WellAll P h vs ds:=by
 cases x with
 | cons a b=>exact ⟨_,_,rfl,a,b⟩
theorem Sl {n:Nat} (h:n≤1048576):n≤sizeLine:=Nat.le_trans h (by decide)
section
variable {P:Params}{h:Heap}
mutual
theorem area_one:∀ (d:WData) (v:Value),Well P h v d→Rb d=true→d.weight≤1048576→∃ A:List Addr,OkU A v∧∀ a ∈ A,ArgOb h A a
 | .none,_,x,_,_=>by
  cases x
  exact ⟨[],trivial,fun a m=>absurd m (by simp)⟩
 | .bool b,_,x,_,_=>by
  cases x
  exact ⟨[],trivial,fun a m=>absurd m (by simp)⟩
 | .int i,_,x,_,_=>by
  cases x
  exact ⟨[],trivial,fun a m=>absurd m (by simp)⟩
 | .str s,_,x,_,_=>by
  cases x
  exact ⟨[],trivial,fun a m=>absurd m (by simp)⟩
 | .bytes b,_,x,_,_=>by
  cases x
  exact ⟨[],trivial,fun a m=>absurd m (by simp)⟩
 | .list ds,_,x,p,z=>by
  obtain ⟨a,vs,rfl,ho,hall⟩:=Hw x
  have z2:WData.weightAll ds≤1048576:=z
  obtain ⟨A,h1,h2⟩:=wK ds _ hall p fun d hd=>Nat.le_trans (vJ hd) z2
  have k:∀ b ∈ A,b ∈ a :: A:=fun b hb=>List.mem_cons_of_mem _ hb
  refine ⟨a :: A,List.mem_cons_self ..,fun b hb=>?_⟩
  rcases List.mem_cons.mp hb with e | m
  ·rw[e]
   exact ⟨vs,Sl (by rw[nU hall];exact Nat.le_trans (PySem.W.length_le_weightAllW ds) z2),fun u hu=>(h1 u hu).mono k,.inl ho⟩
  ·exact (h2 b m).mono k
 | .tuple ds,_,x,p,z=>by
  obtain ⟨a,vs,rfl,ho,hall⟩:=Cv x
  have z2:WData.weightAll ds≤1048576:=z
  obtain ⟨A,h1,h2⟩:=wK ds _ hall p fun d hd=>Nat.le_trans (vJ hd) z2
  have k:∀ b ∈ A,b ∈ a :: A:=fun b hb=>List.mem_cons_of_mem _ hb
  refine ⟨a :: A,List.mem_cons_self ..,fun b hb=>?_⟩
  rcases List.mem_cons.mp hb with e | m
  ·rw[e]
   exact ⟨vs,Sl (by rw[nU hall];exact Nat.le_trans (PySem.W.length_le_weightAllW ds) z2),fun u hu=>(h1 u hu).mono k,.inr ho⟩
  ·exact (h2 b m).mono k
 | .float _,_,_,p,_=>Bool.noConfusion (show false=true from p)
 | .dict _,_,_,p,_=>Bool.noConfusion (show false=true from p)
 | .bytearray _,_,_,p,_=>Bool.noConfusion (show false=true from p)
 | .set _,_,_,p,_=>Bool.noConfusion (show false=true from p)
 | .frozenset _,_,_,p,_=>Bool.noConfusion (show false=true from p)
 | .obj _ _,_,_,p,_=>Bool.noConfusion (show false=true from p)
theorem wK:∀ (ds:List WData) (vs:List Value),WellAll P h vs ds→zX ds=true→(∀ d ∈ ds,d.weight≤1048576)→∃ A:List Addr,(∀ u ∈ vs,OkU A u)∧∀ a ∈ A,ArgOb h A a
 | [],_,x,_,_=>by
  cases x
  exact ⟨[],fun u m=>absurd m (by simp),fun a m=>absurd m (by simp)⟩
 | d :: ds,_,x,p,z=>by
  obtain ⟨v,vs,rfl,x1,x2⟩:=Hx x
  have q:Rb d=true∧zX ds=true:=Bool.and_eq_true_iff.mp p
  obtain ⟨A,a1,a2⟩:=area_one d v x1 q.1 (z d (List.mem_cons_self ..))
  obtain ⟨B,b1,b2⟩:=wK ds vs x2 q.2 fun e he=>z e (List.mem_cons_of_mem _ he)
  have kA:∀ b ∈ A,b ∈ A ++ B:=fun b hb=>List.mem_append.mpr (.inl hb)
  have kB:∀ b ∈ B,b ∈ A ++ B:=fun b hb=>List.mem_append.mpr (.inr hb)
  refine ⟨A ++ B,fun u hu=>?_,fun b hb=>?_⟩
  ·rcases List.mem_cons.mp hu with e | m
   ·rw[e]
    exact a1.mono kA
   ·exact (b1 u m).mono kB
  ·rcases List.mem_append.mp hb with m | m
   ·exact (a2 b m).mono kA
   ·exact (b2 b m).mono kB
end
end
def Zs (o:Obj):Option HO:=match o.data with
 | .seq vs _=>if (o.cls == Value.type "list")=true then some (.frz o (.lst (vs.toList.map Ll))) else some (.frz o (.tup (vs.toList.map Ll)))
 | _=>none
def pW (K:PySem.W.Frag) (h:Heap) (A:List Addr):Hp:=fun b=>if b ∈ A then (if (K.lookup b).isNone=true then (h.get? b).bind Zs else none) else none
def Ls (H:Hp):Prop:=∀ b,H b=none∨∃ o u,H b=some (.frz o u)
theorem Ms (vs:List Value):Zs { cls:=.type "list",data:=.seq vs.toArray }=some (.frz { cls:=.type "list",data:=.seq vs.toArray } (.lst (vs.map Ll))):=by
 show (if (Value.type "list" == Value.type "list")=true then some (HO.frz { cls:=.type "list",data:=.seq vs.toArray } (.lst (vs.toArray.toList.map Ll))) else some (HO.frz { cls:=.type "list",data:=.seq vs.toArray } (.tup (vs.toArray.toList.map Ll))))=_
 rw[if_pos (beq_self_eq_true _)]
theorem Mu (vs:List Value):Zs { cls:=.type "tuple",data:=.seq vs.toArray }=some (.frz { cls:=.type "tuple",data:=.seq vs.toArray } (.tup (vs.map Ll))):=by
 show (if (Value.type "tuple" == Value.type "list")=true then some (HO.frz { cls:=.type "tuple",data:=.seq vs.toArray } (.lst (vs.toArray.toList.map Ll))) else some (HO.frz { cls:=.type "tuple",data:=.seq vs.toArray } (.tup (vs.toArray.toList.map Ll))))=_
 rw[if_neg (by decide)]
section
variable {P:Program}{w:World}{K:PySem.W.Frag}{h:Heap}{A:List Addr}
theorem Be {b:Addr}{o:Obj} (hb:b ∈ A) (hk:K.lookup b=none) (e:h.get? b=some o):pW K h A b=Zs o:=by
 unfold pW
 rw[if_pos hb,hk,if_pos (show (none:Option Obj).isNone=true from rfl),e] <;> rfl
theorem br {b:Addr}{u:HO} (q:pW K h A b=some u):b ∈ A∧K.lookup b=none:=by
 unfold pW at q
 by_cases hb:b ∈ A
 ·rw[if_pos hb] at q
  cases hk:K.lookup b with
  | none=>exact ⟨hb,rfl⟩
  | some o=>
   rw[hk,if_neg (by simp)] at q
   cases q
 ·rw[if_neg hb] at q
  cases q
theorem Bf (ar:∀ a ∈ A,ArgOb h A a) {b:Addr}{u:HO} (q:pW K h A b=some u):K.lookup b=none∧∃ vs:List Value,vs.length≤sizeLine∧(∀ u ∈ vs,OkU A u) ∧
    ((h.get? b=some { cls:=.type "list",data:=.seq vs.toArray }∧u = .frz { cls:=.type "list",data:=.seq vs.toArray } (.lst (vs.map Ll))) ∨
     (h.get? b=some { cls:=.type "tuple",data:=.seq vs.toArray }∧u = .frz { cls:=.type "tuple",data:=.seq vs.toArray } (.tup (vs.map Ll)))):=by
  obtain ⟨hb,hk⟩:=br q
  obtain ⟨vs,h1,h2,h3⟩:=ar b hb
  refine ⟨hk,vs,h1,h2,?_⟩
  rcases h3 with e | e
  · rw[Be hb hk e,Ms] at q
    exact .inl ⟨e,(Option.some.inj q).symm⟩
  · rw[Be hb hk e,Mu] at q
    exact .inr ⟨e,(Option.some.inj q).symm⟩
theorem Uv (ar:∀ a ∈ A,ArgOb h A a):Ls (pW K h A):=fun b=>by
 cases q:pW K h A b with
 | none=>exact .inl rfl
 | some u=>
  obtain ⟨_,vs,_,_,⟨_,e⟩ | ⟨_,e⟩⟩:=Bf ar q
  ·exact .inr ⟨_,_,by rw[e]⟩
  ·exact .inr ⟨_,_,by rw[e]⟩
theorem au (ar:∀ a ∈ A,ArgOb h A a):HOk P w (pW K h A) h:=fun b u q=>by
 obtain ⟨_,vs,h1,h2,⟨e,rfl⟩ | ⟨e,rfl⟩⟩:=Bf ar q
 ·exact ⟨e,by rw[List.length_map];exact h1,vs,_,pI h2,e⟩
 ·exact ⟨e,by rw[List.length_map];exact h1,vs,pI h2,_,e,rfl,_,rfl⟩
theorem Bl {c c':Value}{vs us:List Value} (e:(some { cls:=c,data:=.seq vs.toArray }:Option Obj)=some { cls:=c',data:=.seq us.toArray }):c=c'∧vs=us:=by
 have e1:=Option.some.inj e
 have e2:c=c':=congrArg Obj.cls e1
 have e3:Data.seq vs.toArray=Data.seq us.toArray:=congrArg Obj.data e1
 injection e3 with e4
 refine ⟨e2,?_⟩
 have e5:=congrArg Array.toList e4
 simpa using e5
theorem pp (KX:K.In h) (ar:∀ a ∈ A,ArgOb h A a) {a:Addr}{vs:List Value} (ha:a ∈ A) (e:h.get? a=some { cls:=.type "list",data:=.seq vs.toArray }):(∀ u ∈ vs,OkU A u)∧SqL K (pW K h A) a (vs.map Ll):=by
 obtain ⟨us,h1,h2,h3⟩:=ar a ha
 have hu:us=vs:=by
  rcases h3 with q | q
  ·rw[e] at q
   exact (Bl q).2.symm
  ·rw[e] at q
   exact absurd (Value.type.inj (Bl q).1) (by decide)
 subst hu
 refine ⟨h2,?_⟩
 cases hk:K.lookup a with
 | none=>exact .inl (.inr ⟨_,by rw[Be ha hk e,Ms]⟩)
 | some o=>
  have e2:=KX a o hk
  rw[e] at e2
  obtain rfl:=Option.some.inj e2
  exact .inr ⟨_,us.toArray,_,hk,rfl,rfl,rfl,by rw[List.size_toArray];exact h1,by simpa using pI h2⟩
theorem px (KX:K.In h) (ar:∀ a ∈ A,ArgOb h A a) {a:Addr}{vs:List Value} (ha:a ∈ A) (e:h.get? a=some { cls:=.type "tuple",data:=.seq vs.toArray }):(∀ u ∈ vs,OkU A u)∧SqT K (pW K h A) a (vs.map Ll):=by
 obtain ⟨us,h1,h2,h3⟩:=ar a ha
 have hu:us=vs:=by
  rcases h3 with q | q
  ·rw[e] at q
   exact absurd (Value.type.inj (Bl q).1) (by decide)
  ·rw[e] at q
   exact (Bl q).2.symm
 subst hu
 refine ⟨h2,?_⟩
 cases hk:K.lookup a with
 | none=>exact .inl (.inr ⟨_,by rw[Be ha hk e,Mu]⟩)
 | some o=>
  have e2:=KX a o hk
  rw[e] at e2
  obtain rfl:=Option.some.inj e2
  exact .inr ⟨_,us.toArray,_,hk,rfl,rfl,by rw[List.size_toArray];exact h1,by simpa using pI h2⟩
mutual
theorem dw_one {Pm:Params} (KX:K.In h) (ar:∀ a ∈ A,ArgOb h A a):∀ (d:WData) (v:Value),Well Pm h v d→Rb d=true→OkU A v→Dw K (pW K h A) (Ll v) d
 | .none,_,x,_,_=>by
  cases x
  exact .non
 | .bool b,_,x,_,_=>by
  cases x
  exact .bl b
 | .int i,_,x,_,_=>by
  cases x
  exact .int i
 | .str s,_,x,_,_=>by
  cases x
  exact .str s
 | .bytes b,_,x,_,_=>by
  cases x
  have z:=Dw.byt (K:=K) (H:=pW K h A) b.toArray
  exact z
 | .list ds,_,x,p,hu=>by
  obtain ⟨a,vs,rfl,ho,hall⟩:=Hw x
  obtain ⟨h2,hs⟩:=pp KX ar hu ho
  exact .lst hs (Iv KX ar ds _ hall p h2)
 | .tuple ds,_,x,p,hu=>by
  obtain ⟨a,vs,rfl,ho,hall⟩:=Cv x
  obtain ⟨h2,hs⟩:=px KX ar hu ho
  exact .tup hs (Iv KX ar ds _ hall p h2)
 | .float _,_,_,p,_=>Bool.noConfusion (show false=true from p)
 | .dict _,_,_,p,_=>Bool.noConfusion (show false=true from p)
 | .bytearray _,_,_,p,_=>Bool.noConfusion (show false=true from p)
 | .set _,_,_,p,_=>Bool.noConfusion (show false=true from p)
 | .frozenset _,_,_,p,_=>Bool.noConfusion (show false=true from p)
 | .obj _ _,_,_,p,_=>Bool.noConfusion (show false=true from p)
theorem Iv {Pm:Params} (KX:K.In h) (ar:∀ a ∈ A,ArgOb h A a):∀ (ds:List WData) (vs:List Value),WellAll Pm h vs ds→zX ds=true→(∀ u ∈ vs,OkU A u)→qV K (pW K h A) (vs.map Ll) ds
 | [],_,x,_,_=>by
  cases x
  exact .nil
 | d :: ds,_,x,p,hu=>by
  obtain ⟨v,vs,rfl,x1,x2⟩:=Hx x
  have q:Rb d=true∧zX ds=true:=Bool.and_eq_true_iff.mp p
  exact .cons (dw_one KX ar d v x1 q.1 (hu _ (List.mem_cons_self ..))) (Iv KX ar ds vs x2 q.2 fun u m=>hu u (List.mem_cons_of_mem _ m))
end
end
theorem Up {P:Program}{w:World}{K:PySem.W.Frag}{mg mb:Str→Option Value}{CX:Vr}{k:Nat}{fa:Addr}{fd:FuncData}{ps:List Str}{sp:Sp}{s₁:Shared}{vals:List Value}{ds:List WData}{R:PySem.W.WRecords}{cl:Str→Option Addr}{d0:WData}
  (KX:K.In s₁.heap) (hns:s₁.heap.Ns mainGlobals mg) (hb:s₁.heap.Ns builtinsNs mb) (hbb:∀ x:Str,x ≠ "__name__" → mb x=bootBuiltins x) (hlim:s₁.heap.NoLimit) (hg:s₁.gens = #[])
  (hwl:WellAll w.params s₁.heap vals ds) (hpl:zX ds=true) (hwt:∀ d ∈ ds,d.weight≤1048576) (hr:Room k callerA)
  (F:∀ base:Heap,K.In base→base.Ns mainGlobals mg→bO P w K mg base CX k fa fd ps sp) (hbind:∀ (s:Shared) (us:List Value),us.length=ps.length→BindsTo s fd ⟨us,[]⟩ (ps.zip us)) (hlen:ds.length=ps.length)
  (hsp:∀ (H:Hp) (xs:List V),Ls H→qV K H xs ds→sp xs H (fun v H'=>Dw K H' v d0) fun _ _ _=>False)
  (hCX:∀ H e s',CX [] H s₁ (fun _ _ _=>False) e s'→False) :
  codeAny (model P w) callerA (.call (.ref fa) ⟨vals,[]⟩) (fun r s'=>∃ u as,r = .ok (.ret u)∧ReadsW R cl s'.heap u d0 as∧OldK s₁.heap s'.heap∧s'.os=s₁.os∧AllBare s'.gens) s₁:=by
 obtain ⟨A,ho,ar⟩:=wK ds vals hwl hpl hwt
 have hO:Ls (pW K s₁.heap A):=Uv ar
 have hok:HOk P w (pW K s₁.heap A) s₁.heap:=au ar
 have hS:=Iv KX ar ds vals hwl hpl ho
 have hV:=pI ho
 have hK:∀ b u,pW K s₁.heap A b=some u→K.lookup b=none:=fun b u q=>(Bf ar q).1
 have noA:∀ {b:Addr}{o:Obj}{es:Array DictEntry}{ep:Nat},s₁.heap.get? b=some o→o.data = .dict es ep→pW K s₁.heap A b=none:=fun {b o es ep} e d=>by
  cases q:pW K s₁.heap A b with
  | none=>rfl
  | some u=>
   obtain ⟨_,vs,_,_,⟨e2,_⟩ | ⟨e2,_⟩⟩:=Bf ar q
   ·rw[e2] at e
    cases e
    have d':Data.seq vs.toArray _=Data.dict es ep:=d
    cases d'
   ·rw[e2] at e
    cases e
    have d':Data.seq vs.toArray _=Data.dict es ep:=d
    cases d'
 generalize pW K s₁.heap A=H at hO hok hS hK noA
 have base_of:∀ {b:Addr}{o:Obj},s₁.heap.get? b=some o→H b=none→(Ik s₁.heap H).get? b=some o:=fun e n=>Xz e n
 have nsK:∀ {b:Addr}{m:Str→Option Value},s₁.heap.Ns b m→(Ik s₁.heap H).Ns b m:=fun {b m} ⟨o,es,ep,e,d,r⟩=>⟨o,es,ep,base_of e (noA e d),d,r⟩
 have nK:∀ b o,K.lookup b=some o→H b=none:=fun b o e=>by
  cases q:H b with
  | none=>rfl
  | some u=>
   rw[hK b u q] at e
   cases e
 have hKb:K.In (Ik s₁.heap H):=fun b o e=>base_of (KX b o e) (nK b o e)
 have hM:Mod K mg (Ik s₁.heap H):=⟨hKb,nsK hns,⟨mb,nsK hb,hbb⟩,let ⟨mc,h1,h2⟩:=hlim;⟨mc,nsK h1,h2⟩⟩
 have e0:Env0 P w K mg (Ik s₁.heap H) callerA [] s₁ H:=⟨rfl,hM,fun b o e=>bq e,Nat.le_of_eq (Uw _ _),trivial,fun b hb=>absurd (show b ∈ ([]:List Addr) from hb) (by simp),hok,.of_eq hg⟩
 have hl:vals.length=ps.length:=by rw[nU hwl];exact hlen
 refine codeAny_mono ((F _ hKb (nsK hns)).run callerA [] s₁ H ⟨vals,[]⟩ vals (vals.map Ll) _ _ hr e0 (hbind s₁ vals hl) hV (hsp H _ hO hS)) fun r s' x=>?_
 cases r with
 | error e=>exact (hCX H e s' x).elim
 | ok fl=>
  cases fl with
  | next=>exact False.elim x
  | brk=>exact False.elim x
  | cont=>exact False.elim x
  | ret u=>
   obtain ⟨v,H',os,bare,un,hok',r',q⟩:=x
   have kept:∀ b o,s₁.heap.get? b=some o→s'.heap.get? b=some o:=fun b o e=>by
    cases q2:H b with
    | none=>exact un.keep b o e q2 (by intro z;exact absurd (show b ∈ ([]:List Addr) from z) (by simp)) (by simp)
    | some u2=>
     rcases hO b with z | ⟨ob,u3,z⟩
     ·rw[q2] at z
      cases z
     ·have z2:=un.frzs b ob _ z
      obtain ⟨e1,_⟩:=hok b _ z
      obtain ⟨e2,_⟩:=hok' b _ z2
      rw[e] at e1
      cases e1
      exact e2
   have KX':K.In s'.heap:=fun b o e=>kept b o (KX b o e)
   obtain ⟨as,hrd⟩:=Dw.reads (R:=R) (cl:=cl) hok' KX' d0 v u q r'
   exact ⟨u,as,rfl,hrd,OldK.of_keep kept,os,bare⟩
theorem Ee {ds:List WData} (h:WData.layableAll ds=true):∀ d ∈ ds,d.weight≤1048576:=fun d hd=>
 (PySem.W.layableW_iff.mp (List.all_eq_true.mp h d hd)).2.2
theorem Dd:∀ (cs:List Codec) (a:Codec.denoteAll cs),(Codec.encAll cs a).length=cs.length
 | [],_=>rfl
 | c :: cs,a=>by
  show (Codec.encAll cs a.2).length + 1=cs.length + 1
  rw[Dd cs a.2]
theorem Tz {r:OpenSpec}{k:Nat}{q:Program}{loose:List Str}{XP:(Str→Option Value)→Heap→Prop}{YP:World→Heap→Prop}{d:DefRec}{K:Params→PySem.W.Frag}{CX:World→Vr}{ps:List Str}{sp:World→Sp}
  (hwell:r.wellSaid=true) (hdf:d.params.defaults=[]) (hlen:r.args.length=ps.length) (hr:Room k callerA)
  (hY:∀ (w:World) (h:Heap),YP w h→(K w.params).In h)
  (F:∀ (w:World) (mg:Str→Option Value) (fa:Addr) (h:Heap),YP w h→(K w.params).In h→h.Ns mainGlobals mg→mg d.name=some (.ref fa) →
   ∃ fd:FuncData,(∀ (s:Shared) (us:List Value),us.length=ps.length→BindsTo s fd ⟨us,[]⟩ (ps.zip us)) ∧
    ∀ base:Heap,(K w.params).In base→base.Ns mainGlobals mg→bO r.prog w (K w.params) mg base (CX w) k fa fd ps (sp w))
  (hsp:∀ (w:World) (H:Hp) (xs:List V) (a:Codec.denoteAll r.args),Ls H→Codec.withinAll r.args a=true→Codec.app r.args r.asked a=true→qV (K w.params) H xs (Codec.encAll r.args a) →
   sp w xs H (fun v H'=>Dw (K w.params) H' v (r.ret.enc (Codec.app r.args r.f a))) fun _ _ _=>False)
  (hCX:∀ (w:World) (H:Hp) (s:Shared) (e:Value) (s':Shared),CX w [] H s (fun _ _ _=>False) e s'→False) :
  PySem.W.WalkOS q loose XP YP r d [] (fun f vs=>PySem.call f vs):=by
 intro w s_0 s₁ mg mb G Y fa o pm cd doc dV kV ho hd hcd hD hmg hg args vals as hpre hlay hrd hwl hlo
 obtain ⟨a,e1,e2⟩:=PySem.W.os_pre_some hpre
 obtain ⟨e3,hwi⟩:=Codec.encAll_of_decAll r.args args a e1
 subst e3
 have KX:=hY w _ Y
 obtain ⟨fd,hb,hF⟩:=F w mg fa _ Y KX G.T.g hmg
 refine PySem.W.enter_call (codeAny_mono (Up (R:=[]) (cl:=classAt s_0.heap) (d0:=r.ret.enc (Codec.app r.args r.f a)) KX G.T.g G.T.b G.T.builtins G.T.nolimit hg hwl (Hz _ _) (Ee hlay) hr hF hb (by rw[Dd];exact hlen)
  (fun H xs hO hS=>hsp w H xs a hO hwi e2 hS) fun H e s'=>hCX w H s₁ e s') fun r' s' hq=>?_)
 obtain ⟨u,as',rfl,h1,h2,h3,h4⟩:=hq
 exact ⟨.inl ⟨u,_,as',rfl,fun _=>rfl,h1,(OpenSpec.post_iff hwell hwi _ _).mpr rfl,fun z=>Bool.noConfusion (show false=true from z)⟩,h2,h3,h4⟩
theorem Pi {r:OpenSpec}{k:Nat}{q:Program}{loose:List Str}{XP:(Str→Option Value)→Heap→Prop}{YP:World→Heap→Prop}{d:DefRec}{K:Params→PySem.W.Frag}{CX:Vr}{ps:List Str}{sp:PySem.W.Frag→Sp}
  (hwell:r.wellSaid=true) (hdf:d.params.defaults=[]) (hlen:r.args.length=ps.length) (hr:Room k callerA)
  (hY:∀ (w:World) (h:Heap),YP w h→(K w.params).In h)
  (F:∀ (w:World) (mg:Str→Option Value) (fa:Addr) (h:Heap),YP w h→(K w.params).In h→h.Ns mainGlobals mg→mg d.name=some (.ref fa) →
   ∃ fd:FuncData,(∀ (s:Shared) (us:List Value),us.length=ps.length→BindsTo s fd ⟨us,[]⟩ (ps.zip us)) ∧
    ∀ base:Heap,(K w.params).In base→base.Ns mainGlobals mg→bO r.prog w (K w.params) mg base CX k fa fd ps (sp (K w.params)))
  (hsp:∀ (K:PySem.W.Frag) (H:Hp) (xs:List V) (a:Codec.denoteAll r.args),Ls H→Codec.withinAll r.args a=true→Codec.app r.args r.asked a=true→qV K H xs (Codec.encAll r.args a) →
   sp K xs H (fun v H'=>Dw K H' v (r.ret.enc (Codec.app r.args r.f a))) fun _ _ _=>False)
  (hCX:∀ (H:Hp) (s:Shared) (e:Value) (s':Shared),CX [] H s (fun _ _ _=>False) e s'→False) :
  PySem.W.WalkOS q loose XP YP r d [] (fun f vs=>PySem.call f vs) :=
 Tz (K:=K) (CX:=fun _=>CX) (sp:=fun w=>sp (K w.params)) hwell hdf hlen hr hY F (fun w H xs a h1 h2 h3 h4=>hsp (K w.params) H xs a h1 h2 h3 h4) fun _ H s e s'=>hCX H s e s'
end L2
end
end
namespace Mr
open Vbmiai (Net Junction Road Speed Closing Step)
structure First (p:Nat→Prop) (f t:Nat):Prop where
 ge:f≤t
 op:p t
 least:∀ u,f≤u→p u→t≤u
theorem First.unique {p:Nat→Prop}{f t u:Nat} (h:First p f t) (k:First p f u):t=u:=Nat.le_antisymm (h.least u k.ge k.op) (k.least t h.ge h.op)
theorem First.mono {p:Nat→Prop}{f g t u:Nat} (h:First p f t) (k:First p g u) (e:f≤g):t≤u:=h.least u (Nat.le_trans e k.ge) k.op
def Iq (cs:List Closing) (k t:Nat):Prop:=∀ c ∈ cs,t + k≤c.lo∨c.hi≤t
def Gx (k:Nat) (b:Nat) (c:Closing):Nat:=if c.lo<b + k∧b<c.hi then c.hi else b
def Fj (k:Nat) (cs:List Closing) (b:Nat):Nat:=cs.foldl (Gx k) b
theorem Mj {k f:Nat}:∀ (cs pre:List Closing) (b:Nat),First (Iq pre k) f b→(pre ++ cs).Pairwise (fun c d=>c.lo≤d.lo)→First (Iq (pre ++ cs) k) f (Fj k cs b)
 | [],pre,b,h,_=>by
  rw[List.append_nil]
  exact h
 | c :: cs,pre,b,h,hp=>by
  have e:pre ++ c :: cs=(pre ++ [c]) ++ cs:=by simp
  rw[e] at hp ⊢
  show First _ f (Fj k cs (Gx k b c))
  refine Mj cs (pre ++ [c]) _ ?_ hp
  have hpc:∀ d ∈ pre,d.lo≤c.lo:=fun d hd=>by
   have h1:=(List.pairwise_append.mp (List.pairwise_append.mp hp).1).2.2
   exact h1 d hd c (by simp)
  unfold Gx
  split
  ·rename_i hc
   refine ⟨Nat.le_trans h.ge (Nat.le_of_lt hc.2),fun d hd=>?_,fun u hu hop=>?_⟩
   ·rcases List.mem_append.mp hd with hd | hd
    ·rcases h.op d hd with q | q
     ·have:=hpc d hd
      omega
     ·exact .inr (Nat.le_trans q (Nat.le_of_lt hc.2))
    ·have e:d=c:=by simpa using hd
     subst e
     exact .inr (Nat.le_refl _)
   ·have hb:=h.least u hu fun d hd=>hop d (List.mem_append_left _ hd)
    rcases hop c (by simp) with q | q
    ·omega
    ·exact q
  ·rename_i hc
   refine ⟨h.ge,fun d hd=>?_,fun u hu hop=>h.least u hu fun d hd=>hop d (List.mem_append_left _ hd)⟩
   rcases List.mem_append.mp hd with hd | hd
   ·exact h.op d hd
   ·have e:d=c:=by simpa using hd
    subst e
    omega
theorem Qm {k f:Nat}{cs:List Closing} (hp:cs.Pairwise (fun c d=>c.lo≤d.lo)):First (Iq cs k) f (Fj k cs f) :=
 Mj cs [] f ⟨Nat.le_refl _,(fun _ h=>by cases h),fun _ h _=>h⟩ hp
def mf (o:Option Nat) (t:Nat):Option Nat:=match o with
 | none=>some t
 | some u=>some (min t u)
theorem Rz:∀ (l:List Nat) (u:Nat),∃ v,l.foldl mf (some u)=some v∧v≤u∧(∀ x ∈ l,v≤x)∧(v=u∨v ∈ l)
 | [],u=>⟨u,rfl,Nat.le_refl _,(fun _ h=>by cases h),.inl rfl⟩
 | x :: l,u=>by
  obtain ⟨v,e,h1,h2,h3⟩:=Rz l (min x u)
  refine ⟨v,e,by omega,fun y hy=>?_,?_⟩
  ·rcases List.mem_cons.mp hy with rfl | hy
   ·omega
   ·exact h2 y hy
  ·rcases h3 with h3 | h3
   ·by_cases q:x≤u
    ·exact .inr (List.mem_cons.mpr (.inl (by omega)))
    ·exact .inl (by omega)
   ·exact .inr (List.mem_cons_of_mem _ h3)
theorem ba {l:List Nat} (h:l≠[]):∃ v,l.foldl mf none=some v∧v ∈ l∧∀ x ∈ l,v≤x:=by
 cases l with
 | nil=>exact absurd rfl h
 | cons x l=>
  obtain ⟨v,e,h1,h2,h3⟩:=Rz l x
  refine ⟨v,e,?_,fun y hy=>?_⟩
  ·rcases h3 with rfl | h3
   ·simp
   ·exact List.mem_cons_of_mem _ h3
  ·rcases List.mem_cons.mp hy with rfl | hy
   ·exact h1
   ·exact h2 y hy
def Bq (m:Net) (road f:Nat):List Nat:=f :: ((m.closings.filter fun c=>c.road == road && decide (f≤c.hi)).map fun c=>c.hi)
theorem Sx (m:Net) (road f k:Nat):Vbmiai.begins m road f k=(((Bq m road f).filter fun t=>Vbmiai.isOpen m road t k).foldl mf none).getD f:=rfl
def kG (m:Net) (road k t:Nat):Prop:=∀ c ∈ m.closings,c.road=road→t + k≤c.lo∨c.hi≤t
theorem isOpen_iff {m:Net}{road t k:Nat}:Vbmiai.isOpen m road t k=true ↔ kG m road k t:=by
 unfold Vbmiai.isOpen kG
 rw[List.all_eq_true]
 constructor
 ·intro h c hc e
  have:=h c hc
  simp[e] at this
  exact this
 ·intro h c hc
  by_cases e:c.road=road
  ·have:=h c hc e
   simp[e]
   exact this
  ·simp[e]
theorem mem_cands {m:Net}{road f t:Nat}:t ∈ Bq m road f ↔ t=f∨∃ c ∈ m.closings,c.road=road∧f≤c.hi∧c.hi=t:=by
 unfold Bq
 simp only[List.mem_cons,List.mem_map,List.mem_filter,Bool.and_eq_true,beq_iff_eq,decide_eq_true_eq]
 constructor
 ·rintro (h | ⟨c,⟨h1,h2,h3⟩,h4⟩)
  ·exact .inl h
  ·exact .inr ⟨c,h1,h2,h3,h4⟩
 ·rintro (h | ⟨c,h1,h2,h3,h4⟩)
  ·exact .inl h
  ·exact .inr ⟨c,⟨h1,h2,h3⟩,h4⟩
theorem Yv (l:List Nat) (b:Nat) (h:∃ x ∈ l,x≤b):∃ x ∈ l,x≤b∧∀ y ∈ l,y≤b→y≤x:=by
 induction l with
 | nil=>
  obtain ⟨x,hx,_⟩:=h
  cases hx
 | cons z l ih=>
  by_cases q:∃ x ∈ l,x≤b
  ·obtain ⟨x,hx,hb,hy⟩:=ih q
   by_cases r:z≤b∧x≤z
   ·refine ⟨z,by simp,r.1,fun y hy' hyb=>?_⟩
    rcases List.mem_cons.mp hy' with rfl | hy'
    ·exact Nat.le_refl _
    ·exact Nat.le_trans (hy y hy' hyb) r.2
   ·refine ⟨x,List.mem_cons_of_mem _ hx,hb,fun y hy' hyb=>?_⟩
    rcases List.mem_cons.mp hy' with rfl | hy'
    ·omega
    ·exact hy y hy' hyb
  ·obtain ⟨x,hx,hb⟩:=h
   rcases List.mem_cons.mp hx with rfl | hx
   ·refine ⟨x,by simp,hb,fun y hy' hyb=>?_⟩
    rcases List.mem_cons.mp hy' with rfl | hy'
    ·exact Nat.le_refl _
    ·exact absurd ⟨y,hy',hyb⟩ q
   ·exact absurd ⟨x,hx,hb⟩ q
theorem Ho {m:Net}{road f k t:Nat} (ht:f≤t) (ho:kG m road k t):∃ c ∈ Bq m road f,c≤t∧kG m road k c:=by
 obtain ⟨x,hx,hb,hy⟩:=Yv (Bq m road f) t ⟨f,mem_cands.mpr (.inl rfl),ht⟩
 refine ⟨x,hx,hb,fun c hc e=>?_⟩
 have fx:f≤x:=hy f (mem_cands.mpr (.inl rfl)) ht
 rcases ho c hc e with q | q
 ·exact .inl (by omega)
 ·by_cases z:f≤c.hi
  ·exact .inr (hy c.hi (mem_cands.mpr (.inr ⟨c,hc,e,z,rfl⟩)) q)
  ·exact .inr (by omega)
theorem Ul (m:Net) (road f k:Nat):∃ t,f≤t∧kG m road k t:=by
 refine ⟨f + (m.closings.map fun c=>c.hi).sum,Nat.le_add_right _ _,fun c hc _=>.inr ?_⟩
 have:∀ (l:List Nat) (x:Nat),x ∈ l→x≤l.sum:=by
  intro l
  induction l with
  | nil=>
   intro x h
   cases h
  | cons a l ih=>
   intro x h
   rw[List.sum_cons]
   rcases List.mem_cons.mp h with rfl | h
   ·omega
   ·have:=ih x h
    omega
 have:=this (m.closings.map fun c=>c.hi) c.hi (List.mem_map.mpr ⟨c,hc,rfl⟩)
 omega
theorem jI (m:Net) (road f k:Nat):First (kG m road k) f (Vbmiai.begins m road f k):=by
 rw[Sx]
 obtain ⟨t0,h0,o0⟩:=Ul m road f k
 obtain ⟨c0,hc0,_,oc0⟩:=Ho h0 o0
 have ne:((Bq m road f).filter fun t=>Vbmiai.isOpen m road t k)≠[]:=by
  intro q
  have:c0 ∈ (Bq m road f).filter fun t=>Vbmiai.isOpen m road t k:=List.mem_filter.mpr ⟨hc0,isOpen_iff.mpr oc0⟩
  rw[q] at this
  cases this
 obtain ⟨v,e,hv,hl⟩:=ba ne
 rw[e]
 have hv':=List.mem_filter.mp hv
 refine ⟨?_,isOpen_iff.mp hv'.2,fun u hu ho=>?_⟩
 ·rcases mem_cands.mp hv'.1 with q | ⟨c,_,_,q,r⟩
  ·exact Nat.le_of_eq q.symm
  ·show f≤v
   omega
 ·obtain ⟨c,hc,hcu,oc⟩:=Ho hu ho
  exact Nat.le_trans (hl c (List.mem_filter.mpr ⟨hc,isOpen_iff.mpr oc⟩)) hcu
theorem Np {m:Net}{road f k:Nat}{cs:List Closing} (hp:cs.Pairwise (fun c d=>c.lo≤d.lo)) (hm:∀ c,c ∈ cs ↔ c ∈ m.closings∧c.road=road):Fj k cs f=Vbmiai.begins m road f k:=by
 have h1:=Qm (k:=k) (f:=f) hp
 have h2:=jI m road f k
 have e:∀ t,Iq cs k t ↔ kG m road k t:=fun t=>⟨fun h c hc er=>h c ((hm c).mpr ⟨hc,er⟩),fun h c hc=>h c ((hm c).mp hc).1 ((hm c).mp hc).2⟩
 exact First.unique (p:=kG m road k) (f:=f) ⟨h1.ge,(e _).mp h1.op,fun u hu ho=>h1.least u hu ((e u).mpr ho)⟩ h2
theorem My {m:Net}{road f g k:Nat} (h:f≤g):Vbmiai.begins m road f k≤Vbmiai.begins m road g k:=(jI m road f k).mono (jI m road g k) h
theorem Th (m:Net) (road f k:Nat):f≤Vbmiai.begins m road f k:=(jI m road f k).ge
theorem Vh {m:Net}{road f k B:Nat} (h:∀ c ∈ m.closings,c.hi≤B) (hf:f≤B):Vbmiai.begins m road f k≤B:=(jI m road f k).least B hf fun c hc _=>.inr (h c hc)
theorem qP {m:Net}{s:Step}{u v:Nat} (h:u≤v):Vbmiai.arrives m s u≤Vbmiai.arrives m s v:=Nat.add_le_add_right (My h) _
theorem Po (m:Net) (s:Step) (u:Nat):u + s.long≤Vbmiai.arrives m s u:=Nat.add_le_add_right (Th _ _ _ _) _
structure Good (ss:List Step) (arr:Step→Nat→Nat) (a t0:Nat) (g:Nat→Option Nat):Prop where
 start:g a=some t0
 closed:∀ s ∈ ss,∀ u,g s.from_=some u→∃ v,g s.to=some v∧v≤arr s u
 told:∀ j v,j≠a→g j=some v→∃ s ∈ ss,s.to=j∧∃ u,g s.from_=some u∧arr s u=v
structure cr (ss:List Step) (arr:Step→Nat→Nat):Prop where
 mono:∀ s u v,u≤v→arr s u≤arr s v
 pos:∀ s ∈ ss,∀ u,u<arr s u
section
variable {ss:List Step}{arr:Step→Nat→Nat}{a t0:Nat}{g g':Nat→Option Nat}
theorem Good.le (A:cr ss arr) (h:Good ss arr a t0 g) (h':Good ss arr a t0 g'):∀ (v j:Nat),g j=some v→∃ w,g' j=some w∧w≤v:=by
 intro v
 induction v using Nat.strongRecOn with
 | _ v ih=>
  intro j hj
  by_cases e:j=a
  ·subst e
   rw[h.start] at hj
   cases hj
   exact ⟨_,h'.start,Nat.le_refl _⟩
  ·obtain ⟨s,hs,rfl,u,hu,hv⟩:=h.told j v e hj
   have lt:u<v:=by
    rw[←hv]
    exact A.pos s hs u
   obtain ⟨u',hu',le'⟩:=ih u lt s.from_ hu
   obtain ⟨w,hw,lw⟩:=h'.closed s hs u' hu'
   exact ⟨w,hw,Nat.le_trans lw (by rw[←hv];exact A.mono s _ _ le')⟩
theorem Good.unique (A:cr ss arr) (h:Good ss arr a t0 g) (h':Good ss arr a t0 g') (j:Nat):g j=g' j:=by
 cases e:g j with
 | none=>
  cases e':g' j with
  | none=>rfl
  | some w=>
   obtain ⟨v,hv,_⟩:=h'.le A h w j e'
   rw[e] at hv
   cases hv
 | some v=>
  obtain ⟨w,hw,l1⟩:=h.le A h' v j e
  obtain ⟨v',hv',l2⟩:=h'.le A h w j hw
  rw[e] at hv'
  cases hv'
  rw[hw,Nat.le_antisymm l1 l2]
end
theorem Sz (a b:Option Nat) {v:Nat} (h:a=some v):∃ w,Vbmiai.earlier a b=some w∧w≤v:=by
 subst h
 cases b with
 | none=>exact ⟨v,rfl,Nat.le_refl _⟩
 | some b=>exact ⟨min v b,rfl,Nat.min_le_left _ _⟩
theorem Ui (a b:Option Nat) {v:Nat} (h:b=some v):∃ w,Vbmiai.earlier a b=some w∧w≤v:=by
 subst h
 cases a with
 | none=>exact ⟨v,rfl,Nat.le_refl _⟩
 | some a=>exact ⟨min a v,rfl,Nat.min_le_right _ _⟩
theorem Qh {a b:Option Nat}{v:Nat} (h:Vbmiai.earlier a b=some v):a=some v∨b=some v:=by
 cases a with
 | none=>exact .inr h
 | some a=>
  cases b with
  | none=>exact .inl h
  | some b=>
   have e:min a b=v:=Option.some.inj h
   by_cases q:a≤b
   ·exact .inl (by rw[←e];congr 1;omega)
   ·exact .inr (by rw[←e];congr 1;omega)
section
variable {α:Type} (f:α→Option Nat)
theorem wH:∀ (l:List α) (o:Option Nat) (v:Nat),(o=some v∨∃ s ∈ l,f s=some v)→∃ w,l.foldl (fun o s=>Vbmiai.earlier o (f s)) o=some w∧w≤v
 | [],o,v,h=>by
  rcases h with h | ⟨_,h,_⟩
  ·exact ⟨v,h,Nat.le_refl _⟩
  ·cases h
 | x :: l,o,v,h=>by
  show ∃ w,l.foldl _ (Vbmiai.earlier o (f x))=some w∧w≤v
  rcases h with h | ⟨s,hs,e⟩
  ·obtain ⟨w,hw,l1⟩:=Sz o (f x) h
   obtain ⟨z,hz,l2⟩:=wH l _ w (.inl hw)
   exact ⟨z,hz,Nat.le_trans l2 l1⟩
  ·rcases List.mem_cons.mp hs with rfl | hs
   ·obtain ⟨w,hw,l1⟩:=Ui o (f s) e
    obtain ⟨z,hz,l2⟩:=wH l _ w (.inl hw)
    exact ⟨z,hz,Nat.le_trans l2 l1⟩
   ·exact wH l _ v (.inr ⟨s,hs,e⟩)
theorem Se:∀ (l:List α) (o:Option Nat) (v:Nat),l.foldl (fun o s=>Vbmiai.earlier o (f s)) o=some v→o=some v∨∃ s ∈ l,f s=some v
 | [],o,v,h=>.inl h
 | x :: l,o,v,h=>by
  rcases Se l _ v h with q | ⟨s,hs,e⟩
  ·rcases Qh q with q | q
   ·exact .inl q
   ·exact .inr ⟨x,by simp,q⟩
  ·exact .inr ⟨s,List.mem_cons_of_mem _ hs,e⟩
end
abbrev Times:=Vbmiai.Times
theorem lK (m:Net) (ss:List Step):∀ (k:Nat) (t:Times),Vbmiai.relaxed m ss (k + 1) t=Vbmiai.relax m ss (Vbmiai.relaxed m ss k t)
 | 0,t=>rfl
 | k + 1,t=>by
  show Vbmiai.relaxed m ss (k + 1) (Vbmiai.relax m ss t)=_
  rw[lK m ss k]
  rfl
theorem Dl (m:Net) (ss:List Step) (t:Times):(Vbmiai.relax m ss t).map (·.1)=t.map (·.1):=by
 unfold Vbmiai.relax
 rw[List.map_map]
 rfl
theorem qS (m:Net) (ss:List Step) (k:Nat) (t:Times):(Vbmiai.relaxed m ss k t).map (·.1)=t.map (·.1):=by
 induction k generalizing t with
 | zero=>rfl
 | succ k ih=>exact (ih _).trans (Dl m ss t)
theorem Da (F:Nat→Option Nat→Option Nat) (j:Nat):∀ (t:Times),Vbmiai.timeAt (t.map fun x=>(x.1,F x.1 x.2)) j=((t.find? fun x=>x.1 == j).bind fun x=>F j x.2)
 | []=>rfl
 | x :: t=>by
  have ih:=Da F j t
  unfold Vbmiai.timeAt at ih ⊢
  rw[List.map_cons,List.find?_cons,List.find?_cons]
  by_cases e:x.1=j
  ·subst e
   simp
  ·have e':(x.1 == j)=false:=by simp[e]
   simp only[e']
   exact ih
theorem Dh {t:Times}{j v:Nat} (h:Vbmiai.timeAt t j=some v):j ∈ t.map (·.1):=by
 unfold Vbmiai.timeAt at h
 cases e:t.find? fun x=>x.1 == j with
 | none=>
  rw[e] at h
  cases h
 | some x=>
  have h1:=List.find?_some e
  have h2:=List.mem_of_find?_eq_some e
  exact List.mem_map.mpr ⟨x,h2,by simpa using h1⟩
theorem Ly {t:Times}{j:Nat} (h:j ∈ t.map (·.1)):∃ x,(t.find? fun x=>x.1 == j)=some x∧x.1=j∧Vbmiai.timeAt t j=x.2:=by
 cases e:t.find? fun x=>x.1 == j with
 | none=>
  obtain ⟨x,hx,e1⟩:=List.mem_map.mp h
  have:=List.find?_eq_none.mp e x hx
  simp[e1] at this
 | some x=>
  have h1:=List.find?_some e
  refine ⟨x,rfl,by simpa using h1,?_⟩
  unfold Vbmiai.timeAt
  rw[e]
  rfl
theorem Cj (m:Net) (ss:List Step) (t:Times) {j:Nat} (h:j ∈ t.map (·.1)):Vbmiai.timeAt (Vbmiai.relax m ss t) j=(ss.filter fun s=>s.to == j).foldl (fun o s=>Vbmiai.earlier o ((Vbmiai.timeAt t s.from_).map (Vbmiai.arrives m s))) (Vbmiai.timeAt t j):=by
 obtain ⟨x,e1,e2,e3⟩:=Ly h
 have:=Da (fun j o=>(ss.filter fun s=>s.to == j).foldl (fun o s=>Vbmiai.earlier o ((Vbmiai.timeAt t s.from_).map (Vbmiai.arrives m s))) o) j t
 rw[e1] at this
 rw[e3]
 exact this
theorem pF {p q:Nat→Bool}{x:Nat}:∀ (l:List Nat),(∀ y ∈ l,p y=true→q y=true)→x ∈ l→p x=false→q x=true→(l.filter p).length<(l.filter q).length
 | [],_,h,_,_=>by cases h
 | y :: l,h,hx,hp,hq=>by
  have le:∀ (l:List Nat),(∀ y ∈ l,p y=true→q y=true)→(l.filter p).length≤(l.filter q).length:=by
   intro l
   induction l with
   | nil=>intro _;exact Nat.le_refl _
   | cons z l ih=>
    intro h
    have i:=ih fun y hy=>h y (List.mem_cons_of_mem _ hy)
    have hz:=h z (by simp)
    cases e1:p z <;> cases e2:q z <;> simp[e1,e2] <;> simp_all <;> omega
  have hl:=le l fun y hy=>h y (List.mem_cons_of_mem _ hy)
  rcases List.mem_cons.mp hx with rfl | hx
  ·simp[hp,hq]
   omega
  ·have i:=pF l (fun y hy=>h y (List.mem_cons_of_mem _ hy)) hx hp hq
   have hy:=h y (by simp)
   cases e1:p y <;> cases e2:q y <;> simp[e1,e2] <;> simp_all <;> omega
def fV (g:Nat→Option Nat) (v:Nat) (j:Nat):Bool:=match g j with
 | some u=>decide (u<v)
 | none=>false
section
variable {m:Net}{ss:List Step}{js:List Nat}{a t0:Nat}{g:Nat→Option Nat}
theorem Px (A:cr ss (Vbmiai.arrives m)) (G:Good ss (Vbmiai.arrives m) a t0 g) {t:Times} (hk:t.map (·.1)=js) (h0:∀ j v,Vbmiai.timeAt t j=some v→∃ w,g j=some w∧w≤v) :
  ∀ (k j v:Nat),Vbmiai.timeAt (Vbmiai.relaxed m ss k t) j=some v→∃ w,g j=some w∧w≤v:=by
 intro k
 induction k with
 | zero=>exact h0
 | succ k ih=>
  intro j v h
  rw[lK] at h
  have hj:=Dh h
  rw[Dl] at hj
  rw[Cj m ss _ hj] at h
  rcases Se _ _ _ _ h with q | ⟨s,hs,q⟩
  ·exact ih j v q
  ·obtain ⟨u,hu,e⟩:∃ u,Vbmiai.timeAt (Vbmiai.relaxed m ss k t) s.from_=some u∧Vbmiai.arrives m s u=v:=by
    cases e:Vbmiai.timeAt (Vbmiai.relaxed m ss k t) s.from_ with
    | none=>
     rw[e] at q
     cases q
    | some u=>
     rw[e] at q
     exact ⟨u,rfl,Option.some.inj q⟩
   obtain ⟨w,hw,lw⟩:=ih _ _ hu
   have hs':=List.mem_filter.mp hs
   obtain ⟨z,hz,lz⟩:=G.closed s hs'.1 w hw
   have ej:s.to=j:=by simpa using hs'.2
   rw[ej] at hz
   exact ⟨z,hz,Nat.le_trans lz (by rw[←e];exact qP lw)⟩
theorem Nl (A:cr ss (Vbmiai.arrives m)) (G:Good ss (Vbmiai.arrives m) a t0 g) (hto:∀ s ∈ ss,s.to ∈ js) (hfr:∀ s ∈ ss,s.from_ ∈ js) (ha:a ∈ js) {t:Times} (hk:t.map (·.1)=js) (h0:Vbmiai.timeAt t a=some t0) :
  ∀ (k j v:Nat),g j=some v→(js.filter (fV g v)).length≤k→∃ w,Vbmiai.timeAt (Vbmiai.relaxed m ss k t) j=some w∧w≤v:=by
 have keep:∀ k,∃ w,Vbmiai.timeAt (Vbmiai.relaxed m ss k t) a=some w∧w≤t0:=by
  intro k
  induction k with
  | zero=>exact ⟨t0,h0,Nat.le_refl _⟩
  | succ k ih=>
   obtain ⟨w,hw,lw⟩:=ih
   rw[lK,Cj m ss _ (by rw[qS,hk];exact ha)]
   obtain ⟨z,hz,lz⟩:=wH (fun s=>(Vbmiai.timeAt (Vbmiai.relaxed m ss k t) s.from_).map (Vbmiai.arrives m s)) (ss.filter fun s=>s.to == a) _ w (.inl hw)
   exact ⟨z,hz,Nat.le_trans lz lw⟩
 intro k
 induction k with
 | zero=>
  intro j v hj hc
  by_cases e:j=a
  ·subst e
   rw[G.start] at hj
   cases hj
   exact keep 0
  ·obtain ⟨s,hs,rfl,u,hu,hv⟩:=G.told j v e hj
   have lt:=A.pos s hs u
   have:=pF (p:=fun _=>false) (q:=fV g v) (x:=s.from_) js (fun y _ h=>by simp at h) (hfr s hs) rfl (by unfold fV;rw[hu];simp;omega)
   omega
 | succ k ih=>
  intro j v hj hc
  by_cases e:j=a
  ·subst e
   rw[G.start] at hj
   cases hj
   exact keep _
  ·obtain ⟨s,hs,rfl,u,hu,hv⟩:=G.told j v e hj
   have lt:=A.pos s hs u
   have lc:=pF (p:=fV g u) (q:=fV g v) (x:=s.from_) js (fun y _ h=>by
    unfold fV at h ⊢
    cases q:g y with
    | none=>
     rw[q] at h
     cases h
    | some z=>
     rw[q] at h
     simp at h ⊢
     omega) (hfr s hs) (by unfold fV;rw[hu];simp) (by unfold fV;rw[hu];simp;omega)
   obtain ⟨w,hw,lw⟩:=ih s.from_ u hu (by omega)
   rw[lK,Cj m ss _ (by rw[qS,hk];exact hto s hs)]
   obtain ⟨z,hz,lz⟩:=wH (fun s=>(Vbmiai.timeAt (Vbmiai.relaxed m ss k t) s.from_).map (Vbmiai.arrives m s)) (ss.filter fun x=>x.to == s.to) (Vbmiai.timeAt (Vbmiai.relaxed m ss k t) s.to) (Vbmiai.arrives m s w) (.inr ⟨s,List.mem_filter.mpr ⟨hs,by simp⟩,by rw[hw];rfl⟩)
   exact ⟨z,hz,Nat.le_trans lz (by rw[←hv];exact qP lw)⟩
end
theorem wO (js:List Nat) (a t0:Nat) (j:Nat):Vbmiai.timeAt (js.map fun x=>(x,if x=a then some t0 else none)) j=if j ∈ js∧j=a then some t0 else none:=by
 induction js with
 | nil=>simp[Vbmiai.timeAt]
 | cons x js ih=>
  unfold Vbmiai.timeAt at ih ⊢
  rw[List.map_cons,List.find?_cons]
  by_cases e:x=j
  ·subst e
   simp
  ·have e':(x == j)=false:=by simp[e]
   simp only[e']
   rw[ih]
   have:(j ∈ x :: js) ↔ j ∈ js:=by
    simp
    intro q
    exact absurd q.symm e
   simp only[this]
theorem Qs {m:Net}{a t0:Nat}{l:Bool}{g:Nat→Option Nat} (A:cr (Vbmiai.stepsOf m l) (Vbmiai.arrives m)) (G:Good (Vbmiai.stepsOf m l) (Vbmiai.arrives m) a t0 g)
  (hto:∀ s ∈ Vbmiai.stepsOf m l,s.to ∈ m.junctions.map (·.number)) (hfr:∀ s ∈ Vbmiai.stepsOf m l,s.from_ ∈ m.junctions.map (·.number)) (ha:a ∈ m.junctions.map (·.number)) (j:Nat) :
  Vbmiai.timeAt (Vbmiai.times m a t0 l) j=g j:=by
 have e0:(m.junctions.map fun x=>(x.number,if x.number=a then some t0 else none))=((m.junctions.map (·.number)).map fun x=>(x,if x=a then some t0 else none)):=by rw[List.map_map];rfl
 have et:Vbmiai.times m a t0 l=Vbmiai.relaxed m (Vbmiai.stepsOf m l) m.junctions.length ((m.junctions.map (·.number)).map fun x=>(x,if x=a then some t0 else none)):=by rw[←e0];rfl
 rw[et]
 have hk:(((m.junctions.map (·.number)).map fun x=>(x,if x=a then some t0 else (none:Option Nat)))).map (·.1)=m.junctions.map (·.number):=by
  rw[List.map_map]
  exact List.map_id _
 have low:=Px A G hk (fun j v h=>by
  rw[wO] at h
  split at h
  ·rename_i q
   cases h
   exact ⟨t0,by rw[q.2];exact G.start,Nat.le_refl _⟩
  ·cases h)
 have high:=Nl A G hto hfr ha hk (by rw[wO,if_pos ⟨ha,rfl⟩])
 cases e:g j with
 | none=>
  cases q:Vbmiai.timeAt (Vbmiai.relaxed m (Vbmiai.stepsOf m l) m.junctions.length ((m.junctions.map (·.number)).map fun x=>(x,if x=a then some t0 else none))) j with
  | none=>rfl
  | some v=>
   obtain ⟨w,hw,_⟩:=low _ j v q
   rw[e] at hw
   cases hw
 | some v=>
  have hl:((m.junctions.map (·.number)).filter (fV g v)).length≤m.junctions.length:=by
   have:=List.length_filter_le (fV g v) (m.junctions.map (·.number))
   rw[List.length_map] at this
   exact this
  obtain ⟨w,hw,l1⟩:=high m.junctions.length j v e hl
  obtain ⟨v',hv',l2⟩:=low m.junctions.length j w hw
  rw[e] at hv'
  cases hv'
  rw[hw,Nat.le_antisymm l1 l2]
theorem vT (m:Net) (a t0:Nat) (l:Bool):(Vbmiai.times m a t0 l).map (·.1)=m.junctions.map (·.number):=by
 unfold Vbmiai.times
 rw[qS,List.map_map]
 rfl
structure WF (m:Net):Prop where
 jlen:m.junctions.length≤10
 rlen:m.roads.length≤20
 slen:m.speeds.length≤6
 clen:m.closings.length≤20
 jnd:(m.junctions.map (·.number)).Nodup
 rnd:(m.roads.map (·.number)).Nodup
 jin:∀ x ∈ m.junctions,1≤x.number∧x.number≤99∧x.height≤1000000
 rin:∀ r ∈ m.roads,(1≤r.number∧r.number≤99)∧(r.a ∈ m.junctions.map (·.number)∧r.b ∈ m.junctions.map (·.number)∧r.a≠r.b)∧(1≤r.long∧r.long≤1000000)∧1≤r.ways∧r.ways≤2
 sin:∀ s ∈ m.speeds,s.grade≤10000∧s.up≤1000∧s.upLoaded≤1000∧s.down≤1000∧s.downLoaded≤1000
 cin:∀ c ∈ m.closings,(1≤c.road∧c.road≤99)∧c.lo<c.hi∧c.hi≤100000
theorem WF.empty:WF Vbmiai.empty:=by
 refine ⟨by decide,by decide,by decide,by decide,by decide,by decide,?_,?_,?_,?_⟩ <;> intro x h <;> cases h
theorem hasJunction_iff {m:Net}{j:Nat}:Vbmiai.hasJunction m j=true ↔ j ∈ m.junctions.map (·.number):=by
 unfold Vbmiai.hasJunction
 rw[List.any_eq_true,List.mem_map]
 constructor
 ·rintro ⟨x,h1,h2⟩
  exact ⟨x,h1,by simpa using h2⟩
 ·rintro ⟨x,h1,h2⟩
  exact ⟨x,h1,by simpa using h2⟩
theorem zN {m:Net}{n:Nat}{r:Road} (h:Vbmiai.roadOf m n=some r):r ∈ m.roads∧r.number=n :=
 ⟨List.mem_of_find?_eq_some h,by simpa using List.find?_some h⟩
theorem roadOf_none {m:Net}{n:Nat}:Vbmiai.roadOf m n=none ↔ n ∉ m.roads.map (·.number):=by
 unfold Vbmiai.roadOf
 rw[List.find?_eq_none]
 simp
theorem Db {α:Type}{l:List α}{x:α} (h:l.Nodup) (hx:x ∉ l):(l ++ [x]).Nodup:=by
 rw[List.nodup_append]
 refine ⟨h,by simp,fun a ha b hb=>?_⟩
 have e:b=x:=by simpa using hb
 subst e
 intro q
 subst q
 exact hx ha
theorem WF.junction {m:Net} (W:WF m) {j z:Nat} (hj:1≤j∧j≤99) (hz:z≤1000000) (hn:Vbmiai.hasJunction m j=false) (hl:m.junctions.length<10):WF { m with junctions:=m.junctions ++ [⟨j,z⟩] }:=by
 have hn':j ∉ m.junctions.map (·.number):=fun q=>by
  rw[hasJunction_iff.mpr q] at hn
  cases hn
 refine ⟨by simp;omega,W.rlen,W.slen,W.clen,?_,W.rnd,fun x hx=>?_,fun r hr=>?_,W.sin,W.cin⟩
 ·rw[List.map_append]
  exact Db W.jnd hn'
 ·rcases List.mem_append.mp hx with hx | hx
  ·exact W.jin x hx
  ·have e:x=⟨j,z⟩:=by simpa using hx
   subst e
   exact ⟨hj.1,hj.2,hz⟩
 ·obtain ⟨h1,⟨h2,h3,h4⟩,h5⟩:=W.rin r hr
  refine ⟨h1,⟨?_,?_,h4⟩,h5⟩
  ·rw[List.map_append]
   exact List.mem_append_left _ h2
  ·rw[List.map_append]
   exact List.mem_append_left _ h3
theorem WF.road {m:Net} (W:WF m) {n a b long ways:Nat} (hn:1≤n∧n≤99) (hno:(Vbmiai.roadOf m n).isSome=false) (ha:Vbmiai.hasJunction m a=true) (hb:Vbmiai.hasJunction m b=true) (hab:a≠b) (hl:1≤long∧long≤1000000) (hw:1≤ways∧ways≤2) (hr:m.roads.length<20) :
  WF { m with roads:=m.roads ++ [⟨n,a,b,long,ways⟩] }:=by
 have hno':n ∉ m.roads.map (·.number):=roadOf_none.mp (by cases e:Vbmiai.roadOf m n with | none=>rfl | some r=>rw[e] at hno;cases hno)
 refine ⟨W.jlen,by simp;omega,W.slen,W.clen,W.jnd,?_,W.jin,fun r hr=>?_,W.sin,W.cin⟩
 ·rw[List.map_append]
  exact Db W.rnd hno'
 ·rcases List.mem_append.mp hr with hr | hr
  ·exact W.rin r hr
  ·have e:r=⟨n,a,b,long,ways⟩:=by simpa using hr
   subst e
   exact ⟨hn,⟨hasJunction_iff.mp ha,hasJunction_iff.mp hb,hab⟩,hl,hw⟩
theorem WF.speed {m:Net} (W:WF m) {g u ul d dl:Nat} (h:g≤10000∧u≤1000∧ul≤1000∧d≤1000∧dl≤1000) (hl:m.speeds.length<6):WF { m with speeds:=m.speeds ++ [⟨g,u,ul,d,dl⟩] }:=by
 refine ⟨W.jlen,W.rlen,by simp;omega,W.clen,W.jnd,W.rnd,W.jin,W.rin,fun s hs=>?_,W.cin⟩
 rcases List.mem_append.mp hs with hs | hs
 ·exact W.sin s hs
 ·have e:s=⟨g,u,ul,d,dl⟩:=by simpa using hs
  subst e
  exact h
theorem WF.closing {m:Net} (W:WF m) {n lo hi:Nat} (hn:1≤n∧n≤99) (h:lo<hi∧hi≤100000) (hl:m.closings.length<20):WF { m with closings:=m.closings ++ [⟨n,lo,hi⟩] }:=by
 refine ⟨W.jlen,W.rlen,W.slen,by simp;omega,W.jnd,W.rnd,W.jin,W.rin,W.sin,fun s hs=>?_⟩
 rcases List.mem_append.mp hs with hs | hs
 ·exact W.cin s hs
 ·have e:s=⟨n,lo,hi⟩:=by simpa using hs
  subst e
  exact ⟨hn,h⟩
theorem WF.freed {m:Net} (W:WF m) (p:Closing→Bool):WF { m with closings:=m.closings.filter p } :=
 ⟨W.jlen,W.rlen,W.slen,Nat.le_trans (List.length_filter_le _ _) W.clen,W.jnd,W.rnd,W.jin,W.rin,W.sin,fun c hc=>W.cin c (List.mem_filter.mp hc).1⟩
theorem WF.without {m:Net} (W:WF m) (n:Nat):WF (Vbmiai.withoutRoad m n) :=
 ⟨W.jlen,Nat.le_trans (List.length_filter_le _ _) W.rlen,W.slen,W.clen,W.jnd,((List.filter_sublist).map _).nodup W.rnd,W.jin,fun r hr=>W.rin r (List.mem_filter.mp hr).1,W.sin,W.cin⟩
theorem wN {m:Net}{r:Road}{b l:Bool}{k:Nat} (h:Vbmiai.minutesOf m r b l=some k):∃ v,v≠0∧k=(r.long + 100 * v - 1) / (100 * v):=by
 unfold Vbmiai.minutesOf at h
 by_cases q:b=true∧r.ways=1
 ·rw[if_pos q] at h
  cases h
 ·rw[if_neg q] at h
  dsimp only at h
  generalize Vbmiai.speedsFor m _ _=o at h
  cases o with
  | none=>cases h
  | some s=>
   dsimp only at h
   generalize (if (if b=true then Vbmiai.heightOf m r.a else Vbmiai.heightOf m r.b)<(if b=true then Vbmiai.heightOf m r.b else Vbmiai.heightOf m r.a) then (if l=true then s.downLoaded else s.down) else (if l=true then s.upLoaded else s.up))=v at h
   by_cases hv:v=0
   ·rw[if_pos hv] at h
    cases h
   ·rw[if_neg hv] at h
    exact ⟨v,hv,(Option.some.inj h).symm⟩
theorem zI {m:Net}{r:Road}{b l:Bool}{k:Nat} (h:Vbmiai.minutesOf m r b l=some k) (hl:1≤r.long):1≤k:=by
 obtain ⟨v,hv,rfl⟩:=wN h
 exact (Nat.le_div_iff_mul_le (by omega)).mpr (by omega)
theorem wX {m:Net}{r:Road}{b l:Bool}{k:Nat} (h:Vbmiai.minutesOf m r b l=some k) (hl:1≤r.long):k≤r.long:=by
 obtain ⟨v,hv,rfl⟩:=wN h
 refine Nat.le_of_lt_succ ((Nat.div_lt_iff_lt_mul (by omega)).mpr ?_)
 have:1≤v:=by omega
 have e:(r.long + 1) * (100 * v)=r.long * (100 * v) + 100 * v:=by rw[Nat.add_mul,Nat.one_mul]
 have e2:r.long * 1≤r.long * (100 * v):=Nat.mul_le_mul_left _ (by omega)
 show _<(r.long + 1) * _
 omega
theorem mem_steps {m:Net}{l:Bool}{s:Step}:s ∈ Vbmiai.stepsOf m l ↔ ∃ r ∈ m.roads,(Vbmiai.minutesOf m r false l=some s.long∧s=⟨r.number,r.a,r.b,s.long⟩)∨(Vbmiai.minutesOf m r true l=some s.long∧s=⟨r.number,r.b,r.a,s.long⟩):=by
 unfold Vbmiai.stepsOf
 rw[List.mem_flatMap]
 constructor
 ·rintro ⟨r,hr,h⟩
  refine ⟨r,hr,?_⟩
  rcases List.mem_append.mp h with h | h
  ·obtain ⟨t,ht,e⟩:=List.mem_map.mp h
   have ht':=Option.mem_toList.mp ht
   subst e
   exact .inl ⟨ht',rfl⟩
  ·obtain ⟨t,ht,e⟩:=List.mem_map.mp h
   have ht':=Option.mem_toList.mp ht
   subst e
   exact .inr ⟨ht',rfl⟩
 ·rintro ⟨r,hr,h⟩
  refine ⟨r,hr,?_⟩
  rcases h with ⟨h1,h2⟩ | ⟨h1,h2⟩
  ·refine List.mem_append_left _ (List.mem_map.mpr ⟨s.long,?_,h2.symm⟩)
   rw[h1]
   simp
  ·refine List.mem_append_right _ (List.mem_map.mpr ⟨s.long,?_,h2.symm⟩)
   rw[h1]
   simp
theorem WF.step {m:Net} (W:WF m) {l:Bool}{s:Step} (h:s ∈ Vbmiai.stepsOf m l):1≤s.long∧s.long≤1000000∧s.from_ ∈ m.junctions.map (·.number)∧s.to ∈ m.junctions.map (·.number)∧s.from_≠s.to∧1≤s.road∧s.road≤99:=by
 obtain ⟨r,hr,h | h⟩:=mem_steps.mp h
 ·obtain ⟨h1,⟨h2,h3,h4⟩,h5,_⟩:=W.rin r hr
  have p:=zI h.1 h5.1
  have q:=wX h.1 h5.1
  rw[h.2]
  exact ⟨p,by show s.long≤1000000;omega,h2,h3,h4,h1.1,h1.2⟩
 ·obtain ⟨h1,⟨h2,h3,h4⟩,h5,_⟩:=W.rin r hr
  have p:=zI h.1 h5.1
  have q:=wX h.1 h5.1
  rw[h.2]
  exact ⟨p,by show s.long≤1000000;omega,h3,h2,fun e=>h4 e.symm,h1.1,h1.2⟩
theorem WF.arr {m:Net} (W:WF m) (l:Bool):cr (Vbmiai.stepsOf m l) (Vbmiai.arrives m) :=
 ⟨fun s _ _ h=>qP h,fun s hs u=>by
  have h1:=Po m s u
  have h2:=(W.step hs).1
  omega⟩
abbrev qW (m:Net) (l:Bool) (a t0:Nat) (g:Nat→Option Nat):Prop:=Good (Vbmiai.stepsOf m l) (Vbmiai.arrives m) a t0 g
theorem WF.times {m:Net} (W:WF m) {l:Bool}{a t0:Nat}{g:Nat→Option Nat} (G:qW m l a t0 g) (ha:Vbmiai.hasJunction m a=true) (j:Nat):Vbmiai.timeAt (Vbmiai.times m a t0 l) j=g j :=
 Qs (W.arr l) G (fun s hs=>(W.step hs).2.2.2.1) (fun s hs=>(W.step hs).2.2.1) (hasJunction_iff.mp ha) j
theorem Wf {t:Times} (h:(t.map (·.1)).Nodup):t=(t.map (·.1)).map fun k=>(k,Vbmiai.timeAt t k):=by
 rw[List.map_map]
 apply List.ext_getElem?
 intro i
 rw[List.getElem?_map]
 cases e:t[i]? with
 | none=>rfl
 | some x=>
  show some x=some (x.1,Vbmiai.timeAt t x.1)
  have hx:x ∈ t:=List.mem_of_getElem? e
  have:∀ (t:Times),(t.map (·.1)).Nodup→x ∈ t→Vbmiai.timeAt t x.1=x.2:=by
   intro t
   induction t with
   | nil=>
    intro _ h
    cases h
   | cons y t ih=>
    intro hn hx
    unfold Vbmiai.timeAt
    rw[List.find?_cons]
    rcases List.mem_cons.mp hx with rfl | hx
    ·simp
    ·have hn':=List.nodup_cons.mp (show (y.1 :: t.map (·.1)).Nodup from hn)
     have ne:(y.1 == x.1)=false:=by
      simp
      intro q
      exact hn'.1 (q ▸ List.mem_map.mpr ⟨x,hx,rfl⟩)
     rw[ne]
     exact ih hn'.2 hx
  rw[this t h hx]
theorem WF.times_list {m:Net} (W:WF m) {l:Bool}{a t0:Nat}{g:Nat→Option Nat} (G:qW m l a t0 g) (ha:Vbmiai.hasJunction m a=true):Vbmiai.times m a t0 l=m.junctions.map fun x=>(x.number,g x.number):=by
 rw[Wf (t:=Vbmiai.times m a t0 l) (by rw[vT];exact W.jnd),vT,List.map_map]
 exact List.map_congr_left fun x _=>by
  show (x.number,Vbmiai.timeAt (Vbmiai.times m a t0 l) x.number)=_
  rw[W.times G ha]
inductive Back (m:Net) (ss:List Step) (t:Times) (a:Nat):Nat→List (Step×Nat)→Prop
 | here:Back m ss t a a []
 | step {j:Nat}{x:Step×Nat}{r:List (Step×Nat)}:j≠a→Vbmiai.lastStep m ss t j=some x→Back m ss t a x.1.from_ r→Back m ss t a j (x :: r)
theorem Back.back {m:Net}{ss:List Step}{t:Times}{a j:Nat}{r:List (Step×Nat)} (h:Back m ss t a j r):∀ f,r.length≤f→Vbmiai.back m ss t a f j=r:=by
 induction h with
 | here=>
  intro f _
  cases f with
  | zero=>rfl
  | succ f=>
   unfold Vbmiai.back
   rw[if_pos rfl]
 | @step j x r hj hx _ ih=>
  intro f hf
  cases f with
  | zero=>simp at hf
  | succ f=>
   unfold Vbmiai.back
   rw[if_neg hj,hx]
   show x :: _=_
   rw[ih f (by simpa using hf)]
theorem vI {α:Type}{p:α→Bool}{l:List α} (h:∃ x ∈ l,p x=true):∃ x,l.find? p=some x∧x ∈ l∧p x=true:=by
 cases e:l.find? p with
 | none=>
  obtain ⟨x,hx,hp⟩:=h
  exact absurd hp (List.find?_eq_none.mp e x hx)
 | some x=>exact ⟨x,rfl,List.mem_of_find?_eq_some e,List.find?_some e⟩
theorem bo {m:Net}{l:Bool}{a t0:Nat}{g:Nat→Option Nat}{t:Times} (G:qW m l a t0 g) (et:∀ j,Vbmiai.timeAt t j=g j) {j v:Nat} (hj:j≠a) (hv:g j=some v) :
  ∃ s u,(Vbmiai.stepsOf m l).find? (fun s=>s.to == j && (Vbmiai.timeAt t s.from_).any fun u=>Vbmiai.arrives m s u == v)=some s∧s ∈ Vbmiai.stepsOf m l∧s.to=j∧g s.from_=some u∧Vbmiai.arrives m s u=v ∧
   Vbmiai.lastStep m (Vbmiai.stepsOf m l) t j=some (s,Vbmiai.begins m s.road u s.long):=by
 obtain ⟨s0,hs0,e0,u0,hu0,ha0⟩:=G.told j v hj hv
 obtain ⟨s,hs,hm,hp⟩:=vI (p:=fun s=>s.to == j && (Vbmiai.timeAt t s.from_).any fun u=>Vbmiai.arrives m s u == v) (l:=Vbmiai.stepsOf m l) ⟨s0,hs0,by
  rw[et,hu0]
  simp[e0,ha0]⟩
 rw[Bool.and_eq_true] at hp
 obtain ⟨u,hu,hau⟩:∃ u,g s.from_=some u∧Vbmiai.arrives m s u=v:=by
  cases e:g s.from_ with
  | none=>
   rw[et,e] at hp
   simp at hp
  | some u=>
   rw[et,e] at hp
   exact ⟨u,rfl,by simpa using hp.2⟩
 refine ⟨s,u,hs,hm,by simpa using hp.1,hu,hau,?_⟩
 unfold Vbmiai.lastStep
 rw[et j,hv]
 show Option.bind (List.find? _ _) _=_
 rw[hs]
 show Option.map _ (Vbmiai.timeAt t s.from_)=_
 rw[et,hu]
 rfl
theorem ag {m:Net} (W:WF m) {l:Bool}{a t0:Nat}{g:Nat→Option Nat}{t:Times} (G:qW m l a t0 g) (et:∀ j,Vbmiai.timeAt t j=g j) :
  ∀ (v j:Nat),g j=some v→∃ r,Back m (Vbmiai.stepsOf m l) t a j r∧r.length≤((m.junctions.map (·.number)).filter (fV g v)).length:=by
 intro v
 induction v using Nat.strongRecOn with
 | _ v ih=>
  intro j hj
  by_cases e:j=a
  ·subst e
   exact ⟨[],.here,Nat.zero_le _⟩
  ·obtain ⟨s,u,_,hs,e1,hu,hau,hl⟩:=bo G et e hj
   have lt:u<v:=by
    rw[←hau]
    exact (W.arr l).pos s hs u
   obtain ⟨r,hr,hrl⟩:=ih u lt s.from_ hu
   refine ⟨(s,_) :: r,.step e hl hr,?_⟩
   have lc:=pF (p:=fV g u) (q:=fV g v) (x:=s.from_) (m.junctions.map (·.number)) (fun y _ h=>by
    unfold fV at h ⊢
    cases q:g y with
    | none=>
     rw[q] at h
     cases h
    | some z=>
     rw[q] at h
     simp at h ⊢
     omega) (W.step hs).2.2.1 (by unfold fV;rw[hu];simp) (by unfold fV;rw[hu];simp;omega)
   rw[List.length_cons]
   omega
theorem WF.route {m:Net} (W:WF m) {l:Bool}{a b t0 v:Nat}{g:Nat→Option Nat} (G:qW m l a t0 g) (ha:Vbmiai.hasJunction m a=true) (hb:g b=some v):∃ r,Back m (Vbmiai.stepsOf m l) (Vbmiai.times m a t0 l) a b r∧Vbmiai.route m a b t0 l=r.reverse∧r.length≤10:=by
 obtain ⟨r,hr,hl⟩:=ag W G (W.times G ha) v b hb
 have h1:=List.length_filter_le (fV g v) (m.junctions.map (·.number))
 rw[List.length_map] at h1
 refine ⟨r,hr,?_,Nat.le_trans hl (Nat.le_trans h1 W.jlen)⟩
 unfold Vbmiai.route
 rw[hr.back _ (Nat.le_trans hl h1)]
theorem Ni {m:Net} (W:WF m) {l:Bool}{a t0:Nat}{g:Nat→Option Nat} (G:qW m l a t0 g) (ha:Vbmiai.hasJunction m a=true) {t:Times} (hk:t.map (·.1)=m.junctions.map (·.number)):Vbmiai.isTable m a t0 l t=true ↔ t=m.junctions.map fun x=>(x.number,g x.number):=by
 have key:Vbmiai.isTable m a t0 l t=true ↔ qW m l a t0 (Vbmiai.timeAt t):=by
  unfold Vbmiai.isTable
  dsimp only
  rw[Bool.and_eq_true,Bool.and_eq_true,Bool.and_eq_true]
  constructor
  ·rintro ⟨_,h1,h2,h3⟩
   refine ⟨by simpa using h1,fun s hs u hu=>?_,fun j v hj hv=>?_⟩
   ·have q:=List.all_eq_true.mp h2 s hs
    rw[hu] at q
    cases e:Vbmiai.timeAt t s.to with
    | none=>
     rw[e] at q
     cases q
    | some v=>
     rw[e] at q
     exact ⟨v,rfl,by simpa using q⟩
   ·obtain ⟨x,e1,e2,e3⟩:=Ly (Dh hv)
    have q:=List.all_eq_true.mp h3 x (List.mem_of_find?_eq_some e1)
    rw[e3] at hv
    rw[hv,e2] at q
    have nj:(j == a)=false:=by simp[hj]
    rw[nj,Bool.false_or] at q
    obtain ⟨s,hs,q⟩:=List.any_eq_true.mp q
    rw[Bool.and_eq_true] at q
    refine ⟨s,hs,by simpa using q.1,?_⟩
    cases e:Vbmiai.timeAt t s.from_ with
    | none=>
     rw[e] at q
     simp at q
    | some u=>
     rw[e] at q
     exact ⟨u,rfl,by simpa using q.2⟩
  ·rintro ⟨h1,h2,h3⟩
   refine ⟨by rw[hk];exact beq_self_eq_true _,by rw[h1];exact beq_self_eq_true _,List.all_eq_true.mpr fun s hs=>?_,List.all_eq_true.mpr fun x hx=>?_⟩
   ·cases e:Vbmiai.timeAt t s.from_ with
    | none=>rfl
    | some u=>
     obtain ⟨v,hv,hle⟩:=h2 s hs u e
     rw[hv]
     simpa using hle
   ·cases e:x.2 with
    | none=>simp
    | some v=>
     by_cases q:x.1=a
     ·simp[q]
     ·have ht:Vbmiai.timeAt t x.1=some v:=by
       have kk:=Wf (t:=t) (by rw[hk];exact W.jnd)
       rw[kk,List.map_map] at hx
       obtain ⟨y,hy,ey⟩:=List.mem_map.mp hx
       rw[←ey] at e ⊢
       exact e
      obtain ⟨s,hs,e1,u,hu,hau⟩:=h3 x.1 v q ht
      rw[Bool.or_eq_true]
      refine .inr (List.any_eq_true.mpr ⟨s,hs,?_⟩)
      rw[hu]
      simp[e1,hau]
 rw[key]
 constructor
 ·intro h
  rw[Wf (t:=t) (by rw[hk];exact W.jnd),hk,List.map_map]
  exact List.map_congr_left fun x _=>by
   show (x.number,Vbmiai.timeAt t x.number)=_
   rw[Good.unique (W.arr l) h G]
 ·intro h
  have e:∀ j,Vbmiai.timeAt t j=g j:=fun j=>by
   rw[←W.times G ha j,h,←W.times_list G ha]
  refine ⟨by rw[e];exact G.start,fun s hs u hu=>?_,fun j v hj hv=>?_⟩
  ·rw[e] at hu ⊢
   exact G.closed s hs u hu
  ·rw[e] at hv
   obtain ⟨s,hs,e1,u,hu,hau⟩:=G.told j v hj hv
   exact ⟨s,hs,e1,u,by rw[e];exact hu,hau⟩
theorem Xb (c:Nat):∀ l:List Nat,Vbmiai.cutAt c l≠[]
 | []=>by
  intro h
  cases h
 | x :: l=>by
  unfold Vbmiai.cutAt
  split
  ·intro h
   cases h
  ·split <;> intro h <;> cases h
theorem wL (c x:Nat):∀ (l:List Nat) (ps:List (List Nat)) (q:List Nat),Vbmiai.cutAt c l=ps ++ [q]→Vbmiai.cutAt c (l ++ [x])=if x=c then (ps ++ [q]) ++ [[]] else ps ++ [q ++ [x]]
 | [],ps,q,h=>by
  have h':([[]]:List (List Nat))=ps ++ [q]:=h
  have hp:ps=[]:=by
   cases ps with
   | nil=>rfl
   | cons a ps=>
    have:=congrArg List.length h'
    simp at this
  subst hp
  have hq:q=[]:=by simpa using h'.symm
  subst hq
  show Vbmiai.cutAt c [x]=_
  unfold Vbmiai.cutAt
  by_cases e:x=c
  ·rw[if_pos e,if_pos e]
   rfl
  ·rw[if_neg e,if_neg e]
   rfl
 | y :: l,ps,q,h=>by
  rw[List.cons_append]
  unfold Vbmiai.cutAt at h ⊢
  by_cases ey:y=c
  ·rw[if_pos ey] at h ⊢
   obtain ⟨ps',hps,hl⟩:∃ ps',ps=[] :: ps'∧Vbmiai.cutAt c l=ps' ++ [q]:=by
    cases ps with
    | nil=>
     have h1:Vbmiai.cutAt c l=[]:=by
      have:=congrArg List.length h
      simp at this
      exact this
     exact absurd h1 (Xb c l)
    | cons a ps=>
     injection h with h1 h2
     exact ⟨ps,by rw[h1],h2⟩
   subst hps
   rw[wL c x l ps' q hl]
   split <;> rfl
  ·rw[if_neg ey] at h ⊢
   cases e:Vbmiai.cutAt c l with
   | nil=>exact absurd e (Xb c l)
   | cons p r=>
    rw[e] at h
    have h':(y :: p) :: r=ps ++ [q]:=h
    cases ps with
    | nil=>
     have hr:r=[]:=by
      have:=congrArg List.length h'
      simp at this
      exact this
     subst hr
     have hq:q=y :: p:=by simpa using h'.symm
     subst hq
     rw[wL c x l [] p (by rw[e];rfl)]
     by_cases ex:x=c
     ·rw[if_pos ex,if_pos ex]
      rfl
     ·rw[if_neg ex,if_neg ex]
      rfl
    | cons a ps=>
     injection h' with h1 h2
     subst h1
     rw[wL c x l (p :: ps) q (by rw[e,h2];rfl)]
     by_cases ex:x=c
     ·rw[if_pos ex,if_pos ex]
      rfl
     ·rw[if_neg ex,if_neg ex]
      rfl
def fK (w:List Nat):Int:=match Vbmiai.natOf w with
 | some n=>(n:Int)
 | none=>-1
def ji (n c:Nat):Nat:=10 * n + (c - 48)
theorem Uf {w:List Nat} (h:7<w.length):fK w = -1:=by
 unfold fK Vbmiai.natOf
 rw[if_pos (by simp[h])]
theorem Ua {w:List Nat} (h:1<w.length) (h0:w.head? = some 48):fK w = -1:=by
 unfold fK Vbmiai.natOf
 rw[if_pos (by simp[h,h0])]
theorem Qp {w:List Nat}{c:Nat} (h:c ∈ w) (hc:c<48∨57<c):fK w = -1:=by
 unfold fK Vbmiai.natOf
 rw[if_pos (by
  have:w.all Vbmiai.isDigit=false:=by
   rw[List.all_eq_false]
   refine ⟨c,h,?_⟩
   unfold Vbmiai.isDigit
   simp
   omega
  simp[this])]
theorem ac {w:List Nat} (hne:w≠[]) (h7:w.length≤7) (h0:¬ (1<w.length∧w.head? = some 48)) (hd:∀ c ∈ w,48≤c∧c≤57):fK w=(w.foldl ji 0:Nat):=by
 unfold fK Vbmiai.natOf
 have e1:w.isEmpty=false:=by
  cases w with
  | nil=>exact absurd rfl hne
  | cons a l=>rfl
 have e2:w.all Vbmiai.isDigit=true:=by
  rw[List.all_eq_true]
  intro c hc
  unfold Vbmiai.isDigit
  have:=hd c hc
  simp
  omega
 have e3:decide (7<w.length)=false:=by
  simp
  omega
 have e4:(decide (1<w.length) && w.head? == some 48)=false:=by
  cases q:(decide (1<w.length) && w.head? == some 48) with
  | false=>rfl
  | true=>
   rw[Bool.and_eq_true] at q
   exact absurd ⟨by simpa using q.1,by simpa using q.2⟩ h0
 rw[if_neg (by rw[e1,e2,e3,e4];decide)]
 rfl
def iX:Nat→List (Nat×Nat)→List Int→Nat
 | p,b :: bs,n :: ns=>if n<(b.1:Int)∨(b.2:Int)<n then p else iX (p + 1) bs ns
 | _,_,_=>0
theorem Dg (p:Nat) (b:Nat×Nat) (bs:List (Nat×Nat)) (n:Int) (ns:List Int):iX p (b :: bs) (n :: ns)=if n<(b.1:Int)∨(b.2:Int)<n then p else iX (p + 1) bs ns:=rfl
theorem Jx (w:List Nat) (b:Nat×Nat):Vbmiai.natWithin w b.1 b.2=if fK w<(b.1:Int)∨(b.2:Int)<fK w then none else some (fK w).toNat:=by
 unfold Vbmiai.natWithin fK
 cases Vbmiai.natOf w with
 | none=>
  dsimp only
  rw[if_pos (by omega)]
 | some n=>
  dsimp only
  by_cases q:b.1≤n∧n≤b.2
  ·rw[if_pos q,if_neg (by omega)]
   rfl
  ·rw[if_neg q,if_pos (by omega)]
theorem Dq:∀ (bs:List (Nat×Nat)) (ws:List (List Nat)) (p:Nat),0<p→bs.length=ws.length →
  Vbmiai.numbers p bs ws=if iX p bs (ws.map fK)=0 then .ok (ws.map fun w=>(fK w).toNat) else .error (3,iX p bs (ws.map fK))
 | [],[],p,_,_=>rfl
 | [],_ :: _,_,_,h=>by cases h
 | _ :: _,[],_,_,h=>by cases h
 | b :: bs,w :: ws,p,hp,h=>by
  have ih:=Dq bs ws (p + 1) (by omega) (by simpa using h)
  unfold Vbmiai.numbers
  rw[Jx,List.map_cons,List.map_cons,Dg]
  by_cases q:fK w<(b.1:Int)∨(b.2:Int)<fK w
  ·rw[if_pos q,if_pos q,if_neg (by omega)]
  ·rw[if_neg q,if_neg q]
   dsimp only
   rw[ih]
   by_cases z:iX (p + 1) bs (ws.map fK)=0
   ·rw[if_pos z,if_pos z]
   ·rw[if_neg z,if_neg z]
theorem Cl:∀ (bs:List (Nat×Nat)) (ns:List Int) (p:Nat),0<p→iX p bs ns=0→∀ (i:Nat) (b:Nat×Nat) (n:Int),bs[i]? = some b→ns[i]? = some n→(b.1:Int)≤n∧n≤(b.2:Int)
 | [],_,_,_,_,i,b,n,h,_=>by simp at h
 | _ :: _,[],_,_,_,i,b,n,_,h=>by simp at h
 | b :: bs,n :: ns,p,hp,h,i,b',n',h1,h2=>by
  unfold iX at h
  by_cases q:n<(b.1:Int)∨(b.2:Int)<n
  ·rw[if_pos q] at h
   omega
  ·rw[if_neg q] at h
   cases i with
   | zero=>
    simp at h1 h2
    subst h1 h2
    omega
   | succ i=>exact Cl bs ns (p + 1) (by omega) h i b' n' (by simpa using h1) (by simpa using h2)
def lineW (m:Net) (ws:List (List Nat)):Except Vbmiai.Fault Net:=match ws with
 | []=>.ok m
 | w :: ws=>
  if w=Vbmiai.text "rem" then .ok m
  else if w=Vbmiai.text "junction" then Vbmiai.counted [(1,99),(0,1000000)] ws fun l=>Vbmiai.addJunction m (l.getD 0 0) (l.getD 1 0)
  else if w=Vbmiai.text "road" then Vbmiai.counted [(1,99),(1,99),(1,99),(1,1000000),(1,2)] ws fun l=>Vbmiai.addRoad m (l.getD 0 0) (l.getD 1 0) (l.getD 2 0) (l.getD 3 0) (l.getD 4 0)
  else if w=Vbmiai.text "speed" then Vbmiai.counted [(0,10000),(0,1000),(0,1000),(0,1000),(0,1000)] ws fun l=>Vbmiai.addSpeed m (l.getD 0 0) (l.getD 1 0) (l.getD 2 0) (l.getD 3 0) (l.getD 4 0)
  else if w=Vbmiai.text "closed" then Vbmiai.counted [(1,99),(0,100000),(0,100000)] ws fun l=>Vbmiai.addClosing m (l.getD 0 0) (l.getD 1 0) (l.getD 2 0)
  else .error (1,1)
theorem bm (m:Net) (l:List Nat):Vbmiai.line m l=lineW m (Vbmiai.wordsOf l):=by
 unfold Vbmiai.line lineW
 cases Vbmiai.wordsOf l <;> rfl
theorem jT (bs:List (Nat×Nat)) (ws:List (List Nat)) (f:List Nat→Except Vbmiai.Fault Net):Vbmiai.counted bs ws f=if ws.length≠bs.length then .error (2,0) else if iX 2 bs (ws.map fK)=0 then f (ws.map fun w=>(fK w).toNat) else .error (3,iX 2 bs (ws.map fK)):=by
 unfold Vbmiai.counted
 by_cases h:ws.length≠bs.length
 ·rw[if_pos h,if_pos h]
 ·rw[if_neg h,if_neg h,Dq bs ws 2 (by decide) (by omega)]
  by_cases q:iX 2 bs (ws.map fK)=0
  ·rw[if_pos q,if_pos q]
  ·rw[if_neg q,if_neg q]
theorem WF.addJunction {m k:Net} (W:WF m) {j z:Nat} (hj:1≤j∧j≤99) (hz:z≤1000000) (h:Vbmiai.addJunction m j z = .ok k):WF k:=by
 unfold Vbmiai.addJunction at h
 split at h
 ·cases h
 ·rename_i h1
  split at h
  ·cases h
  ·rename_i h2
   cases h
   exact W.junction hj hz (by simpa using h1) (by unfold Vbmiai.JUNCTIONS at h2;omega)
theorem WF.addRoad {m k:Net} (W:WF m) {n a b long ways:Nat} (hn:1≤n∧n≤99) (hl:1≤long∧long≤1000000) (hw:1≤ways∧ways≤2) (h:Vbmiai.addRoad m n a b long ways = .ok k):WF k:=by
 unfold Vbmiai.addRoad at h
 split at h
 ·cases h
 ·rename_i h1
  split at h
  ·cases h
  ·rename_i h2
   split at h
   ·cases h
   ·rename_i h3
    split at h
    ·cases h
    ·rename_i h4
     split at h
     ·cases h
     ·rename_i h5
      cases h
      exact W.road hn (by simpa using h1) (by simpa using h2) (by simpa using h3) h4 hl hw (by unfold Vbmiai.ROADS at h5;omega)
theorem WF.addSpeed {m k:Net} (W:WF m) {g u ul d dl:Nat} (hg:g≤10000∧u≤1000∧ul≤1000∧d≤1000∧dl≤1000) (h:Vbmiai.addSpeed m g u ul d dl = .ok k):WF k:=by
 unfold Vbmiai.addSpeed at h
 split at h
 ·cases h
 ·split at h
  ·cases h
  ·rename_i h2
   cases h
   exact W.speed hg (by unfold Vbmiai.SPEEDS at h2;omega)
theorem WF.addClosing {m k:Net} (W:WF m) {n lo hi:Nat} (hn:1≤n∧n≤99) (hh:hi≤100000) (h:Vbmiai.addClosing m n lo hi = .ok k):WF k:=by
 unfold Vbmiai.addClosing at h
 split at h
 ·cases h
 ·split at h
  ·cases h
  ·rename_i h1
   split at h
   ·cases h
   ·rename_i h2
    cases h
    exact W.closing hn ⟨by omega,hh⟩ (by unfold Vbmiai.CLOSINGS at h2;omega)
theorem uE {bs:List (Nat×Nat)}{ws:List (List Nat)} (hl:¬ ws.length≠bs.length) (h:iX 2 bs (ws.map fK)=0) (i:Nat) (b:Nat×Nat) (hb:bs[i]? = some b):b.1≤(ws.map fun w=>(fK w).toNat).getD i 0∧(ws.map fun w=>(fK w).toNat).getD i 0≤b.2:=by
 have hi:i<ws.length:=by
  have:=(List.getElem?_eq_some_iff.mp hb).1
  omega
 have h1:=Cl bs (ws.map fK) 2 (by decide) h i b (fK ws[i]) hb (by rw[List.getElem?_map,List.getElem?_eq_getElem hi];rfl)
 have e:(ws.map fun w=>(fK w).toNat).getD i 0=(fK ws[i]).toNat:=by
  rw[List.getD_eq_getElem?_getD,List.getElem?_map,List.getElem?_eq_getElem hi]
  rfl
 rw[e]
 omega
theorem WF.lineW {m k:Net} (W:WF m) {ws:List (List Nat)} (h:lineW m ws = .ok k):WF k:=by
 unfold Mr.lineW at h
 split at h
 ·cases h
  exact W
 ·rename_i w ws
  split at h
  ·cases h
   exact W
  ·split at h
   ·rw[jT] at h
    split at h
    ·cases h
    ·rename_i hl
     split at h
     ·rename_i ho
      have a:=uE hl ho
      exact W.addJunction (a 0 _ rfl) (a 1 _ rfl).2 h
     ·cases h
   ·split at h
    ·rw[jT] at h
     split at h
     ·cases h
     ·rename_i hl
      split at h
      ·rename_i ho
       have a:=uE hl ho
       exact W.addRoad (a 0 _ rfl) (a 3 _ rfl) (a 4 _ rfl) h
      ·cases h
    ·split at h
     ·rw[jT] at h
      split at h
      ·cases h
      ·rename_i hl
       split at h
       ·rename_i ho
        have a:=uE hl ho
        exact W.addSpeed ⟨(a 0 _ rfl).2,(a 1 _ rfl).2,(a 2 _ rfl).2,(a 3 _ rfl).2,(a 4 _ rfl).2⟩ h
       ·cases h
     ·split at h
      ·rw[jT] at h
       split at h
       ·cases h
       ·rename_i hl
        split at h
        ·rename_i ho
         have a:=uE hl ho
         exact W.addClosing (a 0 _ rfl) (a 2 _ rfl).2 h
        ·cases h
      ·cases h
end Mr
namespace Mr
open Vbmiai (Net State)
theorem Vx {a:List Int} (h:a.length=0):a=[]:=List.eq_nil_of_length_eq_zero h
theorem Su {α:Type}{a:List α} (h:a.length=1):∃ x,a=[x]:=by
 match a,h with
 | [x],_=>exact ⟨x,rfl⟩
theorem jx {α:Type}{a:List α} (h:a.length=2):∃ x y,a=[x,y]:=by
 match a,h with
 | [x,y],_=>exact ⟨x,y,rfl⟩
theorem Zm {α:Type}{a:List α} (h:a.length=3):∃ x y z,a=[x,y,z]:=by
 match a,h with
 | [x,y,z],_=>exact ⟨x,y,z,rfl⟩
theorem Ss {α:Type}{a:List α} (h:a.length=4):∃ x y z w,a=[x,y,z,w]:=by
 match a,h with
 | [x,y,z,w],_=>exact ⟨x,y,z,w,rfl⟩
inductive Form:List (List Int)→Prop
 | read (t:List Int):Form [[0],t]
 | look (t:List Int):Form [[1],t]
 | write:Form [[2]]
 | undo:Form [[3]]
 | close (n lo hi:Int):Form [[4,n,lo,hi]]
 | free (n:Int):Form [[5,n]]
 | road (n l:Int):Form [[6,n,l]]
 | times (a t l:Int):Form [[7,a,t,l]]
 | route (a b t l:Int):Form [[8,a,b,t,l]]
 | check (a t l:Int) (r:List Int):Form [[9,a,t,l],r]
 | table (a t l:Int) (r:List Int):Form [[10,a,t,l],r]
 | without (n a t l:Int):Form [[11,n,a,t,l]]
 | needed (a l:Int):Form [[12,a,l]]
 | round (a b t s:Int):Form [[13,a,b,t,s]]
 | within (a t m l:Int):Form [[14,a,t,m,l]]
 | ramp (x m a b:Int) (h:List Int):Form [[15,x,m,a,b],h]
 | begins (n t l w:Int):Form [[16,n,t,l,w]]
 | net:Form [[17]]
theorem bb {c:List (List Int)} (h:PyFlat.okCall PyVbmiai.shape c):Form c:=by
 obtain ⟨p,a,xs,rfl,hs⟩:=h
 unfold PyVbmiai.shape at hs
 by_cases h0:p=0
 ·rw[if_pos h0] at hs;subst h0;obtain ⟨h1,h2⟩:=Prod.mk.inj (Option.some.inj hs);obtain ⟨r,rfl⟩:=Su h2.symm;rw[Vx h1.symm];exact .read r
 rw[if_neg h0] at hs
 by_cases h0:p=1
 ·rw[if_pos h0] at hs;subst h0;obtain ⟨h1,h2⟩:=Prod.mk.inj (Option.some.inj hs);obtain ⟨r,rfl⟩:=Su h2.symm;rw[Vx h1.symm];exact .look r
 rw[if_neg h0] at hs
 by_cases h0:p=2
 ·rw[if_pos h0] at hs;subst h0;obtain ⟨h1,h2⟩:=Prod.mk.inj (Option.some.inj hs);rw[Vx h1.symm,List.eq_nil_of_length_eq_zero h2.symm];exact .write
 rw[if_neg h0] at hs
 by_cases h0:p=3
 ·rw[if_pos h0] at hs;subst h0;obtain ⟨h1,h2⟩:=Prod.mk.inj (Option.some.inj hs);rw[Vx h1.symm,List.eq_nil_of_length_eq_zero h2.symm];exact .undo
 rw[if_neg h0] at hs
 by_cases h0:p=4
 ·rw[if_pos h0] at hs;subst h0;obtain ⟨h1,h2⟩:=Prod.mk.inj (Option.some.inj hs);obtain ⟨x,y,z,rfl⟩:=Zm h1.symm;rw[List.eq_nil_of_length_eq_zero h2.symm];exact .close x y z
 rw[if_neg h0] at hs
 by_cases h0:p=5
 ·rw[if_pos h0] at hs;subst h0;obtain ⟨h1,h2⟩:=Prod.mk.inj (Option.some.inj hs);obtain ⟨x,rfl⟩:=Su h1.symm;rw[List.eq_nil_of_length_eq_zero h2.symm];exact .free x
 rw[if_neg h0] at hs
 by_cases h0:p=6
 ·rw[if_pos h0] at hs;subst h0;obtain ⟨h1,h2⟩:=Prod.mk.inj (Option.some.inj hs);obtain ⟨x,y,rfl⟩:=jx h1.symm;rw[List.eq_nil_of_length_eq_zero h2.symm];exact .road x y
 rw[if_neg h0] at hs
 by_cases h0:p=7
 ·rw[if_pos h0] at hs;subst h0;obtain ⟨h1,h2⟩:=Prod.mk.inj (Option.some.inj hs);obtain ⟨x,y,z,rfl⟩:=Zm h1.symm;rw[List.eq_nil_of_length_eq_zero h2.symm];exact .times x y z
 rw[if_neg h0] at hs
 by_cases h0:p=8
 ·rw[if_pos h0] at hs;subst h0;obtain ⟨h1,h2⟩:=Prod.mk.inj (Option.some.inj hs);obtain ⟨x,y,z,w,rfl⟩:=Ss h1.symm;rw[List.eq_nil_of_length_eq_zero h2.symm];exact .route x y z w
 rw[if_neg h0] at hs
 by_cases h0:p=9
 ·rw[if_pos h0] at hs;subst h0;obtain ⟨h1,h2⟩:=Prod.mk.inj (Option.some.inj hs);obtain ⟨r,rfl⟩:=Su h2.symm;obtain ⟨x,y,z,rfl⟩:=Zm h1.symm;exact .check x y z r
 rw[if_neg h0] at hs
 by_cases h0:p=10
 ·rw[if_pos h0] at hs;subst h0;obtain ⟨h1,h2⟩:=Prod.mk.inj (Option.some.inj hs);obtain ⟨r,rfl⟩:=Su h2.symm;obtain ⟨x,y,z,rfl⟩:=Zm h1.symm;exact .table x y z r
 rw[if_neg h0] at hs
 by_cases h0:p=11
 ·rw[if_pos h0] at hs;subst h0;obtain ⟨h1,h2⟩:=Prod.mk.inj (Option.some.inj hs);obtain ⟨x,y,z,w,rfl⟩:=Ss h1.symm;rw[List.eq_nil_of_length_eq_zero h2.symm];exact .without x y z w
 rw[if_neg h0] at hs
 by_cases h0:p=12
 ·rw[if_pos h0] at hs;subst h0;obtain ⟨h1,h2⟩:=Prod.mk.inj (Option.some.inj hs);obtain ⟨x,y,rfl⟩:=jx h1.symm;rw[List.eq_nil_of_length_eq_zero h2.symm];exact .needed x y
 rw[if_neg h0] at hs
 by_cases h0:p=13
 ·rw[if_pos h0] at hs;subst h0;obtain ⟨h1,h2⟩:=Prod.mk.inj (Option.some.inj hs);obtain ⟨x,y,z,w,rfl⟩:=Ss h1.symm;rw[List.eq_nil_of_length_eq_zero h2.symm];exact .round x y z w
 rw[if_neg h0] at hs
 by_cases h0:p=14
 ·rw[if_pos h0] at hs;subst h0;obtain ⟨h1,h2⟩:=Prod.mk.inj (Option.some.inj hs);obtain ⟨x,y,z,w,rfl⟩:=Ss h1.symm;rw[List.eq_nil_of_length_eq_zero h2.symm];exact .within x y z w
 rw[if_neg h0] at hs
 by_cases h0:p=15
 ·rw[if_pos h0] at hs;subst h0;obtain ⟨h1,h2⟩:=Prod.mk.inj (Option.some.inj hs);obtain ⟨r,rfl⟩:=Su h2.symm;obtain ⟨x,y,z,w,rfl⟩:=Ss h1.symm;exact .ramp x y z w r
 rw[if_neg h0] at hs
 by_cases h0:p=16
 ·rw[if_pos h0] at hs;subst h0;obtain ⟨h1,h2⟩:=Prod.mk.inj (Option.some.inj hs);obtain ⟨x,y,z,w,rfl⟩:=Ss h1.symm;rw[List.eq_nil_of_length_eq_zero h2.symm];exact .begins x y z w
 rw[if_neg h0] at hs
 by_cases h0:p=17
 ·rw[if_pos h0] at hs;subst h0;obtain ⟨h1,h2⟩:=Prod.mk.inj (Option.some.inj hs);rw[Vx h1.symm,List.eq_nil_of_length_eq_zero h2.symm];exact .net
 rw[if_neg h0] at hs
 cases hs
theorem Form.whole {c:List (List Int)} (h:Form c):PyVbmiai.whole c=c:=by cases h <;> rfl
theorem Hu {α:Type}{f:α→α}:∀ {l:List α},(∀ x ∈ l,f x=x)→l.map f=l
 | [],_=>rfl
 | x :: l,h=>by rw[List.map_cons,h x (by simp),Hu fun y hy=>h y (List.mem_cons_of_mem _ hy)]
structure kj (l:List Int) (cs:List (List (List Int))):Prop where
 put:l=PyFlat.put cs
 ok:∀ c ∈ cs,PyFlat.okCall PyVbmiai.shape c
 form:∀ c ∈ cs,Form c
 most:cs.length≤400
 ans:PyVbmiai.answers l=PyFlat.told (PyFlat.played Vbmiai.stepRows Vbmiai.start cs)
theorem Yq {l:List Int} (h:PyVbmiai.answers_asked l=true):∃ cs,kj l cs:=by
 unfold PyVbmiai.answers_asked at h
 cases e:PyVbmiai.calls l with
 | none=>
  rw[e] at h
  cases h
 | some ds=>
  rw[e] at h
  dsimp only at h
  unfold PyVbmiai.calls at e
  cases q:PyFlat.calls PyVbmiai.shape l.length l with
  | none=>
   rw[q] at e
   cases e
  | some cs=>
   obtain ⟨h1,h2⟩:=PyFlat.put_calls l.length l cs q
   have hf:∀ c ∈ cs,Form c:=fun c hc=>bb (h2 c hc)
   have hm:cs.map PyVbmiai.whole=cs:=Hu fun c hc=>(hf c hc).whole
   rw[q] at e
   have e':cs.map PyVbmiai.whole=ds:=Option.some.inj e
   rw[hm] at e'
   subst e'
   rw[Bool.and_eq_true] at h
   refine ⟨cs,h1,h2,hf,by simpa [PyFlat.atMost] using h.1,?_⟩
   unfold PyVbmiai.answers PyVbmiai.calls
   rw[q]
   dsimp only
   rw[hm]
   rfl
def kF (c:List (List Int)):List Int:=c.headD [] |>.tail |>.append (c.tail.flatten)
def Rg (c:List (List Int)):Int:=(c.headD []).headD 0
def after (s:State) (cs:List (List (List Int))):State:=cs.foldl (fun s c=>(Vbmiai.stepRows s c).1) s
theorem tF:∀ (cs:List (List (List Int))) (s:State) (c:List (List Int)),PyFlat.played Vbmiai.stepRows s (cs ++ [c])=PyFlat.played Vbmiai.stepRows s cs ++ [(Vbmiai.stepRows (after s cs) c).2]
 | [],s,c=>rfl
 | d :: cs,s,c=>by
  show _ :: PyFlat.played Vbmiai.stepRows _ (cs ++ [c])=_
  rw[tF cs]
  rfl
theorem Pl (cs:List (List (List Int))) (s:State) (c:List (List Int)):after s (cs ++ [c])=(Vbmiai.stepRows (after s cs) c).1:=by
 unfold after
 rw[List.foldl_append]
 rfl
theorem Tp (as:List (List Int)) (a:List Int):PyFlat.told (as ++ [a])=PyFlat.told as ++ ((a.length:Int) :: a):=by
 unfold PyFlat.told
 rw[List.flatMap_append]
 simp
theorem Yj (cs:List (List (List Int))) (c:List (List Int)):PyFlat.put (cs ++ [c])=PyFlat.put cs ++ PyFlat.put1 c:=by
 induction cs with
 | nil=>
  show PyFlat.put1 c ++ []=_
  rw[List.append_nil]
  rfl
 | cons d cs ih=>
  show PyFlat.put1 d ++ PyFlat.put (cs ++ [c])=(PyFlat.put1 d ++ PyFlat.put cs) ++ _
  rw[ih,List.append_assoc]
theorem Uo {α:Type} (x:α) (past:List α) (h:past.length≤20):((x :: past).take 20).reverse=if 20<(past.reverse ++ [x]).length then (past.reverse ++ [x]).tail else past.reverse ++ [x]:=by
 by_cases q:past.length=20
 ·rw[if_pos (by simp;omega)]
  have e:(x :: past).take 20=(x :: past).dropLast:=by
   rw[List.dropLast_eq_take]
   simp[q]
  rw[e]
  have e2:past.reverse ++ [x]=(x :: past).reverse:=by simp
  rw[e2]
  generalize x :: past=l
  rw[←List.reverse_reverse l]
  generalize l.reverse=r
  rw[List.reverse_reverse]
  cases r with
  | nil=>rfl
  | cons y r=>simp
 ·rw[if_neg (by simp;omega),List.take_of_length_le (by simp;omega)]
  simp
theorem Hl:∀ n,n<10→(Nat.digitChar n).toNat=48 + n:=by decide
theorem Hy:∀ (f n:Nat),n<10 ^ (f + 1)→Vbmiai.digits (f + 1) n=(Nat.toDigits 10 n).map Char.toNat
 | f,n,h=>by
  unfold Vbmiai.digits
  by_cases q:n<10
  ·rw[if_pos q,Nat.toDigits_of_lt_base q]
   show _=[(Nat.digitChar n).toNat]
   rw[Hl n q]
  ·rw[if_neg q]
   cases f with
   | zero=>omega
   | succ f=>
    have hm:n % 10<10:=Nat.mod_lt _ (by decide)
    have hd:n / 10<10 ^ (f + 1):=by
     refine (Nat.div_lt_iff_lt_mul (by decide)).mpr ?_
     rw[←Nat.pow_succ]
     exact h
    have t:Nat.toDigits 10 (n / 10) ++ Nat.toDigits 10 (n % 10)=Nat.toDigits 10 (10 * (n / 10) + n % 10):=Nat.toDigits_append_toDigits (by decide) (by omega) hm
    have e:10 * (n / 10) + n % 10=n:=Nat.div_add_mod n 10
    rw[e] at t
    rw[←t,List.map_append,Hy f (n / 10) hd,Nat.toDigits_of_lt_base hm]
    show _ ++ [48 + n % 10]=_ ++ [(Nat.digitChar (n % 10)).toNat]
    rw[Hl _ hm]
theorem Yk {n:Nat} (h:n<10 ^ 20):Vbmiai.shownNat n=(Nat.toDigits 10 n).map Char.toNat:=Hy 19 n h
theorem De:∀ (f n:Nat),(Vbmiai.digits f n).length≤f
 | 0,_=>Nat.le_refl _
 | f + 1,n=>by
  unfold Vbmiai.digits
  split
  ·simp
  ·have:=De f (n / 10)
   simp
   omega
theorem Hh (n:Nat):(Vbmiai.shownNat n).length≤20:=De 20 n
theorem vR:∀ (ws:List (List Nat)),(Vbmiai.spaced ws).length≤(ws.map fun w=>w.length + 1).sum
 | []=>Nat.le_refl _
 | [w]=>by
  show w.length≤([w.length + 1]:List Nat).sum
  simp
 | w :: v :: r=>by
  have:=vR (v :: r)
  show (w ++ (32 :: Vbmiai.spaced (v :: r))).length≤_
  rw[List.length_append,List.length_cons,List.map_cons,List.sum_cons]
  omega
theorem wJ {α:Type} (f:α→Nat) (b:Nat):∀ (l:List α),(∀ x ∈ l,f x≤b)→(l.map f).sum≤l.length * b
 | [],_=>by simp
 | x :: l,h=>by
  have h1:=h x (by simp)
  have h2:=wJ f b l fun y hy=>h y (List.mem_cons_of_mem _ hy)
  rw[List.map_cons,List.sum_cons,List.length_cons,Nat.add_mul,Nat.one_mul]
  omega
theorem lM (w:String) (l:List Nat) (hw:(Vbmiai.text w).length≤8) (hl:l.length≤5):(Vbmiai.wordLine w l).length≤120:=by
 unfold Vbmiai.wordLine
 have h1:=vR (Vbmiai.text w :: l.map Vbmiai.shownNat)
 have h2:=wJ (fun w:List Nat=>w.length + 1) 21 (l.map Vbmiai.shownNat) fun x hx=>by
  obtain ⟨n,_,rfl⟩:=List.mem_map.mp hx
  have:=Hh n
  omega
 rw[List.map_cons,List.sum_cons] at h1
 rw[List.length_map] at h2
 have h3:l.length * 21≤5 * 21:=Nat.mul_le_mul_right _ hl
 omega
theorem Cp {α:Type} (f:α→List Nat) (b:Nat) (l:List α) (h:∀ x ∈ l,(f x).length≤b):(l.flatMap f).length≤l.length * b:=by
 rw[List.length_flatMap]
 exact wJ (fun x=>(f x).length) b l h
def kH (m:Net):List (List Nat):=((m.junctions.map fun x=>Vbmiai.wordLine "junction" [x.number,x.height]) ++ ((m.roads.map fun r=>Vbmiai.wordLine "road" [r.number,r.a,r.b,r.long,r.ways]) ++
 ((m.speeds.map fun s=>Vbmiai.wordLine "speed" [s.grade,s.up,s.upLoaded,s.down,s.downLoaded]) ++ m.closings.map fun c=>Vbmiai.wordLine "closed" [c.road,c.lo,c.hi])))
theorem vN (m:Net):Vbmiai.written m=(kH m).flatMap fun l=>l ++ [10]:=rfl
theorem Kv (m:Net):∀ l ∈ kH m,l.length≤120:=by
 intro l hl
 unfold kH at hl
 rcases List.mem_append.mp hl with h | h
 ·obtain ⟨x,_,rfl⟩:=List.mem_map.mp h
  exact lM _ _ (by decide) (by simp)
 ·rcases List.mem_append.mp h with h | h
  ·obtain ⟨x,_,rfl⟩:=List.mem_map.mp h
   exact lM _ _ (by decide) (by simp)
  ·rcases List.mem_append.mp h with h | h
   ·obtain ⟨x,_,rfl⟩:=List.mem_map.mp h
    exact lM _ _ (by decide) (by simp)
   ·obtain ⟨x,_,rfl⟩:=List.mem_map.mp h
    exact lM _ _ (by decide) (by simp)
theorem WF.lines {m:Net} (W:WF m):(kH m).length≤56:=by
 unfold kH
 have h1:=W.jlen
 have h2:=W.rlen
 have h3:=W.slen
 have h4:=W.clen
 simp
 omega
theorem WF.written_len {m:Net} (W:WF m):(Vbmiai.written m).length≤6776:=by
 rw[vN]
 refine Nat.le_trans (Cp _ 121 _ fun l hl=>?_) (Nat.mul_le_mul_right 121 W.lines)
 have:=Kv m l hl
 simp
 omega
end Mr
namespace Mr
open Vbmiai (Step Surface)
def xS (s:Surface):List Step:=(Vbmiai.cells s).flatMap fun x=>((Vbmiai.cells s).filter fun y=>Vbmiai.beside s x y).map fun y=>⟨0,x,y,1⟩
def lf:Step→Nat→Nat:=fun _ u=>u + 1
theorem mem_cells {s:Surface}{c:Nat}:c ∈ Vbmiai.cells s ↔ c<s.heights.length:=by
 unfold Vbmiai.cells
 exact List.mem_range
theorem mem_cellSteps {s:Surface}{t:Step}:t ∈ xS s ↔ t=⟨0,t.from_,t.to,1⟩∧t.from_<s.heights.length∧t.to<s.heights.length∧Vbmiai.beside s t.from_ t.to=true:=by
 unfold xS
 rw[List.mem_flatMap]
 constructor
 ·rintro ⟨x,hx,h⟩
  obtain ⟨y,hy,rfl⟩:=List.mem_map.mp h
  have hy':=List.mem_filter.mp hy
  exact ⟨rfl,mem_cells.mp hx,mem_cells.mp hy'.1,hy'.2⟩
 ·rintro ⟨h1,h2,h3,h4⟩
  exact ⟨t.from_,mem_cells.mpr h2,List.mem_map.mpr ⟨t.to,List.mem_filter.mpr ⟨mem_cells.mpr h3,h4⟩,h1.symm⟩⟩
theorem sL (s:Surface) (a b:Nat):Vbmiai.beside s a b=Vbmiai.beside s b a:=by
 unfold Vbmiai.beside
 rw[Nat.max_comm,Nat.min_comm]
 have e1:(a / s.nx == b / s.nx)=(b / s.nx == a / s.nx):=by
  rw[Bool.eq_iff_iff]
  simp
  exact ⟨Eq.symm,Eq.symm⟩
 rw[e1,Bool.or_comm (a + 1 == b),Bool.or_comm (a + s.nx == b)]
abbrev Lev (s:Surface) (a:Nat) (g:Nat→Option Nat):Prop:=Good (xS s) lf a 0 g
section
variable {s:Surface}{a:Nat}{g:Nat→Option Nat}
theorem Lev.closed' (G:Lev s a g) {x y u:Nat} (hx:x<s.heights.length) (hy:y<s.heights.length) (hb:Vbmiai.beside s x y=true) (hu:g x=some u):∃ v,g y=some v∧v≤u + 1 :=
 G.closed ⟨0,x,y,1⟩ (mem_cellSteps.mpr ⟨rfl,hx,hy,hb⟩) u hu
theorem Lev.told' (G:Lev s a g) {y v:Nat} (hy:y≠a) (hv:g y=some v):∃ x u,v=u + 1∧x<s.heights.length∧y<s.heights.length∧Vbmiai.beside s x y=true∧g x=some u:=by
 obtain ⟨t,ht,e,u,hu,hv'⟩:=G.told y v hy hv
 obtain ⟨_,h2,h3,h4⟩:=mem_cellSteps.mp ht
 subst e
 exact ⟨t.from_,u,hv'.symm,h2,h3,h4,hu⟩
theorem Lev.zero (G:Lev s a g) {y:Nat} (h:g y=some 0):y=a:=by
 by_cases e:y=a
 ·exact e
 ·obtain ⟨_,u,h1,_⟩:=G.told' e h
  omega
theorem Lev.dom (G:Lev s a g) (ha:a<s.heights.length) {y v:Nat} (h:g y=some v):y<s.heights.length:=by
 by_cases e:y=a
 ·rw[e]
  exact ha
 ·obtain ⟨_,_,_,_,h3,_⟩:=G.told' e h
  exact h3
def rE (s:Surface) (g:Nat→Option Nat) (k:Nat):List Nat:=(Vbmiai.cells s).filter fun c=>g c == some k
theorem qE (G:Lev s a g) (ha:a<s.heights.length) {c k:Nat}:c ∈ rE s g k ↔ g c=some k:=by
 unfold rE
 rw[List.mem_filter]
 constructor
 ·rintro ⟨_,h⟩
  simpa using h
 ·intro h
  exact ⟨mem_cells.mpr (G.dom ha h),by simpa using h⟩
theorem vM:∀ (l:List Nat) (a:Nat),l.Nodup→a ∈ l→l.filter (fun c=>decide (c=a))=[a]
 | [],a,_,h=>by cases h
 | x :: l,a,hn,h=>by
  obtain ⟨h1,h2⟩:=List.nodup_cons.mp hn
  by_cases e:x=a
  ·subst e
   have:l.filter (fun c=>decide (c=x))=[]:=by
    rw[List.filter_eq_nil_iff]
    intro y hy
    simp
    intro q
    subst q
    exact h1 hy
   simp[this]
  ·have ha:a ∈ l:=(List.mem_cons.mp h).resolve_left fun q=>e q.symm
   rw[List.filter_cons,if_neg (by simpa using e)]
   exact vM l a h2 ha
theorem Yl (G:Lev s a g) (ha:a<s.heights.length):rE s g 0=[a]:=by
 unfold rE
 rw[←vM (Vbmiai.cells s) a (by unfold Vbmiai.cells;exact List.nodup_range) (mem_cells.mpr ha)]
 refine List.filter_congr fun c _=>?_
 rw[Bool.eq_iff_iff]
 simp
 constructor
 ·intro h
  exact G.zero h
 ·intro h
  rw[h]
  exact G.start
theorem Xs (G:Lev s a g) (ha:a<s.heights.length) {k:Nat}{been:List Nat} (hb:∀ c,c ∈ been ↔ ∃ j,g c=some j∧j≤k) :
  ((Vbmiai.cells s).filter fun c=>!been.contains c && (rE s g k).any fun d=>Vbmiai.beside s d c)=rE s g (k + 1):=by
 refine List.filter_congr fun c hc=>?_
 have hc':=mem_cells.mp hc
 rw[Bool.eq_iff_iff,Bool.and_eq_true]
 constructor
 ·rintro ⟨h1,h2⟩
  obtain ⟨d,hd,hdc⟩:=List.any_eq_true.mp h2
  have gd:=(qE G ha).mp hd
  obtain ⟨v,hv,hle⟩:=G.closed' (G.dom ha gd) hc' hdc gd
  have nv:¬ v≤k:=fun q=>by
   have hm:c ∈ been:=(hb c).mpr ⟨v,hv,q⟩
   have:been.contains c=true:=List.contains_iff_mem.mpr hm
   rw[this] at h1
   cases h1
  have e:v=k + 1:=by omega
  rw[hv,e]
  exact beq_self_eq_true _
 ·intro h
  have hv:g c=some (k + 1):=by simpa using h
  have nc:c≠a:=fun q=>by
   rw[q,G.start] at hv
   cases hv
  obtain ⟨x,u,h1,h2,h3,h4,h5⟩:=G.told' nc hv
  have e:u=k:=by omega
  subst e
  refine ⟨?_,List.any_eq_true.mpr ⟨x,(qE G ha).mpr h5,h4⟩⟩
  cases q:been.contains c with
  | false=>rfl
  | true=>
   obtain ⟨j,hj,hjk⟩:=(hb c).mp (List.contains_iff_mem.mp q)
   rw[hv] at hj
   cases hj
   omega
theorem Cf (G:Lev s a g) (ha:a<s.heights.length) {k:Nat}{c:Nat} (h:g c=some (k + 1)):∃ d,g d=some k∧Vbmiai.beside s d c=true:=by
 have nc:c≠a:=fun q=>by
  rw[q,G.start] at h
  cases h
 obtain ⟨x,u,h1,h2,h3,h4,h5⟩:=G.told' nc h
 have e:u=k:=by omega
 subst e
 exact ⟨x,h5,h4⟩
theorem Hv (G:Lev s a g) (ha:a<s.heights.length):∀ (f k:Nat) (been:List Nat),(∀ c,c ∈ been ↔ ∃ j,g c=some j∧j≤k) →
  Vbmiai.levels s f been (rE s g k)=((List.range' k f).map (rE s g)).takeWhile fun l=>!l.isEmpty
 | 0,k,been,_=>rfl
 | f + 1,k,been,hb=>by
  unfold Vbmiai.levels
  rw[List.range'_succ,List.map_cons,List.takeWhile_cons]
  by_cases e:(rE s g k).isEmpty=true
  ·rw[if_pos e,if_neg (by rw[e];decide)]
  ·have e':(rE s g k).isEmpty=false:=by simpa using e
   rw[if_neg e,if_pos (by rw[e'];rfl),Xs G ha hb]
   rw[Hv G ha f (k + 1) (been ++ rE s g (k + 1)) fun c=>?_]
   rw[List.mem_append,qE G ha,hb]
   constructor
   ·rintro (⟨j,h1,h2⟩ | h)
    ·exact ⟨j,h1,by omega⟩
    ·exact ⟨k + 1,h,Nat.le_refl _⟩
   ·rintro ⟨j,h1,h2⟩
    by_cases q:j≤k
    ·exact .inl ⟨j,h1,q⟩
    ·have:j=k + 1:=by omega
     subst this
     exact .inr h1
theorem Md (G:Lev s a g) (ha:a<s.heights.length):∀ (k:Nat) {c:Nat},g c=some k→∀ j,j≤k→∃ d,g d=some j
 | 0,c,h,j,hj=>by
  have:j=0:=by omega
  subst this
  exact ⟨c,h⟩
 | k + 1,c,h,j,hj=>by
  by_cases e:j=k + 1
  ·subst e
   exact ⟨c,h⟩
  ·obtain ⟨d,hd,_⟩:=Cf G ha h
   exact Md G ha k hd j (by omega)
theorem Jb (G:Lev s a g) (ha:a<s.heights.length) {k c:Nat} (h:g c=some k):k<s.heights.length:=by
 have key:∀ k c,g c=some k→k + 1≤((Vbmiai.cells s).filter (fV g (k + 1))).length:=by
  intro k
  induction k with
  | zero=>
   intro c hc
   have:=pF (p:=fun _=>false) (q:=fV g 1) (x:=c) (Vbmiai.cells s) (fun y _ h=>by simp at h) (mem_cells.mpr (G.dom ha hc)) rfl (by unfold fV;rw[hc];rfl)
   show 0 + 1≤((Vbmiai.cells s).filter (fV g 1)).length
   omega
  | succ k ih=>
   intro c hc
   obtain ⟨d,hd,_⟩:=Cf G ha hc
   have h1:=ih d hd
   have:=pF (p:=fV g (k + 1)) (q:=fV g (k + 2)) (x:=c) (Vbmiai.cells s) (fun y _ h=>by
    unfold fV at h ⊢
    cases q:g y with
    | none=>
     rw[q] at h
     cases h
    | some z=>
     rw[q] at h
     simp at h ⊢
     omega) (mem_cells.mpr (G.dom ha hc)) (by unfold fV;rw[hc];simp) (by unfold fV;rw[hc];simp)
   show k + 1 + 1≤((Vbmiai.cells s).filter (fV g (k + 2))).length
   omega
 have h1:=key k c h
 have h2:=List.length_filter_le (fV g (k + 1)) (Vbmiai.cells s)
 have h3:(Vbmiai.cells s).length=s.heights.length:=by
  unfold Vbmiai.cells
  exact List.length_range
 omega
theorem qZ (p:List Nat→Bool) (F:Nat→List Nat):∀ (f k n:Nat),n≤f→(∀ j,k≤j→j<k + n→p (F j)=true)→((List.range' k f).map F).takeWhile p=(List.range' k n).map F ++ ((List.range' (k + n) (f - n)).map F).takeWhile p
 | f,k,0,_,_=>by simp
 | 0,k,n + 1,h,_=>by omega
 | f + 1,k,n + 1,h,hp=>by
  rw[List.range'_succ,List.map_cons,List.takeWhile_cons,if_pos (hp k (Nat.le_refl _) (by omega)),List.range'_succ,List.map_cons,qZ p F f (k + 1) n (by omega) fun j h1 h2=>hp j (by omega) (by omega)]
  have e1:k + 1 + n=k + (n + 1):=by omega
  have e2:f + 1 - (n + 1)=f - n:=by omega
  rw[e1,e2]
  rfl
def nO (s:Surface) (g:Nat→Option Nat):Nat→Nat→List Nat
 | 0,_=>[]
 | k + 1,c=>match (rE s g k).find? fun d=>Vbmiai.beside s d c with
  | some d=>d :: nO s g k d
  | none=>[]
theorem zG (s:Surface) (g:Nat→Option Nat):∀ (k c:Nat),Vbmiai.rampBack s ((List.range' 0 k).map (rE s g)).reverse c=nO s g k c
 | 0,c=>rfl
 | k + 1,c=>by
  have e:(List.range' 0 (k + 1)).map (rE s g)=(List.range' 0 k).map (rE s g) ++ [rE s g k]:=by
   rw[List.range'_concat,List.map_append]
   simp
  rw[e,List.reverse_append]
  show Vbmiai.rampBack s (rE s g k :: _) c=_
  unfold Vbmiai.rampBack nO
  cases q:(rE s g k).find? fun d=>Vbmiai.beside s d c with
  | none=>rfl
  | some d=>
   dsimp only
   congr 1
   exact zG s g k d
theorem aj (G:Lev s a g) (ha:a<s.heights.length) (b:Nat):Vbmiai.ramp s a b=(g b).map fun k=>(nO s g k b).reverse ++ [b]:=by
 have el:Vbmiai.levelsFrom s a=((List.range' 0 (s.heights.length + 1)).map (rE s g)).takeWhile fun l=>!l.isEmpty:=by
  unfold Vbmiai.levelsFrom
  have h0:=Yl G ha
  have:=Hv G ha (s.heights.length + 1) 0 [a] fun c=>by
   constructor
   ·intro h
    have e:c=a:=by simpa using h
    rw[e]
    exact ⟨0,G.start,Nat.le_refl _⟩
   ·rintro ⟨j,h1,h2⟩
    have e:j=0:=by omega
    subst e
    rw[G.zero h1]
    simp
  rw[h0] at this
  exact this
 unfold Vbmiai.ramp
 dsimp only
 rw[el]
 cases e:g b with
 | none=>
  rw[if_neg]
  ·rfl
  ·intro h
   obtain ⟨l,hl,hb⟩:=List.any_eq_true.mp h
   have hl':=(List.takeWhile_sublist _).subset hl
   obtain ⟨k,_,rfl⟩:=List.mem_map.mp hl'
   have:=(qE G ha).mp (List.contains_iff_mem.mp hb)
   rw[e] at this
   cases this
 | some k=>
  have hk:=Jb G ha e
  have hne:∀ j,0≤j→j<0 + (k + 1)→(fun l:List Nat=>!l.isEmpty) (rE s g j)=true:=fun j _ hj=>by
   obtain ⟨d,hd⟩:=Md G ha k e j (by omega)
   have hm:=(qE G ha).mpr hd
   cases q:rE s g j with
   | nil=>
    rw[q] at hm
    cases hm
   | cons x l=>rfl
  have e1:=qZ (fun l=>!l.isEmpty) (rE s g) (s.heights.length + 1) 0 (k + 1) (by omega) hne
  have hmem:(rE s g k).contains b=true:=List.contains_iff_mem.mpr ((qE G ha).mpr e)
  rw[e1,if_pos]
  ·have e2:(List.range' 0 (k + 1)).map (rE s g)=(List.range' 0 k).map (rE s g) ++ [rE s g k]:=by
    rw[List.range'_concat,List.map_append]
    simp
   have e3:(((List.range' 0 (k + 1)).map (rE s g) ++ ((List.range' (0 + (k + 1)) (s.heights.length + 1 - (k + 1))).map (rE s g)).takeWhile fun l=>!l.isEmpty).takeWhile fun l=>!l.contains b)=(List.range' 0 k).map (rE s g):=by
    rw[e2,List.append_assoc,List.takeWhile_append_of_pos]
    ·show _ ++ List.takeWhile _ (rE s g k :: _)=_
     rw[List.takeWhile_cons,if_neg (by rw[hmem];decide),List.append_nil]
    ·intro l hl
     obtain ⟨j,hj,rfl⟩:=List.mem_map.mp hl
     have hj':=List.mem_range'.mp hj
     cases q:(rE s g j).contains b with
     | false=>rfl
     | true=>
      have:=(qE G ha).mp (List.contains_iff_mem.mp q)
      rw[e] at this
      cases this
      omega
   rw[e3,zG]
   rfl
  ·rw[List.any_append,Bool.or_eq_true]
   refine .inl (List.any_eq_true.mpr ⟨rE s g k,List.mem_map.mpr ⟨k,?_,rfl⟩,hmem⟩)
   rw[List.mem_range']
   exact ⟨k,by omega,by omega⟩
end
end Mr
namespace Mr
def All2 {α β:Type} (R:α→β→Prop):List α→List β→Prop
 | [],[]=>True
 | a :: as,b :: bs=>R a b∧All2 R as bs
 | _,_=>False
section
variable {α β:Type}{R S:α→β→Prop}
theorem All2.length:∀ {as:List α}{bs:List β},All2 R as bs→as.length=bs.length
 | [],[],_=>rfl
 | _ :: as,_ :: bs,h=>by rw[List.length_cons,List.length_cons,All2.length h.2]
theorem All2.imp (f:∀ a b,R a b→S a b):∀ {as:List α}{bs:List β},All2 R as bs→All2 S as bs
 | [],[],_=>trivial
 | _ :: _,_ :: _,h=>⟨f _ _ h.1,All2.imp f h.2⟩
theorem All2.get:∀ {as:List α}{bs:List β}{i:Nat}{a:α},All2 R as bs→as[i]? = some a→∃ b,bs[i]? = some b∧R a b
 | [],[],_,_,_,h=>by simp at h
 | a :: as,b :: bs,0,x,h,e=>by
  simp at e
  subst e
  exact ⟨b,rfl,h.1⟩
 | a :: as,b :: bs,i + 1,x,h,e=>by
  obtain ⟨y,h1,h2⟩:=All2.get (i:=i) (a:=x) h.2 (by simpa using e)
  exact ⟨y,by simpa using h1,h2⟩
theorem All2.get':∀ {as:List α}{bs:List β}{i:Nat}{b:β},All2 R as bs→bs[i]? = some b→∃ a,as[i]? = some a∧R a b
 | [],[],_,_,_,h=>by simp at h
 | a :: as,b :: bs,0,x,h,e=>by
  simp at e
  subst e
  exact ⟨a,rfl,h.1⟩
 | a :: as,b :: bs,i + 1,x,h,e=>by
  obtain ⟨y,h1,h2⟩:=All2.get' (i:=i) (b:=x) h.2 (by simpa using e)
  exact ⟨y,by simpa using h1,h2⟩
theorem All2.snoc:∀ {as:List α}{bs:List β}{a:α}{b:β},All2 R as bs→R a b→All2 R (as ++ [a]) (bs ++ [b])
 | [],[],_,_,_,h=>⟨h,trivial⟩
 | _ :: as,_ :: bs,_,_,h,k=>⟨h.1,All2.snoc h.2 k⟩
theorem All2.tail:∀ {as:List α}{bs:List β},All2 R as bs→All2 R as.tail bs.tail
 | [],[],_=>trivial
 | _ :: _,_ :: _,h=>h.2
theorem All2.reverse:∀ {as:List α}{bs:List β},All2 R as bs→All2 R as.reverse bs.reverse
 | [],[],_=>trivial
 | a :: as,b :: bs,h=>by
  rw[List.reverse_cons,List.reverse_cons]
  exact All2.snoc (All2.reverse h.2) h.1
end
theorem nQ {α:Type}{p:α→Bool}:∀ {l:List α}{i:Nat}{x:α},l[i]? = some x→(l.take i).find? p=none→p x=true→l.find? p=some x
 | [],_,_,h,_,_=>by simp at h
 | a :: l,0,x,h,_,hp=>by
  simp at h
  subst h
  rw[List.find?_cons,hp]
 | a :: l,i + 1,x,h,hn,hp=>by
  rw[List.take_succ_cons,List.find?_cons] at hn
  rw[List.find?_cons]
  cases e:p a with
  | true=>
   rw[e] at hn
   cases hn
  | false=>
   rw[e] at hn
   exact nQ (by simpa using h) hn hp
theorem cG {α:Type}:∀ {l:List α}{i:Nat}{x:α},l[i]? = some x→l.take (i + 1)=l.take i ++ [x]
 | [],i,x,h=>by simp at h
 | a :: l,0,x,h=>by
  have e:a=x:=Option.some.inj h
  subst e
  rfl
 | a :: l,i + 1,x,h=>by
  have ih:=cG (l:=l) (i:=i) (x:=x) h
  show a :: l.take (i + 1)=a :: l.take i ++ [x]
  rw[ih]
  rfl
theorem jS {α:Type}{p:α→Bool}{l:List α}{i:Nat}{x:α} (h:l[i]? = some x) (hn:(l.take i).find? p=none) (hp:p x=false):(l.take (i + 1)).find? p=none:=by
 rw[cG h,List.find?_append,hn]
 simp[hp]
theorem bF {α β:Type}{f:α→β}{l:List α}{i:Nat}{y:β} (h:(l.map f)[i]? = some y):∃ x,l[i]? = some x∧y=f x:=by
 rw[List.getElem?_map] at h
 cases e:l[i]? with
 | none=>
  rw[e] at h
  cases h
 | some x=>
  rw[e] at h
  exact ⟨x,rfl,(Option.some.inj h).symm⟩
theorem nV {α:Type}{p:α→Bool}{l:List α}{i:Nat}{x:α} (h:l[i]? = some x):(l.take (i + 1)).filter p=(l.take i).filter p ++ (if p x=true then [x] else []):=by
 rw[cG h,List.filter_append]
 congr 1
 rw[List.filter_cons]
 split <;> rfl
end Mr
namespace Mr
open Vbmiai (Net Step)
abbrev rD:=List (Nat×Nat)
def look (ks:rD) (j:Nat):Option Nat:=(ks.find? fun x=>x.1 == j).map (·.2)
def put (ks:rD) (j v:Nat):rD:=if ks.any (fun x=>x.1 == j)=true then ks.map (fun x=>if x.1=j then (x.1,v) else x) else ks ++ [(j,v)]
theorem fH (x:Nat×Nat) (ks:rD) (j:Nat):look (x :: ks) j=if x.1=j then some x.2 else look ks j:=by
 unfold look
 rw[List.find?_cons]
 by_cases e:x.1=j
 ·rw[if_pos e]
  simp[e]
 ·rw[if_neg e]
  have e':(x.1 == j)=false:=by simp[e]
  rw[e']
theorem Mh (ks:rD) (j:Nat):ks.any (fun x=>x.1 == j)=(look ks j).isSome:=by
 induction ks with
 | nil=>rfl
 | cons x ks ih=>
  rw[List.any_cons,fH,ih]
  by_cases e:x.1=j
  ·rw[if_pos e]
   simp[e]
  ·rw[if_neg e]
   simp[e]
theorem Xn (ks:rD) (j v i:Nat) (h:(look ks j).isSome=true):look (ks.map fun x=>if x.1=j then (x.1,v) else x) i=if i=j then some v else look ks i:=by
 induction ks with
 | nil=>cases h
 | cons x ks ih=>
  rw[List.map_cons,fH,fH]
  rw[fH] at h
  by_cases e:x.1=j
  ·rw[if_pos e]
   dsimp only
   by_cases q:i=j
   ·rw[if_pos (by omega),if_pos q]
   ·rw[if_neg (by omega),if_neg q,if_neg (by omega)]
    have key:∀ (l:rD),look (l.map fun x=>if x.1=j then (x.1,v) else x) i=look l i:=by
     intro l
     induction l with
     | nil=>rfl
     | cons y l ih2=>
      rw[List.map_cons,fH,fH,ih2]
      by_cases ey:y.1=j
      ·rw[if_pos ey,if_neg (by omega)]
       exact (if_neg (show ¬ y.1=i by omega)).symm
      ·rw[if_neg ey]
    exact key ks
  ·rw[if_neg e] at h ⊢
   by_cases q:x.1=i
   ·rw[if_pos q,if_pos q,if_neg (by omega)]
   ·rw[if_neg q,if_neg q,ih h]
theorem Vf (ks:rD) (j v i:Nat) (h:look ks j=none):look (ks ++ [(j,v)]) i=if i=j then some v else look ks i:=by
 induction ks with
 | nil=>
  show look [(j,v)] i=_
  rw[fH]
  by_cases q:i=j
  ·rw[if_pos q.symm,if_pos q]
  ·rw[if_neg (fun z=>q z.symm),if_neg q]
 | cons x ks ih=>
  rw[fH] at h
  by_cases e:x.1=j
  ·rw[if_pos e] at h
   cases h
  ·rw[if_neg e] at h
   rw[List.cons_append,fH,fH,ih h]
   by_cases q:x.1=i
   ·rw[if_pos q,if_pos q,if_neg (by omega)]
   ·rw[if_neg q,if_neg q]
theorem fZ (ks:rD) (j v i:Nat):look (put ks j v) i=if i=j then some v else look ks i:=by
 unfold put
 rw[Mh]
 cases e:look ks j with
 | none=>
  rw[if_neg (by simp)]
  exact Vf ks j v i e
 | some u=>
  rw[if_pos (by simp)]
  exact Xn ks j v i (by rw[e];rfl)
theorem Bd (ks:rD) (j v:Nat):(put ks j v).length=ks.length + (if look ks j=none then 1 else 0):=by
 unfold put
 rw[Mh]
 cases e:look ks j with
 | none=>simp
 | some u=>simp
structure Run (ss:List Step) (arr:Step→Nat→Nat) (js:List Nat) (a t0 T:Nat) (ks:rD):Prop where
 start:look ks a=some t0
 ge:∀ j v,look ks j=some v→t0≤v
 dom:∀ j v,look ks j=some v→j ∈ js
 told:∀ j v,j≠a→look ks j=some v→∃ s ∈ ss,s.to=j∧∃ u,look ks s.from_=some u∧arr s u≤v
 len:ks.length=(js.filter fun j=>(look ks j).isSome).length
 most:∀ j v,look ks j=some v→v≤T + 1000000 * ks.length
structure Oi (ss:List Step) (arr:Step→Nat→Nat) (js:List Nat) (a t0 T:Nat):Prop where
 ar:cr ss arr
 cap:∀ s ∈ ss,∀ u v,u≤v→T≤v→arr s u≤v + 1000000
 to:∀ s ∈ ss,s.to ∈ js
 nd:js.Nodup
 here:a ∈ js
 t0T:t0≤T
 ten:js.length≤10
theorem nG {js:List Nat}{j:Nat} (nd:js.Nodup) (hj:j ∈ js) {p q:Nat→Bool} (hp:p j=false) (hq:q j=true) (ho:∀ i,i≠j→p i=q i):(js.filter q).length=(js.filter p).length + 1:=by
 induction js with
 | nil=>cases hj
 | cons x js ih=>
  obtain ⟨h1,h2⟩:=List.nodup_cons.mp nd
  by_cases e:x=j
  ·subst e
   have:js.filter q=js.filter p:=List.filter_congr fun y hy=>(ho y fun z=>h1 (z ▸ hy)).symm
   rw[List.filter_cons,List.filter_cons,hp,hq,this]
   simp
  ·have hj':=(List.mem_cons.mp hj).resolve_left fun z=>e z.symm
   have ih':=ih h2 hj'
   rw[List.filter_cons,List.filter_cons,ho x e]
   by_cases q:q x=true
   ·rw[if_pos q,if_pos q,List.length_cons,List.length_cons,ih']
   ·rw[if_neg q,if_neg q,ih']
section
variable {ss:List Step}{arr:Step→Nat→Nat}{js:List Nat}{a t0 T:Nat}{ks:rD}
theorem Run.first (C:Oi ss arr js a t0 T):Run ss arr js a t0 T [(a,t0)]:=by
 have l:∀ j,look [(a,t0)] j=if a=j then some t0 else none:=fun j=>fH _ _ _
 refine ⟨by rw[l,if_pos rfl],fun j v h=>?_,fun j v h=>?_,fun j v hj h=>?_,?_,fun j v h=>?_⟩
 ·rw[l] at h
  split at h
  ·cases h
   exact Nat.le_refl _
  ·cases h
 ·rw[l] at h
  split at h
  ·rename_i e
   rw[←e]
   exact C.here
  ·cases h
 ·rw[l,if_neg fun z=>hj z.symm] at h
  cases h
 ·have:=nG C.nd C.here (p:=fun _=>false) (q:=fun j=>(look [(a,t0)] j).isSome) rfl (by rw[l,if_pos rfl];rfl) fun i hi=>by
   rw[l,if_neg fun z=>hi z.symm]
   rfl
  rw[this]
  simp
 ·rw[l] at h
  split at h
  ·cases h
   have:=C.t0T
   simp
   omega
  ·cases h
theorem Run.keys (C:Oi ss arr js a t0 T) (R:Run ss arr js a t0 T ks):ks.length≤10:=by
 rw[R.len]
 exact Nat.le_trans (List.length_filter_le _ _) C.ten
theorem Run.step (C:Oi ss arr js a t0 T) (R:Run ss arr js a t0 T ks) {s:Step}{u:Nat} (hs:s ∈ ss) (hu:look ks s.from_=some u) (hb:∀ v,look ks s.to=some v→arr s u<v):Run ss arr js a t0 T (put ks s.to (arr s u)):=by
 have pos:=C.ar.pos s hs u
 have hge:=R.ge _ _ hu
 have na:s.to≠a:=fun z=>by
  have:=hb t0 (by rw[z];exact R.start)
  omega
 refine ⟨?_,fun j v h=>?_,fun j v h=>?_,fun j v hj h=>?_,?_,fun j v h=>?_⟩
 ·rw[fZ,if_neg fun z=>na z.symm]
  exact R.start
 ·rw[fZ] at h
  split at h
  ·cases h
   omega
  ·exact R.ge j v h
 ·rw[fZ] at h
  split at h
  ·rename_i e
   rw[e]
   exact C.to s hs
  ·exact R.dom j v h
 ·
  have less:∀ i w,look ks i=some w→∃ w',look (put ks s.to (arr s u)) i=some w'∧w'≤w:=fun i w hw=>by
   rw[fZ]
   by_cases e:i=s.to
   ·rw[if_pos e]
    exact ⟨_,rfl,Nat.le_of_lt (hb w (by rw[←e];exact hw))⟩
   ·rw[if_neg e]
    exact ⟨w,hw,Nat.le_refl _⟩
  rw[fZ] at h
  split at h
  ·rename_i e
   cases h
   obtain ⟨w',h1,h2⟩:=less _ _ hu
   exact ⟨s,hs,e.symm,w',h1,C.ar.mono s _ _ h2⟩
  ·obtain ⟨s',hs',e',w,hw,hle⟩:=R.told j v hj h
   obtain ⟨w',h1,h2⟩:=less _ _ hw
   exact ⟨s',hs',e',w',h1,Nat.le_trans (C.ar.mono s' _ _ h2) hle⟩
 ·rw[Bd]
  cases e:look ks s.to with
  | none=>
   have:=nG C.nd (C.to s hs) (p:=fun j=>(look ks j).isSome) (q:=fun j=>(look (put ks s.to (arr s u)) j).isSome) (by rw[e];rfl) (by rw[fZ,if_pos rfl];rfl) fun i hi=>by
    rw[fZ,if_neg hi]
   rw[this,R.len]
   simp
  | some w=>
   have:(js.filter fun j=>(look (put ks s.to (arr s u)) j).isSome)=js.filter fun j=>(look ks j).isSome:=List.filter_congr fun i _=>by
    rw[fZ]
    by_cases q:i=s.to
    ·rw[if_pos q,q,e]
     rfl
    ·rw[if_neg q]
   rw[this,R.len]
   simp
 ·rw[fZ] at h
  have hl:=Bd ks s.to (arr s u)
  split at h
  ·cases h
   cases e:look ks s.to with
   | none=>
    rw[e,if_pos rfl] at hl
    have h1:=C.cap s hs u (T + 1000000 * ks.length) (R.most _ _ hu) (Nat.le_add_right _ _)
    rw[hl,Nat.mul_add,Nat.mul_one,←Nat.add_assoc]
    exact h1
   | some w=>
    have:=hb w e
    have:=R.most _ _ e
    rw[e] at hl
    simp at hl
    rw[hl]
    omega
  ·have:=R.most j v h
   rw[hl]
   split <;> omega
def cx (js:List Nat) (T:Nat) (ks:rD):Nat:=(js.map fun j=>match look ks j with
 | none=>T + 10000001
 | some v=>v).sum
theorem Xm (f g:Nat→Nat):∀ (l:List Nat),(∀ j ∈ l,f j≤g j)→(l.map f).sum≤(l.map g).sum
 | [],_=>Nat.le_refl _
 | x :: l,h=>by
  have h1:=h x (by simp)
  have h2:=Xm f g l fun j hj=>h j (List.mem_cons_of_mem _ hj)
  rw[List.map_cons,List.map_cons,List.sum_cons,List.sum_cons]
  omega
theorem Wq (f g:Nat→Nat):∀ (l:List Nat),(∀ j ∈ l,f j≤g j)→(∃ j ∈ l,f j<g j)→(l.map f).sum<(l.map g).sum
 | [],_,h=>by
  obtain ⟨_,h,_⟩:=h
  cases h
 | x :: l,h,hx=>by
  have h1:=h x (by simp)
  have hl:=fun j hj=>h j (List.mem_cons_of_mem x hj)
  have h2:=Xm f g l hl
  rw[List.map_cons,List.map_cons,List.sum_cons,List.sum_cons]
  obtain ⟨j,hj,lt⟩:=hx
  rcases List.mem_cons.mp hj with rfl | hj
  ·omega
  ·have:=Wq f g l hl ⟨j,hj,lt⟩
   omega
theorem Run.falls (C:Oi ss arr js a t0 T) (R:Run ss arr js a t0 T ks) {s:Step}{u:Nat} (hs:s ∈ ss) (hu:look ks s.from_=some u) (hb:∀ v,look ks s.to=some v→arr s u<v):cx js T (put ks s.to (arr s u))<cx js T ks:=by
 have R':=R.step C hs hu hb
 have k10:=R'.keys C
 have hv:=R'.most s.to (arr s u) (by rw[fZ,if_pos rfl])
 have key:∀ j,(match look (put ks s.to (arr s u)) j with | none=>T + 10000001 | some v=>v)≤(match look ks j with | none=>T + 10000001 | some v=>v)∧(j=s.to→(match look (put ks s.to (arr s u)) j with | none=>T + 10000001 | some v=>v)<(match look ks j with | none=>T + 10000001 | some v=>v)):=by
  intro j
  rw[fZ]
  by_cases e:j=s.to
  ·rw[if_pos e]
   subst e
   cases q:look ks s.to with
   | none=>
    show arr s u≤T + 10000001∧(s.to=s.to→arr s u<T + 10000001)
    omega
   | some v=>
    have:=hb v q
    show arr s u≤v∧(s.to=s.to→arr s u<v)
    omega
  ·rw[if_neg e]
   exact ⟨Nat.le_refl _,fun z=>absurd z e⟩
 exact Wq _ _ js (fun j _=>(key j).1) ⟨s.to,C.to s hs,(key s.to).2 rfl⟩
theorem Run.good (C:Oi ss arr js a t0 T) (R:Run ss arr js a t0 T ks) (h:∀ s ∈ ss,∀ u,look ks s.from_=some u→∃ v,look ks s.to=some v∧v≤arr s u):Good ss arr a t0 (look ks):=by
 refine ⟨R.start,h,fun j v hj hv=>?_⟩
 obtain ⟨s,hs,e,u,hu,hle⟩:=R.told j v hj hv
 obtain ⟨w,hw,hle'⟩:=h s hs u hu
 rw[e,hv] at hw
 cases hw
 exact ⟨s,hs,e,u,hu,Nat.le_antisymm hle hle'⟩
end
theorem WF.caps {m:Net} (W:WF m) {l:Bool}{a t0:Nat} (ha:Vbmiai.hasJunction m a=true):Oi (Vbmiai.stepsOf m l) (Vbmiai.arrives m) (m.junctions.map (·.number)) a t0 (max t0 100000) :=
 ⟨W.arr l,fun s hs u v h1 h2=>by
  have:=(W.step hs).2.1
  have hb:=Vh (m:=m) (road:=s.road) (f:=u) (k:=s.long) (B:=v) (fun c hc=>Nat.le_trans (W.cin c hc).2.2 (by omega)) h1
  show Vbmiai.begins m s.road u s.long + s.long≤v + 1000000
  omega,fun s hs=>(W.step hs).2.2.2.1,W.jnd,hasJunction_iff.mp ha,Nat.le_max_left _ _,by rw[List.length_map];exact W.jlen⟩
end Mr
namespace Mr
open Vbmiai (Step Surface)
def Zj (nx n c:Nat):List Nat:=(((if nx≤c then [c - nx] else []) ++ (if 0<c % nx then [c - 1] else [])) ++ (if c % nx<nx - 1 then [c + 1] else [])) ++ (if c + nx<n then [c + nx] else [])
def Zn (s:Surface) (d c:Nat):Bool:=decide (max (s.heights.getD d 0) (s.heights.getD c 0) - min (s.heights.getD d 0) (s.heights.getD c 0)≤s.most)
def lV (s:Surface) (c:Nat):List Nat:=(Zj s.nx s.heights.length c).filter fun d=>Zn s d c
theorem Lv {nx q r:Nat} (h:r<nx):(nx * q + r) / nx=q:=by rw[Nat.mul_add_div (by omega),Nat.div_eq_of_lt h,Nat.add_zero]
theorem Cy:∀ {l l':List Nat},l.Pairwise (· < ·)→l'.Pairwise (· < ·)→(∀ x,x ∈ l ↔ x ∈ l')→l=l'
 | [],[],_,_,_=>rfl
 | [],y :: l',_,_,h=>by
  have:=(h y).mpr (by simp)
  simp at this
 | x :: l,[],_,_,h=>by
  have:=(h x).mp (by simp)
  simp at this
 | x :: l,y :: l',h1,h2,h=>by
  obtain ⟨a1,a2⟩:=List.pairwise_cons.mp h1
  obtain ⟨b1,b2⟩:=List.pairwise_cons.mp h2
  have e:x=y:=by
   rcases List.mem_cons.mp ((h x).mp (by simp)) with q | q
   ·exact q
   ·rcases List.mem_cons.mp ((h y).mpr (by simp)) with p | p
    ·exact p.symm
    ·have:=b1 x q
     have:=a1 y p
     omega
  subst e
  congr 1
  refine Cy a2 b2 fun z=>?_
  constructor
  ·intro hz
   rcases List.mem_cons.mp ((h z).mp (List.mem_cons_of_mem _ hz)) with q | q
   ·have:=a1 z hz
    omega
   ·exact q
  ·intro hz
   rcases List.mem_cons.mp ((h z).mpr (List.mem_cons_of_mem _ hz)) with q | q
   ·have:=b1 z hz
    omega
   ·exact q
theorem kK {p:Prop} [Decidable p] {x y:Nat}:x ∈ (if p then [y] else []) ↔ p∧x=y:=by
 by_cases h:p
 ·simp[h]
 ·simp[h]
theorem Rp {nx n c d:Nat} (h0:0<nx) (hn:n % nx=0) (hc:c<n):d ∈ Zj nx n c ↔ d<n∧((d / nx == c / nx && (d + 1 == c || c + 1 == d)) || (d + nx == c || c + nx == d))=true:=by
 unfold Zj
 rw[List.mem_append,List.mem_append,List.mem_append,kK,kK,kK,kK]
 have ec:=Nat.div_add_mod c nx
 have hr:=Nat.mod_lt c h0
 have en:=Nat.div_add_mod n nx
 rw[hn,Nat.add_zero] at en
 generalize c / nx=q at ec ⊢
 generalize c % nx=r at ec hr ⊢
 generalize n / nx=N at en
 have hq:nx * q + nx≤n:=by
  have h1:q<N:=by
   have h2:nx * q<nx * N:=by omega
   exact Nat.lt_of_mul_lt_mul_left h2
  have h3:nx * (q + 1)≤nx * N:=Nat.mul_le_mul_left nx h1
  rw[Nat.mul_add,Nat.mul_one] at h3
  omega
 rw[Bool.or_eq_true,Bool.or_eq_true,Bool.and_eq_true,Bool.or_eq_true,beq_iff_eq,beq_iff_eq,beq_iff_eq,beq_iff_eq,beq_iff_eq]
 constructor
 ·rintro (((⟨h1,rfl⟩ | ⟨h1,rfl⟩) | ⟨h1,rfl⟩) | ⟨h1,rfl⟩)
  ·exact ⟨by omega,.inr (.inl (by omega))⟩
  ·refine ⟨by omega,.inl ⟨?_,.inl (by omega)⟩⟩
   have:c - 1=nx * q + (r - 1):=by omega
   rw[this]
   exact Lv (by omega)
  ·refine ⟨by omega,.inl ⟨?_,.inr rfl⟩⟩
   have:c + 1=nx * q + (r + 1):=by omega
   rw[this]
   exact Lv (by omega)
  ·exact ⟨h1,.inr (.inr rfl)⟩
 ·rintro ⟨hd,(⟨h1,h2 | h2⟩ | (h1 | h1))⟩
  ·refine .inl (.inl (.inr ⟨?_,by omega⟩))
   by_cases h:0<r
   ·exact h
   ·have:d / nx<q:=Nat.div_lt_of_lt_mul (by omega)
    omega
  ·refine .inl (.inr ⟨?_,by omega⟩)
   by_cases h:r<nx - 1
   ·exact h
   ·have e:d=nx * (q + 1):=by
     rw[Nat.mul_add,Nat.mul_one]
     omega
    rw[e,Nat.mul_div_cancel_left _ h0] at h1
    omega
  ·exact .inl (.inl (.inl ⟨by omega,by omega⟩))
  ·exact .inr ⟨by omega,by omega⟩
theorem Pd {nx n c:Nat} (h0:0<nx):(Zj nx n c).Pairwise (· < ·):=by
 unfold Zj
 have hr:=Nat.mod_lt c h0
 have hrc:c % nx≤c:=Nat.mod_le c nx
 generalize c % nx=r at hr hrc ⊢
 have one:∀ {p:Prop} [Decidable p] {y:Nat},(if p then [y] else []).Pairwise (· < ·):=by
  intro p _ y
  by_cases h:p <;> simp[h]
 refine List.pairwise_append.mpr ⟨List.pairwise_append.mpr ⟨List.pairwise_append.mpr ⟨one,one,?_⟩,one,?_⟩,one,?_⟩
 ·intro a ha b hb
  rw[kK] at ha hb
  omega
 ·intro a ha b hb
  rw[List.mem_append,kK,kK] at ha
  rw[kK] at hb
  omega
 ·intro a ha b hb
  rw[List.mem_append,List.mem_append,kK,kK,kK] at ha
  rw[kK] at hb
  omega
theorem Kn (n:Nat):(List.range n).Pairwise (· < ·):=List.pairwise_lt_range
theorem Hd {s:Surface}{c:Nat} (h0:0<s.nx) (hn:s.heights.length % s.nx=0) (hc:c<s.heights.length):lV s c=(Vbmiai.cells s).filter fun d=>Vbmiai.beside s d c:=by
 refine Cy ((Pd h0).filter _) ((Kn _).filter _) fun d=>?_
 unfold lV
 rw[List.mem_filter,List.mem_filter,Rp h0 hn hc,mem_cells]
 have e:Vbmiai.beside s d c=(((d / s.nx == c / s.nx && (d + 1 == c || c + 1 == d)) || (d + s.nx == c || c + s.nx == d)) && Zn s d c):=rfl
 rw[e,Bool.and_eq_true]
 exact and_assoc
theorem qG {s:Surface}{c d:Nat} (h0:0<s.nx) (hn:s.heights.length % s.nx=0) (hc:c<s.heights.length):d ∈ lV s c ↔ d<s.heights.length∧Vbmiai.beside s d c=true:=by
 rw[Hd h0 hn hc,List.mem_filter,mem_cells]
theorem Jk {p q:Nat→Bool} (l:List Nat):(l.filter p).find? q=(l.filter q).find? p:=by
 rw[List.find?_filter,List.find?_filter]
 congr 1
 funext a
 cases p a <;> cases q a <;> rfl
theorem Ue {s:Surface}{g:Nat→Option Nat}{c k:Nat} (h0:0<s.nx) (hn:s.heights.length % s.nx=0) (hc:c<s.heights.length):((rE s g k).find? fun d=>Vbmiai.beside s d c)=(lV s c).find? fun d=>g d == some k:=by
 rw[Hd h0 hn hc]
 unfold rE
 exact Jk _
structure Bfs (s:Surface) (a k:Nat) (F:List Nat) (ks:rD) (B:List Nat):Prop where
 start:look ks a=some 0
 top:∀ j v,look ks j=some v→v≤k + 1
 dom:∀ j v,look ks j=some v→j<s.heights.length
 told:∀ j v,j≠a→look ks j=some v→∃ x u,v=u + 1∧x<s.heights.length∧Vbmiai.beside s x j=true∧look ks x=some u
 len:ks.length=((List.range s.heights.length).filter fun j=>(look ks j).isSome).length
 bey:∀ x,x ∈ B ↔ look ks x=some (k + 1)
 lev:∀ x,x ∈ F ↔ look ks x=some k
 low:∀ x u,look ks x=some u→u<k→∀ y,y<s.heights.length→Vbmiai.beside s x y=true→∃ v,look ks y=some v∧v≤u + 1
theorem Bfs.add {s:Surface}{a k:Nat}{F:List Nat}{ks:rD}{B:List Nat} (b:Bfs s a k F ks B) {c d:Nat} (hc:c ∈ F) (hd:d<s.heights.length) (hb:Vbmiai.beside s d c=true) (hn:look ks d=none):Bfs s a k F (put ks d (k + 1)) (B ++ [d]):=by
 have lk:=fZ ks d (k + 1)
 have hc':=(b.lev c).mp hc
 refine ⟨?_,?_,?_,?_,?_,?_,?_,?_⟩
 ·rw[lk]
  split
  ·rename_i e
   rw[←e,b.start] at hn
   cases hn
  ·exact b.start
 ·intro j v h
  rw[lk] at h
  split at h
  ·cases h
   exact Nat.le_refl _
  ·exact b.top j v h
 ·intro j v h
  rw[lk] at h
  split at h
  ·rename_i e
   rw[e]
   exact hd
  ·exact b.dom j v h
 ·intro j v hj h
  rw[lk] at h
  split at h
  ·rename_i e
   cases h
   refine ⟨c,k,rfl,b.dom _ _ hc',by rw[e,sL];exact hb,?_⟩
   rw[lk]
   split
   ·rename_i e2
    rw[e2,hn] at hc'
    cases hc'
   ·exact hc'
  ·obtain ⟨x,u,h1,h2,h3,h4⟩:=b.told j v hj h
   refine ⟨x,u,h1,h2,h3,?_⟩
   rw[lk]
   split
   ·rename_i e2
    rw[e2,hn] at h4
    cases h4
   ·exact h4
 ·rw[Bd,if_pos hn,b.len]
  refine (nG List.nodup_range (j:=d) (by simpa using hd) (p:=fun j=>(look ks j).isSome) (q:=fun j=>(look (put ks d (k + 1)) j).isSome) (by rw[hn];rfl) (by rw[lk,if_pos rfl];rfl) fun i hi=>?_).symm
  rw[lk,if_neg hi]
 ·intro x
  rw[List.mem_append,List.mem_singleton,lk]
  by_cases e:x=d
  ·rw[if_pos e]
   exact ⟨fun _=>rfl,fun _=>.inr e⟩
  ·rw[if_neg e,b.bey x]
   exact ⟨fun h=>h.resolve_right e,.inl⟩
 ·intro x
  rw[lk]
  by_cases e:x=d
  ·rw[if_pos e,b.lev x,e,hn]
   constructor
   ·intro h
    cases h
   ·intro h
    injection h with h
    omega
  ·rw[if_neg e]
   exact b.lev x
 ·intro x u h hu y hy hxy
  rw[lk] at h
  split at h
  ·cases h
   omega
  ·obtain ⟨v,h1,h2⟩:=b.low x u h hu y hy hxy
   refine ⟨v,?_,h2⟩
   rw[lk]
   split
   ·rename_i e2
    rw[e2,hn] at h1
    cases h1
   ·exact h1
theorem Bfs.next {s:Surface}{a k:Nat}{F:List Nat}{ks:rD}{B:List Nat} (b:Bfs s a k F ks B) (h:∀ c ∈ F,∀ d,d<s.heights.length→Vbmiai.beside s d c=true→(look ks d).isSome=true):Bfs s a (k + 1) B ks []:=by
 refine ⟨b.start,fun j v q=>Nat.le_succ_of_le (b.top j v q),b.dom,b.told,b.len,fun x=>?_,b.bey,?_⟩
 ·constructor
  ·intro q
   cases q
  ·intro q
   have:=b.top x _ q
   omega
 ·intro x u hx hu y hy hxy
  by_cases e:u<k
  ·exact b.low x u hx e y hy hxy
  ·have eu:u=k:=by omega
   subst eu
   have:=h x ((b.lev x).mpr hx) y hy (by rw[sL];exact hxy)
   cases q:look ks y with
   | none=>
    rw[q] at this
    cases this
   | some v=>exact ⟨v,rfl,b.top y v q⟩
theorem Bfs.first {s:Surface}{a:Nat} (ha:a<s.heights.length):Bfs s a 0 [a] [(a,0)] []:=by
 have lk:∀ j,look [(a,0)] j=if a=j then some 0 else none:=fun j=>by
  rw[fH]
  rfl
 refine ⟨by rw[lk,if_pos rfl],?_,?_,?_,?_,?_,?_,?_⟩
 ·intro j v h
  rw[lk] at h
  split at h <;> cases h
  omega
 ·intro j v h
  rw[lk] at h
  split at h <;> cases h
  rename_i e
  rw[←e]
  exact ha
 ·intro j v hj h
  rw[lk,if_neg (fun e=>hj e.symm)] at h
  cases h
 ·have e:(fun j=>(look [(a,0)] j).isSome)=fun j=>decide (j=a):=by
   funext j
   rw[lk]
   by_cases q:a=j
   ·simp[q]
   ·rw[if_neg q]
    simp
    exact fun z=>q z.symm
  rw[e,vM (List.range s.heights.length) a List.nodup_range (by simpa using ha)]
  rfl
 ·intro x
  rw[lk]
  constructor
  ·intro h
   cases h
  ·intro h
   split at h <;> cases h
 ·intro x
  rw[lk,List.mem_singleton]
  by_cases e:a=x
  ·rw[if_pos e]
   exact ⟨fun _=>rfl,fun _=>e.symm⟩
  ·rw[if_neg e]
   exact ⟨fun z=>absurd z.symm e,fun z=>by cases z⟩
 ·intro x u _ hu
  omega
theorem Bfs.good {s:Surface}{a k:Nat}{ks:rD} (b:Bfs s a k [] ks []):Lev s a (look ks):=by
 refine ⟨b.start,fun t ht u hu=>?_,fun j v hj hv=>?_⟩
 ·obtain ⟨_,h2,h3,h4⟩:=mem_cellSteps.mp ht
  have hle:=b.top _ _ hu
  have n1:u≠k + 1:=fun e=>by
   have:=(b.bey t.from_).mpr (by rw[←e];exact hu)
   cases this
  have n2:u≠k:=fun e=>by
   have:=(b.lev t.from_).mpr (by rw[←e];exact hu)
   cases this
  exact b.low _ u hu (by omega) _ h3 h4
 ·obtain ⟨x,u,h1,h2,h3,h4⟩:=b.told j v hj hv
  exact ⟨⟨0,x,j,1⟩,mem_cellSteps.mpr ⟨rfl,h2,b.dom _ _ hv,h3⟩,rfl,u,h4,h1.symm⟩
theorem Bfs.few {s:Surface}{a k:Nat}{F:List Nat}{ks:rD}{B:List Nat} (b:Bfs s a k F ks B):ks.length≤s.heights.length:=by
 rw[b.len]
 refine Nat.le_trans (List.length_filter_le _ _) ?_
 rw[List.length_range]
 exact Nat.le_refl _
end Mr
namespace Mr
open Vbmiai (Net State Step Surface)
theorem iM {s:State}{rows:Vbmiai.Rows}{ok:Bool}{c:Vbmiai.Call} (h:Vbmiai.callOf rows=Vbmiai.ranged ok c):Vbmiai.stepRows s rows=(s,[-1])∨(ok=true∧Vbmiai.stepRows s rows=Vbmiai.step s c):=by
 unfold Vbmiai.stepRows
 rw[h]
 cases ok with
 | true=>exact .inr ⟨rfl,rfl⟩
 | false=>exact .inl rfl
theorem Lz (m:Net) (ss:List Step) (t:Times) (a:Nat):∀ f j,(Vbmiai.back m ss t a f j).length≤f
 | 0,_=>Nat.le_refl _
 | f + 1,j=>by
  unfold Vbmiai.back
  split
  ·exact Nat.zero_le _
  ·split
   ·exact Nat.zero_le _
   ·rw[List.length_cons]
    have:=Lz m ss t a f (by assumption:Step×Nat).1.from_
    omega
theorem Dk (s:Surface):∀ f been l,(Vbmiai.levels s f been l).length≤f
 | 0,_,_=>Nat.le_refl _
 | f + 1,been,l=>by
  unfold Vbmiai.levels
  split
  ·exact Nat.zero_le _
  ·rw[List.length_cons]
   have:=Dk s f
   exact Nat.succ_le_succ (this _ _)
theorem wV (s:Surface):∀ ls c,(Vbmiai.rampBack s ls c).length≤ls.length
 | [],_=>Nat.le_refl _
 | l :: r,c=>by
  unfold Vbmiai.rampBack
  split
  ·rename_i d _
   rw[List.length_cons,List.length_cons]
   have:=wV s r d
   omega
  ·exact Nat.zero_le _
theorem uR {α:Type} (p:α→Bool):∀ l:List α,(l.takeWhile p).length≤l.length
 | []=>Nat.le_refl _
 | x :: l=>by
  rw[List.takeWhile_cons]
  split
  ·rw[List.length_cons,List.length_cons]
   have:=uR p l
   omega
  ·exact Nat.zero_le _
theorem Yu {s:Surface}{a b:Nat}{r:List Nat} (h:Vbmiai.ramp s a b=some r):r.length≤s.heights.length + 2:=by
 unfold Vbmiai.ramp at h
 dsimp only at h
 split at h
 ·have e:=Option.some.inj h
  rw[←e,List.length_append,List.length_reverse]
  have h1:=wV s (((Vbmiai.levelsFrom s a).takeWhile fun l=>!l.contains b).reverse) b
  rw[List.length_reverse] at h1
  have h2:=uR (fun l=>!l.contains b) (Vbmiai.levelsFrom s a)
  have h3:(Vbmiai.levelsFrom s a).length≤s.heights.length + 1:=Dk s _ _ _
  show _ + 1≤_
  omega
 ·cases h
theorem xZ (m:Net) (a t:Nat) (l:Bool):(Vbmiai.times m a t l).length=m.junctions.length:=by
 have:=congrArg List.length (vT m a t l)
 rw[List.length_map,List.length_map] at this
 exact this
theorem fP {α β:Type} (f:α→List β) (b:Nat):∀ l:List α,(∀ x ∈ l,(f x).length≤b)→(l.flatMap f).length≤l.length * b
 | [],_=>by simp
 | x :: l,h=>by
  rw[List.flatMap_cons,List.length_append,List.length_cons,Nat.add_mul,Nat.one_mul]
  have:=h x (by simp)
  have:=fP f b l fun y hy=>h y (List.mem_cons_of_mem _ hy)
  omega
theorem rL (l:List Nat):(Vbmiai.ints l).length=l.length:=List.length_map ..
theorem ao {s:State} (W:WF s.net) {c:List (List Int)} (h:Form c):(Vbmiai.stepRows s c).2.length≤7000:=by
 have j10:=W.jlen
 have r20:=W.rlen
 have s6:=W.slen
 have c20:=W.clen
 cases h with
 | read t=>
  rcases iM (s:=s) (show Vbmiai.callOf [[0],t]=Vbmiai.ranged _ _ from rfl) with e | ⟨_,e⟩
  ·rw[e];exact (by decide:1≤7000)
  ·rw[e]
   show ((match Vbmiai.readNet s.net (Vbmiai.nats t) with
    | .error e=>(s,Vbmiai.faulty e)
    | .ok k=>Vbmiai.onward s k (Vbmiai.sizes k)):State×List Int).2.length≤7000
   split
   ·exact (by decide:4≤7000)
   ·exact (by decide:4≤7000)
 | look t=>
  rcases iM (s:=s) (show Vbmiai.callOf [[1],t]=Vbmiai.ranged _ _ from rfl) with e | ⟨_,e⟩
  ·rw[e];exact (by decide:1≤7000)
  ·rw[e]
   show (match Vbmiai.readNet s.net (Vbmiai.nats t) with
    | .error e=>Vbmiai.faulty e
    | .ok k=>Vbmiai.sizes k).length≤7000
   split
   ·exact (by decide:4≤7000)
   ·exact (by decide:4≤7000)
 | write=>
  show (0 :: Vbmiai.ints (Vbmiai.written s.net)).length≤7000
  have:=W.written_len
  rw[List.length_cons,rL]
  omega
 | undo=>
  show ((match s.past with
   | []=>(s,[-4])
   | k :: r=>(⟨k,r⟩,[0])):State×List Int).2.length≤7000
  split
  ·exact (by decide:1≤7000)
  ·exact (by decide:1≤7000)
 | close n lo hi=>
  rcases iM (s:=s) (show Vbmiai.callOf [[4,n,lo,hi]]=Vbmiai.ranged _ _ from rfl) with e | ⟨_,e⟩
  ·rw[e];exact (by decide:1≤7000)
  ·rw[e]
   unfold Vbmiai.step
   dsimp only
   split
   ·exact (by decide:1≤7000)
   ·split
    ·exact (by decide:1≤7000)
    ·split
     ·exact (by decide:1≤7000)
     ·exact (by decide:1≤7000)
 | free n=>
  rcases iM (s:=s) (show Vbmiai.callOf [[5,n]]=Vbmiai.ranged _ _ from rfl) with e | ⟨_,e⟩
  ·rw[e];exact (by decide:1≤7000)
  ·rw[e]
   unfold Vbmiai.step
   dsimp only
   split
   ·exact (by decide:1≤7000)
   ·exact (by decide:2≤7000)
 | road n l=>
  rcases iM (s:=s) (show Vbmiai.callOf [[6,n,l]]=Vbmiai.ranged _ _ from rfl) with e | ⟨_,e⟩
  ·rw[e];exact (by decide:1≤7000)
  ·rw[e]
   unfold Vbmiai.step
   dsimp only
   split
   ·exact (by decide:1≤7000)
   ·exact (by decide:5≤7000)
 | times a t l=>
  rcases iM (s:=s) (show Vbmiai.callOf [[7,a,t,l]]=Vbmiai.ranged _ _ from rfl) with e | ⟨_,e⟩
  ·rw[e];exact (by decide:1≤7000)
  ·rw[e]
   unfold Vbmiai.step
   dsimp only
   split
   ·exact (by decide:1≤7000)
   ·rw[List.length_cons,List.length_map,xZ]
    omega
 | route a b t l=>
  rcases iM (s:=s) (show Vbmiai.callOf [[8,a,b,t,l]]=Vbmiai.ranged _ _ from rfl) with e | ⟨_,e⟩
  ·rw[e];exact (by decide:1≤7000)
  ·rw[e]
   unfold Vbmiai.step
   dsimp only
   split
   ·exact (by decide:1≤7000)
   ·split
    ·exact (by decide:1≤7000)
    ·split
     ·exact (by decide:1≤7000)
     ·rw[List.length_cons,List.length_cons,rL]
      have h1:=fP (fun x:Step×Nat=>[x.1.road,x.2]) 2 (Vbmiai.route s.net a.toNat b.toNat t.toNat (l.toNat == 1)) fun _ _=>Nat.le_refl _
      have h2:(Vbmiai.route s.net a.toNat b.toNat t.toNat (l.toNat == 1)).length≤s.net.junctions.length:=by
       unfold Vbmiai.route
       rw[List.length_reverse]
       exact Lz _ _ _ _ _ _
      omega
 | check a t l r=>
  rcases iM (s:=s) (show Vbmiai.callOf [[9,a,t,l],r]=Vbmiai.ranged _ _ from rfl) with e | ⟨_,e⟩
  ·rw[e];exact (by decide:1≤7000)
  ·rw[e]
   unfold Vbmiai.step
   dsimp only
   split
   ·exact (by decide:1≤7000)
   ·split
    ·exact (by decide:1≤7000)
    ·split
     ·exact (by decide:4≤7000)
     ·exact (by decide:3≤7000)
 | table a t l r=>
  rcases iM (s:=s) (show Vbmiai.callOf [[10,a,t,l],r]=Vbmiai.ranged _ _ from rfl) with e | ⟨_,e⟩
  ·rw[e];exact (by decide:1≤7000)
  ·rw[e]
   unfold Vbmiai.step
   dsimp only
   split
   ·exact (by decide:1≤7000)
   ·split
    ·exact (by decide:1≤7000)
    ·exact (by decide:2≤7000)
 | without n a t l=>
  rcases iM (s:=s) (show Vbmiai.callOf [[11,n,a,t,l]]=Vbmiai.ranged _ _ from rfl) with e | ⟨_,e⟩
  ·rw[e];exact (by decide:1≤7000)
  ·rw[e]
   unfold Vbmiai.step
   dsimp only
   split
   ·exact (by decide:1≤7000)
   ·split
    ·exact (by decide:1≤7000)
    ·rw[List.length_cons]
     refine Nat.le_trans (Nat.succ_le_succ (fP _ 3 _ fun _ _=>Nat.le_refl _)) ?_
     have h1:=List.length_filter_le (fun z:(Nat×Option Nat)×(Nat×Option Nat)=>z.1 != z.2) ((Vbmiai.times s.net a.toNat t.toNat (l.toNat == 1)).zip (Vbmiai.times (Vbmiai.withoutRoad s.net n.toNat) a.toNat t.toNat (l.toNat == 1)))
     rw[List.length_zip,xZ] at h1
     omega
 | needed a l=>
  rcases iM (s:=s) (show Vbmiai.callOf [[12,a,l]]=Vbmiai.ranged _ _ from rfl) with e | ⟨_,e⟩
  ·rw[e];exact (by decide:1≤7000)
  ·rw[e]
   unfold Vbmiai.step
   dsimp only
   split
   ·exact (by decide:1≤7000)
   ·rw[List.length_cons,rL]
    unfold Vbmiai.needed
    rw[List.length_map]
    exact Nat.succ_le_succ (Nat.le_trans (List.length_filter_le _ _) (Nat.le_trans r20 (by decide)))
 | round a b t sy=>
  rcases iM (s:=s) (show Vbmiai.callOf [[13,a,b,t,sy]]=Vbmiai.ranged _ _ from rfl) with e | ⟨_,e⟩
  ·rw[e];exact (by decide:1≤7000)
  ·rw[e]
   unfold Vbmiai.step
   dsimp only
   split
   ·exact (by decide:1≤7000)
   ·split
    ·exact (by decide:1≤7000)
    ·split
     ·exact (by decide:1≤7000)
     ·split
      ·exact (by decide:1≤7000)
      ·exact (by decide:3≤7000)
 | within a t m l=>
  rcases iM (s:=s) (show Vbmiai.callOf [[14,a,t,m,l]]=Vbmiai.ranged _ _ from rfl) with e | ⟨_,e⟩
  ·rw[e];exact (by decide:1≤7000)
  ·rw[e]
   unfold Vbmiai.step
   dsimp only
   split
   ·exact (by decide:1≤7000)
   ·rw[List.length_cons,rL,List.length_map]
    refine Nat.succ_le_succ (Nat.le_trans (List.length_filter_le _ _) ?_)
    rw[xZ]
    omega
 | ramp x m a b h=>
  rcases iM (s:=s) (show Vbmiai.callOf [[15,x,m,a,b],h]=Vbmiai.ranged (Vbmiai.within x 1 8 && (Vbmiai.within m 0 1000000 && (Vbmiai.within a 0 63 && (Vbmiai.within b 0 63 && Vbmiai.isList h 64 0 1000000)))) _ from rfl) with e | ⟨ok,e⟩
  ·rw[e];exact (by decide:1≤7000)
  ·rw[e]
   simp only[Bool.and_eq_true] at ok
   have h64:h.length≤64:=by
    have:=ok.2.2.2.2
    unfold Vbmiai.isList at this
    rw[Bool.and_eq_true,decide_eq_true_iff] at this
    exact this.1
   unfold Vbmiai.step
   dsimp only
   split
   ·exact (by decide:1≤7000)
   ·split
    ·exact (by decide:1≤7000)
    ·split
     ·exact (by decide:1≤7000)
     ·rename_i r hr
      rw[List.length_cons,rL]
      have h1:=Yu hr
      have h2:(Vbmiai.nats h).length=h.length:=List.length_map ..
      have h1:r.length≤(Vbmiai.nats h).length + 2:=h1
      omega
 | begins n t l w=>
  rcases iM (s:=s) (show Vbmiai.callOf [[16,n,t,l,w]]=Vbmiai.ranged _ _ from rfl) with e | ⟨_,e⟩
  ·rw[e];exact (by decide:1≤7000)
  ·rw[e]
   unfold Vbmiai.step
   dsimp only
   split
   ·exact (by decide:1≤7000)
   ·split
    ·exact (by decide:1≤7000)
    ·exact (by decide:3≤7000)
 | net=>
  show (0 :: (Int.ofNat s.net.junctions.length :: s.net.junctions.flatMap (fun x=>Vbmiai.ints [x.number,x.height]) ++ (Int.ofNat s.net.roads.length :: s.net.roads.flatMap (fun r=>Vbmiai.ints [r.number,r.a,r.b,r.long,r.ways]) ++ (Int.ofNat s.net.speeds.length :: s.net.speeds.flatMap (fun x=>Vbmiai.ints [x.grade,x.up,x.upLoaded,x.down,x.downLoaded]) ++ (Int.ofNat s.net.closings.length :: s.net.closings.flatMap fun c=>Vbmiai.ints [c.road,c.lo,c.hi]))))).length≤7000
  have h1:=fP (fun x:Vbmiai.Junction=>Vbmiai.ints [x.number,x.height]) 2 s.net.junctions fun _ _=>Nat.le_refl _
  have h2:=fP (fun r:Vbmiai.Road=>Vbmiai.ints [r.number,r.a,r.b,r.long,r.ways]) 5 s.net.roads fun _ _=>Nat.le_refl _
  have h3:=fP (fun x:Vbmiai.Speed=>Vbmiai.ints [x.grade,x.up,x.upLoaded,x.down,x.downLoaded]) 5 s.net.speeds fun _ _=>Nat.le_refl _
  have h4:=fP (fun c:Vbmiai.Closing=>Vbmiai.ints [c.road,c.lo,c.hi]) 3 s.net.closings fun _ _=>Nat.le_refl _
  simp only[List.length_cons,List.length_append]
  omega
end Mr
namespace Mr
open PySem PySem.Spec PyProof.Rows L2
section
variable {X:Cx}
theorem aW {x:Str}{v:V}{pos:Pos} (hg:Gl X x) (h:∃ u,X.mg x=some u∧RelV v u) (hd:(x == ("__debug__" : Str))=false:=by decide):PE X (.Name x pos) (tC v):=by
 obtain ⟨u,h1,h2⟩:=h
 exact fC hg h1 h2 hd
def gb (X:Cx) (tf:TE) (t:TA):TE:=fun σ H Q=>tf σ H fun v H0=>∃ f k fd ps sp,v=V.ref f∧bO X.prog X.w X.K X.mg X.base eC k f fd ps sp∧Room k X.A∧PySem.W.keepIn X.K (.ref f)=true∧Binds X.K fd ps []∧t σ H0 fun vs H1=>sp vs H1 Q E0
theorem Yg {x:Str}{p pos:Pos}{e:Expr}{es:List Expr}{tf:TE}{t:TA} (hf:PE X (.Name x p) tf) (ha:PA X (e :: es) t) (he:starEach (e :: es) X.env=(false,eval e X.env) :: starEach es X.env:=by rfl)
  (hpl:(backTo pos (starEach es X.env)).any (·.1)=false:=by rfl):PE X (.Call (.Name x p) (e :: es) [] pos) (gb X tf t):=by
 intro pins s σ H Q I h
 refine wpAny_Call_Name_kw (eZ (hf pins s σ H _ I h) fun v s0 ⟨x0,H0,I0,r0,f,k,fd,ps,sp,e0,F,hr,hk,hb,q⟩=>?_)
 subst e0
 cases r0
 refine PySem.W.callWith_K (h₀:=X.base) I.ok.mod.kin hk (eZ (ha pos pins s0 σ H0 _ I0 q) fun us s1 ⟨vs,H1,I1,r,q1⟩=>⟨I1.kIn,?_⟩) he hpl
 exact Bx (dvs:=[]) F hr hb .nil aN I1 r (by rw[List.append_nil];exact q1)
def KDict (P:Program) (w:World) (K:PySem.W.Frag) (a:Addr) (kvs:List (fJ×V)):Prop :=
 (a == sysModules)=false∧∃ (o:Obj) (es:Array DictEntry) (ep:Nat) (vs:List (fJ×Value)),K.lookup a=some o∧o.ExactDict∧o.data = .dict es ep∧es.size=kvs.length∧KV kvs vs∧KeysOf (dP P w) es∧Pairs (dP P w) es.toList vs∧(vs.map (·.1)).Nodup
theorem KDict.at {P:Program}{w:World}{K:PySem.W.Frag}{a:Addr}{kvs:List (fJ×V)} (g:KDict P w K a kvs):∃ ep,(a == sysModules)=false∧∀ h:Heap,K.In h→∃ o es vs,h.get? a=some o∧o.ExactDict∧o.data = .dict es ep∧es.size=kvs.length∧KV kvs vs∧h.DictAt (dP P w) a vs ep:=by
 obtain ⟨g0,o,es,ep,vs,g1,g2,g3,g4,g5,g6,g7,g8⟩:=g
 exact ⟨ep,g0,fun h hk=>⟨o,es,vs,hk _ _ g1,g2,g3,g4,g5,o,es,hk _ _ g1,g2,g3,g6,g7,g8⟩⟩
def Ww (X:Cx) (td ty:TE):TE:=fun σ H Q=>td σ H fun x H1=>ty σ H1 fun y H2=>∃ a kvs k v,x=V.ref a∧KDict X.prog X.w X.K a kvs∧y=kV k∧lD kvs k=some v∧Q v H2
theorem Ce {o i:Expr}{pos:Pos}{td ty:TE} (hu:X.A.units + 1<cLine) (ho:PE X o td) (hi:PE X i ty) (hs:eh i):PE X (.Subscript o i pos) (Ww X td ty):=by
 intro pins s σ H Q I h
 refine Sc PySem.F.slot_dict_getitem.lookup hs (eZ (ho pins s σ H _ I h) fun u s1 ⟨x,H1,I1,rx,q1⟩=>eZ (hi pins s1 σ H1 _ I1 q1) fun iv s2 ⟨y,H2,I2,ry,a,kvs,k,v,ex,g,ey,l,q2⟩=>?_)
 subst ex ey
 obtain rfl:u=Value.ref a:=rx
 obtain ⟨ep,hm,g'⟩:=g.at
 obtain ⟨ob,es,vs,e1,e2,e3,e4,rel,dd⟩:=g' s2.heap I2.kIn
 have dO:=dd.dictOf
 obtain ⟨w',hw,rw'⟩:=RelO.some_of (v:=v) (o:=valueAt vs k) (by rw[←l];exact rel.val k)
 exact ⟨dO.typeIs,wpAny_getItem_of (zF ry) dO.mapOf hw ⟨v,H2,I2.tok _,rw',q2⟩⟩
def jn (P:Program) (w:World) (K:PySem.W.Frag) (d:Addr) (kvs:List (fJ×V)):It :=
 ⟨fun i _=>i<kvs.length,fun i H x H'=>H'=H∧∃ k v,kvs[i]? = some (k,v)∧x=kV k,fun i _=>kvs.length≤i⟩
def Wp (X:Cx) (td:TE):TI:=fun σ H R=>td σ H fun x H1=>∃ d kvs,x=V.ref d∧KDict X.prog X.w X.K d kvs∧R (jn X.prog X.w X.K d kvs) H1
theorem Qo {P:Program}{w:World}{K:PySem.W.Frag}{tg:Expr}{kvs:List (fJ×V)}{d:Addr}{ep:Nat} (it:Addr) (g:∀ h:Heap,K.In h→∃ o es vs,h.get? d=some o∧o.ExactDict∧o.data = .dict es ep∧es.size=kvs.length∧KV kvs vs∧h.DictAt (dP P w) d vs ep) :
  Ij P w K tg (jn P w K d kvs) [it] it (fun i h=>h.IsKeyIter it d i kvs.length ep) where
 mem:=by simp
 obj:=fun i h st b hb=>by
  have e:b=it:=by simpa using hb
  subst e
  obtain ⟨oi,e,c,dd⟩:=st
  exact ⟨oi,e,fun v z=>by rw[dd] at z;cases z⟩
 keep:=fun i h h' st k=>st.at fun oi e=>k it (by simp) oi e
 item:=by
  intro X hP hw hK hc i pins s σ H E I hf st hg
  subst hP hw hK
  obtain ⟨f0,f1,f2,f3,f4,f5⟩:=hf it (by simp)
  obtain ⟨ob,es,vs,hgd,hx,hdt,hsz,kv,hm⟩:=g s.heap I.kIn
  obtain ⟨⟨k,v⟩,hkv⟩:∃ p,kvs[i]? = some p:=⟨kvs[i],List.getElem?_eq_getElem hg⟩
  obtain ⟨u,hu,ru⟩:=gz kv hkv
  have hl:kvs.length=vs.length:=Paired.length kv
  rw[hl] at st
  refine wpAny_pyNext_dict_item st hm hu fun key h' hkey st' sb=>?_
  have I1:Inv X pins σ H { s with heap:=h' }:=I.turned (t':=s.toks) (fun b ob hb e=>(sb.2 b hb).trans e) f0 f1 f3 f4 f5
  obtain ⟨oi,e,c,dd⟩:=id st'
  refine ⟨key,rfl,Lo (s:={ s with heap:=h' }) e c dd (by decide) ⟨kV k,H,I1,Yd (show zC k key=true from hkey),⟨rfl,k,v,hkv,rfl⟩,?_,fun b hb=>(hf b hb).1⟩⟩
  show h'.IsKeyIter it d (i + 1) kvs.length _
  rw[hl]
  exact st'
 done:=by
  intro X hP hw hK hc i pins s σ H E I hf st hg
  subst hP hw hK
  obtain ⟨f0,f1,f2,f3,f4,f5⟩:=hf it (by simp)
  obtain ⟨ob,es,vs,hgd,hx,hdt,hsz,kv,hm⟩:=g s.heap I.kIn
  exact Jn (I.ok.hd hc) st hgd hdt hsz hg fun h' eb=>⟨rfl,I.turned (t':=s.toks) (fun b ob hb e=>eb b ob hb e) f0 f1 f3 f4 f5⟩
 self:=fun A i s Q E st h=>wpAny_pyIter_keyiter st h
theorem Xr {tg e:Expr}{td:TE} (he:PE X e td):PI X tg e (Wp X td):=by
 intro pins s σ H R I h
 refine eZ (he pins s σ H _ I h) fun u s1 ⟨x,H1,I1,rx,d,kvs,ex,g,q⟩=>?_
 subst ex
 obtain rfl:u=Value.ref d:=rx
 obtain ⟨ep,hs,g'⟩:=g.at
 obtain ⟨ob,es,vs,hgd,hx,hdt,hsz,kv,hm⟩:=g' s1.heap I1.kIn
 refine Uz hs hgd hx hdt (Oo (tk:=s1.toks) I1 _ (Qo _ g') ⟨_,Heap.get?_push_size _ rfl,rfl,?_⟩ q)
 rw[hsz] <;> rfl
end
theorem Tj {α β:Type}{R:α→β→Prop}{p l:List β} (h:p.Perm l):∀ {l':List α},Paired R l' l→∃ p',p'.Perm l'∧Paired R p' p:=by
 induction h with
 | nil=>intro l' r;cases r;exact ⟨[],.nil,.nil⟩
 | cons x _ ih=>
  intro l' r
  cases r with
  | cons r rs=>
   obtain ⟨p',h1,h2⟩:=ih rs
   exact ⟨_ :: p',h1.cons _,.cons r h2⟩
 | swap x y l=>
  intro l' r
  cases r with
  | cons r1 rs=>
   cases rs with
   | cons r2 rs=>exact ⟨_,List.Perm.swap _ _ _,.cons r2 (.cons r1 rs)⟩
 | trans _ _ ih1 ih2=>
  intro l' r
  obtain ⟨p2,h1,h2⟩:=ih2 r
  obtain ⟨p1,h3,h4⟩:=ih1 h2
  exact ⟨p1,h3.trans h1,h4⟩
theorem Si:∀ (ks:List Int) {xs:List V}{us:List Value},Vals xs us→Paired (fun (p:Int×V) (q:Int×Value)=>p.1=q.1∧RelV p.2 q.2) (ks.zip xs) (ks.zip us)
 | [],_,_,_=>.nil
 | k :: ks,_,_,.nil=>.nil
 | k :: ks,_,_,.cons r t=>.cons ⟨rfl,r⟩ (Si ks t)
theorem Jf:∀ {p:List (Int×V)}{q:List (Int×Value)},Paired (fun (p:Int×V) (q:Int×Value)=>p.1=q.1∧RelV p.2 q.2) p q→Vals (p.map (·.2)) (q.map (·.2))∧p.map (·.1)=q.map (·.1)
 | _,_,.nil=>⟨.nil,rfl⟩
 | _,_,.cons r t=>⟨.cons r.2 (Jf t).1,by rw[List.map_cons,List.map_cons,r.1,(Jf t).2]⟩
section
variable {X:Cx}{pins:List (Addr×Obj)}{σ:L2.St}{H:Hp}{s:Shared}
theorem ku {D:Addr}{o:HO}{h':Heap}{t':Nat} (I:Inv X pins σ H s) (f:pZ X pins H D) (k:∀ b u,b≠D→s.heap.get? b=some u→h'.get? b=some u) (new:ObjOk X.prog X.w (cA H D o) h' D o) :
  Inv X pins σ (cA H D o) { s with heap:=h',toks:=t' }:=by
 obtain ⟨f0,f1,f2,f3,f4,f5⟩:=f
 have nD:∀ b u,H b=some u→b≠D:=fun b u e=>aQ e f0
 refine I.step (g':=s.gens) (d':=s.drawn) (ch:=[D]) (fun b hb=>?_) (fun b u _ _ hc e _=>k b u (fun z=>hc (by simp[z])) e) (fun b u _ _ hc e _=>⟨u.slots,k b u (fun z=>hc (by simp[z])) e⟩) (fun b u hc e n=>?_) (fun b u hc e=>⟨u,k b u (fun z=>hc (by simp[z])) e⟩)
  (fun b xs e=>by rw[aV (nD _ _ e)];exact e) (fun b u xs e=>by rw[aV (nD _ _ e)];exact e) (fun b ps e=>⟨#[],by rw[aV (nD _ _ e),e];simp⟩) (fun m hm=>?_) (fun b u e=>?_) I.bare
 ·have e:b=D:=by simpa using hb
  subst e
  exact ⟨f3,f1,f4,f5⟩
 ·rw[aV (fun z=>hc (by simp[z]))]
  exact n
 ·obtain ⟨ob,es,ep,ho,r⟩:=hm
  exact ⟨ob,es,ep,k _ ob (Ne.symm f1) ho,r⟩
 ·by_cases hb:b=D
  ·subst hb
   rw[aF] at e
   cases e
   exact new
  ·rw[aV hb] at e
   refine (I.hok b u e).stay (fun c v hc q=>k c v ?_ q) (fun c q=>by rw[aV (nD _ _ q)];exact q) fun c xs q=>by rw[aV (nD _ _ q)];exact q
   rcases hc with z | z
   ·rw[z];exact hb
   ·exact nD c _ z
variable {k:Nat}{f:Addr}{fd:FuncData}{ps:List Str}{sp:Sp}
theorem bu {Q:VK}{us:List Value}{vs:List V}{E:Value→Shared→Prop} (F:bO X.prog X.w X.K X.mg X.base eC k f fd ps sp) (hr:Room (k + 2) X.A) (hb:Binds X.K fd ps []) (I:Inv X pins σ H s) (r:Vals vs us) (h:sp vs H Q E0) :
  wpAny (model X.prog X.w) X.A.in1.in1 (call (.ref f) us) (EP X pins σ Q) E s:=by
 have hl:(us ++ []).length=ps.length:=by rw[List.append_nil,←r.length];exact F.len _ _ _ _ h
 have hb':=hb s us I.kIn hl
 rw[List.append_nil] at hb'
 refine wpAny_call (codeAny_mono (F.run X.A.in1.in1 X.stack s H ⟨us,[]⟩ us vs Q E0 hr.in1.in1 I.env0.in1.in1 hb' r h) fun rr s' hq=>?_)
 cases rr with
 | error e=>exact (show False from hq).elim
 | ok fl=>
  cases fl with
  | ret u=>exact I.after hq
  | next=>exact False.elim hq
  | brk=>exact False.elim hq
  | cont=>exact False.elim hq
variable {kS D:Addr}{e1:Nat}{ks:List Int}{xs:List V}{vs:List Value}{E:Value→Shared→Prop}{P:PySem.Fin→Shared→Prop}
theorem Lw {keys:Array Value}{e:Nat}{st:SortSt} (I:Inv X pins σ H s) (fk:pZ X pins H kS) (fD:pZ X pins H D) (ne:kS≠D) (gk:s.heap.get? kS=some (seqObj "list" keys e)) (gD:s.heap.get? D=some (seqObj "list" #[] e1))
  (hk:IntsAre keys.toList ks) (hl:ks.length=vs.length) (h64:vs.length<64) (hp:(arrOf st).Perm (keys.zip vs.toArray)) (hs:SortedTo (arrOf st) (arrOf st).size) (hfl:failedOf st=none)
  (wA:∀ s' out c,Inv X pins σ H s'→s'.heap.get? D=some (seqObj "list" out c)→KskOut false ks vs out.toList→P (.done (.ret .none)) s'):wpAny (model X.prog X.w) X.A.in1.in1 (ksk_tail D false e1 (.ref kS) st) P E s:=by
 have z1:keys.size=vs.length:=by
  have:=hk.length
  rw[Array.length_toList] at this
  omega
 have z2:((arrOf st).map (·.2)).size=vs.length:=by rw[Array.size_map,hp.size_eq,Array.size_zip,z1,List.size_toArray,Nat.min_self]
 obtain ⟨k0,k1,k2,k3,k4,k5⟩:=fk
 obtain ⟨d0,d1,d2,d3,d4,d5⟩:=fD
 have b1:=Heap.SameBut.update s.heap kS (Obj.mapSeq fun _=>(#[]:Array Value))
 have g1:(s.heap.update kS (Obj.mapSeq fun _=>(#[]:Array Value))).get? D=some (seqObj "list" #[] e1):=(b1.2 D (Ne.symm ne)).trans gD
 have I1:Inv X pins σ H { s with heap:=s.heap.update kS (Obj.mapSeq fun _=>(#[]:Array Value)) }:=I.turned (t':=s.toks) (fun b o hb q=>(b1.2 b hb).trans q) k0 k1 k3 k4 k5
 have b2:=Heap.SameBut.update (s.heap.update kS (Obj.mapSeq fun _=>(#[]:Array Value))) D (Obj.mapSeq fun _=>(arrOf st).map (·.2))
 have g2:=get?_update_seq g1 fun _=>(arrOf st).map (·.2)
 have I2:Inv X pins σ H { s with heap:=(s.heap.update kS (Obj.mapSeq fun _=>(#[]:Array Value))).update D (Obj.mapSeq fun _=>(arrOf st).map (·.2)) }:=I1.turned (t':=s.toks) (fun b o hb q=>(b2.2 b hb).trans q) d0 d1 d3 d4 d5
 unfold ksk_tail
 try dsimp only
 refine' wpAny_bind (listUpdate_at gk rfl ?_ (by rw[z1,sizeLine_eq];omega) (Nat.zero_le _))
 refine' wpAny_bind (wpAny_letGo (wpAny_bind (seqEpoch_at g1 rfl ?_)))
 refine' wpAny_bind (listUpdate_at g1 rfl ?_ (Nat.zero_le _) (Nat.le_trans (Nat.le_of_eq z2) (by rw[sizeLine_eq];omega)))
 rw[hfl]
 simp only[bne_self_eq_false,Bool.false_eq_true,if_false]
 exact wpAny_pure (wA _ _ _ I2 g2 (ksk_out (b:=false) hk hp hs))
theorem cf {keys:Array Value}{e:Nat} (I:Inv X pins σ H s) (fk:pZ X pins H kS) (fD:pZ X pins H D) (ne:kS≠D) (gk:s.heap.get? kS=some (seqObj "list" keys e)) (gD:s.heap.get? D=some (seqObj "list" #[] e1))
  (hk:IntsAre keys.toList ks) (hl:ks.length=vs.length) (h64:vs.length<64)
  (wA:∀ s' out c,Inv X pins σ H s'→s'.heap.get? D=some (seqObj "list" out c)→KskOut false ks vs out.toList→P (.done (.ret .none)) s'):wpAny (model X.prog X.w) X.A.in1.in1 (ksk_end D false vs.toArray e1 (.ref kS) keys) P E s:=by
 have z1:keys.size=vs.length:=by
  have:=hk.length
  rw[Array.length_toList] at this
  omega
 have z3:(keys.zip vs.toArray).size=vs.length:=by rw[Array.size_zip,z1,List.size_toArray,Nat.min_self]
 unfold ksk_end
 try dsimp only
 simp only[Bool.false_eq_true,if_false]
 by_cases h2:vs.toArray.size<2
 ·rw[if_pos h2,if_pos h2]
  refine' wpAny_bind (wpAny_pure ?_)
  rw[StateT.run_pure]
  refine' wpAny_bind (wpAny_pure ?_)
  try dsimp only
  refine Lw (st:=SortSt.mk' general' (keys.zip vs.toArray) #[] 7 none) I fk fD ne gk gD hk hl h64 (Array.Perm.refl _) ?_ rfl wA
  intro i j hij hj
  have hj':j<(keys.zip vs.toArray).size:=hj
  rw[z3] at hj'
  rw[List.size_toArray] at h2
  have e:i=j:=by omega
  subst e
  exact Int.le_refl _
 ·rw[if_neg h2,if_neg h2]
  rw[List.size_toArray] at h2
  rw[ksk_kind hk (by rw[z1];omega)]
  refine' wpAny_bind (wpAny_pure ?_)
  refine' wpAny_bind (wpAny_mono (wpS_sortRuns (a₀:=keys.zip vs.toArray) (st:=SortSt.mk' oneType' (keys.zip vs.toArray) #[] 7 none) (Q:=fun _ st'=>(arrOf st').Perm (keys.zip vs.toArray)∧failedOf st'=none∧SortedTo (arrOf st') (keys.zip vs.toArray).size)
   (ksk_intKeys hk) ⟨Array.Perm.refl _,rfl,rfl,rfl⟩ (by rw[z3];omega) (by rw[z3];exact h64) fun st' a1 a2 a3=>⟨a1,a2,a3⟩) ?_ fun _ _ e=>e)
  rintro ⟨⟨⟩,st'⟩ s' ⟨rfl,hp,hf,hs⟩
  try dsimp only
  exact Lw I fk fD ne gk gD hk hl h64 hp (by rw[hp.size_eq];exact hs) hf wA
theorem Yx (F:bO X.prog X.w X.K X.mg X.base eC k f fd ps sp) (hr:Room (k + 2) X.A) (hb:Binds X.K fd ps []) (I:Inv X pins σ H s) (fk:pZ X pins H kS) (fD:pZ X pins H D) (ne:kS≠D) (gk:s.heap.get? kS=some (seqObj "list" #[] 0)) (gD:s.heap.get? D=some (seqObj "list" #[] e1))
  (rv:Vals xs vs) (hl:ks.length=xs.length) (h64:vs.length<64) (hkey:∀ (i:Nat) (x:V) (n:Int),xs[i]? = some x→ks[i]? = some n→sp [x] H (fun v H'=>v = .int n∧H'=H) E0)
  (wA:∀ s' out c,Inv X pins σ H s'→s'.heap.get? D=some (seqObj "list" out c)→KskOut false ks vs out.toList→P (.done (.ret .none)) s'):wpAny (model X.prog X.w) X.A.in1.in1 (ksk_rest D (.ref f) false vs.toArray e1 (.ref kS)) P E s:=by
 have hlv:ks.length=vs.length:=hl.trans rv.length
 unfold ksk_rest
 refine' wpAny_bind (wpAny_rule ?_)
 first
  | rw[List.forIn_toArray]
  | rw[←Array.forIn_toList]
 refine' wpAny_bind (ksk_fold (fun i s'=>∃ kA e,Inv X pins σ H s'∧s'.heap.get? kS=some (seqObj "list" kA e)∧s'.heap.get? D=some (seqObj "list" #[] e1)∧IntsAre kA.toList (ks.take i)) vs 0 s ⟨#[],0,I,gk,gD,by simpa using IntsAre.nil⟩ ?turn ?done)
 case turn=>
  rintro j u s' hu ⟨kA,e,I',g1,g2,hk⟩
  simp only[Nat.zero_add] at hk ⊢
  have hj:j<vs.length:=(List.getElem?_eq_some_iff.mp hu).1
  obtain ⟨n,hn⟩:∃ n,ks[j]? = some n:=⟨_,List.getElem?_eq_getElem (by omega)⟩
  obtain ⟨x,hx⟩:∃ x,xs[j]? = some x:=⟨_,List.getElem?_eq_getElem (by rw[rv.length];exact hj)⟩
  obtain ⟨u',hu',ru⟩:=rv.get hx
  rw[hu] at hu'
  cases hu'
  have hz:kA.size≤vs.length:=by
   have h1:=hk.length
   rw[Array.length_toList,List.length_take] at h1
   omega
  have Ip:=I'.pinned (fp:=[kS,D]) (fun b hb=>by
   rcases List.mem_cons.mp hb with q | q
   ·rw[q];exact fk
   ·rw[List.mem_singleton.mp q];exact fD) (fun b hb=>by
   rcases List.mem_cons.mp hb with q | q
   ·rw[q];exact ⟨_,g1,fun v z=>nomatch z⟩
   ·rw[List.mem_singleton.mp q];exact ⟨_,g2,fun v z=>nomatch z⟩)
  refine' wpAny_bind (wpAny_attempt (wpAny_mono (bu (E:=fun _ _=>False) F hr hb Ip (.cons ru .nil) (hkey j x n hx hn)) (fun v s'' q=>?_) fun _ _ hF=>hF.elim))
  obtain ⟨y,H2,I2,r2,rfl,rfl⟩:=q
  obtain ⟨t2,rfl⟩:=r2
  try dsimp only
  have p1:=(I2.pin (kS,_) (List.mem_append_right _ (List.mem_append_right _ (mD (by simp) g1)))).1
  have p2:=(I2.pin (D,_) (List.mem_append_right _ (List.mem_append_right _ (mD (by simp) g2)))).1
  have I3:=I2.unpinned
  have b1:=Heap.SameBut.update s''.heap kS (Obj.mapSeq (·.push (.int n t2)))
  have g3:=get?_update_seq p1 (·.push (.int n t2))
  obtain ⟨k0,k1,k2,k3,k4,k5⟩:=fk
  have ek:ks.take (j + 1)=ks.take j ++ [n]:=by rw[List.take_add_one,hn];simp
  have ea:(kA.push (Value.int n t2)).toList=kA.toList ++ [Value.int n t2]:=by simp
  refine' wpAny_bind (listUpdate_at p1 rfl ?_ (by rw[sizeLine_eq];omega) (Nat.le_trans (Nat.le_of_eq (Array.size_push ..)) (by rw[sizeLine_eq];omega)))
  refine' wpAny_pure ⟨rfl,_,_,I3.turned (t':=s''.toks) (fun b o hb q=>(b1.2 b hb).trans q) k0 k1 k3 k4 k5,g3,(b1.2 D (Ne.symm ne)).trans p2,by rw[ea,ek];exact ksk_snoc hk⟩
 case done=>
  rintro s' ⟨kA,e,I',g1,g2,hk⟩
  rw[Nat.zero_add,List.take_of_length_le (by omega)] at hk
  try dsimp only
  refine' wpAny_bind (listItems_at g1 rfl ?_)
  exact cf I' fk fD ne g1 g2 hk hlv h64 wA
theorem Pf {a:Addr}{Q:VK} (F:bO X.prog X.w X.K X.mg X.base eC k f fd ps sp) (hr:Room (k + 2) X.A) (hb:Binds X.K fd ps []) (I:Inv X pins σ H s) (hs:SqL X.K H a xs) (hl:ks.length=xs.length) (h64:xs.length<64)
  (hkey:∀ (i:Nat) (x:V) (n:Int),xs[i]? = some x→ks[i]? = some n→sp [x] H (fun v H'=>v = .int n∧H'=H) E0)
  (q:∀ (qs:List (Int×V)) (p:Addr),qs.Perm (ks.zip xs)→qs.Pairwise (fun u v=>u.1≤v.1)→H p=none→Q (.ref p) (cA H p (.lst (qs.map (·.2))))) :
  wpAny (model X.prog X.w) X.A (call (.builtin "sorted") [.ref a] [(Str.ofString "key",.ref f)]) (EP X pins σ Q) E s:=by
 obtain ⟨its,rv,pl,hz⟩:=I.list hs
 have hi:its.length<64:=by rw[←rv.length];exact h64
 refine' call_function_entry_kw kind_sorted plain_sorted entry_sorted (ksk_s1 _ _) ?_
 unfold Builtin.«sorted»
 refine' wpAny_bind (m:=checkCount "sorted" 1 1 _) (wpAny_pure ?_)
 refine' wpAny_bind (collect_list pl.isList ?_ (by rw[sizeLine_eq];omega))
 refine' wpAny_bind (wpAny_newList ?_ (by rw[sizeLine_eq];omega))
 have n1:((s.heap.push (seqObj "list" #[] 0)).update s.heap.objs.size (Obj.mapSeq (· ++ its.toArray))).objs.size=s.heap.objs.size + 1:=by rw[Heap.size_update,size_push']
 have kp1:∀ b o,s.heap.get? b=some o→((s.heap.push (seqObj "list" #[] 0)).update s.heap.objs.size (Obj.mapSeq (· ++ its.toArray))).get? b=some o:=fun b o e=>by
  rw[Heap.get?_update_ne _ _ _ _ (Nat.ne_of_lt (Heap.lt_size e))]
  exact Heap.get?_push_of_some _ e
 generalize ((s.heap.push (seqObj "list" #[] 0)).update s.heap.objs.size (Obj.mapSeq (· ++ its.toArray)))=h1 at n1 kp1
 show wpAny _ _ _ _ _ { s with heap:=h1.push (seqObj "list" its.toArray 0) }
 have gD:(h1.push (seqObj "list" its.toArray 0)).get? h1.objs.size=some (seqObj "list" its.toArray 0):=Heap.get?_push_size _ rfl
 refine' wpAny_bind (wpAny_holding (wpAny_call_entry_kw slot_list_sort ⟨_,gD,rfl⟩ entry_list_sort ?body (ksk_l1 _ _)))
 have hD:s.heap.objs.size≤h1.objs.size:=by rw[n1];exact Nat.le_succ _
 have fD:pZ X pins H h1.objs.size:=I.fpOk hD (I.hok.fresh hD)
 have kp2:∀ b o,s.heap.get? b=some o→(h1.push (seqObj "list" its.toArray 0)).get? b=some o:=fun b o e=>Heap.get?_push_of_some _ (kp1 b o e)
 have n2:(h1.push (seqObj "list" its.toArray 0)).objs.size=h1.objs.size + 1:=size_push' _ _
 generalize h1.push (seqObj "list" its.toArray 0)=h2 at gD kp2 n2
 generalize h1.objs.size=D at gD hD fD n2
 show wpAny (model X.prog X.w) X.A.in1.in1 (Builtin.«list.sort» ⟨[.ref D],[(Str.ofString "key",.ref f)]⟩) _ _ _
 rw[ksk_t1]
 unfold ksk_tree
 refine' wpAny_bind (listItems_at gD rfl ?_)
 refine' wpAny_bind (listUpdate_at gD rfl ?_ (by rw[List.size_toArray,sizeLine_eq];omega) (Nat.zero_le _))
 have gD3:=get?_update_seq gD fun _=>(#[]:Array Value)
 have b3:=Heap.SameBut.update h2 D (Obj.mapSeq fun _=>(#[]:Array Value))
 have n3:(h2.update D (Obj.mapSeq fun _=>(#[]:Array Value))).objs.size=D + 1:=by rw[Heap.size_update,n2]
 have kp3:∀ b o,s.heap.get? b=some o→(h2.update D (Obj.mapSeq fun _=>(#[]:Array Value))).get? b=some o:=fun b o e=>(b3.2 b (Nat.ne_of_lt (Nat.lt_of_lt_of_le (Heap.lt_size e) hD))).trans (kp2 b o e)
 generalize h2.update D (Obj.mapSeq fun _=>(#[]:Array Value))=h3 at gD3 n3 kp3
 refine' wpAny_bind (seqEpoch_at gD3 rfl ?_)
 refine' wpAny_bind (wpAny_newTuple ?_ (by show its.length≤_;rw[sizeLine_eq];omega))
 refine' wpAny_bind (wpAny_newList ?_ (Nat.zero_le _))
 have gD5:=Heap.get?_push_of_some (seqObj "list" #[] 0) (Heap.get?_push_of_some (seqObj "tuple" its.toArray 0) gD3)
 have gk5:((h3.push (seqObj "tuple" its.toArray 0)).push (seqObj "list" #[] 0)).get? (h3.push (seqObj "tuple" its.toArray 0)).objs.size=some (seqObj "list" #[] 0):=Heap.get?_push_size _ rfl
 have n4:(h3.push (seqObj "tuple" its.toArray 0)).objs.size=D + 2:=by rw[size_push',n3]
 have kp5:∀ b o,s.heap.get? b=some o→((h3.push (seqObj "tuple" its.toArray 0)).push (seqObj "list" #[] 0)).get? b=some o:=fun b o e=>Heap.get?_push_of_some _ (Heap.get?_push_of_some _ (kp3 b o e))
 have I5:Inv X pins σ H { s with heap:=(h3.push (seqObj "tuple" its.toArray 0)).push (seqObj "list" #[] 0) }:=I.kept (t':=s.toks) kp5
 have hK:s.heap.objs.size≤(h3.push (seqObj "tuple" its.toArray 0)).objs.size:=by rw[n4];omega
 have neD:(h3.push (seqObj "tuple" its.toArray 0)).objs.size≠D:=by rw[n4];omega
 refine' wpAny_holding (Yx (s:={ s with heap:=(h3.push (seqObj "tuple" its.toArray 0)).push (seqObj "list" #[] 0) }) F hr hb I5 (I.fpOk hK (I.hok.fresh hK)) fD neD gk5 gD5 rv hl hi hkey fun s' out c I' g' ko=>⟨_,rfl,?_⟩)
 obtain ⟨qv,p1,p2,p3⟩:=ko
 obtain ⟨qs,z1,z2⟩:=Tj p1 (Si ks rv)
 obtain ⟨r1,r2⟩:=Jf z2
 have hp:qs.Pairwise (fun u v=>u.1≤v.1):=by
  have p3':(qv.map (·.1)).Pairwise (· ≤ ·):=List.pairwise_map.mpr (p3.imp fun h=>by simpa using h)
  rw[←r2] at p3'
  exact List.pairwise_map.mp p3'
 have hlen:(qs.map (·.2)).length≤sizeLine:=by
  rw[List.length_map,z1.length_eq,List.length_zip,sizeLine_eq]
  omega
 refine' wpAny_pure ⟨_,rfl,.ref D,cA H D (.lst (qs.map (·.2))),ku (s:=s') (h':=s'.heap) (t':=s'.toks) I' fD (fun _ _ _ e=>e) ⟨hlen,out.toList,c,?_,?_⟩,rfl,q qs D z1 hp fD.1⟩
 ·rw[p2]
  exact r1
 ·rw[g'] <;> simp[seqObj]
end
def di (X:Cx) (f:Addr) (x:V) (H1:Hp) (Q:VK):Prop:=∃ (a:Addr) (xs:List V) (ks:List Int) (k:Nat) (fd:FuncData) (ps:List Str) (sp:Sp),x=V.ref a∧SqL X.K H1 a xs∧ks.length=xs.length∧xs.length<64∧bO X.prog X.w X.K X.mg X.base eC k f fd ps sp∧Room (k + 2) X.A∧Binds X.K fd ps [] ∧
 (∀ (i:Nat) (x:V) (n:Int),xs[i]? = some x→ks[i]? = some n→sp [x] H1 (fun v H'=>v = .int n∧H'=H1) E0) ∧
 ∀ (qs:List (Int×V)) (p:Addr),qs.Perm (ks.zip xs)→qs.Pairwise (fun u v=>u.1≤v.1)→H1 p=none→Q (.ref p) (cA H1 p (.lst (qs.map (·.2))))
def gi (X:Cx) (te:TE) (f:Addr):TE:=fun σ H Q=>te σ H fun x H1=>di X f x H1 Q
section
variable {X:Cx}
theorem Jp {p pos kp gp:Pos}{e:Expr}{g:Str}{te:TE}{f:Addr} (hg:Gl X "sorted") (hm:X.mg "sorted" = none) (he:PE X e te) (gg:Gl X g) (gm:X.mg g=some (.ref f)) (gd:(g == ("__debug__" : Str))=false:=by decide)
  (hs:starEach [e] X.env=[(false,eval e X.env)]:=by rfl):PE X (.Call (.Name "sorted" p) [e] [⟨some "key",.Name g gp,kp⟩] pos) (gi X te f):=by
 intro pins s σ H Q I h
 have ha:PA X [e] (gJ te lQ):=aB he aD (by rw[hs];rfl)
 have hk:PK X [⟨some "key",.Name g gp,kp⟩] (gJ (tC (.ref f)) lQ):=aw (fC gg gm rfl gd) fz
 refine wpAny_Call_Name_kw (xM I hg hm (show bootBuiltins "sorted" = some (.builtin "sorted") by decide +kernel) ?_ (by decide) (by decide))
 refine callWith_builtin_kwB (by rw[hs];rfl) rfl (evalArgs_kw2 rfl (eZ (ha pos pins s σ H (fun vs H1=>match vs with | [x]=>di X f x H1 Q | _=>False) I h) fun us s1 ⟨vs,H1,I1,r1,q1⟩=>?_) hs)
 refine eZ (hk pos pins s1 σ H1 (fun vs' H2=>vs'=[.ref f]∧H2=H1) I1 ⟨rfl,rfl⟩) fun ws s2 ⟨zs,H2,I2,rz,ez,eH⟩=>?_
 subst ez eH
 match vs,r1,q1 with
 | [x],.cons rx .nil,q1=>
  obtain ⟨a,xs,ks,k,fd,ps,sp,ex,h1,h2,h3,h4,h5,h6,h7,h8⟩:=q1
  subst ex
  cases rx
  cases rz with
  | cons rf rr=>
   cases rf
   cases rr
   exact Pf h4 h5 h6 I2 h1 h2 h3 h7 h8
end
section
open AutoSeq1 (wpAny_loadPart')
theorem ph (T:Addr) (vs:Array Value) (m:Nat) (dc:Option Addr) (sl:Array (Option Value)):Meets (Builtin.«enumerate.__new__» ⟨[.type "enumerate",.ref T],[]⟩) (fun _ R s=>s.heap.get? T=some { cls:=.type "tuple",dict:=dc,data:=.seq vs m,slots:=sl } ∧
  R (.ok (.ret (.ref (s.heap.push { cls:=.type "tuple_iterator",data:=.fields #[.ref T,.int 0 0] }).objs.size))) { s with heap:=(s.heap.push { cls:=.type "tuple_iterator",data:=.fields #[.ref T,.int 0 0] }).push { cls:=.type "enumerate",data:=.fields #[.none,.bool false,.ref s.heap.objs.size,rawInt 0,.none,.none] } }) :=
 .of_wp fun prog w A R s0 h0=>by
  obtain ⟨hp,gn,dw,tk,os⟩:=s0
  obtain ⟨hT,hR⟩:=h0
  have hsub:=sub_enumerate
  have hI:Heap.IsTuple (Shared.heap ⟨hp,gn,dw,tk,os⟩) T vs:=⟨_,hT,rfl,m,rfl⟩
  wp_walk using wpAny_loadPart' hT
  refine wpAny_stack_any fun st=>wpAny_pure ?_
  split
  ·rename_i c _ _ _ _ _
   cases (c == Value.type "enumerate")
   ·wp_walk using wpAny_loadPart' hT,wpAny_pyIter_tuple hI
    exact ⟨_,rfl,hR⟩
   ·wp_walk using wpAny_loadPart' hT,wpAny_pyIter_tuple hI
    exact ⟨_,rfl,hR⟩
  ·wp_walk using wpAny_loadPart' hT,wpAny_pyIter_tuple hI
   exact ⟨_,rfl,hR⟩
variable {prog:Program}{w:World}{A:Around}{E:Value→Shared→Prop}{s:Shared}
theorem Fr {it T:Addr}{i:Nat}{vs:Array Value}{x:Value}{Q:Value→Shared→Prop} (hi:s.heap.IsTupleIter it T i) (hT:s.heap.IsTuple T vs) (hx:vs[i]? = some x) (hQ:∀ h',h'.IsTupleIter it T (i + 1)→Heap.SameBut it s.heap h'→Q x { s with heap:=h' }):wpAny (model prog w) A (Builtin.SmallTypes.nextOf (.ref it)) Q E s:=by
 obtain ⟨oi,hoi,hci,hdi⟩:=id hi
 obtain ⟨ot,hot,_,nt,hdt⟩:=hT
 unfold Builtin.SmallTypes.nextOf
 refine wpAny_bind (wpAny_callSpecial?_slot (name:=Str.ofString "__next__") hi.typeIs F.slot_tuple_iterator_next (wpAny_call_entry F.slot_tuple_iterator_next hi.typeIs F.entry_tuple_iterator_next ?_ (F.args_tuple_iterator_next_1 _)))
 show wpAny _ _ (field (.ref it) 0 >>= _) _ _ s
 refine wpAny_bind (wpAny_field hoi hdi (x:=.ref T) rfl ?_)
 show wpAny _ _ (if (Value.ref T == Value.none)=true then _ else _) _ _ s
 rw[if_neg (show ¬ ((Value.ref T == Value.none)=true) from Bool.false_ne_true)]
 show wpAny _ _ (field (.ref it) 1 >>= _) _ _ s
 refine wpAny_bind (wpAny_field hoi hdi (x:=.int i 0) rfl ?_)
 show wpAny _ _ (seqItems? (.ref T) >>= _) _ _ s
 refine wpAny_bind (wpAny_seqItems hot hdt ?_)
 simp only[Int.toNat_natCast,hx]
 refine wpAny_bind (wpAny_setField hoi hdi (by simp) (wpAny_pure ⟨x,rfl,wpAny_pure (hQ _ ?_ (Heap.SameBut.update ..))⟩))
 exact ⟨_,Heap.get?_update_self _ hoi (Obj.isFreed_of_fields (Obj.data_mapFields hdi _)),(Obj.cls_mapFields ..).trans hci,by rw[Obj.data_mapFields hdi];simp[rawInt]⟩
theorem wU {it T:Addr}{i:Nat}{vs:Array Value}{Q:Value→Shared→Prop} (hh:A.handled=none) (hi:s.heap.IsTupleIter it T i) (hT:s.heap.IsTuple T vs) (hx:vs[i]? = none) (hE:∀ h' e,Heap.ExtBut it s.heap h'→(∃ o,h'.get? e=some o∧o.cls = .type "StopIteration")→E (.ref e) { s with heap:=h' }):wpAny (model prog w) A (Builtin.SmallTypes.nextOf (.ref it)) Q E s:=by
 obtain ⟨oi,hoi,hci,hdi⟩:=id hi
 obtain ⟨ot,hot,_,nt,hdt⟩:=hT
 unfold Builtin.SmallTypes.nextOf
 refine wpAny_bind (wpAny_callSpecial?_slot (name:=Str.ofString "__next__") hi.typeIs F.slot_tuple_iterator_next (wpAny_call_entry F.slot_tuple_iterator_next hi.typeIs F.entry_tuple_iterator_next ?_ (F.args_tuple_iterator_next_1 _)))
 show wpAny _ _ (field (.ref it) 0 >>= _) _ _ s
 refine wpAny_bind (wpAny_field hoi hdi (x:=.ref T) rfl ?_)
 show wpAny _ _ (if (Value.ref T == Value.none)=true then _ else _) _ _ s
 rw[if_neg (show ¬ ((Value.ref T == Value.none)=true) from Bool.false_ne_true)]
 show wpAny _ _ (field (.ref it) 1 >>= _) _ _ s
 refine wpAny_bind (wpAny_field hoi hdi (x:=.int i 0) rfl ?_)
 show wpAny _ _ (seqItems? (.ref T) >>= _) _ _ s
 refine wpAny_bind (wpAny_seqItems hot hdt ?_)
 simp only[Int.toNat_natCast,hx]
 refine wpAny_bind (wpAny_rule (wpAny_bind (wpAny_setField hoi hdi (by simp) ?_)))
 show wpAny _ _ (newExc (.type "StopIteration") [] >>= _) _ _ _
 refine wpAny_bind ?_
 simp only[newExc,newTuple]
 refine wpAny_bind (wpAny_newObj_type ?_ (by size_fits))
 refine wpAny_bind (m:=firstArgMember _ _) (wpAny_of_eq (a:=Value.none) (by first | rfl | (simp only[firstArgMember];rfl)) ?_)
 refine wpAny_newObj_type ?_ (by size_fits)
 simp only[raiseNew]
 refine wpAny_bind (wpAny_handled ?_)
 first | rw[show A.in1.handled=none from hh] | rw[hh]
 refine wpAny_bind (wpAny_pure (wpAny_throw ?_))
 exact hE _ _ (((Heap.SameBut.update ..).extBut.push _).push _) ⟨_,Heap.get?_push_size _ rfl,rfl⟩
theorem Uh {it T:Addr}{vs:Array Value} (ne:T≠it) (hh:A.handled=none):Draws prog w A it [it,T] vs.size (fun i x=>vs[i]? = some x) (fun i h=>h.IsTupleIter it T i∧h.IsTuple T vs) where
 live:=fun i h st=>let ⟨⟨o,ho,_⟩,_⟩:=st;⟨o,ho⟩
 frame:=fun i h h' st k=>⟨st.1.at fun o q=>k it (by simp) o q,let ⟨o,ho,r⟩:=st.2;⟨o,k T (by simp) o ho,r⟩⟩
 item:=fun i s Q E hi st hQ=>by
  obtain ⟨x,hx⟩:∃ x,vs[i]? = some x:=⟨vs[i],Array.getElem?_eq_getElem hi⟩
  exact Fr st.1 st.2 hx fun h' h1 h2=>hQ x h' s.toks hx ⟨h1,st.2.extBut h2.extBut ne⟩ h2
 done:=fun s Q E st hE=>wU hh st.1 st.2 (Array.getElem?_eq_none (Nat.le_refl _)) hE
theorem Qw {T:Addr}{vs:Array Value}{Q:Value→Shared→Prop} (hT:s.heap.IsTuple T vs)
  (h:∀ h',IsEnum h' (s.heap.objs.size + 1) s.heap.objs.size 0 .none→h'.IsTupleIter s.heap.objs.size T 0→h'.objs.size=s.heap.objs.size + 2→(∀ b o,s.heap.get? b=some o→h'.get? b=some o)→Q (.ref (s.heap.objs.size + 1)) { s with heap:=h' }) :
  wpAny (model prog w) A (call (.type "enumerate") [.ref T]) Q E s:=by
 obtain ⟨⟨c,dc,dt,sl⟩,hl,hc,m,hd⟩:=hT
 replace hc:c = .type "tuple":=hc
 replace hd:dt = .seq vs m:=hd
 subst hc hd
 refine callType_new F.called_enumerate (by decide) (F.typeCall_enumerate_1 _) (F.newCall_enumerate_1 _) (fun obj=>F.args_object_init_2 obj _) F.entry_enumerate_new (ph T vs m dc sl) ⟨hl,?_⟩
 have hz:(s.heap.push { cls:=.type "tuple_iterator",data:=.fields #[.ref T,.int 0 0] }).objs.size=s.heap.objs.size + 1:=Heap.size_push ..
 show _∧_
 rw[hz]
 have he:IsEnum ((s.heap.push { cls:=.type "tuple_iterator",data:=.fields #[.ref T,.int 0 0] }).push { cls:=.type "enumerate",data:=.fields #[.none,.bool false,.ref s.heap.objs.size,rawInt 0,.none,.none] }) (s.heap.objs.size + 1) s.heap.objs.size 0 .none:=by
  have z:=Heap.get?_push_size (s.heap.push { cls:=.type "tuple_iterator",data:=.fields #[.ref T,.int 0 0] }) (o:={ cls:=.type "enumerate",data:=.fields #[.none,.bool false,.ref s.heap.objs.size,rawInt 0,.none,.none] }) rfl
  rw[hz] at z
  exact z
 refine ⟨⟨_,he,rfl⟩,h _ he ⟨_,Heap.get?_push_of_some _ (Heap.get?_push_size _ rfl),rfl,rfl⟩ (by rw[Heap.size_push,hz]) fun b o x=>Heap.get?_push_of_some _ (Heap.get?_push_of_some _ x)⟩
end
section
def Vz (K:PySem.W.Frag) (a:Addr):It :=
 ⟨fun i H=>∃ (xs:List V) (x:V),SqT K H a xs∧xs[i]? = some x,fun i H v H'=>∃ T x,v = .ref T∧H T=none∧H'=cA H T (.tup [.int (i:Nat),x])∧∀ xs,SqT K H a xs→xs[i]? = some x,fun i H=>∃ xs:List V,SqT K H a xs∧xs.length≤i⟩
theorem Qi {P:Program}{w:World}{K:PySem.W.Frag}{elts:List Expr}{kk:Nat}{tpos:Pos} (a e it:Addr) :
  Ij P w K (.Tuple elts kk tpos) (Vz K a) [e,it] e (fun i h=>(∃ old,IsEnum h e it ((i:Nat):Int) old)∧h.IsTupleIter it a i∧e≠it) where
 mem:=by simp
 obj:=fun i h st b hb=>by
  obtain ⟨⟨old,he⟩,⟨o,ho,hc,hd⟩,_⟩:=st
  have e':b=e∨b=it:=by simpa using hb
  rcases e' with z | z
  ·rw[z];exact ⟨_,he,fun v q=>nomatch q⟩
  ·rw[z];exact ⟨o,ho,fun v q=>by rw[hd] at q;cases q⟩
 keep:=fun i h h' st k=>let ⟨⟨old,he⟩,hi,hne⟩:=st;⟨⟨old,k e (by simp) _ he⟩,hi.at fun o q=>k it (by simp) o q,hne⟩
 item:=by
  intro X hP hw hK hc i pins s σ H E I hf st hg
  subst hP hw hK
  obtain ⟨⟨old,he⟩,hit,hne⟩:=st
  obtain ⟨xs,x,hq,hx⟩:=hg
  obtain ⟨its,rv,p,hz⟩:=I.tuple hq
  have p:s.heap.IsTuple a its.toArray:=p
  obtain ⟨u,hu,ru⟩:=rv.get hx
  have hel:e<s.heap.objs.size:=Heap.lt_size he
  have hil:it<s.heap.objs.size:=by obtain ⟨_,q,_⟩:=hit;exact Heap.lt_size q
  have nai:a≠it:=fun z=>by
   obtain ⟨o1,e1,c1,_⟩:=p
   obtain ⟨o2,e2,c2,_⟩:=hit
   rw[z,e2] at e1
   cases e1
   rw[c1] at c2
   exact absurd (Value.type.inj c2) (by decide)
  have nae:e≠a:=fun z=>by
   obtain ⟨o1,e1,c1,_⟩:=p
   rw[←z,he] at e1
   cases e1
   exact absurd (Value.type.inj c1) (by decide)
  have hin:i<its.toArray.size:=by simpa using (List.getElem?_eq_some_iff.mp hu).1
  refine wpAny_pyNext_enum_itemD (D:=Uh (A:=X.A.in1) nai (show X.A.in1.handled=none from I.ok.hd hc)) he ⟨hit,p⟩ hin hne (by simp[hne,nae]) fun y h' tk hy ho st' hT hsz hk=>?_
  have ey:y=u:=by
   have:=hy.symm.trans (show its.toArray[i]? = some u by simpa using hu)
   exact Option.some.inj this
  subst ey
  refine ⟨_,rfl,wpAny_letOwnedTupleGo_enum (s:={ s with heap:=h',toks:=tk + 1 }) ho fun h'' he' sb=>?_⟩
  have hT2:h''.get? s.heap.objs.size=some { cls:=.type "tuple",data:=.seq #[.int i tk,y] }:=(sb.2 _ (Nat.ne_of_gt hel)).trans hT
  have new:ObjOk X.prog X.w (cA H s.heap.objs.size (.tup [.int (i:Nat),x])) h'' s.heap.objs.size (.tup [.int (i:Nat),x]):=⟨by show 2≤sizeLine;decide,[.int i tk,y],.cons ⟨_,rfl⟩ (.cons ru .nil),⟨_,hT2,rfl,_,rfl⟩⟩
  have I1:Inv X pins σ (cA H s.heap.objs.size (.tup [.int (i:Nat),x])) { s with heap:=h'',toks:=tk + 1 } :=
   I.turnedNew (ch:=[e,it]) (fun b ob hb q=>(sb.2 b (fun z=>hb (by simp[z]))).trans (hk b ob (fun z=>hb (by simp[z])) (fun z=>hb (by simp[z])) q)) hf (Nat.le_refl _) new
  refine ⟨.ref s.heap.objs.size,_,I1,rfl,⟨_,x,rfl,I.hok.fresh (Nat.le_refl _),rfl,fun ys hy=>by rw[I.tuple_inj hy hq];exact hx⟩,⟨⟨y,?_⟩,st'.1.at fun o q=>(sb.2 it (Ne.symm hne)).trans q,hne⟩,fun b hb=>?_⟩
  ·have e1:((i + 1:Nat):Int)=(i:Int) + 1:=by omega
   rw[e1]
   exact he'
  ·have hb':b<s.heap.objs.size:=by
    have e':b=e∨b=it:=by simpa using hb
    rcases e' with z | z
    ·rw[z];exact hel
    ·rw[z];exact hil
   rw[aV (Nat.ne_of_lt hb')]
   exact (hf b hb).1
 done:=by
  intro X hP hw hK hc i pins s σ H E I hf st hg
  subst hP hw hK
  obtain ⟨⟨old,he⟩,hit,hne⟩:=st
  obtain ⟨xs,hq,hx⟩:=hg
  obtain ⟨its,rv,p,hz⟩:=I.tuple hq
  have p:s.heap.IsTuple a its.toArray:=p
  obtain ⟨f0,f1,f2,f3,f4,f5⟩:=hf it (by simp)
  have hl:=rv.length
  have hT:s.TypeIs (.ref e) "enumerate":=⟨_,he,rfl⟩
  unfold pyNext
  refine wpAny_bind (wpAny_attempt (wpAny_callSpecial?_slot (name:=Str.ofString "__next__") hT F.slot_enumerate_next (wpAny_call_entry F.slot_enumerate_next hT F.entry_enumerate_next ?_ (F.args_enumerate_next_1 _))))
  show wpAny _ _ (field (.ref e) 2 >>= _) _ _ _
  refine wpAny_bind (wpAny_field he rfl (x:=.ref it) rfl ?_)
  refine wpAny_bind (wU (show X.A.in1.handled=none from I.ok.hd hc) hit p (by simp;omega) fun h' x he' hx'=>?_)
  obtain ⟨o,ho,hcc⟩:=hx'
  refine wpAny_bind (wpAny_isInstance (T:="StopIteration") (b:=true) ⟨o,ho,hcc⟩ isSubtype_stop ?_)
  exact wpAny_pure ⟨rfl,I.turned (t':=s.toks) (fun b o hb q=>he' b o hb q) f0 f1 f3 f4 f5⟩
 self:=fun A i s Q E st h=>let ⟨⟨_,he⟩,_⟩:=st;wpAny_pyIter_enum he h
def Wz (K:PySem.W.Frag) (ta:TA):TI:=fun σ H R=>ta σ H fun vs H1=>∃ a xs,vs=[.ref a]∧SqT K H1 a xs∧R (Vz K a) H1
theorem Xw {X:Cx}{e:Expr}{ta:TA}{p pos tpos:Pos}{elts:List Expr}{kk:Nat} (hg:Gl X "enumerate") (hm:X.mg "enumerate" = none) (ha:PA X [e] ta) (hs:starEach [e] X.env=[(false,eval e X.env)]:=by rfl) :
  PI X (.Tuple elts kk tpos) (.Call (.Name "enumerate" p) [e] [] pos) (Wz X.K ta):=by
 intro pins s σ H R I h
 refine Call_ (xM I hg hm boot_enumerate (PyProof.Rows.callWith_type1 (eZ (ha pos pins s σ H _ I h) fun us s1 ⟨vs,H1,I1,r1,q1⟩=>?_) hs rfl))
 obtain ⟨a,xs,ex,hq,q⟩:=q1
 subst ex
 cases r1 with
 | cons r rr=>
  cases rr
  cases r
  obtain ⟨its,rv,p',hz⟩:=I1.tuple hq
  refine Qw (show s1.heap.IsTuple a its.toArray from p') fun h' he hit hsz hk=>wpAny_pyIter_enum he ?_
  have I2:Inv X pins σ H1 { s1 with heap:=h' }:=I1.kept (t':=s1.toks) hk
  refine ⟨s1.heap.objs.size + 1,[s1.heap.objs.size + 1,s1.heap.objs.size],_,_,H1,rfl,I2,Qi a (s1.heap.objs.size + 1) s1.heap.objs.size,⟨⟨.none,he⟩,hit,Nat.succ_ne_self _⟩,fun b hb=>?_,q⟩
  have e':b=s1.heap.objs.size + 1∨b=s1.heap.objs.size:=by simpa using hb
  have hle:s1.heap.objs.size≤b:=by
   rcases e' with z | z
   ·rw[z];exact Nat.le_add_right _ _
   ·rw[z];exact Nat.le_refl _
  exact I1.fpOk hle (I1.hok.fresh hle)
theorem Xx {K:PySem.W.Frag}{a:Addr}{xs:List V}{g:TG}{tb:TS}{D:jB}{σ:L2.St}{H:Hp} (Pv:Nat→L2.St→Hp→Prop) (h0:Pv 0 σ H) (hl:∀ i σ H,i≤xs.length→Pv i σ H→SqL K H a xs)
  (hs:∀ i x T σ H,xs[i]? = some x→Pv i σ H→H T=none→g (.ref T) σ (cA H T (.tup [.int (i:Nat),x])) fun σ2 H2=>tb { D with nx:=Pv (i + 1),ct:=Pv (i + 1),bk:=D.nx } σ2 H2) (hd:∀ σ H,Pv xs.length σ H→D.nx σ H) :
  ∃ W:Nat→Nat→L2.St→Hp→Prop,(∃ m,W 0 m σ H)∧∀ i m σ H,W i m σ H→((Vt K a).stop i H∧D.nx σ H)∨((Vt K a).go i H∧∃ N:L2.St→Hp→Prop,(∀ σ' H',N σ' H'→∃ m',m'<m∧W (i + 1) m' σ' H')∧∀ x H',(Vt K a).yld i H x H'→g x σ H' fun σ2 H2=>tb { D with nx:=N,ct:=N,bk:=D.nx } σ2 H2):=by
 refine ⟨fun i m σ H=>m=xs.length - i∧i≤xs.length∧Pv i σ H,⟨xs.length,by simp,Nat.zero_le _,h0⟩,?_⟩
 rintro i m σ H ⟨rfl,hi,p⟩
 have q:=hl i σ H hi p
 by_cases hlt:i<xs.length
 ·refine .inr ⟨⟨xs,xs[i],q,by simp[hlt]⟩,Pv (i + 1),fun σ' H' p'=>⟨xs.length - (i + 1),by omega,rfl,hlt,p'⟩,fun x H' y=>?_⟩
  obtain ⟨T,z,e1,e2,e3,y⟩:=y
  subst e1 e3
  exact hs i z T σ _ (y xs q) p e2
 ·have e:i=xs.length:=by omega
  subst e
  exact .inl ⟨⟨xs,q,Nat.le_refl _⟩,hd σ H p⟩
theorem Sw {K:PySem.W.Frag}{a:Addr}{xs:List V}{g:TG}{tb:TS}{D:jB}{σ:L2.St}{H:Hp} (Pv:Nat→L2.St→Hp→Prop) (h0:Pv 0 σ H) (hl:∀ i σ H,i≤xs.length→Pv i σ H→SqT K H a xs)
  (hs:∀ i x T σ H,xs[i]? = some x→Pv i σ H→H T=none→g (.ref T) σ (cA H T (.tup [.int (i:Nat),x])) fun σ2 H2=>tb { D with nx:=Pv (i + 1),ct:=Pv (i + 1),bk:=D.nx } σ2 H2) (hd:∀ σ H,Pv xs.length σ H→D.nx σ H) :
  ∃ W:Nat→Nat→L2.St→Hp→Prop,(∃ m,W 0 m σ H)∧∀ i m σ H,W i m σ H→((Vz K a).stop i H∧D.nx σ H)∨((Vz K a).go i H∧∃ N:L2.St→Hp→Prop,(∀ σ' H',N σ' H'→∃ m',m'<m∧W (i + 1) m' σ' H')∧∀ x H',(Vz K a).yld i H x H'→g x σ H' fun σ2 H2=>tb { D with nx:=N,ct:=N,bk:=D.nx } σ2 H2):=by
 refine ⟨fun i m σ H=>m=xs.length - i∧i≤xs.length∧Pv i σ H,⟨xs.length,by simp,Nat.zero_le _,h0⟩,?_⟩
 rintro i m σ H ⟨rfl,hi,p⟩
 have q:=hl i σ H hi p
 by_cases hlt:i<xs.length
 ·refine .inr ⟨⟨xs,xs[i],q,by simp[hlt]⟩,Pv (i + 1),fun σ' H' p'=>⟨xs.length - (i + 1),by omega,rfl,hlt,p'⟩,fun x H' y=>?_⟩
  obtain ⟨T,z,e1,e2,e3,y⟩:=y
  subst e1 e3
  exact hs i z T σ _ (y xs q) p e2
 ·have e:i=xs.length:=by omega
  subst e
  exact .inl ⟨⟨xs,q,Nat.le_refl _⟩,hd σ H p⟩
theorem Vc {P:Program}{w:World}{K:PySem.W.Frag}{d:Addr}{kvs:List (fJ×V)}{g:TG}{tb:TS}{D:jB}{σ:L2.St}{H:Hp} (Pv:Nat→L2.St→Hp→Prop) (h0:Pv 0 σ H)
  (hs:∀ i k v σ H,kvs[i]? = some (k,v)→Pv i σ H→g (kV k) σ H fun σ2 H2=>tb { D with nx:=Pv (i + 1),ct:=Pv (i + 1),bk:=D.nx } σ2 H2) (hd:∀ σ H,Pv kvs.length σ H→D.nx σ H) :
  ∃ W:Nat→Nat→L2.St→Hp→Prop,(∃ m,W 0 m σ H)∧∀ i m σ H,W i m σ H→((jn P w K d kvs).stop i H∧D.nx σ H)∨((jn P w K d kvs).go i H∧∃ N:L2.St→Hp→Prop,(∀ σ' H',N σ' H'→∃ m',m'<m∧W (i + 1) m' σ' H')∧∀ x H',(jn P w K d kvs).yld i H x H'→g x σ H' fun σ2 H2=>tb { D with nx:=N,ct:=N,bk:=D.nx } σ2 H2):=by
 refine ⟨fun i m σ H=>m=kvs.length - i∧i≤kvs.length∧Pv i σ H,⟨kvs.length,by simp,Nat.zero_le _,h0⟩,?_⟩
 rintro i m σ H ⟨rfl,hi,p⟩
 by_cases hlt:i<kvs.length
 ·refine .inr ⟨hlt,Pv (i + 1),fun σ' H' p'=>⟨kvs.length - (i + 1),by omega,rfl,hlt,p'⟩,fun x H' y=>?_⟩
  obtain ⟨e,k,v,hk,ex⟩:=y
  subst e ex
  exact hs i k v σ _ hk p
 ·have e:i=kvs.length:=by omega
  subst e
  exact .inl ⟨Nat.le_refl _,hd σ H p⟩
end
def Ev (t:TE) (σ:L2.St) (H:Hp) (v:V):Prop:=∀ Q:VK,Q v H→t σ H Q
def Lk (t:TA) (σ:L2.St) (H:Hp) (vs:List V):Prop:=∀ Q:List V→Hp→Prop,Q vs H→t σ H Q
def EvT (t:TT) (σ:L2.St) (H:Hp) (b:Bool):Prop:=∀ Q:Bool→Hp→Prop,Q b H→t σ H Q
section
variable {σ:L2.St}{H:Hp}{K:PySem.W.Frag}{ta tb tc te ty td tx:TE}{t u:TT}{tl tr:TA}{i j k:Int}{n:Nat}{x y v:V}{b c d:Bool}{a p:Addr}{xs vs:List V}
theorem aA (h:σ[n]? = some (some v)):Ev (lR n) σ H v:=fun Q q=>⟨v,h,q⟩
theorem aL:Ev (tC v) σ H v:=fun Q q=>q
theorem bH {g:Int→Int→V} (ha:Ev ta σ H (.int i)) (hb:Ev tb σ H (.int j)):Ev (Fh (Sn g) ta tb) σ H (g i j):=fun Q q=>ha _ (hb _ ⟨i,j,rfl,rfl,q⟩)
theorem jO {C:Int→Int→Prop}{g:Int→Int→V} (ha:Ev ta σ H (.int i)) (hb:Ev tb σ H (.int j)) (hc:C i j):Ev (Fh (rI C g) ta tb) σ H (g i j):=fun Q q=>ha _ (hb _ ⟨i,j,rfl,rfl,hc,q⟩)
theorem lq {g:Int→V} (ha:Ev ta σ H (.int i)):Ev (np (rU g) ta) σ H (g i):=fun Q q=>ha _ ⟨i,rfl,q⟩
theorem fA (ha:Ev ta σ H x) (hb:Ev tb σ H y) (hs:Zr x y=true:=by rfl):Ev (Fh mq ta tb) σ H (.bl (decide (x=y))):=fun Q q=>ha _ (hb _ ⟨hs,q⟩)
theorem yY (ha:Ev ta σ H x) (hb:Ev tb σ H y) (hs:Zr x y=true:=by rfl):Ev (Fh qd ta tb) σ H (.bl (!decide (x=y))):=fun Q q=>ha _ (hb _ ⟨hs,q⟩)
theorem xL (ha:Ev ta σ H x) (hb:Ev tb σ H .non):Ev (Fh (fun x y H Q=>y = .non∧Q (.bl (decide (x = .non))) H) ta tb) σ H (.bl (decide (x = .non))):=fun Q q=>ha _ (hb _ ⟨rfl,q⟩)
theorem Sh (ha:Ev ta σ H x) (hb:Ev tb σ H .non):Ev (Fh (fun x y H Q=>y = .non∧Q (.bl (!decide (x = .non))) H) ta tb) σ H (.bl (!decide (x = .non))):=fun Q q=>ha _ (hb _ ⟨rfl,q⟩)
theorem aH {C dx:Addr}{fs:List (Str×V)}{f:Str} (ha:Ev ta σ H (.ref a)) (h:H a=some (.ins C dx fs)) (c:Cls K C) (n:NoAttr K C f) (l:fs.lookup f=some v):Ev (Bn K ta f) σ H v:=fun Q q=>ha _ ⟨a,C,dx,fs,v,rfl,h,c,n,l,q⟩
theorem bL (ha:Ev ta σ H (.ref p)) (hb:Ev tb σ H (.int i)) (h:SqL K H p xs) (e:Gs xs i=some v):Ev (Fh (ff K) ta tb) σ H v:=fun Q q=>ha _ (hb _ ⟨p,xs,i,v,rfl,rfl,h,e,q⟩)
theorem uX (ha:Ev ta σ H (.ref p)) (hb:Ev tb σ H (.int i)) (h:SqT K H p xs) (e:Gs xs i=some v):Ev (Fh (ju K) ta tb) σ H v:=fun Q q=>ha _ (hb _ ⟨p,xs,i,v,rfl,rfl,h,e,q⟩)
theorem eA:Lk lQ σ H []:=fun Q q=>q
theorem bA (ha:Ev ta σ H v) (hr:Lk tr σ H vs):Lk (gJ ta tr) σ H (v :: vs):=fun Q q=>ha _ (hr _ q)
theorem bW (ha:Ev ta σ H v):Lk (gJ ta lQ) σ H [v]:=bA ha eA
theorem bS {w:V} (ha:Ev ta σ H v) (hb:Ev tb σ H w):Lk (gJ ta (gJ tb lQ)) σ H [v,w]:=bA ha (bW hb)
theorem cW (ha:Lk tl σ H [.ref p]) (h:SqL K H p xs):Ev (du (fun xs H Q=>∃ p ys,xs=[.ref p]∧(SqL K H p ys∨SqT K H p ys)∧Q (.int ys.length) H) tl) σ H (.int xs.length):=fun Q q=>ha _ ⟨p,xs,rfl,.inl h,q⟩
theorem bw (ha:Lk tl σ H [.ref p]) (h:SqT K H p xs):Ev (du (fun xs H Q=>∃ p ys,xs=[.ref p]∧(SqL K H p ys∨SqT K H p ys)∧Q (.int ys.length) H) tl) σ H (.int xs.length):=fun Q q=>ha _ ⟨p,xs,rfl,.inr h,q⟩
theorem Wv (ha:Lk tl σ H [.int i]):Ev (du (fun xs H Q=>∃ i,xs=[.int i]∧Q (.int (if i<0 then -i else i)) H) tl) σ H (.int (if i<0 then -i else i)):=fun Q q=>ha _ ⟨i,rfl,q⟩
theorem jE {p q:Int→Int→Bool} (ha:Ev ta σ H (.int i)) (hb:Ev tb σ H (.int j)) (hc:Ev tc σ H (.int k)):Ev (Wt (Sn fun i j=>.bl (p i j)) (Sn fun i j=>.bl (q i j)) ta tb tc) σ H (.bl (p i j && q j k)):=fun Q h=>ha _ (hb _ ⟨i,j,rfl,rfl,p i j,rfl,by
 cases e:p i j with
 | true=>rw[e] at h;exact iE (hc _ ⟨j,k,rfl,rfl,h⟩)
 | false=>rw[e] at h;exact rG h⟩)
theorem Lp (ht:EvT t σ H b) (h1:b=true→Ev ta σ H x) (h2:b=false→Ev tb σ H y):Ev (mr t ta tb) σ H (if b=true then x else y):=fun Q q=>ht _ (by
 cases b with
 | true=>exact iE (h1 rfl Q q)
 | false=>exact rG (h2 rfl Q q))
theorem lv (ha:Ev ta σ H (.bl b)) (hb:b=false→Ev tb σ H (.bl c)):Ev (jy ta tb) σ H (.bl (b || c)):=fun Q q=>ha _ ⟨b,rfl,by
 cases b with
 | true=>exact iE q
 | false=>exact rG (hb rfl Q q)⟩
theorem gP {kvs:List (fJ×V)} (hd:Ev td σ H (.ref a)) (hy:Ev ty σ H (.int i)) (h:H a=some (.dK kvs)) (l:lD kvs (Sum.inl i)=some v):Ev (Wc td ty) σ H v:=fun Q q=>hd _ (hy _ ⟨a,v,rfl,(show DGet H a (kV (Sum.inl i)) (some v) by rw[←l];exact DGet.k h),q⟩)
theorem Ir {kvs:List (fJ×V)} (hy:Ev ty σ H (.int i)) (hd:Ev td σ H (.ref a)) (h:H a=some (.dK kvs)):Ev (fc ty td) σ H (.bl (lD kvs (Sum.inl i)).isSome):=fun Q q=>hy _ (hd _ ⟨a,_,rfl,DGet.k (k:=Sum.inl i) h,q⟩)
theorem gA {kvs:List (fJ×V)} (hy:Ev ty σ H (.int i)) (hd:Ev td σ H (.ref a)) (h:H a=some (.dK kvs)):Ev (Ry ty td) σ H (.bl (!(lD kvs (Sum.inl i)).isSome)):=fun Q q=>hy _ (hd _ ⟨a,_,rfl,DGet.k (k:=Sum.inl i) h,q⟩)
theorem rP {kvs:List (fJ×V)} (hd:Ev td σ H (.ref a)) (hy:Ev ty σ H (.int i)) (hx:Ev tx σ H x) (h:H a=some (.dK kvs)):Ev (Xk td ty tx) σ H ((lD kvs (Sum.inl i)).getD x):=fun Q q=>hd _ ⟨a,rfl,.inl ⟨kvs,.inl h⟩,hy _ (hx _ ⟨_,DGet.k (k:=Sum.inl i) h,q⟩)⟩
theorem Cc {X:Cx}{kvs:List (fJ×V)}{k:fJ} (hd:Ev td σ H (.ref a)) (hy:Ev ty σ H (kV k)) (h:KDict X.prog X.w X.K a kvs) (l:lD kvs k=some v):Ev (Ww X td ty) σ H v:=fun Q q=>hd _ (hy _ ⟨a,kvs,k,v,rfl,h,rfl,l,q⟩)
theorem aZ {sp:Sp}{E:XK} (ha:Lk tl σ H vs) (h:∀ Q:VK,Q v H→sp vs H Q E):Ev (zB sp [] E tl) σ H v:=fun Q q=>ha _ (by rw[List.append_nil];exact h Q q)
theorem bQ {sp:Sp}{E:XK}{Q:VK} (ha:Lk tl σ H vs) (h:sp vs H Q E):zB sp [] E tl σ H Q:=ha _ (by rw[List.append_nil];exact h)
theorem ah {sp:Sp}{E:XK}{Q:VK} (h:sp [] H Q E):zB sp [] E lQ σ H Q:=h
theorem rJ {C dx:Addr}{m:Str}{fs:List (Str×V)}{sp:Sp}{E:XK}{Q:VK} (ho:Ev ta σ H (.ref a)) (h:H a=some (.ins C dx fs)) (l:fs.lookup m=none) (ha:Lk tl σ H vs) (q:sp (.ref a :: vs) H Q E):Rc C m sp [] E ta tl σ H Q:=ho _ ⟨a,dx,fs,rfl,h,l,ha _ (by rw[List.append_nil];exact q)⟩
theorem aa {C dx:Addr}{m:Str}{fs:List (Str×V)}{sp:Sp}{E:XK} (ho:Ev ta σ H (.ref a)) (h:H a=some (.ins C dx fs)) (l:fs.lookup m=none) (ha:Lk tl σ H vs) (q:∀ Q:VK,Q v H→sp (.ref a :: vs) H Q E):Ev (Rc C m sp [] E ta tl) σ H v:=fun Q hq=>rJ ho h l ha (q Q hq)
theorem dI {Q:VK} (ha:Lk tl σ H vs) (hl:vs.length≤sizeLine) (h:∀ p,H p=none→Q (.ref p) (cA H p (.lst vs))):Zq tl σ H Q:=ha _ ⟨hl,h⟩
theorem We {Q:VK} (ha:Lk tl σ H vs) (hl:vs.length≤sizeLine) (h:∀ p,H p=none→Q (.ref p) (cA H p (.tup vs))):Zp tl σ H Q:=ha _ ⟨hl,h⟩
theorem aO (h:Ev ta σ H (.bl b)):EvT (Gv ta) σ H b:=fun Q q=>h _ ⟨b,rfl,q⟩
theorem bR (h:Ev ta σ H (.bl b)):EvT (tB ta) σ H b:=fun Q q=>h _ ⟨b,rfl,q⟩
theorem dA (h:EvT t σ H b) (k:b=true→EvT u σ H c):EvT (Zl t u) σ H (b && c):=fun Q q=>h _ (by
 cases b with
 | true=>exact iE (k rfl Q q)
 | false=>exact rG q)
theorem xO (h:EvT t σ H b) (k:b=false→EvT u σ H c):EvT (qf t u) σ H (b || c):=fun Q q=>h _ (by
 cases b with
 | true=>exact iE q
 | false=>exact rG (k rfl Q q))
theorem dH (h:EvT t σ H b):EvT (fb t) σ H (!b):=fun Q q=>h _ q
theorem lG:EvT Zv σ H true:=fun Q q=>q
theorem EvT.to (h:EvT t σ H b) (e:b=c):EvT t σ H c:=e ▸ h
theorem Ev.to (h:Ev ta σ H v) (e:v=x):Ev ta σ H x:=e ▸ h
end
section
variable {σ:L2.St}{H:Hp}{K:PySem.W.Frag}{D:jB}{te ta tv:TE}{t:TT}{s1 s2:TS}{b:Bool}{v:V}{n:Nat}
theorem sq (h:s1 { D with nx:=s2 D } σ H):pC s1 s2 D σ H:=h
theorem Gu (he:Ev te σ H v) (h:D.nx (σ.set n (some v)) H):Sr te (jC n) D σ H:=he _ h
theorem lS (ht:EvT t σ H b) (h1:b=true→s1 D σ H) (h2:b=false→s2 D σ H):Fk t s1 s2 D σ H:=ht _ (by
 cases b with
 | true=>exact iE (h1 rfl)
 | false=>exact rG (h2 rfl))
theorem cS (he:Ev te σ H v) (h:D.rt v H):Ln te D σ H:=he _ h
theorem bP (h:te σ H D.rt):Ln te D σ H:=h
theorem gU (h:te σ H fun _ H1=>D.nx σ H1):Lr te D σ H:=h
theorem eJ {C dx a:Addr}{fs:List (Str×V)}{f:Str} (hv:Ev tv σ H v) (ha:Ev ta σ H (.ref a)) (h:H a=some (.ins C dx fs)) (c:Cls K C) (nn:NoAttr K C f) (hl:fs.length<1000) (q:D.nx σ (cA H a (.ins C dx (eE f v fs)))):Vv K ta tv f D σ H:=hv _ (ha _ ⟨a,C,dx,fs,rfl,h,c,nn,hl,q⟩)
theorem ip {td ty:TE}{a:Addr}{kvs:List (fJ×V)}{i:Int} (hv:Ev tv σ H v) (hd:Ev td σ H (.ref a)) (hy:Ev ty σ H (.int i)) (h:H a=some (.dK kvs)) (hl:kvs.length<sizeLine) (q:D.nx σ (cA H a (.dK (pY kvs (Sum.inl i) v)))):Rh td ty tv D σ H:=hv _ (hd _ (hy _ ⟨a,_,rfl,DPut.k (k:=Sum.inl i) h hl,q⟩))
theorem Wy {a:Addr}{xs:List V}{tb:TS} (he:Ev te σ H (.ref a)) (hx:SqL K H a xs) (Pv:Nat→L2.St→Hp→Prop) (h0:Pv 0 σ H) (hl:∀ i σ H,i≤xs.length→Pv i σ H→SqL K H a xs)
  (hs:∀ i x σ H,xs[i]? = some x→Pv i σ H→tb { D with nx:=Pv (i + 1),ct:=Pv (i + 1),bk:=D.nx } (σ.set n (some x)) H) (hd:∀ σ H,Pv xs.length σ H→D.nx σ H):Fi (wB K te) (jC n) tb D σ H:=he _ ⟨a,rfl,⟨xs,hx⟩,Co Pv h0 hl hs hd⟩
theorem Xc {a:Addr}{xs:List V}{tb:TS} (hx:SqL K H a xs) (Pv:Nat→L2.St→Hp→Prop) (h0:Pv 0 σ H) (hl:∀ i σ H,i≤xs.length→Pv i σ H→SqL K H a xs)
  (hs:∀ i x σ H,xs[i]? = some x→Pv i σ H→tb { D with nx:=Pv (i + 1),ct:=Pv (i + 1),bk:=D.nx } (σ.set n (some x)) H) (hd:∀ σ H,Pv xs.length σ H→D.nx σ H) :
  ∃ a':Addr,V.ref a=V.ref a'∧(∃ xs,SqL K H a' xs)∧∃ W:Nat→Nat→L2.St→Hp→Prop,(∃ m,W 0 m σ H)∧∀ i m σ H,W i m σ H→((yX K a').stop i H∧D.nx σ H)∨((yX K a').go i H∧∃ N:L2.St→Hp→Prop,(∀ σ' H',N σ' H'→∃ m',m'<m∧W (i + 1) m' σ' H')∧∀ x H',(yX K a').yld i H x H'→jC n x σ H' fun σ2 H2=>tb { D with nx:=N,ct:=N,bk:=D.nx } σ2 H2):=⟨a,rfl,⟨xs,hx⟩,Co Pv h0 hl hs hd⟩
theorem fN {to:TE}{l:Addr}{xs:List V}{y:V}{Q:VK} (ho:Ev to σ H (.ref l)) (he:Ev te σ H y) (h:H l=some (.lst xs)) (hl:xs.length<sizeLine) (q:Q .non (cA H l (.lst (xs ++ [y])))):dv K "list" tZ to (gJ te lQ) σ H Q:=ho _ ⟨.inl ⟨rfl,_,SqL.of h⟩,he _ ⟨l,xs,y,rfl,rfl,h,hl,q⟩⟩
theorem Yw {to:TE}{l b:Addr}{xs zs:List V}{Q:VK} (ho:Ev to σ H (.ref l)) (he:Ev te σ H (.ref b)) (h:H l=some (.lst xs)) (hb:H b=some (.lst zs)) (hl:xs.length + zs.length≤sizeLine) (q:Q .non (cA H l (.lst (xs ++ zs)))):dv K "list" Bg to (gJ te lQ) σ H Q:=ho _ ⟨.inl ⟨rfl,_,SqL.of h⟩,he _ ⟨l,b,xs,zs,rfl,rfl,h,hb,hl,q⟩⟩
theorem az {tl th:TO}{a:Addr}{xs:List V}{lo hi:Option Int}{Q:VK} (he:Ev te σ H (.ref a)) (hl:∀ R:Option Int→Hp→Prop,R lo H→tl σ H R) (hh:∀ R:Option Int→Hp→Prop,R hi H→th σ H R) (hx:SqL K H a xs) (q:∀ p,H p=none→Q (.ref p) (cA H p (.lst (xJ xs lo hi)))):nu (fg K) te tl th σ H Q:=he _ (hl _ (hh _ ⟨a,xs,rfl,hx,q⟩))
theorem Gw {r:List V→Hp→VK→Prop}{Q:VK} (h:te σ H fun x H1=>r [x] H1 Q):du r (gJ te lQ) σ H Q:=h
theorem cK {tr:TA}{Q:List V→Hp→Prop} (h:te σ H fun x H1=>tr σ H1 fun xs H2=>Q (x :: xs) H2):gJ te tr σ H Q:=h
theorem uF (R:Option Int→Hp→Prop) (h:R none H):Rl σ H R:=h
theorem iZ {i:Int} (he:Ev te σ H (.int i)) (R:Option Int→Hp→Prop) (h:R (some i) H):df te σ H R:=he _ ⟨i,rfl,h⟩
end
section
variable {α:Type}
def pX (P:α→Bool) (F:V→α→V):List V→List α→List V
 | x :: xs,z :: zs=>if P z=true then F x z :: pX P F xs zs else pX P F xs zs
 | _,_=>[]
theorem Hn (P:α→Bool) (F:V→α→V):∀ {xs:List V}{zs:List α}{i:Nat}{x:V}{z:α},xs[i]? = some x→zs[i]? = some z→pX P F (xs.take (i + 1)) (zs.take (i + 1))=pX P F (xs.take i) (zs.take i) ++ (if P z=true then [F x z] else [])
 | [],_,_,_,_,h,_=>by simp at h
 | _ :: _,[],_,_,_,_,h=>by simp at h
 | a :: xs,c :: zs,0,x,z,h,h'=>by
  have e1:a=x:=by simpa using h
  have e2:c=z:=by simpa using h'
  subst e1 e2
  simp only[Nat.zero_add,List.take_succ_cons,List.take_zero,pX,List.nil_append]
 | a :: xs,c :: zs,i + 1,x,z,h,h'=>by
  have ih:=Hn P F (xs:=xs) (zs:=zs) (i:=i) (x:=x) (z:=z) (by simpa using h) (by simpa using h')
  simp only[List.take_succ_cons,pX]
  split
  ·rw[ih];rfl
  ·exact ih
theorem Mf (P:α→Bool) (F:V→α→V):∀ (xs:List V) (zs:List α),(pX P F xs zs).length≤xs.length
 | [],_=>by simp[pX]
 | _ :: _,[]=>by simp[pX]
 | a :: xs,c :: zs=>by
  simp only[pX]
  have:=Mf P F xs zs
  split <;> simp only[List.length_cons] <;> omega
theorem jH (P:α→Bool) (f:α→V):∀ (xs:List V) (zs:List α),zs.length=xs.length→pX P (fun _ z=>f z) xs zs=(zs.filter P).map f
 | [],[],_=>rfl
 | [],_ :: _,h=>by simp at h
 | _ :: _,[],h=>by simp at h
 | a :: xs,c :: zs,h=>by
  have ih:=jH P f xs zs (by simpa using h)
  simp only[pX,List.filter_cons]
  split
  ·rw[ih];rfl
  ·exact ih
theorem pJ {R:Addr→α→Prop} (P:α→Bool):∀ {as:List Addr}{zs:List α},All2 R as zs→∃ bs:List Addr,pX P (fun x _=>x) (as.map V.ref) zs=bs.map V.ref∧All2 R bs (zs.filter P)
 | [],[],_=>⟨[],rfl,trivial⟩
 | [],_ :: _,h=>h.elim
 | _ :: _,[],h=>h.elim
 | a :: as,c :: zs,h=>by
  obtain ⟨bs,e,k⟩:=pJ P (as:=as) (zs:=zs) h.2
  simp only[List.map_cons,pX,List.filter_cons]
  split
  ·exact ⟨a :: bs,by rw[e];rfl,h.1,k⟩
  ·exact ⟨bs,e,k⟩
variable {σ:L2.St}{H:Hp}{K:PySem.W.Frag}{tt:TT}{te tl:TE}{ws:List Nat}{n:Nat}{a:Addr}{xs:List V}{zs:List α}{Q:VK}
theorem Io (P:α→Bool) (F:V→α→V) (hx:SqL K H a xs) (hz:zs.length=xs.length) (hlen:xs.length<sizeLine) (hw:∀ x:V,eY ((eY σ ws).set n (some x)) ws=eY σ ws)
  (hs:∀ (i:Nat) (x:V) (z:α),xs[i]? = some x→zs[i]? = some z→∀ H':Hp,Same H H'→EvT tt ((eY σ ws).set n (some x)) H' (P z)∧(P z=true→Ev te ((eY σ ws).set n (some x)) H' (F x z)))
  (hq:∀ D,H D=none→Q (.ref D) (cA H D (.lst (pX P F xs zs)))) :
  ∃ a':Addr,V.ref a=V.ref a'∧(∃ xs,SqL K H a' xs)∧∀ D,H D=none→∃ W:Nat→Nat→Hp→Prop,(∃ m,W 0 m (cA H D (.lst [])))∧∀ i m H,W i m H →
   ((yX K a').stop i H∧Q (.ref D) H)∨((yX K a').go i H∧∃ Nx:Hp→Prop,(∀ H',Nx H'→∃ m',m'<m∧W (i + 1) m' H')∧∀ x H',(yX K a').yld i H x H'→jC n x (eY σ ws) H' fun σ2 H2=>eY σ2 ws=eY σ ws∧tt σ2 H2 fun b H3=>
    if b=true then te σ2 H3 fun y H4=>∃ acc,H4 D=some (.lst acc)∧acc.length<sizeLine∧Nx (cA H4 D (.lst (acc ++ [y]))) else Nx H3):=by
 refine ⟨a,rfl,⟨xs,hx⟩,fun D hD=>Rt (K:=K) (a:=a) (xs:=xs) (Qd:=fun H=>Q (.ref D) H) (fun i H'=>H'=cA H D (.lst (pX P F (xs.take i) (zs.take i)))) rfl (fun i H' _ e=>?_) ?_ ?_⟩
 ·rw[e]
  refine Same.seq (H:=H) (fun b o q=>?_) hx
  rw[aV (aQ q hD)]
  exact q
 ·rintro i x H' hi e
  obtain ⟨z,hzi⟩:∃ z,zs[i]? = some z:=⟨zs[i]'(by rw[hz];exact (List.getElem?_eq_some_iff.mp hi).1),List.getElem?_eq_getElem _⟩
  have sm:Same H H':=fun b o q=>by
   rw[e,aV (aQ q hD)]
   exact q
  obtain ⟨h1,h2⟩:=hs i x z hi hzi H' sm
  have ep:=Hn P F hi hzi
  refine ⟨hw x,h1 _ ?_⟩
  cases hp:P z with
  | true=>
   refine iE (h2 hp _ ⟨_,by rw[e];exact aF,?_,?_⟩)
   ·refine Nat.lt_of_le_of_lt (Mf P F _ _) ?_
    rw[List.length_take]
    omega
   ·rw[e,dN,ep,hp]
    rfl
  | false=>
   refine rG ?_
   rw[e,ep,hp]
   simp
 ·rintro H' e
  rw[e,List.take_length,←hz,List.take_length]
  exact hq D hD
theorem cq (P:α→Bool) (F:V→α→V) (he:Ev tl σ H (.ref a)) (hx:SqL K H a xs) (hz:zs.length=xs.length) (hlen:xs.length<sizeLine) (hw:∀ x:V,eY ((eY σ ws).set n (some x)) ws=eY σ ws)
  (hs:∀ (i:Nat) (x:V) (z:α),xs[i]? = some x→zs[i]? = some z→∀ H':Hp,Same H H'→EvT tt ((eY σ ws).set n (some x)) H' (P z)∧(P z=true→Ev te ((eY σ ws).set n (some x)) H' (F x z)))
  (hq:∀ D,H D=none→Q (.ref D) (cA H D (.lst (pX P F xs zs)))):cv (wB K tl) (jC n) tt te ws σ H Q:=he _ (Io P F hx hz hlen hw hs hq)
end
structure Cn (K:PySem.W.Frag) (mg:Str→Option Value) (x:Str) (C:Addr):Prop where
 cl:Cls K C
 mg:mg x=some (.ref C)
structure Dn (K:PySem.W.Frag) (mg:Str→Option Value) (x:Str) (st:Stmt) (ps:List Str) (f:Addr) (fd:FuncData):Prop where
 fn:Fun K x x st f fd
 bi:Binds K fd ps []
 mg:mg x=some (.ref f)
structure Mn (K:PySem.W.Frag) (C:Addr) (x qual:Str) (st:Stmt) (ps:List Str) (f:Addr) (fd:FuncData):Prop where
 fn:Fun K x qual st f fd
 bi:Binds K fd ps []
 me:Zk K C x f
structure Fg (K:PySem.W.Frag) (C:Addr) (qual:Str) (st:Stmt) (ps:List Str) (f:Addr) (fd:FuncData):Prop where
 fn:Fun K "__init__" qual st f fd
 bi:Binds K fd ps []
 ma:Mk K C f
def KTup (K:PySem.W.Frag) (a:Addr) (xs:List V):Prop:=∃ (o:Obj) (its:Array Value) (n:Nat),K.lookup a=some o∧o.cls = .type "tuple" ∧ o.data = .seq its n∧its.size≤sizeLine∧Vals xs its.toList
theorem KTup.sq {K:PySem.W.Frag}{a:Addr}{xs:List V} (h:KTup K a xs) (H:Hp):SqT K H a xs:=.inr h
def OA (H:Hp) (C:Addr) (fs:List (Str×V)) (a:Addr):Prop:=∃ dx,H a=some (.ins C dx fs)
theorem OA.same {H H':Hp}{C a:Addr}{fs:List (Str×V)} (h:OA H C fs a) (e:Same H H'):OA H' C fs a:=let ⟨dx,q⟩:=h;⟨dx,e _ _ q⟩
def LA {α:Type} (H:Hp) (C:Addr) (F:α→List (Str×V)) (l:Addr) (xs:List α):Prop:=∃ as:List Addr,H l=some (.lst (as.map V.ref))∧All2 (fun a x=>OA H C (F x) a) as xs
theorem LA.same {α:Type}{H H':Hp}{C l:Addr}{F:α→List (Str×V)}{xs:List α} (h:LA H C F l xs) (e:Same H H'):LA H' C F l xs :=
 let ⟨as,h1,h2⟩:=h;⟨as,e _ _ h1,h2.imp fun _ _ q=>q.same e⟩
theorem _root_.L2.Same.over {H H':Hp}{a:Addr}{o:HO} (s:Same H H') (h:H a=none):Same H (cA H' a o):=fun b u e=>by rw[aV (aQ e h)];exact s b u e
theorem bN {H:Hp}{a:Addr}{o:HO} (h:H a=none):Same H (cA H a o):=(Same.refl H).over h
def jk (H:Hp) (x dx C:Addr) (fs:List (Str×V)):Hp:=cA (cA H dx (.own x)) x (.ins C dx fs)
theorem cP {H:Hp}{x dx C:Addr}{fs:List (Str×V)} (hx:H x=none) (hd:H dx=none):Same H (jk H x dx C fs):=fun b u e=>by
 unfold jk
 rw[aV (aQ e hx),aV (aQ e hd)]
 exact e
theorem jP {H:Hp}{x dx C:Addr}{fs:List (Str×V)}:OA (jk H x dx C fs) C fs x:=⟨dx,aF⟩
def spNew (C:Addr) (names:List Str):Sp:=fun vs H Q _=>∃ (p dx:Addr) (xs:List V),vs = .ref p :: xs∧xs.length=names.length∧H p=some (.ins C dx [])∧Q .non (cA H p (.ins C dx (names.zip xs)))
theorem spNew.made {C:Addr}{names:List Str}{xs:List V}{H:Hp}{Q:VK}{E:XK} (hl:xs.length=names.length) (h:∀ x dx,H x=none→H dx=none→Q (.ref x) (jk H x dx C (names.zip xs))) :
  ∀ x dx,H x=none→H dx=none→dx≠x→spNew C names (.ref x :: (xs ++ [])) (cA (cA H dx (.own x)) x (.ins C dx [])) (fun v H2=>v = .non∧Q (.ref x) H2) E:=by
 intro x dx hx hd hne
 rw[List.append_nil]
 refine ⟨x,dx,xs,rfl,hl,aF,rfl,?_⟩
 rw[dN]
 exact h x dx hx hd
def Og (K:PySem.W.Frag) (a:Addr) (bs:List (Int×Int)):Prop:=∃ as:List Addr,KTup K a (as.map V.ref)∧All2 (fun t b=>KTup K t [.int b.1,.int b.2]) as bs
def Ii:Nat→List Addr→List (fJ×V)
 | _,[]=>[]
 | n,a :: r=>(.inl (n:Int),.ref a) :: Ii (n + 1) r
def top (i:Nat):Stmt:=PySem.Challenge.pw_mineroads_s01_answers.main.body.getD i (.Pass ⟨0,0,0,0⟩)
abbrev kW:Stmt:=fL (top 5) 0
abbrev mW:Stmt:=fL (top 5) 1
abbrev rX:Stmt:=fL (top 6) 0
abbrev vU:Stmt:=fL (top 6) 1
abbrev qK:Stmt:=fL (top 7) 0
abbrev sY:Stmt:=fL (top 7) 1
abbrev mK:Stmt:=fL (top 8) 0
abbrev oJ:Stmt:=fL (top 8) 1
abbrev vK:Stmt:=fL (top 9) 0
abbrev nS:Stmt:=fL (top 23) 0
abbrev oS:Stmt:=fL (top 23) 1
abbrev kQ:Stmt:=fL (top 23) 2
abbrev sV:Stmt:=fL (top 23) 3
abbrev mF:Stmt:=fL (top 25) 0
abbrev mQ:Stmt:=fL (top 52) 0
abbrev sT:Stmt:=fL (top 96) 0
abbrev sW:Stmt:=fL (top 113) 0
abbrev sE:Stmt:=top 10
abbrev vF:Stmt:=top 11
abbrev kR:Stmt:=top 12
abbrev sM:Stmt:=top 13
abbrev nA:Stmt:=top 14
abbrev vO:Stmt:=top 15
abbrev oI:Stmt:=top 16
abbrev mM:Stmt:=top 17
abbrev iR:Stmt:=top 18
abbrev jJ:Stmt:=top 19
abbrev oT:Stmt:=top 20
abbrev mG:Stmt:=top 26
abbrev mX:Stmt:=top 27
abbrev oU:Stmt:=top 28
abbrev oN:Stmt:=top 29
abbrev qQ:Stmt:=top 30
abbrev vL:Stmt:=top 38
abbrev Cg:Stmt:=top 39
abbrev vS:Stmt:=top 40
abbrev vP:Stmt:=top 41
abbrev rV:Stmt:=top 42
abbrev mY:Stmt:=top 43
abbrev oW:Stmt:=top 44
abbrev rY:Stmt:=top 53
abbrev sC:Stmt:=top 54
abbrev sU:Stmt:=top 55
abbrev kP:Stmt:=top 56
abbrev sK:Stmt:=top 57
abbrev kZ:Stmt:=top 58
abbrev sJ:Stmt:=top 59
abbrev qO:Stmt:=top 60
abbrev mN:Stmt:=top 61
abbrev yC:Stmt:=top 82
abbrev sS:Stmt:=top 83
abbrev xV:Stmt:=top 84
abbrev Ck:Stmt:=top 85
abbrev xU:Stmt:=top 86
abbrev Jc:Stmt:=top 87
abbrev yA:Stmt:=top 88
abbrev tD:Stmt:=top 89
abbrev Cs:Stmt:=top 90
abbrev xX:Stmt:=top 91
abbrev sO:Stmt:=top 97
abbrev jK:Stmt:=top 98
abbrev qR:Stmt:=top 99
abbrev vE:Stmt:=top 100
abbrev nB:Stmt:=top 101
abbrev kO:Stmt:=top 102
abbrev tH:Stmt:=top 103
abbrev sN:Stmt:=top 104
abbrev rZ:Stmt:=top 105
abbrev oM:Stmt:=top 106
abbrev yE:Stmt:=top 107
abbrev iV:Stmt:=top 108
abbrev sB:Stmt:=top 109
abbrev oK:Stmt:=top 110
abbrev sG:Stmt:=top 114
abbrev oE:Stmt:=top 115
abbrev kU:Stmt:=top 116
abbrev mP:Stmt:=top 117
abbrev iU:Stmt:=top 122
abbrev jV:Stmt:=top 123
abbrev oQ:Stmt:=top 124
abbrev oH:Stmt:=top 125
abbrev mU:Stmt:=top 126
abbrev oP:Stmt:=top 127
abbrev mZ:Stmt:=top 128
abbrev oG:Stmt:=top 129
abbrev oV:Stmt:=top 130
abbrev mT:Stmt:=top 131
abbrev mL:Stmt:=top 132
abbrev mR:Stmt:=top 133
abbrev nF:Stmt:=top 134
abbrev jW:Stmt:=top 135
abbrev lA:Stmt:=top 136
abbrev mI:Stmt:=top 137
abbrev kX:Stmt:=top 138
abbrev oO:Stmt:=top 139
abbrev kY:Stmt:=top 140
abbrev qJ:Stmt:=top 141
abbrev qM:Stmt:=top 143
abbrev jU:Stmt:=top 146
abbrev xY:Stmt:=top 147
theorem scm {N ps:List Str}{c:Scope} (h1:c.kind = .function:=by rfl) (h2:c.isCoroutine=false:=by rfl) (h3:c.isGenerator=false:=by rfl) (h4:N.Nodup:=by decide +kernel) (h5:N.take ps.length=ps:=by rfl) (h6:∀ x ∈ ps,c.names.lookup x=some .local ∨c.names.lookup x=some .cell:=by decide +kernel) (h7:∀ y ∈ c.names,y.2 ≠ .free:=by decide +kernel):aP N ps c:=⟨h1,h2,h3,h4,h5,h6,h7⟩
theorem sc_Junction_init:aP ["self","number","height"] ["self","number","height"] (aJ kW):=scm
theorem sc_Junction_row:aP ["self"] ["self"] (aJ mW):=scm
theorem sc_Road_init:aP ["self","number","a","b","length","ways"] ["self","number","a","b","length","ways"] (aJ rX):=scm
theorem sc_Road_row:aP ["self"] ["self"] (aJ vU):=scm
theorem sc_Speed_init:aP ["self","gradient","up","up_loaded","down","down_loaded"] ["self","gradient","up","up_loaded","down","down_loaded"] (aJ qK):=scm
theorem sc_Speed_row:aP ["self"] ["self"] (aJ sY):=scm
theorem sc_Closing_init:aP ["self","road","lo","hi"] ["self","road","lo","hi"] (aJ mK):=scm
theorem sc_Closing_row:aP ["self"] ["self"] (aJ oJ):=scm
theorem sc_Net_init:aP ["self","junctions","roads","speeds","closings"] ["self","junctions","roads","speeds","closings"] (aJ vK):=scm
theorem sc_Mine_init:aP ["self"] ["self"] (aJ nS):=scm
theorem sc_Mine_change:aP ["self","net"] ["self","net"] (aJ oS):=scm
theorem sc_Mine_can_undo:aP ["self"] ["self"] (aJ kQ):=scm
theorem sc_Mine_undo:aP ["self"] ["self"] (aJ sV):=scm
theorem sc_Surface_init:aP ["self","nx","heights","most"] ["self","nx","heights","most"] (aJ mF):=scm
theorem sc_Reading_init:aP ["self","net","kind","line","word"] ["self","net","kind","line","word"] (aJ mQ):=scm
theorem sc_Step_init:aP ["self","road","start","end","minutes","closings"] ["self","road","start","end","minutes","closings"] (aJ sT):=scm
theorem sc_Trip_init:aP ["self","place","minute","failed"] ["self","place","minute","failed"] (aJ sW):=scm
theorem sc_empty_net:aP [] [] (aJ sE):=scm
theorem sc_copy_net:aP ["net"] ["net"] (aJ vF):=scm
theorem sc_find_junction:aP ["net","number","junction"] ["net","number"] (aJ kR):=scm
theorem sc_find_road:aP ["net","number","road"] ["net","number"] (aJ sM):=scm
theorem sc_has_junction:aP ["net","number"] ["net","number"] (aJ nA):=scm
theorem sc_has_road:aP ["net","number"] ["net","number"] (aJ vO):=scm
theorem sc_closings_of:aP ["net","number","closing"] ["net","number"] (aJ oI):=scm
theorem sc_with_closing:aP ["net","closing","changed"] ["net","closing"] (aJ mM):=scm
theorem sc_without_closings:aP ["net","number","changed","closing"] ["net","number"] (aJ iR):=scm
theorem sc_counted_rows:aP ["parts","told","part"] ["parts"] (aJ jJ):=scm
theorem sc_net_numbers:aP ["net"] ["net"] (aJ oT):=scm
theorem sc_cells_beside:aP ["surface","cell","nx","beside"] ["surface","cell"] (aJ mG):=scm
theorem sc_cells_joined:aP ["surface","cell","height","other"] ["surface","cell"] (aJ mX):=scm
theorem sc_cell_levels:aP ["surface","first","levels","front","beyond","cell","other"] ["surface","first"] (aJ oU):=scm
theorem sc_cell_before:aP ["surface","levels","cell","other"] ["surface","levels","cell"] (aJ oN):=scm
theorem sc_ramp_cells:aP ["surface","levels","second","found"] ["surface","levels","second"] (aJ qQ):=scm
theorem sc_signs_of:aP ["words","sign"] ["words"] (aJ vL):=scm
theorem sc_cut_at:aP ["row","mark","parts","sign"] ["row","mark"] (aJ Cg):=scm
theorem sc_lines_of:aP ["text"] ["text"] (aJ vS):=scm
theorem sc_words_of:aP ["line","word"] ["line"] (aJ vP):=scm
theorem sc_number_of:aP ["word","number","sign"] ["word"] (aJ rV):=scm
theorem sc_written_line:aP ["name","row","number"] ["name","row"] (aJ mY):=scm
theorem sc_written_net:aP ["net","lines","junction","road","speed","closing"] ["net"] (aJ oW):=scm
theorem sc_read_text:aP ["net","text","grown","place","line","fault"] ["net","text"] (aJ rY):=scm
theorem sc_read_line:aP ["net","words","name","ranges","numbers","outside","word"] ["net","words"] (aJ sC):=scm
theorem sc_form_name:aP ["word","name"] ["word"] (aJ sU):=scm
theorem sc_first_outside:aP ["numbers","ranges","place","ends"] ["numbers","ranges"] (aJ kP):=scm
theorem sc_take_line:aP ["net","name","numbers"] ["net","name","numbers"] (aJ sK):=scm
theorem sc_take_junction:aP ["net","junction"] ["net","junction"] (aJ kZ):=scm
theorem sc_take_road:aP ["net","road"] ["net","road"] (aJ sJ):=scm
theorem sc_take_speed:aP ["net","speed","other"] ["net","speed"] (aJ qO):=scm
theorem sc_take_closing:aP ["net","closing"] ["net","closing"] (aJ mN):=scm
theorem sc_is_name:aP ["number"] ["number"] (aJ yC):=scm
theorem sc_is_minute:aP ["number"] ["number"] (aJ sS):=scm
theorem sc_is_load:aP ["number"] ["number"] (aJ xV):=scm
theorem sc_is_way:aP ["number"] ["number"] (aJ Ck):=scm
theorem sc_is_stay:aP ["number"] ["number"] (aJ xU):=scm
theorem sc_is_nx:aP ["number"] ["number"] (aJ Jc):=scm
theorem sc_is_cell:aP ["number"] ["number"] (aJ yA):=scm
theorem sc_is_member:aP ["number"] ["number"] (aJ tD):=scm
theorem sc_is_row:aP ["row","most","number"] ["row","most"] (aJ Cs):=scm
theorem sc_is_text:aP ["row","number"] ["row"] (aJ xX):=scm
theorem sc_speed_for:aP ["net","rise","length","speed"] ["net","rise","length"] (aJ sO):=scm
theorem sc_metres_a_minute:aP ["speed","downwards","loaded"] ["speed","downwards","loaded"] (aJ jK):=scm
theorem sc_road_start:aP ["road","way"] ["road","way"] (aJ qR):=scm
theorem sc_road_end:aP ["road","way"] ["road","way"] (aJ vE):=scm
theorem sc_road_minutes:aP ["net","road","way","loaded","climb","speed","pace"] ["net","road","way","loaded"] (aJ nB):=scm
theorem sc_closing_start:aP ["closing"] ["closing"] (aJ kO):=scm
theorem sc_road_step:aP ["net","road","way","loaded","minutes","closings"] ["net","road","way","loaded"] (aJ tH):=scm
theorem sc_all_steps:aP ["net","loaded","steps","road","way","step"] ["net","loaded"] (aJ sN):=scm
theorem sc_can_begin:aP ["step","minute","closing"] ["step","minute"] (aJ rZ):=scm
theorem sc_first_begin:aP ["step","minute","begin","closing"] ["step","minute"] (aJ oM):=scm
theorem sc_arrival:aP ["step","minute"] ["step","minute"] (aJ yE):=scm
theorem sc_earliest_minutes:aP ["steps","start","minute","earliest","changed","step","comes"] ["steps","start","minute"] (aJ iV):=scm
theorem sc_last_step:aP ["steps","earliest","place","step"] ["steps","earliest","place"] (aJ sB):=scm
theorem sc_route_steps:aP ["steps","earliest","start","goal","found","place","step"] ["steps","earliest","start","goal"] (aJ oK):=scm
theorem sc_step_from:aP ["steps","road","place","step"] ["steps","road","place"] (aJ sG):=scm
theorem sc_follow_trip:aP ["steps","start","minute","numbers","place","now","count","begin","step"] ["steps","start","minute","numbers"] (aJ oE):=scm
theorem sc_steps_without:aP ["steps","road","step"] ["steps","road"] (aJ kU):=scm
theorem sc_needed_roads:aP ["roads","steps","start","reached","found","road"] ["roads","steps","start"] (aJ mP):=scm
theorem sc_minutes_in_order:aP ["net","earliest","junction"] ["net","earliest"] (aJ iU):=scm
theorem sc_reading_answer:aP ["reading"] ["reading"] (aJ jV):=scm
theorem sc_answer_read:aP ["mine","given","reading"] ["mine","given"] (aJ oQ):=scm
theorem sc_answer_look:aP ["mine","given"] ["mine","given"] (aJ oH):=scm
theorem sc_answer_write:aP ["mine","given"] ["mine","given"] (aJ mU):=scm
theorem sc_answer_undo:aP ["mine","given"] ["mine","given"] (aJ oP):=scm
theorem sc_answer_close:aP ["mine","given","n","lo","hi"] ["mine","given"] (aJ mZ):=scm
theorem sc_answer_free:aP ["mine","given","n","count"] ["mine","given"] (aJ oG):=scm
theorem sc_answer_road:aP ["mine","given","n","loaded","road","there","back"] ["mine","given"] (aJ oV):=scm
theorem sc_answer_times:aP ["mine","given","a","t","loaded","earliest"] ["mine","given"] (aJ mT):=scm
theorem sc_answer_route:aP ["mine","given","a","b","t","loaded","steps","earliest","answer","step"] ["mine","given"] (aJ mL):=scm
theorem sc_answer_check:aP ["mine","given","a","t","loaded","numbers","trip"] ["mine","given"] (aJ mR):=scm
theorem sc_answer_table:aP ["mine","given","a","t","loaded","numbers","earliest","right","minute"] ["mine","given"] (aJ nF):=scm
theorem sc_answer_without:aP ["mine","given","n","a","t","loaded","steps","earliest","later","answer","junction","number"] ["mine","given"] (aJ jW):=scm
theorem sc_answer_needed:aP ["mine","given","a","loaded"] ["mine","given"] (aJ lA):=scm
theorem sc_answer_round:aP ["mine","given","a","b","t","stay","there","back"] ["mine","given"] (aJ mI):=scm
theorem sc_answer_within:aP ["mine","given","a","t","m","loaded","earliest","answer","junction"] ["mine","given"] (aJ kX):=scm
theorem sc_answer_ramp:aP ["mine","given","nx","m","first","second","heights","surface","levels"] ["mine","given"] (aJ oO):=scm
theorem sc_answer_begins:aP ["mine","given","n","t","loaded","way","step","begin"] ["mine","given"] (aJ kY):=scm
theorem sc_answer_net:aP ["mine","given"] ["mine","given"] (aJ qJ):=scm
theorem sc_answer_all:aP ["cut_calls","mine","told","number","given","handler"] ["cut_calls"] (aJ qM):=scm
theorem sc_cut_into_calls:aP ["calls","found","place","number","shape","behind","given"] ["calls"] (aJ jU):=scm
theorem sc_answers:aP ["calls","told","answer"] ["calls"] (aJ xY):=scm
def Ch:List Str:=["answer_read","answer_look","answer_write","answer_undo","answer_close","answer_free","answer_road","answer_times","answer_route","answer_check","answer_table","answer_without","answer_needed","answer_round","answer_within","answer_ramp","answer_begins","answer_net"]
structure Ad where
 Junction:Addr
 Road:Addr
 Speed:Addr
 Closing:Addr
 Net:Addr
 Mine:Addr
 Surface:Addr
 Reading:Addr
 Step:Addr
 Trip:Addr
def Xg:List (Int×Bool):=[(0,true),(0,true),(0,false),(0,false),(3,false),(1,false),(2,false),(3,false),(4,false),(3,true),(3,true),(4,false),(2,false),(4,false),(4,false),(4,true),(4,false),(0,false)]
structure Txt (P:Program) (w:World) (K:PySem.W.Frag) (mg:Str→Option Value) (A:Ad):Prop where
 dE:Cn K mg "Junction" A.Junction
 cT:NoAttr K A.Junction "number"
 gS:NoAttr K A.Junction "height"
 Qx:∃ f fd,Fg K A.Junction "Junction.__init__" kW ["self","number","height"] f fd
 nH:∃ f fd,Mn K A.Junction "row" "Junction.row" mW ["self"] f fd
 dS:Cn K mg "Road" A.Road
 eW:NoAttr K A.Road "number"
 mB:NoAttr K A.Road "a"
 mC:NoAttr K A.Road "b"
 jZ:NoAttr K A.Road "length"
 tI:NoAttr K A.Road "ways"
 iz:∃ f fd,Fg K A.Road "Road.__init__" rX ["self","number","a","b","length","ways"] f fd
 Ds:∃ f fd,Mn K A.Road "row" "Road.row" vU ["self"] f fd
 eM:Cn K mg "Speed" A.Speed
 gE:NoAttr K A.Speed "gradient"
 vV:NoAttr K A.Speed "up"
 jL:NoAttr K A.Speed "up_loaded"
 qU:NoAttr K A.Speed "down"
 iC:NoAttr K A.Speed "down_loaded"
 cg:∃ f fd,Fg K A.Speed "Speed.__init__" qK ["self","gradient","up","up_loaded","down","down_loaded"] f fd
 zR:∃ f fd,Mn K A.Speed "row" "Speed.row" sY ["self"] f fd
 dC:Cn K mg "Closing" A.Closing
 gY:NoAttr K A.Closing "road"
 hZ:NoAttr K A.Closing "lo"
 iA:NoAttr K A.Closing "hi"
 Ic:∃ f fd,Fg K A.Closing "Closing.__init__" mK ["self","road","lo","hi"] f fd
 uU:∃ f fd,Mn K A.Closing "row" "Closing.row" oJ ["self"] f fd
 dQ:Cn K mg "Net" A.Net
 cN:NoAttr K A.Net "junctions"
 eV:NoAttr K A.Net "roads"
 fR:NoAttr K A.Net "speeds"
 dF:NoAttr K A.Net "closings"
 dk:∃ f fd,Fg K A.Net "Net.__init__" vK ["self","junctions","roads","speeds","closings"] f fd
 bT:Cn K mg "Mine" A.Mine
 bB:NoAttr K A.Mine "net"
 gM:NoAttr K A.Mine "before"
 jd:∃ f fd,Fg K A.Mine "Mine.__init__" nS ["self"] f fd
 oX:∃ f fd,Mn K A.Mine "change" "Mine.change" oS ["self","net"] f fd
 Av:∃ f fd,Mn K A.Mine "can_undo" "Mine.can_undo" kQ ["self"] f fd
 Nr:∃ f fd,Mn K A.Mine "undo" "Mine.undo" sV ["self"] f fd
 hW:Cn K mg "Surface" A.Surface
 xA:NoAttr K A.Surface "nx"
 gT:NoAttr K A.Surface "heights"
 tQ:NoAttr K A.Surface "most"
 Vj:∃ f fd,Fg K A.Surface "Surface.__init__" mF ["self","nx","heights","most"] f fd
 eB:Cn K mg "Reading" A.Reading
 kC:NoAttr K A.Reading "net"
 gB:NoAttr K A.Reading "kind"
 tR:NoAttr K A.Reading "line"
 tS:NoAttr K A.Reading "word"
 Vk:∃ f fd,Fg K A.Reading "Reading.__init__" mQ ["self","net","kind","line","word"] f fd
 dZ:Cn K mg "Step" A.Step
 nW:NoAttr K A.Step "road"
 fS:NoAttr K A.Step "start"
 iO:NoAttr K A.Step "end"
 gC:NoAttr K A.Step "minutes"
 lB:NoAttr K A.Step "closings"
 jf:∃ f fd,Fg K A.Step "Step.__init__" sT ["self","road","start","end","minutes","closings"] f fd
 oC:Cn K mg "Trip" A.Trip
 xB:NoAttr K A.Trip "place"
 uV:NoAttr K A.Trip "minute"
 kD:NoAttr K A.Trip "failed"
 jg:∃ f fd,Fg K A.Trip "Trip.__init__" sW ["self","place","minute","failed"] f fd
 Nt:∃ f fd,Dn K mg "empty_net" sE [] f fd
 vW:∃ f fd,Dn K mg "copy_net" vF ["net"] f fd
 rA:∃ f fd,Dn K mg "find_junction" kR ["net","number"] f fd
 tJ:∃ f fd,Dn K mg "find_road" sM ["net","number"] f fd
 dU:∃ f fd,Dn K mg "has_junction" nA ["net","number"] f fd
 iP:∃ f fd,Dn K mg "has_road" vO ["net","number"] f fd
 uW:∃ f fd,Dn K mg "closings_of" oI ["net","number"] f fd
 Ep:∃ f fd,Dn K mg "with_closing" mM ["net","closing"] f fd
 vZ:∃ f fd,Dn K mg "without_closings" iR ["net","number"] f fd
 Er:∃ f fd,Dn K mg "counted_rows" jJ ["parts"] f fd
 Fz:∃ f fd,Dn K mg "net_numbers" oT ["net"] f fd
 Es:∃ f fd,Dn K mg "cells_beside" mG ["surface","cell"] f fd
 tT:∃ f fd,Dn K mg "cells_joined" mX ["surface","cell"] f fd
 Ga:∃ f fd,Dn K mg "cell_levels" oU ["surface","first"] f fd
 Gb:∃ f fd,Dn K mg "cell_before" oN ["surface","levels","cell"] f fd
 Ld:∃ f fd,Dn K mg "ramp_cells" qQ ["surface","levels","second"] f fd
 vX:∃ f fd,Dn K mg "signs_of" vL ["words"] f fd
 Mw:∃ f fd,Dn K mg "cut_at" Cg ["row","mark"] f fd
 Qy:∃ f fd,Dn K mg "lines_of" vS ["text"] f fd
 Qz:∃ f fd,Dn K mg "words_of" vP ["line"] f fd
 Nu:∃ f fd,Dn K mg "number_of" rV ["word"] f fd
 Et:∃ f fd,Dn K mg "written_line" mY ["name","row"] f fd
 Gc:∃ f fd,Dn K mg "written_net" oW ["net"] f fd
 zS:∃ f fd,Dn K mg "read_text" rY ["net","text"] f fd
 Nv:∃ f fd,Dn K mg "read_line" sC ["net","words"] f fd
 Nw:∃ f fd,Dn K mg "form_name" sU ["word"] f fd
 Aw:∃ f fd,Dn K mg "first_outside" kP ["numbers","ranges"] f fd
 Ny:∃ f fd,Dn K mg "take_line" sK ["net","name","numbers"] f fd
 Ax:∃ f fd,Dn K mg "take_junction" kZ ["net","junction"] f fd
 Nz:∃ f fd,Dn K mg "take_road" sJ ["net","road"] f fd
 Lf:∃ f fd,Dn K mg "take_speed" qO ["net","speed"] f fd
 Eu:∃ f fd,Dn K mg "take_closing" mN ["net","closing"] f fd
 fI:∃ f fd,Dn K mg "is_name" yC ["number"] f fd
 fO:∃ f fd,Dn K mg "is_minute" sS ["number"] f fd
 hX:∃ f fd,Dn K mg "is_load" xV ["number"] f fd
 Zf:∃ f fd,Dn K mg "is_way" Ck ["number"] f fd
 Vl:∃ f fd,Dn K mg "is_stay" xU ["number"] f fd
 ci:∃ f fd,Dn K mg "is_nx" Jc ["number"] f fd
 Vm:∃ f fd,Dn K mg "is_cell" yA ["number"] f fd
 zT:∃ f fd,Dn K mg "is_member" tD ["number"] f fd
 Ct:∃ f fd,Dn K mg "is_row" Cs ["row","most"] f fd
 Ie:∃ f fd,Dn K mg "is_text" xX ["row"] f fd
 Oa:∃ f fd,Dn K mg "speed_for" sO ["net","rise","length"] f fd
 xG:∃ f fd,Dn K mg "metres_a_minute" jK ["speed","downwards","loaded"] f fd
 xC:∃ f fd,Dn K mg "road_start" qR ["road","way"] f fd
 Dt:∃ f fd,Dn K mg "road_end" vE ["road","way"] f fd
 tU:∃ f fd,Dn K mg "road_minutes" nB ["net","road","way","loaded"] f fd
 Ay:∃ f fd,Dn K mg "closing_start" kO ["closing"] f fd
 zU:∃ f fd,Dn K mg "road_step" tH ["net","road","way","loaded"] f fd
 gF:∃ f fd,Dn K mg "all_steps" sN ["net","loaded"] f fd
 Ob:∃ f fd,Dn K mg "can_begin" rZ ["step","minute"] f fd
 oY:∃ f fd,Dn K mg "first_begin" oM ["step","minute"] f fd
 Ig:∃ f fd,Dn K mg "arrival" yE ["step","minute"] f fd
 dX:∃ f fd,Dn K mg "earliest_minutes" iV ["steps","start","minute"] f fd
 Oc:∃ f fd,Dn K mg "last_step" sB ["steps","earliest","place"] f fd
 Gd:∃ f fd,Dn K mg "route_steps" oK ["steps","earliest","start","goal"] f fd
 Od:∃ f fd,Dn K mg "step_from" sG ["steps","road","place"] f fd
 Ge:∃ f fd,Dn K mg "follow_trip" oE ["steps","start","minute","numbers"] f fd
 rB:∃ f fd,Dn K mg "steps_without" kU ["steps","road"] f fd
 Ew:∃ f fd,Dn K mg "needed_roads" mP ["roads","steps","start"] f fd
 nL:∃ f fd,Dn K mg "minutes_in_order" iU ["net","earliest"] f fd
 pV:∃ f fd,Dn K mg "reading_answer" jV ["reading"] f fd
 Gf:∃ f fd,Dn K mg "answer_read" oQ ["mine","given"] f fd
 Gg:∃ f fd,Dn K mg "answer_look" oH ["mine","given"] f fd
 Ex:∃ f fd,Dn K mg "answer_write" mU ["mine","given"] f fd
 Gh:∃ f fd,Dn K mg "answer_undo" oP ["mine","given"] f fd
 Ey:∃ f fd,Dn K mg "answer_close" mZ ["mine","given"] f fd
 Gi:∃ f fd,Dn K mg "answer_free" oG ["mine","given"] f fd
 Gj:∃ f fd,Dn K mg "answer_road" oV ["mine","given"] f fd
 Ez:∃ f fd,Dn K mg "answer_times" mT ["mine","given"] f fd
 Fa:∃ f fd,Dn K mg "answer_route" mL ["mine","given"] f fd
 Fb:∃ f fd,Dn K mg "answer_check" mR ["mine","given"] f fd
 Fc:∃ f fd,Dn K mg "answer_table" nF ["mine","given"] f fd
 yT:∃ f fd,Dn K mg "answer_without" jW ["mine","given"] f fd
 Az:∃ f fd,Dn K mg "answer_needed" lA ["mine","given"] f fd
 Fd:∃ f fd,Dn K mg "answer_round" mI ["mine","given"] f fd
 Ba:∃ f fd,Dn K mg "answer_within" kX ["mine","given"] f fd
 Gk:∃ f fd,Dn K mg "answer_ramp" oO ["mine","given"] f fd
 Bb:∃ f fd,Dn K mg "answer_begins" kY ["mine","given"] f fd
 Lg:∃ f fd,Dn K mg "answer_net" qJ ["mine","given"] f fd
 Lh:∃ f fd,Dn K mg "answer_all" qM ["cut_calls"] f fd
 yU:∃ f fd,Dn K mg "cut_into_calls" jU ["calls"] f fd
 Vn:∃ f fd,Dn K mg "answers" xY ["calls"] f fd
 eP:mg "len" = none
 dn:mg "abs" = none
 md:mg "ord" = none
 Wi:mg "all" = none
 Zg:mg "sorted" = none
 zV:mg "enumerate" = none
 Iw:mg "list" = none
 mh:mg "str" = none
 cj:mg "range" = none
 yV:∃ u,mg "MOST_JUNCTIONS" = some u∧RelV (.int (10)) u
 Li:∃ u,mg "MOST_ROADS" = some u∧RelV (.int (20)) u
 Gm:∃ u,mg "MOST_SPEEDS" = some u∧RelV (.int (6)) u
 rC:∃ u,mg "MOST_CLOSINGS" = some u∧RelV (.int (20)) u
 Gn:∃ u,mg "MOST_BEFORE" = some u∧RelV (.int (20)) u
 Ra:∃ u,mg "LINE_END" = some u∧RelV (.int (10)) u
 ck:∃ u,mg "BLANK" = some u∧RelV (.int (32)) u
 yH:∃ u,mg "DIGIT_0" = some u∧RelV (.int (48)) u
 Vo:∃ u,mg "DIGIT_9" = some u∧RelV (.int (57)) u
 Go:∃ u,mg "MOST_DIGITS" = some u∧RelV (.int (7)) u
 tK:∃ u,mg "NO_NUMBER" = some u∧RelV (.int (-1)) u
 Zh:∃ u,mg "REMARK" = some u∧RelV (.str "rem") u
 dD:∃ a,mg "NO_FAULT" = some (.ref a)∧KTup K a [.int 0,.int 0]
 gZ:∃ a,mg "UNKNOWN_FIRST_WORD" = some (.ref a)∧KTup K a [.int 1,.int 1]
 iW:∃ a,mg "WRONG_WORD_COUNT" = some (.ref a)∧KTup K a [.int 2,.int 0]
 cZ:∃ a,mg "NO_MORE_ROOM" = some (.ref a)∧KTup K a [.int 10,.int 0]
 gG:∃ u,mg "DONE" = some u∧RelV (.int (0)) u
 eG:∃ u,mg "OUTSIDE" = some u∧RelV (.int (-1)) u
 eX:∃ u,mg "NO_JUNCTION" = some u∧RelV (.int (-2)) u
 pQ:∃ u,mg "NO_ROAD" = some u∧RelV (.int (-3)) u
 yW:∃ u,mg "NOTHING_BEFORE" = some u∧RelV (.int (-4)) u
 Bc:∃ u,mg "ENDS_TOO_SOON" = some u∧RelV (.int (-5)) u
 uK:∃ u,mg "TOO_MANY_CLOSINGS" = some u∧RelV (.int (-6)) u
 rS:∃ u,mg "NO_WAY" = some u∧RelV (.int (-7)) u
 oZ:∃ u,mg "WRONG_COUNT" = some u∧RelV (.int (-8)) u
 Vp:∃ u,mg "NO_CELL" = some u∧RelV (.int (-9)) u
 Gp:∃ u,mg "LAST_MINUTE" = some u∧RelV (.int (100000)) u
 Fe:∃ u,mg "LONGEST_STAY" = some u∧RelV (.int (1000)) u
 Vq:∃ u,mg "MOST_NX" = some u∧RelV (.int (8)) u
 Oe:∃ u,mg "LAST_CELL" = some u∧RelV (.int (63)) u
 xH:∃ u,mg "GREATEST_MEMBER" = some u∧RelV (.int (1000000)) u
 Lj:∃ u,mg "MOST_SIGNS" = some u∧RelV (.int (2000)) u
 uL:∃ u,mg "MOST_TRIP_NUMBERS" = some u∧RelV (.int (60)) u
 tV:∃ u,mg "MOST_TABLE_NUMBERS" = some u∧RelV (.int (20)) u
 Ff:∃ u,mg "MOST_HEIGHTS" = some u∧RelV (.int (64)) u
 qH:∃ u,mg "NOT_GONE" = some u∧RelV (.int (-1)) u
 kE:∃ u,mg "FROM_A_TO_B" = some u∧RelV (.int (0)) u
 pA:∃ u,mg "FROM_B_TO_A" = some u∧RelV (.int (1)) u
 Gq:∃ u,mg "NONE_FAILED" = some u∧RelV (.int (-1)) u
 cn:∃ u,mg "EMPTY" = some u∧RelV (.int (0)) u
 Zi:∃ u,mg "LOADED" = some u∧RelV (.int (1)) u
 kI:∃ u,mg "NO_MINUTE" = some u∧RelV (.int (-1)) u
 qF:∃ a t0 t1 t2 t3,mg "FORMS" = some (.ref a)∧KDict P w K a [(.inr "junction",.ref t0),(.inr "road",.ref t1),(.inr "speed",.ref t2),(.inr "closed",.ref t3)]∧Og K t0 [(1,99),(0,1000000)]∧Og K t1 [(1,99),(1,99),(1,99),(1,1000000),(1,2)]∧Og K t2 [(0,10000),(0,1000),(0,1000),(0,1000),(0,1000)]∧Og K t3 [(1,99),(0,100000),(0,100000)]
 wM:∃ a,∃ ts:List Addr,mg "SHAPES" = some (.ref a)∧KDict P w K a (Ii 0 ts)∧All2 (fun t s=>KTup K t [.int s.1,.bl s.2]) ts Xg
 qI:∃ a,∃ fs:List Addr,mg "HANDLERS" = some (.ref a)∧KDict P w K a (Ii 0 fs)∧All2 (fun f n=>mg n=some (.ref f)) fs Ch
def vG (x0 x1:V):List (Str×V):=[("number",x0),("height",x1)]
theorem cX {x0 x1:V}:(vG x0 x1).lookup ("number" : Str)=some x0:=by kernel_rfl
theorem iT {x0 x1:V}:(vG x0 x1).lookup ("height" : Str)=some x1:=by kernel_rfl
def xQ (x0 x1 x2 x3 x4:V):List (Str×V):=[("number",x0),("a",x1),("b",x2),("length",x3),("ways",x4)]
theorem fB {x0 x1 x2 x3 x4:V}:(xQ x0 x1 x2 x3 x4).lookup ("number" : Str)=some x0:=by kernel_rfl
theorem lP {x0 x1 x2 x3 x4:V}:(xQ x0 x1 x2 x3 x4).lookup ("a" : Str)=some x1:=by kernel_rfl
theorem lN {x0 x1 x2 x3 x4:V}:(xQ x0 x1 x2 x3 x4).lookup ("b" : Str)=some x2:=by kernel_rfl
theorem mS {x0 x1 x2 x3 x4:V}:(xQ x0 x1 x2 x3 x4).lookup ("length" : Str)=some x3:=by kernel_rfl
theorem wP {x0 x1 x2 x3 x4:V}:(xQ x0 x1 x2 x3 x4).lookup ("ways" : Str)=some x4:=by kernel_rfl
def tX (x0 x1 x2 x3 x4:V):List (Str×V):=[("gradient",x0),("up",x1),("up_loaded",x2),("down",x3),("down_loaded",x4)]
theorem gR {x0 x1 x2 x3 x4:V}:(tX x0 x1 x2 x3 x4).lookup ("gradient" : Str)=some x0:=by kernel_rfl
theorem zO {x0 x1 x2 x3 x4:V}:(tX x0 x1 x2 x3 x4).lookup ("up" : Str)=some x1:=by kernel_rfl
theorem nJ {x0 x1 x2 x3 x4:V}:(tX x0 x1 x2 x3 x4).lookup ("up_loaded" : Str)=some x2:=by kernel_rfl
theorem uT {x0 x1 x2 x3 x4:V}:(tX x0 x1 x2 x3 x4).lookup ("down" : Str)=some x3:=by kernel_rfl
theorem kJ {x0 x1 x2 x3 x4:V}:(tX x0 x1 x2 x3 x4).lookup ("down_loaded" : Str)=some x4:=by kernel_rfl
def uG (x0 x1 x2:V):List (Str×V):=[("road",x0),("lo",x1),("hi",x2)]
theorem iJ {x0 x1 x2:V}:(uG x0 x1 x2).lookup ("road" : Str)=some x0:=by kernel_rfl
theorem iG {x0 x1 x2:V}:(uG x0 x1 x2).lookup ("lo" : Str)=some x1:=by kernel_rfl
theorem iH {x0 x1 x2:V}:(uG x0 x1 x2).lookup ("hi" : Str)=some x2:=by kernel_rfl
def lU (x0 x1 x2 x3:V):List (Str×V):=[("junctions",x0),("roads",x1),("speeds",x2),("closings",x3)]
theorem cQ {x0 x1 x2 x3:V}:(lU x0 x1 x2 x3).lookup ("junctions" : Str)=some x0:=by kernel_rfl
theorem eT {x0 x1 x2 x3:V}:(lU x0 x1 x2 x3).lookup ("roads" : Str)=some x1:=by kernel_rfl
theorem fU {x0 x1 x2 x3:V}:(lU x0 x1 x2 x3).lookup ("speeds" : Str)=some x2:=by kernel_rfl
theorem dW {x0 x1 x2 x3:V}:(lU x0 x1 x2 x3).lookup ("closings" : Str)=some x3:=by kernel_rfl
def fY (x0 x1:V):List (Str×V):=[("net",x0),("before",x1)]
theorem aX {x0 x1:V}:(fY x0 x1).lookup ("net" : Str)=some x0:=by kernel_rfl
theorem gX {x0 x1:V}:(fY x0 x1).lookup ("before" : Str)=some x1:=by kernel_rfl
def uB (x0 x1 x2:V):List (Str×V):=[("nx",x0),("heights",x1),("most",x2)]
theorem Fn {x0 x1 x2:V}:(uB x0 x1 x2).lookup ("nx" : Str)=some x0:=by kernel_rfl
theorem iQ {x0 x1 x2:V}:(uB x0 x1 x2).lookup ("heights" : Str)=some x1:=by kernel_rfl
theorem zY {x0 x1 x2:V}:(uB x0 x1 x2).lookup ("most" : Str)=some x2:=by kernel_rfl
def hU (x0 x1 x2 x3:V):List (Str×V):=[("net",x0),("kind",x1),("line",x2),("word",x3)]
theorem mO {x0 x1 x2 x3:V}:(hU x0 x1 x2 x3).lookup ("net" : Str)=some x0:=by kernel_rfl
theorem gK {x0 x1 x2 x3:V}:(hU x0 x1 x2 x3).lookup ("kind" : Str)=some x1:=by kernel_rfl
theorem Aa {x0 x1 x2 x3:V}:(hU x0 x1 x2 x3).lookup ("line" : Str)=some x2:=by kernel_rfl
theorem Ak {x0 x1 x2 x3:V}:(hU x0 x1 x2 x3).lookup ("word" : Str)=some x3:=by kernel_rfl
def xN (x0 x1 x2 x3 x4:V):List (Str×V):=[("road",x0),("start",x1),("end",x2),("minutes",x3),("closings",x4)]
theorem qN {x0 x1 x2 x3 x4:V}:(xN x0 x1 x2 x3 x4).lookup ("road" : Str)=some x0:=by kernel_rfl
theorem fT {x0 x1 x2 x3 x4:V}:(xN x0 x1 x2 x3 x4).lookup ("start" : Str)=some x1:=by kernel_rfl
theorem jA {x0 x1 x2 x3 x4:V}:(xN x0 x1 x2 x3 x4).lookup ("end" : Str)=some x2:=by kernel_rfl
theorem gL {x0 x1 x2 x3 x4:V}:(xN x0 x1 x2 x3 x4).lookup ("minutes" : Str)=some x3:=by kernel_rfl
theorem pS {x0 x1 x2 x3 x4:V}:(xN x0 x1 x2 x3 x4).lookup ("closings" : Str)=some x4:=by kernel_rfl
def Bu (x0 x1 x2:V):List (Str×V):=[("place",x0),("minute",x1),("failed",x2)]
theorem Ft {x0 x1 x2:V}:(Bu x0 x1 x2).lookup ("place" : Str)=some x0:=by kernel_rfl
theorem En {x0 x1 x2:V}:(Bu x0 x1 x2).lookup ("minute" : Str)=some x1:=by kernel_rfl
theorem mJ {x0 x1 x2:V}:(Bu x0 x1 x2).lookup ("failed" : Str)=some x2:=by kernel_rfl
section
variable {P:Program}{w:World}{K:PySem.W.Frag}{mg:Str→Option Value}{base:Heap}{A:Ad}
theorem Fq {x0:V}:eE "number" x0 ([]:List (Str×V))=([("number",x0)]:List (Str×V)):=by kernel_rfl
theorem Fo {x0 x1:V}:eE "height" x1 ([("number",x0)]:List (Str×V))=([("number",x0),("height",x1)]:List (Str×V)):=by kernel_rfl
theorem Mz {f:Addr}{fd:FuncData} (T:Txt P w K mg A) (D:Fg K A.Junction "Junction.__init__" kW ["self","number","height"] f fd):bO P w K mg base eC 1 f fd ["self","number","height"] (spNew A.Junction ["number","height"]):=by
 have nd:=sc_Junction_init.nd
 refine D.fn.ok sc_Junction_init (fun vs H Q E h=>?_) (fun cdv Ar outer s H vs Q E hr h=>?_)
 ·obtain ⟨p,dx,xs,rfl,hl,_⟩:=h
  show xs.length + 1=3
  rw[hl]
  rfl
 ·obtain ⟨p,dx,xs,rfl,hl,hp,k⟩:=h
  obtain ⟨x0,x1,rfl⟩:∃ x0 x1,xs=[x0,x1]:=by
   match xs,hl with
   | [x0,x1],_=>exact ⟨x0,x1,rfl⟩
  refine ⟨_,(aC (cV (pv 0) (pv 1) rfl)  (aE (cV (pv 0) (pv 2) rfl))),?_⟩
  refine sq (eJ (aA rfl) (aA rfl) hp T.dE.cl T.cT (by show 0<1000;decide) ?_)
  rw[Fq]
  refine (eJ (aA rfl) (aA rfl) aF T.dE.cl T.gS (by show 1<1000;decide) ?_)
  rw[Fo]
  simp only[dN]
  exact k
theorem Ta {x0:V}:eE "number" x0 ([]:List (Str×V))=([("number",x0)]:List (Str×V)):=by kernel_rfl
theorem Tn {x0 x1:V}:eE "a" x1 ([("number",x0)]:List (Str×V))=([("number",x0),("a",x1)]:List (Str×V)):=by kernel_rfl
theorem Tq {x0 x1 x2:V}:eE "b" x2 ([("number",x0),("a",x1)]:List (Str×V))=([("number",x0),("a",x1),("b",x2)]:List (Str×V)):=by kernel_rfl
theorem Vb {x0 x1 x2 x3:V}:eE "length" x3 ([("number",x0),("a",x1),("b",x2)]:List (Str×V))=([("number",x0),("a",x1),("b",x2),("length",x3)]:List (Str×V)):=by kernel_rfl
theorem Tm {x0 x1 x2 x3 x4:V}:eE "ways" x4 ([("number",x0),("a",x1),("b",x2),("length",x3)]:List (Str×V))=([("number",x0),("a",x1),("b",x2),("length",x3),("ways",x4)]:List (Str×V)):=by kernel_rfl
theorem aq {f:Addr}{fd:FuncData} (T:Txt P w K mg A) (D:Fg K A.Road "Road.__init__" rX ["self","number","a","b","length","ways"] f fd):bO P w K mg base eC 1 f fd ["self","number","a","b","length","ways"] (spNew A.Road ["number","a","b","length","ways"]):=by
 have nd:=sc_Road_init.nd
 refine D.fn.ok sc_Road_init (fun vs H Q E h=>?_) (fun cdv Ar outer s H vs Q E hr h=>?_)
 ·obtain ⟨p,dx,xs,rfl,hl,_⟩:=h
  show xs.length + 1=6
  rw[hl]
  rfl
 ·obtain ⟨p,dx,xs,rfl,hl,hp,k⟩:=h
  obtain ⟨x0,x1,x2,x3,x4,rfl⟩:∃ x0 x1 x2 x3 x4,xs=[x0,x1,x2,x3,x4]:=by
   match xs,hl with
   | [x0,x1,x2,x3,x4],_=>exact ⟨x0,x1,x2,x3,x4,rfl⟩
  refine ⟨_,(aC (cV (pv 0) (pv 1) rfl)  (aC (cV (pv 0) (pv 2) rfl)  (aC (cV (pv 0) (pv 3) rfl)  (aC (cV (pv 0) (pv 4) rfl)  (aE (cV (pv 0) (pv 5) rfl)))))),?_⟩
  refine sq (eJ (aA rfl) (aA rfl) hp T.dS.cl T.eW (by show 0<1000;decide) ?_)
  rw[Ta]
  refine sq (eJ (aA rfl) (aA rfl) aF T.dS.cl T.mB (by show 1<1000;decide) ?_)
  rw[Tn]
  refine sq (eJ (aA rfl) (aA rfl) aF T.dS.cl T.mC (by show 2<1000;decide) ?_)
  rw[Tq]
  refine sq (eJ (aA rfl) (aA rfl) aF T.dS.cl T.jZ (by show 3<1000;decide) ?_)
  rw[Vb]
  refine (eJ (aA rfl) (aA rfl) aF T.dS.cl T.tI (by show 4<1000;decide) ?_)
  rw[Tm]
  simp only[dN]
  exact k
theorem Pr {x0:V}:eE "gradient" x0 ([]:List (Str×V))=([("gradient",x0)]:List (Str×V)):=by kernel_rfl
theorem Ph {x0 x1:V}:eE "up" x1 ([("gradient",x0)]:List (Str×V))=([("gradient",x0),("up",x1)]:List (Str×V)):=by kernel_rfl
theorem Ps {x0 x1 x2:V}:eE "up_loaded" x2 ([("gradient",x0),("up",x1)]:List (Str×V))=([("gradient",x0),("up",x1),("up_loaded",x2)]:List (Str×V)):=by kernel_rfl
theorem Pu {x0 x1 x2 x3:V}:eE "down" x3 ([("gradient",x0),("up",x1),("up_loaded",x2)]:List (Str×V))=([("gradient",x0),("up",x1),("up_loaded",x2),("down",x3)]:List (Str×V)):=by kernel_rfl
theorem Pq {x0 x1 x2 x3 x4:V}:eE "down_loaded" x4 ([("gradient",x0),("up",x1),("up_loaded",x2),("down",x3)]:List (Str×V))=([("gradient",x0),("up",x1),("up_loaded",x2),("down",x3),("down_loaded",x4)]:List (Str×V)):=by kernel_rfl
theorem Ya {f:Addr}{fd:FuncData} (T:Txt P w K mg A) (D:Fg K A.Speed "Speed.__init__" qK ["self","gradient","up","up_loaded","down","down_loaded"] f fd):bO P w K mg base eC 1 f fd ["self","gradient","up","up_loaded","down","down_loaded"] (spNew A.Speed ["gradient","up","up_loaded","down","down_loaded"]):=by
 have nd:=sc_Speed_init.nd
 refine D.fn.ok sc_Speed_init (fun vs H Q E h=>?_) (fun cdv Ar outer s H vs Q E hr h=>?_)
 ·obtain ⟨p,dx,xs,rfl,hl,_⟩:=h
  show xs.length + 1=6
  rw[hl]
  rfl
 ·obtain ⟨p,dx,xs,rfl,hl,hp,k⟩:=h
  obtain ⟨x0,x1,x2,x3,x4,rfl⟩:∃ x0 x1 x2 x3 x4,xs=[x0,x1,x2,x3,x4]:=by
   match xs,hl with
   | [x0,x1,x2,x3,x4],_=>exact ⟨x0,x1,x2,x3,x4,rfl⟩
  refine ⟨_,(aC (cV (pv 0) (pv 1) rfl)  (aC (cV (pv 0) (pv 2) rfl)  (aC (cV (pv 0) (pv 3) rfl)  (aC (cV (pv 0) (pv 4) rfl)  (aE (cV (pv 0) (pv 5) rfl)))))),?_⟩
  refine sq (eJ (aA rfl) (aA rfl) hp T.eM.cl T.gE (by show 0<1000;decide) ?_)
  rw[Pr]
  refine sq (eJ (aA rfl) (aA rfl) aF T.eM.cl T.vV (by show 1<1000;decide) ?_)
  rw[Ph]
  refine sq (eJ (aA rfl) (aA rfl) aF T.eM.cl T.jL (by show 2<1000;decide) ?_)
  rw[Ps]
  refine sq (eJ (aA rfl) (aA rfl) aF T.eM.cl T.qU (by show 3<1000;decide) ?_)
  rw[Pu]
  refine (eJ (aA rfl) (aA rfl) aF T.eM.cl T.iC (by show 4<1000;decide) ?_)
  rw[Pq]
  simp only[dN]
  exact k
theorem Kk {x0:V}:eE "road" x0 ([]:List (Str×V))=([("road",x0)]:List (Str×V)):=by kernel_rfl
theorem Jo {x0 x1:V}:eE "lo" x1 ([("road",x0)]:List (Str×V))=([("road",x0),("lo",x1)]:List (Str×V)):=by kernel_rfl
theorem Ki {x0 x1 x2:V}:eE "hi" x2 ([("road",x0),("lo",x1)]:List (Str×V))=([("road",x0),("lo",x1),("hi",x2)]:List (Str×V)):=by kernel_rfl
theorem Dj {f:Addr}{fd:FuncData} (T:Txt P w K mg A) (D:Fg K A.Closing "Closing.__init__" mK ["self","road","lo","hi"] f fd):bO P w K mg base eC 1 f fd ["self","road","lo","hi"] (spNew A.Closing ["road","lo","hi"]):=by
 have nd:=sc_Closing_init.nd
 refine D.fn.ok sc_Closing_init (fun vs H Q E h=>?_) (fun cdv Ar outer s H vs Q E hr h=>?_)
 ·obtain ⟨p,dx,xs,rfl,hl,_⟩:=h
  show xs.length + 1=4
  rw[hl]
  rfl
 ·obtain ⟨p,dx,xs,rfl,hl,hp,k⟩:=h
  obtain ⟨x0,x1,x2,rfl⟩:∃ x0 x1 x2,xs=[x0,x1,x2]:=by
   match xs,hl with
   | [x0,x1,x2],_=>exact ⟨x0,x1,x2,rfl⟩
  refine ⟨_,(aC (cV (pv 0) (pv 1) rfl)  (aC (cV (pv 0) (pv 2) rfl)  (aE (cV (pv 0) (pv 3) rfl)))),?_⟩
  refine sq (eJ (aA rfl) (aA rfl) hp T.dC.cl T.gY (by show 0<1000;decide) ?_)
  rw[Kk]
  refine sq (eJ (aA rfl) (aA rfl) aF T.dC.cl T.hZ (by show 1<1000;decide) ?_)
  rw[Jo]
  refine (eJ (aA rfl) (aA rfl) aF T.dC.cl T.iA (by show 2<1000;decide) ?_)
  rw[Ki]
  simp only[dN]
  exact k
theorem Yt {x0:V}:eE "junctions" x0 ([]:List (Str×V))=([("junctions",x0)]:List (Str×V)):=by kernel_rfl
theorem Ze {x0 x1:V}:eE "roads" x1 ([("junctions",x0)]:List (Str×V))=([("junctions",x0),("roads",x1)]:List (Str×V)):=by kernel_rfl
theorem Ym {x0 x1 x2:V}:eE "speeds" x2 ([("junctions",x0),("roads",x1)]:List (Str×V))=([("junctions",x0),("roads",x1),("speeds",x2)]:List (Str×V)):=by kernel_rfl
theorem Zd {x0 x1 x2 x3:V}:eE "closings" x3 ([("junctions",x0),("roads",x1),("speeds",x2)]:List (Str×V))=([("junctions",x0),("roads",x1),("speeds",x2),("closings",x3)]:List (Str×V)):=by kernel_rfl
theorem Ws {f:Addr}{fd:FuncData} (T:Txt P w K mg A) (D:Fg K A.Net "Net.__init__" vK ["self","junctions","roads","speeds","closings"] f fd):bO P w K mg base eC 1 f fd ["self","junctions","roads","speeds","closings"] (spNew A.Net ["junctions","roads","speeds","closings"]):=by
 have nd:=sc_Net_init.nd
 refine D.fn.ok sc_Net_init (fun vs H Q E h=>?_) (fun cdv Ar outer s H vs Q E hr h=>?_)
 ·obtain ⟨p,dx,xs,rfl,hl,_⟩:=h
  show xs.length + 1=5
  rw[hl]
  rfl
 ·obtain ⟨p,dx,xs,rfl,hl,hp,k⟩:=h
  obtain ⟨x0,x1,x2,x3,rfl⟩:∃ x0 x1 x2 x3,xs=[x0,x1,x2,x3]:=by
   match xs,hl with
   | [x0,x1,x2,x3],_=>exact ⟨x0,x1,x2,x3,rfl⟩
  refine ⟨_,(aC (cV (pv 0) (pv 1) rfl)  (aC (cV (pv 0) (pv 2) rfl)  (aC (cV (pv 0) (pv 3) rfl)  (aE (cV (pv 0) (pv 4) rfl))))),?_⟩
  refine sq (eJ (aA rfl) (aA rfl) hp T.dQ.cl T.cN (by show 0<1000;decide) ?_)
  rw[Yt]
  refine sq (eJ (aA rfl) (aA rfl) aF T.dQ.cl T.eV (by show 1<1000;decide) ?_)
  rw[Ze]
  refine sq (eJ (aA rfl) (aA rfl) aF T.dQ.cl T.fR (by show 2<1000;decide) ?_)
  rw[Ym]
  refine (eJ (aA rfl) (aA rfl) aF T.dQ.cl T.dF (by show 3<1000;decide) ?_)
  rw[Zd]
  simp only[dN]
  exact k
theorem Ky {x0:V}:eE "nx" x0 ([]:List (Str×V))=([("nx",x0)]:List (Str×V)):=by kernel_rfl
theorem Kl {x0 x1:V}:eE "heights" x1 ([("nx",x0)]:List (Str×V))=([("nx",x0),("heights",x1)]:List (Str×V)):=by kernel_rfl
theorem Kf {x0 x1 x2:V}:eE "most" x2 ([("nx",x0),("heights",x1)]:List (Str×V))=([("nx",x0),("heights",x1),("most",x2)]:List (Str×V)):=by kernel_rfl
theorem Pe {f:Addr}{fd:FuncData} (T:Txt P w K mg A) (D:Fg K A.Surface "Surface.__init__" mF ["self","nx","heights","most"] f fd):bO P w K mg base eC 1 f fd ["self","nx","heights","most"] (spNew A.Surface ["nx","heights","most"]):=by
 have nd:=sc_Surface_init.nd
 refine D.fn.ok sc_Surface_init (fun vs H Q E h=>?_) (fun cdv Ar outer s H vs Q E hr h=>?_)
 ·obtain ⟨p,dx,xs,rfl,hl,_⟩:=h
  show xs.length + 1=4
  rw[hl]
  rfl
 ·obtain ⟨p,dx,xs,rfl,hl,hp,k⟩:=h
  obtain ⟨x0,x1,x2,rfl⟩:∃ x0 x1 x2,xs=[x0,x1,x2]:=by
   match xs,hl with
   | [x0,x1,x2],_=>exact ⟨x0,x1,x2,rfl⟩
  refine ⟨_,(aC (cV (pv 0) (pv 1) rfl)  (aC (cV (pv 0) (pv 2) rfl)  (aE (cV (pv 0) (pv 3) rfl)))),?_⟩
  refine sq (eJ (aA rfl) (aA rfl) hp T.hW.cl T.xA (by show 0<1000;decide) ?_)
  rw[Ky]
  refine sq (eJ (aA rfl) (aA rfl) aF T.hW.cl T.gT (by show 1<1000;decide) ?_)
  rw[Kl]
  refine (eJ (aA rfl) (aA rfl) aF T.hW.cl T.tQ (by show 2<1000;decide) ?_)
  rw[Kf]
  simp only[dN]
  exact k
theorem Jl {x0:V}:eE "net" x0 ([]:List (Str×V))=([("net",x0)]:List (Str×V)):=by kernel_rfl
theorem Kc {x0 x1:V}:eE "kind" x1 ([("net",x0)]:List (Str×V))=([("net",x0),("kind",x1)]:List (Str×V)):=by kernel_rfl
theorem Kj {x0 x1 x2:V}:eE "line" x2 ([("net",x0),("kind",x1)]:List (Str×V))=([("net",x0),("kind",x1),("line",x2)]:List (Str×V)):=by kernel_rfl
theorem Kz {x0 x1 x2 x3:V}:eE "word" x3 ([("net",x0),("kind",x1),("line",x2)]:List (Str×V))=([("net",x0),("kind",x1),("line",x2),("word",x3)]:List (Str×V)):=by kernel_rfl
theorem Pn {f:Addr}{fd:FuncData} (T:Txt P w K mg A) (D:Fg K A.Reading "Reading.__init__" mQ ["self","net","kind","line","word"] f fd):bO P w K mg base eC 1 f fd ["self","net","kind","line","word"] (spNew A.Reading ["net","kind","line","word"]):=by
 have nd:=sc_Reading_init.nd
 refine D.fn.ok sc_Reading_init (fun vs H Q E h=>?_) (fun cdv Ar outer s H vs Q E hr h=>?_)
 ·obtain ⟨p,dx,xs,rfl,hl,_⟩:=h
  show xs.length + 1=5
  rw[hl]
  rfl
 ·obtain ⟨p,dx,xs,rfl,hl,hp,k⟩:=h
  obtain ⟨x0,x1,x2,x3,rfl⟩:∃ x0 x1 x2 x3,xs=[x0,x1,x2,x3]:=by
   match xs,hl with
   | [x0,x1,x2,x3],_=>exact ⟨x0,x1,x2,x3,rfl⟩
  refine ⟨_,(aC (cV (pv 0) (pv 1) rfl)  (aC (cV (pv 0) (pv 2) rfl)  (aC (cV (pv 0) (pv 3) rfl)  (aE (cV (pv 0) (pv 4) rfl))))),?_⟩
  refine sq (eJ (aA rfl) (aA rfl) hp T.eB.cl T.kC (by show 0<1000;decide) ?_)
  rw[Jl]
  refine sq (eJ (aA rfl) (aA rfl) aF T.eB.cl T.gB (by show 1<1000;decide) ?_)
  rw[Kc]
  refine sq (eJ (aA rfl) (aA rfl) aF T.eB.cl T.tR (by show 2<1000;decide) ?_)
  rw[Kj]
  refine (eJ (aA rfl) (aA rfl) aF T.eB.cl T.tS (by show 3<1000;decide) ?_)
  rw[Kz]
  simp only[dN]
  exact k
theorem Um {x0:V}:eE "road" x0 ([]:List (Str×V))=([("road",x0)]:List (Str×V)):=by kernel_rfl
theorem Tv {x0 x1:V}:eE "start" x1 ([("road",x0)]:List (Str×V))=([("road",x0),("start",x1)]:List (Str×V)):=by kernel_rfl
theorem Tw {x0 x1 x2:V}:eE "end" x2 ([("road",x0),("start",x1)]:List (Str×V))=([("road",x0),("start",x1),("end",x2)]:List (Str×V)):=by kernel_rfl
theorem Tg {x0 x1 x2 x3:V}:eE "minutes" x3 ([("road",x0),("start",x1),("end",x2)]:List (Str×V))=([("road",x0),("start",x1),("end",x2),("minutes",x3)]:List (Str×V)):=by kernel_rfl
theorem Uk {x0 x1 x2 x3 x4:V}:eE "closings" x4 ([("road",x0),("start",x1),("end",x2),("minutes",x3)]:List (Str×V))=([("road",x0),("start",x1),("end",x2),("minutes",x3),("closings",x4)]:List (Str×V)):=by kernel_rfl
theorem ap {f:Addr}{fd:FuncData} (T:Txt P w K mg A) (D:Fg K A.Step "Step.__init__" sT ["self","road","start","end","minutes","closings"] f fd):bO P w K mg base eC 1 f fd ["self","road","start","end","minutes","closings"] (spNew A.Step ["road","start","end","minutes","closings"]):=by
 have nd:=sc_Step_init.nd
 refine D.fn.ok sc_Step_init (fun vs H Q E h=>?_) (fun cdv Ar outer s H vs Q E hr h=>?_)
 ·obtain ⟨p,dx,xs,rfl,hl,_⟩:=h
  show xs.length + 1=6
  rw[hl]
  rfl
 ·obtain ⟨p,dx,xs,rfl,hl,hp,k⟩:=h
  obtain ⟨x0,x1,x2,x3,x4,rfl⟩:∃ x0 x1 x2 x3 x4,xs=[x0,x1,x2,x3,x4]:=by
   match xs,hl with
   | [x0,x1,x2,x3,x4],_=>exact ⟨x0,x1,x2,x3,x4,rfl⟩
  refine ⟨_,(aC (cV (pv 0) (pv 1) rfl)  (aC (cV (pv 0) (pv 2) rfl)  (aC (cV (pv 0) (pv 3) rfl)  (aC (cV (pv 0) (pv 4) rfl)  (aE (cV (pv 0) (pv 5) rfl)))))),?_⟩
  refine sq (eJ (aA rfl) (aA rfl) hp T.dZ.cl T.nW (by show 0<1000;decide) ?_)
  rw[Um]
  refine sq (eJ (aA rfl) (aA rfl) aF T.dZ.cl T.fS (by show 1<1000;decide) ?_)
  rw[Tv]
  refine sq (eJ (aA rfl) (aA rfl) aF T.dZ.cl T.iO (by show 2<1000;decide) ?_)
  rw[Tw]
  refine sq (eJ (aA rfl) (aA rfl) aF T.dZ.cl T.gC (by show 3<1000;decide) ?_)
  rw[Tg]
  refine (eJ (aA rfl) (aA rfl) aF T.dZ.cl T.lB (by show 4<1000;decide) ?_)
  rw[Uk]
  simp only[dN]
  exact k
theorem Va {x0:V}:eE "place" x0 ([]:List (Str×V))=([("place",x0)]:List (Str×V)):=by kernel_rfl
theorem Tl {x0 x1:V}:eE "minute" x1 ([("place",x0)]:List (Str×V))=([("place",x0),("minute",x1)]:List (Str×V)):=by kernel_rfl
theorem Ux {x0 x1 x2:V}:eE "failed" x2 ([("place",x0),("minute",x1)]:List (Str×V))=([("place",x0),("minute",x1),("failed",x2)]:List (Str×V)):=by kernel_rfl
theorem bt {f:Addr}{fd:FuncData} (T:Txt P w K mg A) (D:Fg K A.Trip "Trip.__init__" sW ["self","place","minute","failed"] f fd):bO P w K mg base eC 1 f fd ["self","place","minute","failed"] (spNew A.Trip ["place","minute","failed"]):=by
 have nd:=sc_Trip_init.nd
 refine D.fn.ok sc_Trip_init (fun vs H Q E h=>?_) (fun cdv Ar outer s H vs Q E hr h=>?_)
 ·obtain ⟨p,dx,xs,rfl,hl,_⟩:=h
  show xs.length + 1=4
  rw[hl]
  rfl
 ·obtain ⟨p,dx,xs,rfl,hl,hp,k⟩:=h
  obtain ⟨x0,x1,x2,rfl⟩:∃ x0 x1 x2,xs=[x0,x1,x2]:=by
   match xs,hl with
   | [x0,x1,x2],_=>exact ⟨x0,x1,x2,rfl⟩
  refine ⟨_,(aC (cV (pv 0) (pv 1) rfl)  (aC (cV (pv 0) (pv 2) rfl)  (aE (cV (pv 0) (pv 3) rfl)))),?_⟩
  refine sq (eJ (aA rfl) (aA rfl) hp T.oC.cl T.xB (by show 0<1000;decide) ?_)
  rw[Va]
  refine sq (eJ (aA rfl) (aA rfl) aF T.oC.cl T.uV (by show 1<1000;decide) ?_)
  rw[Tl]
  refine (eJ (aA rfl) (aA rfl) aF T.oC.cl T.kD (by show 2<1000;decide) ?_)
  rw[Ux]
  simp only[dN]
  exact k
end
end Mr
namespace Mr
open PySem PySem.Spec PyProof.Rows L2
open Vbmiai (Net Junction Road Speed Closing)
def jF (x:Junction):List (Str×V):=vG (.int x.number) (.int x.height)
def rF (x:Road):List (Str×V):=xQ (.int x.number) (.int x.a) (.int x.b) (.int x.long) (.int x.ways)
def sF (x:Speed):List (Str×V):=tX (.int x.grade) (.int x.up) (.int x.upLoaded) (.int x.down) (.int x.downLoaded)
def cF (x:Closing):List (Str×V):=uG (.int x.road) (.int x.lo) (.int x.hi)
structure NetAt (A:Ad) (H:Hp) (p lj lr ls lc:Addr) (m:Net):Prop where
 ob:OA H A.Net (lU (.ref lj) (.ref lr) (.ref ls) (.ref lc)) p
 js:LA H A.Junction jF lj m.junctions
 rs:LA H A.Road rF lr m.roads
 ss:LA H A.Speed sF ls m.speeds
 cs:LA H A.Closing cF lc m.closings
def NetIs (A:Ad) (H:Hp) (p:Addr) (m:Net):Prop:=∃ lj lr ls lc,NetAt A H p lj lr ls lc m
theorem NetAt.same {A:Ad}{H H':Hp}{p lj lr ls lc:Addr}{m:Net} (h:NetAt A H p lj lr ls lc m) (e:Same H H'):NetAt A H' p lj lr ls lc m:=⟨h.ob.same e,h.js.same e,h.rs.same e,h.ss.same e,h.cs.same e⟩
theorem NetIs.same {A:Ad}{H H':Hp}{p:Addr}{m:Net} (h:NetIs A H p m) (e:Same H H'):NetIs A H' p m:=let ⟨a,b,c,d,q⟩:=h;⟨a,b,c,d,q.same e⟩
theorem fE {a b:Nat}:decide (V.int (a:Int)=V.int (b:Int))=(a == b):=by
 rw[Bool.eq_iff_iff,decide_eq_true_iff,beq_iff_eq]
 constructor
 ·intro h
  injection h with h
  omega
 ·rintro rfl
  rfl
theorem dL:bootBuiltins "len" = some (.builtin "len"):=by decide +kernel
theorem Wr:bootBuiltins "abs" = some (.builtin "abs"):=by decide +kernel
theorem gc:bootBuiltins "ord" = some (.builtin "ord"):=by decide +kernel
theorem Os:bootBuiltins "all" = some (.builtin "all"):=by decide +kernel
theorem Bj:bootBuiltins "list" = some (.type "list"):=by decide +kernel
theorem gh:bootBuiltins "str" = some (.type "str"):=by decide +kernel
theorem blk {N:List Str}{sc scope:Scope}{own:List (Str×Nat)} (h:fh N sc scope own=true:=by kernel_rfl):Gz N sc scope own:=Xu h
section
variable {X:Cx}{K':PySem.W.Frag}
theorem lJ {e:Expr}{ta:TE}{f:Str}{pos:Pos} (hK:X.K=K') (he:PE X e ta) (hb:attributeBase e f X.env (eval e X.env)=eval e X.env):PE X (.Attribute e f pos) (Bn K' ta f):=by
 subst hK
 exact aI he hb
theorem Yo (hK:X.K=K'):ml X (ff K'):=by
 subst hK
 exact bC
theorem Tk (hK:X.K=K'):uN X (.builtin "len") (fun xs H Q=>∃ p ys,xs=[.ref p]∧(SqL K' H p ys∨SqT K' H p ys)∧Q (.int ys.length) H):=by
 subst hK
 exact bG
end
theorem pO {α:Type}{p:α→Bool}{l:List α}{n:Nat} (h:(l.take n).find? p=none) (hn:n=l.length):l.find? p=none:=by
 rw[hn,List.take_length] at h
 exact h
def zD (lo hi:Int):Sp:=fun vs H Q _=>∃ z:Int,vs=[.int z]∧Q (.bl (Vbmiai.within z lo hi)) H
def Ut (K:PySem.W.Frag):Sp:=fun vs H Q _=>∃ (a:Addr) (zs:List Int) (most:Nat),vs=[.ref a,.int most]∧SqL K H a (zs.map V.int)∧zs.length<sizeLine∧∀ H',Same H H'→Q (.bl (Vbmiai.isList zs most 0 1000000)) H'
def Pg (K:PySem.W.Frag):Sp:=fun vs H Q _=>∃ (a:Addr) (zs:List Int),vs=[.ref a]∧SqL K H a (zs.map V.int)∧zs.length<sizeLine∧∀ H',Same H H'→Q (.bl (Vbmiai.isText zs)) H'
theorem all_map {α:Type} (f:α→Bool) (l:List α):(l.map f).all id=l.all f:=by
 rw[List.all_map]
 rfl
theorem jY {a b:Nat}:decide ((a:Int)≤(b:Int))=decide (a≤b):=by
 rw[Bool.eq_iff_iff]
 simp
theorem lZ {α:Type} (l:List α):l.filter (fun _=>true)=l:=by
 induction l with
 | nil=>rfl
 | cons a l ih=>rw[List.filter_cons,if_pos rfl,ih]
section
variable {P:Program}{w:World}{K:PySem.W.Frag}{mg:Str→Option Value}{base:Heap}{A:Ad}
theorem eO {f:Addr}{fd:FuncData} (T:Txt P w K mg A) (D:Dn K mg "is_name" yC ["number"] f fd):bO P w K mg base eC 1 f fd ["number"] (zD 1 99):=by
 have nd:=sc_is_name.nd
 refine D.fn.ok sc_is_name (fun vs H Q E h=>?_) (fun cdv Ar outer s H vs Q E hr h=>?_)
 ·obtain ⟨z,rfl,_⟩:=h
  rfl
 ·obtain ⟨z,rfl,k⟩:=h
  refine ⟨_,(aE (aK (jG fX fX aM (pv 0) aM))),?_⟩
  exact cS (jE aL (aA rfl) aL) k
theorem eS {f:Addr}{fd:FuncData} (T:Txt P w K mg A) (D:Dn K mg "is_minute" sS ["number"] f fd):bO P w K mg base eC 1 f fd ["number"] (zD 0 100000):=by
 have nd:=sc_is_minute.nd
 refine D.fn.ok sc_is_minute (fun vs H Q E h=>?_) (fun cdv Ar outer s H vs Q E hr h=>?_)
 ·obtain ⟨z,rfl,_⟩:=h
  rfl
 ·obtain ⟨z,rfl,k⟩:=h
  refine ⟨_,(aE (aK (jG fX fX aM (pv 0) (aW rfl T.Gp)))),?_⟩
  exact cS (jE aL (aA rfl) aL) k
theorem gI {f:Addr}{fd:FuncData} (T:Txt P w K mg A) (D:Dn K mg "is_load" xV ["number"] f fd):bO P w K mg base eC 1 f fd ["number"] (zD 0 1):=by
 have nd:=sc_is_load.nd
 refine D.fn.ok sc_is_load (fun vs H Q E h=>?_) (fun cdv Ar outer s H vs Q E hr h=>?_)
 ·obtain ⟨z,rfl,_⟩:=h
  rfl
 ·obtain ⟨z,rfl,k⟩:=h
  refine ⟨_,(aE (aK (jG fX fX aM (pv 0) aM))),?_⟩
  exact cS (jE aL (aA rfl) aL) k
theorem Vi {f:Addr}{fd:FuncData} (T:Txt P w K mg A) (D:Dn K mg "is_way" Ck ["number"] f fd):bO P w K mg base eC 1 f fd ["number"] (zD 0 1):=by
 have nd:=sc_is_way.nd
 refine D.fn.ok sc_is_way (fun vs H Q E h=>?_) (fun cdv Ar outer s H vs Q E hr h=>?_)
 ·obtain ⟨z,rfl,_⟩:=h
  rfl
 ·obtain ⟨z,rfl,k⟩:=h
  refine ⟨_,(aE (aK (jG fX fX aM (pv 0) aM))),?_⟩
  exact cS (jE aL (aA rfl) aL) k
theorem Ql {f:Addr}{fd:FuncData} (T:Txt P w K mg A) (D:Dn K mg "is_stay" xU ["number"] f fd):bO P w K mg base eC 1 f fd ["number"] (zD 0 1000):=by
 have nd:=sc_is_stay.nd
 refine D.fn.ok sc_is_stay (fun vs H Q E h=>?_) (fun cdv Ar outer s H vs Q E hr h=>?_)
 ·obtain ⟨z,rfl,_⟩:=h
  rfl
 ·obtain ⟨z,rfl,k⟩:=h
  refine ⟨_,(aE (aK (jG fX fX aM (pv 0) (aW rfl T.Fe)))),?_⟩
  exact cS (jE aL (aA rfl) aL) k
theorem Zc {f:Addr}{fd:FuncData} (T:Txt P w K mg A) (D:Dn K mg "is_nx" Jc ["number"] f fd):bO P w K mg base eC 1 f fd ["number"] (zD 1 8):=by
 have nd:=sc_is_nx.nd
 refine D.fn.ok sc_is_nx (fun vs H Q E h=>?_) (fun cdv Ar outer s H vs Q E hr h=>?_)
 ·obtain ⟨z,rfl,_⟩:=h
  rfl
 ·obtain ⟨z,rfl,k⟩:=h
  refine ⟨_,(aE (aK (jG fX fX aM (pv 0) (aW rfl T.Vq)))),?_⟩
  exact cS (jE aL (aA rfl) aL) k
theorem Qa {f:Addr}{fd:FuncData} (T:Txt P w K mg A) (D:Dn K mg "is_cell" yA ["number"] f fd):bO P w K mg base eC 1 f fd ["number"] (zD 0 63):=by
 have nd:=sc_is_cell.nd
 refine D.fn.ok sc_is_cell (fun vs H Q E h=>?_) (fun cdv Ar outer s H vs Q E hr h=>?_)
 ·obtain ⟨z,rfl,_⟩:=h
  rfl
 ·obtain ⟨z,rfl,k⟩:=h
  refine ⟨_,(aE (aK (jG fX fX aM (pv 0) (aW rfl T.Oe)))),?_⟩
  exact cS (jE aL (aA rfl) aL) k
theorem wR {f:Addr}{fd:FuncData} (T:Txt P w K mg A) (D:Dn K mg "is_member" tD ["number"] f fd):bO P w K mg base eC 1 f fd ["number"] (zD 0 1000000):=by
 have nd:=sc_is_member.nd
 refine D.fn.ok sc_is_member (fun vs H Q E h=>?_) (fun cdv Ar outer s H vs Q E hr h=>?_)
 ·obtain ⟨z,rfl,_⟩:=h
  rfl
 ·obtain ⟨z,rfl,k⟩:=h
  refine ⟨_,(aE (aK (jG fX fX aM (pv 0) (aW rfl T.xH)))),?_⟩
  exact cS (jE aL (aA rfl) aL) k
theorem xT {f:Addr}{fd:FuncData} (T:Txt P w K mg A) (D:Dn K mg "is_row" Cs ["row","most"] f fd):bO P w K mg base eC 2 f fd ["row","most"] (Ut K):=by
 obtain ⟨af_is_member,fd_is_member,D_is_member⟩:=T.zT
 have G_is_member:=wR (base:=base) T D_is_member
 have nd:=sc_is_row.nd
 refine D.fn.ok sc_is_row (fun vs H Q E h=>?_) (fun cdv Ar outer s H vs Q E hr h=>?_)
 ·obtain ⟨a,zs,most,rfl,_⟩:=h
  rfl
 ·obtain ⟨a,zs,most,rfl,hS,hl,k⟩:=h
  refine ⟨_,(aE (aK (Xh (nR fX (bU bG (by rfl) T.eP dL (aB (pv 0) aD)) (pv 1) (bD _)) (Ol (bU (On rfl) (by rfl) T.Wi Os (aB (nM rfl nd (cH (pv 0)) (blk (own:=[("number",2)])) (fun _ _ _ _ _=>by exact (bV (i:=2) nd rfl (Or.inl rfl))) (fun _ _ _ _ _=>by exact iI) (fun _ _ _ _ _=>by exact (aG G_is_member (hr.mono (by decide)) rfl D_is_member.mg D_is_member.fn.kp D_is_member.bi .nil aN (aB (pv 2) aD)))) aD)))))),?_⟩
  refine bP ?_
  refine (bH (cW (bW (aA rfl)) hS) (aA rfl)) _ ⟨_,rfl,?_⟩
  have e1:Vbmiai.isList zs most 0 1000000=(decide (((zs.map V.int).length:Int)≤(most:Int)) && zs.all fun z=>Vbmiai.within z 0 1000000):=by
   unfold Vbmiai.isList
   rw[List.length_map,jY]
  rw[e1] at k
  refine Vy (fun e=>?_) (fun e=>?_)
  ·rw[e] at k
   refine Gw (cq (zs:=zs) (fun _=>true) (fun _ z=>.bl (Vbmiai.within z 0 1000000)) (aA rfl) hS (by rw[List.length_map]) (by rw[List.length_map];exact hl) (fun _=>rfl) (fun i x z hi hz H' sm=>⟨lG,fun _=>?_⟩) (fun D hD=>?_))
   ·obtain ⟨z',hz',rfl⟩:=bF hi
    rw[hz] at hz'
    cases hz'
    exact aZ (bW (aA rfl)) fun Q q=>⟨z,rfl,q⟩
   ·rw[jH _ _ _ _ (by rw[List.length_map]),lZ]
    refine ⟨D,zs.map fun z=>Vbmiai.within z 0 1000000,rfl,SqL.of (by rw[aF,List.map_map];rfl),?_⟩
    rw[all_map]
    exact k _ (bN hD)
  ·rw[Bool.eq_false_iff.mpr e] at k
   exact k _ (Same.refl H)
theorem Dr {f:Addr}{fd:FuncData} (T:Txt P w K mg A) (D:Dn K mg "is_text" xX ["row"] f fd):bO P w K mg base eC 1 f fd ["row"] (Pg K):=by
 have nd:=sc_is_text.nd
 refine D.fn.ok sc_is_text (fun vs H Q E h=>?_) (fun cdv Ar outer s H vs Q E hr h=>?_)
 ·obtain ⟨a,zs,rfl,_⟩:=h
  rfl
 ·obtain ⟨a,zs,rfl,hS,hl,k⟩:=h
  refine ⟨_,(aE (aK (Xh (nR fX (bU bG (by rfl) T.eP dL (aB (pv 0) aD)) (aW rfl T.Lj) (bD _)) (Ol (bU (On rfl) (by rfl) T.Wi Os (aB (nM rfl nd (cH (pv 0)) (blk (own:=[("number",1)])) (fun _ _ _ _ _=>by exact (bV (i:=1) nd rfl (Or.inl rfl))) (fun _ _ _ _ _=>by exact iI) (fun _ _ _ _ _=>by exact (jG fX fX aM (pv 1) aM))) aD)))))),?_⟩
  refine bP ?_
  refine (bH (cW (bW (aA rfl)) hS) aL) _ ⟨_,rfl,?_⟩
  have e1:Vbmiai.isText zs=(decide (((zs.map V.int).length:Int)≤2000) && zs.all fun z=>Vbmiai.within z 0 255):=by
   unfold Vbmiai.isText
   rw[List.length_map]
   exact congrArg (· && _) (jY (b:=2000)).symm
  rw[e1] at k
  refine Vy (fun e=>?_) (fun e=>?_)
  ·rw[e] at k
   refine Gw (cq (zs:=zs) (fun _=>true) (fun _ z=>.bl (Vbmiai.within z 0 255)) (aA rfl) hS (by rw[List.length_map]) (by rw[List.length_map];exact hl) (fun _=>rfl) (fun i x z hi hz H' sm=>⟨lG,fun _=>?_⟩) (fun D hD=>?_))
   ·obtain ⟨z',hz',rfl⟩:=bF hi
    rw[hz] at hz'
    cases hz'
    exact jE aL (aA rfl) aL
   ·rw[jH _ _ _ _ (by rw[List.length_map]),lZ]
    refine ⟨D,zs.map fun z=>Vbmiai.within z 0 255,rfl,SqL.of (by rw[aF,List.map_map];rfl),?_⟩
    rw[all_map]
    exact k _ (bN hD)
  ·rw[Bool.eq_false_iff.mpr e] at k
   exact k _ (Same.refl H)
end
def nI (l:List Nat):List V:=l.map fun (n:Nat)=>V.int (n:Int)
theorem dY (a b:List Nat):nI (a ++ b)=nI a ++ nI b:=List.map_append
theorem cJ (a:List Nat):(nI a).length=a.length:=List.length_map ..
def jR (x:Junction):List Nat:=[x.number,x.height]
def rR (x:Road):List Nat:=[x.number,x.a,x.b,x.long,x.ways]
def sR (x:Speed):List Nat:=[x.grade,x.up,x.upLoaded,x.down,x.downLoaded]
def cR (x:Closing):List Nat:=[x.road,x.lo,x.hi]
section
variable {σ:L2.St}{H:Hp}{K:PySem.W.Frag}{te:TE}
theorem uZ {to:TE}{l:Addr}{xs:List V}{Q:VK} (ho:Ev to σ H (.ref l)) (h:H l=some (.lst xs)) (he:te σ H fun y H1=>Bg (.ref l) [y] H1 Q):dv K "list" Bg to (gJ te lQ) σ H Q:=ho _ ⟨.inl ⟨rfl,_,SqL.of h⟩,he⟩
theorem Iu {to:TE}{l:Addr}{xs:List V}{Q:VK} (ho:Ev to σ H (.ref l)) (h:H l=some (.lst xs)) (he:te σ H fun y H1=>tZ (.ref l) [y] H1 Q):dv K "list" tZ to (gJ te lQ) σ H Q:=ho _ ⟨.inl ⟨rfl,_,SqL.of h⟩,he⟩
theorem Im {ta:TE}{a:Addr}{ys:List V}{Q:VK} (ha:Ev ta σ H (.ref a)) (h:SqL K H a ys) (q:∀ l,H l=none→Q (.ref l) (cA H l (.lst ys))):du (fun xs H Q=>∃ p ys,xs=[.ref p]∧(SqL K H p ys∨SqT K H p ys)∧∀ l,H l=none→Q (.ref l) (cA H l (.lst ys))) (gJ ta lQ) σ H Q:=ha _ ⟨a,ys,rfl,.inl h,q⟩
theorem lW {tl:TA}{C:Addr}{names:List Str}{xs:List V}{Q:VK}{E:XK} (ha:Lk tl σ H xs) (hl:xs.length=names.length) (h:∀ x dx,H x=none→H dx=none→Q (.ref x) (jk H x dx C (names.zip xs))):Re C (spNew C names) [] E tl σ H Q:=ha _ (spNew.made hl h)
theorem iq {tl:TA}{Q:VK} (h:tl σ H fun xs H1=>xs.length≤sizeLine∧∀ p,H1 p=none→Q (.ref p) (cA H1 p (.lst xs))):Zq tl σ H Q:=h
theorem qA {ta tb:TE}{Q:VK} (h:ta σ H fun x H1=>tb σ H1 fun y H2=>fi x y H2 Q):Fh fi ta tb σ H Q:=h
end
section
variable {σ:L2.St}{H:Hp}{K:PySem.W.Frag}{D:jB}{te ta tv:TE}{t:TT}{s1 s2 s3:TS}{b:Bool}{v:V}{n:Nat}
theorem cC (he:Ev te σ H v) (h:s2 D (σ.set n (some v)) H):pC (Sr te (jC n)) s2 D σ H:=he _ h
theorem bZ (h:te σ H fun x H1=>s2 D (σ.set n (some x)) H1):pC (Sr te (jC n)) s2 D σ H:=h
theorem iB (h:te σ H fun _ H1=>s2 D σ H1):pC (Lr te) s2 D σ H:=h
theorem So (ht:EvT t σ H b) (h1:b=true→s1 { D with nx:=s2 D } σ H) (h2:b=false→s2 D σ H):pC (Fk t s1 zA) s2 D σ H:=lS (D:={ D with nx:=s2 D }) (s2:=zA) ht h1 h2
theorem cB (ht:EvT t σ H b) (h1:b=true→te σ H D.rt) (h2:b=false→s2 D σ H):pC (Fk t (Ln te) zA) s2 D σ H:=lS (D:={ D with nx:=s2 D }) (s2:=zA) ht h1 h2
theorem la {te2:TE} (ht:EvT t σ H b) (h1:b=true→te σ H D.rt) (h2:b=false→te2 σ H D.rt):pC (Fk t (Ln te) zA) (Ln te2) D σ H:=cB (s2:=Ln te2) ht h1 h2
theorem Wo {f:Str} (h:tv σ H fun y H1=>ta σ H1 fun x H2=>∃ a C dx fs,x = .ref a∧H2 a=some (.ins C dx fs)∧Cls K C∧NoAttr K C f∧fs.length<1000∧s2 D σ (cA H2 a (.ins C dx (eE f y fs)))):pC (Vv K ta tv f) s2 D σ H:=h
theorem Xi {f:Str} (h:tv σ H fun y H1=>ta σ H1 fun x H2=>∃ a C dx fs,x = .ref a∧H2 a=some (.ins C dx fs)∧Cls K C∧NoAttr K C f∧fs.length<1000∧D.nx σ (cA H2 a (.ins C dx (eE f y fs)))):Vv K ta tv f D σ H:=h
theorem iL {a:Addr}{xs:List V}{tb:TS} (he:Ev te σ H (.ref a)) (hx:SqL K H a xs) (Pv:Nat→L2.St→Hp→Prop) (h0:Pv 0 σ H) (hl:∀ i σ H,i≤xs.length→Pv i σ H→SqL K H a xs)
  (hs:∀ i x σ H,xs[i]? = some x→Pv i σ H→tb ⟨Pv (i + 1),D.rt,s2 D,Pv (i + 1)⟩ (σ.set n (some x)) H) (hd:∀ σ H,Pv xs.length σ H→s2 D σ H):pC (Fi (wB K te) (jC n) tb) s2 D σ H:=Wy (D:={ D with nx:=s2 D }) he hx Pv h0 hl hs hd
end
def Bw {α:Type} (C:Addr) (F:α→List (Str×V)) (row:α→List Nat):Sp:=fun vs H Q _=>∃ (a:Addr) (x:α),vs=[.ref a]∧OA H C (F x) a∧∀ l,H l=none→Q (.ref l) (cA H l (.lst (nI (row x))))
def yJ (A:Ad):Sp:=fun vs H Q _=>∃ (p:Addr) (m:Net) (n:Nat),vs=[.ref p,.int n]∧NetIs A H p m∧(∀ x a,m.junctions.find? (fun x=>x.number == n)=some x→OA H A.Junction (jF x) a→Q (.ref a) H)∧(m.junctions.find? (fun x=>x.number == n)=none→Q .non H)
def Jt (A:Ad):Sp:=fun vs H Q _=>∃ (p:Addr) (m:Net) (n:Nat),vs=[.ref p,.int n]∧NetIs A H p m∧(∀ x a,Vbmiai.roadOf m n=some x→OA H A.Road (rF x) a→Q (.ref a) H)∧(Vbmiai.roadOf m n=none→Q .non H)
def Ao (A:Ad):Sp:=fun vs H Q _=>∃ (p:Addr) (m:Net) (n:Nat),vs=[.ref p,.int n]∧NetIs A H p m∧Q (.bl (Vbmiai.hasJunction m n)) H
def No (A:Ad):Sp:=fun vs H Q _=>∃ (p:Addr) (m:Net) (n:Nat),vs=[.ref p,.int n]∧NetIs A H p m∧Q (.bl (Vbmiai.roadOf m n).isSome) H
def Du (A:Ad):Sp:=fun vs H Q _=>∃ (p:Addr) (m:Net) (n:Nat),vs=[.ref p,.int n]∧NetIs A H p m∧m.closings.length≤20∧∀ l H',Same H H'→H l=none→LA H' A.Closing cF l (m.closings.filter fun c=>c.road == n)→Q (.ref l) H'
structure Gr (A:Ad) (H0 H:Hp) (q lj lr ls lc:Addr) (m:Net):Prop where
 net:NetAt A H q lj lr ls lc m
 nq:H0 q=none
 nj:H0 lj=none
 nr:H0 lr=none
 ns:H0 ls=none
 nc:H0 lc=none
 jr:lj≠lr
 js:lj≠ls
 jc:lj≠lc
 rs:lr≠ls
 rc:lr≠lc
 sc:ls≠lc
def Ka (A:Ad):Sp:=fun vs H Q _=>vs=[]∧∀ q lj lr ls lc H',Same H H'→Gr A H H' q lj lr ls lc Vbmiai.empty→Q (.ref q) H'
def Nb (A:Ad):Sp:=fun vs H Q _=>∃ (p:Addr) (m:Net),vs=[.ref p]∧NetIs A H p m∧∀ q lj lr ls lc H',Same H H'→Gr A H H' q lj lr ls lc m→Q (.ref q) H'
def Aq (A:Ad):Sp:=fun vs H Q _=>∃ (p a:Addr) (m:Net) (c:Closing),vs=[.ref p,.ref a]∧NetIs A H p m∧OA H A.Closing (cF c) a∧m.closings.length≤20∧∀ q lj lr ls lc H',Same H H'→Gr A H H' q lj lr ls lc { m with closings:=Vbmiai.putClosing c m.closings }→Q (.ref q) H'
def uI (A:Ad):Sp:=fun vs H Q _=>∃ (p:Addr) (m:Net) (n:Nat),vs=[.ref p,.int n]∧NetIs A H p m∧m.closings.length≤20∧∀ q lj lr ls lc H',Same H H'→Gr A H H' q lj lr ls lc { m with closings:=m.closings.filter fun c=>c.road != n }→Q (.ref q) H'
def mE {α:Type} (C:Addr) (F:α→List (Str×V)) (row:α→List Nat):Sp:=fun vs H Q _=>∃ (l:Addr) (xs:List α),vs=[.ref l]∧LA H C F l xs∧xs.length≤20∧∀ l' H',Same H H'→H l'=none→H' l'=some (.lst (nI (xs.length :: xs.flatMap row)))→Q (.ref l') H'
def tW (m:Net):List Nat:=(((m.junctions.length :: m.junctions.flatMap jR) ++ (m.roads.length :: m.roads.flatMap rR)) ++ (m.speeds.length :: m.speeds.flatMap sR)) ++ (m.closings.length :: m.closings.flatMap cR)
def Em (A:Ad):Sp:=fun vs H Q _=>∃ (p:Addr) (m:Net),vs=[.ref p]∧NetIs A H p m∧WF m∧∀ l' H',Same H H'→H l'=none→H' l'=some (.lst (nI (tW m)))→Q (.ref l') H'
theorem LA.copy {α:Type}{H H':Hp}{C l':Addr}{F:α→List (Str×V)}{xs:List α}{as:List Addr} (hall:All2 (fun a x=>OA H C (F x) a) as xs) (e:Same H H') (hl:H' l'=some (.lst (as.map V.ref))):LA H' C F l' xs:=⟨as,hl,hall.imp fun _ _ q=>q.same e⟩
theorem hJ {α:Type} (row:α→List Nat) (xs:List α) (h:∀ x,(row x).length≤5) (n:Nat) (hn:xs.length≤n):(xs.flatMap row).length≤5 * n:=by
 have:=Cp row 5 xs (fun x _=>h x)
 omega
section
variable {P:Program}{w:World}{K:PySem.W.Frag}{mg:Str→Option Value}{base:Heap}{A:Ad}
theorem kT {f:Addr}{fd:FuncData} (T:Txt P w K mg A) (D:Mn K A.Junction "row" "Junction.row" mW ["self"] f fd):bO P w K mg base eC 1 f fd ["self"] (Bw A.Junction jF jR):=by
 have nd:=sc_Junction_row.nd
 refine D.fn.ok sc_Junction_row (fun vs H Q E h=>?_) (fun cdv Ar outer s H vs Q E hr h=>?_)
 ·obtain ⟨a,x,rfl,_⟩:=h
  rfl
 ·obtain ⟨a,x,rfl,⟨dx,ho⟩,k⟩:=h
  refine ⟨_,(aE (aK (bE (aB (aI (pv 0) rfl) (aB (aI (pv 0) rfl) aD))))),?_⟩
  exact bP (dI (bS (aH (aA rfl) ho T.dE.cl T.cT cX) (aH (aA rfl) ho T.dE.cl T.gS iT)) (by show 2≤sizeLine;decide) k)
theorem zM {f:Addr}{fd:FuncData} (T:Txt P w K mg A) (D:Mn K A.Road "row" "Road.row" vU ["self"] f fd):bO P w K mg base eC 1 f fd ["self"] (Bw A.Road rF rR):=by
 have nd:=sc_Road_row.nd
 refine D.fn.ok sc_Road_row (fun vs H Q E h=>?_) (fun cdv Ar outer s H vs Q E hr h=>?_)
 ·obtain ⟨a,x,rfl,_⟩:=h
  rfl
 ·obtain ⟨a,x,rfl,⟨dx,ho⟩,k⟩:=h
  refine ⟨_,(aE (aK (bE (aB (aI (pv 0) rfl) (aB (aI (pv 0) rfl) (aB (aI (pv 0) rfl) (aB (aI (pv 0) rfl) (aB (aI (pv 0) rfl) aD)))))))),?_⟩
  exact bP (dI (bA (aH (aA rfl) ho T.dS.cl T.eW fB) (bA (aH (aA rfl) ho T.dS.cl T.mB lP) (bA (aH (aA rfl) ho T.dS.cl T.mC lN) (bS (aH (aA rfl) ho T.dS.cl T.jZ mS) (aH (aA rfl) ho T.dS.cl T.tI wP))))) (by show 5≤sizeLine;decide) k)
theorem wT {f:Addr}{fd:FuncData} (T:Txt P w K mg A) (D:Mn K A.Speed "row" "Speed.row" sY ["self"] f fd):bO P w K mg base eC 1 f fd ["self"] (Bw A.Speed sF sR):=by
 have nd:=sc_Speed_row.nd
 refine D.fn.ok sc_Speed_row (fun vs H Q E h=>?_) (fun cdv Ar outer s H vs Q E hr h=>?_)
 ·obtain ⟨a,x,rfl,_⟩:=h
  rfl
 ·obtain ⟨a,x,rfl,⟨dx,ho⟩,k⟩:=h
  refine ⟨_,(aE (aK (bE (aB (aI (pv 0) rfl) (aB (aI (pv 0) rfl) (aB (aI (pv 0) rfl) (aB (aI (pv 0) rfl) (aB (aI (pv 0) rfl) aD)))))))),?_⟩
  exact bP (dI (bA (aH (aA rfl) ho T.eM.cl T.gE gR) (bA (aH (aA rfl) ho T.eM.cl T.vV zO) (bA (aH (aA rfl) ho T.eM.cl T.jL nJ) (bS (aH (aA rfl) ho T.eM.cl T.qU uT) (aH (aA rfl) ho T.eM.cl T.iC kJ))))) (by show 5≤sizeLine;decide) k)
theorem tL {f:Addr}{fd:FuncData} (T:Txt P w K mg A) (D:Mn K A.Closing "row" "Closing.row" oJ ["self"] f fd):bO P w K mg base eC 1 f fd ["self"] (Bw A.Closing cF cR):=by
 have nd:=sc_Closing_row.nd
 refine D.fn.ok sc_Closing_row (fun vs H Q E h=>?_) (fun cdv Ar outer s H vs Q E hr h=>?_)
 ·obtain ⟨a,x,rfl,_⟩:=h
  rfl
 ·obtain ⟨a,x,rfl,⟨dx,ho⟩,k⟩:=h
  refine ⟨_,(aE (aK (bE (aB (aI (pv 0) rfl) (aB (aI (pv 0) rfl) (aB (aI (pv 0) rfl) aD)))))),?_⟩
  exact bP (dI (bA (aH (aA rfl) ho T.dC.cl T.gY iJ) (bS (aH (aA rfl) ho T.dC.cl T.hZ iG) (aH (aA rfl) ho T.dC.cl T.iA iH))) (by show 3≤sizeLine;decide) k)
theorem pR {f:Addr}{fd:FuncData} (T:Txt P w K mg A) (D:Dn K mg "find_junction" kR ["net","number"] f fd):bO P w K mg base eC 1 f fd ["net","number"] (yJ A):=by
 have nd:=sc_find_junction.nd
 refine D.fn.ok sc_find_junction (fun vs H Q E h=>?_) (fun cdv Ar outer s H vs Q E hr h=>?_)
 ·obtain ⟨p,m,n,rfl,_⟩:=h
  rfl
 ·obtain ⟨p,m,n,rfl,⟨lj,lr,ls,lc,N⟩,k1,k2⟩:=h
  refine ⟨_,(aC (eK PassesOwn.never rfl (cH (aI (pv 0) rfl)) (bV (i:=2) nd rfl (Or.inl rfl)) (aE (bJ (aY fW (aI (pv 2) rfl) (pv 1) (bD _)) (aE (aK (pv 2))) aU))) (aE (aK jQ))),?_⟩
  obtain ⟨dx,hp⟩:=N.ob
  obtain ⟨as,hl,hall⟩:=N.js
  refine (iL (aH (aA rfl) hp T.dQ.cl T.cN cQ) (SqL.of hl) (fun i σ H'=>(∃ v:Option V,σ=[some (.ref p),some (.int n),v])∧H'=H∧(m.junctions.take i).find? (fun x=>x.number == n)=none) ⟨⟨_,rfl⟩,rfl,rfl⟩ (fun i σ H' _ h=>by rw[h.2.1];exact SqL.of hl) ?_ ?_)
  ·rintro i y σ H' hi ⟨⟨v,rfl⟩,rfl,hn⟩
   obtain ⟨a,ha,rfl⟩:=bF hi
   obtain ⟨x,hx,dx',hob⟩:=hall.get ha
   refine lS (aO (fA (aH (aA rfl) hob T.dE.cl T.cT cX) (aA rfl))) (fun e=>?_) (fun e=>?_)
   ·rw[fE] at e
    exact cS (aA rfl) (k1 x a (nQ hx hn e) ⟨dx',hob⟩)
   ·rw[fE] at e
    exact ⟨⟨_,rfl⟩,rfl,jS hx hn e⟩
  ·rintro σ H' ⟨⟨v,rfl⟩,rfl,hn⟩
   exact cS aL (k2 (pO hn (by rw[List.length_map];exact hall.length)))
theorem qT {f:Addr}{fd:FuncData} (T:Txt P w K mg A) (D:Dn K mg "find_road" sM ["net","number"] f fd):bO P w K mg base eC 1 f fd ["net","number"] (Jt A):=by
 have nd:=sc_find_road.nd
 refine D.fn.ok sc_find_road (fun vs H Q E h=>?_) (fun cdv Ar outer s H vs Q E hr h=>?_)
 ·obtain ⟨p,m,n,rfl,_⟩:=h
  rfl
 ·obtain ⟨p,m,n,rfl,⟨lj,lr,ls,lc,N⟩,k1,k2⟩:=h
  refine ⟨_,(aC (eK PassesOwn.never rfl (cH (aI (pv 0) rfl)) (bV (i:=2) nd rfl (Or.inl rfl)) (aE (bJ (aY fW (aI (pv 2) rfl) (pv 1) (bD _)) (aE (aK (pv 2))) aU))) (aE (aK jQ))),?_⟩
  obtain ⟨dx,hp⟩:=N.ob
  obtain ⟨as,hl,hall⟩:=N.rs
  refine (iL (aH (aA rfl) hp T.dQ.cl T.eV eT) (SqL.of hl) (fun i σ H'=>(∃ v:Option V,σ=[some (.ref p),some (.int n),v])∧H'=H∧(m.roads.take i).find? (fun x=>x.number == n)=none) ⟨⟨_,rfl⟩,rfl,rfl⟩ (fun i σ H' _ h=>by rw[h.2.1];exact SqL.of hl) ?_ ?_)
  ·rintro i y σ H' hi ⟨⟨v,rfl⟩,rfl,hn⟩
   obtain ⟨a,ha,rfl⟩:=bF hi
   obtain ⟨x,hx,dx',hob⟩:=hall.get ha
   refine lS (aO (fA (aH (aA rfl) hob T.dS.cl T.eW fB) (aA rfl))) (fun e=>?_) (fun e=>?_)
   ·rw[fE] at e
    exact cS (aA rfl) (k1 x a (nQ hx hn e) ⟨dx',hob⟩)
   ·rw[fE] at e
    exact ⟨⟨_,rfl⟩,rfl,jS hx hn e⟩
  ·rintro σ H' ⟨⟨v,rfl⟩,rfl,hn⟩
   exact cS aL (k2 (pO hn (by rw[List.length_map];exact hall.length)))
theorem dG {f:Addr}{fd:FuncData} (T:Txt P w K mg A) (D:Dn K mg "has_junction" nA ["net","number"] f fd):bO P w K mg base eC 2 f fd ["net","number"] (Ao A):=by
 obtain ⟨af_find_junction,fd_find_junction,D_find_junction⟩:=T.rA
 have G_find_junction:=pR (base:=base) T D_find_junction
 have nd:=sc_has_junction.nd
 refine D.fn.ok sc_has_junction (fun vs H Q E h=>?_) (fun cdv Ar outer s H vs Q E hr h=>?_)
 ·obtain ⟨p,m,n,rfl,_⟩:=h
  rfl
 ·obtain ⟨p,m,n,rfl,N,k⟩:=h
  refine ⟨_,(aE (aK (nR Iz (aG G_find_junction (hr.mono (by decide)) rfl D_find_junction.mg D_find_junction.fn.kp D_find_junction.bi .nil aN (aB (pv 0) (aB (pv 1) aD))) jQ (bD _)))),?_⟩
  have hj:Vbmiai.hasJunction m n=(m.junctions.find? fun x=>x.number == n).isSome:=by
   unfold Vbmiai.hasJunction
   rw[List.isSome_find?]
  refine bP (bQ (bS (aA rfl) (aA rfl)) ⟨p,m,n,rfl,N,fun x a h1 h2=>⟨rfl,?_⟩,fun h1=>⟨rfl,?_⟩⟩)
  ·rw[hj,h1] at k
   exact k
  ·rw[hj,h1] at k
   exact k
theorem gW {f:Addr}{fd:FuncData} (T:Txt P w K mg A) (D:Dn K mg "has_road" vO ["net","number"] f fd):bO P w K mg base eC 2 f fd ["net","number"] (No A):=by
 obtain ⟨af_find_road,fd_find_road,D_find_road⟩:=T.tJ
 have G_find_road:=qT (base:=base) T D_find_road
 have nd:=sc_has_road.nd
 refine D.fn.ok sc_has_road (fun vs H Q E h=>?_) (fun cdv Ar outer s H vs Q E hr h=>?_)
 ·obtain ⟨p,m,n,rfl,_⟩:=h
  rfl
 ·obtain ⟨p,m,n,rfl,N,k⟩:=h
  refine ⟨_,(aE (aK (nR Iz (aG G_find_road (hr.mono (by decide)) rfl D_find_road.mg D_find_road.fn.kp D_find_road.bi .nil aN (aB (pv 0) (aB (pv 1) aD))) jQ (bD _)))),?_⟩
  refine bP (bQ (bS (aA rfl) (aA rfl)) ⟨p,m,n,rfl,N,fun x a h1 h2=>⟨rfl,?_⟩,fun h1=>⟨rfl,?_⟩⟩)
  ·rw[h1] at k
   exact k
  ·rw[h1] at k
   exact k
theorem tM {f:Addr}{fd:FuncData} (T:Txt P w K mg A) (D:Dn K mg "closings_of" oI ["net","number"] f fd):bO P w K mg base eC 1 f fd ["net","number"] (Du A):=by
 have nd:=sc_closings_of.nd
 refine D.fn.ok sc_closings_of (fun vs H Q E h=>?_) (fun cdv Ar outer s H vs Q E hr h=>?_)
 ·obtain ⟨p,m,n,rfl,_⟩:=h
  rfl
 ·obtain ⟨p,m,n,rfl,⟨lj,lr,ls,lc,N⟩,h20,k⟩:=h
  refine ⟨_,(aE (aK (nM rfl nd (cH (aI (pv 0) rfl)) (blk (own:=[("closing",2)])) (fun _ _ _ _ _=>by exact (bV (i:=2) nd rfl (Or.inl rfl))) (fun _ _ _ _ _=>by exact (wF (aY fW (lJ (K':=K) rfl (pv 2) rfl) (pv 1) (bD _)))) (fun _ _ _ _ _=>by exact (pv 2))))),?_⟩
  obtain ⟨dx,hp⟩:=N.ob
  obtain ⟨as,hl,hall⟩:=N.cs
  refine bP (cq (zs:=m.closings) (fun c=>c.road == n) (fun x _=>x) (aH (aA rfl) hp T.dQ.cl T.dF dW) (SqL.of hl) (by rw[List.length_map];exact hall.length.symm) (by rw[List.length_map,hall.length];exact cE (Nat.le_trans h20 (by decide))) (fun _=>rfl) (fun i x z hi hz H' sm=>?_) (fun D hD=>?_))
  ·obtain ⟨a,ha,rfl⟩:=bF hi
   obtain ⟨z',hz',dx',hob⟩:=hall.get ha
   rw[hz] at hz'
   cases hz'
   have hob:=sm _ _ hob
   exact ⟨(aO (fA (aH (aA rfl) hob T.dC.cl T.gY iJ) (aA rfl))).to fE,fun _=>(aA rfl)⟩
  ·obtain ⟨bs,e,hb⟩:=pJ (fun c:Closing=>c.road == n) hall
   rw[e]
   exact k D _ (bN hD) hD ⟨bs,aF,hb.imp fun _ _ q=>q.same (bN hD)⟩
theorem Ke {f:Addr}{fd:FuncData} (T:Txt P w K mg A) (D:Dn K mg "empty_net" sE [] f fd):bO P w K mg base eC 3 f fd [] (Ka A):=by
 obtain ⟨af_Net,fd_Net,I_Net⟩:=T.dk
 have G_Net:=Ws (base:=base) T I_Net
 have nd:=sc_empty_net.nd
 refine D.fn.ok sc_empty_net (fun vs H Q E h=>?_) (fun cdv Ar outer s H vs Q E hr h=>?_)
 ·obtain ⟨rfl,_⟩:=h
  rfl
 ·obtain ⟨rfl,k⟩:=h
  refine ⟨_,(aE (aK (hC I_Net.ma G_Net (hr.mono (by decide)) rfl T.dQ.mg I_Net.bi .nil aN (aB (bE aD) (aB (bE aD) (aB (bE aD) (aB (bE aD) aD))))))),?_⟩
  refine bP ?_
  refine cK (dI eA (Nat.zero_le _) fun l1 h1=>?_)
  have s1:Same H (cA H l1 (.lst [])):=bN h1
  refine cK (dI eA (Nat.zero_le _) fun l2 h2=>?_)
  have s2:=s1.over (o:=.lst []) (s1.free h2)
  refine cK (dI eA (Nat.zero_le _) fun l3 h3=>?_)
  have s3:=s2.over (o:=.lst []) (s2.free h3)
  refine cK (dI eA (Nat.zero_le _) fun l4 h4=>?_)
  have s4:=s3.over (o:=.lst []) (s3.free h4)
  refine spNew.made rfl fun x dx hx hd=>k x l1 l2 l3 l4 _ (s4.trans (cP hx hd)) ?_
  have a1:cA H l1 (.lst []) l1=some (.lst []):=aF
  have n12:l1≠l2:=aQ a1 h2
  have a1:=(bN (o:=.lst []) h2) _ _ a1
  have a2:cA (cA H l1 (.lst [])) l2 (.lst []) l2=some (.lst []):=aF
  have n13:l1≠l3:=aQ a1 h3
  have n23:l2≠l3:=aQ a2 h3
  have a1:=(bN (o:=.lst []) h3) _ _ a1
  have a2:=(bN (o:=.lst []) h3) _ _ a2
  have a3:cA (cA (cA H l1 (.lst [])) l2 (.lst [])) l3 (.lst []) l3=some (.lst []):=aF
  have n14:l1≠l4:=aQ a1 h4
  have n24:l2≠l4:=aQ a2 h4
  have n34:l3≠l4:=aQ a3 h4
  have a1:=(bN (o:=.lst []) h4) _ _ a1
  have a2:=(bN (o:=.lst []) h4) _ _ a2
  have a3:=(bN (o:=.lst []) h4) _ _ a3
  have a4:cA (cA (cA (cA H l1 (.lst [])) l2 (.lst [])) l3 (.lst [])) l4 (.lst []) l4=some (.lst []):=aF
  have sI:=cP (C:=A.Net) (fs:=lU (.ref l1) (.ref l2) (.ref l3) (.ref l4)) hx hd
  exact ⟨⟨jP,⟨[],sI _ _ a1,trivial⟩,⟨[],sI _ _ a2,trivial⟩,⟨[],sI _ _ a3,trivial⟩,⟨[],sI _ _ a4,trivial⟩⟩,s4.free hx,h1,s1.free h2,s2.free h3,s3.free h4,n12,n13,n14,n23,n24,n34⟩
theorem sP {f:Addr}{fd:FuncData} (T:Txt P w K mg A) (D:Dn K mg "copy_net" vF ["net"] f fd):bO P w K mg base eC 3 f fd ["net"] (Nb A):=by
 obtain ⟨af_Net,fd_Net,I_Net⟩:=T.dk
 have G_Net:=Ws (base:=base) T I_Net
 have nd:=sc_copy_net.nd
 refine D.fn.ok sc_copy_net (fun vs H Q E h=>?_) (fun cdv Ar outer s H vs Q E hr h=>?_)
 ·obtain ⟨p,m,rfl,_⟩:=h
  rfl
 ·obtain ⟨p,m,rfl,⟨lj,lr,ls,lc,N⟩,k⟩:=h
  refine ⟨_,(aE (aK (hC I_Net.ma G_Net (hr.mono (by decide)) rfl T.dQ.mg I_Net.bi .nil aN (aB (pM lL (by rfl) T.Iw Bj (aB (aI (pv 0) rfl) aD)) (aB (pM lL (by rfl) T.Iw Bj (aB (aI (pv 0) rfl) aD)) (aB (pM lL (by rfl) T.Iw Bj (aB (aI (pv 0) rfl) aD)) (aB (pM lL (by rfl) T.Iw Bj (aB (aI (pv 0) rfl) aD)) aD))))))),?_⟩
  obtain ⟨dp,hp⟩:=N.ob
  obtain ⟨as1,b1,c1⟩:=N.js
  obtain ⟨as2,b2,c2⟩:=N.rs
  obtain ⟨as3,b3,c3⟩:=N.ss
  obtain ⟨as4,b4,c4⟩:=N.cs
  refine bP ?_
  refine cK (Im (aH (aA rfl) hp T.dQ.cl T.cN cQ) (SqL.of b1) fun l1 h1=>?_)
  have s1:Same H (cA H l1 (.lst (as1.map V.ref))):=bN h1
  refine cK (Im (aH (aA rfl) (s1 _ _ hp) T.dQ.cl T.eV eT) (SqL.of (s1 _ _ b2)) fun l2 h2=>?_)
  have s2:=s1.over (o:=.lst (as2.map V.ref)) (s1.free h2)
  refine cK (Im (aH (aA rfl) (s2 _ _ hp) T.dQ.cl T.fR fU) (SqL.of (s2 _ _ b3)) fun l3 h3=>?_)
  have s3:=s2.over (o:=.lst (as3.map V.ref)) (s2.free h3)
  refine cK (Im (aH (aA rfl) (s3 _ _ hp) T.dQ.cl T.dF dW) (SqL.of (s3 _ _ b4)) fun l4 h4=>?_)
  have s4:=s3.over (o:=.lst (as4.map V.ref)) (s3.free h4)
  refine spNew.made rfl fun x dx hx hd=>k x l1 l2 l3 l4 _ (s4.trans (cP hx hd)) ?_
  have a1:cA H l1 (.lst (as1.map V.ref)) l1=some (.lst (as1.map V.ref)):=aF
  have n12:l1≠l2:=aQ a1 h2
  have a1:=(bN (o:=.lst (as2.map V.ref)) h2) _ _ a1
  have a2:cA (cA H l1 (.lst (as1.map V.ref))) l2 (.lst (as2.map V.ref)) l2=some (.lst (as2.map V.ref)):=aF
  have n13:l1≠l3:=aQ a1 h3
  have n23:l2≠l3:=aQ a2 h3
  have a1:=(bN (o:=.lst (as3.map V.ref)) h3) _ _ a1
  have a2:=(bN (o:=.lst (as3.map V.ref)) h3) _ _ a2
  have a3:cA (cA (cA H l1 (.lst (as1.map V.ref))) l2 (.lst (as2.map V.ref))) l3 (.lst (as3.map V.ref)) l3=some (.lst (as3.map V.ref)):=aF
  have n14:l1≠l4:=aQ a1 h4
  have n24:l2≠l4:=aQ a2 h4
  have n34:l3≠l4:=aQ a3 h4
  have a1:=(bN (o:=.lst (as4.map V.ref)) h4) _ _ a1
  have a2:=(bN (o:=.lst (as4.map V.ref)) h4) _ _ a2
  have a3:=(bN (o:=.lst (as4.map V.ref)) h4) _ _ a3
  have a4:cA (cA (cA (cA H l1 (.lst (as1.map V.ref))) l2 (.lst (as2.map V.ref))) l3 (.lst (as3.map V.ref))) l4 (.lst (as4.map V.ref)) l4=some (.lst (as4.map V.ref)):=aF
  have sI:=cP (C:=A.Net) (fs:=lU (.ref l1) (.ref l2) (.ref l3) (.ref l4)) hx hd
  have sA:=s4.trans sI
  exact ⟨⟨jP,.copy c1 sA (sI _ _ a1),.copy c2 sA (sI _ _ a2),.copy c3 sA (sI _ _ a3),.copy c4 sA (sI _ _ a4)⟩,s4.free hx,h1,s1.free h2,s2.free h3,s3.free h4,n12,n13,n14,n23,n24,n34⟩
end
theorem OA.ov {H:Hp}{C a b:Addr}{fs:List (Str×V)}{u o:HO} (h:OA H C fs a) (hb:H b=some u) (hne:∀ dx,HO.ins C dx fs≠u):OA (cA H b o) C fs a:=by
 obtain ⟨dx,h⟩:=h
 exact ⟨dx,by rw[aV (jM h hb (hne dx))];exact h⟩
theorem LA.ov {α:Type}{H:Hp}{C l b:Addr}{F:α→List (Str×V)}{xs:List α}{u o:HO} (h:LA H C F l xs) (hb:H b=some u) (hl:l≠b) (hne:∀ dx x,HO.ins C dx (F x)≠u):LA (cA H b o) C F l xs:=by
 obtain ⟨as,h1,h2⟩:=h
 exact ⟨as,by rw[aV hl];exact h1,h2.imp fun a x q=>q.ov hb fun dx=>hne dx x⟩
theorem LA.put {α:Type}{H:Hp}{C b:Addr}{F:α→List (Str×V)}{xs:List α}{bs:List Addr}{ys:List V} (hb:H b=some (.lst ys)) (h:All2 (fun a x=>OA H C (F x) a) bs xs):LA (cA H b (.lst (bs.map V.ref))) C F b xs :=
 ⟨bs,aF,h.imp fun a x q=>q.ov hb fun dx z=>by cases z⟩
theorem il {C dx:Addr}{fs:List (Str×V)}{ys:List V}:HO.ins C dx fs ≠ .lst ys:=by intro z;cases z
theorem li {C dx:Addr}{fs:List (Str×V)}{ys:List V}:HO.lst ys ≠ .ins C dx fs:=by intro z;cases z
theorem ii {C dx C' dx':Addr}{fs gs:List (Str×V)} (h:fs.map (·.1)≠gs.map (·.1)):HO.ins C dx fs ≠ .ins C' dx' gs:=by
 intro z
 injection z with _ _ z
 exact h (by rw[z])
theorem Ts {x:Junction}{a b c d:V}:(jF x).map (·.1)≠(lU a b c d).map (·.1):=by
 show (["number","height"]:List Str)≠(["junctions","roads","speeds","closings"]:List Str)
 decide
theorem Tt {x:Road}{a b c d:V}:(rF x).map (·.1)≠(lU a b c d).map (·.1):=by
 show (["number","a","b","length","ways"]:List Str)≠(["junctions","roads","speeds","closings"]:List Str)
 decide
theorem Ti {x:Speed}{a b c d:V}:(sF x).map (·.1)≠(lU a b c d).map (·.1):=by
 show (["gradient","up","up_loaded","down","down_loaded"]:List Str)≠(["junctions","roads","speeds","closings"]:List Str)
 decide
theorem Uu {x:Closing}{a b c d:V}:(cF x).map (·.1)≠(lU a b c d).map (·.1):=by
 show (["road","lo","hi"]:List Str)≠(["junctions","roads","speeds","closings"]:List Str)
 decide
theorem Qt {x:Junction}{a b:V}:(jF x).map (·.1)≠(fY a b).map (·.1):=by
 show (["number","height"]:List Str)≠(["net","before"]:List Str)
 decide
theorem Pa {x:Road}{a b:V}:(rF x).map (·.1)≠(fY a b).map (·.1):=by
 show (["number","a","b","length","ways"]:List Str)≠(["net","before"]:List Str)
 decide
theorem Pj {x:Speed}{a b:V}:(sF x).map (·.1)≠(fY a b).map (·.1):=by
 show (["gradient","up","up_loaded","down","down_loaded"]:List Str)≠(["net","before"]:List Str)
 decide
theorem Qk {x:Closing}{a b:V}:(cF x).map (·.1)≠(fY a b).map (·.1):=by
 show (["road","lo","hi"]:List Str)≠(["net","before"]:List Str)
 decide
theorem Oy {a b c d x y:V}:(lU a b c d).map (·.1)≠(fY x y).map (·.1):=by
 show (["junctions","roads","speeds","closings"]:List Str)≠(["net","before"]:List Str)
 decide
theorem Nh {a b c d v:V}:eE "closings" v (lU a b c d)=lU a b c v:=by kernel_rfl
theorem Wl {a b v:V}:eE "net" v (fY a b)=fY v b:=by kernel_rfl
section
variable {A:Ad}{H0 H:Hp}{q lj lr ls lc:Addr}{m:Net}
theorem Gr.putJ {bs:List Addr}{ys:List V}{xs:List Junction} (g:Gr A H0 H q lj lr ls lc m) (hb:H lj=some (.lst ys)) (h:All2 (fun a x=>OA H A.Junction (jF x) a) bs xs):Gr A H0 (cA H lj (.lst (bs.map V.ref))) q lj lr ls lc { m with junctions:=xs } :=
 ⟨⟨g.net.ob.ov hb fun _=>il,.put hb h,g.net.rs.ov hb g.jr.symm fun _ _=>il,g.net.ss.ov hb g.js.symm fun _ _=>il,g.net.cs.ov hb g.jc.symm fun _ _=>il⟩,g.nq,g.nj,g.nr,g.ns,g.nc,g.jr,g.js,g.jc,g.rs,g.rc,g.sc⟩
theorem Gr.putR {bs:List Addr}{ys:List V}{xs:List Road} (g:Gr A H0 H q lj lr ls lc m) (hb:H lr=some (.lst ys)) (h:All2 (fun a x=>OA H A.Road (rF x) a) bs xs):Gr A H0 (cA H lr (.lst (bs.map V.ref))) q lj lr ls lc { m with roads:=xs } :=
 ⟨⟨g.net.ob.ov hb fun _=>il,g.net.js.ov hb g.jr fun _ _=>il,.put hb h,g.net.ss.ov hb g.rs.symm fun _ _=>il,g.net.cs.ov hb g.rc.symm fun _ _=>il⟩,g.nq,g.nj,g.nr,g.ns,g.nc,g.jr,g.js,g.jc,g.rs,g.rc,g.sc⟩
theorem Gr.putS {bs:List Addr}{ys:List V}{xs:List Speed} (g:Gr A H0 H q lj lr ls lc m) (hb:H ls=some (.lst ys)) (h:All2 (fun a x=>OA H A.Speed (sF x) a) bs xs):Gr A H0 (cA H ls (.lst (bs.map V.ref))) q lj lr ls lc { m with speeds:=xs } :=
 ⟨⟨g.net.ob.ov hb fun _=>il,g.net.js.ov hb g.js fun _ _=>il,g.net.rs.ov hb g.rs fun _ _=>il,.put hb h,g.net.cs.ov hb g.sc.symm fun _ _=>il⟩,g.nq,g.nj,g.nr,g.ns,g.nc,g.jr,g.js,g.jc,g.rs,g.rc,g.sc⟩
theorem Gr.putC {bs:List Addr}{ys:List V}{xs:List Closing} (g:Gr A H0 H q lj lr ls lc m) (hb:H lc=some (.lst ys)) (h:All2 (fun a x=>OA H A.Closing (cF x) a) bs xs):Gr A H0 (cA H lc (.lst (bs.map V.ref))) q lj lr ls lc { m with closings:=xs } :=
 ⟨⟨g.net.ob.ov hb fun _=>il,g.net.js.ov hb g.jc fun _ _=>il,g.net.rs.ov hb g.rc fun _ _=>il,g.net.ss.ov hb g.sc fun _ _=>il,.put hb h⟩,g.nq,g.nj,g.nr,g.ns,g.nc,g.jr,g.js,g.jc,g.rs,g.rc,g.sc⟩
theorem Gr.same {H':Hp} (g:Gr A H0 H q lj lr ls lc m) (e:Same H H'):Gr A H0 H' q lj lr ls lc m:=⟨g.net.same e,g.nq,g.nj,g.nr,g.ns,g.nc,g.jr,g.js,g.jc,g.rs,g.rc,g.sc⟩
end
def NetIn (A:Ad) (H:Hp) (lb p:Addr) (m:Net):Prop:=∃ lj lr ls lc,NetAt A H p lj lr ls lc m∧lj≠lb∧lr≠lb∧ls≠lb∧lc≠lb
def Kp (a b:Addr) (H H':Hp):Prop:=∀ c o,H c=some o→c≠a→c≠b→H' c=some o
structure MineAt (A:Ad) (H:Hp) (a lb:Addr) (s:Vbmiai.State):Prop where
 ob:∃ dx p,H a=some (.ins A.Mine dx (fY (.ref p) (.ref lb)))∧NetIn A H lb p s.net
 bf:∃ ps:List Addr,H lb=some (.lst (ps.map V.ref))∧All2 (fun p m=>NetIn A H lb p m) ps s.past.reverse
 wf:WF s.net
 wp:∀ m ∈ s.past,WF m
 len:s.past.length≤20
theorem Kp.trans {a b:Addr}{H H1 H2:Hp} (h:Kp a b H H1) (k:Kp a b H1 H2):Kp a b H H2:=fun c o e n1 n2=>k c o (h c o e n1 n2) n1 n2
theorem Kp.a {a b:Addr}{H:Hp}{o:HO}:Kp a b H (cA H a o):=fun c u e n1 _=>by rw[aV n1];exact e
theorem Kp.b {a b:Addr}{H:Hp}{o:HO}:Kp a b H (cA H b o):=fun c u e _ n2=>by rw[aV n2];exact e
theorem NetIn.is {A:Ad}{H:Hp}{lb p:Addr}{m:Net} (h:NetIn A H lb p m):NetIs A H p m:=let ⟨a,b,c,d,q,_⟩:=h;⟨a,b,c,d,q⟩
theorem OA.kp {H H':Hp}{C c a b dx:Addr}{fs gs:List (Str×V)}{ys:List V}{Cm:Addr} (h:OA H C fs c) (ha:H a=some (.ins Cm dx gs)) (hb:H b=some (.lst ys)) (k:Kp a b H H') (hn:fs.map (·.1)≠gs.map (·.1)):OA H' C fs c:=by
 obtain ⟨d,h⟩:=h
 exact ⟨d,k _ _ h (jM h ha (ii hn)) (jM h hb il)⟩
theorem LA.kp {α:Type}{H H':Hp}{C l a b dx:Addr}{F:α→List (Str×V)}{xs:List α}{gs:List (Str×V)}{ys:List V}{Cm:Addr} (h:LA H C F l xs) (ha:H a=some (.ins Cm dx gs)) (hb:H b=some (.lst ys)) (k:Kp a b H H') (hl:l≠b) (hn:∀ x,(F x).map (·.1)≠gs.map (·.1)):LA H' C F l xs:=by
 obtain ⟨as,h1,h2⟩:=h
 exact ⟨as,k _ _ h1 (jM h1 ha li) hl,h2.imp fun _ x q=>q.kp ha hb k (hn x)⟩
theorem NetIn.kp {A:Ad}{H H':Hp}{a lb p dx:Addr}{u v:V}{ys:List V}{m:Net} (h:NetIn A H lb p m) (ha:H a=some (.ins A.Mine dx (fY u v))) (hb:H lb=some (.lst ys)) (k:Kp a lb H H'):NetIn A H' lb p m:=by
 obtain ⟨lj,lr,ls,lc,N,n1,n2,n3,n4⟩:=h
 exact ⟨lj,lr,ls,lc,⟨N.ob.kp ha hb k Oy,N.js.kp ha hb k n1 fun _=>Qt,N.rs.kp ha hb k n2 fun _=>Pa,N.ss.kp ha hb k n3 fun _=>Pj,N.cs.kp ha hb k n4 fun _=>Qk⟩,n1,n2,n3,n4⟩
theorem NetIn.same {A:Ad}{H H':Hp}{lb p:Addr}{m:Net} (h:NetIn A H lb p m) (e:Same H H'):NetIn A H' lb p m:=let ⟨a,b,c,d,q,r⟩:=h;⟨a,b,c,d,q.same e,r⟩
theorem MineAt.same {A:Ad}{H H':Hp}{a lb:Addr}{s:Vbmiai.State} (h:MineAt A H a lb s) (e:Same H H'):MineAt A H' a lb s:=by
 obtain ⟨dx,p,h1,h2⟩:=h.ob
 obtain ⟨ps,h3,h4⟩:=h.bf
 exact ⟨⟨dx,p,e _ _ h1,h2.same e⟩,⟨ps,e _ _ h3,h4.imp fun _ _ q=>q.same e⟩,h.wf,h.wp,h.len⟩
theorem Gr.into {A:Ad}{H0 H:Hp}{q lj lr ls lc lb:Addr}{m:Net}{o:HO} (g:Gr A H0 H q lj lr ls lc m) (hb:H0 lb=some o):NetIn A H lb q m :=
 ⟨lj,lr,ls,lc,g.net,(aQ hb g.nj).symm,(aQ hb g.nr).symm,(aQ hb g.ns).symm,(aQ hb g.nc).symm⟩
theorem All2.unsnoc {α β:Type}{R:α→β→Prop}{b:β}:∀ {as:List α}{bs:List β},All2 R as (bs ++ [b])→∃ as' a,as=as' ++ [a]∧All2 R as' bs∧R a b
 | [],[],h=>h.elim
 | [],_ :: _,h=>h.elim
 | [a],[],h=>⟨[],a,rfl,trivial,h.1⟩
 | _ :: _ :: _,[],h=>h.2.elim
 | x :: as,y :: bs,h=>by
  obtain ⟨as',a,e,h1,h2⟩:=All2.unsnoc (as:=as) (bs:=bs) h.2
  exact ⟨x :: as',a,by rw[e];rfl,⟨h.1,h1⟩,h2⟩
def Sj (A:Ad):Sp:=fun vs H Q _=>∃ (a dx:Addr),vs=[.ref a]∧H a=some (.ins A.Mine dx [])∧∀ lb H',H lb=none→(∀ b o,H b=some o→b≠a→H' b=some o)→MineAt A H' a lb Vbmiai.start→Q .non H'
def Tf (A:Ad):Sp:=fun vs H Q _=>∃ (a lb q:Addr) (s:Vbmiai.State) (m:Net),vs=[.ref a,.ref q]∧MineAt A H a lb s∧NetIn A H lb q m∧WF m∧∀ H',Kp a lb H H'→MineAt A H' a lb ⟨m,(s.net :: s.past).take Vbmiai.PAST⟩→Q .non H'
def Mx (A:Ad):Sp:=fun vs H Q _=>∃ (a lb:Addr) (s:Vbmiai.State),vs=[.ref a]∧MineAt A H a lb s∧Q (.bl (!s.past.isEmpty)) H
def be (A:Ad):Sp:=fun vs H Q _=>∃ (a lb:Addr) (s:Vbmiai.State) (m:Net) (r:List Net),vs=[.ref a]∧MineAt A H a lb s∧s.past=m :: r∧∀ H',Kp a lb H H'→MineAt A H' a lb ⟨m,r⟩→Q .non H'
section
variable {P:Program}{w:World}{K:PySem.W.Frag}{mg:Str→Option Value}{base:Heap}{A:Ad}
theorem Ac {f:Addr}{fd:FuncData} (T:Txt P w K mg A) (D:Dn K mg "with_closing" mM ["net","closing"] f fd):bO P w K mg base eC 4 f fd ["net","closing"] (Aq A):=by
 obtain ⟨af_copy_net,fd_copy_net,D_copy_net⟩:=T.vW
 have G_copy_net:=sP (base:=base) T D_copy_net
 have nd:=sc_with_closing.nd
 refine D.fn.ok sc_with_closing (fun vs H Q E h=>?_) (fun cdv Ar outer s H vs Q E hr h=>?_)
 ·obtain ⟨p,a,m,c,rfl,_⟩:=h
  rfl
 ·obtain ⟨p,a,m,c,rfl,N,⟨dc,hc⟩,h20,k⟩:=h
  refine ⟨_,(aC (aR (i:=2) nd rfl (Or.inl rfl) (aG G_copy_net (hr.mono (by decide)) rfl D_copy_net.mg D_copy_net.fn.kp D_copy_net.bi .nil aN (aB (pv 0) aD))) (aC (cI (fG PySem.F.plainAttrs_list PySem.F.slot_list_append PySem.F.type_list_append dB (aI (pv 2) rfl) (aB (pv 1) aD))) (aE (aK (pv 2))))),?_⟩
  refine bZ (bQ (bW (aA rfl)) ⟨p,m,rfl,N,fun q lj lr ls lc H1 s1 g=>?_⟩)
  obtain ⟨dq,hq⟩:=g.net.ob
  obtain ⟨as,hl,hall⟩:=g.net.cs
  refine iB (fN (aH (aA rfl) hq T.dQ.cl T.dF dW) (aA rfl) hl (by rw[List.length_map,hall.length];exact cE (Nat.le_trans h20 (by decide))) ?_)
  refine cS (aA rfl) ?_
  have e:(as.map V.ref ++ [V.ref a])=(as ++ [a]).map V.ref:=by rw[List.map_append];rfl
  rw[e]
  exact k q lj lr ls lc _ (s1.over g.nc) (g.putC hl (hall.snoc ⟨dc,s1 _ _ hc⟩))
theorem uJ {f:Addr}{fd:FuncData} (T:Txt P w K mg A) (D:Dn K mg "without_closings" iR ["net","number"] f fd):bO P w K mg base eC 4 f fd ["net","number"] (uI A):=by
 obtain ⟨af_copy_net,fd_copy_net,D_copy_net⟩:=T.vW
 have G_copy_net:=sP (base:=base) T D_copy_net
 have nd:=sc_without_closings.nd
 refine D.fn.ok sc_without_closings (fun vs H Q E h=>?_) (fun cdv Ar outer s H vs Q E hr h=>?_)
 ·obtain ⟨p,m,n,rfl,_⟩:=h
  rfl
 ·obtain ⟨p,m,n,rfl,⟨lj0,lr0,ls0,lc0,N⟩,h20,k⟩:=h
  refine ⟨_,(aC (aR (i:=2) nd rfl (Or.inl rfl) (aG G_copy_net (hr.mono (by decide)) rfl D_copy_net.mg D_copy_net.fn.kp D_copy_net.bi .nil aN (aB (pv 0) aD))) (aC (cV (pv 2) (nM rfl nd (cH (aI (pv 0) rfl)) (blk (own:=[("closing",3)])) (fun _ _ _ _ _=>by exact (bV (i:=3) nd rfl (Or.inl rfl))) (fun _ _ _ _ _=>by exact (wF (aY Br (lJ (K':=K) rfl (pv 3) rfl) (pv 1) (bD _)))) (fun _ _ _ _ _=>by exact (pv 3))) rfl) (aE (aK (pv 2))))),?_⟩
  obtain ⟨dp,hp⟩:=N.ob
  obtain ⟨as,hl,hall⟩:=N.cs
  refine bZ (bQ (bW (aA rfl)) ⟨p,m,rfl,⟨lj0,lr0,ls0,lc0,N⟩,fun q lj lr ls lc H1 s1 g=>?_⟩)
  obtain ⟨dq,hq⟩:=g.net.ob
  refine Wo (cq (zs:=m.closings) (fun c=>c.road != n) (fun x _=>x) (aH (aA rfl) (s1 _ _ hp) T.dQ.cl T.dF dW) (SqL.of (s1 _ _ hl)) (by rw[List.length_map];exact hall.length.symm) (by rw[List.length_map,hall.length];exact cE (Nat.le_trans h20 (by decide))) (fun _=>rfl) (fun i x z hi hz H' sm=>?_) (fun D hD=>?_))
  ·obtain ⟨b,hb,rfl⟩:=bF hi
   obtain ⟨z',hz',dx',hob⟩:=hall.get hb
   rw[hz] at hz'
   cases hz'
   have hob:=sm _ _ (s1 _ _ hob)
   refine ⟨(aO (yY (aH (aA rfl) hob T.dC.cl T.gY iJ) (aA rfl))).to ?_,fun _=>(aA rfl)⟩
   rw[fE]
   rfl
  ·have s2:Same H1 (cA H1 D (.lst (pX (fun c:Closing=>c.road != n) (fun x _=>x) (as.map V.ref) m.closings))):=bN hD
   obtain ⟨bs,e,hb⟩:=pJ (fun c:Closing=>c.road != n) hall
   rw[e] at s2 ⊢
   have hq2:=s2 _ _ hq
   have g2:=g.same s2
   have hDn:D≠q:=(aQ hq hD).symm
   refine (aA rfl) _ ⟨q,A.Net,dq,_,rfl,hq2,T.dQ.cl,T.dF,(by show 4<1000;decide),?_⟩
   rw[Nh]
   refine cS (aA rfl) ?_
   have sq:Same H (cA H1 D (.lst (bs.map V.ref))):=s1.trans s2
   have nq:∀ {l:Addr}{o:HO},(cA H1 D (.lst (bs.map V.ref))) l=some o→o ≠ .ins A.Net dq (lU (.ref lj) (.ref lr) (.ref ls) (.ref lc))→l≠q:=fun h h'=>jM h hq2 h'
   obtain ⟨x1,j1,j2⟩:=g2.net.js
   obtain ⟨x2,r1,r2⟩:=g2.net.rs
   obtain ⟨x3,s3,s4⟩:=g2.net.ss
   have hD2:(cA H1 D (.lst (bs.map V.ref))) D=some (.lst (bs.map V.ref)):=aF
   have nD:∀ {l:Addr}{ys:List V},H1 l=some (.lst ys)→l≠D:=fun h=>aQ h hD
   obtain ⟨y1,jj,_⟩:=g.net.js
   obtain ⟨y2,rr,_⟩:=g.net.rs
   obtain ⟨y3,ss,_⟩:=g.net.ss
   refine k q lj lr ls D _ (sq.over g.nq) ⟨⟨⟨dq,aF⟩,g2.net.js.ov hq2 (nq j1 li) fun _ _=>ii Ts,g2.net.rs.ov hq2 (nq r1 li) fun _ _=>ii Tt,g2.net.ss.ov hq2 (nq s3 li) fun _ _=>ii Ti,?_⟩,g.nq,g.nj,g.nr,g.ns,s1.free hD,g.jr,g.js,nD jj,g.rs,nD rr,nD ss⟩
   exact LA.ov (b:=q) ⟨bs,hD2,hb.imp fun _ _ z=>z.same sq⟩ hq2 hDn fun _ _=>ii Uu
theorem iK {f:Addr}{fd:FuncData}{α:Type}{C:Addr}{Fl:α→List (Str×V)}{row:α→List Nat}{fM:Addr}{fdM:FuncData}{st:Stmt}{qual:Str} (cl:Cls K C) (M:Mn K C "row" qual st ["self"] fM fdM) (G:bO P w K mg base eC 1 fM fdM ["self"] (Bw C Fl row)) (hrow:∀ x,(row x).length≤5) (hno:∀ x,(Fl x).lookup ("row" : Str)=none) (T:Txt P w K mg A) (D:Dn K mg "counted_rows" jJ ["parts"] f fd):bO P w K mg base eC 2 f fd ["parts"] (mE C Fl row):=by
 obtain ⟨af_Junction_row,fd_Junction_row,M_Junction_row⟩:=T.nH
 have G_Junction_row:=kT (base:=base) T M_Junction_row
 have nd:=sc_counted_rows.nd
 refine D.fn.ok sc_counted_rows (fun vs H Q E h=>?_) (fun cdv Ar outer s H vs Q E hr h=>?_)
 ·obtain ⟨l,xs,rfl,_⟩:=h
  rfl
 ·obtain ⟨l,xs,rfl,⟨as,hl,hall⟩,h20,k⟩:=h
  refine ⟨_,(aC (aR (i:=1) nd rfl (Or.inl rfl) (bE (aB (bU bG (by rfl) T.eP dL (aB (pv 0) aD)) aD))) (aC (eK PassesOwn.never rfl (cH (pv 0)) (bV (i:=2) nd rfl (Or.inl rfl)) (aE (cI (fG PySem.F.plainAttrs_list PySem.F.slot_list_extend PySem.F.type_list_extend iY (pv 1) (aB (lY (pv 2) cl M.me G (hr.mono (by decide)) M.bi .nil aN) aD))))) (aE (aK (pv 1))))),?_⟩
  refine bZ (dI (bW (cW (bW (aA rfl)) (SqL.of hl))) (by show 1≤sizeLine;decide) fun t ht=>?_)
  have e0:([V.int ((as.map V.ref).length:Nat)]:List V)=nI (xs.length :: (xs.take 0).flatMap row):=by rw[List.length_map,hall.length];rfl
  rw[e0]
  refine (iL (aA rfl) (SqL.of (bN ht _ _ hl)) (fun i σ H'=>(∃ v:Option V,σ=[some (.ref l),some (.ref t),v])∧Same H H'∧H' t=some (.lst (nI (xs.length :: (xs.take i).flatMap row)))) ⟨⟨_,rfl⟩,bN ht,aF⟩ (fun i σ H' _ h=>SqL.of (h.2.1 _ _ hl)) ?_ ?_)
  ·rintro i y σ H' hi ⟨⟨v,rfl⟩,s1,h1⟩
   obtain ⟨a,ha,rfl⟩:=bF hi
   obtain ⟨x,hx,dx',hob⟩:=hall.get ha
   have hob':=s1 _ _ hob
   refine gU (uZ (aA rfl) h1 (rJ (aA rfl) hob' (hno x) eA ⟨a,x,rfl,⟨dx',hob'⟩,fun r hr0=>?_⟩))
   have hr1:H r=none:=s1.free hr0
   refine ⟨t,r,_,_,rfl,rfl,(bN hr0) _ _ h1,aF,?_,⟨_,rfl⟩,(s1.over hr1).over ht,?_⟩
   ·rw[cJ,cJ,List.length_cons]
    have:=hJ row (xs.take i) hrow 20 (Nat.le_trans (by rw[List.length_take];exact Nat.min_le_right _ _) h20)
    have:=hrow x
    rw[sizeLine_eq]
    omega
   ·rw[aF,cG hx,List.flatMap_append,←dY]
    simp
  ·rintro σ H' ⟨⟨v,rfl⟩,s1,h1⟩
   rw[List.length_map,hall.length,List.take_length] at h1
   exact cS (aA rfl) (k t H' s1 ht h1)
end
section
variable {P:Program}{w:World}{K:PySem.W.Frag}{mg:Str→Option Value}{base:Heap}{A:Ad}
theorem Qj (T:Txt P w K mg A) {f:Addr}{fd:FuncData} (D:Dn K mg "counted_rows" jJ ["parts"] f fd):bO P w K mg base eC 2 f fd ["parts"] (mE A.Junction jF jR)∧bO P w K mg base eC 2 f fd ["parts"] (mE A.Road rF rR)∧bO P w K mg base eC 2 f fd ["parts"] (mE A.Speed sF sR)∧bO P w K mg base eC 2 f fd ["parts"] (mE A.Closing cF cR):=by
 obtain ⟨f1,fd1,M1⟩:=T.nH
 obtain ⟨f2,fd2,M2⟩:=T.Ds
 obtain ⟨f3,fd3,M3⟩:=T.zR
 obtain ⟨f4,fd4,M4⟩:=T.uU
 exact ⟨iK T.dE.cl M1 (kT T M1) (fun _=>by show 2≤5;decide) (fun _=>by kernel_rfl) T D,iK T.dS.cl M2 (zM T M2) (fun _=>by show 5≤5;decide) (fun _=>by kernel_rfl) T D,
  iK T.eM.cl M3 (wT T M3) (fun _=>by show 5≤5;decide) (fun _=>by kernel_rfl) T D,iK T.dC.cl M4 (tL T M4) (fun _=>by show 3≤5;decide) (fun _=>by kernel_rfl) T D⟩
theorem Dx {f:Addr}{fd:FuncData} (T:Txt P w K mg A) (D:Dn K mg "net_numbers" oT ["net"] f fd):bO P w K mg base eC 3 f fd ["net"] (Em A):=by
 obtain ⟨af_counted_rows,fd_counted_rows,D_counted_rows⟩:=T.Er
 obtain ⟨GJ,GR,GS,GC⟩:=Qj (base:=base) T D_counted_rows
 have nd:=sc_net_numbers.nd
 refine D.fn.ok sc_net_numbers (fun vs H Q E h=>?_) (fun cdv Ar outer s H vs Q E hr h=>?_)
 ·obtain ⟨p,m,rfl,_⟩:=h
  rfl
 ·obtain ⟨p,m,rfl,⟨lj,lr,ls,lc,N⟩,W,k⟩:=h
  refine ⟨_,(aE (aK (cO qB (cO qB (cO qB (aG GJ (hr.mono (by decide)) rfl D_counted_rows.mg D_counted_rows.fn.kp D_counted_rows.bi .nil aN (aB (aI (pv 0) rfl) aD)) (aG GR (hr.mono (by decide)) rfl D_counted_rows.mg D_counted_rows.fn.kp D_counted_rows.bi .nil aN (aB (aI (pv 0) rfl) aD))) (aG GS (hr.mono (by decide)) rfl D_counted_rows.mg D_counted_rows.fn.kp D_counted_rows.bi .nil aN (aB (aI (pv 0) rfl) aD))) (aG GC (hr.mono (by decide)) rfl D_counted_rows.mg D_counted_rows.fn.kp D_counted_rows.bi .nil aN (aB (aI (pv 0) rfl) aD))))),?_⟩
  obtain ⟨dp,hp⟩:=N.ob
  refine bP (qA (qA (qA ?_)))
  have l1:=W.jlen
  have l2:=W.rlen
  have l3:=W.slen
  have l4:=W.clen
  have f1:=hJ jR m.junctions (fun _=>by show 2≤5;decide) 10 W.jlen
  have f2:=hJ rR m.roads (fun _=>by show 5≤5;decide) 20 W.rlen
  have f3:=hJ sR m.speeds (fun _=>by show 5≤5;decide) 6 W.slen
  have f4:=hJ cR m.closings (fun _=>by show 3≤5;decide) 20 W.clen
  refine bQ (bW (aH (aA rfl) hp T.dQ.cl T.cN cQ)) ⟨lj,m.junctions,rfl,N.js,by omega,fun a1 H1 s1 n1 e1=>?_⟩
  refine bQ (bW (aH (aA rfl) (s1 _ _ hp) T.dQ.cl T.eV eT)) ⟨lr,m.roads,rfl,N.rs.same s1,by omega,fun a2 H2 s2 n2 e2=>?_⟩
  refine ⟨a1,a2,_,_,rfl,rfl,s2 _ _ e1,e2,?_,fun b1 hb1=>?_⟩
  ·rw[cJ,cJ,List.length_cons,List.length_cons,sizeLine_eq]
   omega
  have s3:=(s1.trans s2).over (o:=.lst (nI (m.junctions.length :: m.junctions.flatMap jR) ++ nI (m.roads.length :: m.roads.flatMap rR))) ((s1.trans s2).free hb1)
  refine bQ (bW (aH (aA rfl) (s3 _ _ hp) T.dQ.cl T.fR fU)) ⟨ls,m.speeds,rfl,N.ss.same s3,by omega,fun a3 H3 s4 n3 e3=>?_⟩
  refine ⟨b1,a3,_,_,rfl,rfl,s4 _ _ aF,e3,?_,fun b2 hb2=>?_⟩
  ·rw[List.length_append,cJ,cJ,cJ,List.length_cons,List.length_cons,List.length_cons,sizeLine_eq]
   omega
  have s5:=(s3.trans s4).over (o:=.lst ((nI (m.junctions.length :: m.junctions.flatMap jR) ++ nI (m.roads.length :: m.roads.flatMap rR)) ++ nI (m.speeds.length :: m.speeds.flatMap sR))) ((s3.trans s4).free hb2)
  refine bQ (bW (aH (aA rfl) (s5 _ _ hp) T.dQ.cl T.dF dW)) ⟨lc,m.closings,rfl,N.cs.same s5,by omega,fun a4 H4 s6 n4 e4=>?_⟩
  refine ⟨b2,a4,_,_,rfl,rfl,s6 _ _ aF,e4,?_,fun b3 hb3=>?_⟩
  ·rw[List.length_append,List.length_append,cJ,cJ,cJ,cJ,List.length_cons,List.length_cons,List.length_cons,List.length_cons,sizeLine_eq]
   omega
  refine k b3 _ ((s5.trans s6).over ((s5.trans s6).free hb3)) ((s5.trans s6).free hb3) ?_
  rw[aF]
  unfold tW
  rw[dY,dY,dY]
theorem Jw {f:Addr}{fd:FuncData} (T:Txt P w K mg A) (D:Fg K A.Mine "Mine.__init__" nS ["self"] f fd):bO P w K mg base eC 4 f fd ["self"] (Sj A):=by
 obtain ⟨af_empty_net,fd_empty_net,D_empty_net⟩:=T.Nt
 have G_empty_net:=Ke (base:=base) T D_empty_net
 have nd:=sc_Mine_init.nd
 refine D.fn.ok sc_Mine_init (fun vs H Q E h=>?_) (fun cdv Ar outer s H vs Q E hr h=>?_)
 ·obtain ⟨a,dx,rfl,_⟩:=h
  rfl
 ·obtain ⟨a,dx,rfl,ha,k⟩:=h
  refine ⟨_,(aC (cV (pv 0) (Yz G_empty_net (hr.mono (by decide)) rfl D_empty_net.mg D_empty_net.fn.kp D_empty_net.bi .nil aN) rfl) (aE (cV (pv 0) (bE aD) rfl))),?_⟩
  refine Wo (ah ⟨rfl,fun q lj lr ls lc H1 s1 g=>?_⟩)
  have ha1:=s1 _ _ ha
  refine (aA rfl) _ ⟨a,A.Mine,dx,[],rfl,ha1,T.bT.cl,T.bB,(by show 0<1000;decide),?_⟩
  have nqa:q≠a:=(aQ ha g.nq).symm
  have nl:∀ {l:Addr},H l=none→l≠a:=fun h=>(aQ ha h).symm
  refine Xi (dI eA (Nat.zero_le _) fun lb hlb=>?_)
  have hab:lb≠a:=fun e=>by
   subst e
   rw[aF] at hlb
   cases hlb
  have hlb1:H1 lb=none:=by
   rw[aV hab] at hlb
   exact hlb
  refine (aA rfl) _ ⟨a,A.Mine,dx,[("net",.ref q)],rfl,?_,T.bT.cl,T.gM,(by show 1<1000;decide),?_⟩
  ·rw[aV hab.symm,aF]
   rfl
  have ht:∀ b o,H1 b=some o→b≠a→cA (cA (cA H1 a (.ins A.Mine dx [("net",.ref q)])) lb (.lst [])) a (.ins A.Mine dx (fY (.ref q) (.ref lb))) b=some o:=fun b o e h=>by
   rw[aV h,aV (aQ e hlb1),aV h]
   exact e
  have g':NetAt A (cA (cA (cA H1 a (.ins A.Mine dx [("net",.ref q)])) lb (.lst [])) a (.ins A.Mine dx (fY (.ref q) (.ref lb)))) q lj lr ls lc Vbmiai.empty:=by
   obtain ⟨dq,hq⟩:=g.net.ob
   obtain ⟨x1,j1,j2⟩:=g.net.js
   obtain ⟨x2,r1,r2⟩:=g.net.rs
   obtain ⟨x3,t1,t2⟩:=g.net.ss
   obtain ⟨x4,c1,c2⟩:=g.net.cs
   refine ⟨⟨dq,ht _ _ hq nqa⟩,⟨x1,ht _ _ j1 (nl g.nj),?_⟩,⟨x2,ht _ _ r1 (nl g.nr),?_⟩,⟨x3,ht _ _ t1 (nl g.ns),?_⟩,⟨x4,ht _ _ c1 (nl g.nc),?_⟩⟩
   ·cases x1 with
    | nil=>trivial
    | cons _ _=>exact j2.elim
   ·cases x2 with
    | nil=>trivial
    | cons _ _=>exact r2.elim
   ·cases x3 with
    | nil=>trivial
    | cons _ _=>exact t2.elim
   ·cases x4 with
    | nil=>trivial
    | cons _ _=>exact c2.elim
  have nb:∀ {l:Addr}{ys:List V},H1 l=some (.lst ys)→l≠lb:=fun h=>aQ h hlb1
  obtain ⟨x1,j1,_⟩:=g.net.js
  obtain ⟨x2,r1,_⟩:=g.net.rs
  obtain ⟨x3,t1,_⟩:=g.net.ss
  obtain ⟨x4,c1,_⟩:=g.net.cs
  refine k lb _ (s1.free hlb1) (fun b o e h=>ht b o (s1 _ _ e) h) ⟨⟨dx,q,aF,lj,lr,ls,lc,g',nb j1,nb r1,nb t1,nb c1⟩,⟨[],?_,trivial⟩,WF.empty,(fun m h=>by cases h),Nat.zero_le _⟩
  rw[aV hab,aF]
  rfl
theorem mV {f:Addr}{fd:FuncData} (T:Txt P w K mg A) (D:Mn K A.Mine "change" "Mine.change" oS ["self","net"] f fd):bO P w K mg base eC 1 f fd ["self","net"] (Tf A):=by
 have nd:=sc_Mine_change.nd
 refine D.fn.ok sc_Mine_change (fun vs H Q E h=>?_) (fun cdv Ar outer s H vs Q E hr h=>?_)
 ·obtain ⟨a,lb,q,s0,m,rfl,_⟩:=h
  rfl
 ·obtain ⟨a,lb,q,s0,m,rfl,M,N,W,k⟩:=h
  refine ⟨_,(aC (cI (fG PySem.F.plainAttrs_list PySem.F.slot_list_append PySem.F.type_list_append dB (aI (pv 0) rfl) (aB (aI (pv 0) rfl) aD))) (aC (bJ (aY pD (bU bG (by rfl) T.eP dL (aB (aI (pv 0) rfl) aD)) (aW rfl T.Gn) (bD _)) (aE (cI (fG PySem.F.plainAttrs_list PySem.F.slot_list_pop PySem.F.type_list_pop Yb (aI (pv 0) rfl) (aB aM aD)))) aU) (aE (cV (pv 0) (pv 1) rfl)))),?_⟩
  obtain ⟨dx,p,ha,hp⟩:=M.ob
  obtain ⟨ps,hb,hps⟩:=M.bf
  have hlen:ps.length=s0.past.length:=by rw[hps.length,List.length_reverse]
  have nab:a≠lb:=jM ha hb il
  have rest:∀ (qs:List Addr),(∀ H1:Hp,Kp a lb H H1→H1 a=some (.ins A.Mine dx (fY (.ref p) (.ref lb)))→H1 lb=some (.lst (qs.map V.ref))→All2 (fun p m=>NetIn A H lb p m) qs ((s0.net :: s0.past).take 20).reverse→(Vv K (lR 0) (lR 1) "net") ⟨fun _ H'=>Q .non H',Q,fun _ _=>False,fun _ _=>False⟩ [some (.ref a),some (.ref q)] H1):=by
   intro qs H1 kp h1 h2 h3
   refine eJ (aA rfl) (aA rfl) h1 T.bT.cl T.bB (by show 2<1000;decide) ?_
   rw[Wl]
   have kp2:Kp a lb H (cA H1 a (.ins A.Mine dx (fY (.ref q) (.ref lb)))):=kp.trans Kp.a
   refine k _ kp2 ⟨⟨dx,q,aF,N.kp ha hb kp2⟩,⟨qs,by rw[aV nab.symm];exact h2,h3.imp fun _ _ z=>z.kp ha hb kp2⟩,W,?_,?_⟩
   ·intro x hx
    have hx:=List.mem_of_mem_take hx
    rcases List.mem_cons.mp hx with z | z
    ·rw[z];exact M.wf
    ·exact M.wp x z
   ·exact List.length_take_le _ _
  refine iB (fN (aH (aA rfl) ha T.bT.cl T.gM gX) (aH (aA rfl) ha T.bT.cl T.bB aX) hb (by rw[List.length_map,hlen];exact cE (Nat.le_trans M.len (by decide))) ?_)
  have e:(ps.map V.ref ++ [V.ref p])=(ps ++ [p]).map V.ref:=by rw[List.map_append];rfl
  rw[e]
  have ha1:cA H lb (.lst ((ps ++ [p]).map V.ref)) a=some (.ins A.Mine dx (fY (.ref p) (.ref lb))):=by rw[aV nab];exact ha
  have hb1:cA H lb (.lst ((ps ++ [p]).map V.ref)) lb=some (.lst ((ps ++ [p]).map V.ref)):=aF
  have h2:=hps.snoc hp
  have pt:=Uo s0.net s0.past M.len
  have hl2:(s0.past.reverse ++ [s0.net]).length=(ps ++ [p]).length:=by simp[hlen]
  refine So (aO (bH (cW (bW (aH (aA rfl) ha1 T.bT.cl T.gM gX)) (SqL.of hb1)) aL)) (fun e=>?_) (fun e=>?_)
  ·have e1:20<(ps ++ [p]).length:=by
    have:=of_decide_eq_true e
    rw[List.length_map] at this
    omega
   rw[if_pos (by rw[hl2];exact e1)] at pt
   obtain ⟨z,r,er⟩:∃ z r,ps ++ [p]=z :: r:=by
    cases ps with
    | nil=>exact ⟨p,[],rfl⟩
    | cons z r=>exact ⟨z,r ++ [p],rfl⟩
   rw[er] at hb1 ha1 ⊢
   refine gU ((aH (aA rfl) ha1 T.bT.cl T.gM gX) _ ⟨.inl ⟨rfl,_,SqL.of hb1⟩,lb,(z :: r).map V.ref,0,0,.ref z,rfl,rfl,hb1,by decide,by decide,by simp[seqIndex?],rfl,?_⟩)
   rw[dN]
   refine rest r _ Kp.b (by rw[aV nab];exact ha) aF ?_
   rw[pt]
   have:=h2.tail
   rw[er] at this
   exact this
  ·have e1:¬ 20<(ps ++ [p]).length:=by
    have:=of_decide_eq_false e
    rw[List.length_map] at this
    omega
   rw[if_neg (by rw[hl2];exact e1)] at pt
   refine rest (ps ++ [p]) _ Kp.b ha1 hb1 ?_
   rw[pt]
   exact h2
theorem yQ {f:Addr}{fd:FuncData} (T:Txt P w K mg A) (D:Mn K A.Mine "can_undo" "Mine.can_undo" kQ ["self"] f fd):bO P w K mg base eC 1 f fd ["self"] (Mx A):=by
 have nd:=sc_Mine_can_undo.nd
 refine D.fn.ok sc_Mine_can_undo (fun vs H Q E h=>?_) (fun cdv Ar outer s H vs Q E hr h=>?_)
 ·obtain ⟨a,lb,s0,rfl,_⟩:=h
  rfl
 ·obtain ⟨a,lb,s0,rfl,M,k⟩:=h
  refine ⟨_,(aE (aK (nR pD (bU bG (by rfl) T.eP dL (aB (aI (pv 0) rfl) aD)) aM (bD _)))),?_⟩
  obtain ⟨dx,p,ha,hp⟩:=M.ob
  obtain ⟨ps,hb,hps⟩:=M.bf
  have hlen:ps.length=s0.past.length:=by rw[hps.length,List.length_reverse]
  refine cS (bH (cW (bW (aH (aA rfl) ha T.bT.cl T.gM gX)) (SqL.of hb)) aL) ?_
  have e:decide ((0:Int)<((ps.map V.ref).length:Nat))=(!s0.past.isEmpty):=by
   rw[List.length_map,hlen]
   cases s0.past with
   | nil=>rfl
   | cons x r=>simp
  rw[e]
  exact k
theorem Jv {f:Addr}{fd:FuncData} (T:Txt P w K mg A) (D:Mn K A.Mine "undo" "Mine.undo" sV ["self"] f fd):bO P w K mg base eC 1 f fd ["self"] (be A):=by
 have nd:=sc_Mine_undo.nd
 refine D.fn.ok sc_Mine_undo (fun vs H Q E h=>?_) (fun cdv Ar outer s H vs Q E hr h=>?_)
 ·obtain ⟨a,lb,s0,m,r,rfl,_⟩:=h
  rfl
 ·obtain ⟨a,lb,s0,m,r,rfl,M,hs,k⟩:=h
  refine ⟨_,(aE (cV (pv 0) (Op PySem.F.plainAttrs_list PySem.F.slot_list_pop PySem.F.type_list_pop ib (aI (pv 0) rfl)) rfl)),?_⟩
  obtain ⟨dx,p,ha,hp⟩:=M.ob
  obtain ⟨ps,hb,hps⟩:=M.bf
  have nab:a≠lb:=jM ha hb il
  rw[hs,List.reverse_cons] at hps
  obtain ⟨qs,q,rfl,h1,h2⟩:=All2.unsnoc hps
  have kp2:Kp a lb H (cA (cA H lb (.lst (qs.map V.ref))) a (.ins A.Mine dx (fY (.ref q) (.ref lb)))):=Kp.trans Kp.b Kp.a
  refine Xi ((aH (aA rfl) ha T.bT.cl T.gM gX) _ ⟨.inl ⟨rfl,_,SqL.of hb⟩,lb,_,.ref q,rfl,rfl,hb,?_,?_⟩)
  ·rw[List.map_append]
   simp
  refine (aA rfl) _ ⟨a,A.Mine,dx,fY (.ref p) (.ref lb),rfl,?_,T.bT.cl,T.bB,(by show 2<1000;decide),?_⟩
  ·rw[aV nab]
   exact ha
  have e:((qs ++ [q]).map V.ref).dropLast=qs.map V.ref:=by rw[List.map_append];simp
  rw[Wl,e]
  refine k _ kp2 ⟨⟨dx,q,aF,h2.kp ha hb kp2⟩,⟨qs,by rw[aV nab.symm];exact aF,h1.imp fun _ _ z=>z.kp ha hb kp2⟩,M.wp m (by rw[hs];simp),fun x hx=>M.wp x (by rw[hs];exact List.mem_cons_of_mem _ hx),?_⟩
  have:=M.len
  rw[hs,List.length_cons] at this
  show r.length≤20
  omega
end
def lI (l:Bool):Int:=if l=true then 1 else 0
def jN (o:Option Nat):Int:=match o with
 | some n=>n
 | none=>-1
theorem Oq (l:Bool):decide (V.int (lI l)=V.int 1)=l:=by cases l <;> rfl
theorem Rj (l:Bool):decide (V.int (lI l)=V.int 0) = !l:=by cases l <;> rfl
def Ks (A:Ad):Sp:=fun vs H Q _=>∃ (p:Addr) (m:Net) (rise long:Nat),vs=[.ref p,.int rise,.int long]∧NetIs A H p m∧(∀ s ∈ m.speeds,s.grade≤10000)∧rise≤1000000∧(∀ x a,Vbmiai.speedsFor m rise long=some x→OA H A.Speed (sF x) a→Q (.ref a) H)∧(Vbmiai.speedsFor m rise long=none→Q .non H)
def nZ (x:Speed) (d l:Bool):Nat:=if d=true then (if l=true then x.downLoaded else x.down) else (if l=true then x.upLoaded else x.up)
def Uc (A:Ad):Sp:=fun vs H Q _=>∃ (a:Addr) (x:Speed) (d:Bool) (l:Bool),vs=[.ref a,.bl d,.int (lI l)]∧OA H A.Speed (sF x) a∧Q (.int (nZ x d l)) H
def Fy (A:Ad):Sp:=fun vs H Q _=>∃ (a:Addr) (r:Road) (b:Bool),vs=[.ref a,.int (lI b)]∧OA H A.Road (rF r) a∧Q (.int (if b=true then r.b else r.a:Nat)) H
def Na (A:Ad):Sp:=fun vs H Q _=>∃ (a:Addr) (r:Road) (b:Bool),vs=[.ref a,.int (lI b)]∧OA H A.Road (rF r) a∧Q (.int (if b=true then r.a else r.b:Nat)) H
def Am (A:Ad):Sp:=fun vs H Q _=>∃ (p a:Addr) (m:Net) (r:Road) (b l:Bool),vs=[.ref p,.ref a,.int (lI b),.int (lI l)]∧NetIs A H p m∧WF m∧r ∈ m.roads∧OA H A.Road (rF r) a∧Q (.int (jN (Vbmiai.minutesOf m r b l))) H
def pU (A:Ad):Sp:=fun vs H Q _=>∃ (a:Addr) (c:Closing),vs=[.ref a]∧OA H A.Closing (cF c) a∧Q (.int c.lo) H
theorem tN {m:Net}{j:Nat} (h:j ∈ m.junctions.map (·.number)):∃ x,m.junctions.find? (fun x=>x.number == j)=some x∧x ∈ m.junctions∧Vbmiai.heightOf m j=x.height:=by
 obtain ⟨y,hy,e⟩:=List.mem_map.mp h
 obtain ⟨x,hx,hm,_⟩:=vI (p:=fun x:Junction=>x.number == j) (l:=m.junctions) ⟨y,hy,by simp[e]⟩
 refine ⟨x,hx,hm,?_⟩
 unfold Vbmiai.heightOf
 rw[hx]
 rfl
theorem Ru (p q:Nat):(if ((q:Int) - (p:Int))<0 then -((q:Int) - (p:Int)) else (q:Int) - (p:Int))=((max p q - min p q:Nat):Int):=by
 split <;> omega
theorem Qr {m:Net}{r:Road}{b l:Bool}{p q:Nat} (hp:(if b=true then Vbmiai.heightOf m r.b else Vbmiai.heightOf m r.a)=p) (hq:(if b=true then Vbmiai.heightOf m r.a else Vbmiai.heightOf m r.b)=q) (h0:¬ (b=true∧r.ways=1)) :
  Vbmiai.minutesOf m r b l=match Vbmiai.speedsFor m (max p q - min p q) r.long with
   | none=>none
   | some s=>if nZ s (decide (q<p)) l=0 then none else some ((r.long + 100 * nZ s (decide (q<p)) l - 1) / (100 * nZ s (decide (q<p)) l)):=by
 unfold Vbmiai.minutesOf
 rw[if_neg h0]
 dsimp only
 rw[hp,hq]
 cases Vbmiai.speedsFor m (max p q - min p q) r.long with
 | none=>rfl
 | some s=>
  unfold nZ
  by_cases e:q<p
  ·simp only[e,decide_true,if_true]
  ·simp only[e,decide_false,if_false,Bool.false_eq_true]
section
variable {σ:L2.St}{H:Hp}{K:PySem.W.Frag}
theorem Xa {ta:TE}{f:Str}{Q:VK} (h:ta σ H fun x H1=>∃ a C dx fs v,x = .ref a∧H1 a=some (.ins C dx fs)∧Cls K C∧NoAttr K C f∧fs.lookup f=some v∧Q v H1):Bn K ta f σ H Q:=h
theorem Lq {r:R2}{ta tb:TE}{Q:VK} (h:ta σ H fun x H1=>tb σ H1 fun y H2=>r x y H2 Q):Fh r ta tb σ H Q:=h
end
section
variable {P:Program}{w:World}{K:PySem.W.Frag}{mg:Str→Option Value}{base:Heap}{A:Ad}
theorem Ju {f:Addr}{fd:FuncData} (T:Txt P w K mg A) (D:Dn K mg "speed_for" sO ["net","rise","length"] f fd):bO P w K mg base eC 1 f fd ["net","rise","length"] (Ks A):=by
 have nd:=sc_speed_for.nd
 refine D.fn.ok sc_speed_for (fun vs H Q E h=>?_) (fun cdv Ar outer s H vs Q E hr h=>?_)
 ·obtain ⟨p,m,rise,long,rfl,_⟩:=h
  rfl
 ·obtain ⟨p,m,rise,long,rfl,⟨lj,lr,ls,lc,N⟩,hg,hr6,k1,k2⟩:=h
  refine ⟨_,(aC (eK PassesOwn.never rfl (cH (aI (pv 0) rfl)) (bV (i:=3) nd rfl (Or.inl rfl)) (aE (bJ (aY fX (cO vD aM (pv 1)) (cO vD (aI (pv 3) rfl) (pv 2)) (bD _)) (aE (aK (pv 3))) aU))) (aE (aK jQ))),?_⟩
  obtain ⟨dx,hp⟩:=N.ob
  obtain ⟨as,hl,hall⟩:=N.ss
  refine (iL (aH (aA rfl) hp T.dQ.cl T.fR fU) (SqL.of hl) (fun i σ H'=>(∃ v:Option V,σ=[some (.ref p),some (.int rise),some (.int long),v])∧H'=H∧(m.speeds.take i).find? (fun s=>decide (1000 * rise≤s.grade * long))=none) ⟨⟨_,rfl⟩,rfl,rfl⟩ (fun i σ H' _ h=>by rw[h.2.1];exact SqL.of hl) ?_ ?_)
  ·rintro i y σ H' hi ⟨⟨v,rfl⟩,rfl,hn⟩
   obtain ⟨a,ha,rfl⟩:=bF hi
   obtain ⟨x,hx,dx',hob⟩:=hall.get ha
   have hgx:=hg x (List.mem_of_getElem? hx)
   have e0:decide ((1000:Int) * (rise:Int)≤(x.grade:Int) * (long:Int))=decide (1000 * rise≤x.grade * long):=by
    rw[Bool.eq_iff_iff,decide_eq_true_iff,decide_eq_true_iff]
    have h1:(1000:Int) * (rise:Int)=((1000 * rise:Nat):Int):=by push_cast;rfl
    have h2:(x.grade:Int) * (long:Int)=((x.grade * long:Nat):Int):=by push_cast;rfl
    rw[h1,h2]
    exact Int.ofNat_le
   refine lS ((aO (bH (jO aL (aA rfl) (.inl ⟨by decide,by decide⟩)) (jO (aH (aA rfl) hob T.eM.cl T.gE gR) (aA rfl) (.inl ⟨by omega,by omega⟩)))).to e0) (fun e=>?_) (fun e=>?_)
   ·exact cS (aA rfl) (k1 x a (nQ hx hn e) ⟨dx',hob⟩)
   ·exact ⟨⟨_,rfl⟩,rfl,jS hx hn e⟩
  ·rintro σ H' ⟨⟨v,rfl⟩,rfl,hn⟩
   exact cS aL (k2 (pO hn (by rw[List.length_map];exact hall.length)))
theorem vY {f:Addr}{fd:FuncData} (T:Txt P w K mg A) (D:Dn K mg "metres_a_minute" jK ["speed","downwards","loaded"] f fd):bO P w K mg base eC 1 f fd ["speed","downwards","loaded"] (Uc A):=by
 have nd:=sc_metres_a_minute.nd
 refine D.fn.ok sc_metres_a_minute (fun vs H Q E h=>?_) (fun cdv Ar outer s H vs Q E hr h=>?_)
 ·obtain ⟨a,x,d,l,rfl,_⟩:=h
  rfl
 ·obtain ⟨a,x,d,l,rfl,⟨dx,ho⟩,k⟩:=h
  refine ⟨_,(aC (bJ (bK (pv 1)) (aE (aK (rN (aY fW (pv 2) aM (bD _)) (aI (pv 0) rfl) (aI (pv 0) rfl)))) aU) (aE (aK (rN (aY fW (pv 2) aM (bD _)) (aI (pv 0) rfl) (aI (pv 0) rfl))))),?_⟩
  refine la (bR (aA rfl)) (fun e=>?_) (fun e=>?_)
  ·subst e
   have e1:Ev (mr (Gv (Fh mq (lR 2) (tC (.int 1)))) (Bn K (lR 0) "down_loaded") (Bn K (lR 0) "down")) (L2.start ["speed","downwards","loaded"] [.ref a,.bl true,.int (lI l)]) H (.int (nZ x true l)):=by
    refine (Lp ((aO (fA (aA rfl) aL)).to (Oq l)) (fun _=>(aH (aA rfl) ho T.eM.cl T.iC kJ)) (fun _=>(aH (aA rfl) ho T.eM.cl T.qU uT))).to ?_
    cases l <;> rfl
   exact e1 _ k
  ·subst e
   have e1:Ev (mr (Gv (Fh mq (lR 2) (tC (.int 1)))) (Bn K (lR 0) "up_loaded") (Bn K (lR 0) "up")) (L2.start ["speed","downwards","loaded"] [.ref a,.bl false,.int (lI l)]) H (.int (nZ x false l)):=by
    refine (Lp ((aO (fA (aA rfl) aL)).to (Oq l)) (fun _=>(aH (aA rfl) ho T.eM.cl T.jL nJ)) (fun _=>(aH (aA rfl) ho T.eM.cl T.vV zO))).to ?_
    cases l <;> rfl
   exact e1 _ k
theorem uQ {f:Addr}{fd:FuncData} (T:Txt P w K mg A) (D:Dn K mg "road_start" qR ["road","way"] f fd):bO P w K mg base eC 1 f fd ["road","way"] (Fy A):=by
 have nd:=sc_road_start.nd
 refine D.fn.ok sc_road_start (fun vs H Q E h=>?_) (fun cdv Ar outer s H vs Q E hr h=>?_)
 ·obtain ⟨a,r,b,rfl,_⟩:=h
  rfl
 ·obtain ⟨a,r,b,rfl,⟨dx,ho⟩,k⟩:=h
  refine ⟨_,(aE (aK (rN (aY fW (pv 1) (aW rfl T.kE) (bD _)) (aI (pv 0) rfl) (aI (pv 0) rfl)))),?_⟩
  refine cS ((Lp ((aO (fA (aA rfl) aL)).to (Rj b)) (fun _=>(aH (aA rfl) ho T.dS.cl T.mB lP)) (fun _=>(aH (aA rfl) ho T.dS.cl T.mC lN))).to ?_) k
  cases b <;> rfl
theorem zH {f:Addr}{fd:FuncData} (T:Txt P w K mg A) (D:Dn K mg "road_end" vE ["road","way"] f fd):bO P w K mg base eC 1 f fd ["road","way"] (Na A):=by
 have nd:=sc_road_end.nd
 refine D.fn.ok sc_road_end (fun vs H Q E h=>?_) (fun cdv Ar outer s H vs Q E hr h=>?_)
 ·obtain ⟨a,r,b,rfl,_⟩:=h
  rfl
 ·obtain ⟨a,r,b,rfl,⟨dx,ho⟩,k⟩:=h
  refine ⟨_,(aE (aK (rN (aY fW (pv 1) (aW rfl T.kE) (bD _)) (aI (pv 0) rfl) (aI (pv 0) rfl)))),?_⟩
  refine cS ((Lp ((aO (fA (aA rfl) aL)).to (Rj b)) (fun _=>(aH (aA rfl) ho T.dS.cl T.mC lN)) (fun _=>(aH (aA rfl) ho T.dS.cl T.mB lP))).to ?_) k
  cases b <;> rfl
theorem qY {f:Addr}{fd:FuncData} (T:Txt P w K mg A) (D:Dn K mg "road_minutes" nB ["net","road","way","loaded"] f fd):bO P w K mg base eC 2 f fd ["net","road","way","loaded"] (Am A):=by
 obtain ⟨af_find_junction,fd_find_junction,D_find_junction⟩:=T.rA
 have G_find_junction:=pR (base:=base) T D_find_junction
 obtain ⟨af_metres_a_minute,fd_metres_a_minute,D_metres_a_minute⟩:=T.xG
 have G_metres_a_minute:=vY (base:=base) T D_metres_a_minute
 obtain ⟨af_road_end,fd_road_end,D_road_end⟩:=T.Dt
 have G_road_end:=zH (base:=base) T D_road_end
 obtain ⟨af_road_start,fd_road_start,D_road_start⟩:=T.xC
 have G_road_start:=uQ (base:=base) T D_road_start
 obtain ⟨af_speed_for,fd_speed_for,D_speed_for⟩:=T.Oa
 have G_speed_for:=Ju (base:=base) T D_speed_for
 have nd:=sc_road_minutes.nd
 refine D.fn.ok sc_road_minutes (fun vs H Q E h=>?_) (fun cdv Ar outer s H vs Q E hr h=>?_)
 ·obtain ⟨p,a,m,r,b,l,rfl,_⟩:=h
  rfl
 ·obtain ⟨p,a,m,r,b,l,rfl,NN,W,hr0,⟨dx,ho⟩,k⟩:=h
  refine ⟨_,(aC (bJ (PW.pt (cU (aY fW (pv 2) (aW rfl T.pA) (bD _)) (eL (aY fW (aI (pv 1) rfl) aM (bD _))))) (aE (aK (aW rfl T.qH))) aU) (aC (aR (i:=4) nd rfl (Or.inl rfl) (cO rH (aI (aG G_find_junction (hr.mono (by decide)) rfl D_find_junction.mg D_find_junction.fn.kp D_find_junction.bi .nil aN (aB (pv 0) (aB (aG G_road_end (hr.mono (by decide)) rfl D_road_end.mg D_road_end.fn.kp D_road_end.bi .nil aN (aB (pv 1) (aB (pv 2) aD))) aD))) rfl) (aI (aG G_find_junction (hr.mono (by decide)) rfl D_find_junction.mg D_find_junction.fn.kp D_find_junction.bi .nil aN (aB (pv 0) (aB (aG G_road_start (hr.mono (by decide)) rfl D_road_start.mg D_road_start.fn.kp D_road_start.bi .nil aN (aB (pv 1) (aB (pv 2) aD))) aD))) rfl))) (aC (aR (i:=5) nd rfl (Or.inl rfl) (aG G_speed_for (hr.mono (by decide)) rfl D_speed_for.mg D_speed_for.fn.kp D_speed_for.bi .nil aN (aB (pv 0) (aB (bU Mq (by rfl) T.dn Wr (aB (pv 4) aD)) (aB (aI (pv 1) rfl) aD))))) (aC (bJ (aY Ot (pv 5) jQ (bD _)) (aE (aK (aW rfl T.qH))) aU) (aC (aR (i:=6) nd rfl (Or.inl rfl) (aG G_metres_a_minute (hr.mono (by decide)) rfl D_metres_a_minute.mg D_metres_a_minute.fn.kp D_metres_a_minute.bi .nil aN (aB (pv 5) (aB (nR uM (pv 4) aM (bD _)) (aB (pv 3) aD))))) (aC (bJ (aY fW (pv 6) aM (bD _)) (aE (aK (aW rfl T.qH))) aU) (aE (aK (cO Sf (cO rH (cO eR (aI (pv 1) rfl) (cO vD aM (pv 6))) aM) (cO vD aM (pv 6))))))))))),?_⟩
  obtain ⟨hn,⟨ja,jb,jab⟩,hlong,hways⟩:=W.rin r hr0
  refine cB ((dA ((aO (fA (aA rfl) aL)).to (Oq b)) (fun _=>(aO (fA (aH (aA rfl) ho T.dS.cl T.tI wP) aL)).to (fE (b:=1))))) (fun e=>?_) (fun e=>?_)
  ·rw[Bool.and_eq_true,beq_iff_eq] at e
   have e0:Vbmiai.minutesOf m r b l=none:=by
    unfold Vbmiai.minutesOf
    rw[if_pos e]
   rw[e0] at k
   exact aL _ k
  have h0:¬ (b=true∧r.ways=1):=fun z=>by
   rw[Bool.and_eq_false_iff] at e
   rcases e with e | e
   ·rw[z.1] at e
    cases e
   ·rw[z.2] at e
    cases e
  have js:(if b=true then r.b else r.a) ∈ m.junctions.map (·.number):=by cases b <;> assumption
  have je:(if b=true then r.a else r.b) ∈ m.junctions.map (·.number):=by cases b <;> assumption
  obtain ⟨xs,fs,ms,hs⟩:=tN js
  obtain ⟨xe,fe,me,he⟩:=tN je
  have hp':(if b=true then Vbmiai.heightOf m r.b else Vbmiai.heightOf m r.a)=xs.height:=by rw[←hs];cases b <;> rfl
  have hq':(if b=true then Vbmiai.heightOf m r.a else Vbmiai.heightOf m r.b)=xe.height:=by rw[←he];cases b <;> rfl
  have key:=Qr (l:=l) hp' hq' h0
  rw[key] at k
  refine bZ (Lq (Xa (bQ (bS (aA rfl) (aZ (bS (aA rfl) (aA rfl)) fun Q q=>⟨a,r,b,rfl,⟨dx,ho⟩,q⟩)) ⟨p,m,_,rfl,NN,fun x ax h1 h2=>?_,fun h1=>?_⟩)))
  rotate_left
  ·rw[fe] at h1
   cases h1
  rw[fe] at h1
  cases h1
  obtain ⟨dxe,h2⟩:=h2
  refine ⟨ax,A.Junction,dxe,_,_,rfl,h2,T.dE.cl,T.gS,iT,?_⟩
  refine Xa (bQ (bS (aA rfl) (aZ (bS (aA rfl) (aA rfl)) fun Q q=>⟨a,r,b,rfl,⟨dx,ho⟩,q⟩)) ⟨p,m,_,rfl,NN,fun x ay h1 h3=>?_,fun h1=>?_⟩)
  rotate_left
  ·rw[fs] at h1
   cases h1
  rw[fs] at h1
  cases h1
  obtain ⟨dxs,h3⟩:=h3
  refine ⟨ay,A.Junction,dxs,_,_,rfl,h3,T.dE.cl,T.gS,iT,_,_,rfl,rfl,?_⟩
  have b1:=(W.jin xs ms).2.2
  have b2:=(W.jin xe me).2.2
  refine bZ (bQ (bA (aA rfl) (bS ((Wv (bW (aA rfl))).to (congrArg V.int (Ru xs.height xe.height))) (aH (aA rfl) ho T.dS.cl T.jZ mS))) ⟨p,m,_,_,rfl,NN,fun s hs=>(W.sin s hs).1,by omega,fun x asp h1 h2=>?_,fun h1=>?_⟩)
  rotate_left
  ·refine cB (aO (xL (aA rfl) aL)) (fun _=>?_) (fun e=>?_)
   ·rw[h1] at k
    exact aL _ k
   ·cases e
  obtain ⟨dsp,hsp⟩:=h2
  rw[h1] at k
  dsimp only at k
  refine cB (aO (xL (aA rfl) aL)) (fun e=>?_) (fun _=>?_)
  ·cases e
  have e2:decide (((xe.height:Int) - (xs.height:Int))<0)=decide (xe.height<xs.height):=by
   rw[Bool.eq_iff_iff,decide_eq_true_iff,decide_eq_true_iff]
   omega
  refine cC (aZ (bA (aA rfl) (bS ((bH (aA rfl) aL).to (congrArg V.bl e2)) (aA rfl))) fun Q q=>⟨asp,x,_,l,rfl,⟨dsp,hsp⟩,q⟩) ?_
  have hx:=W.sin x (List.mem_of_find?_eq_some h1)
  have hpace:nZ x (decide (xe.height<xs.height)) l≤1000:=by
   unfold nZ
   split <;> split <;> omega
  generalize nZ x (decide (xe.height<xs.height)) l=v at k hpace ⊢
  refine cB ((aO (fA (aA rfl) aL)).to (fE (b:=0))) (fun e=>?_) (fun e=>?_)
  ·rw[if_pos (beq_iff_eq.mp e)] at k
   exact aL _ k
  ·have hv:v≠0:=fun z=>by
    rw[z] at e
    cases e
   rw[if_neg hv] at k
   refine cS ((jO (bH (bH (aH (aA rfl) ho T.dS.cl T.jZ mS) (jO aL (aA rfl) (.inl ⟨by decide,by decide⟩))) aL) (jO aL (aA rfl) (.inl ⟨by decide,by decide⟩)) ⟨by omega,by omega⟩).to ?_) k
   show V.int _=V.int _
   congr 1
   show ((r.long:Int) + 100 * (v:Int) - 1) / (100 * (v:Int))=(((r.long + 100 * v - 1) / (100 * v):Nat):Int)
   have h1:(r.long:Int) + 100 * (v:Int) - 1=((r.long + 100 * v - 1:Nat):Int):=by omega
   have h2:(100:Int) * (v:Int)=((100 * v:Nat):Int):=by omega
   rw[h1,h2]
   exact (Int.natCast_ediv _ _).symm
theorem yP {f:Addr}{fd:FuncData} (T:Txt P w K mg A) (D:Dn K mg "closing_start" kO ["closing"] f fd):bO P w K mg base eC 1 f fd ["closing"] (pU A):=by
 have nd:=sc_closing_start.nd
 refine D.fn.ok sc_closing_start (fun vs H Q E h=>?_) (fun cdv Ar outer s H vs Q E hr h=>?_)
 ·obtain ⟨a,c,rfl,_⟩:=h
  rfl
 ·obtain ⟨a,c,rfl,⟨dx,ho⟩,k⟩:=h
  refine ⟨_,(aE (aK (aI (pv 0) rfl))),?_⟩
  exact cS (aH (aA rfl) ho T.dC.cl T.hZ iG) k
end
abbrev pB:=Vbmiai.Step
def qg (s:pB) (l:Addr):List (Str×V):=xN (.int s.road) (.int s.from_) (.int s.to) (.int s.long) (.ref l)
structure StIn (A:Ad) (H:Hp) (m:Net) (a l:Addr) (cs:List Closing) (s:pB):Prop where
 ob:OA H A.Step (qg s l) a
 cl:LA H A.Closing cF l cs
 so:cs.Pairwise (fun c d=>c.lo≤d.lo)
 me:∀ c,c ∈ cs ↔ c ∈ m.closings∧c.road=s.road
 ln:cs.length≤20
def StAt (A:Ad) (H:Hp) (m:Net) (a:Addr) (s:pB):Prop:=∃ l cs,StIn A H m a l cs s
theorem StAt.same {A:Ad}{H H':Hp}{m:Net}{a:Addr}{s:pB} (h:StAt A H m a s) (e:Same H H'):StAt A H' m a s:=let ⟨l,cs,h⟩:=h;⟨l,cs,h.ob.same e,h.cl.same e,h.so,h.me,h.ln⟩
def StNew (A:Ad) (H0 H:Hp) (m:Net) (a:Addr) (s:pB):Prop:=∃ l cs,StIn A H m a l cs s∧H0 l=none
theorem StNew.at {A:Ad}{H0 H:Hp}{m:Net}{a:Addr}{s:pB} (h:StNew A H0 H m a s):StAt A H m a s:=let ⟨l,cs,h,_⟩:=h;⟨l,cs,h⟩
def StOff (A:Ad) (H:Hp) (m:Net) (t a:Addr) (s:pB):Prop:=∃ l cs,StIn A H m a l cs s∧l≠t
theorem StIn.same {A:Ad}{H H':Hp}{m:Net}{a l:Addr}{cs:List Closing}{s:pB} (h:StIn A H m a l cs s) (e:Same H H'):StIn A H' m a l cs s:=⟨h.ob.same e,h.cl.same e,h.so,h.me,h.ln⟩
theorem StOff.same {A:Ad}{H H':Hp}{m:Net}{t a:Addr}{s:pB} (h:StOff A H m t a s) (e:Same H H'):StOff A H' m t a s:=let ⟨l,cs,h,n⟩:=h;⟨l,cs,h.same e,n⟩
def LOff (A:Ad) (H:Hp) (m:Net) (l:Addr) (ss:List pB):Prop:=∃ as:List Addr,H l=some (.lst (as.map V.ref))∧All2 (fun a s=>StOff A H m l a s) as ss
theorem LOff.same {A:Ad}{H H':Hp}{m:Net}{l:Addr}{ss:List pB} (h:LOff A H m l ss) (e:Same H H'):LOff A H' m l ss:=let ⟨as,h1,h2⟩:=h;⟨as,e _ _ h1,h2.imp fun _ _ q=>q.same e⟩
def LSt (A:Ad) (H:Hp) (m:Net) (l:Addr) (ss:List pB):Prop:=∃ as:List Addr,H l=some (.lst (as.map V.ref))∧All2 (fun a s=>StAt A H m a s) as ss
theorem LSt.same {A:Ad}{H H':Hp}{m:Net}{l:Addr}{ss:List pB} (h:LSt A H m l ss) (e:Same H H'):LSt A H' m l ss:=let ⟨as,h1,h2⟩:=h;⟨as,e _ _ h1,h2.imp fun _ _ q=>q.same e⟩
def oB (r:Road) (b:Bool) (k:Nat):pB:=if b=true then ⟨r.number,r.b,r.a,k⟩ else ⟨r.number,r.a,r.b,k⟩
def eD (m:Net) (l:Bool) (r:Road) (b:Bool):List pB:=(Vbmiai.minutesOf m r b l).toList.map (oB r b)
theorem uH (m:Net) (l:Bool):Vbmiai.stepsOf m l=m.roads.flatMap fun r=>[false,true].flatMap (eD m l r):=by
 unfold Vbmiai.stepsOf
 congr 1
 funext r
 show _=eD m l r false ++ (eD m l r true ++ [])
 rw[List.append_nil]
 rfl
theorem Tc {A:Ad}{H:Hp}{m:Net}{a l:Addr}{cs:List Closing}{s:pB} (h:StIn A H m a l cs s) (t:Nat):Fj s.long cs t=Vbmiai.begins m s.road t s.long:=Np h.so h.me
theorem bz {A:Ad}{H:Hp}{m:Net}{a l:Addr}{cs:List Closing}{s:pB} (h:StIn A H m a l cs s) (t:Nat):(cs.all fun c=>decide (t + s.long≤c.lo) || decide (c.hi≤t))=Vbmiai.isOpen m s.road t s.long:=by
 rw[Bool.eq_iff_iff,isOpen_iff,List.all_eq_true]
 constructor
 ·intro q c hc e
  have:=q c ((h.me c).mpr ⟨hc,e⟩)
  simpa using this
 ·intro q c hc
  obtain ⟨h1,h2⟩:=(h.me c).mp hc
  have:=q c h1 h2
  simpa using this
theorem fy {σ:L2.St}{H:Hp}{K:PySem.W.Frag}{D:jB}{te:TE}{g:TG}{tb:TS} (h:te σ H fun x H1=>∃ a,x = .ref a∧(∃ xs,SqT K H1 a xs)∧∃ W:Nat→Nat→L2.St→Hp→Prop,(∃ m,W 0 m σ H1)∧∀ i m σ H,W i m σ H→((cw K a).stop i H∧D.nx σ H)∨((cw K a).go i H∧∃ N:L2.St→Hp→Prop,(∀ σ' H',N σ' H'→∃ m',m'<m∧W (i + 1) m' σ' H')∧∀ x H',(cw K a).yld i H x H'→g x σ H' fun σ2 H2=>tb { D with nx:=N,ct:=N,bk:=D.nx } σ2 H2)):Fi (kg K te) g tb D σ H:=h
def Ku (A:Ad):Sp:=fun vs H Q _=>∃ (p a:Addr) (m:Net) (r:Road) (b l:Bool),vs=[.ref p,.ref a,.int (lI b),.int (lI l)]∧NetIs A H p m∧WF m∧r ∈ m.roads∧OA H A.Road (rF r) a ∧
 (∀ k x H',Vbmiai.minutesOf m r b l=some k→Same H H'→H x=none→StNew A H H' m x (oB r b k)→Q (.ref x) H')∧(Vbmiai.minutesOf m r b l=none→Q .non H)
def wZ (A:Ad):Sp:=fun vs H Q _=>∃ (p:Addr) (m:Net) (l:Bool),vs=[.ref p,.int (lI l)]∧NetIs A H p m∧WF m∧∀ x H',Same H H'→H x=none→LSt A H' m x (Vbmiai.stepsOf m l)→Q (.ref x) H'
def Kx (A:Ad):Sp:=fun vs H Q _=>∃ (a:Addr) (m:Net) (s:pB) (t:Nat),vs=[.ref a,.int t]∧StAt A H m a s∧∀ H',Same H H'→Q (.bl (Vbmiai.isOpen m s.road t s.long)) H'
def Eo (A:Ad):Sp:=fun vs H Q _=>∃ (a:Addr) (m:Net) (s:pB) (t:Nat),vs=[.ref a,.int t]∧StAt A H m a s∧Q (.int (Vbmiai.begins m s.road t s.long)) H
def Qe (A:Ad):Sp:=fun vs H Q _=>∃ (a:Addr) (m:Net) (s:pB) (t:Nat),vs=[.ref a,.int t]∧StAt A H m a s∧Q (.int (Vbmiai.arrives m s t)) H
theorem Xp {α:Type}{R:Addr→α→Prop}{F:α→Int}{as:List Addr}{zs:List α} (h:All2 R as zs) (qs:List (Int×V)) (hq:qs.Perm ((zs.map F).zip (as.map V.ref))) (hs:qs.Pairwise fun u v=>u.1≤v.1) :
  ∃ bs ws,qs.map (·.2)=bs.map V.ref∧All2 R bs ws∧ws.Perm zs∧ws.Pairwise fun c d=>F c≤F d:=by
 have key:∀ {ps qs:List (Int×V)},qs.Perm ps→∀ {as:List Addr}{zs:List α},All2 R as zs→ps=(zs.map F).zip (as.map V.ref)→∃ bs ws,qs=(ws.map F).zip (bs.map V.ref)∧All2 R bs ws∧ws.Perm zs:=by
  intro ps qs hp
  induction hp with
  | nil=>
   intro as zs h e
   cases zs with
   | nil=>exact ⟨[],[],rfl,trivial,.nil⟩
   | cons z zs=>cases as with
    | nil=>exact h.elim
    | cons a as=>cases e
  | cons x _ ih=>
   intro as zs h e
   cases zs with
   | nil=>cases e
   | cons z zs=>cases as with
    | nil=>exact h.elim
    | cons a as=>
     obtain ⟨bs,ws,e1,e2,e3⟩:=ih h.2 (List.cons.inj e).2
     exact ⟨a :: bs,z :: ws,by rw[e1,(List.cons.inj e).1];rfl,⟨h.1,e2⟩,e3.cons z⟩
  | swap x y l=>
   intro as zs h e
   match as,zs,h,e with
   | a1 :: a2 :: as,z1 :: z2 :: zs,h,e=>
    have e':=List.cons.inj e
    have e'':=List.cons.inj e'.2
    exact ⟨a2 :: a1 :: as,z2 :: z1 :: zs,by rw[e'.1,e''.1,e''.2];rfl,⟨h.2.1,h.1,h.2.2⟩,.swap _ _ _⟩
   | [],[],_,e=>cases e
   | [a1],[z1],_,e=>cases (List.cons.inj e).2
   | [],_ :: _,h,_=>exact h.elim
   | _ :: _,[],h,_=>exact h.elim
   | [_],_ :: _ :: _,h,_=>exact h.2.elim
   | _ :: _ :: _,[_],h,_=>exact h.2.elim
  | trans _ _ ih1 ih2=>
   intro as zs h e
   obtain ⟨bs,ws,e1,e2,e3⟩:=ih2 h e
   obtain ⟨bs',ws',e4,e5,e6⟩:=ih1 e2 e1
   exact ⟨bs',ws',e4,e5,e6.trans e3⟩
 obtain ⟨bs,ws,e1,e2,e3⟩:=key hq h rfl
 have hl:bs.length=ws.length:=e2.length
 refine ⟨bs,ws,?_,e2,e3,?_⟩
 ·rw[e1]
  exact List.map_snd_zip (by rw[List.length_map,List.length_map];omega)
 ·have p1:(qs.map (·.1)).Pairwise (· ≤ ·):=List.pairwise_map.mpr hs
  rw[e1,List.map_fst_zip (by rw[List.length_map,List.length_map];omega)] at p1
  exact List.pairwise_map.mp p1
section
variable {P:Program}{w:World}{K:PySem.W.Frag}{mg:Str→Option Value}{base:Heap}{A:Ad}
theorem wQ {f:Addr}{fd:FuncData} (T:Txt P w K mg A) (D:Dn K mg "road_step" tH ["net","road","way","loaded"] f fd):bO P w K mg base eC 4 f fd ["net","road","way","loaded"] (Ku A):=by
 obtain ⟨af_Step,fd_Step,I_Step⟩:=T.jf
 have G_Step:=ap (base:=base) T I_Step
 obtain ⟨af_closing_start,fd_closing_start,D_closing_start⟩:=T.Ay
 have G_closing_start:=yP (base:=base) T D_closing_start
 obtain ⟨af_closings_of,fd_closings_of,D_closings_of⟩:=T.uW
 have G_closings_of:=tM (base:=base) T D_closings_of
 obtain ⟨af_road_end,fd_road_end,D_road_end⟩:=T.Dt
 have G_road_end:=zH (base:=base) T D_road_end
 obtain ⟨af_road_minutes,fd_road_minutes,D_road_minutes⟩:=T.tU
 have G_road_minutes:=qY (base:=base) T D_road_minutes
 obtain ⟨af_road_start,fd_road_start,D_road_start⟩:=T.xC
 have G_road_start:=uQ (base:=base) T D_road_start
 have nd:=sc_road_step.nd
 refine D.fn.ok sc_road_step (fun vs H Q E h=>?_) (fun cdv Ar outer s H vs Q E hr h=>?_)
 ·obtain ⟨p,a,m,r,b,l,rfl,_⟩:=h
  rfl
 ·obtain ⟨p,a,m,r,b,l,rfl,NN,W,hr0,⟨dx,ho⟩,k1,k2⟩:=h
  refine ⟨_,(aC (aR (i:=4) nd rfl (Or.inl rfl) (aG G_road_minutes (hr.mono (by decide)) rfl D_road_minutes.mg D_road_minutes.fn.kp D_road_minutes.bi .nil aN (aB (pv 0) (aB (pv 1) (aB (pv 2) (aB (pv 3) aD)))))) (aC (bJ (aY fW (pv 4) (aW rfl T.qH) (bD _)) (aE (aK jQ)) aU) (aC (aR (i:=5) nd rfl (Or.inl rfl) (Jp rfl T.Zg (aG G_closings_of (hr.mono (by decide)) rfl D_closings_of.mg D_closings_of.fn.kp D_closings_of.bi .nil aN (aB (pv 0) (aB (aI (pv 1) rfl) aD))) rfl D_closing_start.mg)) (aE (aK (hC I_Step.ma G_Step (hr.mono (by decide)) rfl T.dZ.mg I_Step.bi .nil aN (aB (aI (pv 1) rfl) (aB (aG G_road_start (hr.mono (by decide)) rfl D_road_start.mg D_road_start.fn.kp D_road_start.bi .nil aN (aB (pv 1) (aB (pv 2) aD))) (aB (aG G_road_end (hr.mono (by decide)) rfl D_road_end.mg D_road_end.fn.kp D_road_end.bi .nil aN (aB (pv 1) (aB (pv 2) aD))) (aB (pv 4) (aB (pv 5) aD))))))))))),?_⟩
  refine cC (aZ (bA (aA rfl) (bA (aA rfl) (bS (aA rfl) (aA rfl)))) fun Q q=>⟨p,a,m,r,b,l,rfl,NN,W,hr0,⟨dx,ho⟩,q⟩) ?_
  cases hm:Vbmiai.minutesOf m r b l with
  | none=>
   refine cB (aO (fA (aA rfl) aL)) (fun _=>aL _ (k2 hm)) (fun e=>?_)
   cases e
  | some kk=>
   refine cB (aO (fA (aA rfl) aL)) (fun e=>?_) (fun _=>?_)
   ·have:=of_decide_eq_true e
    injection this with this
    have h0:((kk:Nat):Int) = -1:=this
    omega
   ·have W20:=W.clen
    refine bZ (bQ (bS (aA rfl) (aH (aA rfl) ho T.dS.cl T.eW fB)) ⟨p,m,_,rfl,NN,W.clen,fun lc H1 s1 n1 L1=>?_⟩)
    obtain ⟨as,hl,hall⟩:=L1
    have hlen:as.length=(m.closings.filter fun c=>c.road == r.number).length:=hall.length
    have hle:as.length≤20:=by rw[hlen];exact Nat.le_trans (List.length_filter_le _ _) W.clen
    refine ⟨lc,as.map V.ref,(m.closings.filter fun c=>c.road == r.number).map fun c=>(c.lo:Int),1,fd_closing_start,["closing"],pU A,rfl,SqL.of hl,by rw[List.length_map,List.length_map,hlen],by rw[List.length_map];omega,G_closing_start,hr.mono (by decide),D_closing_start.bi,fun i x n hx hn=>?_,fun qs pq hq hs hp=>?_⟩
    ·obtain ⟨b',hb',rfl⟩:=bF hx
     obtain ⟨c,hc,hob⟩:=hall.get hb'
     obtain ⟨c',hc',rfl⟩:=bF hn
     rw[hc] at hc'
     cases hc'
     exact ⟨b',c,rfl,hob,rfl,rfl⟩
    ·obtain ⟨bs,ws,e1,e2,e3,e4⟩:=Xp hall qs hq hs
     rw[e1]
     have s2:=s1.over (o:=.lst (bs.map V.ref)) (s1.free hp)
     have s12:Same H1 (cA H1 pq (.lst (bs.map V.ref))):=bN hp
     have ho2:=s2 _ _ ho
     refine bP (lW (bA (aH (aA rfl) ho2 T.dS.cl T.eW fB) (bA (aZ (bS (aA rfl) (aA rfl)) fun Q q=>⟨a,r,b,rfl,⟨dx,ho2⟩,q⟩) (bA (aZ (bS (aA rfl) (aA rfl)) fun Q q=>⟨a,r,b,rfl,⟨dx,ho2⟩,q⟩) (bS (aA rfl) (aA rfl))))) rfl fun x dxx hx hd=>?_)
     refine k1 kk x _ hm (s2.trans (cP hx hd)) (s2.free hx) ⟨pq,ws,⟨?_,?_,?_,?_,?_⟩,s1.free hp⟩
     ·have e0:(["road","start","end","minutes","closings"]:List Str).zip [.int (r.number:Nat),.int ((if b=true then r.b else r.a:Nat)),.int ((if b=true then r.a else r.b:Nat)),.int (jN (some kk)),.ref pq]=qg (oB r b kk) pq:=by
       cases b <;> rfl
      rw[←e0]
      exact jP
     ·exact ⟨bs,cP hx hd _ _ aF,e2.imp fun _ _ z=>(z.same s12).same (cP hx hd)⟩
     ·exact e4.imp fun h=>by omega
     ·intro c
      rw[e3.mem_iff,List.mem_filter,beq_iff_eq]
      cases b <;> rfl
     ·rw[e3.length_eq]
      exact Nat.le_trans (List.length_filter_le _ _) W.clen
theorem fQ {f:Addr}{fd:FuncData} (T:Txt P w K mg A) (D:Dn K mg "all_steps" sN ["net","loaded"] f fd):bO P w K mg base eC 5 f fd ["net","loaded"] (wZ A):=by
 obtain ⟨af_road_step,fd_road_step,D_road_step⟩:=T.zU
 have G_road_step:=wQ (base:=base) T D_road_step
 have nd:=sc_all_steps.nd
 refine D.fn.ok sc_all_steps (fun vs H Q E h=>?_) (fun cdv Ar outer s H vs Q E hr h=>?_)
 ·obtain ⟨p,m,l,rfl,_⟩:=h
  rfl
 ·obtain ⟨p,m,l,rfl,NN,W,k⟩:=h
  refine ⟨_,(aC (aR (i:=2) nd rfl (Or.inl rfl) (bE aD)) (aC (eK PassesOwn.never rfl (cH (aI (pv 0) rfl)) (bV (i:=3) nd rfl (Or.inl rfl)) (aE (eK PassesOwn.never rfl (gw (lX (aB (aW rfl T.kE) (aB (aW rfl T.pA) aD)))) (bV (i:=4) nd rfl (Or.inl rfl)) (aC (aR (i:=5) nd rfl (Or.inl rfl) (aG G_road_step (hr.mono (by decide)) rfl D_road_step.mg D_road_step.fn.kp D_road_step.bi .nil aN (aB (pv 0) (aB (pv 3) (aB (pv 4) (aB (pv 1) aD)))))) (aE (bJ (aY Iz (pv 5) jQ (bD _)) (aE (cI (fG PySem.F.plainAttrs_list PySem.F.slot_list_append PySem.F.type_list_append dB (pv 2) (aB (pv 5) aD)))) aU)))))) (aE (aK (pv 2))))),?_⟩
  obtain ⟨lj,lr,ls,lc,N⟩:=NN
  obtain ⟨dx,hp⟩:=N.ob
  obtain ⟨as,hl,hall⟩:=N.rs
  have mlen:∀ i,((m.roads.take i).flatMap fun r=>[false,true].flatMap (eD m l r)).length≤40:=by
   intro i
   have h1:∀ r,([false,true].flatMap (eD m l r)).length≤2:=by
    intro r
    show ((eD m l r false) ++ ((eD m l r true) ++ [])).length≤2
    unfold eD
    cases Vbmiai.minutesOf m r false l <;> cases Vbmiai.minutesOf m r true l <;> simp
   have h2:∀ (l':List Road),(l'.flatMap fun r=>[false,true].flatMap (eD m l r)).length≤2 * l'.length:=by
    intro l'
    induction l' with
    | nil=>simp
    | cons x l' ih=>
     rw[List.flatMap_cons,List.length_append,List.length_cons]
     have:=h1 x
     omega
   have h3:=h2 (m.roads.take i)
   rw[List.length_take] at h3
   have:=W.rlen
   omega
  refine bZ (dI eA (Nat.zero_le _) fun t ht=>?_)
  refine (iL (aH (aA rfl) (bN ht _ _ hp) T.dQ.cl T.eV eT) (SqL.of (bN ht _ _ hl)) (fun i σ H'=>(∃ v1 v2 v3:Option V,σ=[some (.ref p),some (.int (lI l)),some (.ref t),v1,v2,v3])∧Same H H'∧LOff A H' m t ((m.roads.take i).flatMap fun r=>[false,true].flatMap (eD m l r))) ⟨⟨_,_,_,rfl⟩,bN ht,[],aF,trivial⟩ (fun i σ H' _ h=>SqL.of (h.2.1 _ _ hl)) ?_ ?_)
  ·rintro i y σ H1 hi ⟨⟨v1,v2,v3,rfl⟩,s1,h1⟩
   obtain ⟨a,ha,rfl⟩:=bF hi
   obtain ⟨r,hrr,dx',hob⟩:=hall.get ha
   have hrm:=List.mem_of_getElem? hrr
   refine fy (We (bS aL aL) (by show 2≤sizeLine;decide) fun tu htu=>⟨tu,rfl,⟨_,SqT.of aF⟩,?_⟩)
   have s2:=s1.over (o:=.tup [.int 0,.int 1]) (s1.free htu)
   refine bn (K:=K) (xs:=[.int 0,.int 1]) (fun j σ H'=>(∃ v2 v3:Option V,σ=[some (.ref p),some (.int (lI l)),some (.ref t),some (.ref a),v2,v3])∧Same H H'∧H' tu=some (.tup [.int 0,.int 1])∧LOff A H' m t (((m.roads.take i).flatMap fun r=>[false,true].flatMap (eD m l r)) ++ ([false,true].take j).flatMap (eD m l r))) ⟨⟨_,_,rfl⟩,s2,aF,?_⟩ (fun j σ H' _ h=>SqT.of h.2.2.1) ?_ ?_
   ·rw[List.take_zero,List.flatMap_nil,List.append_nil]
    exact h1.same (bN htu)
   ·rintro j x σ H2 hj ⟨⟨v2,v3,rfl⟩,s3,h3,L⟩
    obtain ⟨b,hb,rfl⟩:∃ b:Bool,([false,true]:List Bool)[j]? = some b∧x = .int (lI b):=by
     match j,hj with
     | 0,hj=>exact ⟨false,rfl,(Option.some.inj hj).symm⟩
     | 1,hj=>exact ⟨true,rfl,(Option.some.inj hj).symm⟩
     | j + 2,hj=>simp at hj
    have et:([false,true]:List Bool).take (j + 1)=([false,true]:List Bool).take j ++ [b]:=cG hb
    have hob3:=s3 _ _ hob
    have NN3:NetIs A H2 p m:=⟨lj,lr,ls,lc,N.same s3⟩
    refine bZ (bQ (bA (aA rfl) (bA (aA rfl) (bS (aA rfl) (aA rfl)))) ⟨p,a,m,r,b,l,rfl,NN3,W,hrm,⟨dx',hob3⟩,fun kk x H3 hm s4 nx hst=>?_,fun hm=>?_⟩)
    ·have L':=L.same s4
     obtain ⟨as0,hLt,_⟩:=L
     obtain ⟨as',q1,q2⟩:=L'
     refine lS (aO (Sh (aA rfl) aL)) (fun _=>?_) (fun e=>?_)
     ·refine gU (fN (aA rfl) (aA rfl) q1 ?_ ⟨⟨_,_,rfl⟩,(s3.trans s4).over ht,?_,as' ++ [x],?_,?_⟩)
      ·rw[List.length_map,q2.length,List.length_append]
       have h1:=mlen i
       have h2:(([false,true].take j).flatMap (eD m l r)).length≤2:=by
        match j with
        | 0=>simp
        | 1=>
         show ((eD m l r false) ++ []).length≤2
         unfold eD
         cases Vbmiai.minutesOf m r false l <;> simp
        | j + 2=>
         show ((eD m l r false) ++ ((eD m l r true) ++ (List.take j []).flatMap _)).length≤2
         unfold eD
         cases Vbmiai.minutesOf m r false l <;> cases Vbmiai.minutesOf m r true l <;> simp
       rw[sizeLine_eq]
       omega
      ·rw[aV (jM (s4 _ _ h3) q1 (by intro z;cases z))]
       exact s4 _ _ h3
      ·rw[aF,List.map_append]
       rfl
      ·have e1:([false,true].take (j + 1)).flatMap (eD m l r)=([false,true].take j).flatMap (eD m l r) ++ [oB r b kk]:=by
        rw[et,List.flatMap_append]
        congr 1
        show eD m l r b ++ []=_
        unfold eD
        rw[hm]
        rfl
       rw[e1,←List.append_assoc]
       have ov:∀ {z:Addr}{s:pB},StOff A H3 m t z s→StOff A (cA H3 t (.lst (as'.map V.ref ++ [V.ref x]))) m t z s:=by
        rintro z s ⟨ll,cs,hz,nl⟩
        exact ⟨ll,cs,⟨hz.ob.ov q1 fun _=>il,hz.cl.ov q1 nl fun _ _=>il,hz.so,hz.me,hz.ln⟩,nl⟩
       obtain ⟨ll,cs,hz,nz⟩:=hst
       exact (q2.imp fun _ _ z=>ov z).snoc (ov ⟨ll,cs,hz,(aQ hLt nz).symm⟩)
     ·cases e
    ·refine lS (aO (Sh (aA rfl) aL)) (fun e=>?_) (fun _=>?_)
     ·cases e
     ·refine ⟨⟨_,_,rfl⟩,s3,h3,?_⟩
      have e1:([false,true].take (j + 1)).flatMap (eD m l r)=([false,true].take j).flatMap (eD m l r):=by
       rw[et,List.flatMap_append]
       show _ ++ (eD m l r b ++ [])=_
       unfold eD
       rw[hm]
       simp
      rw[e1]
      exact L
   ·rintro σ H2 ⟨⟨v2,v3,rfl⟩,s3,h3,L⟩
    refine ⟨⟨_,_,_,rfl⟩,s3,?_⟩
    rw[cG hrr,List.flatMap_append]
    have e1:([r].flatMap fun r=>[false,true].flatMap (eD m l r))=([false,true].take ([V.int 0,V.int 1]:List V).length).flatMap (eD m l r):=by
     show _ ++ []=_
     rw[List.append_nil]
     rfl
    rw[e1]
    exact L
  ·rintro σ H1 ⟨⟨v1,v2,v3,rfl⟩,s1,h1⟩
   rw[List.length_map,hall.length,List.take_length,←uH] at h1
   obtain ⟨as',q1,q2⟩:=h1
   exact cS (aA rfl) (k t H1 s1 ht ⟨as',q1,q2.imp fun _ _ ⟨ll,cs,hz,_⟩=>⟨ll,cs,hz⟩⟩)
end
def gN (ks:rD):List (fJ×V):=ks.map fun x=>(Sum.inl (x.1:Int),V.int (x.2:Int))
theorem Ix (a b:Nat):decide ((Sum.inl (a:Int):fJ)=Sum.inl (b:Int))=(a == b):=by
 rw[Wx,Bool.eq_iff_iff,beq_iff_eq,beq_iff_eq]
 omega
theorem cM:∀ (ks:rD) (j:Nat),lD (gN ks) (Sum.inl (j:Int))=(look ks j).map fun (n:Nat)=>V.int (n:Int)
 | [],j=>rfl
 | x :: ks,j=>by
  have ih:=cM ks j
  unfold lD look at ih ⊢
  show ((((Sum.inl (x.1:Int):fJ),V.int (x.2:Int)) :: gN ks).find? _).map _=_
  rw[List.find?_cons,List.find?_cons,Ix]
  cases x.1 == j with
  | true=>rfl
  | false=>exact ih
theorem Sa (ks:rD) (j v:Nat):pY (gN ks) (Sum.inl (j:Int)) (.int (v:Int))=gN (put ks j v):=by
 have e:((gN ks).any fun kv=>decide (kv.1=Sum.inl (j:Int)))=ks.any fun x=>x.1 == j:=by
  unfold gN
  rw[List.any_map]
  congr 1
  funext x
  exact Ix x.1 j
 unfold pY put
 rw[e]
 by_cases h:(ks.any fun x=>x.1 == j)=true
 ·rw[if_pos h,if_pos h]
  unfold gN
  rw[List.map_map,List.map_map]
  apply List.map_congr_left
  intro x _
  show (if ((Sum.inl (x.1:Int):fJ)=Sum.inl (j:Int)) then _ else _)=_
  by_cases q:x.1=j
  ·rw[if_pos (by rw[q])]
   show _=((Sum.inl (((if x.1=j then (x.1,v) else x).1:Nat):Int):fJ),V.int (((if x.1=j then (x.1,v) else x).2:Nat):Int))
   rw[if_pos q]
  ·rw[if_neg (fun z=>q (by injection z with z;omega))]
   show _=((Sum.inl (((if x.1=j then (x.1,v) else x).1:Nat):Int):fJ),V.int (((if x.1=j then (x.1,v) else x).2:Nat):Int))
   rw[if_neg q]
 ·rw[if_neg h,if_neg h]
  unfold gN
  rw[List.map_append]
  rfl
def zJ (A:Ad):Sp:=fun vs H Q _=>∃ (l:Addr) (m:Net) (ss:List pB) (js:List Nat) (a t0 T:Nat),vs=[.ref l,.int a,.int t0]∧LSt A H m l ss∧Oi ss (Vbmiai.arrives m) js a t0 T ∧
 ∀ d ks H',Same H H'→H d=none→H' d=some (.dK (gN ks))→Run ss (Vbmiai.arrives m) js a t0 T ks→Good ss (Vbmiai.arrives m) a t0 (look ks)→Q (.ref d) H'
def kN (m:Net) (ks:rD) (j k:Nat) (s:pB):Bool:=s.to == j && (look ks s.from_).any fun u=>Vbmiai.arrives m s u == k
def Jy (A:Ad):Sp:=fun vs H Q _=>∃ (l d:Addr) (m:Net) (ss:List pB) (as:List Addr) (ks:rD) (j k:Nat),vs=[.ref l,.ref d,.int j]∧H l=some (.lst (as.map V.ref))∧All2 (fun a s=>StAt A H m a s) as ss∧H d=some (.dK (gN ks))∧look ks j=some k ∧
 (∀ (s:pB) (a:Addr) (i:Nat),ss.find? (kN m ks j k)=some s→as[i]? = some a→ss[i]? = some s→Q (.ref a) H)∧(ss.find? (kN m ks j k)=none→Q .non H)
inductive Bk (m:Net) (ss:List pB) (ks:rD) (a:Nat):Nat→List pB→Prop
 | here:Bk m ss ks a a []
 | step {j k:Nat}{s:pB}{r:List pB}:j≠a→look ks j=some k→ss.find? (kN m ks j k)=some s→Bk m ss ks a s.from_ r→Bk m ss ks a j (s :: r)
def Dv (A:Ad):Sp:=fun vs H Q _=>∃ (l d:Addr) (m:Net) (ss:List pB) (as:List Addr) (ks:rD) (a b:Nat) (r:List pB),vs=[.ref l,.ref d,.int a,.int b]∧H l=some (.lst (as.map V.ref))∧All2 (fun a s=>StAt A H m a s) as ss∧H d=some (.dK (gN ks))∧Bk m ss ks a b r∧r.length≤10 ∧
 ∀ (x:Addr) (H':Hp) (bs:List Addr),Same H H'→H x=none→H' x=some (.lst (bs.map V.ref))→All2 (fun b s=>∃ i:Nat,as[i]? = some b∧ss[i]? = some s) bs r.reverse→Q (.ref x) H'
theorem cy {σ:L2.St}{H:Hp}{K:PySem.W.Frag}{to:TE}{l:Addr}{xs:List V}{Q:VK} (ho:Ev to σ H (.ref l)) (h:H l=some (.lst xs)) (q:Q .non (cA H l (.lst xs.reverse))):jw K "list" Mi to σ H Q:=ho _ ⟨.inl ⟨rfl,_,SqL.of h⟩,l,xs,rfl,rfl,h,q⟩
theorem Wu {σ:L2.St}{H:Hp}{D:jB}{s2:TS}{v:V}{tv td ty:TE}{a:Addr}{kvs:List (fJ×V)}{i:Int} (hv:Ev tv σ H v) (hd:Ev td σ H (.ref a)) (hy:Ev ty σ H (.int i)) (h:H a=some (.dK kvs)) (hl:kvs.length<sizeLine) (q:s2 D σ (cA H a (.dK (pY kvs (Sum.inl i) v)))):pC (Rh td ty tv) s2 D σ H:=ip (D:={ D with nx:=s2 D }) hv hd hy h hl q
theorem wD {σ:L2.St}{H:Hp}{D:jB}{c:TT}{tb s2:TS} (W:Nat→L2.St→Hp→Prop) {n:Nat} (h0:W n σ H)
  (hs:∀ m σ H,W m σ H→∃ b,EvT c σ H b∧(b=true→tb ⟨fun σ' H'=>∃ m',m'<m∧W m' σ' H',D.rt,s2 D,fun σ' H'=>∃ m',m'<m∧W m' σ' H'⟩ σ H)∧(b=false→s2 D σ H)):pC (Xl c tb) s2 D σ H:=by
 refine ⟨W,⟨n,h0⟩,?_⟩
 intro m σ H p
 obtain ⟨b,e,h1,h2⟩:=hs m σ H p
 refine e _ ?_
 cases b with
 | true=>exact ⟨_,fun σ' H' q=>q,h1 rfl⟩
 | false=>exact h2 rfl
section
variable {P:Program}{w:World}{K:PySem.W.Frag}{mg:Str→Option Value}{base:Heap}{A:Ad}
theorem Ko {f:Addr}{fd:FuncData} (T:Txt P w K mg A) (D:Dn K mg "can_begin" rZ ["step","minute"] f fd):bO P w K mg base eC 1 f fd ["step","minute"] (Kx A):=by
 have nd:=sc_can_begin.nd
 refine D.fn.ok sc_can_begin (fun vs H Q E h=>?_) (fun cdv Ar outer s H vs Q E hr h=>?_)
 ·obtain ⟨a,m,s0,t,rfl,_⟩:=h
  rfl
 ·obtain ⟨a,m,s0,t,rfl,⟨l,cs,S⟩,k⟩:=h
  refine ⟨_,(aE (aK (bU (On rfl) (by rfl) T.Wi Os (aB (nM rfl nd (cH (aI (pv 0) rfl)) (blk (own:=[("closing",2)])) (fun _ _ _ _ _=>by exact (bV (i:=2) nd rfl (Or.inl rfl))) (fun _ _ _ _ _=>by exact iI) (fun _ _ _ _ _=>by exact (lm (nR fX (cO eR (pv 1) (lJ (K':=K) rfl (pv 0) rfl)) (lJ (K':=K) rfl (pv 2) rfl) (bD _)) (Ol (nR fX (lJ (K':=K) rfl (pv 2) rfl) (pv 1) (bD _)))))) aD)))),?_⟩
  obtain ⟨dx,ho⟩:=S.ob
  obtain ⟨as,hl,hall⟩:=S.cl
  refine bP (Gw (cq (zs:=cs) (fun _=>true) (fun _ c=>.bl (decide (t + s0.long≤c.lo) || decide (c.hi≤t))) (aH (aA rfl) ho T.dZ.cl T.lB pS) (SqL.of hl) (by rw[List.length_map];exact hall.length.symm) (by rw[List.length_map,hall.length];exact cE (Nat.le_trans S.ln (by decide))) (fun _=>rfl) (fun i x z hi hz H' sm=>⟨lG,fun _=>?_⟩) (fun D hD=>?_)))
  ·obtain ⟨b,hb,rfl⟩:=bF hi
   obtain ⟨z',hz',dx',hob⟩:=hall.get hb
   rw[hz] at hz'
   cases hz'
   have hob:=sm _ _ hob
   have ho:=sm _ _ ho
   refine (lv (bH (bH (aA rfl) (aH (aA rfl) ho T.dZ.cl T.gC gL)) (aH (aA rfl) hob T.dC.cl T.hZ iG)) (fun _=>bH (aH (aA rfl) hob T.dC.cl T.iA iH) (aA rfl))).to ?_
   show V.bl (decide ((t:Int) + (s0.long:Int)≤(z.lo:Int)) || decide ((z.hi:Int)≤(t:Int)))=_
   congr 2
   ·rw[←Int.natCast_add]
    exact jY
   ·exact jY
  ·rw[jH _ _ _ _ (by rw[List.length_map];exact hall.length.symm),lZ]
   refine ⟨D,cs.map fun c=>(decide (t + s0.long≤c.lo) || decide (c.hi≤t)),rfl,SqL.of (by rw[aF,List.map_map];rfl),?_⟩
   rw[all_map,bz S]
   exact k _ (bN hD)
theorem mH {f:Addr}{fd:FuncData} (T:Txt P w K mg A) (D:Dn K mg "first_begin" oM ["step","minute"] f fd):bO P w K mg base eC 1 f fd ["step","minute"] (Eo A):=by
 have nd:=sc_first_begin.nd
 refine D.fn.ok sc_first_begin (fun vs H Q E h=>?_) (fun cdv Ar outer s H vs Q E hr h=>?_)
 ·obtain ⟨a,m,s0,t,rfl,_⟩:=h
  rfl
 ·obtain ⟨a,m,s0,t,rfl,⟨l,cs,S⟩,k⟩:=h
  refine ⟨_,(aC (aR (i:=2) nd rfl (Or.inl rfl) (pv 1)) (aC (eK PassesOwn.never rfl (cH (aI (pv 0) rfl)) (bV (i:=3) nd rfl (Or.inl rfl)) (aE (bJ (PW.pt (cU (aY pD (cO eR (pv 2) (aI (pv 0) rfl)) (aI (pv 3) rfl) (bD _)) (eL (aY uM (pv 2) (aI (pv 3) rfl) (bD _))))) (aE (aR (i:=2) nd rfl (Or.inl rfl) (aI (pv 3) rfl))) aU))) (aE (aK (pv 2))))),?_⟩
  obtain ⟨dx,ho⟩:=S.ob
  obtain ⟨as,hl,hall⟩:=S.cl
  refine cC (aA rfl) ?_
  refine (iL (aH (aA rfl) ho T.dZ.cl T.lB pS) (SqL.of hl) (fun i σ H'=>(∃ v:Option V,σ=[some (.ref a),some (.int t),some (.int (Fj s0.long (cs.take i) t)),v])∧H'=H) ⟨⟨_,rfl⟩,rfl⟩ (fun i σ H' _ h=>by rw[h.2];exact SqL.of hl) ?_ ?_)
  ·rintro i y σ H' hi ⟨⟨v,rfl⟩,rfl⟩
   obtain ⟨b,hb,rfl⟩:=bF hi
   obtain ⟨c,hc,dx',hob⟩:=hall.get hb
   have e0:Fj s0.long (cs.take (i + 1)) t=Gx s0.long (Fj s0.long (cs.take i) t) c:=by
    rw[cG hc]
    unfold Fj
    rw[List.foldl_append]
    rfl
   generalize Fj s0.long (cs.take i) t=bg at e0 ⊢
   refine lS (dA (aO (bH (bH (aA rfl) (aH (aA rfl) ho T.dZ.cl T.gC gL)) (aH (aA rfl) hob T.dC.cl T.hZ iG))) (fun _=>aO (bH (aA rfl) (aH (aA rfl) hob T.dC.cl T.iA iH)))) (fun e=>?_) (fun e=>?_)
   ·refine Gu (aH (aA rfl) hob T.dC.cl T.iA iH) ⟨⟨some (.ref b),?_⟩,rfl⟩
    rw[e0]
    rw[Bool.and_eq_true,decide_eq_true_iff,decide_eq_true_iff] at e
    unfold Gx
    rw[if_pos (by omega)]
    rfl
   ·refine ⟨⟨some (.ref b),?_⟩,rfl⟩
    rw[e0]
    unfold Gx
    rw[if_neg]
    ·rfl
    ·rintro ⟨h1,h2⟩
     rw[Bool.and_eq_false_iff,decide_eq_false_iff_not,decide_eq_false_iff_not] at e
     omega
  ·rintro σ H' ⟨⟨v,rfl⟩,rfl⟩
   rw[List.length_map,hall.length,List.take_length,Tc S]
   exact cS (aA rfl) k
theorem Dc {f:Addr}{fd:FuncData} (T:Txt P w K mg A) (D:Dn K mg "arrival" yE ["step","minute"] f fd):bO P w K mg base eC 2 f fd ["step","minute"] (Qe A):=by
 obtain ⟨af_first_begin,fd_first_begin,D_first_begin⟩:=T.oY
 have G_first_begin:=mH (base:=base) T D_first_begin
 have nd:=sc_arrival.nd
 refine D.fn.ok sc_arrival (fun vs H Q E h=>?_) (fun cdv Ar outer s H vs Q E hr h=>?_)
 ·obtain ⟨a,m,s0,t,rfl,_⟩:=h
  rfl
 ·obtain ⟨a,m,s0,t,rfl,S,k⟩:=h
  refine ⟨_,(aE (aK (cO eR (aG G_first_begin (hr.mono (by decide)) rfl D_first_begin.mg D_first_begin.fn.kp D_first_begin.bi .nil aN (aB (pv 0) (aB (pv 1) aD))) (aI (pv 0) rfl)))),?_⟩
  obtain ⟨l,cs,S'⟩:=id S
  obtain ⟨dx,ho⟩:=S'.ob
  refine cS ((bH (aZ (bS (aA rfl) (aA rfl)) fun Q q=>⟨a,m,s0,t,rfl,S,q⟩) (aH (aA rfl) ho T.dZ.cl T.gC gL)).to ?_) k
  show V.int ((Vbmiai.begins m s0.road t s0.long:Int) + (s0.long:Int))=V.int ((Vbmiai.begins m s0.road t s0.long + s0.long:Nat):Int)
  rw[Int.natCast_add]
theorem dM {f:Addr}{fd:FuncData} (T:Txt P w K mg A) (D:Dn K mg "earliest_minutes" iV ["steps","start","minute"] f fd):bO P w K mg base eC 3 f fd ["steps","start","minute"] (zJ A):=by
 obtain ⟨af_arrival,fd_arrival,D_arrival⟩:=T.Ig
 have G_arrival:=Dc (base:=base) T D_arrival
 have nd:=sc_earliest_minutes.nd
 refine D.fn.ok sc_earliest_minutes (fun vs H Q E h=>?_) (fun cdv Ar outer s H vs Q E hr h=>?_)
 ·obtain ⟨l,m,ss,js,a,t0,T',rfl,_⟩:=h
  rfl
 ·obtain ⟨l,m,ss,js,a,t0,T',rfl,L,C,k⟩:=h
  have hu:=nN hr
  refine ⟨_,(aC (aR (i:=3) nd rfl (Or.inl rfl) (Rk (Mg (pv 1) (pv 2) Rq) rfl rfl (by simp) (by decide))) (aC (aR (i:=4) nd rfl (Or.inl rfl) Wg) (aC (rQ PassesOwn.never (bK (pv 4)) (aC (aR (i:=4) nd rfl (Or.inl rfl) Wg) (aE (eK PassesOwn.never rfl (cH (pv 0)) (bV (i:=5) nd rfl (Or.inl rfl)) (aE (bJ (qC (Om hu (aI (pv 5) rfl) (pv 3))) (aC (aR (i:=6) nd rfl (Or.inl rfl) (aG G_arrival (hr.mono (by decide)) rfl D_arrival.mg D_arrival.fn.kp D_arrival.bi .nil aN (aB (pv 5) (aB (gQ hu (pv 3) (aI (pv 5) rfl) (fun _ _=>rfl)) aD)))) (aE (bJ (PW.pt (yZ (qC (lO hu (aI (pv 5) rfl) (pv 3))) (vC (aY uM (pv 6) (gQ hu (pv 3) (aI (pv 5) rfl) (fun _ _=>rfl)) (bD _))))) (aC (Rn hu (pv 3) (aI (pv 5) rfl) (pv 6) rfl) (aE (aR (i:=4) nd rfl (Or.inl rfl) Wg))) aU))) aU)))))) (aE (aK (pv 3)))))),?_⟩
  obtain ⟨as,hl,hall⟩:=L
  refine bZ (fun d hd=>?_)
  refine (aA rfl) _ ((aA rfl) _ ⟨aF,[(Sum.inl (a:Int),.int (t0:Int))],rfl,by show 1≤15;decide,?_⟩)
  rw[dN]
  have e0:vA [] [((Sum.inl (a:Int):fJ),V.int (t0:Int))]=gN [(a,t0)]:=rfl
  rw[e0]
  refine cC aL ?_
  have hdl:d≠l:=(aQ hl hd).symm
  refine wD (fun n σ H'=>∃ (c:Bool) (v1 v2:Option V) (ks:rD),n=2 * cx js T' ks + (if c=true then 1 else 0)∧σ=[some (.ref l),some (.int a),some (.int t0),some (.ref d),some (.bl c),v1,v2]∧Same H H'∧H' d=some (.dK (gN ks))∧Run ss (Vbmiai.arrives m) js a t0 T' ks∧(c=false→∀ s ∈ ss,∀ u,look ks s.from_=some u→∃ v,look ks s.to=some v∧v≤Vbmiai.arrives m s u))
   ⟨true,none,none,[(a,t0)],rfl,rfl,bN hd,aF,Run.first C,fun z=>by cases z⟩ ?_
  rintro n σ H1 ⟨c,v1,v2,ks,rfl,rfl,s1,h1,R,hc⟩
  refine ⟨c,bR (aA rfl),fun ec=>?_,fun ec=>?_⟩
  rotate_left
  ·exact cS (aA rfl) (k d ks H1 s1 hd h1 R (R.good C (hc ec)))
  subst ec
  refine cC aL ?_
  refine Wy (aA rfl) (SqL.of (s1 _ _ hl)) (fun i σ H'=>∃ (c:Bool) (v1 v2:Option V) (ks':rD),σ=[some (.ref l),some (.int a),some (.int t0),some (.ref d),some (.bl c),v1,v2]∧Same H H'∧H' d=some (.dK (gN ks'))∧Run ss (Vbmiai.arrives m) js a t0 T' ks'∧(c=true→cx js T' ks'<cx js T' ks)∧(c=false→ks'=ks∧∀ s ∈ ss.take i,∀ u,look ks s.from_=some u→∃ v,look ks s.to=some v∧v≤Vbmiai.arrives m s u))
   ⟨false,v1,v2,ks,rfl,s1,h1,R,(fun z=>by cases z),fun _=>⟨rfl,fun s hs=>by cases hs⟩⟩ (fun i σ H' _ h=>by obtain ⟨_,_,_,_,_,s2,_⟩:=h;exact SqL.of (s2 _ _ hl)) ?_ ?_
  ·rintro i y σ H2 hi ⟨c,w1,w2,ks',rfl,s2,h2,R2,hc1,hc2⟩
   obtain ⟨b,hb,rfl⟩:=bF hi
   obtain ⟨st,hst,S0⟩:=hall.get hb
   have hsm:=List.mem_of_getElem? hst
   have S2:=S0.same s2
   obtain ⟨ll,cs,S'⟩:=id S2
   obtain ⟨dx,ho⟩:=S'.ob
   refine lS (bR ((Ir (aH (aA rfl) ho T.dZ.cl T.fS fT) (aA rfl) h2).to (by rw[cM]))) (fun e=>?_) (fun e=>?_)
   ·obtain ⟨u,hu⟩:∃ u,look ks' st.from_=some u:=by
     cases q:look ks' st.from_ with
     | none=>
      rw[q] at e
      cases e
     | some u=>exact ⟨u,rfl⟩
    refine cC (aZ (bS (aA rfl) (gP (aA rfl) (aH (aA rfl) ho T.dZ.cl T.fS fT) h2 (by rw[cM,hu];rfl))) fun Q q=>⟨b,m,st,u,rfl,S2,q⟩) ?_
    have take:(∀ v,look ks' st.to=some v→Vbmiai.arrives m st u<v)→∀ {DR:VK}{DB DC:L2.St→Hp→Prop},pC (Rh (lR 3) (Bn K (lR 5) "end") (lR 6)) (Sr (tC (.bl true)) (jC 4)) ⟨fun σ H'=>∃ (c:Bool) (v1 v2:Option V) (ks':rD),σ=[some (.ref l),some (.int a),some (.int t0),some (.ref d),some (.bl c),v1,v2]∧Same H H'∧H' d=some (.dK (gN ks'))∧Run ss (Vbmiai.arrives m) js a t0 T' ks'∧(c=true→cx js T' ks'<cx js T' ks)∧(c=false→ks'=ks∧∀ s ∈ ss.take (i + 1),∀ u,look ks s.from_=some u→∃ v,look ks s.to=some v∧v≤Vbmiai.arrives m s u),DR,DB,DC⟩ [some (.ref l),some (.int a),some (.int t0),some (.ref d),some (.bl c),some (.ref b),some (.int (Vbmiai.arrives m st u))] H2:=by
     intro hb' DR DB DC
     have h10:=R2.keys C
     refine Wu (aA rfl) (aA rfl) (aH (aA rfl) ho T.dZ.cl T.iO jA) h2 (by unfold gN;rw[List.length_map];exact cE (Nat.le_trans h10 (by decide))) ?_
     rw[Sa]
     refine Gu aL ⟨true,some (.ref b),some (.int (Vbmiai.arrives m st u)),put ks' st.to (Vbmiai.arrives m st u),rfl,s2.over hd,aF,R2.step C hsm hu hb',fun _=>?_,fun z=>by cases z⟩
     have f1:=R2.falls C hsm hu hb'
     cases c with
     | true=>
      have:=hc1 rfl
      omega
     | false=>
      obtain ⟨z,_⟩:=hc2 rfl
      rw[z] at f1 ⊢
      exact f1
    cases q:look ks' st.to with
    | none=>
     refine lS (b:=true) ((xO (c:=true) (bR (gA (aH (aA rfl) ho T.dZ.cl T.iO jA) (aA rfl) h2)) (fun z=>?_)).to ?_) (fun e=>?_) (fun e=>?_)
     ·rw[cM,q] at z
      cases z
     ·rw[cM,q]
      rfl
     ·exact take fun v hv=>by rw[q] at hv;cases hv
     ·cases e
    | some v=>
     refine lS (b:=decide (Vbmiai.arrives m st u<v)) ((xO (bR (gA (aH (aA rfl) ho T.dZ.cl T.iO jA) (aA rfl) h2)) (fun _=>aO (bH (aA rfl) (gP (aA rfl) (aH (aA rfl) ho T.dZ.cl T.iO jA) h2 (by rw[cM,q];rfl))))).to ?_) (fun e=>?_) (fun e=>?_)
     ·rw[cM,q]
      show (false || decide ((Vbmiai.arrives m st u:Int)<(v:Int)))=_
      rw[Bool.false_or,Bool.eq_iff_iff,decide_eq_true_iff,decide_eq_true_iff]
      omega
     ·exact take fun v' hv=>by
       rw[q] at hv
       cases hv
       exact of_decide_eq_true e
     ·refine ⟨c,some (.ref b),_,ks',rfl,s2,h2,R2,hc1,fun z=>⟨(hc2 z).1,fun s hs u' hu'=>?_⟩⟩
      rw[cG hst] at hs
      rcases List.mem_append.mp hs with qq | qq
      ·exact (hc2 z).2 s qq u' hu'
      ·rw[List.mem_singleton.mp qq,←(hc2 z).1] at hu' ⊢
       rw[hu] at hu'
       cases hu'
       exact ⟨v,q,by have:=of_decide_eq_false e;omega⟩
   ·refine ⟨c,some (.ref b),w2,ks',rfl,s2,h2,R2,hc1,fun z=>⟨(hc2 z).1,fun s hs u hu=>?_⟩⟩
    rw[cG hst] at hs
    rcases List.mem_append.mp hs with q | q
    ·exact (hc2 z).2 s q u hu
    ·rw[List.mem_singleton.mp q,←(hc2 z).1] at hu
     rw[hu] at e
     cases e
  ·rintro σ H2 ⟨c,w1,w2,ks',rfl,s2,h2,R2,hc1,hc2⟩
   refine ⟨2 * cx js T' ks' + (if c=true then 1 else 0),?_,c,w1,w2,ks',rfl,rfl,s2,h2,R2,fun z=>?_⟩
   ·cases c with
    | true=>
     have:=hc1 rfl
     simp only[if_true]
     omega
    | false=>
     rw[(hc2 rfl).1]
     simp
   ·obtain ⟨e,q⟩:=hc2 z
    subst e
    rw[List.length_map,hall.length,List.take_length] at q
    exact q
theorem Kq {f:Addr}{fd:FuncData} (T:Txt P w K mg A) (D:Dn K mg "last_step" sB ["steps","earliest","place"] f fd):bO P w K mg base eC 3 f fd ["steps","earliest","place"] (Jy A):=by
 obtain ⟨af_arrival,fd_arrival,D_arrival⟩:=T.Ig
 have G_arrival:=Dc (base:=base) T D_arrival
 have nd:=sc_last_step.nd
 refine D.fn.ok sc_last_step (fun vs H Q E h=>?_) (fun cdv Ar outer s H vs Q E hr h=>?_)
 ·obtain ⟨l,d,m,ss,as,ks,j,kk,rfl,_⟩:=h
  rfl
 ·obtain ⟨l,d,m,ss,as,ks,j,kk,rfl,hl,hall,hd,hk,k1,k2⟩:=h
  have hu:=nN hr
  refine ⟨_,(aC (eK PassesOwn.never rfl (cH (pv 0)) (bV (i:=3) nd rfl (Or.inl rfl)) (aE (bJ (PW.pt (cU (aY fW (aI (pv 3) rfl) (pv 2) (bD _)) (eL (qC (Om hu (aI (pv 3) rfl) (pv 1)))))) (aE (bJ (aY fW (aG G_arrival (hr.mono (by decide)) rfl D_arrival.mg D_arrival.fn.kp D_arrival.bi .nil aN (aB (pv 3) (aB (gQ hu (pv 1) (aI (pv 3) rfl) (fun _ _=>rfl)) aD))) (gQ hu (pv 1) (pv 2) (fun _ _=>rfl)) (bD _)) (aE (aK (pv 3))) aU)) aU))) (aE (aK jQ))),?_⟩
  refine (iL (aA rfl) (SqL.of hl) (fun i σ H'=>(∃ v:Option V,σ=[some (.ref l),some (.ref d),some (.int j),v])∧H'=H∧(ss.take i).find? (kN m ks j kk)=none) ⟨⟨_,rfl⟩,rfl,rfl⟩ (fun i σ H' _ h=>by rw[h.2.1];exact SqL.of hl) ?_ ?_)
  ·rintro i y σ H' hi ⟨⟨v,rfl⟩,rfl,hn⟩
   obtain ⟨b,hb,rfl⟩:=bF hi
   obtain ⟨st,hst,S⟩:=hall.get hb
   obtain ⟨ll,cs,S'⟩:=id S
   obtain ⟨dx,ho⟩:=S'.ob
   have no:kN m ks j kk st=false→(∃ v:Option V,([some (.ref l),some (.ref d),some (.int j),some (.ref b)]:L2.St)=[some (.ref l),some (.ref d),some (.int j),v])∧H'=H'∧(ss.take (i + 1)).find? (kN m ks j kk)=none:=fun e=>⟨⟨_,rfl⟩,rfl,jS hst hn e⟩
   refine lS (dA ((aO (fA (aH (aA rfl) ho T.dZ.cl T.iO jA) (aA rfl))).to fE) (fun _=>bR ((Ir (aH (aA rfl) ho T.dZ.cl T.fS fT) (aA rfl) hd).to (by rw[cM])))) (fun e=>?_) (fun e=>?_)
   ·rw[Bool.and_eq_true] at e
    obtain ⟨u,hu⟩:∃ u,look ks st.from_=some u:=by
     cases q:look ks st.from_ with
     | none=>
      rw[q] at e
      exact absurd e.2 (by simp)
     | some u=>exact ⟨u,rfl⟩
    have e2:kN m ks j kk st=(Vbmiai.arrives m st u == kk):=by
     unfold kN
     rw[e.1,hu]
     rfl
    refine lS ((aO (fA (aZ (bS (aA rfl) (gP (aA rfl) (aH (aA rfl) ho T.dZ.cl T.fS fT) hd (by rw[cM,hu];rfl))) fun Q q=>⟨b,m,st,u,rfl,S,q⟩) (gP (aA rfl) (aA rfl) hd (by rw[cM,hk];rfl)))).to fE) (fun e3=>?_) (fun e3=>?_)
    ·exact cS (aA rfl) (k1 st b i (nQ hst hn (by rw[e2];exact e3)) hb hst)
    ·exact no (by rw[e2];exact e3)
   ·refine no ?_
    unfold kN
    rw[Bool.and_eq_false_iff] at e ⊢
    rcases e with e | e
    ·exact .inl e
    ·right
     cases q:look ks st.from_ with
     | none=>rfl
     | some u=>
      rw[q] at e
      cases e
  ·rintro σ H' ⟨⟨v,rfl⟩,rfl,hn⟩
   exact cS aL (k2 (pO hn (by rw[List.length_map];exact hall.length)))
theorem Ef {f:Addr}{fd:FuncData} (T:Txt P w K mg A) (D:Dn K mg "route_steps" oK ["steps","earliest","start","goal"] f fd):bO P w K mg base eC 4 f fd ["steps","earliest","start","goal"] (Dv A):=by
 obtain ⟨af_last_step,fd_last_step,D_last_step⟩:=T.Oc
 have G_last_step:=Kq (base:=base) T D_last_step
 have nd:=sc_route_steps.nd
 refine D.fn.ok sc_route_steps (fun vs H Q E h=>?_) (fun cdv Ar outer s H vs Q E hr h=>?_)
 ·obtain ⟨l,d,m,ss,as,ks,a,b,r,rfl,_⟩:=h
  rfl
 ·obtain ⟨l,d,m,ss,as,ks,a,b,r,rfl,hl,hall,hd,B,h10,k⟩:=h
  refine ⟨_,(aC (aR (i:=4) nd rfl (Or.inl rfl) (bE aD)) (aC (aR (i:=5) nd rfl (Or.inl rfl) (pv 3)) (aC (rQ PassesOwn.never (aY Br (pv 5) (pv 2) (bD _)) (aC (aR (i:=6) nd rfl (Or.inl rfl) (aG G_last_step (hr.mono (by decide)) rfl D_last_step.mg D_last_step.fn.kp D_last_step.bi .nil aN (aB (pv 0) (aB (pv 1) (aB (pv 5) aD))))) (aC (cI (fG PySem.F.plainAttrs_list PySem.F.slot_list_append PySem.F.type_list_append dB (pv 4) (aB (pv 6) aD))) (aE (aR (i:=5) nd rfl (Or.inl rfl) (aI (pv 6) rfl)))))) (aC (cI (Op PySem.F.plainAttrs_list PySem.F.slot_list_reverse PySem.F.type_list_reverse Dm (pv 4))) (aE (aK (pv 4))))))),?_⟩
  refine bZ (dI eA (Nat.zero_le _) fun t ht=>?_)
  refine cC (aA rfl) ?_
  refine wD (fun n σ H'=>∃ (j:Nat) (v:Option V) (pre rest:List pB) (bs:List Addr),n=rest.length∧σ=[some (.ref l),some (.ref d),some (.int a),some (.int b),some (.ref t),some (.int j),v]∧Same H H'∧H' t=some (.lst (bs.map V.ref))∧All2 (fun b s=>∃ i:Nat,as[i]? = some b∧ss[i]? = some s) bs pre∧r=pre ++ rest∧Bk m ss ks a j rest)
   ⟨b,none,[],r,[],rfl,rfl,bN ht,aF,trivial,rfl,B⟩ ?_
  rintro n σ H1 ⟨j,v,pre,rest,bs,rfl,rfl,s1,q1,q2,er,B1⟩
  refine ⟨!(j == a),(aO (yY (aA rfl) (aA rfl))).to (by rw[fE]),fun e=>?_,fun e=>?_⟩
  ·cases B1 with
   | here=>simp at e
   | @step _ kk s rest' hj hk hf B2=>
    refine bZ (bQ (bA (aA rfl) (bS (aA rfl) (aA rfl))) ⟨l,d,m,ss,as,ks,j,kk,rfl,s1 _ _ hl,hall.imp fun _ _ z=>z.same s1,s1 _ _ hd,hk,fun s' ad i h1 h2 h3=>?_,fun h1=>?_⟩)
    ·rw[hf] at h1
     cases h1
     obtain ⟨s'',h3',S⟩:=hall.get h2
     rw[h3] at h3'
     cases h3'
     obtain ⟨ll,cs,S'⟩:=id S
     obtain ⟨dx,ho⟩:=S'.ob
     have hlt:bs.length≤10:=by
      have:=q2.length
      rw[er,List.length_append] at h10
      omega
     refine iB (fN (aA rfl) (aA rfl) q1 (by rw[List.length_map];exact cE (Nat.le_trans hlt (by decide))) ?_)
     have s2:Same H (cA H1 t (.lst (bs.map V.ref ++ [V.ref ad]))):=s1.over ht
     refine Gu (aH (aA rfl) (s2 _ _ ho) T.dZ.cl T.fS fT) ⟨rest'.length,by simp,s.from_,some (.ref ad),pre ++ [s],rest',bs ++ [ad],rfl,rfl,s2,?_,q2.snoc ⟨i,h2,h3⟩,?_,B2⟩
     ·rw[aF,List.map_append]
      rfl
     ·rw[er,List.append_assoc]
      rfl
    ·rw[hf] at h1
     cases h1
  ·cases B1 with
   | step hj _ _ _=>
    have:(j == a)=true:=by simpa using e
    exact absurd (beq_iff_eq.mp this) hj
   | here=>
    rw[List.append_nil] at er
    subst er
    refine iB (cy (aA rfl) q1 ?_)
    refine cS (aA rfl) (k t _ bs.reverse (s1.over ht) ht ?_ q2.reverse)
    rw[aF,List.map_reverse]
end
theorem sZ (m:Net) (n:Nat) (l:Bool):Vbmiai.stepsOf (Vbmiai.withoutRoad m n) l=(Vbmiai.stepsOf m l).filter fun s=>s.road != n:=by
 rw[uH,uH]
 show (m.roads.filter fun r=>r.number != n).flatMap (fun r=>[false,true].flatMap (eD m l r))=_
 have hw:∀ r:Road,∀ s ∈ [false,true].flatMap (eD m l r),s.road=r.number:=by
  intro r s hs
  obtain ⟨b,_,hb⟩:=List.mem_flatMap.mp hs
  unfold eD at hb
  obtain ⟨k,_,rfl⟩:=List.mem_map.mp hb
  unfold oB
  cases b <;> rfl
 induction m.roads with
 | nil=>rfl
 | cons r rs ih=>
  rw[List.flatMap_cons,List.filter_append,List.filter_cons]
  by_cases e:(r.number != n)=true
  ·rw[if_pos e,List.flatMap_cons,ih]
   congr 1
   symm
   rw[List.filter_eq_self]
   intro s hs
   rw[hw r s hs]
   exact e
  ·rw[if_neg e,ih]
   have:([false,true].flatMap (eD m l r)).filter (fun s=>s.road != n)=[]:=by
    rw[List.filter_eq_nil_iff]
    intro s hs
    rw[hw r s hs]
    exact e
   rw[this,List.nil_append]
theorem Qn {ss ss':List pB}{arr:pB→Nat→Nat}{a t0:Nat}{g g':Nat→Option Nat} (A:cr ss arr) (hs:∀ s ∈ ss',s ∈ ss) (G:Good ss arr a t0 g) (G':Good ss' arr a t0 g'):∀ v j,g' j=some v→(g j).isSome=true:=by
 intro v
 induction v using Nat.strongRecOn with
 | _ v ih=>
  intro j hj
  by_cases e:j=a
  ·rw[e,G.start]
   rfl
  ·obtain ⟨s,hss,e1,u,hu,hau⟩:=G'.told j v e hj
   have lt:u<v:=by
    rw[←hau]
    exact A.pos s (hs s hss) u
   have h1:=ih u lt s.from_ hu
   cases q:g s.from_ with
   | none=>
    rw[q] at h1
    cases h1
   | some w=>
    obtain ⟨x,hx,_⟩:=G.closed s (hs s hss) w q
    rw[←e1,hx]
    rfl
theorem wS {p q:Nat→Bool}:∀ (js:List Nat),(∀ j ∈ js,q j=true→p j=true)→((js.filter q).length<(js.filter p).length ↔ ∃ j ∈ js,p j=true∧q j=false)
 | [],_=>by simp
 | x :: js,h=>by
  have ih:=wS js fun j hj=>h j (List.mem_cons_of_mem _ hj)
  have hx:=h x (by simp)
  have hle:∀ (js:List Nat),(∀ j ∈ js,q j=true→p j=true)→(js.filter q).length≤(js.filter p).length:=by
   intro js
   induction js with
   | nil=>intro _;simp
   | cons y js ih=>
    intro h
    have:=ih fun j hj=>h j (List.mem_cons_of_mem _ hj)
    have hy:=h y (by simp)
    rw[List.filter_cons,List.filter_cons]
    cases e1:q y <;> cases e2:p y <;> simp_all <;> omega
  have hl:=hle js fun j hj=>h j (List.mem_cons_of_mem _ hj)
  rw[List.filter_cons,List.filter_cons]
  cases e1:q x <;> cases e2:p x
  ·simp[ih,e1,e2]
  ·simp[e1,e2]
   omega
  ·rw[e1,e2] at hx
   exact absurd (hx rfl) (by simp)
  ·simp[ih,e1,e2]
theorem Df {m:Net} (W:WF m) {l:Bool}{a:Nat}{g:Nat→Option Nat} (G:qW m l a 0 g) (ha:Vbmiai.hasJunction m a=true):Vbmiai.reached m a l=(m.junctions.map (·.number)).filter fun j=>(g j).isSome:=by
 unfold Vbmiai.reached
 rw[W.times_list G ha,List.filter_map,List.map_map,List.filter_map]
 rfl
theorem lp {m:Net} (W:WF m) {l:Bool}{a n:Nat}{g g':Nat→Option Nat} (G:qW m l a 0 g) (G':qW (Vbmiai.withoutRoad m n) l a 0 g') (ha:Vbmiai.hasJunction m a=true) :
  ((Vbmiai.reached m a l).any fun j=>!(Vbmiai.reached (Vbmiai.withoutRoad m n) a l).contains j)=decide (((m.junctions.map (·.number)).filter fun j=>(g' j).isSome).length<((m.junctions.map (·.number)).filter fun j=>(g j).isSome).length):=by
 have W':=W.without n
 have e1:=Df W G ha
 have e2:=Df W' G' ha
 have e3:(Vbmiai.withoutRoad m n).junctions=m.junctions:=rfl
 rw[e3] at e2
 have sub:∀ s ∈ Vbmiai.stepsOf (Vbmiai.withoutRoad m n) l,s ∈ Vbmiai.stepsOf m l:=by
  intro s hs
  rw[sZ] at hs
  exact (List.mem_filter.mp hs).1
 have mono:=Qn (W.arr l) sub G G'
 rw[e1,e2,Bool.eq_iff_iff,decide_eq_true_iff,wS _ (fun j _ h=>by
  cases q:g' j with
  | none=>
   rw[q] at h
   cases h
  | some v=>exact mono v j q),List.any_eq_true]
 constructor
 ·rintro ⟨j,hj,h⟩
  obtain ⟨h1,h2⟩:=List.mem_filter.mp hj
  refine ⟨j,h1,h2,?_⟩
  rw[Bool.not_eq_true',List.contains_eq_mem,decide_eq_false_iff_not] at h
  cases q:(g' j).isSome with
  | false=>rfl
  | true=>exact absurd (List.mem_filter.mpr ⟨h1,q⟩) h
 ·rintro ⟨j,h1,h2,h3⟩
  refine ⟨j,List.mem_filter.mpr ⟨h1,h2⟩,?_⟩
  rw[Bool.not_eq_true',List.contains_eq_mem,decide_eq_false_iff_not]
  intro h
  rw[(List.mem_filter.mp h).2] at h3
  cases h3
theorem Hc:∀ (n:Nat) (l:List Nat),l.length=2 * n→(Vbmiai.pairsOf l).length=n
 | 0,[],_=>rfl
 | n + 1,a :: b :: r,h=>by
  show (Vbmiai.pairsOf r).length + 1=n + 1
  rw[Hc n r (by simp at h;omega)]
 | 0,_ :: _,h=>by simp at h
 | n + 1,[],h=>by simp at h
 | n + 1,[a],h=>by simp at h;omega
theorem Lx:∀ (l:List Nat) (i:Nat) (x:Nat×Nat),(Vbmiai.pairsOf l)[i]? = some x→l[2 * i]? = some x.1∧l[2 * i + 1]? = some x.2
 | [],_,_,h=>by simp[Vbmiai.pairsOf] at h
 | [_],_,_,h=>by simp[Vbmiai.pairsOf] at h
 | a :: b :: r,0,x,h=>by
  have e:(a,b)=x:=by simpa [Vbmiai.pairsOf] using h
  subst e
  exact ⟨rfl,rfl⟩
 | a :: b :: r,i + 1,x,h=>by
  have h':(Vbmiai.pairsOf r)[i]? = some x:=by simpa [Vbmiai.pairsOf] using h
  obtain ⟨h1,h2⟩:=Lx r i x h'
  have e:2 * (i + 1)=2 * i + 1 + 1:=by omega
  rw[e]
  exact ⟨by simpa using h1,by simpa using h2⟩
theorem pN {α:Type}{l:List α}{i:Nat}{x:α} (h:l[i]? = some x):l.drop i=x :: l.drop (i + 1):=by
 obtain ⟨h1,h2⟩:=List.getElem?_eq_some_iff.mp h
 rw[←h2]
 exact List.drop_eq_getElem_cons h1
def Jr (A:Ad):Sp:=fun vs H Q _=>∃ (l:Addr) (m:Net) (ss:List pB) (rd j:Nat),vs=[.ref l,.int rd,.int j]∧LSt A H m l ss∧(∀ s a,ss.find? (fun s=>s.road == rd && s.from_ == j)=some s→StAt A H m a s→Q (.ref a) H)∧(ss.find? (fun s=>s.road == rd && s.from_ == j)=none→Q .non H)
def gq (A:Ad) (H:Hp) (x:Addr) (o:Except Nat (Nat×Nat)):Prop:=match o with
 | .ok p=>OA H A.Trip (Bu (.int p.1) (.int p.2) (.int (-1))) x
 | .error i=>∃ u v,OA H A.Trip (Bu u v (.int i)) x
def Ej (K:PySem.W.Frag) (A:Ad):Sp:=fun vs H Q _=>∃ (l g:Addr) (m:Net) (lo:Bool) (a t:Nat) (ns:List Nat),vs=[.ref l,.int a,.int t,.ref g]∧LSt A H m l (Vbmiai.stepsOf m lo)∧SqL K H g (nI ns)∧ns.length % 2=0∧ns.length≤60 ∧
 ∀ x H',Same H H'→H x=none→gq A H' x (Vbmiai.travelled m lo 0 a t (Vbmiai.pairsOf ns))→Q (.ref x) H'
def yI (A:Ad):Sp:=fun vs H Q _=>∃ (l:Addr) (m:Net) (ss:List pB) (n:Nat),vs=[.ref l,.int n]∧LSt A H m l ss∧ss.length≤1000∧∀ x H',Same H H'→H x=none→LSt A H' m x (ss.filter fun s=>s.road != n)→Q (.ref x) H'
def Ve (A:Ad):Sp:=fun vs H Q _=>∃ (lr l:Addr) (m:Net) (lo:Bool) (a:Nat),vs=[.ref lr,.ref l,.int a]∧LA H A.Road rF lr m.roads∧LSt A H m l (Vbmiai.stepsOf m lo)∧WF m∧Vbmiai.hasJunction m a=true∧∀ x H',Same H H'→H x=none→H' x=some (.lst (nI (Vbmiai.needed m a lo)))→Q (.ref x) H'
def Nk (A:Ad):Sp:=fun vs H Q _=>∃ (p d:Addr) (m:Net) (ks:rD),vs=[.ref p,.ref d]∧NetIs A H p m∧WF m∧H d=some (.dK (gN ks))∧∀ x H',Same H H'→H x=none→H' x=some (.lst (m.junctions.map fun j=>V.int (jN (look ks j.number))))→Q (.ref x) H'
theorem Hf {m:Net} (W:WF m) (l:Bool):(Vbmiai.stepsOf m l).length≤1000:=by
 have h1:∀ r,([false,true].flatMap (eD m l r)).length≤2:=by
  intro r
  show ((eD m l r false) ++ ((eD m l r true) ++ [])).length≤2
  unfold eD
  cases Vbmiai.minutesOf m r false l <;> cases Vbmiai.minutesOf m r true l <;> simp
 have h2:∀ (l':List Road),(l'.flatMap fun r=>[false,true].flatMap (eD m l r)).length≤2 * l'.length:=by
  intro l'
  induction l' with
  | nil=>simp
  | cons x l' ih=>
   rw[List.flatMap_cons,List.length_append,List.length_cons]
   have:=h1 x
   omega
 rw[uH]
 have:=h2 m.roads
 have:=W.rlen
 omega
theorem tP (m:Net) (lo:Bool) (i j t:Nat) (x:Nat×Nat) (r:List (Nat×Nat)):Vbmiai.travelled m lo i j t (x :: r)=match (Vbmiai.stepsOf m lo).find? fun s=>s.road == x.1 && s.from_ == j with
  | none=>.error i
  | some s=>if t≤x.2∧Vbmiai.isOpen m s.road x.2 s.long=true then Vbmiai.travelled m lo (i + 1) s.to (x.2 + s.long) r else .error i:=by
 rw[Vbmiai.travelled]
 rfl
theorem db {σ:L2.St}{H:Hp}{D:jB}{t:TT}{s1 s2:TS} (h:t σ H fun b H1=>if b=true then s1 D σ H1 else s2 D σ H1):Fk t s1 s2 D σ H:=h
theorem wC {σ:L2.St}{H:Hp}{D:jB}{t:TT}{s1 s2:TS} (h:t σ H fun b H1=>if b=true then s1 { D with nx:=s2 D } σ H1 else s2 D σ H1):pC (Fk t s1 zA) s2 D σ H:=h
section
variable {P:Program}{w:World}{K:PySem.W.Frag}{mg:Str→Option Value}{base:Heap}{A:Ad}
theorem Kh {f:Addr}{fd:FuncData} (T:Txt P w K mg A) (D:Dn K mg "step_from" sG ["steps","road","place"] f fd):bO P w K mg base eC 1 f fd ["steps","road","place"] (Jr A):=by
 have nd:=sc_step_from.nd
 refine D.fn.ok sc_step_from (fun vs H Q E h=>?_) (fun cdv Ar outer s H vs Q E hr h=>?_)
 ·obtain ⟨l,m,ss,rd,j,rfl,_⟩:=h
  rfl
 ·obtain ⟨l,m,ss,rd,j,rfl,L,k1,k2⟩:=h
  refine ⟨_,(aC (eK PassesOwn.never rfl (cH (pv 0)) (bV (i:=3) nd rfl (Or.inl rfl)) (aE (bJ (PW.pt (cU (aY fW (aI (pv 3) rfl) (pv 1) (bD _)) (eL (aY fW (aI (pv 3) rfl) (pv 2) (bD _))))) (aE (aK (pv 3))) aU))) (aE (aK jQ))),?_⟩
  obtain ⟨as,hl,hall⟩:=L
  refine (iL (aA rfl) (SqL.of hl) (fun i σ H'=>(∃ v:Option V,σ=[some (.ref l),some (.int rd),some (.int j),v])∧H'=H∧(ss.take i).find? (fun s=>s.road == rd && s.from_ == j)=none) ⟨⟨_,rfl⟩,rfl,rfl⟩ (fun i σ H' _ h=>by rw[h.2.1];exact SqL.of hl) ?_ ?_)
  ·rintro i y σ H' hi ⟨⟨v,rfl⟩,rfl,hn⟩
   obtain ⟨b,hb,rfl⟩:=bF hi
   obtain ⟨st,hst,S⟩:=hall.get hb
   obtain ⟨ll,cs,S'⟩:=id S
   obtain ⟨dx,ho⟩:=S'.ob
   refine lS (dA ((aO (fA (aH (aA rfl) ho T.dZ.cl T.nW qN) (aA rfl))).to fE) (fun _=>(aO (fA (aH (aA rfl) ho T.dZ.cl T.fS fT) (aA rfl))).to fE)) (fun e=>?_) (fun e=>?_)
   ·exact cS (aA rfl) (k1 st b (nQ hst hn e) S)
   ·exact ⟨⟨_,rfl⟩,rfl,jS hst hn e⟩
  ·rintro σ H' ⟨⟨v,rfl⟩,rfl,hn⟩
   exact cS aL (k2 (pO hn (by rw[List.length_map];exact hall.length)))
theorem Ed {f:Addr}{fd:FuncData} (T:Txt P w K mg A) (D:Dn K mg "follow_trip" oE ["steps","start","minute","numbers"] f fd):bO P w K mg base eC 3 f fd ["steps","start","minute","numbers"] (Ej K A):=by
 obtain ⟨af_Trip,fd_Trip,I_Trip⟩:=T.jg
 have G_Trip:=bt (base:=base) T I_Trip
 obtain ⟨af_can_begin,fd_can_begin,D_can_begin⟩:=T.Ob
 have G_can_begin:=Ko (base:=base) T D_can_begin
 obtain ⟨af_step_from,fd_step_from,D_step_from⟩:=T.Od
 have G_step_from:=Kh (base:=base) T D_step_from
 have nd:=sc_follow_trip.nd
 refine D.fn.ok sc_follow_trip (fun vs H Q E h=>?_) (fun cdv Ar outer s H vs Q E hr h=>?_)
 ·obtain ⟨l,g,m,lo,a,t,ns,rfl,_⟩:=h
  rfl
 ·obtain ⟨l,g,m,lo,a,t,ns,rfl,L,hg,h2,h60,k⟩:=h
  refine ⟨_,(aC (aR (i:=4) nd rfl (Or.inl rfl) (pv 1)) (aC (aR (i:=5) nd rfl (Or.inl rfl) (pv 2)) (aC (eK PassesOwn.never rfl (Te rfl T.cj (aB (cO Sf (bU bG (by rfl) T.eP dL (aB (pv 3) aD)) aM) aD)) (bV (i:=6) nd rfl (Or.inl rfl)) (aC (aR (i:=7) nd rfl (Or.inl rfl) (bX bC (pv 3) (cO eR (cO vD aM (pv 6)) aM) (fun _ _=>rfl))) (aC (aR (i:=8) nd rfl (Or.inl rfl) (aG G_step_from (hr.mono (by decide)) rfl D_step_from.mg D_step_from.fn.kp D_step_from.bi .nil aN (aB (pv 0) (aB (bX bC (pv 3) (cO vD aM (pv 6)) (fun _ _=>rfl)) (aB (pv 4) aD))))) (aC (bJ (PW.pt (yZ (aY Ot (pv 8) jQ (bD _)) (yZ (aY uM (pv 7) (pv 5) (bD _)) (vC (dJ (bK (aG G_can_begin (hr.mono (by decide)) rfl D_can_begin.mg D_can_begin.fn.kp D_can_begin.bi .nil aN (aB (pv 8) (aB (pv 7) aD))))))))) (aE (aK (hC I_Trip.ma G_Trip (hr.mono (by decide)) rfl T.oC.mg I_Trip.bi .nil aN (aB (pv 4) (aB (pv 5) (aB (pv 6) aD)))))) aU) (aC (aR (i:=4) nd rfl (Or.inl rfl) (aI (pv 8) rfl)) (aE (aR (i:=5) nd rfl (Or.inl rfl) (cO eR (pv 7) (aI (pv 8) rfl))))))))) (aE (aK (hC I_Trip.ma G_Trip (hr.mono (by decide)) rfl T.oC.mg I_Trip.bi .nil aN (aB (pv 4) (aB (pv 5) (aB (aW rfl T.Gq) aD))))))))),?_⟩
  refine cC (aA rfl) ?_
  refine cC (aA rfl) ?_
  obtain ⟨n,hn⟩:∃ n,ns.length=2 * n:=⟨ns.length / 2,by omega⟩
  have hpl:=Hc n ns hn
  have hdiv:(((nI ns).length:Nat):Int) / 2=(n:Int):=by
   rw[cJ,hn]
   omega
  refine ((jO (cW (bW (aA rfl)) hg) aL ⟨by decide,by decide⟩).to (congrArg V.int hdiv)) _ ⟨(n:Int),rfl,by omega,by omega,?_⟩
  rw[Int.toNat_natCast]
  refine Vg (fun i σ H'=>i≤n∧(∃ (pl nw:Nat) (v1 v2 v3:Option V),σ=[some (.ref l),some (.int a),some (.int t),some (.ref g),some (.int pl),some (.int nw),v1,v2,v3]∧Vbmiai.travelled m lo 0 a t (Vbmiai.pairsOf ns)=Vbmiai.travelled m lo i pl nw ((Vbmiai.pairsOf ns).drop i))∧Same H H') ⟨Nat.zero_le _,⟨a,t,none,none,none,rfl,rfl⟩,Same.refl H⟩ ?_ ?_
  ·rintro i σ H1 hi ⟨_,⟨pl,nw,v1,v2,v3,rfl,et⟩,s1⟩
   obtain ⟨x,hx⟩:∃ x,(Vbmiai.pairsOf ns)[i]? = some x:=⟨_,List.getElem?_eq_getElem (by rw[hpl];exact hi)⟩
   obtain ⟨hx1,hx2⟩:=Lx ns i x hx
   rw[pN hx] at et
   have g1:=s1.seq hg
   have a1:Gs (nI ns) ((2:Int) * (0 + (i:Int)))=some (.int (x.1:Int)):=cY (j:=2 * i) (by omega) (by unfold nI;rw[List.getElem?_map,hx1];rfl)
   have a2:Gs (nI ns) ((2:Int) * (0 + (i:Int)) + 1)=some (.int (x.2:Int)):=cY (j:=2 * i + 1) (by omega) (by unfold nI;rw[List.getElem?_map,hx2];rfl)
   have fail:∀ (H2:Hp) (σ2:L2.St) {tl:TA}{E:XK}{D:jB},Same H H2→Vbmiai.travelled m lo 0 a t (Vbmiai.pairsOf ns) = .error i→Lk tl σ2 H2 [.int pl,.int nw,.int (0 + (i:Int))]→(∀ v H',Q v H'→D.rt v H')→Ln (Re A.Trip (spNew A.Trip ["place","minute","failed"]) [] E tl) D σ2 H2:=by
    intro H2 σ2 tl E D s2 he hv hD
    refine bP (lW hv rfl fun x dx hx hd=>hD _ _ ?_)
    refine k x _ (s2.trans (cP hx hd)) (s2.free hx) ?_
    rw[he]
    refine ⟨.int pl,.int nw,?_⟩
    rw[Int.zero_add]
    exact jP
   refine cC (bL (aA rfl) (bH (jO aL (aA rfl) (.inl ⟨by decide,by decide⟩)) aL) g1 a2) ?_
   refine bZ (bQ (bA (aA rfl) (bS (bL (aA rfl) (jO aL (aA rfl) (.inl ⟨by decide,by decide⟩)) g1 a1) (aA rfl))) ⟨l,m,_,_,_,rfl,L.same s1,fun s as h1 S=>?_,fun h1=>?_⟩)
   ·obtain ⟨ll,cs,S'⟩:=id S
    obtain ⟨dx,ho⟩:=S'.ob
    rw[tP,h1] at et
    dsimp only at et
    refine wC (((aO (xL (aA rfl) aL)).to (c:=false) rfl) _ (rG ((aO (bH (aA rfl) (aA rfl))) _ (Vy (fun e=>?_) (fun e=>?_)))))
    ·have e':=of_decide_eq_true e
     rw[if_neg (by omega)] at et
     exact iE (fail H1 _ s1 et (bA (aA rfl) (bS (aA rfl) (aA rfl))) fun _ _ q=>q)
    ·have e':nw≤x.2:=by
      have:=of_decide_eq_false (Bool.eq_false_iff.mpr e)
      omega
     refine bQ (bS (aA rfl) (aA rfl)) ⟨as,m,s,x.2,rfl,S,fun H2 s2=>⟨_,rfl,?_⟩⟩
     cases ho2:Vbmiai.isOpen m s.road x.2 s.long with
     | false=>
      rw[if_neg (by rw[ho2];simp)] at et
      exact iE (fail H2 _ (s1.trans s2) et (bA (aA rfl) (bS (aA rfl) (aA rfl))) fun _ _ q=>q)
     | true=>
      rw[if_pos ⟨e',ho2⟩] at et
      refine rG ?_
      have ho':=s2 _ _ ho
      refine cC (aH (aA rfl) ho' T.dZ.cl T.iO jA) ?_
      refine Gu (bH (aA rfl) (aH (aA rfl) ho' T.dZ.cl T.gC gL)) ⟨hi,⟨s.to,x.2 + s.long,_,_,_,rfl,et⟩,s1.trans s2⟩
   ·rw[tP,h1] at et
    dsimp only at et
    exact wC (((aO (xL (aA rfl) aL)).to (c:=true) rfl) _ (iE (iE (fail H1 _ s1 et (bA (aA rfl) (bS (aA rfl) (aA rfl))) fun _ _ q=>q))))
  ·rintro σ H1 ⟨_,⟨pl,nw,v1,v2,v3,rfl,et⟩,s1⟩
   rw[List.drop_of_length_le (by rw[hpl];exact Nat.le_refl _)] at et
   refine bP (lW (bA (aA rfl) (bS (aA rfl) aL)) rfl fun x dx hx hd=>?_)
   refine k x _ (s1.trans (cP hx hd)) (s1.free hx) ?_
   rw[et]
   exact jP
theorem pT {f:Addr}{fd:FuncData} (T:Txt P w K mg A) (D:Dn K mg "steps_without" kU ["steps","road"] f fd):bO P w K mg base eC 1 f fd ["steps","road"] (yI A):=by
 have nd:=sc_steps_without.nd
 refine D.fn.ok sc_steps_without (fun vs H Q E h=>?_) (fun cdv Ar outer s H vs Q E hr h=>?_)
 ·obtain ⟨l,m,ss,n,rfl,_⟩:=h
  rfl
 ·obtain ⟨l,m,ss,n,rfl,L,hlen,k⟩:=h
  refine ⟨_,(aE (aK (nM rfl nd (cH (pv 0)) (blk (own:=[("step",2)])) (fun _ _ _ _ _=>by exact (bV (i:=2) nd rfl (Or.inl rfl))) (fun _ _ _ _ _=>by exact (wF (aY Br (lJ (K':=K) rfl (pv 2) rfl) (pv 1) (bD _)))) (fun _ _ _ _ _=>by exact (pv 2))))),?_⟩
  obtain ⟨as,hl,hall⟩:=L
  refine bP (cq (zs:=ss) (fun s=>s.road != n) (fun x _=>x) (aA rfl) (SqL.of hl) (by rw[List.length_map];exact hall.length.symm) (by rw[List.length_map,hall.length];exact cE hlen) (fun _=>rfl) (fun i x z hi hz H' sm=>?_) (fun D hD=>?_))
  ·obtain ⟨a,ha,rfl⟩:=bF hi
   obtain ⟨z',hz',S⟩:=hall.get ha
   rw[hz] at hz'
   cases hz'
   obtain ⟨ll,cs,S'⟩:=S
   obtain ⟨dx,ho⟩:=S'.ob
   have ho:=sm _ _ ho
   refine ⟨(aO (yY (aH (aA rfl) ho T.dZ.cl T.nW qN) (aA rfl))).to ?_,fun _=>(aA rfl)⟩
   rw[fE]
   rfl
  ·obtain ⟨bs,e,hb⟩:=pJ (fun s:pB=>s.road != n) hall
   rw[e]
   exact k D _ (bN hD) hD ⟨bs,aF,hb.imp fun _ _ q=>q.same (bN hD)⟩
theorem Ae {f:Addr}{fd:FuncData} (T:Txt P w K mg A) (D:Dn K mg "needed_roads" mP ["roads","steps","start"] f fd):bO P w K mg base eC 4 f fd ["roads","steps","start"] (Ve A):=by
 obtain ⟨af_earliest_minutes,fd_earliest_minutes,D_earliest_minutes⟩:=T.dX
 have G_earliest_minutes:=dM (base:=base) T D_earliest_minutes
 obtain ⟨af_steps_without,fd_steps_without,D_steps_without⟩:=T.rB
 have G_steps_without:=pT (base:=base) T D_steps_without
 have nd:=sc_needed_roads.nd
 refine D.fn.ok sc_needed_roads (fun vs H Q E h=>?_) (fun cdv Ar outer s H vs Q E hr h=>?_)
 ·obtain ⟨lr,l,m,lo,a,rfl,_⟩:=h
  rfl
 ·obtain ⟨lr,l,m,lo,a,rfl,LR,L,W,ha,k⟩:=h
  refine ⟨_,(aC (aR (i:=3) nd rfl (Or.inl rfl) (bU Hm (by rfl) T.eP dL (aB (aG G_earliest_minutes (hr.mono (by decide)) rfl D_earliest_minutes.mg D_earliest_minutes.fn.kp D_earliest_minutes.bi .nil aN (aB (pv 1) (aB (pv 2) (aB aM aD)))) aD))) (aC (aR (i:=4) nd rfl (Or.inl rfl) (bE aD)) (aC (eK PassesOwn.never rfl (cH (pv 0)) (bV (i:=5) nd rfl (Or.inl rfl)) (aE (bJ (aY uM (bU Hm (by rfl) T.eP dL (aB (aG G_earliest_minutes (hr.mono (by decide)) rfl D_earliest_minutes.mg D_earliest_minutes.fn.kp D_earliest_minutes.bi .nil aN (aB (aG G_steps_without (hr.mono (by decide)) rfl D_steps_without.mg D_steps_without.fn.kp D_steps_without.bi .nil aN (aB (pv 1) (aB (aI (pv 5) rfl) aD))) (aB (pv 2) (aB aM aD)))) aD)) (pv 3) (bD _)) (aE (cI (fG PySem.F.plainAttrs_list PySem.F.slot_list_append PySem.F.type_list_append dB (pv 4) (aB (aI (pv 5) rfl) aD)))) aU))) (aE (aK (pv 4)))))),?_⟩
  obtain ⟨as,hl,hall⟩:=LR
  have C:=W.caps (l:=lo) (t0:=0) ha
  refine bZ (Gw (bQ (bA (aA rfl) (bS (aA rfl) aL)) ⟨l,m,_,_,a,0,_,rfl,L,C,fun d ks H1 s1 nd1 hd R G=>?_⟩))
  refine ⟨d,_,rfl,hd,?_⟩
  have hlen:(gN ks).length=((m.junctions.map (·.number)).filter fun j=>(look ks j).isSome).length:=by
   unfold gN
   rw[List.length_map]
   exact R.len
  rw[hlen]
  refine bZ (dI eA (Nat.zero_le _) fun t ht=>?_)
  have s2:=s1.over (o:=.lst []) (s1.free ht)
  refine iL (aA rfl) (SqL.of (s2 _ _ hl)) (fun i σ H'=>(∃ v:Option V,σ=[some (.ref lr),some (.ref l),some (.int a),some (.int (((m.junctions.map (·.number)).filter fun j=>(look ks j).isSome).length:Nat)),some (.ref t),v])∧Same H H'∧H' t=some (.lst (nI (((m.roads.take i).filter fun r=>(Vbmiai.reached m a lo).any fun j=>!(Vbmiai.reached (Vbmiai.withoutRoad m r.number) a lo).contains j).map fun r=>r.number)))) ⟨⟨_,rfl⟩,s2,aF⟩ (fun i σ H' _ h=>SqL.of (h.2.1 _ _ hl)) ?_ ?_
  ·rintro i y σ H2 hi ⟨⟨v,rfl⟩,s3,h3⟩
   obtain ⟨b,hb,rfl⟩:=bF hi
   obtain ⟨r,hr0,dx,hob⟩:=hall.get hb
   have ht0:H t=none:=s1.free ht
   have W':=W.without r.number
   have C':=W'.caps (l:=lo) (t0:=0) (a:=a) ha
   refine db (Lq (Gw (cK (bQ (bS (aA rfl) (aH (aA rfl) (s3 _ _ hob) T.dS.cl T.eW fB)) ⟨l,m,_,r.number,rfl,L.same s3,Hf W lo,fun x H3 s4 nx L3=>?_⟩))))
   rw[←sZ] at L3
   refine (bS (aA rfl) aL) _ ?_
   refine ⟨x,m,_,_,a,0,_,rfl,L3,C',fun d' ks' H4 s5 nd' hd' R' G'=>?_⟩
   have hlen':(gN ks').length=((m.junctions.map (·.number)).filter fun j=>(look ks' j).isSome).length:=by
    unfold gN
    rw[List.length_map]
    exact R'.len
   refine ⟨d',_,rfl,hd',?_⟩
   rw[hlen']
   refine (aA rfl) _ ⟨_,_,rfl,rfl,_,rfl,?_⟩
   have key:=lp W G G' ha
   have s35:=s3.trans (s4.trans s5)
   have e1:decide (((((m.junctions.map (·.number)).filter fun j=>(look ks' j).isSome).length:Nat):Int)<((((m.junctions.map (·.number)).filter fun j=>(look ks j).isSome).length:Nat):Int))=((Vbmiai.reached m a lo).any fun j=>!(Vbmiai.reached (Vbmiai.withoutRoad m r.number) a lo).contains j):=by
    rw[key,Bool.eq_iff_iff,decide_eq_true_iff,decide_eq_true_iff]
    omega
   rw[e1]
   have h5:=s5 _ _ (s4 _ _ h3)
   cases e2:((Vbmiai.reached m a lo).any fun j=>!(Vbmiai.reached (Vbmiai.withoutRoad m r.number) a lo).contains j) with
   | true=>
    refine iE (gU (fN (aA rfl) (aH (aA rfl) (s35 _ _ hob) T.dS.cl T.eW fB) h5 ?_ ⟨⟨_,rfl⟩,s35.over ht0,?_⟩))
    ·rw[cJ,List.length_map]
     refine cE (Nat.le_trans (List.length_filter_le _ _) ?_)
     rw[List.length_take]
     have:=W.rlen
     omega
    ·rw[aF,nV hr0,if_pos e2,List.map_append,dY]
     rfl
   | false=>
    refine rG ⟨⟨_,rfl⟩,s35,?_⟩
    rw[nV hr0,if_neg (by rw[e2];simp),List.append_nil]
    exact h5
  ·rintro σ H2 ⟨⟨v,rfl⟩,s3,h3⟩
   rw[List.length_map,hall.length,List.take_length] at h3
   exact cS (aA rfl) (k t H2 s3 (s1.free ht) h3)
theorem lC {f:Addr}{fd:FuncData} (T:Txt P w K mg A) (D:Dn K mg "minutes_in_order" iU ["net","earliest"] f fd):bO P w K mg base eC 1 f fd ["net","earliest"] (Nk A):=by
 have nd:=sc_minutes_in_order.nd
 refine D.fn.ok sc_minutes_in_order (fun vs H Q E h=>?_) (fun cdv Ar outer s H vs Q E hr h=>?_)
 ·obtain ⟨p,d,m,ks,rfl,_⟩:=h
  rfl
 ·obtain ⟨p,d,m,ks,rfl,⟨lj,lr,ls,lc,N⟩,W,hd,k⟩:=h
  have hu:=nN hr
  refine ⟨_,(aE (aK (nM rfl nd (cH (aI (pv 0) rfl)) (blk (own:=[("junction",2)])) (fun _ _ _ _ _=>by exact (bV (i:=2) nd rfl (Or.inl rfl))) (fun _ _ _ _ _=>by exact iI) (fun _ _ _ _ _=>by exact (rM hu (pv 1) (lJ (K':=K) rfl (pv 2) rfl) (aW rfl T.kI) ⟨rfl,rfl,rfl,rfl⟩))))),?_⟩
  obtain ⟨dp,hp⟩:=N.ob
  obtain ⟨as,hl,hall⟩:=N.js
  refine bP (cq (zs:=m.junctions) (fun _=>true) (fun _ j=>.int (jN (look ks j.number))) (aH (aA rfl) hp T.dQ.cl T.cN cQ) (SqL.of hl) (by rw[List.length_map];exact hall.length.symm) (by rw[List.length_map,hall.length];exact cE (Nat.le_trans W.jlen (by decide))) (fun _=>rfl) (fun i x z hi hz H' sm=>⟨lG,fun _=>?_⟩) (fun D hD=>?_))
  ·obtain ⟨a,ha,rfl⟩:=bF hi
   obtain ⟨z',hz',dx,ho⟩:=hall.get ha
   rw[hz] at hz'
   cases hz'
   have ho:=sm _ _ ho
   refine (rP (aA rfl) (aH (aA rfl) ho T.dE.cl T.cT cX) aL (sm _ _ hd)).to ?_
   rw[cM]
   cases look ks z.number <;> rfl
  ·rw[jH _ _ _ _ (by rw[List.length_map];exact hall.length.symm),lZ]
   exact k D _ (bN hD) hD aF
end
open Vbmiai (Surface)
def SuAt (A:Ad) (H:Hp) (p:Addr) (s:Surface):Prop:=∃ lh,OA H A.Surface (uB (.int s.nx) (.ref lh) (.int s.most)) p∧H lh=some (.lst (nI s.heights))
theorem SuAt.same {A:Ad}{H H':Hp}{p:Addr}{s:Surface} (h:SuAt A H p s) (e:Same H H'):SuAt A H' p s:=let ⟨lh,h1,h2⟩:=h;⟨lh,h1.same e,e _ _ h2⟩
structure Oh (s:Surface):Prop where
 nx:0<s.nx
 rows:s.heights.length % s.nx=0
 few:s.heights.length≤64
theorem Za {H:Hp}{a:Addr}{o:HO} (h:H a=some o):cA H a o=H:=by
 funext b
 unfold cA
 split
 ·rename_i e
  rw[e,h]
 ·rfl
theorem Bm {σ:L2.St}{H:Hp}{K:PySem.W.Frag}{D:jB}{s2:TS}{t:TT}{to te:TE}{b:Bool}{x:V}{l:Addr}{xs:List V} (ht:EvT t σ H b) (hl:Ev to σ H (.ref l)) (he:Ev te σ H x) (h:H l=some (.lst xs)) (hn:xs.length<sizeLine) (q:s2 D σ (cA H l (.lst (xs ++ if b=true then [x] else [])))) :
  pC (Fk t (Lr (dv K "list" tZ to (gJ te lQ))) zA) s2 D σ H:=by
 refine So ht (fun e=>?_) (fun e=>?_)
 ·subst e
  exact gU (fN hl he h hn q)
 ·subst e
  rw[if_neg (by simp),List.append_nil,Za h] at q
  exact q
theorem Rf {p:Prop} [Decidable p] {b:Bool}{n:Nat}{z:Int} (hb:b=decide p) (hz:p→z=(n:Int)):(if b=true then [V.int z] else [])=nI (if p then [n] else []):=by
 subst hb
 by_cases h:p
 ·rw[if_pos h,if_pos (decide_eq_true h),hz h]
  rfl
 ·rw[if_neg h,if_neg (by simpa using h)]
  rfl
theorem Wh {l:List Nat}{i n:Nat} (h:l[i]? = some n):Gs (nI l) (i:Int)=some (.int (n:Int)):=wI (by unfold nI;rw[List.getElem?_map,h];rfl)
theorem uY {l:List Nat}{i:Nat}{x:V} (h:(nI l)[i]? = some x):∃ n,l[i]? = some n∧x = .int (n:Int):=bF h
theorem Je {l:List Nat}{i:Nat} (h:i<l.length):l[i]? = some (l.getD i 0):=by
 rw[List.getD_eq_getElem?_getD,List.getElem?_eq_getElem h]
 rfl
theorem ik {σ:L2.St}{H:Hp}{K:PySem.W.Frag}{D:jB}{te:TE}{g:TG}{tb:TS} (h:te σ H fun x H1=>∃ a,x = .ref a∧(∃ xs,SqL K H1 a xs)∧∃ W:Nat→Nat→L2.St→Hp→Prop,(∃ m,W 0 m σ H1)∧∀ i m σ H,W i m σ H→((yX K a).stop i H∧D.nx σ H)∨((yX K a).go i H∧∃ N:L2.St→Hp→Prop,(∀ σ' H',N σ' H'→∃ m',m'<m∧W (i + 1) m' σ' H')∧∀ x H',(yX K a).yld i H x H'→g x σ H' fun σ2 H2=>tb ⟨N,D.rt,D.nx,N⟩ σ2 H2)):Fi (wB K te) g tb D σ H:=h
theorem Ji {σ:L2.St}{H:Hp}{K:PySem.W.Frag}{D:jB}{te:TE}{g:TG}{tb s2:TS} (h:te σ H fun x H1=>∃ a,x = .ref a∧(∃ xs,SqL K H1 a xs)∧∃ W:Nat→Nat→L2.St→Hp→Prop,(∃ m,W 0 m σ H1)∧∀ i m σ H,W i m σ H→((yX K a).stop i H∧s2 D σ H)∨((yX K a).go i H∧∃ N:L2.St→Hp→Prop,(∀ σ' H',N σ' H'→∃ m',m'<m∧W (i + 1) m' σ' H')∧∀ x H',(yX K a).yld i H x H'→g x σ H' fun σ2 H2=>tb ⟨N,D.rt,s2 D,N⟩ σ2 H2)):pC (Fi (wB K te) g tb) s2 D σ H:=h
theorem Jh {σ:L2.St}{H:Hp}{K:PySem.W.Frag}{D:jB}{n:Nat}{a:Addr}{xs:List V}{tb s2:TS} (hx:SqL K H a xs) (Pv:Nat→L2.St→Hp→Prop) (h0:Pv 0 σ H) (hl:∀ i σ H,i≤xs.length→Pv i σ H→SqL K H a xs)
  (hs:∀ i x σ H,xs[i]? = some x→Pv i σ H→tb ⟨Pv (i + 1),D.rt,s2 D,Pv (i + 1)⟩ (σ.set n (some x)) H) (hd:∀ σ H,Pv xs.length σ H→s2 D σ H):∃ a':Addr,V.ref a=V.ref a'∧(∃ xs,SqL K H a' xs)∧∃ W:Nat→Nat→L2.St→Hp→Prop,(∃ m,W 0 m σ H)∧∀ i m σ H,W i m σ H→((yX K a').stop i H∧s2 D σ H)∨((yX K a').go i H∧∃ N:L2.St→Hp→Prop,(∀ σ' H',N σ' H'→∃ m',m'<m∧W (i + 1) m' σ' H')∧∀ x H',(yX K a').yld i H x H'→jC n x σ H' fun σ2 H2=>tb ⟨N,D.rt,s2 D,N⟩ σ2 H2):=Xc (D:={ D with nx:=s2 D }) hx Pv h0 hl hs hd
theorem Wa {σ:L2.St}{H:Hp}:Ev (np (rU fun i=>.int (-i)) (tC (.int 1))) σ H (.int (-1)):=lq (i:=1) aL
theorem oA {p:Prop} [Decidable p] {y:Nat}:(if p then [y] else ([]:List Nat)).length≤1:=by split <;> simp
def Ub (A:Ad):Sp:=fun vs H Q _=>∃ (p:Addr) (s:Surface) (c:Nat),vs=[.ref p,.int c]∧SuAt A H p s∧Oh s∧c<s.heights.length∧∀ l,H l=none→Q (.ref l) (cA H l (.lst (nI (Zj s.nx s.heights.length c))))
def Tb (A:Ad):Sp:=fun vs H Q _=>∃ (p:Addr) (s:Surface) (c:Nat),vs=[.ref p,.int c]∧SuAt A H p s∧Oh s∧c<s.heights.length∧∀ l H',Same H H'→H l=none→H' l=some (.lst (nI (lV s c)))→Q (.ref l) H'
def Td (A:Ad):Sp:=fun vs H Q _=>∃ (p:Addr) (s:Surface) (a:Nat),vs=[.ref p,.int a]∧SuAt A H p s∧Oh s∧a<s.heights.length∧∀ d ks H',Same H H'→H d=none→H' d=some (.dK (gN ks))→Lev s a (look ks)→Q (.ref d) H'
def Tu (A:Ad):Sp:=fun vs H Q _=>∃ (p d:Addr) (s:Surface) (a c k e:Nat) (ks:rD),vs=[.ref p,.ref d,.int c]∧SuAt A H p s∧Oh s∧H d=some (.dK (gN ks))∧a<s.heights.length∧Lev s a (look ks)∧look ks c=some (k + 1)∧(lV s c).find? (fun d=>look ks d == some k)=some e∧∀ H',Same H H'→Q (.int e) H'
def ab (A:Ad):Sp:=fun vs H Q _=>∃ (p d:Addr) (s:Surface) (a b k:Nat) (ks:rD),vs=[.ref p,.ref d,.int b]∧SuAt A H p s∧Oh s∧H d=some (.dK (gN ks))∧a<s.heights.length∧Lev s a (look ks)∧look ks b=some k∧∀ l H',Same H H'→H l=none→H' l=some (.lst (nI ((nO s (look ks) k b).reverse ++ [b])))→Q (.ref l) H'
theorem Pw {s:Surface}{a:Nat}{g:Nat→Option Nat} (S:Oh s) (G:Lev s a g) (ha:a<s.heights.length) {k c:Nat} (h:g c=some (k + 1)):∃ e,(lV s c).find? (fun d=>g d == some k)=some e∧g e=some k∧nO s g (k + 1) c=e :: nO s g k e:=by
 have hc:=G.dom ha h
 obtain ⟨d,h1,h2⟩:=Cf G ha h
 have eb:=Ue (g:=g) (k:=k) S.nx S.rows hc
 obtain ⟨e,he,hm,hp⟩:=vI (p:=fun d=>g d == some k) (l:=lV s c) ⟨d,(qG S.nx S.rows hc).mpr ⟨G.dom ha h1,h2⟩,by rw[h1];exact beq_self_eq_true _⟩
 refine ⟨e,he,by simpa using hp,?_⟩
 show (match (rE s g k).find? fun d=>Vbmiai.beside s d c with
  | some d=>d :: nO s g k d
  | none=>[])=_
 rw[eb,he]
theorem xW {s:Surface}{g:Nat→Option Nat}:∀ (k c:Nat),(nO s g k c).length≤k
 | 0,_=>Nat.le_refl _
 | k + 1,c=>by
  show (match (rE s g k).find? fun d=>Vbmiai.beside s d c with
   | some d=>d :: nO s g k d
   | none=>[]).length≤_
  split
  ·rw[List.length_cons]
   have:=xW (s:=s) (g:=g) k (by assumption)
   omega
  ·exact Nat.zero_le _
section
variable {P:Program}{w:World}{K:PySem.W.Frag}{mg:Str→Option Value}{base:Heap}{A:Ad}
theorem Ap {f:Addr}{fd:FuncData} (T:Txt P w K mg A) (D:Dn K mg "cells_beside" mG ["surface","cell"] f fd):bO P w K mg base eC 1 f fd ["surface","cell"] (Ub A):=by
 have nd:=sc_cells_beside.nd
 refine D.fn.ok sc_cells_beside (fun vs H Q E h=>?_) (fun cdv Ar outer s H vs Q E hr h=>?_)
 ·obtain ⟨p,s0,c,rfl,_⟩:=h
  rfl
 ·obtain ⟨p,s0,c,rfl,⟨lh,⟨dx,ho⟩,hh⟩,S,hc,k⟩:=h
  refine ⟨_,(aC (aR (i:=2) nd rfl (Or.inl rfl) (aI (pv 0) rfl)) (aC (aR (i:=3) nd rfl (Or.inl rfl) (bE aD)) (aC (bJ (aY uP (pv 1) (pv 2) (bD _)) (aE (cI (fG PySem.F.plainAttrs_list PySem.F.slot_list_append PySem.F.type_list_append dB (pv 3) (aB (cO rH (pv 1) (pv 2)) aD)))) aU) (aC (bJ (aY pD (cO Il (pv 1) (pv 2)) aM (bD _)) (aE (cI (fG PySem.F.plainAttrs_list PySem.F.slot_list_append PySem.F.type_list_append dB (pv 3) (aB (cO rH (pv 1) aM) aD)))) aU) (aC (bJ (aY uM (cO Il (pv 1) (pv 2)) (cO rH (pv 2) aM) (bD _)) (aE (cI (fG PySem.F.plainAttrs_list PySem.F.slot_list_append PySem.F.type_list_append dB (pv 3) (aB (cO eR (pv 1) aM) aD)))) aU) (aC (bJ (aY uM (cO eR (pv 1) (pv 2)) (bU bG (by rfl) T.eP dL (aB (aI (pv 0) rfl) aD)) (bD _)) (aE (cI (fG PySem.F.plainAttrs_list PySem.F.slot_list_append PySem.F.type_list_append dB (pv 3) (aB (cO eR (pv 1) (pv 2)) aD)))) aU) (aE (aK (pv 3))))))))),?_⟩
  have h0:=S.nx
  refine cC (aH (aA rfl) ho T.hW.cl T.xA Fn) ?_
  refine bZ (dI eA (Nat.zero_le _) fun t ht=>?_)
  have cm:((c:Int) % (s0.nx:Int))=((c % s0.nx:Nat):Int):=rfl
  refine Bm (aO (bH (aA rfl) (aA rfl))) (aA rfl) (bH (aA rfl) (aA rfl)) aF (by show 0<sizeLine;decide) ?_
  rw[dN,Rf (p:=s0.nx≤c) (n:=c - s0.nx) (by rw[Bool.eq_iff_iff,decide_eq_true_iff,decide_eq_true_iff];omega) (by omega)]
  refine Bm ((aO (bH (jO (aA rfl) (aA rfl) (by show (0:Int)<_;omega)) aL)).to (c:=decide (0<c % s0.nx)) (by rw[Bool.eq_iff_iff,decide_eq_true_iff,decide_eq_true_iff,cm];omega)) (aA rfl) (bH (aA rfl) aL) aF (by rw[List.nil_append,cJ];exact cE (Nat.le_trans oA (by decide))) ?_
  have hmc:c % s0.nx≤c:=Nat.mod_le _ _
  rw[dN,Rf (p:=0<c % s0.nx) (n:=c - 1) rfl (by omega),List.nil_append,←dY]
  refine Bm ((aO (bH (jO (aA rfl) (aA rfl) (by show (0:Int)<_;omega)) (bH (aA rfl) aL))).to (c:=decide (c % s0.nx<s0.nx - 1)) (by rw[Bool.eq_iff_iff,decide_eq_true_iff,decide_eq_true_iff,cm];omega)) (aA rfl) (bH (aA rfl) aL) aF (by rw[cJ,List.length_append];exact cE (Nat.le_trans (Nat.add_le_add oA oA) (by decide))) ?_
  rw[dN,Rf (p:=c % s0.nx<s0.nx - 1) (n:=c + 1) rfl (by omega),←dY]
  have ho':=bN (o:=.lst (nI (((if s0.nx≤c then [c - s0.nx] else []) ++ (if 0<c % s0.nx then [c - 1] else [])) ++ (if c % s0.nx<s0.nx - 1 then [c + 1] else [])))) ht _ _ ho
  have hh':=bN (o:=.lst (nI (((if s0.nx≤c then [c - s0.nx] else []) ++ (if 0<c % s0.nx then [c - 1] else [])) ++ (if c % s0.nx<s0.nx - 1 then [c + 1] else [])))) ht _ _ hh
  refine Bm ((aO (bH (bH (aA rfl) (aA rfl)) (cW (bW (aH (aA rfl) ho' T.hW.cl T.gT iQ)) (SqL.of hh')))).to (c:=decide (c + s0.nx<s0.heights.length)) (by rw[cJ,Bool.eq_iff_iff,decide_eq_true_iff,decide_eq_true_iff];omega)) (aA rfl) (bH (aA rfl) (aA rfl)) aF (by rw[cJ,List.length_append,List.length_append];exact cE (Nat.le_trans (Nat.add_le_add (Nat.add_le_add oA oA) oA) (by decide))) ?_
  rw[dN,Rf (p:=c + s0.nx<s0.heights.length) (n:=c + s0.nx) rfl (by omega),←dY]
  exact cS (aA rfl) (k t ht)
theorem qX {f:Addr}{fd:FuncData} (T:Txt P w K mg A) (D:Dn K mg "cells_joined" mX ["surface","cell"] f fd):bO P w K mg base eC 2 f fd ["surface","cell"] (Tb A):=by
 obtain ⟨af_cells_beside,fd_cells_beside,D_cells_beside⟩:=T.Es
 have G_cells_beside:=Ap (base:=base) T D_cells_beside
 have nd:=sc_cells_joined.nd
 refine D.fn.ok sc_cells_joined (fun vs H Q E h=>?_) (fun cdv Ar outer s H vs Q E hr h=>?_)
 ·obtain ⟨p,s0,c,rfl,_⟩:=h
  rfl
 ·obtain ⟨p,s0,c,rfl,SA,S,hc,k⟩:=h
  refine ⟨_,(aC (aR (i:=2) nd rfl (Or.inr rfl) (bX bC (aI (pv 0) rfl) (pv 1) (fun _ _=>rfl))) (aE (aK (nM rfl nd (cH (aG G_cells_beside (hr.mono (by decide)) rfl D_cells_beside.mg D_cells_beside.fn.kp D_cells_beside.bi .nil aN (aB (pv 0) (aB (pv 1) aD)))) (blk (own:=[("other",3)])) (fun _ _ _ _ _=>by exact (bV (i:=3) nd rfl (Or.inl rfl))) (fun _ _ _ _ _=>by exact (wF (aY fX (bU Mq (by rfl) T.dn Wr (aB (cO rH (bX (Yo (K':=K) rfl) (lJ (K':=K) rfl (pv 0) rfl) (pv 3) (fun _ _=>rfl)) (pv 2)) aD)) (lJ (K':=K) rfl (pv 0) rfl) (bD _)))) (fun _ _ _ _ _=>by exact (pv 3)))))),?_⟩
  obtain ⟨lh,⟨dx,ho⟩,hh⟩:=id SA
  refine cC (bL (aH (aA rfl) ho T.hW.cl T.gT iQ) (aA rfl) (SqL.of hh) (Wh (Je hc))) ?_
  refine bP (bQ (bS (aA rfl) (aA rfl)) ⟨p,s0,c,rfl,SA,S,hc,fun l hl=>?_⟩)
  have s1:Same H (cA H l (.lst (nI (Zj s0.nx s0.heights.length c)))):=bN hl
  refine Io (zs:=Zj s0.nx s0.heights.length c) (fun d=>Zn s0 d c) (fun _ d=>.int (d:Int)) (SqL.of aF) (cJ _).symm ?_ (fun _=>rfl) (fun i x z hi hz H' sm=>?_) (fun D hD=>?_)
  ·rw[cJ]
   unfold Zj
   rw[List.length_append,List.length_append,List.length_append]
   exact cE (Nat.le_trans (Nat.add_le_add (Nat.add_le_add (Nat.add_le_add oA oA) oA) oA) (by decide))
  ·obtain ⟨z',hz',rfl⟩:=uY hi
   rw[hz] at hz'
   cases hz'
   have ho2:=sm _ _ (s1 _ _ ho)
   have hh2:=sm _ _ (s1 _ _ hh)
   have hzn:=((Rp S.nx S.rows hc).mp (List.mem_of_getElem? hz)).1
   refine ⟨(aO (bH ((Wv (bW (bH (bL (aH (aA rfl) ho2 T.hW.cl T.gT iQ) (aA rfl) (SqL.of hh2) (Wh (Je hzn))) (aA rfl)))).to (congrArg V.int (Ru _ _))) (aH (aA rfl) ho2 T.hW.cl T.tQ zY))).to ?_,fun _=>(aA rfl)⟩
   unfold Zn
   rw[jY,Nat.max_comm,Nat.min_comm]
  ·rw[jH _ _ _ _ (cJ _).symm]
   exact k D _ (s1.over (s1.free hD)) (s1.free hD) aF
theorem Ek {f:Addr}{fd:FuncData} (T:Txt P w K mg A) (D:Dn K mg "cell_levels" oU ["surface","first"] f fd):bO P w K mg base eC 3 f fd ["surface","first"] (Td A):=by
 obtain ⟨af_cells_joined,fd_cells_joined,D_cells_joined⟩:=T.tT
 have G_cells_joined:=qX (base:=base) T D_cells_joined
 have nd:=sc_cell_levels.nd
 refine D.fn.ok sc_cell_levels (fun vs H Q E h=>?_) (fun cdv Ar outer s H vs Q E hr h=>?_)
 ·obtain ⟨p,s0,a,rfl,_⟩:=h
  rfl
 ·obtain ⟨p,s0,a,rfl,SA,S,ha,k⟩:=h
  have hu:=nN hr
  refine ⟨_,(aC (aR (i:=2) nd rfl (Or.inl rfl) (Rk (Mg (pv 1) aM Rq) rfl rfl (by simp) (by decide))) (aC (aR (i:=3) nd rfl (Or.inl rfl) (bE (aB (pv 1) aD))) (aC (rQ PassesOwn.never (aY pD (bU bG (by rfl) T.eP dL (aB (pv 3) aD)) aM (bD _)) (aC (aR (i:=4) nd rfl (Or.inl rfl) (bE aD)) (aC (eK PassesOwn.never rfl (cH (pv 3)) (bV (i:=5) nd rfl (Or.inl rfl)) (aE (eK PassesOwn.never rfl (cH (aG G_cells_joined (hr.mono (by decide)) rfl D_cells_joined.mg D_cells_joined.fn.kp D_cells_joined.bi .nil aN (aB (pv 0) (aB (pv 5) aD)))) (bV (i:=6) nd rfl (Or.inl rfl)) (aE (bJ (qC (lO hu (pv 6) (pv 2))) (aC (Rn hu (pv 2) (pv 6) (cO eR (gQ hu (pv 2) (pv 5) (fun _ _=>rfl)) aM) rfl) (aE (cI (fG PySem.F.plainAttrs_list PySem.F.slot_list_append PySem.F.type_list_append dB (pv 4) (aB (pv 6) aD))))) aU))))) (aE (aR (i:=3) nd rfl (Or.inl rfl) (pv 4)))))) (aE (aK (pv 2)))))),?_⟩
  refine bZ (fun d hd=>?_)
  refine (aA rfl) _ (aL _ ⟨aF,[(Sum.inl (a:Int),.int 0)],rfl,by show 1≤15;decide,?_⟩)
  rw[dN]
  have e0:vA [] [((Sum.inl (a:Int):fJ),V.int 0)]=gN [(a,0)]:=rfl
  rw[e0]
  have s1:Same H (cA H d (.dK (gN [(a,0)]))):=bN hd
  refine bZ (dI (bW (aA rfl)) (by show 1≤sizeLine;decide) fun fr hfr=>?_)
  have s2:=s1.over (o:=.lst [.int (a:Int)]) (s1.free hfr)
  refine wD (fun n σ H'=>∃ (kk:Nat) (F:List Nat) (ks:rD) (fr:Addr) (v4 v5 v6:Option V),n=2 * (s0.heights.length - ks.length) + (if F=[] then 0 else 1)∧σ=[some (.ref p),some (.int a),some (.ref d),some (.ref fr),v4,v5,v6]∧Same H H'∧H' d=some (.dK (gN ks))∧H' fr=some (.lst (nI F))∧H fr=none∧F.length≤64∧Bfs s0 a kk F ks [])
   ⟨0,[a],[(a,0)],fr,none,none,none,rfl,rfl,s2,(by rw[aV (aQ aF hfr)];exact aF),aF,s1.free hfr,(by show 1≤64;decide),Bfs.first ha⟩ ?_
  rintro n σ H1 ⟨kk,F,ks,fr,v4,v5,v6,rfl,rfl,s3,h1,h2,hf0,hF64,b⟩
  refine ⟨decide (F≠[]),(aO (bH (cW (bW (aA rfl)) (SqL.of h2)) aL)).to ?_,fun e=>?_,fun e=>?_⟩
  ·rw[cJ]
   cases F with
   | nil=>rfl
   | cons x F=>
    rw[Bool.eq_iff_iff,decide_eq_true_iff,decide_eq_true_iff]
    simp
  rotate_left
  ·have eF:F=[]:=by simpa using e
   subst eF
   exact cS (aA rfl) (k d ks H1 s3 hd h1 b.good)
  have hFne:F≠[]:=by simpa using e
  refine bZ (dI eA (Nat.zero_le _) fun by_ hby=>?_)
  have s4:=s3.over (o:=.lst []) (s3.free hby)
  have hby0:H by_=none:=s3.free hby
  have nfb:fr≠by_:=aQ h2 hby
  refine iL (aA rfl) (SqL.of (bN hby _ _ h2)) (fun i σ H'=>∃ (ks':rD) (B:List Nat) (v5 v6:Option V),σ=[some (.ref p),some (.int a),some (.ref d),some (.ref fr),some (.ref by_),v5,v6]∧Same H H'∧H' d=some (.dK (gN ks'))∧H' fr=some (.lst (nI F))∧H' by_=some (.lst (nI B))∧Bfs s0 a kk F ks' B∧B.length + ks.length=ks'.length∧∀ c ∈ F.take i,∀ d,d<s0.heights.length→Vbmiai.beside s0 d c=true→(look ks' d).isSome=true)
   ⟨ks,[],v5,v6,rfl,s4,bN hby _ _ h1,bN hby _ _ h2,aF,b,by simp,fun c hc=>by cases hc⟩ (fun i σ H' _ h=>by obtain ⟨_,_,_,_,_,_,_,z,_⟩:=h;exact SqL.of z) ?_ ?_
  ·rintro i y σ H2 hi ⟨ks',B,w5,w6,rfl,s5,g1,g2,g3,b',hlen,hdone⟩
   obtain ⟨c,hc,rfl⟩:=uY hi
   have hcF:=List.mem_of_getElem? hc
   have hck:=(b'.lev c).mp hcF
   have hcn:=b'.dom _ _ hck
   refine ik (bQ (bS (aA rfl) (aA rfl)) ⟨p,s0,c,rfl,SA.same s5,S,hcn,fun jl H3 s6 nj g4=>?_⟩)
   have njd:jl≠d:=(aQ g1 nj).symm
   have njb:jl≠by_:=(aQ g3 nj).symm
   have nbd:by_≠d:=jM g3 g1 (by intro z;cases z)
   refine Xc (SqL.of g4) (fun j σ H'=>∃ (ks2:rD) (B2:List Nat) (v6:Option V),σ=[some (.ref p),some (.int a),some (.ref d),some (.ref fr),some (.ref by_),some (.int (c:Int)),v6]∧Same H H'∧H' d=some (.dK (gN ks2))∧H' fr=some (.lst (nI F))∧H' by_=some (.lst (nI B2))∧H' jl=some (.lst (nI (lV s0 c)))∧Bfs s0 a kk F ks2 B2∧B2.length + ks.length=ks2.length∧(∀ c ∈ F.take i,∀ d,d<s0.heights.length→Vbmiai.beside s0 d c=true→(look ks2 d).isSome=true)∧∀ dd ∈ (lV s0 c).take j,(look ks2 dd).isSome=true)
    ⟨ks',B,w6,rfl,s5.trans s6,s6 _ _ g1,s6 _ _ g2,s6 _ _ g3,g4,b',hlen,hdone,fun dd hdd=>by cases hdd⟩ (fun j σ H' _ h=>by obtain ⟨_,_,_,_,_,_,_,_,z,_⟩:=h;exact SqL.of z) ?_ ?_
   ·rintro j y σ H4 hj ⟨ks2,B2,u6,rfl,s7,f1,f2,f3,f4,b2,hlen2,hdone2,hd2⟩
    obtain ⟨dd,hdd,rfl⟩:=uY hj
    have hdm:=(qG S.nx S.rows hcn).mp (List.mem_of_getElem? hdd)
    refine lS ((bR (gA (aA rfl) (aA rfl) f1)).to (by rw[cM])) (fun e=>?_) (fun e=>?_)
    ·have hno:look ks2 dd=none:=by
      cases q:look ks2 dd with
      | none=>rfl
      | some v=>
       rw[q] at e
       cases e
     have hk2:=(b2.lev c).mp hcF
     have h64:=b2.few
     have S64:=S.few
     refine Wu ((bH (gP (aA rfl) (aA rfl) f1 (by rw[cM,hk2];rfl)) aL).to (x:=.int ((kk + 1:Nat):Int)) rfl) (aA rfl) (aA rfl) f1 (by unfold gN;rw[List.length_map];exact cE (by omega)) ?_
     rw[Sa]
     have f3':cA H4 d (.dK (gN (put ks2 dd (kk + 1)))) by_=some (.lst (nI B2)):=by rw[aV nbd];exact f3
     have lk:=fZ ks2 dd (kk + 1)
     have grow:∀ x,(look ks2 x).isSome=true→(look (put ks2 dd (kk + 1)) x).isSome=true:=by
      intro x hx
      rw[lk]
      split
      ·rfl
      ·exact hx
     refine gU (fN (aA rfl) (aA rfl) f3' (by rw[cJ];exact cE (by omega)) ⟨put ks2 dd (kk + 1),B2 ++ [dd],some (.int (dd:Int)),rfl,(s7.over hd).over hby0,?_,?_,?_,?_,b2.add hcF hdm.1 hdm.2 hno,?_,fun c' hc' x hx hb=>grow x (hdone2 c' hc' x hx hb),fun x hx=>?_⟩)
     ·rw[aV nbd.symm]
      exact aF
     ·rw[aV nfb,aV (jM f2 f1 (by intro z;cases z))]
      exact f2
     ·rw[aF,dY]
      rfl
     ·rw[aV njb,aV njd]
      exact f4
     ·rw[Bd,if_pos hno,List.length_append,List.length_singleton]
      omega
     ·rw[cG hdd] at hx
      rcases List.mem_append.mp hx with q | q
      ·exact grow x (hd2 x q)
      ·rw[List.mem_singleton.mp q,lk,if_pos rfl]
       rfl
    ·refine ⟨ks2,B2,some (.int (dd:Int)),rfl,s7,f1,f2,f3,f4,b2,hlen2,hdone2,fun x hx=>?_⟩
     rw[cG hdd] at hx
     rcases List.mem_append.mp hx with q | q
     ·exact hd2 x q
     ·rw[List.mem_singleton.mp q]
      cases q:look ks2 dd with
      | none=>
       rw[q] at e
       cases e
      | some v=>rfl
   ·rintro σ H4 ⟨ks2,B2,u6,rfl,s7,f1,f2,f3,f4,b2,hlen2,hdone2,hd2⟩
    rw[cJ,List.take_length] at hd2
    refine ⟨ks2,B2,_,u6,rfl,s7,f1,f2,f3,b2,hlen2,fun c' hc' x hx hb=>?_⟩
    rw[cG hc] at hc'
    rcases List.mem_append.mp hc' with q | q
    ·exact hdone2 c' q x hx hb
    ·rw[List.mem_singleton.mp q] at hb
     exact hd2 x ((qG S.nx S.rows hcn).mpr ⟨hx,hb⟩)
  ·rintro σ H2 ⟨ks',B,w5,w6,rfl,s5,g1,g2,g3,b',hlen,hdone⟩
   rw[cJ,List.take_length] at hdone
   have f1:=b'.few
   have S64:=S.few
   refine Gu (aA rfl) ⟨2 * (s0.heights.length - ks'.length) + (if B=[] then 0 else 1),?_,kk + 1,B,ks',by_,_,w5,w6,rfl,rfl,s5,g1,g3,hby0,by omega,b'.next hdone⟩
   rw[if_neg hFne]
   cases B with
   | nil=>
    simp
    simp at hlen
    omega
   | cons x B=>
    rw[if_neg (by simp)]
    simp at hlen
    omega
theorem Eh {f:Addr}{fd:FuncData} (T:Txt P w K mg A) (D:Dn K mg "cell_before" oN ["surface","levels","cell"] f fd):bO P w K mg base eC 3 f fd ["surface","levels","cell"] (Tu A):=by
 obtain ⟨af_cells_joined,fd_cells_joined,D_cells_joined⟩:=T.tT
 have G_cells_joined:=qX (base:=base) T D_cells_joined
 have nd:=sc_cell_before.nd
 refine D.fn.ok sc_cell_before (fun vs H Q E h=>?_) (fun cdv Ar outer s H vs Q E hr h=>?_)
 ·obtain ⟨p,d,s0,a,c,kk,e,ks,rfl,_⟩:=h
  rfl
 ·obtain ⟨p,d,s0,a,c,kk,e,ks,rfl,SA,S,hd,ha,G,hc,he,k⟩:=h
  have hu:=nN hr
  refine ⟨_,(aC (eK PassesOwn.never rfl (cH (aG G_cells_joined (hr.mono (by decide)) rfl D_cells_joined.mg D_cells_joined.fn.kp D_cells_joined.bi .nil aN (aB (pv 0) (aB (pv 2) aD)))) (bV (i:=3) nd rfl (Or.inl rfl)) (aE (bJ (aY fW (gQ hu (pv 1) (pv 3) (fun _ _=>rfl)) (cO rH (gQ hu (pv 1) (pv 2) (fun _ _=>rfl)) aM) (bD _)) (aE (aK (pv 3))) aU))) (aE (aK jQ))),?_⟩
  have hcn:=G.dom ha hc
  refine Ji (bQ (bS (aA rfl) (aA rfl)) ⟨p,s0,c,rfl,SA,S,hcn,fun jl H1 s1 nj g4=>?_⟩)
  refine Jh (SqL.of g4) (fun j σ H'=>(∃ v:Option V,σ=[some (.ref p),some (.ref d),some (.int c),v])∧H'=H1∧((lV s0 c).take j).find? (fun d=>look ks d == some kk)=none) ⟨⟨_,rfl⟩,rfl,rfl⟩ (fun j σ H' _ h=>by rw[h.2.1];exact SqL.of g4) ?_ ?_
  ·rintro j y σ H' hj ⟨⟨v,rfl⟩,rfl,hn⟩
   obtain ⟨dd,hdd,rfl⟩:=uY hj
   have hdm:=(qG S.nx S.rows hcn).mp (List.mem_of_getElem? hdd)
   obtain ⟨v',hv,_⟩:=G.closed' hcn hdm.1 (by rw[sL];exact hdm.2) hc
   have hd1:=s1 _ _ hd
   refine lS ((aO (fA (gP (aA rfl) (aA rfl) hd1 (by rw[cM,hv];rfl)) (bH (gP (aA rfl) (aA rfl) hd1 (by rw[cM,hc];rfl)) aL))).to (c:=look ks dd == some kk) ?_) (fun e'=>?_) (fun e'=>?_)
   ·rw[hv,Bool.eq_iff_iff,decide_eq_true_iff,beq_iff_eq]
    constructor
    ·intro z
     injection z with z
     have z':(v':Int)=((kk + 1:Nat):Int) - 1:=z
     exact congrArg some (by omega)
    ·intro z
     have z':v'=kk:=Option.some.inj z
     subst z'
     exact congrArg V.int (show (v':Int)=((v' + 1:Nat):Int) - 1 by omega)
   ·have:=nQ hdd hn e'
    rw[he] at this
    cases this
    exact cS (aA rfl) (k _ s1)
   ·exact ⟨⟨_,rfl⟩,rfl,jS hdd hn e'⟩
  ·rintro σ H' ⟨⟨v,rfl⟩,rfl,hn⟩
   rw[cJ,List.take_length,he] at hn
   cases hn
theorem Fu {f:Addr}{fd:FuncData} (T:Txt P w K mg A) (D:Dn K mg "ramp_cells" qQ ["surface","levels","second"] f fd):bO P w K mg base eC 4 f fd ["surface","levels","second"] (ab A):=by
 obtain ⟨af_cell_before,fd_cell_before,D_cell_before⟩:=T.Gb
 have G_cell_before:=Eh (base:=base) T D_cell_before
 have nd:=sc_ramp_cells.nd
 refine D.fn.ok sc_ramp_cells (fun vs H Q E h=>?_) (fun cdv Ar outer s H vs Q E hr h=>?_)
 ·obtain ⟨p,d,s0,a,b,kk,ks,rfl,_⟩:=h
  rfl
 ·obtain ⟨p,d,s0,a,b,kk,ks,rfl,SA,S,hd,ha,G,hb,k⟩:=h
  have hu:=nN hr
  refine ⟨_,(aC (aR (i:=3) nd rfl (Or.inl rfl) (bE (aB (pv 2) aD))) (aC (rQ PassesOwn.never (aY pD (gQ hu (pv 1) (bX bC (pv 3) (Wb Ou aM) (fun _ _=>rfl)) (fun _ _=>rfl)) aM (bD _)) (aE (cI (fG PySem.F.plainAttrs_list PySem.F.slot_list_append PySem.F.type_list_append dB (pv 3) (aB (aG G_cell_before (hr.mono (by decide)) rfl D_cell_before.mg D_cell_before.fn.kp D_cell_before.bi .nil aN (aB (pv 0) (aB (pv 1) (aB (bX bC (pv 3) (Wb Ou aM) (fun _ _=>rfl)) aD)))) aD))))) (aC (cI (Op PySem.F.plainAttrs_list PySem.F.slot_list_reverse PySem.F.type_list_reverse Dm (pv 3))) (aE (aK (pv 3)))))),?_⟩
  have hk64:=Jb G ha hb
  have S64:=S.few
  have cl:=xW (s:=s0) (g:=look ks) kk b
  refine bZ (dI (bW (aA rfl)) (by show 1≤sizeLine;decide) fun t ht=>?_)
  refine wD (fun n σ H'=>∃ (c:Nat) (pre:List Nat),look ks c=some n∧σ=[some (.ref p),some (.ref d),some (.int b),some (.ref t)]∧Same H H'∧H' t=some (.lst (nI (pre ++ [c])))∧b :: nO s0 (look ks) kk b=pre ++ c :: nO s0 (look ks) n c)
   ⟨b,[],hb,rfl,bN ht,aF,rfl⟩ ?_
  rintro n σ H1 ⟨c,pre,hn,rfl,s1,h1,ec⟩
  have hd1:=s1 _ _ hd
  have e1:nI (pre ++ [c])=nI pre ++ [.int (c:Int)]:=dY pre [c]
  have lastc:Gs (nI (pre ++ [c])) (-1)=some (.int (c:Int)):=by rw[e1];exact Ml _ _
  have plen:pre.length≤64:=by
   have:=congrArg List.length ec
   rw[List.length_cons,List.length_append,List.length_cons] at this
   omega
  refine ⟨decide (0<n),(aO (bH (gP (aA rfl) (bL (aA rfl) Wa (SqL.of h1) lastc) hd1 (by rw[cM,hn];rfl)) aL)).to (c:=decide (0<n)) (by rw[Bool.eq_iff_iff,decide_eq_true_iff,decide_eq_true_iff];omega),fun e=>?_,fun e=>?_⟩
  ·cases n with
   | zero=>simp at e
   | succ n=>
    obtain ⟨x,hx,gx,ex⟩:=Pw S G ha hn
    refine gU (Iu (aA rfl) h1 (bQ (bA (aA rfl) (bS (aA rfl) (bL (aA rfl) Wa (SqL.of h1) lastc))) ⟨p,d,s0,a,c,n,x,ks,rfl,SA.same s1,S,hd1,ha,G,hn,hx,fun H2 s2=>?_⟩))
    refine ⟨t,nI (pre ++ [c]),.int (x:Int),rfl,rfl,s2 _ _ h1,by rw[cJ,List.length_append];exact cE (by simp;omega),n,Nat.lt_succ_self n,x,pre ++ [c],gx,rfl,(s1.trans s2).over ht,?_,?_⟩
    ·rw[aF]
     exact congrArg (fun z=>some (HO.lst z)) (dY (pre ++ [c]) [x]).symm
    ·rw[ec,ex,List.append_assoc]
     rfl
  ·have en:n=0:=by
    have:=of_decide_eq_false e
    omega
   subst en
   refine iB (cy (aA rfl) h1 ?_)
   refine cS (aA rfl) (k t _ (s1.over ht) ht ?_)
   rw[aF]
   have e2:pre ++ [c]=b :: nO s0 (look ks) kk b:=ec.symm
   rw[e2]
   show some (HO.lst (nI (b :: nO s0 (look ks) kk b)).reverse)=_
   unfold nI
   rw[←List.map_reverse,List.reverse_cons]
end
theorem Xe {σ:L2.St}{H:Hp}{K:PySem.W.Frag}{ta tb:TE}{a b:Addr}{ns ms:List Int} (ha:Ev ta σ H (.ref a)) (hb:Ev tb σ H (.ref b)) (h1:SqL K H a (ns.map V.int)) (h2:SqL K H b (ms.map V.int)):Ev (Fh (Zt K) ta tb) σ H (.bl (decide (ns=ms))):=fun Q q=>by
 have dp:∀ (l:List Int),Bp K H (l.map V.int) (l.map PyData.int):=by
  intro l
  induction l with
  | nil=>exact .nil
  | cons x l ih=>exact .cons (.int x) ih
 have sh:∀ l:List Int,SeqAt.shaped (.list (l.map PyData.int))=true:=fun l=>by
  simp[SeqAt.shaped,PyData.canLay0,PyData.depth,PySem.W.ke_canLayAll0]
  have:=PySem.W.ke_depthAll l
  omega
 refine ha _ (hb _ ⟨_,_,.lst h1 (dp ns),.lst h2 (dp ms),sh ns,sh ms,?_⟩)
 have e:PyData.eqv (.list (ns.map PyData.int)) (.list (ms.map PyData.int))=decide (ns=ms):=by
  rw[PyData.eqv,PySem.W.ked_eqvAll]
 rw[e]
 exact q
theorem ij (l:List Nat):nI l=(l.map fun (n:Nat)=>(n:Int)).map V.int:=by
 unfold nI
 rw[List.map_map]
 rfl
theorem Yc {a b:List Nat}:(a.map fun (n:Nat)=>(n:Int))=(b.map fun (n:Nat)=>(n:Int)) ↔ a=b:=by
 constructor
 ·intro h
  induction a generalizing b with
  | nil=>cases b with
   | nil=>rfl
   | cons y b=>cases h
  | cons x a ih=>cases b with
   | nil=>cases h
   | cons y b=>
    rw[List.map_cons,List.map_cons] at h
    obtain ⟨h1,h2⟩:=List.cons.inj h
    rw[ih h2,show x=y by omega]
 ·rintro rfl
  rfl
theorem gl {σ:L2.St}{H:Hp}{K:PySem.W.Frag}{ta tb:TE}{a b:Addr}{ns ms:List Nat} (ha:Ev ta σ H (.ref a)) (hb:Ev tb σ H (.ref b)) (h1:SqL K H a (nI ns)) (h2:SqL K H b (nI ms)):Ev (Fh (Zt K) ta tb) σ H (.bl (decide (ns=ms))):=by
 rw[ij] at h1 h2
 refine (Xe ha hb h1 h2).to ?_
 congr 1
 rw[Bool.eq_iff_iff,decide_eq_true_iff,decide_eq_true_iff]
 exact Yc
section
variable {σ:L2.St}{H:Hp}{K:PySem.W.Frag}{te tl:TE}{ws:List Nat}{n:Nat}{Q:VK}
theorem qt {x:Str} (F:Nat→V) (he:Ev tl σ H (.str x)) (hlen:x.cps.toList.length<sizeLine) (hw:∀ x:V,eY ((eY σ ws).set n (some x)) ws=eY σ ws)
  (hs:∀ (c:Nat) (H':Hp),Same H H'→Ev te ((eY σ ws).set n (some (.str ⟨#[c]⟩))) H' (F c)) (hq:∀ D,H D=none→Q (.ref D) (cA H D (.lst (x.cps.toList.map F)))):cv (ka tl) (jC n) Zv te ws σ H Q:=by
 refine he _ ⟨x,rfl,fun D hD=>⟨fun i m H'=>m=x.cps.toList.length - i∧i≤x.cps.toList.length∧H'=cA H D (.lst ((x.cps.toList.take i).map F)),⟨_,rfl,Nat.zero_le _,rfl⟩,?_⟩⟩
 rintro i m H' ⟨rfl,hi,rfl⟩
 have ez:x.cps.size=x.cps.toList.length:=Array.length_toList.symm
 by_cases hlt:i<x.cps.toList.length
 ·refine .inr ⟨by show i<x.cps.size;rw[ez];exact hlt,fun H'=>H'=cA H D (.lst ((x.cps.toList.take (i + 1)).map F)),fun H' e=>⟨x.cps.toList.length - (i + 1),by omega,rfl,hlt,e⟩,fun v H' y=>?_⟩
  obtain ⟨rfl,c,hc,rfl⟩:=y
  have hc':x.cps.toList[i]? = some c:=by rw[Array.getElem?_toList];exact hc
  refine ⟨hw _,lG _ (iE (hs c _ (bN hD) _ ⟨_,aF,?_,?_⟩))⟩
  ·rw[List.length_map,List.length_take]
   omega
  ·rw[dN,cG hc',List.map_append]
   rfl
 ·have e:i=x.cps.toList.length:=by omega
  subst e
  refine .inl ⟨by show x.cps.size≤_;rw[ez];exact Nat.le_refl _,?_⟩
  rw[List.take_length]
  exact hq D hD
variable {α:Type}{a:Addr}{xs:List V}{zs:List α}
theorem mj (R:α→V→Prop) (he:Ev tl σ H (.ref a)) (hx:SqL K H a xs) (hz:zs.length=xs.length) (hlen:xs.length<sizeLine) (hw:∀ x:V,eY ((eY σ ws).set n (some x)) ws=eY σ ws)
  (hs:∀ (i:Nat) (x:V) (z:α) (H':Hp),xs[i]? = some x→zs[i]? = some z→Same H H'→∀ Q':VK,(∀ y H'',Same H' H''→R z y→Q' y H'')→te ((eY σ ws).set n (some x)) H' Q')
  (hq:∀ D H' ys,Same H H'→H D=none→H' D=some (.lst ys)→All2 R zs ys→Q (.ref D) H'):cv (wB K tl) (jC n) Zv te ws σ H Q:=by
 refine he _ ⟨a,rfl,⟨xs,hx⟩,fun D hD=>Rt (K:=K) (a:=a) (xs:=xs) (fun i H'=>Same H H'∧∃ ys,H' D=some (.lst ys)∧All2 R (zs.take i) ys) ⟨bN hD,[],aF,trivial⟩ (fun i H' _ h=>h.1.seq hx) ?_ ?_⟩
 ·rintro i x H' hi ⟨s1,ys,h1,h2⟩
  obtain ⟨z,hzi⟩:∃ z,zs[i]? = some z:=⟨zs[i]'(by rw[hz];exact (List.getElem?_eq_some_iff.mp hi).1),List.getElem?_eq_getElem _⟩
  refine ⟨hw x,lG _ (iE (hs i x z H' hi hzi s1 _ fun y H'' s2 hr=>⟨ys,s2 _ _ h1,?_,(s1.trans s2).over hD,ys ++ [y],aF,?_⟩))⟩
  ·have:=h2.length
   rw[List.length_take] at this
   have:=(List.getElem?_eq_some_iff.mp hi).1
   omega
  ·rw[cG hzi]
   exact h2.snoc hr
 ·rintro H' ⟨s1,ys,h1,h2⟩
  rw[←hz,List.take_length] at h2
  exact hq D H' ys s1 hD h1 h2
end
def qk (H:Hp) (l:Addr) (ps:List (List Nat)):Prop:=∃ as:List Addr,H l=some (.lst (as.map V.ref))∧All2 (fun a w=>H a=some (.lst (nI w))) as ps
def ng (H0 H:Hp) (l:Addr) (ps:List (List Nat)):Prop:=∃ as:List Addr,H l=some (.lst (as.map V.ref))∧All2 (fun a w=>H a=some (.lst (nI w))∧H0 a=none) as ps
def Zb:Sp:=fun vs H Q _=>∃ x:Str,vs=[.str x]∧x.cps.toList.length<sizeLine∧∀ l,H l=none→Q (.ref l) (cA H l (.lst (nI x.cps.toList)))
def ft (K:PySem.W.Frag):Sp:=fun vs H Q _=>∃ (a:Addr) (ns:List Nat) (c:Nat),vs=[.ref a,.int c]∧SqL K H a (nI ns)∧ns.length≤2000∧∀ l H',Same H H'→H l=none→ng H H' l (Vbmiai.cutAt c ns)→Q (.ref l) H'
def Xt (K:PySem.W.Frag):Sp:=fun vs H Q _=>∃ (a:Addr) (ns:List Nat),vs=[.ref a]∧SqL K H a (nI ns)∧ns.length≤2000∧∀ l H',Same H H'→H l=none→ng H H' l (Vbmiai.linesOf ns)→Q (.ref l) H'
def Ye (K:PySem.W.Frag):Sp:=fun vs H Q _=>∃ (a:Addr) (ns:List Nat),vs=[.ref a]∧SqL K H a (nI ns)∧ns.length≤2000∧∀ l H',Same H H'→H l=none→ng H H' l (Vbmiai.wordsOf ns)→Q (.ref l) H'
def Uj (K:PySem.W.Frag):Sp:=fun vs H Q _=>∃ (a:Addr) (w:List Nat),vs=[.ref a]∧SqL K H a (nI w)∧w≠[]∧Q (.int (fK w)) H
theorem Bh (c:Nat):∀ l:List Nat,(Vbmiai.cutAt c l).length≤l.length + 1
 | []=>Nat.le_refl _
 | x :: l=>by
  have ih:=Bh c l
  unfold Vbmiai.cutAt
  split
  ·rw[List.length_cons,List.length_cons]
   omega
  ·split
   ·simp
   ·rename_i e
    rw[e,List.length_cons] at ih
    rw[List.length_cons,List.length_cons]
    omega
theorem Bv (c:Nat):∀ (l:List Nat) (p:List Nat),p ∈ Vbmiai.cutAt c l→p.length≤l.length
 | [],p,h=>by
  have e:p=[]:=by simpa [Vbmiai.cutAt] using h
  subst e
  exact Nat.le_refl _
 | x :: l,p,h=>by
  unfold Vbmiai.cutAt at h
  rw[List.length_cons]
  split at h
  ·rcases List.mem_cons.mp h with rfl | h
   ·exact Nat.zero_le _
   ·exact Nat.le_succ_of_le (Bv c l p h)
  ·split at h
   ·have e:p=[x]:=by simpa using h
    subst e
    simp
   ·rename_i q r e
    rcases List.mem_cons.mp h with rfl | h
    ·rw[List.length_cons]
     have:=Bv c l q (by rw[e];simp)
     omega
    ·have:=Bv c l p (by rw[e];exact List.mem_cons_of_mem _ h)
     omega
section
variable {P:Program}{w:World}{K:PySem.W.Frag}{mg:Str→Option Value}{base:Heap}{A:Ad}
theorem sH {f:Addr}{fd:FuncData} (T:Txt P w K mg A) (D:Dn K mg "signs_of" vL ["words"] f fd):bO P w K mg base eC 1 f fd ["words"] (Zb):=by
 have nd:=sc_signs_of.nd
 refine D.fn.ok sc_signs_of (fun vs H Q E h=>?_) (fun cdv Ar outer s H vs Q E hr h=>?_)
 ·obtain ⟨x,rfl,_⟩:=h
  rfl
 ·obtain ⟨x,rfl,hl,k⟩:=h
  refine ⟨_,(aE (aK (nM rfl nd (ir (pv 0)) (blk (own:=[("sign",1)])) (fun _ _ _ _ _=>by exact (bV (i:=1) nd rfl (Or.inl rfl))) (fun _ _ _ _ _=>by exact iI) (fun _ _ _ _ _=>by exact (bU Xo (by rfl) T.md gc (aB (pv 1) aD)))))),?_⟩
  refine bP (qt (fun c=>.int (c:Int)) (aA rfl) hl (fun _=>rfl) (fun c H' sm=>fun Q q=>?_) k)
  exact (bW (aA rfl)) _ ⟨⟨#[c]⟩,rfl,rfl,q⟩
theorem Hg {f:Addr}{fd:FuncData} (T:Txt P w K mg A) (D:Dn K mg "cut_at" Cg ["row","mark"] f fd):bO P w K mg base eC 1 f fd ["row","mark"] (ft K):=by
 have nd:=sc_cut_at.nd
 refine D.fn.ok sc_cut_at (fun vs H Q E h=>?_) (fun cdv Ar outer s H vs Q E hr h=>?_)
 ·obtain ⟨a,ns,c,rfl,_⟩:=h
  rfl
 ·obtain ⟨a,ns,c,rfl,hS,h2000,k⟩:=h
  refine ⟨_,(aC (aR (i:=2) nd rfl (Or.inl rfl) (bE (aB (bE aD) aD))) (aC (eK PassesOwn.never rfl (cH (pv 0)) (bV (i:=3) nd rfl (Or.inl rfl)) (aE (bJ (aY fW (pv 3) (pv 1) (bD _)) (aE (cI (fG PySem.F.plainAttrs_list PySem.F.slot_list_append PySem.F.type_list_append dB (pv 2) (aB (bE aD) aD)))) (aE (cI (fG PySem.F.plainAttrs_list PySem.F.slot_list_append PySem.F.type_list_append dB (bX bC (pv 2) (Wb Ou aM) (fun _ _=>rfl)) (aB (pv 3) aD))))))) (aE (aK (pv 2))))),?_⟩
  refine bZ (iq (cK (dI eA (Nat.zero_le _) fun z hz=>?_)))
  refine ⟨by show 1≤sizeLine;decide,fun t ht=>?_⟩
  have s1:Same H (cA H z (.lst [])):=bN hz
  have s2:=s1.over (o:=.lst [.ref z]) (s1.free ht)
  have hz1:cA H z (.lst []) z=some (.lst []):=aF
  have nzt:z≠t:=aQ hz1 ht
  refine iL (aA rfl) (s2.seq hS) (fun i σ H'=>(∃ v:Option V,σ=[some (.ref a),some (.int c),some (.ref t),v])∧Same H H'∧∃ (bs:List Addr) (z:Addr) (ps:List (List Nat)) (q:List Nat),H' t=some (.lst ((bs ++ [z]).map V.ref))∧All2 (fun b w=>H' b=some (.lst (nI w))∧b≠z∧b≠t∧H b=none) bs ps∧H' z=some (.lst (nI q))∧H z=none∧z≠t∧Vbmiai.cutAt c (ns.take i)=ps ++ [q]) ⟨⟨_,rfl⟩,s2,[],z,[],[],aF,trivial,by rw[aV nzt];exact aF,hz,nzt,rfl⟩ (fun i σ H' _ h=>h.2.1.seq hS) ?_ ?_
  ·rintro i y σ H1 hi ⟨⟨v,rfl⟩,s3,bs,z,ps,q,h1,h2,h3,h4,h5,ec⟩
   obtain ⟨x,hx,rfl⟩:=uY hi
   have hcut:=wL c x _ ps q ec
   rw[←cG hx] at hcut
   have ilt:=(List.getElem?_eq_some_iff.mp hx).1
   have hlen:(ps ++ [q]).length≤2001:=by
    rw[←ec]
    refine Nat.le_trans (Bh _ _) ?_
    rw[List.length_take]
    omega
   have hq:q.length≤2000:=by
    have:=Bv c (ns.take i) q (by rw[ec];simp)
    rw[List.length_take] at this
    omega
   have hbl:=h2.length
   refine lS ((aO (fA (aA rfl) (aA rfl))).to fE) (fun e=>?_) (fun e=>?_)
   ·have ex:x=c:=beq_iff_eq.mp e
    rw[if_pos ex] at hcut
    refine gU (Iu (aA rfl) h1 (dI eA (Nat.zero_le _) fun z' hz'=>?_))
    have h1':=bN (o:=.lst []) hz' _ _ h1
    have nz't:z'≠t:=(aQ h1 hz').symm
    refine ⟨t,_,.ref z',rfl,rfl,h1',?_,⟨_,rfl⟩,(s3.over (s3.free hz')).over (s1.free ht),bs ++ [z],z',ps ++ [q],[],?_,?_,?_,s3.free hz',nz't,hcut⟩
    ·rw[List.length_map,List.length_append,hbl,sizeLine_eq]
     rw[List.length_append] at hlen
     simp at hlen ⊢
     omega
    ·rw[aF,List.map_append (l₁:=bs ++ [z])]
     rfl
    ·have k1:All2 (fun b w=>(cA (cA H1 z' (.lst [])) t (.lst ((bs ++ [z]).map V.ref ++ [V.ref z']))) b=some (.lst (nI w))∧b≠z'∧b≠t∧H b=none) bs ps:=h2.imp fun b w ⟨q1,q2,q3,q4⟩=>⟨by rw[aV q3,aV (aQ q1 hz')];exact q1,aQ q1 hz',q3,q4⟩
     exact k1.snoc ⟨by rw[aV h5,aV (aQ h3 hz')];exact h3,aQ h3 hz',h5,h4⟩
    ·rw[aV nz't]
     exact aF
   ·have ex:x≠c:=fun z=>by
     rw[z] at e
     simp at e
    rw[if_neg ex] at hcut
    have hlast:Gs ((bs ++ [z]).map V.ref) (-1)=some (.ref z):=by
     rw[List.map_append]
     exact Ml _ _
    refine gU (fN (bL (aA rfl) Wa (SqL.of h1) hlast) (aA rfl) h3 (by rw[cJ,sizeLine_eq];omega) ⟨⟨_,rfl⟩,s3.over h4,bs,z,ps,q ++ [x],?_,?_,?_,h4,h5,hcut⟩)
    ·rw[aV h5.symm]
     exact h1
    ·exact h2.imp fun b w ⟨q1,q2,q3⟩=>⟨by rw[aV q2];exact q1,q2,q3⟩
    ·rw[aF,dY]
     rfl
  ·rintro σ H1 ⟨⟨v,rfl⟩,s3,bs,z,ps,q,h1,h2,h3,h4,h5,ec⟩
   rw[cJ,List.take_length] at ec
   refine cS (aA rfl) (k t H1 s3 (s1.free ht) ⟨bs ++ [z],h1,?_⟩)
   rw[ec]
   exact (h2.imp fun _ _ q=>(⟨q.1,q.2.2.2⟩:_∧_)).snoc ⟨h3,h4⟩
theorem Nf {f:Addr}{fd:FuncData} (T:Txt P w K mg A) (D:Dn K mg "lines_of" vS ["text"] f fd):bO P w K mg base eC 2 f fd ["text"] (Xt K):=by
 obtain ⟨af_cut_at,fd_cut_at,D_cut_at⟩:=T.Mw
 have G_cut_at:=Hg (base:=base) T D_cut_at
 have nd:=sc_lines_of.nd
 refine D.fn.ok sc_lines_of (fun vs H Q E h=>?_) (fun cdv Ar outer s H vs Q E hr h=>?_)
 ·obtain ⟨a,ns,rfl,_⟩:=h
  rfl
 ·obtain ⟨a,ns,rfl,hS,h2000,k⟩:=h
  refine ⟨_,(aE (aK (aG G_cut_at (hr.mono (by decide)) rfl D_cut_at.mg D_cut_at.fn.kp D_cut_at.bi .nil aN (aB (pv 0) (aB (aW rfl T.Ra) aD))))),?_⟩
  exact bP (bQ (bS (aA rfl) aL) ⟨a,ns,10,rfl,hS,h2000,k⟩)
theorem Nm {f:Addr}{fd:FuncData} (T:Txt P w K mg A) (D:Dn K mg "words_of" vP ["line"] f fd):bO P w K mg base eC 2 f fd ["line"] (Ye K):=by
 obtain ⟨af_cut_at,fd_cut_at,D_cut_at⟩:=T.Mw
 have G_cut_at:=Hg (base:=base) T D_cut_at
 have nd:=sc_words_of.nd
 refine D.fn.ok sc_words_of (fun vs H Q E h=>?_) (fun cdv Ar outer s H vs Q E hr h=>?_)
 ·obtain ⟨a,ns,rfl,_⟩:=h
  rfl
 ·obtain ⟨a,ns,rfl,hS,h2000,k⟩:=h
  refine ⟨_,(aE (aK (nM rfl nd (cH (aG G_cut_at (hr.mono (by decide)) rfl D_cut_at.mg D_cut_at.fn.kp D_cut_at.bi .nil aN (aB (pv 0) (aB (aW rfl T.ck) aD)))) (blk (own:=[("word",1)])) (fun _ _ _ _ _=>by exact (bV (i:=1) nd rfl (Or.inl rfl))) (fun _ _ _ _ _=>by exact (wF (aY pD (bU (Tk (K':=K) rfl) (by rfl) T.eP dL (aB (pv 1) aD)) aM (bD _)))) (fun _ _ _ _ _=>by exact (pv 1))))),?_⟩
  refine bP (bQ (bS (aA rfl) aL) ⟨a,ns,32,rfl,hS,h2000,fun l H1 s1 n1 L=>?_⟩)
  obtain ⟨as,hl,hall⟩:=L
  refine Io (zs:=Vbmiai.cutAt 32 ns) (fun w=>!w.isEmpty) (fun x _=>x) (SqL.of hl) (by rw[List.length_map];exact hall.length.symm) ?_ (fun _=>rfl) (fun i x z hi hz H' sm=>?_) (fun D hD=>?_)
  ·rw[List.length_map,hall.length,sizeLine_eq]
   have:=Bh 32 ns
   omega
  ·obtain ⟨b,hb,rfl⟩:=bF hi
   obtain ⟨z',hz',hob⟩:=hall.get hb
   rw[hz] at hz'
   cases hz'
   refine ⟨(aO (bH (cW (bW (aA rfl)) (SqL.of (sm _ _ hob.1))) aL)).to ?_,fun _=>(aA rfl)⟩
   rw[cJ]
   cases z with
   | nil=>rfl
   | cons x z=>simp
  ·obtain ⟨bs,e,hb⟩:=pJ (fun w:List Nat=>!w.isEmpty) hall
   rw[e]
   have s2:=bN (o:=.lst (bs.map V.ref)) hD
   exact k D _ (s1.over (s1.free hD)) (s1.free hD) ⟨bs,aF,hb.imp fun _ _ q=>⟨s2 _ _ q.1,q.2⟩⟩
theorem Kg {f:Addr}{fd:FuncData} (T:Txt P w K mg A) (D:Dn K mg "number_of" rV ["word"] f fd):bO P w K mg base eC 1 f fd ["word"] (Uj K):=by
 have nd:=sc_number_of.nd
 refine D.fn.ok sc_number_of (fun vs H Q E h=>?_) (fun cdv Ar outer s H vs Q E hr h=>?_)
 ·obtain ⟨a,w0,rfl,_⟩:=h
  rfl
 ·obtain ⟨a,w0,rfl,hS,hne,k⟩:=h
  refine ⟨_,(aC (bJ (aY pD (bU bG (by rfl) T.eP dL (aB (pv 0) aD)) (aW rfl T.Go) (bD _)) (aE (aK (aW rfl T.tK))) aU) (aC (bJ (PW.pt (cU (aY pD (bU bG (by rfl) T.eP dL (aB (pv 0) aD)) aM (bD _)) (eL (aY fW (bX bC (pv 0) aM (fun _ _=>rfl)) (aW rfl T.yH) (bD _))))) (aE (aK (aW rfl T.tK))) aU) (aC (aR (i:=1) nd rfl (Or.inl rfl) aM) (aC (eK PassesOwn.never rfl (cH (pv 0)) (bV (i:=2) nd rfl (Or.inl rfl)) (aC (bJ (PW.pt (yZ (aY uM (pv 2) (aW rfl T.yH) (bD _)) (vC (aY pD (pv 2) (aW rfl T.Vo) (bD _))))) (aE (aK (aW rfl T.tK))) aU) (aE (aR (i:=1) nd rfl (Or.inl rfl) (cO rH (cO eR (cO vD (pv 1) aM) (pv 2)) (aW rfl T.yH)))))) (aE (aK (pv 1))))))),?_⟩
  refine cB ((aO (bH (cW (bW (aA rfl)) hS) aL)).to (c:=decide (7<w0.length)) (by rw[cJ,Bool.eq_iff_iff,decide_eq_true_iff,decide_eq_true_iff];omega)) (fun e=>?_) (fun e=>?_)
  ·rw[Uf (of_decide_eq_true e)] at k
   exact aL _ k
  have h7:w0.length≤7:=by
   have:=of_decide_eq_false e
   omega
  obtain ⟨x0,r0,ew⟩:∃ x r,w0=x :: r:=by
   cases w0 with
   | nil=>exact absurd rfl hne
   | cons x r=>exact ⟨x,r,rfl⟩
  have hat:Gs (nI w0) 0=some (.int (x0:Int)):=cY (j:=0) rfl (by rw[ew];rfl)
  refine cB ((dA ((aO (bH (cW (bW (aA rfl)) hS) aL)).to (c:=decide (1<w0.length)) (by rw[cJ,Bool.eq_iff_iff,decide_eq_true_iff,decide_eq_true_iff];omega)) (fun _=>(aO (fA (bL (aA rfl) aL hS hat) aL)).to (fE (b:=48))))) (fun e=>?_) (fun e=>?_)
  ·rw[Bool.and_eq_true] at e
   rw[Ua (of_decide_eq_true e.1) (by rw[ew,←beq_iff_eq.mp e.2];rfl)] at k
   exact aL _ k
  have h0:¬ (1<w0.length∧w0.head? = some 48):=by
   rintro ⟨h1,h2⟩
   rw[ew] at h2
   have h3:x0=48:=Option.some.inj h2
   rw[decide_eq_true h1,h3] at e
   cases e
  refine cC aL ?_
  refine iL (aA rfl) hS (fun i σ H'=>(∃ v:Option V,σ=[some (.ref a),some (.int (((w0.take i).foldl ji 0:Nat):Int)),v])∧H'=H∧∀ c ∈ w0.take i,48≤c∧c≤57) ⟨⟨_,rfl⟩,rfl,fun c hc=>by cases hc⟩ (fun i σ H' _ h=>by rw[h.2.1];exact hS) ?_ ?_
  ·rintro i y σ H' hi ⟨⟨v,rfl⟩,rfl,hd⟩
   obtain ⟨x,hx,rfl⟩:=uY hi
   have hxm:=List.mem_of_getElem? hx
   refine cB (xO (aO (bH (aA rfl) aL)) (fun _=>aO (bH (aA rfl) aL))) (fun e=>?_) (fun e=>?_)
   ·rw[Bool.or_eq_true,decide_eq_true_iff,decide_eq_true_iff] at e
    rw[Qp hxm (by omega)] at k
    exact aL _ k
   ·rw[Bool.or_eq_false_iff,decide_eq_false_iff_not,decide_eq_false_iff_not] at e
    refine Gu ((bH (bH (jO (aA rfl) aL (.inr ⟨by decide,by decide⟩)) (aA rfl)) aL).to (x:=.int ((ji ((w0.take i).foldl ji 0) x:Nat):Int)) ?_) ⟨⟨some (.int (x:Int)),?_⟩,rfl,?_⟩
    ·show V.int (((((w0.take i).foldl ji 0:Nat):Int) * 10 + (x:Int)) - 48)=_
     congr 1
     unfold ji
     omega
    ·rw[cG hx,List.foldl_append]
     rfl
    ·intro c hc
     rw[cG hx] at hc
     rcases List.mem_append.mp hc with q | q
     ·exact hd c q
     ·rw[List.mem_singleton.mp q]
      omega
  ·rintro σ H' ⟨⟨v,rfl⟩,rfl,hd⟩
   rw[cJ,List.take_length] at hd ⊢
   rw[ac hne h7 h0 hd] at k
   exact cS (aA rfl) k
end
end Mr
namespace Mr
open PySem PySem.Spec PyProof.Rows L2
open Vbmiai (Net Junction Road Speed Closing)
open TL (tl tl_append tl_join joinL join_eq tl_num)
theorem rT:∀ ws:List (List Nat),Vbmiai.spaced ws=joinL [32] ws
 | []=>rfl
 | [_]=>rfl
 | w :: v :: r=>by
  show w ++ (32 :: Vbmiai.spaced (v :: r))=w ++ ([32] ++ joinL [32] (v :: r))
  rw[rT (v :: r)]
  rfl
theorem Hi:∀ ws:List (List Nat),joinL [] ws=ws.flatten
 | []=>rfl
 | [w]=>by simp[joinL]
 | w :: v :: r=>by
  show w ++ ([] ++ joinL [] (v :: r))=_
  rw[Hi (v :: r)]
  simp
def xI (n:Nat):Str:=Str.ofString (toString (n:Int))
theorem bv {n:Nat} (h:n<10 ^ 20):(xI n).cps.toList=Vbmiai.shownNat n:=by
 rw[Yk h]
 exact tl_num n
theorem Zw (x:Str):x.length=x.cps.toList.length:=Array.length_toList.symm
def Yi (K:PySem.W.Frag):Sp:=fun vs H Q _=>∃ (x:Str) (a:Addr) (ns:List Nat),vs=[.str x,.ref a]∧SqL K H a (nI ns)∧ns.length≤5∧(∀ n ∈ ns,n<10 ^ 20)∧x.cps.toList.length≤8∧∀ (y:Str) (H':Hp),Same H H'→y.cps.toList=Vbmiai.spaced (x.cps.toList :: ns.map Vbmiai.shownNat) ++ [10]→Q (.str y) H'
def Pz (A:Ad):Sp:=fun vs H Q _=>∃ (p:Addr) (m:Net),vs=[.ref p]∧NetIs A H p m∧WF m∧∀ l H',Same H H'→H l=none→H' l=some (.lst (nI (Vbmiai.written m)))→Q (.ref l) H'
def Bt {α:Type} (w:String) (row:α→List Nat) (z:α) (y:V):Prop:=∃ s:Str,y = .str s∧s.cps.toList=Vbmiai.wordLine w (row z) ++ [10]
theorem rO {α:Type}{w:String}{row:α→List Nat}:∀ {zs:List α}{ys:List V},All2 (Bt w row) zs ys→∃ ss:List Str,ys=ss.map V.str∧ss.map tl=zs.map fun z=>Vbmiai.wordLine w (row z) ++ [10]
 | [],[],_=>⟨[],rfl,rfl⟩
 | [],_ :: _,h=>h.elim
 | _ :: _,[],h=>h.elim
 | z :: zs,y :: ys,h=>by
  obtain ⟨s,rfl,e⟩:=h.1
  obtain ⟨ss,e1,e2⟩:=rO (zs:=zs) (ys:=ys) h.2
  exact ⟨s :: ss,by rw[e1];rfl,by rw[List.map_cons,List.map_cons,e2];exact congrArg (· :: _) e⟩
theorem Mm (ss:List Str):(ss.map (·.length)).sum=((ss.map tl).map List.length).sum:=by
 rw[List.map_map]
 congr 1
theorem fo {n:Nat} (h:n<10 ^ 20):((n:Int)).natAbs.log2<1920:=by
 rw[Int.natAbs_natCast]
 by_cases e:n=0
 ·subst e
  decide
 ·refine (Nat.log2_lt e).mpr (Nat.lt_trans h ?_)
  exact Nat.lt_of_lt_of_le (by decide:10 ^ 20<2 ^ 70) (Nat.pow_le_pow_right (by decide) (by decide))
section
variable {σ:L2.St}{H:Hp}{K:PySem.W.Frag}
theorem fF {sp:Sp}{E:XK}{Q:VK}{tl:TA} (h:tl σ H fun vs H1=>sp (vs ++ []) H1 Q E):zB sp [] E tl σ H Q:=h
theorem jt {r:V→List V→Hp→VK→Prop}{to te:TE}{Q:VK}{a:Str} (ho:Ev to σ H (.str a)) (h:te σ H fun y H2=>r (.str a) [y] H2 Q):ni r to te σ H Q:=ho _ ⟨⟨a,rfl⟩,h⟩
end
section
variable {P:Program}{w:World}{K:PySem.W.Frag}{mg:Str→Option Value}{base:Heap}{A:Ad}
theorem Af {f:Addr}{fd:FuncData} (T:Txt P w K mg A) (D:Dn K mg "written_line" mY ["name","row"] f fd):bO P w K mg base eC 1 f fd ["name","row"] (Yi K):=by
 have nd:=sc_written_line.nd
 refine D.fn.ok sc_written_line (fun vs H Q E h=>?_) (fun cdv Ar outer s H vs Q E hr h=>?_)
 ·obtain ⟨x,a,ns,rfl,_⟩:=h
  rfl
 ·obtain ⟨x,a,ns,rfl,hS,h5,hbig,h8,k⟩:=h
  refine ⟨_,(aE (aK (cO Pk (Rr kM (cO qB (bE (aB (pv 0) aD)) (nM rfl nd (cH (pv 1)) (blk (own:=[("number",2)])) (fun _ _ _ _ _=>by exact (bV (i:=2) nd rfl (Or.inl rfl))) (fun _ _ _ _ _=>by exact iI) (fun _ _ _ _ _=>by exact (pM Kt (by rfl) T.mh gh (aB (pv 2) aD)))))) kM))),?_⟩
  refine bP (Lq (jt aL (qA (dI (bW (aA rfl)) (by show 1≤sizeLine;decide) fun p1 hp1=>?_))))
  have s1:Same H (cA H p1 (.lst [.str x])):=bN hp1
  refine cq (zs:=ns) (fun _=>true) (fun _ n=>.str (xI n)) (aA rfl) (s1.seq hS) (cJ _).symm (by rw[cJ];exact cE (Nat.le_trans h5 (by decide))) (fun _=>rfl) (fun i v z hi hz H' sm=>⟨lG,fun _ Q q=>?_⟩) (fun D hD=>?_)
  ·obtain ⟨z',hz',rfl⟩:=uY hi
   rw[hz] at hz'
   cases hz'
   exact (bW (aA rfl)) _ ⟨(z:Int),rfl,fo (hbig z (List.mem_of_getElem? hz)),q⟩
  ·rw[jH _ _ _ _ (cJ _).symm,lZ]
   have e0:[V.str x] ++ ns.map (fun n=>V.str (xI n))=(x :: ns.map xI).map V.str:=by
    rw[List.map_cons,List.map_map]
    rfl
   have s2:=s1.over (o:=.lst (ns.map fun n=>V.str (xI n))) (s1.free hD)
   have etl:(x :: ns.map xI).map tl=x.cps.toList :: ns.map Vbmiai.shownNat:=by
    rw[List.map_cons,List.map_map]
    congr 1
    apply List.map_congr_left
    intro n hn
    exact bv (hbig n hn)
   have slen:(((x :: ns.map xI).map tl).map List.length).sum≤108:=by
    rw[etl,List.map_cons,List.sum_cons,List.map_map]
    have:=wJ (fun n=>(Vbmiai.shownNat n).length) 20 ns fun n _=>Hh n
    have h2:ns.length * 20≤5 * 20:=Nat.mul_le_mul_right 20 h5
    have h3:(ns.map (List.length ∘ Vbmiai.shownNat)).sum=(ns.map fun n=>(Vbmiai.shownNat n).length).sum:=rfl
    omega
   have jlen:(Str.join " " (x :: ns.map xI)).length≤120:=by
    rw[Zw]
    have:tl (Str.join " " (x :: ns.map xI))=joinL [32] ((x :: ns.map xI).map tl):=tl_join " " _
    show (tl (Str.join " " (x :: ns.map xI))).length≤120
    rw[this,←rT]
    refine Nat.le_trans (vR _) ?_
    have e1:∀ l:List (List Nat),(l.map fun w=>w.length + 1).sum=(l.map List.length).sum + l.length:=by
     intro l
     induction l with
     | nil=>rfl
     | cons a l ih=>
      rw[List.map_cons,List.sum_cons,List.map_cons,List.sum_cons,List.length_cons,ih]
      omega
    rw[e1,List.length_map,List.length_cons,List.length_map]
    omega
   refine ⟨p1,D,_,_,rfl,rfl,bN hD _ _ aF,aF,?_,fun p2 hp2=>?_⟩
   ·rw[List.length_map,sizeLine_eq]
    simp
    omega
   ·rw[e0]
    refine ⟨_,p2,x :: ns.map xI,rfl,rfl,.inl (SqL.of aF),?_,?_⟩
    ·rw[Mm,List.length_cons,List.length_map]
     have:(Str.length " ")=1:=rfl
     rw[this]
     omega
    ·rw[join_eq]
     refine aL _ ⟨_,_,rfl,rfl,?_,?_⟩
     ·have:(Str.length "\n")=1:=rfl
      rw[this,sizeLine_eq]
      omega
     ·refine k _ _ (s2.over (s2.free hp2)) ?_
      show tl (Str.join " " (x :: ns.map xI) ++ "\n")=_
      rw[tl_append,tl_join,etl,rT]
      rfl
theorem El {f:Addr}{fd:FuncData} (T:Txt P w K mg A) (D:Dn K mg "written_net" oW ["net"] f fd):bO P w K mg base eC 2 f fd ["net"] (Pz A):=by
 obtain ⟨af_Closing_row,fd_Closing_row,M_Closing_row⟩:=T.uU
 have G_Closing_row:=tL (base:=base) T M_Closing_row
 obtain ⟨af_Junction_row,fd_Junction_row,M_Junction_row⟩:=T.nH
 have G_Junction_row:=kT (base:=base) T M_Junction_row
 obtain ⟨af_Road_row,fd_Road_row,M_Road_row⟩:=T.Ds
 have G_Road_row:=zM (base:=base) T M_Road_row
 obtain ⟨af_Speed_row,fd_Speed_row,M_Speed_row⟩:=T.zR
 have G_Speed_row:=wT (base:=base) T M_Speed_row
 obtain ⟨af_signs_of,fd_signs_of,D_signs_of⟩:=T.vX
 have G_signs_of:=sH (base:=base) T D_signs_of
 obtain ⟨af_written_line,fd_written_line,D_written_line⟩:=T.Et
 have G_written_line:=Af (base:=base) T D_written_line
 have nd:=sc_written_net.nd
 refine D.fn.ok sc_written_net (fun vs H Q E h=>?_) (fun cdv Ar outer s H vs Q E hr h=>?_)
 ·obtain ⟨p,m,rfl,_⟩:=h
  rfl
 ·obtain ⟨p,m,rfl,⟨lj,lr,ls,lc,N⟩,W,k⟩:=h
  refine ⟨_,(aC (Cq (i:=1) rfl nd rfl rfl rfl (cH (aI (pv 0) rfl)) (blk (own:=[("junction",2)])) (fun _ _ _ _ _=>by exact (bV (i:=2) nd rfl (Or.inl rfl))) (fun _ _ _ _ _=>by exact iI) (fun _ _ _ _ _=>by exact (aG G_written_line (hr.mono (by decide)) rfl D_written_line.mg D_written_line.fn.kp D_written_line.bi .nil aN (aB kM (aB (lY (pv 2) T.dE.cl M_Junction_row.me G_Junction_row (hr.mono (by decide)) M_Junction_row.bi .nil aN) aD))))) (aC (cI (fG PySem.F.plainAttrs_list PySem.F.slot_list_extend PySem.F.type_list_extend iY (pv 1) (aB (nM rfl nd (cH (aI (pv 0) rfl)) (blk (own:=[("road",3)])) (fun _ _ _ _ _=>by exact (bV (i:=3) nd rfl (Or.inl rfl))) (fun _ _ _ _ _=>by exact iI) (fun _ _ _ _ _=>by exact (aG G_written_line (hr.mono (by decide)) rfl D_written_line.mg D_written_line.fn.kp D_written_line.bi .nil aN (aB kM (aB (lY (pv 3) T.dS.cl M_Road_row.me G_Road_row (hr.mono (by decide)) M_Road_row.bi .nil aN) aD))))) aD))) (aC (cI (fG PySem.F.plainAttrs_list PySem.F.slot_list_extend PySem.F.type_list_extend iY (pv 1) (aB (nM rfl nd (cH (aI (pv 0) rfl)) (blk (own:=[("speed",4)])) (fun _ _ _ _ _=>by exact (bV (i:=4) nd rfl (Or.inl rfl))) (fun _ _ _ _ _=>by exact iI) (fun _ _ _ _ _=>by exact (aG G_written_line (hr.mono (by decide)) rfl D_written_line.mg D_written_line.fn.kp D_written_line.bi .nil aN (aB kM (aB (lY (pv 4) T.eM.cl M_Speed_row.me G_Speed_row (hr.mono (by decide)) M_Speed_row.bi .nil aN) aD))))) aD))) (aC (cI (fG PySem.F.plainAttrs_list PySem.F.slot_list_extend PySem.F.type_list_extend iY (pv 1) (aB (nM rfl nd (cH (aI (pv 0) rfl)) (blk (own:=[("closing",5)])) (fun _ _ _ _ _=>by exact (bV (i:=5) nd rfl (Or.inl rfl))) (fun _ _ _ _ _=>by exact iI) (fun _ _ _ _ _=>by exact (aG G_written_line (hr.mono (by decide)) rfl D_written_line.mg D_written_line.fn.kp D_written_line.bi .nil aN (aB kM (aB (lY (pv 5) T.dC.cl M_Closing_row.me G_Closing_row (hr.mono (by decide)) M_Closing_row.bi .nil aN) aD))))) aD))) (aE (aK (aG G_signs_of (hr.mono (by decide)) rfl D_signs_of.mg D_signs_of.fn.kp D_signs_of.bi .nil aN (aB (Rr kM (pv 1)) aD)))))))),?_⟩
  obtain ⟨dp,hp⟩:=N.ob
  obtain ⟨as1,b1,c1⟩:=N.js
  obtain ⟨as2,b2,c2⟩:=N.rs
  obtain ⟨as3,b3,c3⟩:=N.ss
  obtain ⟨as4,b4,c4⟩:=N.cs
  have l1:=W.jlen
  have l2:=W.rlen
  have l3:=W.slen
  have l4:=W.clen
  refine bZ (mj (zs:=m.junctions) (Bt "junction" jR) (aH (aA rfl) hp T.dQ.cl T.cN cQ) (SqL.of b1) (by rw[List.length_map];exact c1.length.symm) (by rw[List.length_map,c1.length];exact cE (by omega)) (fun _=>rfl) (fun i x z H' hi hz sm Q' hq=>?_) (fun t H1 ys s1 nt ht hys=>?_))
  ·obtain ⟨a,ha,rfl⟩:=bF hi
   obtain ⟨z',hz',dx,hob⟩:=c1.get ha
   rw[hz] at hz'
   cases hz'
   have hzb:=W.jin z (List.mem_of_getElem? hz)
   refine fF (cK (aL _ (cK (rJ (aA rfl) (sm _ _ hob) (by kernel_rfl) eA ⟨a,z,rfl,⟨dx,sm _ _ hob⟩,fun r hr=>?_⟩))))
   refine ⟨_,r,jR z,rfl,SqL.of aF,by show 2≤5;decide,?_,by decide,fun y H'' s3 e=>hq _ _ ((bN hr).trans s3) ⟨y,rfl,e⟩⟩
   intro n hn
   have:n≤1000000:=by
    simp[jR] at hn
    omega
   exact Nat.lt_of_le_of_lt this (by decide)
  obtain ⟨ss1,e1,t1⟩:=rO hys
  subst e1
  have n1:ss1.length=m.junctions.length:=by
   have:=congrArg List.length t1
   rw[List.length_map,List.length_map] at this
   exact this
  refine iB (uZ (aA rfl) ht (mj (zs:=m.roads) (Bt "road" rR) (aH (aA rfl) (s1 _ _ hp) T.dQ.cl T.eV eT) (SqL.of (s1 _ _ b2)) (by rw[List.length_map];exact c2.length.symm) (by rw[List.length_map,c2.length];exact cE (by omega)) (fun _=>rfl) (fun i x z H' hi hz sm Q' hq=>?_) (fun D2 H2 ys s2 nD2 hD2 hys=>?_)))
  ·obtain ⟨a,ha,rfl⟩:=bF hi
   obtain ⟨z',hz',dx,hob⟩:=c2.get ha
   rw[hz] at hz'
   cases hz'
   have hob':=sm _ _ (s1 _ _ hob)
   have hzb:=W.rin z (List.mem_of_getElem? hz)
   have ja:z.a≤99:=by
    obtain ⟨q,hq',e⟩:=List.mem_map.mp hzb.2.1.1
    have:=W.jin q hq'
    omega
   have jb:z.b≤99:=by
    obtain ⟨q,hq',e⟩:=List.mem_map.mp hzb.2.1.2.1
    have:=W.jin q hq'
    omega
   refine fF (cK (aL _ (cK (rJ (aA rfl) hob' (by kernel_rfl) eA ⟨a,z,rfl,⟨dx,hob'⟩,fun r hr=>?_⟩))))
   refine ⟨_,r,rR z,rfl,SqL.of aF,by show 5≤5;decide,?_,by decide,fun y H'' s3 e=>hq _ _ ((bN hr).trans s3) ⟨y,rfl,e⟩⟩
   intro n hn
   have:n≤1000000:=by
    simp[rR] at hn
    omega
   exact Nat.lt_of_le_of_lt this (by decide)
  obtain ⟨ss2,e2,t2⟩:=rO hys
  subst e2
  have n2:ss2.length=m.roads.length:=by
   have:=congrArg List.length t2
   rw[List.length_map,List.length_map] at this
   exact this
  refine ⟨t,D2,_,_,rfl,rfl,s2 _ _ ht,hD2,by rw[List.length_map,List.length_map,sizeLine_eq];omega,?_⟩
  rw[←List.map_append]
  have s12:Same H (cA H2 t (.lst ((ss1 ++ ss2).map V.str))):=(s1.trans s2).over nt
  refine iB (uZ (aA rfl) aF (mj (zs:=m.speeds) (Bt "speed" sR) (aH (aA rfl) (s12 _ _ hp) T.dQ.cl T.fR fU) (SqL.of (s12 _ _ b3)) (by rw[List.length_map];exact c3.length.symm) (by rw[List.length_map,c3.length];exact cE (by omega)) (fun _=>rfl) (fun i x z H' hi hz sm Q' hq=>?_) (fun D3 H3 ys s3 nD3 hD3 hys=>?_)))
  ·obtain ⟨a,ha,rfl⟩:=bF hi
   obtain ⟨z',hz',dx,hob⟩:=c3.get ha
   rw[hz] at hz'
   cases hz'
   have hob':=sm _ _ (s12 _ _ hob)
   have hzb:=W.sin z (List.mem_of_getElem? hz)
   refine fF (cK (aL _ (cK (rJ (aA rfl) hob' (by kernel_rfl) eA ⟨a,z,rfl,⟨dx,hob'⟩,fun r hr=>?_⟩))))
   refine ⟨_,r,sR z,rfl,SqL.of aF,by show 5≤5;decide,?_,by decide,fun y H'' s3 e=>hq _ _ ((bN hr).trans s3) ⟨y,rfl,e⟩⟩
   intro n hn
   have:n≤1000000:=by
    simp[sR] at hn
    omega
   exact Nat.lt_of_le_of_lt this (by decide)
  obtain ⟨ss3,e3,t3⟩:=rO hys
  subst e3
  have n3:ss3.length=m.speeds.length:=by
   have:=congrArg List.length t3
   rw[List.length_map,List.length_map] at this
   exact this
  refine ⟨t,D3,_,_,rfl,rfl,s3 _ _ aF,hD3,by rw[List.length_map,List.length_map,List.length_append,sizeLine_eq];omega,?_⟩
  rw[←List.map_append]
  have s13:Same H (cA H3 t (.lst (((ss1 ++ ss2) ++ ss3).map V.str))):=(s12.trans s3).over nt
  refine iB (uZ (aA rfl) aF (mj (zs:=m.closings) (Bt "closed" cR) (aH (aA rfl) (s13 _ _ hp) T.dQ.cl T.dF dW) (SqL.of (s13 _ _ b4)) (by rw[List.length_map];exact c4.length.symm) (by rw[List.length_map,c4.length];exact cE (by omega)) (fun _=>rfl) (fun i x z H' hi hz sm Q' hq=>?_) (fun D4 H4 ys s4 nD4 hD4 hys=>?_)))
  ·obtain ⟨a,ha,rfl⟩:=bF hi
   obtain ⟨z',hz',dx,hob⟩:=c4.get ha
   rw[hz] at hz'
   cases hz'
   have hob':=sm _ _ (s13 _ _ hob)
   have hzb:=W.cin z (List.mem_of_getElem? hz)
   refine fF (cK (aL _ (cK (rJ (aA rfl) hob' (by kernel_rfl) eA ⟨a,z,rfl,⟨dx,hob'⟩,fun r hr=>?_⟩))))
   refine ⟨_,r,cR z,rfl,SqL.of aF,by show 3≤5;decide,?_,by decide,fun y H'' s3 e=>hq _ _ ((bN hr).trans s3) ⟨y,rfl,e⟩⟩
   intro n hn
   have:n≤1000000:=by
    simp[cR] at hn
    omega
   exact Nat.lt_of_le_of_lt this (by decide)
  obtain ⟨ss4,e4,t4⟩:=rO hys
  subst e4
  have n4:ss4.length=m.closings.length:=by
   have:=congrArg List.length t4
   rw[List.length_map,List.length_map] at this
   exact this
  refine ⟨t,D4,_,_,rfl,rfl,s4 _ _ aF,hD4,by rw[List.length_map,List.length_map,List.length_append,List.length_append,sizeLine_eq];omega,?_⟩
  rw[←List.map_append]
  have s14:Same H (cA H4 t (.lst ((((ss1 ++ ss2) ++ ss3) ++ ss4).map V.str))):=(s13.trans s4).over nt
  have et:(((ss1 ++ ss2) ++ ss3) ++ ss4).map tl=(kH m).map (· ++ [10]):=by
   unfold kH
   rw[List.map_append,List.map_append,List.map_append,t1,t2,t3,t4,List.map_append,List.map_append,List.map_append,List.map_map,List.map_map,List.map_map,List.map_map,List.append_assoc,List.append_assoc]
   rfl
  have ew:tl (Str.join "" (((ss1 ++ ss2) ++ ss3) ++ ss4))=Vbmiai.written m:=by
   rw[tl_join,et]
   show joinL [] _=_
   rw[Hi,vN,List.flatMap_def]
  have wl:=W.written_len
  refine bP (fF (cK (jt aL ((aA rfl) _ ⟨_,t,((ss1 ++ ss2) ++ ss3) ++ ss4,rfl,rfl,.inl (SqL.of aF),?_,?_⟩))))
  ·rw[Mm,et,List.map_map]
   have h1:((kH m).map (List.length ∘ fun l=>l ++ [10])).sum=(Vbmiai.written m).length:=by
    rw[vN,List.length_flatMap]
    rfl
   have:(Str.length "")=0:=rfl
   rw[h1,this]
   omega
  ·rw[join_eq]
   refine ⟨_,rfl,?_,fun l hl=>?_⟩
   ·show (tl (Str.join "" (((ss1 ++ ss2) ++ ss3) ++ ss4))).length<sizeLine
    rw[ew,sizeLine_eq]
    omega
   ·refine k l _ (s14.over (s14.free hl)) (s14.free hl) ?_
    rw[aF]
    show some (HO.lst (nI (tl (Str.join "" (((ss1 ++ ss2) ++ ss3) ++ ss4)))))=_
    rw[ew]
end
end Mr
namespace Mr
open PySem PySem.Spec PyProof.Rows L2
open Vbmiai (Net Junction Road Speed Closing)
def K4 (lj lr ls lc:Addr) (H H':Hp):Prop:=∀ b o,H b=some o→b≠lj→b≠lr→b≠ls→b≠lc→H' b=some o
theorem _root_.L2.Same.k4 {lj lr ls lc:Addr}{H H':Hp} (s:Same H H'):K4 lj lr ls lc H H':=fun b o h _ _ _ _=>s b o h
theorem K4.trans {lj lr ls lc:Addr}{H H1 H2:Hp} (a:K4 lj lr ls lc H H1) (b:K4 lj lr ls lc H1 H2):K4 lj lr ls lc H H2:=fun c o h n1 n2 n3 n4=>b c o (a c o h n1 n2 n3 n4) n1 n2 n3 n4
def Took (K:PySem.W.Frag) (A:Ad) (p lj lr ls lc:Addr) (H0 H:Hp) (Q:VK) (o:Except Vbmiai.Fault Net):Prop:=match o with
 | .error e=>∀ r H',Same H H'→SqT K H' r [.int e.1,.int e.2]→Q (.ref r) H'
 | .ok k=>∀ r H',Same H0 H'→K4 lj lr ls lc H H'→Gr A H0 H' p lj lr ls lc k→SqT K H' r [.int 0,.int 0]→Q (.ref r) H'
theorem Took.fwd {K:PySem.W.Frag}{A:Ad}{p lj lr ls lc:Addr}{H0 H H1:Hp}{Q:VK}{o:Except Vbmiai.Fault Net} (h:Took K A p lj lr ls lc H0 H Q o) (s:Same H H1):Took K A p lj lr ls lc H0 H1 Q o:=by
 cases o with
 | error e=>exact fun r H' s' t=>h r H' (s.trans s') t
 | ok k=>exact fun r H' s0 k4 g t=>h r H' s0 (s.k4.trans k4) g t
def yK (K:PySem.W.Frag) (A:Ad):Sp:=fun vs H Q _=>∃ (H0:Hp) (p a lj lr ls lc:Addr) (m:Net) (j z:Nat),vs=[.ref p,.ref a]∧Same H0 H∧Gr A H0 H p lj lr ls lc m∧WF m∧OA H A.Junction (jF ⟨j,z⟩) a∧Took K A p lj lr ls lc H0 H Q (Vbmiai.addJunction m j z)
def Kw (K:PySem.W.Frag) (A:Ad):Sp:=fun vs H Q _=>∃ (H0:Hp) (p a lj lr ls lc:Addr) (m:Net) (n x y long ways:Nat),vs=[.ref p,.ref a]∧Same H0 H∧Gr A H0 H p lj lr ls lc m∧WF m∧OA H A.Road (rF ⟨n,x,y,long,ways⟩) a∧Took K A p lj lr ls lc H0 H Q (Vbmiai.addRoad m n x y long ways)
def Fv (K:PySem.W.Frag) (A:Ad):Sp:=fun vs H Q _=>∃ (H0:Hp) (p a lj lr ls lc:Addr) (m:Net) (g u ul d dl:Nat),vs=[.ref p,.ref a]∧Same H0 H∧Gr A H0 H p lj lr ls lc m∧WF m∧OA H A.Speed (sF ⟨g,u,ul,d,dl⟩) a∧Took K A p lj lr ls lc H0 H Q (Vbmiai.addSpeed m g u ul d dl)
def Ai (K:PySem.W.Frag) (A:Ad):Sp:=fun vs H Q _=>∃ (H0:Hp) (p a lj lr ls lc:Addr) (m:Net) (n lo hi:Nat),vs=[.ref p,.ref a]∧Same H0 H∧Gr A H0 H p lj lr ls lc m∧WF m∧OA H A.Closing (cF ⟨n,lo,hi⟩) a∧Took K A p lj lr ls lc H0 H Q (Vbmiai.addClosing m n lo hi)
theorem ox {lj lr ls lc:Addr}{H:Hp}{o:HO}:K4 lj lr ls lc H (cA H lj o):=fun b u e n1 _ _ _=>by rw[aV n1];exact e
theorem oz {lj lr ls lc:Addr}{H:Hp}{o:HO}:K4 lj lr ls lc H (cA H lr o):=fun b u e _ n2 _ _=>by rw[aV n2];exact e
theorem pi {lj lr ls lc:Addr}{H:Hp}{o:HO}:K4 lj lr ls lc H (cA H ls o):=fun b u e _ _ n3 _=>by rw[aV n3];exact e
theorem oq {lj lr ls lc:Addr}{H:Hp}{o:HO}:K4 lj lr ls lc H (cA H lc o):=fun b u e _ _ _ n4=>by rw[aV n4];exact e
theorem Gr.nis {A:Ad}{H0 H:Hp}{q lj lr ls lc:Addr}{m:Net} (g:Gr A H0 H q lj lr ls lc m):NetIs A H q m:=⟨lj,lr,ls,lc,g.net⟩
theorem Bs {a b:Nat}:decide ((b:Int)≤(a:Int))=decide (b≤a):=jY
theorem lH {σ:L2.St}{H:Hp}{K:PySem.W.Frag}{A:Ad}{p lj lr ls lc:Addr}{H0:Hp}{Q:VK}{tl:TA}{e:Vbmiai.Fault} (ha:Lk tl σ H [.int e.1,.int e.2]) (k:Took K A p lj lr ls lc H0 H Q (.error e)):Zp tl σ H Q :=
 We ha (by show 2≤sizeLine;decide) fun t ht=>k t _ (bN ht) (SqT.of aF)
theorem tY {σ:L2.St}{H:Hp}{K:PySem.W.Frag}{A:Ad}{p lj lr ls lc a:Addr}{H0:Hp}{Q:VK}{te:TE}{e:Vbmiai.Fault} (he:Ev te σ H (.ref a)) (kt:KTup K a [.int e.1,.int e.2]) (k:Took K A p lj lr ls lc H0 H Q (.error e)):te σ H Q:=he _ (k a H (Same.refl H) (kt.sq H))
section
variable {P:Program}{w:World}{K:PySem.W.Frag}{mg:Str→Option Value}{base:Heap}{A:Ad}
theorem yR {f:Addr}{fd:FuncData} (T:Txt P w K mg A) (D:Dn K mg "take_junction" kZ ["net","junction"] f fd):bO P w K mg base eC 3 f fd ["net","junction"] (yK K A):=by
 obtain ⟨af_has_junction,fd_has_junction,D_has_junction⟩:=T.dU
 have G_has_junction:=dG (base:=base) T D_has_junction
 obtain ⟨a_NO_MORE_ROOM,cZ,k_NO_MORE_ROOM⟩:=T.cZ
 obtain ⟨a_NO_FAULT,dD,k_NO_FAULT⟩:=T.dD
 have nd:=sc_take_junction.nd
 refine D.fn.ok sc_take_junction (fun vs H Q E h=>?_) (fun cdv Ar outer s H vs Q E hr h=>?_)
 ·obtain ⟨H0,p,a,lj,lr,ls,lc,m,j,z,rfl,_⟩:=h
  rfl
 ·obtain ⟨H0,p,a,lj,lr,ls,lc,m,j,z,rfl,s0,g,W,⟨dx,ho⟩,k⟩:=h
  refine ⟨_,(aC (bJ (bK (aG G_has_junction (hr.mono (by decide)) rfl D_has_junction.mg D_has_junction.fn.kp D_has_junction.bi .nil aN (aB (pv 0) (aB (aI (pv 1) rfl) aD)))) (aE (aK (lX (aB aM (aB aM aD))))) aU) (aC (bJ (aY uP (bU bG (by rfl) T.eP dL (aB (aI (pv 0) rfl) aD)) (aW rfl T.yV) (bD _)) (aE (aK (fC (v:=.ref a_NO_MORE_ROOM) rfl cZ rfl))) aU) (aC (cI (fG PySem.F.plainAttrs_list PySem.F.slot_list_append PySem.F.type_list_append dB (aI (pv 0) rfl) (aB (pv 1) aD))) (aE (aK (fC (v:=.ref a_NO_FAULT) rfl dD rfl)))))),?_⟩
  obtain ⟨dp,hp⟩:=g.net.ob
  obtain ⟨as,hl,hall⟩:=g.net.js
  unfold Vbmiai.addJunction Vbmiai.JUNCTIONS at k
  refine cB (bR (aZ (bS (aA rfl) (aH (aA rfl) ho T.dE.cl T.cT cX)) fun Q q=>⟨p,m,j,rfl,g.nis,q⟩)) (fun e=>?_) (fun e=>?_)
  ·rw[if_pos e] at k
   exact lH (bS aL aL) k
  rw[if_neg (by rw[e];simp)] at k
  refine cB ((aO (bH (cW (bW (aH (aA rfl) hp T.dQ.cl T.cN cQ)) (SqL.of hl)) aL)).to (c:=decide (10≤m.junctions.length)) (by rw[List.length_map,hall.length];exact Bs (b:=10))) (fun e=>?_) (fun e=>?_)
  ·rw[if_pos (of_decide_eq_true e)] at k
   exact tY aL k_NO_MORE_ROOM k
  rw[if_neg (of_decide_eq_false e)] at k
  refine iB (fN (aH (aA rfl) hp T.dQ.cl T.cN cQ) (aA rfl) hl (by rw[List.length_map,hall.length];exact cE (Nat.le_trans W.jlen (by decide))) ?_)
  have e:(as.map V.ref ++ [V.ref a])=(as ++ [a]).map V.ref:=by rw[List.map_append];rfl
  rw[e]
  exact cS aL (k a_NO_FAULT _ (s0.over g.nj) ox (g.putJ hl (hall.snoc ⟨dx,ho⟩)) (k_NO_FAULT.sq _))
theorem Jq {f:Addr}{fd:FuncData} (T:Txt P w K mg A) (D:Dn K mg "take_road" sJ ["net","road"] f fd):bO P w K mg base eC 3 f fd ["net","road"] (Kw K A):=by
 obtain ⟨af_has_junction,fd_has_junction,D_has_junction⟩:=T.dU
 have G_has_junction:=dG (base:=base) T D_has_junction
 obtain ⟨af_has_road,fd_has_road,D_has_road⟩:=T.iP
 have G_has_road:=gW (base:=base) T D_has_road
 obtain ⟨a_NO_MORE_ROOM,cZ,k_NO_MORE_ROOM⟩:=T.cZ
 obtain ⟨a_NO_FAULT,dD,k_NO_FAULT⟩:=T.dD
 have nd:=sc_take_road.nd
 refine D.fn.ok sc_take_road (fun vs H Q E h=>?_) (fun cdv Ar outer s H vs Q E hr h=>?_)
 ·obtain ⟨H0,p,a,lj,lr,ls,lc,m,n,x,y,long,ways,rfl,_⟩:=h
  rfl
 ·obtain ⟨H0,p,a,lj,lr,ls,lc,m,n,x,y,long,ways,rfl,s0,g,W,⟨dx,ho⟩,k⟩:=h
  refine ⟨_,(aC (bJ (bK (aG G_has_road (hr.mono (by decide)) rfl D_has_road.mg D_has_road.fn.kp D_has_road.bi .nil aN (aB (pv 0) (aB (aI (pv 1) rfl) aD)))) (aE (aK (lX (aB aM (aB aM aD))))) aU) (aC (bJ (dJ (bK (aG G_has_junction (hr.mono (by decide)) rfl D_has_junction.mg D_has_junction.fn.kp D_has_junction.bi .nil aN (aB (pv 0) (aB (aI (pv 1) rfl) aD))))) (aE (aK (lX (aB aM (aB aM aD))))) aU) (aC (bJ (dJ (bK (aG G_has_junction (hr.mono (by decide)) rfl D_has_junction.mg D_has_junction.fn.kp D_has_junction.bi .nil aN (aB (pv 0) (aB (aI (pv 1) rfl) aD))))) (aE (aK (lX (aB aM (aB aM aD))))) aU) (aC (bJ (aY fW (aI (pv 1) rfl) (aI (pv 1) rfl) (bD _)) (aE (aK (lX (aB aM (aB aM aD))))) aU) (aC (bJ (aY uP (bU bG (by rfl) T.eP dL (aB (aI (pv 0) rfl) aD)) (aW rfl T.Li) (bD _)) (aE (aK (fC (v:=.ref a_NO_MORE_ROOM) rfl cZ rfl))) aU) (aC (cI (fG PySem.F.plainAttrs_list PySem.F.slot_list_append PySem.F.type_list_append dB (aI (pv 0) rfl) (aB (pv 1) aD))) (aE (aK (fC (v:=.ref a_NO_FAULT) rfl dD rfl))))))))),?_⟩
  obtain ⟨dp,hp⟩:=g.net.ob
  obtain ⟨as,hl,hall⟩:=g.net.rs
  unfold Vbmiai.addRoad Vbmiai.ROADS at k
  refine cB (bR (aZ (bS (aA rfl) (aH (aA rfl) ho T.dS.cl T.eW fB)) fun Q q=>⟨p,m,n,rfl,g.nis,q⟩)) (fun e=>?_) (fun e=>?_)
  ·rw[if_pos e] at k
   exact lH (bS aL aL) k
  rw[if_neg (by rw[e];simp)] at k
  refine cB (dH (bR (aZ (bS (aA rfl) (aH (aA rfl) ho T.dS.cl T.mB lP)) fun Q q=>⟨p,m,x,rfl,g.nis,q⟩))) (fun e=>?_) (fun e=>?_)
  ·rw[if_pos (by simpa using e)] at k
   exact lH (bS aL aL) k
  rw[if_neg (by simpa using e)] at k
  refine cB (dH (bR (aZ (bS (aA rfl) (aH (aA rfl) ho T.dS.cl T.mC lN)) fun Q q=>⟨p,m,y,rfl,g.nis,q⟩))) (fun e=>?_) (fun e=>?_)
  ·rw[if_pos (by simpa using e)] at k
   exact lH (bS aL aL) k
  rw[if_neg (by simpa using e)] at k
  refine cB ((aO (fA (aH (aA rfl) ho T.dS.cl T.mB lP) (aH (aA rfl) ho T.dS.cl T.mC lN))).to fE) (fun e=>?_) (fun e=>?_)
  ·rw[if_pos (beq_iff_eq.mp e)] at k
   exact lH (bS aL aL) k
  rw[if_neg (fun z=>by
   have z':x=y:=z
   rw[show (Road.mk n x y long ways).a=x from rfl,show (Road.mk n x y long ways).b=y from rfl,z'] at e
   simp at e)] at k
  refine cB ((aO (bH (cW (bW (aH (aA rfl) hp T.dQ.cl T.eV eT)) (SqL.of hl)) aL)).to (c:=decide (20≤m.roads.length)) (by rw[List.length_map,hall.length];exact Bs (b:=20))) (fun e=>?_) (fun e=>?_)
  ·rw[if_pos (of_decide_eq_true e)] at k
   exact tY aL k_NO_MORE_ROOM k
  rw[if_neg (of_decide_eq_false e)] at k
  refine iB (fN (aH (aA rfl) hp T.dQ.cl T.eV eT) (aA rfl) hl (by rw[List.length_map,hall.length];exact cE (Nat.le_trans W.rlen (by decide))) ?_)
  have e:(as.map V.ref ++ [V.ref a])=(as ++ [a]).map V.ref:=by rw[List.map_append];rfl
  rw[e]
  exact cS aL (k a_NO_FAULT _ (s0.over g.nr) oz (g.putR hl (hall.snoc ⟨dx,ho⟩)) (k_NO_FAULT.sq _))
theorem Fp {f:Addr}{fd:FuncData} (T:Txt P w K mg A) (D:Dn K mg "take_speed" qO ["net","speed"] f fd):bO P w K mg base eC 1 f fd ["net","speed"] (Fv K A):=by
 obtain ⟨a_NO_MORE_ROOM,cZ,k_NO_MORE_ROOM⟩:=T.cZ
 obtain ⟨a_NO_FAULT,dD,k_NO_FAULT⟩:=T.dD
 have nd:=sc_take_speed.nd
 refine D.fn.ok sc_take_speed (fun vs H Q E h=>?_) (fun cdv Ar outer s H vs Q E hr h=>?_)
 ·obtain ⟨H0,p,a,lj,lr,ls,lc,m,gr,u,ul,d,dl,rfl,_⟩:=h
  rfl
 ·obtain ⟨H0,p,a,lj,lr,ls,lc,m,gr,u,ul,d,dl,rfl,s0,g,W,⟨dx,ho⟩,k⟩:=h
  refine ⟨_,(aC (eK PassesOwn.never rfl (cH (aI (pv 0) rfl)) (bV (i:=2) nd rfl (Or.inl rfl)) (aE (bJ (aY uP (aI (pv 2) rfl) (aI (pv 1) rfl) (bD _)) (aE (aK (lX (aB aM (aB aM aD))))) aU))) (aC (bJ (aY uP (bU bG (by rfl) T.eP dL (aB (aI (pv 0) rfl) aD)) (aW rfl T.Gm) (bD _)) (aE (aK (fC (v:=.ref a_NO_MORE_ROOM) rfl cZ rfl))) aU) (aC (cI (fG PySem.F.plainAttrs_list PySem.F.slot_list_append PySem.F.type_list_append dB (aI (pv 0) rfl) (aB (pv 1) aD))) (aE (aK (fC (v:=.ref a_NO_FAULT) rfl dD rfl)))))),?_⟩
  obtain ⟨dp,hp⟩:=g.net.ob
  obtain ⟨as,hl,hall⟩:=g.net.ss
  unfold Vbmiai.addSpeed Vbmiai.SPEEDS at k
  refine iL (aH (aA rfl) hp T.dQ.cl T.fR fU) (SqL.of hl) (fun i σ H'=>(∃ v:Option V,σ=[some (.ref p),some (.ref a),v])∧H'=H∧∀ s ∈ m.speeds.take i,¬ gr≤s.grade) ⟨⟨_,rfl⟩,rfl,fun s hs=>by cases hs⟩ (fun i σ H' _ h=>by rw[h.2.1];exact SqL.of hl) ?_ ?_
  ·rintro i y σ H' hi ⟨⟨v,rfl⟩,rfl,hn⟩
   obtain ⟨b,hb,rfl⟩:=bF hi
   obtain ⟨x,hx,dx',hob⟩:=hall.get hb
   refine lS ((aO (bH (aH (aA rfl) hob T.eM.cl T.gE gR) (aH (aA rfl) ho T.eM.cl T.gE gR))).to (jY (a:=gr))) (fun e=>?_) (fun e=>?_)
   ·rw[if_pos (List.any_eq_true.mpr ⟨x,List.mem_of_getElem? hx,e⟩)] at k
    exact bP (lH (bS aL aL) k)
   ·refine ⟨⟨_,rfl⟩,rfl,fun s hs=>?_⟩
    rw[cG hx] at hs
    rcases List.mem_append.mp hs with q | q
    ·exact hn s q
    ·rw[List.mem_singleton.mp q]
     exact of_decide_eq_false e
  ·rintro σ H' ⟨⟨v,rfl⟩,rfl,hn⟩
   rw[List.length_map,hall.length,List.take_length] at hn
   rw[if_neg (fun z=>by
    obtain ⟨s,hs,z⟩:=List.any_eq_true.mp z
    exact hn s hs (of_decide_eq_true z))] at k
   refine cB ((aO (bH (cW (bW (aH (aA rfl) hp T.dQ.cl T.fR fU)) (SqL.of hl)) aL)).to (c:=decide (6≤m.speeds.length)) (by rw[List.length_map,hall.length];exact Bs (b:=6))) (fun e=>?_) (fun e=>?_)
   ·rw[if_pos (of_decide_eq_true e)] at k
    exact tY aL k_NO_MORE_ROOM k
   rw[if_neg (of_decide_eq_false e)] at k
   refine iB (fN (aH (aA rfl) hp T.dQ.cl T.fR fU) (aA rfl) hl (by rw[List.length_map,hall.length];exact cE (Nat.le_trans W.slen (by decide))) ?_)
   have e:(as.map V.ref ++ [V.ref a])=(as ++ [a]).map V.ref:=by rw[List.map_append];rfl
   rw[e]
   exact cS aL (k a_NO_FAULT _ (s0.over g.ns) pi (g.putS hl (hall.snoc ⟨dx,ho⟩)) (k_NO_FAULT.sq _))
theorem Aj {f:Addr}{fd:FuncData} (T:Txt P w K mg A) (D:Dn K mg "take_closing" mN ["net","closing"] f fd):bO P w K mg base eC 3 f fd ["net","closing"] (Ai K A):=by
 obtain ⟨af_has_road,fd_has_road,D_has_road⟩:=T.iP
 have G_has_road:=gW (base:=base) T D_has_road
 obtain ⟨a_NO_MORE_ROOM,cZ,k_NO_MORE_ROOM⟩:=T.cZ
 obtain ⟨a_NO_FAULT,dD,k_NO_FAULT⟩:=T.dD
 have nd:=sc_take_closing.nd
 refine D.fn.ok sc_take_closing (fun vs H Q E h=>?_) (fun cdv Ar outer s H vs Q E hr h=>?_)
 ·obtain ⟨H0,p,a,lj,lr,ls,lc,m,n,lo,hi,rfl,_⟩:=h
  rfl
 ·obtain ⟨H0,p,a,lj,lr,ls,lc,m,n,lo,hi,rfl,s0,g,W,⟨dx,ho⟩,k⟩:=h
  refine ⟨_,(aC (bJ (dJ (bK (aG G_has_road (hr.mono (by decide)) rfl D_has_road.mg D_has_road.fn.kp D_has_road.bi .nil aN (aB (pv 0) (aB (aI (pv 1) rfl) aD))))) (aE (aK (lX (aB aM (aB aM aD))))) aU) (aC (bJ (aY fX (aI (pv 1) rfl) (aI (pv 1) rfl) (bD _)) (aE (aK (lX (aB aM (aB aM aD))))) aU) (aC (bJ (aY uP (bU bG (by rfl) T.eP dL (aB (aI (pv 0) rfl) aD)) (aW rfl T.rC) (bD _)) (aE (aK (fC (v:=.ref a_NO_MORE_ROOM) rfl cZ rfl))) aU) (aC (cI (fG PySem.F.plainAttrs_list PySem.F.slot_list_append PySem.F.type_list_append dB (aI (pv 0) rfl) (aB (pv 1) aD))) (aE (aK (fC (v:=.ref a_NO_FAULT) rfl dD rfl))))))),?_⟩
  obtain ⟨dp,hp⟩:=g.net.ob
  obtain ⟨as,hl,hall⟩:=g.net.cs
  unfold Vbmiai.addClosing Vbmiai.CLOSINGS at k
  refine cB (dH (bR (aZ (bS (aA rfl) (aH (aA rfl) ho T.dC.cl T.gY iJ)) fun Q q=>⟨p,m,n,rfl,g.nis,q⟩))) (fun e=>?_) (fun e=>?_)
  ·rw[if_pos (by cases q:Vbmiai.roadOf m n <;> simp_all)] at k
   exact lH (bS aL aL) k
  rw[if_neg (by cases q:Vbmiai.roadOf m n <;> simp_all)] at k
  refine cB ((aO (bH (aH (aA rfl) ho T.dC.cl T.iA iH) (aH (aA rfl) ho T.dC.cl T.hZ iG))).to (c:=decide (hi≤lo)) jY) (fun e=>?_) (fun e=>?_)
  ·rw[if_pos (of_decide_eq_true e)] at k
   exact lH (bS aL aL) k
  rw[if_neg (of_decide_eq_false e)] at k
  refine cB ((aO (bH (cW (bW (aH (aA rfl) hp T.dQ.cl T.dF dW)) (SqL.of hl)) aL)).to (c:=decide (20≤m.closings.length)) (by rw[List.length_map,hall.length];exact Bs (b:=20))) (fun e=>?_) (fun e=>?_)
  ·rw[if_pos (of_decide_eq_true e)] at k
   exact tY aL k_NO_MORE_ROOM k
  rw[if_neg (of_decide_eq_false e)] at k
  refine iB (fN (aH (aA rfl) hp T.dQ.cl T.dF dW) (aA rfl) hl (by rw[List.length_map,hall.length];exact cE (Nat.le_trans W.clen (by decide))) ?_)
  have e:(as.map V.ref ++ [V.ref a])=(as ++ [a]).map V.ref:=by rw[List.map_append];rfl
  rw[e]
  exact cS aL (k a_NO_FAULT _ (s0.over g.nc) oq (g.putC hl (hall.snoc ⟨dx,ho⟩)) (k_NO_FAULT.sq _))
end
def names:List Str:=["junction","road","speed","closed"]
def nm (w:List Nat):Str:=(names.find? fun s=>decide (w=s.cps.toList)).getD ""
def Vs (x:Str):List (Nat×Nat):=if x = "junction" then [(1,99),(0,1000000)] else if x = "road" then [(1,99),(1,99),(1,99),(1,1000000),(1,2)] else if x = "speed" then [(0,10000),(0,1000),(0,1000),(0,1000),(0,1000)] else [(1,99),(0,100000),(0,100000)]
def Lm (x:Str) (m:Net) (l:List Nat):Except Vbmiai.Fault Net:=if x = "junction" then Vbmiai.addJunction m (l.getD 0 0) (l.getD 1 0) else if x = "road" then Vbmiai.addRoad m (l.getD 0 0) (l.getD 1 0) (l.getD 2 0) (l.getD 3 0) (l.getD 4 0) else if x = "speed" then Vbmiai.addSpeed m (l.getD 0 0) (l.getD 1 0) (l.getD 2 0) (l.getD 3 0) (l.getD 4 0) else Vbmiai.addClosing m (l.getD 0 0) (l.getD 1 0) (l.getD 2 0)
def bI (bs:List (Nat×Nat)):List (Int×Int):=bs.map fun b=>((b.1:Int),(b.2:Int))
theorem io:Vbmiai.text "rem" = ("rem" : Str).cps.toList:=by decide
theorem pf:Vbmiai.text "junction" = ("junction" : Str).cps.toList:=by decide
theorem pb:Vbmiai.text "road" = ("road" : Str).cps.toList:=by decide
theorem pk:Vbmiai.text "speed" = ("speed" : Str).cps.toList:=by decide
theorem oj:Vbmiai.text "closed" = ("closed" : Str).cps.toList:=by decide
theorem kq (w:List Nat):nm w=if w=Vbmiai.text "junction" then "junction" else if w=Vbmiai.text "road" then "road" else if w=Vbmiai.text "speed" then "speed" else if w=Vbmiai.text "closed" then "closed" else "":=by
 unfold nm names
 rw[pf,pb,pk,oj]
 rw[List.find?_cons]
 by_cases h1:w=("junction" : Str).cps.toList
 ·rw[decide_eq_true h1,if_pos h1];rfl
 rw[decide_eq_false h1,if_neg h1,List.find?_cons]
 by_cases h2:w=("road" : Str).cps.toList
 ·rw[decide_eq_true h2,if_pos h2];rfl
 rw[decide_eq_false h2,if_neg h2,List.find?_cons]
 by_cases h3:w=("speed" : Str).cps.toList
 ·rw[decide_eq_true h3,if_pos h3];rfl
 rw[decide_eq_false h3,if_neg h3,List.find?_cons]
 by_cases h4:w=("closed" : Str).cps.toList
 ·rw[decide_eq_true h4,if_pos h4];rfl
 rw[decide_eq_false h4,if_neg h4,List.find?_nil]
 rfl
theorem He (w:List Nat) (hr:w≠Vbmiai.text "rem") (m:Net) (ws:List (List Nat)):(nm w = "" ∧ lineW m (w :: ws) = .error (1,1))∨(nm w ∈ names∧nm w ≠ "" ∧ lineW m (w :: ws)=Vbmiai.counted (Vs (nm w)) ws (Lm (nm w) m)):=by
 rw[kq]
 unfold lineW
 dsimp only
 rw[if_neg hr]
 by_cases h1:w=Vbmiai.text "junction"
 ·right
  rw[if_pos h1,if_pos h1]
  exact ⟨by decide,by decide,rfl⟩
 rw[if_neg h1,if_neg h1]
 by_cases h2:w=Vbmiai.text "road"
 ·right
  rw[if_pos h2,if_pos h2]
  exact ⟨by decide,by decide,rfl⟩
 rw[if_neg h2,if_neg h2]
 by_cases h3:w=Vbmiai.text "speed"
 ·right
  rw[if_pos h3,if_pos h3]
  exact ⟨by decide,by decide,rfl⟩
 rw[if_neg h3,if_neg h3]
 by_cases h4:w=Vbmiai.text "closed"
 ·right
  rw[if_pos h4,if_pos h4]
  exact ⟨by decide,by decide,rfl⟩
 rw[if_neg h4,if_neg h4]
 exact .inl ⟨rfl,rfl⟩
theorem Xy {m:Net}{ws:List (List Nat)}{e:Vbmiai.Fault} (h:lineW m ws = .error e):e.1≠0:=by
 have one:∀ {o:Except Vbmiai.Fault Net}{a b:Nat},o = .error e→o = .error (a,b)→a≠0→e.1≠0:=fun h1 h2 h3=>by
  rw[h1] at h2
  cases h2
  exact h3
 have addf:∀ x l,Lm x m l = .error e→e.1≠0:=by
  intro x l h
  unfold Lm Vbmiai.addJunction Vbmiai.addRoad Vbmiai.addSpeed Vbmiai.addClosing at h
  repeat' split at h
  all_goals first
   | (cases h;decide)
   | cases h
 cases ws with
 | nil=>cases h
 | cons w ws=>
  by_cases hr:w=Vbmiai.text "rem"
  ·unfold lineW at h
   dsimp only at h
   rw[if_pos hr] at h
   cases h
  ·rcases He w hr m ws with ⟨_,q⟩ | ⟨_,_,q⟩
   ·exact one h q (by decide)
   ·rw[q,jT] at h
    split at h
    ·cases h
     decide
    ·split at h
     ·exact addf _ _ h
     ·cases h
      exact (by decide:(3:Nat)≠0)
section
variable {σ:L2.St}{H:Hp}{K:PySem.W.Frag}
theorem dg {a b:Addr}{ns ms:List Nat}{Q:VK} (h1:SqL K H a (nI ns)) (h2:SqL K H b (nI ms)) (q:Q (.bl (decide (ns=ms))) H):Zt K (.ref a) (.ref b) H Q:=(gl (σ:=[]) (ta:=tC (.ref a)) (tb:=tC (.ref b)) aL aL h1 h2) Q q
theorem Sm {te:TE}{Q:Bool→Hp→Prop} (h:te σ H fun x H'=>∃ k,x = .bl k∧Q k H'):Gv te σ H Q:=h
theorem Xd {ta tb:TE}{a b:Addr}{x y u v:Int} (ha:Ev ta σ H (.ref a)) (hb:Ev tb σ H (.ref b)) (h1:SqT K H a [.int x,.int y]) (h2:SqT K H b [.int u,.int v]):Ev (Fh (ke K) ta tb) σ H (.bl (!decide (x=u∧y=v))):=fun Q q=>by
 refine ha _ (hb _ ⟨.tuple [.int x,.int y],.tuple [.int u,.int v],.tup h1 (.cons (.int x) (.cons (.int y) .nil)),.tup h2 (.cons (.int u) (.cons (.int v) .nil)),by simp[SeqAt.shaped,PyData.canLay0,PyData.canLayAll0,PyData.depth,PyData.depthAll],by simp[SeqAt.shaped,PyData.canLay0,PyData.canLayAll0,PyData.depth,PyData.depthAll],?_⟩)
 have e:PyData.eqv (.tuple [.int x,.int y]) (.tuple [.int u,.int v])=decide (x=u∧y=v):=by
  simp only[PyData.eqv,PyData.eqvAll]
  by_cases h:x=u <;> by_cases h':y=v <;> simp[h,h']
 rw[e]
 exact q
end
theorem Pt {i:Nat}{bs:List (Nat×Nat)}{ns:List Int}{b:Nat×Nat}{n:Int}{p:Nat} (hb:bs[i]? = some b) (hn:ns[i]? = some n):iX p (bs.drop i) (ns.drop i)=if n<(b.1:Int)∨(b.2:Int)<n then p else iX (p + 1) (bs.drop (i + 1)) (ns.drop (i + 1)):=by
 rw[pN hb,pN hn]
 exact Dg _ _ _ _ _
theorem ic {X:Cx}{σ:L2.St}{H:Hp}{D:jB}{td:TE}{n:Nat}{tb s2:TS}{d:Addr}{kvs:List (fJ×V)} (he:Ev td σ H (.ref d)) (g:KDict X.prog X.w X.K d kvs) (Pv:Nat→L2.St→Hp→Prop) (h0:Pv 0 σ H)
  (hs:∀ i k v σ H,kvs[i]? = some (k,v)→Pv i σ H→tb ⟨Pv (i + 1),D.rt,s2 D,Pv (i + 1)⟩ (σ.set n (some (kV k))) H) (hd:∀ σ H,Pv kvs.length σ H→s2 D σ H):pC (Fi (Wp X td) (jC n) tb) s2 D σ H:=he _ ⟨d,kvs,rfl,g,Vc (D:={ D with nx:=s2 D }) Pv h0 hs hd⟩
theorem Zx {K:PySem.W.Frag}{σ:L2.St}{H:Hp}{D:jB}{ta:TA}{g:TG}{tb s2:TS}{a:Addr}{xs:List V} (he:Lk ta σ H [.ref a]) (hx:SqT K H a xs) (Pv:Nat→L2.St→Hp→Prop) (h0:Pv 0 σ H) (hl:∀ i σ H,i≤xs.length→Pv i σ H→SqT K H a xs)
  (hs:∀ i x T σ H,xs[i]? = some x→Pv i σ H→H T=none→g (.ref T) σ (cA H T (.tup [.int (i:Nat),x])) fun σ2 H2=>tb ⟨Pv (i + 1),D.rt,s2 D,Pv (i + 1)⟩ σ2 H2) (hd:∀ σ H,Pv xs.length σ H→s2 D σ H):pC (Fi (Wz K ta) g tb) s2 D σ H:=he _ ⟨a,xs,rfl,hx,Sw (D:={ D with nx:=s2 D }) Pv h0 hl hs hd⟩
def Lc (K:PySem.W.Frag):Sp:=fun vs H Q _=>∃ (a:Addr) (w:List Nat),vs=[.ref a]∧SqL K H a (nI w)∧∀ H',Same H H'→Q (.str (nm w)) H'
def yL (K:PySem.W.Frag):Sp:=fun vs H Q _=>∃ (a t:Addr) (ns:List Int) (bs:List (Nat×Nat)),vs=[.ref a,.ref t]∧SqL K H a (ns.map V.int)∧Og K t (bI bs)∧ns.length=bs.length∧∀ H',Same H H'→Q (.int (iX 2 bs ns)) H'
def Kd (K:PySem.W.Frag) (A:Ad):Sp:=fun vs H Q _=>∃ (H0:Hp) (p g lj lr ls lc:Addr) (m:Net) (x:Str) (ns:List Nat),vs=[.ref p,.str x,.ref g]∧Same H0 H∧Gr A H0 H p lj lr ls lc m∧WF m∧x ∈ names∧SqL K H g (nI ns)∧ns.length=(Vs x).length∧Took K A p lj lr ls lc H0 H Q (Lm x m ns)
def Kr (K:PySem.W.Frag) (A:Ad):Sp:=fun vs H Q _=>∃ (H0:Hp) (p l lj lr ls lc:Addr) (m:Net) (ws:List (List Nat)),vs=[.ref p,.ref l]∧Same H0 H∧Gr A H0 H p lj lr ls lc m∧WF m∧qk H l ws∧ws.length≤2001∧(∀ w ∈ ws,w≠[])∧Took K A p lj lr ls lc H0 H Q (lineW m ws)
section
variable {P:Program}{w:World}{K:PySem.W.Frag}{mg:Str→Option Value}{base:Heap}{A:Ad}
theorem La {f:Addr}{fd:FuncData} (T:Txt P w K mg A) (D:Dn K mg "form_name" sU ["word"] f fd):bO P w K mg base eC 2 f fd ["word"] (Lc K):=by
 obtain ⟨af_signs_of,fd_signs_of,D_signs_of⟩:=T.vX
 have G_signs_of:=sH (base:=base) T D_signs_of
 obtain ⟨a_FORMS,t_0,t_1,t_2,t_3,qF,k_FORMS,kf0,kf1,kf2,kf3⟩:=T.qF
 have nd:=sc_form_name.nd
 refine D.fn.ok sc_form_name (fun vs H Q E h=>?_) (fun cdv Ar outer s H vs Q E hr h=>?_)
 ·obtain ⟨a,w0,rfl,_⟩:=h
  rfl
 ·obtain ⟨a,w0,rfl,hS,k⟩:=h
  have hu64:=hr.units
  refine ⟨_,(aC (eK PassesOwn.never rfl (Xr (fC (v:=.ref a_FORMS) rfl qF rfl)) (bV (i:=1) nd rfl (Or.inl rfl)) (aE (bJ (aY (Oj hu64) (pv 0) (aG G_signs_of (hr.mono (by decide)) rfl D_signs_of.mg D_signs_of.fn.kp D_signs_of.bi .nil aN (aB (pv 1) aD)) (bD _)) (aE (aK (pv 1))) aU))) (aE (aK kM))),?_⟩
  have hkey:∀ (i:Nat) (ky:fJ) (v:V),([(.inr "junction",.ref t_0),(.inr "road",.ref t_1),(.inr "speed",.ref t_2),(.inr "closed",.ref t_3)]:List (fJ×V))[i]? = some (ky,v)→∃ s,names[i]? = some s∧ky = .inr s:=by
   intro i ky v h
   match i,h with
   | 0,h=>exact ⟨"junction",rfl,by cases h;rfl⟩
   | 1,h=>exact ⟨"road",rfl,by cases h;rfl⟩
   | 2,h=>exact ⟨"speed",rfl,by cases h;rfl⟩
   | 3,h=>exact ⟨"closed",rfl,by cases h;rfl⟩
   | i + 4,h=>simp at h
  refine ic aL k_FORMS (fun i σ H'=>(∃ v:Option V,σ=[some (.ref a),v])∧Same H H'∧(names.take i).find? (fun s=>decide (w0=s.cps.toList))=none) ⟨⟨_,rfl⟩,Same.refl H,rfl⟩ ?_ ?_
  ·rintro i ky v σ H1 hk ⟨⟨v0,rfl⟩,s1,hn⟩
   obtain ⟨s,hs,rfl⟩:=hkey i ky v hk
   have hlen:s.cps.toList.length<sizeLine:=by
    have:s ∈ names:=List.mem_of_getElem? hs
    simp[names] at this
    rcases this with rfl | rfl | rfl | rfl <;> decide
   refine db (Sm (Lq ((aA rfl) _ (bQ (bW (aA rfl)) ⟨s,rfl,hlen,fun l hl=>dg ((s1.over (s1.free hl)).seq hS) (SqL.of aF) ⟨_,rfl,?_⟩⟩))))
   refine Vy (fun e=>?_) (fun e=>?_)
   ·have:=nQ hs hn e
    refine cS (aA rfl) ?_
    have en:nm w0=s:=by
     unfold nm
     rw[this]
     rfl
    rw[←en]
    exact k _ (s1.over (s1.free hl))
   ·exact ⟨⟨_,rfl⟩,s1.over (s1.free hl),jS hs hn (Bool.eq_false_iff.mpr e)⟩
  ·rintro σ H1 ⟨⟨v0,rfl⟩,s1,hn⟩
   have en:nm w0 = "":=by
    unfold nm
    have:names.find? (fun s=>decide (w0=s.cps.toList))=none:=hn
    rw[this]
    rfl
   refine cS aL ?_
   rw[en] at k
   exact k _ s1
theorem yO {f:Addr}{fd:FuncData} (T:Txt P w K mg A) (D:Dn K mg "first_outside" kP ["numbers","ranges"] f fd):bO P w K mg base eC 1 f fd ["numbers","ranges"] (yL K):=by
 have nd:=sc_first_outside.nd
 refine D.fn.ok sc_first_outside (fun vs H Q E h=>?_) (fun cdv Ar outer s H vs Q E hr h=>?_)
 ·obtain ⟨a,t,ns,bs,rfl,_⟩:=h
  rfl
 ·obtain ⟨a,t,ns,bs,rfl,hS,⟨ts,kt,kall⟩,hlen,k⟩:=h
  refine ⟨_,(aC (eK PassesOwn.never rfl (Xw rfl T.zV (aB (pv 1) aD)) (Ow rfl (pE (bV (i:=2) nd rfl (Or.inl rfl)) (pE (bV (i:=3) nd rfl (Or.inl rfl)) Jd))) (aE (bJ (PW.pt (yZ (aY uM (bX bC (pv 0) (pv 2) (fun _ _=>rfl)) (bX xK (pv 3) aM (fun _ _=>rfl)) (bD _)) (vC (aY pD (bX bC (pv 0) (pv 2) (fun _ _=>rfl)) (bX xK (pv 3) aM (fun _ _=>rfl)) (bD _))))) (aE (aK (cO eR (pv 2) aM))) aU))) (aE (aK aM))),?_⟩
  refine Zx (bW (aA rfl)) (kt.sq H) (fun i σ H'=>i≤bs.length∧(∃ v1 v2:Option V,σ=[some (.ref a),some (.ref t),v1,v2])∧Same H H'∧iX 2 bs ns=iX (2 + i) (bs.drop i) (ns.drop i)) ⟨Nat.zero_le _,⟨_,_,rfl⟩,Same.refl H,rfl⟩ (fun i σ H' _ _=>kt.sq H') ?_ ?_
  ·rintro i y T σ H1 hi ⟨_,⟨v1,v2,rfl⟩,s1,eo⟩ hT
   obtain ⟨e0,he0,rfl⟩:=bF hi
   obtain ⟨b0,hb0,kb⟩:=kall.get he0
   obtain ⟨b,hb,rfl⟩:=bF hb0
   have hib:=(List.getElem?_eq_some_iff.mp hb).1
   obtain ⟨n,hn⟩:∃ n,ns[i]? = some n:=⟨_,List.getElem?_eq_getElem (by rw[hlen];exact hib)⟩
   rw[Pt hb hn] at eo
   have s2:=s1.over (o:=.tup [.int (i:Int),.ref e0]) (s1.free hT)
   have hat:Gs (ns.map V.int) (i:Int)=some (.int n):=wI (by rw[List.getElem?_map,hn];rfl)
   refine ⟨T,_,rfl,SqT.of aF,rfl,_,_,rfl,_,_,rfl,rfl,?_⟩
   refine lS (xO (aO (bH (bL (aA rfl) (aA rfl) (s2.seq hS) hat) (uX (aA rfl) aL (kb.sq _) (cY (j:=0) rfl rfl)))) (fun _=>aO (bH (bL (aA rfl) (aA rfl) (s2.seq hS) hat) (uX (aA rfl) aL (kb.sq _) (cY (j:=1) rfl rfl))))) (fun e=>?_) (fun e=>?_)
   ·rw[Bool.or_eq_true,decide_eq_true_iff,decide_eq_true_iff] at e
    rw[if_pos e] at eo
    rw[eo] at k
    refine cS ((bH (aA rfl) aL).to (x:=.int ((2 + i:Nat):Int)) ?_) (k _ s2)
    show V.int ((i:Int) + 2)=_
    congr 1
    omega
   ·rw[Bool.or_eq_false_iff,decide_eq_false_iff_not,decide_eq_false_iff_not] at e
    rw[if_neg (by omega)] at eo
    exact ⟨hib,⟨_,_,rfl⟩,s2,eo⟩
  ·rintro σ H1 ⟨_,⟨v1,v2,rfl⟩,s1,eo⟩
   have hl:(ts.map V.ref).length=bs.length:=by
    rw[List.length_map,kall.length]
    unfold bI
    rw[List.length_map]
   rw[hl,List.drop_of_length_le (Nat.le_refl _)] at eo
   have e0:iX (2 + bs.length) [] (ns.drop bs.length)=0:=by
    rw[List.drop_of_length_le (by omega)]
    rfl
   rw[e0] at eo
   rw[eo] at k
   exact cS aL (k _ s1)
theorem Lb {f:Addr}{fd:FuncData} (T:Txt P w K mg A) (D:Dn K mg "take_line" sK ["net","name","numbers"] f fd):bO P w K mg base eC 4 f fd ["net","name","numbers"] (Kd K A):=by
 obtain ⟨af_Closing,fd_Closing,I_Closing⟩:=T.Ic
 have G_Closing:=Dj (base:=base) T I_Closing
 obtain ⟨af_Junction,fd_Junction,I_Junction⟩:=T.Qx
 have G_Junction:=Mz (base:=base) T I_Junction
 obtain ⟨af_Road,fd_Road,I_Road⟩:=T.iz
 have G_Road:=aq (base:=base) T I_Road
 obtain ⟨af_Speed,fd_Speed,I_Speed⟩:=T.cg
 have G_Speed:=Ya (base:=base) T I_Speed
 obtain ⟨af_take_closing,fd_take_closing,D_take_closing⟩:=T.Eu
 have G_take_closing:=Aj (base:=base) T D_take_closing
 obtain ⟨af_take_junction,fd_take_junction,D_take_junction⟩:=T.Ax
 have G_take_junction:=yR (base:=base) T D_take_junction
 obtain ⟨af_take_road,fd_take_road,D_take_road⟩:=T.Nz
 have G_take_road:=Jq (base:=base) T D_take_road
 obtain ⟨af_take_speed,fd_take_speed,D_take_speed⟩:=T.Lf
 have G_take_speed:=Fp (base:=base) T D_take_speed
 have nd:=sc_take_line.nd
 refine D.fn.ok sc_take_line (fun vs H Q E h=>?_) (fun cdv Ar outer s H vs Q E hr h=>?_)
 ·obtain ⟨H0,p,g,lj,lr,ls,lc,m,x,ns,rfl,_⟩:=h
  rfl
 ·obtain ⟨H0,p,g,lj,lr,ls,lc,m,x,ns,rfl,s0,G,W,hx,hS,hlen,k⟩:=h
  refine ⟨_,(aC (bJ (aY fW (pv 1) kM (bD _)) (aE (aK (aG G_take_junction (hr.mono (by decide)) rfl D_take_junction.mg D_take_junction.fn.kp D_take_junction.bi .nil aN (aB (pv 0) (aB (hC I_Junction.ma G_Junction (hr.mono (by decide)) rfl T.dE.mg I_Junction.bi .nil aN (aB (bX bC (pv 2) aM (fun _ _=>rfl)) (aB (bX bC (pv 2) aM (fun _ _=>rfl)) aD))) aD))))) aU) (aC (bJ (aY fW (pv 1) kM (bD _)) (aE (aK (aG G_take_road (hr.mono (by decide)) rfl D_take_road.mg D_take_road.fn.kp D_take_road.bi .nil aN (aB (pv 0) (aB (hC I_Road.ma G_Road (hr.mono (by decide)) rfl T.dS.mg I_Road.bi .nil aN (aB (bX bC (pv 2) aM (fun _ _=>rfl)) (aB (bX bC (pv 2) aM (fun _ _=>rfl)) (aB (bX bC (pv 2) aM (fun _ _=>rfl)) (aB (bX bC (pv 2) aM (fun _ _=>rfl)) (aB (bX bC (pv 2) aM (fun _ _=>rfl)) aD)))))) aD))))) aU) (aC (bJ (aY fW (pv 1) kM (bD _)) (aE (aK (aG G_take_speed (hr.mono (by decide)) rfl D_take_speed.mg D_take_speed.fn.kp D_take_speed.bi .nil aN (aB (pv 0) (aB (hC I_Speed.ma G_Speed (hr.mono (by decide)) rfl T.eM.mg I_Speed.bi .nil aN (aB (bX bC (pv 2) aM (fun _ _=>rfl)) (aB (bX bC (pv 2) aM (fun _ _=>rfl)) (aB (bX bC (pv 2) aM (fun _ _=>rfl)) (aB (bX bC (pv 2) aM (fun _ _=>rfl)) (aB (bX bC (pv 2) aM (fun _ _=>rfl)) aD)))))) aD))))) aU) (aE (aK (aG G_take_closing (hr.mono (by decide)) rfl D_take_closing.mg D_take_closing.fn.kp D_take_closing.bi .nil aN (aB (pv 0) (aB (hC I_Closing.ma G_Closing (hr.mono (by decide)) rfl T.dC.mg I_Closing.bi .nil aN (aB (bX bC (pv 2) aM (fun _ _=>rfl)) (aB (bX bC (pv 2) aM (fun _ _=>rfl)) (aB (bX bC (pv 2) aM (fun _ _=>rfl)) aD)))) aD)))))))),?_⟩
  have sx:∀ y:Str,decide (V.str x=V.str y)=decide (x=y):=fun y=>by
   rw[Bool.eq_iff_iff,decide_eq_true_iff,decide_eq_true_iff]
   constructor
   ·intro h
    injection h
   ·rintro rfl
    rfl
  have at_:∀ i,i<ns.length→Gs (nI ns) (i:Int)=some (.int ((ns.getD i 0:Nat):Int)):=fun i h=>Wh (Je h)
  refine cB ((aO (fA (aA rfl) aL)).to (sx _)) (fun e=>?_) (fun e1=>?_)
  ·have ex:=of_decide_eq_true e
   rw[ex] at hlen
   have hlen:ns.length=2:=hlen
   unfold Lm at k
   rw[if_pos ex] at k
   refine fF (cK ((aA rfl) _ (cK (lW (bS (bL (aA rfl) aL hS (at_ 0 (by omega))) (bL (aA rfl) aL hS (at_ 1 (by omega)))) rfl fun y dy hy hdy=>?_))))
   exact ⟨H0,p,y,lj,lr,ls,lc,m,_,_,rfl,s0.trans (cP hy hdy),G.same (cP hy hdy),W,jP,k.fwd (cP hy hdy)⟩
  have n1:=of_decide_eq_false e1
  refine cB ((aO (fA (aA rfl) aL)).to (sx _)) (fun e=>?_) (fun e2=>?_)
  ·have ex:=of_decide_eq_true e
   rw[ex] at hlen
   have hlen:ns.length=5:=hlen
   unfold Lm at k
   rw[if_neg n1,if_pos ex] at k
   refine fF (cK ((aA rfl) _ (cK (lW (bA (bL (aA rfl) aL hS (at_ 0 (by omega))) (bA (bL (aA rfl) aL hS (at_ 1 (by omega))) (bA (bL (aA rfl) aL hS (at_ 2 (by omega))) (bS (bL (aA rfl) aL hS (at_ 3 (by omega))) (bL (aA rfl) aL hS (at_ 4 (by omega))))))) rfl fun y dy hy hdy=>?_))))
   exact ⟨H0,p,y,lj,lr,ls,lc,m,_,_,_,_,_,rfl,s0.trans (cP hy hdy),G.same (cP hy hdy),W,jP,k.fwd (cP hy hdy)⟩
  have n2:=of_decide_eq_false e2
  refine cB ((aO (fA (aA rfl) aL)).to (sx _)) (fun e=>?_) (fun e3=>?_)
  ·have ex:=of_decide_eq_true e
   rw[ex] at hlen
   have hlen:ns.length=5:=hlen
   unfold Lm at k
   rw[if_neg n1,if_neg n2,if_pos ex] at k
   refine fF (cK ((aA rfl) _ (cK (lW (bA (bL (aA rfl) aL hS (at_ 0 (by omega))) (bA (bL (aA rfl) aL hS (at_ 1 (by omega))) (bA (bL (aA rfl) aL hS (at_ 2 (by omega))) (bS (bL (aA rfl) aL hS (at_ 3 (by omega))) (bL (aA rfl) aL hS (at_ 4 (by omega))))))) rfl fun y dy hy hdy=>?_))))
   exact ⟨H0,p,y,lj,lr,ls,lc,m,_,_,_,_,_,rfl,s0.trans (cP hy hdy),G.same (cP hy hdy),W,jP,k.fwd (cP hy hdy)⟩
  have n3:=of_decide_eq_false e3
  have ex:x = "closed":=by
   simp[names] at hx
   rcases hx with q | q | q | q
   ·exact absurd q n1
   ·exact absurd q n2
   ·exact absurd q n3
   ·exact q
  rw[ex] at hlen
  have hlen:ns.length=3:=hlen
  unfold Lm at k
  rw[if_neg n1,if_neg n2,if_neg n3] at k
  refine bP (fF (cK ((aA rfl) _ (cK (lW (bA (bL (aA rfl) aL hS (at_ 0 (by omega))) (bS (bL (aA rfl) aL hS (at_ 1 (by omega))) (bL (aA rfl) aL hS (at_ 2 (by omega))))) rfl fun y dy hy hdy=>?_)))))
  exact ⟨H0,p,y,lj,lr,ls,lc,m,_,_,_,rfl,s0.trans (cP hy hdy),G.same (cP hy hdy),W,jP,k.fwd (cP hy hdy)⟩
end
theorem Ci {n d i:Nat} (h:i≤n):HT.sIx n d (some (i:Int))=i:=by
 rw[HT.sIx_nat]
 omega
theorem uC {xs:List V}{i:Nat} (h:i≤xs.length):xJ xs (some (i:Int)) none=xs.drop i:=by
 unfold xJ
 rw[Ci h]
 have e:HT.sIx xs.length xs.length none=xs.length:=by simp[HT.sIx]
 rw[e,List.take_of_length_le (by rw[List.length_drop];omega)]
theorem Mp {xs:List V}{i j:Nat} (h:i≤j) (hj:j≤xs.length):xJ xs (some (i:Int)) (some (j:Int))=(xs.drop i).take (j - i):=by
 unfold xJ
 rw[Ci (Nat.le_trans h hj),Ci hj]
def jz (K:PySem.W.Frag) (n:Nat) (tt:TT) (te:TE) (ws:List Nat) (σ:L2.St) (Q:VK) (x:V) (H:Hp):Prop:=∃ a':Addr,x=V.ref a'∧(∃ xs,SqL K H a' xs)∧∀ D,H D=none→∃ W:Nat→Nat→Hp→Prop,(∃ m,W 0 m (cA H D (.lst [])))∧∀ i m H,W i m H →
   ((yX K a').stop i H∧Q (.ref D) H)∨((yX K a').go i H∧∃ Nx:Hp→Prop,(∀ H',Nx H'→∃ m',m'<m∧W (i + 1) m' H')∧∀ x H',(yX K a').yld i H x H'→jC n x (eY σ ws) H' fun σ2 H2=>eY σ2 ws=eY σ ws∧tt σ2 H2 fun b H3=>
    if b=true then te σ2 H3 fun y H4=>∃ acc,H4 D=some (.lst acc)∧acc.length<sizeLine∧Nx (cA H4 D (.lst (acc ++ [y]))) else Nx H3)
theorem de {σ:L2.St}{H:Hp}{K:PySem.W.Frag}{tt:TT}{te tl:TE}{ws:List Nat}{n:Nat}{Q:VK} (h:tl σ H fun x H1=>jz K n tt te ws σ Q x H1):cv (wB K tl) (jC n) tt te ws σ H Q:=h
theorem Wn {α:Type}{σ:L2.St}{H:Hp}{K:PySem.W.Frag}{tt:TT}{te:TE}{ws:List Nat}{n:Nat}{a:Addr}{xs:List V}{zs:List α}{Q:VK} (P:α→Bool) (F:V→α→V) (hx:SqL K H a xs) (hz:zs.length=xs.length) (hlen:xs.length<sizeLine) (hw:∀ x:V,eY ((eY σ ws).set n (some x)) ws=eY σ ws)
  (hs:∀ (i:Nat) (x:V) (z:α),xs[i]? = some x→zs[i]? = some z→∀ H':Hp,Same H H'→EvT tt ((eY σ ws).set n (some x)) H' (P z)∧(P z=true→Ev te ((eY σ ws).set n (some x)) H' (F x z)))
  (hq:∀ D,H D=none→Q (.ref D) (cA H D (.lst (pX P F xs zs)))):jz K n tt te ws σ Q (.ref a) H:=Io P F hx hz hlen hw hs hq
theorem pH {σ:L2.St}{H:Hp}{K:PySem.W.Frag}{te:TE}{tl th:TO}{a:Addr}{xs ys:List V}{lo hi:Option Int}{Q:VK} (he:Ev te σ H (.ref a)) (hl:∀ R:Option Int→Hp→Prop,R lo H→tl σ H R) (hh:∀ R:Option Int→Hp→Prop,R hi H→th σ H R) (hx:SqL K H a xs) (e:xJ xs lo hi=ys) (q:∀ p,H p=none→Q (.ref p) (cA H p (.lst ys))):nu (fg K) te tl th σ H Q:=az he hl hh hx (by rw[e];exact q)
def Js (K:PySem.W.Frag) (A:Ad):Sp:=fun vs H Q _=>∃ (p g:Addr) (m:Net) (ns:List Nat),vs=[.ref p,.ref g]∧NetIs A H p m∧WF m∧SqL K H g (nI ns)∧ns.length≤2000 ∧
 (∀ e x H',Vbmiai.readNet m ns = .error e→e.1≠0→Same H H'→OA H' A.Reading (hU (.ref p) (.int (e.1:Int)) (.int (e.2.1:Int)) (.int (e.2.2:Int))) x→Q (.ref x) H') ∧
 (∀ k x q lj lr ls lc H',Vbmiai.readNet m ns = .ok k→WF k→Same H H'→Gr A H H' q lj lr ls lc k→OA H' A.Reading (hU (.ref q) (.int 0) (.int 0) (.int 0)) x→Q (.ref x) H')
theorem Dy {m:Net}{n:Nat}{l:List Nat}{r:List (List Nat)}:Vbmiai.readLines m n (l :: r)=match Vbmiai.line m l with
  | .error e=>.error (e.1,n + 1,e.2)
  | .ok k=>Vbmiai.readLines k (n + 1) r:=by
 rw[Vbmiai.readLines]
 rfl
theorem fw {K:PySem.W.Frag}{σ:L2.St}{H:Hp}{D:jB}{ta:TA}{g:TG}{tb s2:TS} (h:ta σ H fun vs H1=>∃ a xs,vs=[.ref a]∧SqL K H1 a xs∧∃ W:Nat→Nat→L2.St→Hp→Prop,(∃ m,W 0 m σ H1)∧∀ i m σ H,W i m σ H→((Vt K a).stop i H∧s2 D σ H)∨((Vt K a).go i H∧∃ N:L2.St→Hp→Prop,(∀ σ' H',N σ' H'→∃ m',m'<m∧W (i + 1) m' σ' H')∧∀ x H',(Vt K a).yld i H x H'→g x σ H' fun σ2 H2=>tb ⟨N,D.rt,s2 D,N⟩ σ2 H2)):pC (Fi (dh K ta) g tb) s2 D σ H:=h
theorem ak {K:PySem.W.Frag}{σ:L2.St}{H:Hp}{D:jB}{g:TG}{tb s2:TS}{a:Addr}{xs:List V} (hx:SqL K H a xs) (Pv:Nat→L2.St→Hp→Prop) (h0:Pv 0 σ H) (hl:∀ i σ H,i≤xs.length→Pv i σ H→SqL K H a xs)
  (hs:∀ i x T σ H,xs[i]? = some x→Pv i σ H→H T=none→g (.ref T) σ (cA H T (.tup [.int (i:Nat),x])) fun σ2 H2=>tb ⟨Pv (i + 1),D.rt,s2 D,Pv (i + 1)⟩ σ2 H2) (hd:∀ σ H,Pv xs.length σ H→s2 D σ H) :
  ∃ a' xs,[V.ref a]=[V.ref a']∧SqL K H a' xs∧∃ W:Nat→Nat→L2.St→Hp→Prop,(∃ m,W 0 m σ H)∧∀ i m σ H,W i m σ H→((Vt K a').stop i H∧s2 D σ H)∨((Vt K a').go i H∧∃ N:L2.St→Hp→Prop,(∀ σ' H',N σ' H'→∃ m',m'<m∧W (i + 1) m' σ' H')∧∀ x H',(Vt K a').yld i H x H'→g x σ H' fun σ2 H2=>tb ⟨N,D.rt,s2 D,N⟩ σ2 H2):=⟨a,xs,rfl,hx,Xx (D:={ D with nx:=s2 D }) Pv h0 hl hs hd⟩
section
variable {P:Program}{w:World}{K:PySem.W.Frag}{mg:Str→Option Value}{base:Heap}{A:Ad}
theorem Jz {f:Addr}{fd:FuncData} (T:Txt P w K mg A) (D:Dn K mg "read_line" sC ["net","words"] f fd):bO P w K mg base eC 5 f fd ["net","words"] (Kr K A):=by
 obtain ⟨af_first_outside,fd_first_outside,D_first_outside⟩:=T.Aw
 have G_first_outside:=yO (base:=base) T D_first_outside
 obtain ⟨af_form_name,fd_form_name,D_form_name⟩:=T.Nw
 have G_form_name:=La (base:=base) T D_form_name
 obtain ⟨af_number_of,fd_number_of,D_number_of⟩:=T.Nu
 have G_number_of:=Kg (base:=base) T D_number_of
 obtain ⟨af_signs_of,fd_signs_of,D_signs_of⟩:=T.vX
 have G_signs_of:=sH (base:=base) T D_signs_of
 obtain ⟨af_take_line,fd_take_line,D_take_line⟩:=T.Ny
 have G_take_line:=Lb (base:=base) T D_take_line
 obtain ⟨a_NO_FAULT,dD,k_NO_FAULT⟩:=T.dD
 obtain ⟨a_UNKNOWN_FIRST_WORD,gZ,k_UNKNOWN_FIRST_WORD⟩:=T.gZ
 obtain ⟨a_FORMS,t_0,t_1,t_2,t_3,qF,k_FORMS,kf0,kf1,kf2,kf3⟩:=T.qF
 obtain ⟨a_WRONG_WORD_COUNT,iW,k_WRONG_WORD_COUNT⟩:=T.iW
 have nd:=sc_read_line.nd
 refine D.fn.ok sc_read_line (fun vs H Q E h=>?_) (fun cdv Ar outer s H vs Q E hr h=>?_)
 ·obtain ⟨H0,p,l,lj,lr,ls,lc,m,ws,rfl,_⟩:=h
  rfl
 ·obtain ⟨H0,p,l,lj,lr,ls,lc,m,ws,rfl,s0,G,W,⟨as,hl,hall⟩,hlen,hne,k⟩:=h
  have hu:=nN hr
  have hu64:=hr.units
  refine ⟨_,(aC (bJ (PW.pt (yZ (aY fW (bU bG (by rfl) T.eP dL (aB (pv 1) aD)) aM (bD _)) (vC (aY (Oj hu64) (bX bC (pv 1) aM (fun _ _=>rfl)) (aG G_signs_of (hr.mono (by decide)) rfl D_signs_of.mg D_signs_of.fn.kp D_signs_of.bi .nil aN (aB (aW rfl T.Zh) aD)) (bD _))))) (aE (aK (fC (v:=.ref a_NO_FAULT) rfl dD rfl))) aU) (aC (aR (i:=2) nd rfl (Or.inl rfl) (aG G_form_name (hr.mono (by decide)) rfl D_form_name.mg D_form_name.fn.kp D_form_name.bi .nil aN (aB (bX bC (pv 1) aM (fun _ _=>rfl)) aD))) (aC (bJ (aY fW (pv 2) kM (bD _)) (aE (aK (fC (v:=.ref a_UNKNOWN_FIRST_WORD) rfl gZ rfl))) aU) (aC (aR (i:=3) nd rfl (Or.inl rfl) (Ce hu (fC (v:=.ref a_FORMS) rfl qF rfl) (pv 2) (fun _ _=>rfl))) (aC (bJ (aY Br (bU bG (by rfl) T.eP dL (aB (pv 1) aD)) (cO eR (bU bG (by rfl) T.eP dL (aB (pv 3) aD)) aM) (bD _)) (aE (aK (fC (v:=.ref a_WRONG_WORD_COUNT) rfl iW rfl))) aU) (aC (Cq (i:=4) rfl nd rfl rfl rfl (cH (pG uA (pv 1) (nP aM) Bi)) (blk (own:=[("word",6)])) (fun _ _ _ _ _=>by exact (bV (i:=6) nd rfl (Or.inl rfl))) (fun _ _ _ _ _=>by exact iI) (fun _ _ _ _ _=>by exact (aG G_number_of (hr.mono (by decide)) rfl D_number_of.mg D_number_of.fn.kp D_number_of.bi .nil aN (aB (pv 6) aD)))) (aC (aR (i:=5) nd rfl (Or.inl rfl) (aG G_first_outside (hr.mono (by decide)) rfl D_first_outside.mg D_first_outside.fn.kp D_first_outside.bi .nil aN (aB (pv 4) (aB (pv 3) aD)))) (aC (bJ (aY pD (pv 5) aM (bD _)) (aE (aK (lX (aB aM (aB (pv 5) aD))))) aU) (aE (aK (aG G_take_line (hr.mono (by decide)) rfl D_take_line.mg D_take_line.fn.kp D_take_line.bi .nil aN (aB (pv 0) (aB (pv 2) (aB (pv 4) aD)))))))))))))),?_⟩
  cases ws with
  | nil=>
   cases as with
   | cons _ _=>exact hall.elim
   | nil=>
    refine wC (((aO (fA (cW (bW (aA rfl)) (SqL.of hl)) aL)).to (c:=true) rfl) _ (iE (iE ?_)))
    exact cS aL (k a_NO_FAULT H s0 (Same.refl H).k4 G (k_NO_FAULT.sq H))
  | cons w0 ws=>
   cases as with
   | nil=>exact hall.elim
   | cons a0 as=>
    have ha0:H a0=some (.lst (nI w0)):=hall.1
    have hat:Gs ((a0 :: as).map V.ref) 0=some (.ref a0):=cY (j:=0) rfl rfl
    have hlw:=hall.2.length
    refine wC (((aO (fA (cW (bW (aA rfl)) (SqL.of hl)) aL)).to (c:=false) ?_) _ (rG (Sm (Lq ((bL (aA rfl) aL (SqL.of hl) hat) _ (bQ (bW aL) ⟨"rem",rfl,by decide,fun l1 hl1=>dg (SqL.of (bN hl1 _ _ ha0)) (SqL.of aF) ⟨_,rfl,?_⟩⟩))))))
    ·rw[decide_eq_false_iff_not]
     intro z
     injection z with z
     rw[List.map_cons,List.length_cons] at z
     omega
    have s1:Same H (cA H l1 (.lst (nI ("rem" : Str).cps.toList))):=bN hl1
    rw[←io] at s1 ⊢
    refine Vy (fun e=>?_) (fun e=>?_)
    ·have er:lineW m (w0 :: ws) = .ok m:=by
      unfold lineW
      dsimp only
      rw[if_pos (of_decide_eq_true e)]
     rw[er] at k
     exact cS aL (k a_NO_FAULT _ (s0.trans s1) s1.k4 (G.same s1) (k_NO_FAULT.sq _))
    have hr0:w0≠Vbmiai.text "rem":=of_decide_eq_false (Bool.eq_false_iff.mpr e)
    refine bZ (bQ (bW (bL (aA rfl) aL (SqL.of (s1 _ _ hl)) hat)) ⟨a0,w0,rfl,SqL.of (s1 _ _ ha0),fun H2 s2=>?_⟩)
    have s12:=s1.trans s2
    rcases He w0 hr0 m ws with ⟨en,el⟩ | ⟨hmem,hnn,el⟩
    ·rw[el] at k
     rw[en]
     refine cB ((aO (fA (aA rfl) aL)).to (c:=true) (by decide)) (fun _=>tY aL k_UNKNOWN_FIRST_WORD (k.fwd s12)) (fun e=>?_)
     cases e
    ·rw[el,jT] at k
     generalize nm w0=x at hmem hnn k
     refine cB ((aO (fA (aA rfl) aL)).to (c:=false) ?_) (fun e=>?_) (fun _=>?_)
     ·rw[decide_eq_false_iff_not]
      intro z
      injection z with z
      exact hnn z
     ·cases e
     obtain ⟨t,hv,kf⟩:∃ t,lD ([(.inr "junction",.ref t_0),(.inr "road",.ref t_1),(.inr "speed",.ref t_2),(.inr "closed",.ref t_3)]:List (fJ×V)) (.inr x)=some (.ref t)∧Og K t (bI (Vs x)):=by
      simp[names] at hmem
      rcases hmem with rfl | rfl | rfl | rfl
      ·exact ⟨t_0,by kernel_rfl,kf0⟩
      ·exact ⟨t_1,by kernel_rfl,kf1⟩
      ·exact ⟨t_2,by kernel_rfl,kf2⟩
      ·exact ⟨t_3,by kernel_rfl,kf3⟩
     obtain ⟨ts,kt,kall⟩:=id kf
     have htl:ts.length=(Vs x).length:=by
      rw[kall.length]
      unfold bI
      rw[List.length_map]
     refine cC (Cc (k:=.inr x) aL (aA rfl) k_FORMS hv) ?_
     refine cB ((aO (yY (cW (bW (aA rfl)) (SqL.of (s12 _ _ hl))) (bH (bw (bW (aA rfl)) (kt.sq H2)) aL))).to (c:=decide (ws.length≠(Vs x).length)) ?_) (fun e=>?_) (fun e=>?_)
     ·rw[List.length_map,List.length_map,List.length_cons,hlw,htl,Bool.eq_iff_iff,Bool.not_eq_true',decide_eq_false_iff_not,decide_eq_true_iff]
      constructor
      ·intro h h'
       refine h ?_
       show V.int _=V.int _
       congr 1
       omega
      ·intro h h'
       refine h ?_
       injection h' with h'
       omega
     ·rw[if_pos (of_decide_eq_true e)] at k
      exact tY aL k_WRONG_WORD_COUNT (k.fwd s12)
     have hwl:=of_decide_eq_false e
     rw[if_neg hwl] at k
     have hwl:ws.length=(Vs x).length:=by omega
     have ecut:xJ ((a0 :: as).map V.ref) (some 1) none=as.map V.ref:=uC (i:=1) (by simp)
     refine bZ (de (pH (aA rfl) (iZ aL) uF (SqL.of (s12 _ _ hl)) ecut fun p1 hp1=>?_))
     have s3:=s12.over (o:=.lst (as.map V.ref)) (s12.free hp1)
     refine Wn (xs:=as.map V.ref) (zs:=ws) (fun _=>true) (fun _ w=>.int (fK w)) (SqL.of aF) (by rw[List.length_map];exact hlw.symm) (by rw[List.length_map,hlw,sizeLine_eq];rw[List.length_cons] at hlen;omega) ?_ (fun i y z hi hz H' sm=>⟨lG,fun _=>?_⟩) (fun D hD=>?_)
     ·exact fun _=>rfl
     ·obtain ⟨b,hb,rfl⟩:=bF hi
      obtain ⟨z',hz',hob⟩:=hall.2.get hb
      rw[hz] at hz'
      cases hz'
      exact aZ (bW (aA rfl)) fun Q q=>⟨b,z,rfl,SqL.of (sm _ _ (s3 _ _ hob)),hne z (List.mem_cons_of_mem _ (List.mem_of_getElem? hz)),q⟩
     rw[jH _ _ _ _ (by rw[List.length_map];exact hlw.symm),lZ]
     have ei:ws.map (fun w=>V.int (fK w))=(ws.map fK).map V.int:=by rw[List.map_map];rfl
     rw[ei]
     have s4:=s3.over (o:=.lst ((ws.map fK).map V.int)) (s3.free hD)
     refine bZ (bQ (bS (aA rfl) (aA rfl)) ⟨D,t,ws.map fK,Vs x,rfl,SqL.of aF,kf,by rw[List.length_map];exact hwl,fun H5 s5=>?_⟩)
     have s45:=s4.trans s5
     refine cB ((aO (bH (aA rfl) aL)).to (c:=decide (0<iX 2 (Vs x) (ws.map fK))) (by rw[Bool.eq_iff_iff,decide_eq_true_iff,decide_eq_true_iff];omega)) (fun e=>?_) (fun e=>?_)
     ·have:=of_decide_eq_true e
      rw[if_neg (by omega)] at k
      exact lH (bS aL (aA rfl)) (k.fwd s45)
     have ho:iX 2 (Vs x) (ws.map fK)=0:=by
      have:=of_decide_eq_false e
      omega
     rw[if_pos ho] at k
     have hnn':(ws.map fK).map V.int=nI (ws.map fun w=>(fK w).toNat):=by
      unfold nI
      rw[List.map_map,List.map_map]
      apply List.map_congr_left
      intro w hw
      obtain ⟨i,hi⟩:=List.getElem?_of_mem hw
      have hib:i<(Vs x).length:=by
       rw[←hwl]
       exact (List.getElem?_eq_some_iff.mp hi).1
      have:=Cl (Vs x) (ws.map fK) 2 (by decide) ho i _ (fK w) (List.getElem?_eq_getElem hib) (by rw[List.getElem?_map,hi];rfl)
      show V.int (fK w)=V.int (((fK w).toNat:Nat):Int)
      congr 1
      omega
     refine bP (bQ (bA (aA rfl) (bS (aA rfl) (aA rfl))) ⟨H0,p,D,lj,lr,ls,lc,m,x,ws.map fun w=>(fK w).toNat,rfl,s0.trans s45,G.same s45,W,hmem,?_,by rw[List.length_map];exact hwl,k.fwd s45⟩)
     rw[←hnn']
     exact SqL.of (s5 _ _ aF)
theorem wY {f:Addr}{fd:FuncData} (T:Txt P w K mg A) (D:Dn K mg "read_text" rY ["net","text"] f fd):bO P w K mg base eC 6 f fd ["net","text"] (Js K A):=by
 obtain ⟨af_Reading,fd_Reading,I_Reading⟩:=T.Vk
 have G_Reading:=Pn (base:=base) T I_Reading
 obtain ⟨af_copy_net,fd_copy_net,D_copy_net⟩:=T.vW
 have G_copy_net:=sP (base:=base) T D_copy_net
 obtain ⟨af_lines_of,fd_lines_of,D_lines_of⟩:=T.Qy
 have G_lines_of:=Nf (base:=base) T D_lines_of
 obtain ⟨af_read_line,fd_read_line,D_read_line⟩:=T.Nv
 have G_read_line:=Jz (base:=base) T D_read_line
 obtain ⟨af_words_of,fd_words_of,D_words_of⟩:=T.Qz
 have G_words_of:=Nm (base:=base) T D_words_of
 obtain ⟨a_NO_FAULT,dD,k_NO_FAULT⟩:=T.dD
 have nd:=sc_read_text.nd
 refine D.fn.ok sc_read_text (fun vs H Q E h=>?_) (fun cdv Ar outer s H vs Q E hr h=>?_)
 ·obtain ⟨p,g,m,ns,rfl,_⟩:=h
  rfl
 ·obtain ⟨p,g,m,ns,rfl,NN,W,hS,h2000,k1,k2⟩:=h
  have hu64:=hr.units
  refine ⟨_,(aC (aR (i:=2) nd rfl (Or.inl rfl) (aG G_copy_net (hr.mono (by decide)) rfl D_copy_net.mg D_copy_net.fn.kp D_copy_net.bi .nil aN (aB (pv 0) aD))) (aC (eK PassesOwn.never rfl (bx rfl T.zV (aB (aG G_lines_of (hr.mono (by decide)) rfl D_lines_of.mg D_lines_of.fn.kp D_lines_of.bi .nil aN (aB (pv 1) aD)) aD)) (Ow rfl (pE (bV (i:=3) nd rfl (Or.inl rfl)) (pE (bV (i:=4) nd rfl (Or.inl rfl)) Jd))) (aC (aR (i:=5) nd rfl (Or.inl rfl) (aG G_read_line (hr.mono (by decide)) rfl D_read_line.mg D_read_line.fn.kp D_read_line.bi .nil aN (aB (pv 2) (aB (aG G_words_of (hr.mono (by decide)) rfl D_words_of.mg D_words_of.fn.kp D_words_of.bi .nil aN (aB (pv 4) aD)) aD)))) (aE (bJ (aY (gu hu64) (pv 5) (fC (v:=.ref a_NO_FAULT) rfl dD rfl) (bD _)) (aE (aK (hC I_Reading.ma G_Reading (hr.mono (by decide)) rfl T.eB.mg I_Reading.bi .nil aN (aB (pv 0) (aB (bX xK (pv 5) aM (fun _ _=>rfl)) (aB (cO eR (pv 3) aM) (aB (bX xK (pv 5) aM (fun _ _=>rfl)) aD))))))) aU)))) (aE (aK (hC I_Reading.ma G_Reading (hr.mono (by decide)) rfl T.eB.mg I_Reading.bi .nil aN (aB (pv 2) (aB aM (aB aM (aB aM aD))))))))),?_⟩
  refine bZ (bQ (bW (aA rfl)) ⟨p,m,rfl,NN,fun q lj lr ls lc H1 s1 G=>?_⟩)
  refine fw (cK (bQ (bW (aA rfl)) ⟨g,ns,rfl,s1.seq hS,h2000,fun ll H2 s2 nl L=>?_⟩))
  obtain ⟨as,hl,hall⟩:=L
  have nlj:∀ {b:Addr},H1 b=none→b≠lj∧b≠lr∧b≠ls∧b≠lc:=fun hb=>by
   obtain ⟨_,j1,_⟩:=G.net.js
   obtain ⟨_,r1,_⟩:=G.net.rs
   obtain ⟨_,t1,_⟩:=G.net.ss
   obtain ⟨_,c1,_⟩:=G.net.cs
   exact ⟨(aQ j1 hb).symm,(aQ r1 hb).symm,(aQ t1 hb).symm,(aQ c1 hb).symm⟩
  have keep:∀ {Ha Hb:Hp}{b:Addr}{o:HO},K4 lj lr ls lc Ha Hb→H1 b=none→Ha b=some o→Hb b=some o:=fun k4 hb h=>by
   obtain ⟨n1,n2,n3,n4⟩:=nlj hb
   exact k4 _ _ h n1 n2 n3 n4
  refine ak (xs:=as.map V.ref) (SqL.of hl) (fun i σ H'=>(∃ v1 v2 v3:Option V,σ=[some (.ref p),some (.ref g),some (.ref q),v1,v2,v3])∧Same H H'∧H' ll=some (.lst (as.map V.ref))∧All2 (fun a w=>H' a=some (.lst (nI w))∧H1 a=none) as (Vbmiai.linesOf ns)∧∃ mi,Gr A H H' q lj lr ls lc mi∧WF mi∧Vbmiai.readNet m ns=Vbmiai.readLines mi i ((Vbmiai.linesOf ns).drop i)) ⟨⟨_,_,_,rfl⟩,s1.trans s2,hl,hall,m,G.same s2,W,rfl⟩ (fun i σ H' _ h=>SqL.of h.2.2.1) ?_ ?_
  ·rintro i y T' σ H3 hi ⟨⟨v1,v2,v3,rfl⟩,s3,h1,hall3,mi,G3,W3,er⟩ hT
   obtain ⟨b,hb,rfl⟩:=bF hi
   obtain ⟨ln,hln,hbl,hbn⟩:=hall3.get hb
   rw[pN hln,Dy,bm] at er
   have s4:Same H3 (cA H3 T' (.tup [.int (i:Int),.ref b])):=bN hT
   have s34:=s3.trans s4
   have hllen:ln.length≤2000:=Nat.le_trans (Bv 10 ns ln (List.mem_of_getElem? hln)) h2000
   refine ⟨T',_,rfl,SqT.of aF,rfl,_,_,rfl,_,_,rfl,rfl,?_⟩
   refine bZ (fF (cK ((aA rfl) _ (cK (bQ (bW (aA rfl)) ⟨b,ln,rfl,SqL.of (s4 _ _ hbl),hllen,fun wl H5 s5 nw L5=>?_⟩)))))
   obtain ⟨was,hwl,hwall⟩:=L5
   have s35:=s34.trans s5
   have G5:=(G3.same s4).same s5
   have hwlen:(Vbmiai.wordsOf ln).length≤2001:=by
    unfold Vbmiai.wordsOf
    refine Nat.le_trans (List.length_filter_le _ _) ?_
    have:=Bh 32 ln
    omega
   refine ⟨H,q,wl,lj,lr,ls,lc,mi,Vbmiai.wordsOf ln,rfl,s35,G5,W3,⟨was,hwl,hwall.imp fun _ _ z=>z.1⟩,hwlen,fun w hw=>?_,?_⟩
   ·have:=(List.mem_filter.mp hw).2
    intro z
    rw[z] at this
    cases this
   cases el:lineW mi (Vbmiai.wordsOf ln) with
   | error e=>
    rw[el] at er
    dsimp only at er
    have hk:=Xy el
    intro r H6 s6 ht
    have s36:=s35.trans s6
    show Fk _ _ _ _ _ _
    refine lS ((aO (Xd (aA rfl) aL ht (k_NO_FAULT.sq H6))).to (c:=true) ?_) (fun _=>?_) (fun e=>?_)
    ·rw[Bool.not_eq_true',decide_eq_false_iff_not]
     omega
    ·refine bP (lW (bA (aA rfl) (bA (uX (aA rfl) aL ht (cY (j:=0) rfl rfl)) (bS ((bH (aA rfl) aL).to (x:=.int ((i + 1:Nat):Int)) rfl) (uX (aA rfl) aL ht (cY (j:=1) rfl rfl))))) rfl fun x dx hx hd=>?_)
     exact k1 (e.1,i + 1,e.2) x _ er hk (s36.trans (cP hx hd)) jP
    ·cases e
   | ok kk=>
    rw[el] at er
    dsimp only at er
    intro r H6 s6 k4 G6 ht
    show Fk _ _ _ _ _ _
    refine lS ((aO (Xd (aA rfl) aL ht (k_NO_FAULT.sq H6))).to (c:=false) rfl) (fun e=>?_) (fun _=>?_)
    ·cases e
    have kk4:∀ {b:Addr}{o:HO},H1 b=none→H3 b=some o→H6 b=some o:=fun hb h=>keep k4 hb (s5 _ _ (s4 _ _ h))
    refine ⟨⟨_,_,_,rfl⟩,s6,kk4 nl h1,hall3.imp fun _ _ z=>⟨kk4 z.2 z.1,z.2⟩,kk,G6,W3.lineW el,er⟩
  ·rintro σ H3 ⟨⟨v1,v2,v3,rfl⟩,s3,h1,hall3,mi,G3,W3,er⟩
   rw[List.length_map,hall.length,List.drop_of_length_le (Nat.le_refl _)] at er
   have er:Vbmiai.readNet m ns = .ok mi:=er
   refine bP (lW (bA (aA rfl) (bA aL (bS aL aL))) rfl fun x dx hx hd=>?_)
   exact k2 mi x q lj lr ls lc _ er W3 (s3.trans (cP hx hd)) (G3.same (cP hx hd)) jP
end
open Vbmiai (State stepRows)
theorem _root_.L2.Same.kp {a b:Addr}{H H':Hp} (s:Same H H'):Kp a b H H':=fun c o h _ _=>s c o h
def Ih (A:Ad) (ok:List (List Int)→Prop):Sp:=fun vs H Q _=>∃ (a lb g:Addr) (s:State) (c:List (List Int)),ok c∧vs=[.ref a,.ref g]∧MineAt A H a lb s∧H g=some (.lst ((kF c).map V.int))∧(kF c).length≤17000 ∧
 ∀ l H',Kp a lb H H'→H l=none→H' l=some (.lst ((stepRows s c).2.map V.int))→MineAt A H' a lb (stepRows s c).1→Q (.ref l) H'
theorem eN {s:State}{rows:Vbmiai.Rows}{ok:Bool}{c:Vbmiai.Call} (h:Vbmiai.callOf rows=Vbmiai.ranged ok c) (e:ok=false):stepRows s rows=(s,[-1]):=by
 unfold stepRows
 rw[h,e]
 rfl
theorem gH {s:State}{rows:Vbmiai.Rows}{ok:Bool}{c:Vbmiai.Call} (h:Vbmiai.callOf rows=Vbmiai.ranged ok c) (e:ok=true):stepRows s rows=Vbmiai.step s c:=by
 unfold stepRows
 rw[h,e]
 rfl
theorem lF (l:List Nat):(Vbmiai.ints l).map V.int=nI l:=by
 unfold Vbmiai.ints nI
 rw[List.map_map]
 rfl
theorem nY {z:Int} (h:Vbmiai.within z 0 1=true):z=lI (z.toNat == 1):=by
 unfold Vbmiai.within at h
 rw[Bool.and_eq_true,decide_eq_true_iff,decide_eq_true_iff] at h
 have:z=0∨z=1:=by omega
 rcases this with rfl | rfl <;> rfl
theorem bM {z lo hi:Int} (h:Vbmiai.within z lo hi=true) (h0:0≤lo):∃ n:Nat,z=(n:Int)∧lo≤(n:Int)∧(n:Int)≤hi:=by
 unfold Vbmiai.within at h
 rw[Bool.and_eq_true,decide_eq_true_iff,decide_eq_true_iff] at h
 exact ⟨z.toNat,by omega,by omega,by omega⟩
theorem wG (o:Option Nat):Vbmiai.optional o=jN o:=by cases o <;> rfl
theorem Mb {a:Nat} (h:a≠0):decide (V.int (a:Int)=V.int 0)=false:=by
 rw[decide_eq_false_iff_not]
 intro z
 injection z with z
 omega
theorem Rm {A:Ad}{H H1:Hp}{a lb l:Addr}{s:State} (kp:Kp a lb H H1) (M1:MineAt A H1 a lb s) (hl:H1 l=none):H l=none:=by
 cases hq:H l with
 | none=>rfl
 | some o=>
  by_cases z1:l=a
  ·obtain ⟨dx3,q3,ha3,_⟩:=M1.ob
   rw[z1,ha3] at hl
   cases hl
  ·by_cases z2:l=lb
   ·obtain ⟨_,z,_⟩:=M1.bf
    rw[z2,z] at hl
    cases hl
   ·rw[kp l o hq z1 z2] at hl
    cases hl
def xE (A:Ad):Sp:=fun vs H Q _=>∃ (x p:Addr) (a b c:Nat),vs=[.ref x]∧OA H A.Reading (hU (.ref p) (.int (a:Int)) (.int (b:Int)) (.int (c:Int))) x∧((a≠0∧∀ l,H l=none→Q (.ref l) (cA H l (.lst [.int 0,.int (a:Int),.int (b:Int),.int (c:Int)]))) ∨
 (a=0∧∃ m:Net,NetIs A H p m∧∀ l,H l=none→Q (.ref l) (cA H l (.lst [.int 0,.int 0,.int (m.junctions.length:Int),.int (m.roads.length:Int)]))))
theorem MineAt.net {A:Ad}{H:Hp}{a lb:Addr}{s:State} (M:MineAt A H a lb s):∃ dx p,H a=some (.ins A.Mine dx (fY (.ref p) (.ref lb)))∧NetIs A H p s.net∧NetIn A H lb p s.net:=by
 obtain ⟨dx,p,h1,h2⟩:=M.ob
 exact ⟨dx,p,h1,h2.is,h2⟩
theorem Nq {a b c d x y:V}:(hU a b c d).map (·.1)≠(fY x y).map (·.1):=by
 show (["net","kind","line","word"]:List Str)≠(["net","before"]:List Str)
 decide
theorem gO {A:Ad}{H:Hp}{a lb:Addr}{s:State}{c:List (List Int)}{Q:VK} (M:MineAt A H a lb s) (k:∀ l H',Kp a lb H H'→H l=none→H' l=some (.lst ((stepRows s c).2.map V.int))→MineAt A H' a lb (stepRows s c).1→Q (.ref l) H') {r:List Int} (e:stepRows s c=(s,r)) {l:Addr}{H':Hp} (s1:Same H H') (n:H l=none) (h:H' l=some (.lst (r.map V.int))):Q (.ref l) H':=by
 rw[e] at k
 exact k l H' s1.kp n h (M.same s1)
theorem cD {σ:L2.St}{A:Ad}{H0 H:Hp}{a lb:Addr}{s:State}{c:List (List Int)}{Q:VK}{te:TE}{z:Int} (M:MineAt A H0 a lb s) (k:∀ l H',Kp a lb H0 H'→H0 l=none→H' l=some (.lst ((stepRows s c).2.map V.int))→MineAt A H' a lb (stepRows s c).1→Q (.ref l) H') (s0:Same H0 H) (he:Ev te σ H (.int z)) (e:stepRows s c=(s,[z])):Zq (gJ te lQ) σ H Q :=
 dI (bW he) (by show 1≤sizeLine;decide) fun p hp=>gO M k e (s0.over (s0.free hp)) (s0.free hp) aF
theorem Vw {σ:L2.St}{A:Ad}{H:Hp}{Q:VK}{tm tl ta tt:TE}{E E':XK}{p:Addr}{m:Net}{l:Bool}{a t:Nat} (hm:Ev tm σ H (.ref p)) (hl:Ev tl σ H (.int (lI l))) (ha:∀ H',Same H H'→Ev ta σ H' (.int (a:Int))) (ht:∀ H',Same H H'→Ev tt σ H' (.int (t:Int))) (NN:NetIs A H p m) (W:WF m) (hj:Vbmiai.hasJunction m a=true)
  (k:∀ d ks H',Same H H'→H d=none→H' d=some (.dK (gN ks))→qW m l a t (look ks)→Q (.ref d) H'):zB (zJ A) [] E (gJ (zB (wZ A) [] E' (gJ tm (gJ tl lQ))) (gJ ta (gJ tt lQ))) σ H Q:=by
 refine fF (cK (bQ (bS hm hl) ⟨p,m,l,rfl,NN,W,fun x H1 s1 nx L=>(bS (ha H1 s1) (ht H1 s1)) _ ?_⟩))
 exact ⟨x,m,_,_,a,t,_,rfl,L,W.caps hj,fun d ks H2 s2 nd hd R G=>k d ks H2 (s1.trans s2) (s1.free nd) hd G⟩
theorem Qg {m:Net} (W:WF m) {l:Bool}{a t:Nat}{ks:rD} (G:qW m l a t (look ks)) (hj:Vbmiai.hasJunction m a=true):((Vbmiai.times m a t l).map fun x=>Vbmiai.optional x.2).map V.int=m.junctions.map fun j=>V.int (jN (look ks j.number)):=by
 rw[W.times_list G hj,List.map_map,List.map_map]
 apply List.map_congr_left
 intro x _
 show V.int (Vbmiai.optional (look ks x.number))=_
 rw[wG]
theorem pP {α:Type}{o:Option α} (h:o.isSome=true):∃ x,o=some x:=by
 cases o with
 | none=>cases h
 | some x=>exact ⟨x,rfl⟩
theorem pL {α:Type}{o:Option α} (h:o.isSome=false):o=none:=by
 cases o with
 | none=>rfl
 | some x=>cases h
section
variable {P:Program}{w:World}{K:PySem.W.Frag}{mg:Str→Option Value}{base:Heap}{A:Ad}
theorem nX {f:Addr}{fd:FuncData} (T:Txt P w K mg A) (D:Dn K mg "reading_answer" jV ["reading"] f fd):bO P w K mg base eC 1 f fd ["reading"] (xE A):=by
 have nd:=sc_reading_answer.nd
 refine D.fn.ok sc_reading_answer (fun vs H Q E h=>?_) (fun cdv Ar outer s H vs Q E hr h=>?_)
 ·obtain ⟨x,p,a,b,c,rfl,_⟩:=h
  rfl
 ·obtain ⟨x,p,a,b,c,rfl,⟨dx,ho⟩,k⟩:=h
  refine ⟨_,(aC (bJ (aY Br (aI (pv 0) rfl) aM (bD _)) (aE (aK (bE (aB (aW rfl T.gG) (aB (aI (pv 0) rfl) (aB (aI (pv 0) rfl) (aB (aI (pv 0) rfl) aD))))))) aU) (aE (aK (bE (aB (aW rfl T.gG) (aB aM (aB (bU bG (by rfl) T.eP dL (aB (aI (aI (pv 0) rfl) rfl) aD)) (aB (bU bG (by rfl) T.eP dL (aB (aI (aI (pv 0) rfl) rfl) aD)) aD)))))))),?_⟩
  rcases k with ⟨h0,k⟩ | ⟨h0,m,⟨lj,lr,ls,lc,N⟩,k⟩
  ·refine cB ((aO (yY (aH (aA rfl) ho T.eB.cl T.gB gK) aL)).to (c:=true) ?_) (fun _=>?_) (fun e=>by cases e)
   ·rw[Mb h0]
    rfl
   ·exact dI (bA aL (bA (aH (aA rfl) ho T.eB.cl T.gB gK) (bS (aH (aA rfl) ho T.eB.cl T.tR Aa) (aH (aA rfl) ho T.eB.cl T.tS Ak)))) (by show 4≤sizeLine;decide) k
  ·subst h0
   obtain ⟨dp,hp⟩:=N.ob
   obtain ⟨as1,b1,c1⟩:=N.js
   obtain ⟨as2,b2,c2⟩:=N.rs
   refine cB ((aO (yY (aH (aA rfl) ho T.eB.cl T.gB gK) aL)).to (c:=false) rfl) (fun e=>by cases e) (fun _=>?_)
   refine bP (dI (bA aL (bA aL (bS (cW (bW (aH (aH (aA rfl) ho T.eB.cl T.kC mO) hp T.dQ.cl T.cN cQ)) (SqL.of b1)) (cW (bW (aH (aH (aA rfl) ho T.eB.cl T.kC mO) hp T.dQ.cl T.eV eT)) (SqL.of b2))))) (by show 4≤sizeLine;decide) ?_)
   rw[List.length_map,List.length_map,c1.length,c2.length]
   exact k
theorem Ea {f:Addr}{fd:FuncData} (T:Txt P w K mg A) (D:Dn K mg "answer_read" oQ ["mine","given"] f fd):bO P w K mg base eC 7 f fd ["mine","given"] (Ih A (fun c=>∃ t,c=[[0],t])):=by
 obtain ⟨af_Mine_change,fd_Mine_change,M_Mine_change⟩:=T.oX
 have G_Mine_change:=mV (base:=base) T M_Mine_change
 obtain ⟨af_is_text,fd_is_text,D_is_text⟩:=T.Ie
 have G_is_text:=Dr (base:=base) T D_is_text
 obtain ⟨af_read_text,fd_read_text,D_read_text⟩:=T.zS
 have G_read_text:=wY (base:=base) T D_read_text
 obtain ⟨af_reading_answer,fd_reading_answer,D_reading_answer⟩:=T.pV
 have G_reading_answer:=nX (base:=base) T D_reading_answer
 have nd:=sc_answer_read.nd
 refine D.fn.ok sc_answer_read (fun vs H Q E h=>?_) (fun cdv Ar outer s H vs Q E hr h=>?_)
 ·obtain ⟨a,lb,g,s0,c,_,rfl,_⟩:=h
  rfl
 ·obtain ⟨a,lb,g,s0,c,⟨t,rfl⟩,rfl,M,hg,hl,k⟩:=h
  refine ⟨_,(aC (bJ (dJ (bK (aG G_is_text (hr.mono (by decide)) rfl D_is_text.mg D_is_text.fn.kp D_is_text.bi .nil aN (aB (pv 1) aD)))) (aE (aK (bE (aB (aW rfl T.eG) aD)))) aU) (aC (aR (i:=2) nd rfl (Or.inl rfl) (aG G_read_text (hr.mono (by decide)) rfl D_read_text.mg D_read_text.fn.kp D_read_text.bi .nil aN (aB (aI (pv 0) rfl) (aB (pv 1) aD)))) (aC (bJ (aY fW (aI (pv 2) rfl) aM (bD _)) (aE (cI (Jj (pv 0) T.bT.cl M_Mine_change.me G_Mine_change (hr.mono (by decide)) M_Mine_change.bi .nil aN (aB (aI (pv 2) rfl) aD)))) aU) (aE (aK (aG G_reading_answer (hr.mono (by decide)) rfl D_reading_answer.mg D_reading_answer.fn.kp D_reading_answer.bi .nil aN (aB (pv 2) aD))))))),?_⟩
  have eg:kF [[0],t]=t:=by
   show [] ++ (t ++ [])=t
   simp
  rw[eg] at hg hl
  obtain ⟨dx,p,ha,NN,NI⟩:=M.net
  have rg:Vbmiai.callOf [[0],t]=Vbmiai.ranged (Vbmiai.isText t) (.read (Vbmiai.nats t)):=rfl
  refine wC (bQ (bW (aA rfl)) ⟨g,t,rfl,SqL.of hg,by rw[sizeLine_eq];omega,fun H1 s1=>⟨_,rfl,?_⟩⟩)
  cases e:Vbmiai.isText t with
  | false=>exact iE (bP (cD M k s1 aL (eN rg e)))
  | true=>
   refine rG ?_
   have es:stepRows s0 [[0],t]=_:=gH (s:=s0) rg e
   have hb:=e
   unfold Vbmiai.isText at hb
   rw[Bool.and_eq_true,decide_eq_true_iff,List.all_eq_true] at hb
   have en:t.map V.int=nI (Vbmiai.nats t):=by
    unfold nI Vbmiai.nats
    rw[List.map_map]
    apply List.map_congr_left
    intro z hz
    obtain ⟨n,rfl,_⟩:=bM (hb.2 z hz) (Int.le_refl 0)
    rfl
   rw[en] at hg
   have hlen:(Vbmiai.nats t).length≤2000:=by
    unfold Vbmiai.nats
    rw[List.length_map]
    exact hb.1
   obtain ⟨ps,hbf,_⟩:=M.bf
   refine bZ (bQ (bS (aH (aA rfl) (s1 _ _ ha) T.bT.cl T.bB aX) (aA rfl)) ⟨p,g,s0.net,Vbmiai.nats t,rfl,NN.same s1,M.wf,SqL.of (s1 _ _ hg),hlen,fun e x H2 hr h0 s2 hx=>?_,fun kk x q lj lr ls lc H2 hr Wk s2 G hx=>?_⟩)
   ·obtain ⟨dr,hx⟩:=hx
    have ef:stepRows s0 [[0],t]=(s0,Vbmiai.faulty e):=by
     rw[es]
     show (match Vbmiai.readNet s0.net (Vbmiai.nats t) with
      | .error e=>(s0,Vbmiai.faulty e)
      | .ok k=>Vbmiai.onward s0 k (Vbmiai.sizes k))=_
     rw[hr]
    refine So ((aO (fA (aH (aA rfl) hx T.eB.cl T.gB gK) aL)).to (c:=false) ?_) (fun z=>by cases z) (fun _=>?_)
    ·exact Mb h0
    ·refine bP (bQ (bW (aA rfl)) ⟨x,p,_,_,_,rfl,⟨dr,hx⟩,.inl ⟨h0,fun l hl=>?_⟩⟩)
     have s12:=s1.trans s2
     exact gO M k ef (s12.over (s12.free hl)) (s12.free hl) aF
   ·obtain ⟨dr,hx⟩:=hx
    have ef:stepRows s0 [[0],t]=(⟨kk,(s0.net :: s0.past).take Vbmiai.PAST⟩,Vbmiai.sizes kk):=by
     rw[es]
     show (match Vbmiai.readNet s0.net (Vbmiai.nats t) with
      | .error e=>(s0,Vbmiai.faulty e)
      | .ok k=>Vbmiai.onward s0 k (Vbmiai.sizes k))=_
     rw[hr]
     rfl
    rw[ef] at k
    have s12:=s1.trans s2
    have M2:=M.same s12
    have NIq:NetIn A H2 lb q kk:=G.into (s1 _ _ hbf)
    refine So ((aO (fA (aH (aA rfl) hx T.eB.cl T.gB gK) aL)).to (c:=true) rfl) (fun _=>?_) (fun z=>by cases z)
    refine gU (rJ (aA rfl) (s12 _ _ ha) (by kernel_rfl) (bW (aH (aA rfl) hx T.eB.cl T.kC mO)) ⟨a,lb,q,s0,kk,rfl,M2,NIq,Wk,fun H3 kp M3=>?_⟩)
    obtain ⟨dx3,q3,ha3,_⟩:=M3.ob
    have hx3:OA H3 A.Reading (hU (.ref q) (.int 0) (.int 0) (.int 0)) x:=OA.kp ⟨dr,hx⟩ (s12 _ _ ha) (s12 _ _ hbf) kp Nq
    have NI3:NetIn A H3 lb q kk:=NIq.kp (s12 _ _ ha) (s12 _ _ hbf) kp
    refine bP (bQ (bW (aA rfl)) ⟨x,q,0,0,0,rfl,hx3,.inr ⟨rfl,kk,NI3.is,fun l hl=>?_⟩⟩)
    have nl:H l=none:=by
     cases hq:H l with
     | none=>rfl
     | some o=>
      by_cases z1:l=a
      ·rw[z1,ha3] at hl
       cases hl
      ·by_cases z2:l=lb
       ·obtain ⟨_,z,_⟩:=M3.bf
        rw[z2,z] at hl
        cases hl
       ·rw[kp l o (s12 _ _ hq) z1 z2] at hl
        cases hl
    exact k l _ ((s12.kp.trans kp).trans (bN hl).kp) nl aF (M3.same (bN hl))
theorem Ei {f:Addr}{fd:FuncData} (T:Txt P w K mg A) (D:Dn K mg "answer_look" oH ["mine","given"] f fd):bO P w K mg base eC 7 f fd ["mine","given"] (Ih A (fun c=>∃ t,c=[[1],t])):=by
 obtain ⟨af_is_text,fd_is_text,D_is_text⟩:=T.Ie
 have G_is_text:=Dr (base:=base) T D_is_text
 obtain ⟨af_read_text,fd_read_text,D_read_text⟩:=T.zS
 have G_read_text:=wY (base:=base) T D_read_text
 obtain ⟨af_reading_answer,fd_reading_answer,D_reading_answer⟩:=T.pV
 have G_reading_answer:=nX (base:=base) T D_reading_answer
 have nd:=sc_answer_look.nd
 refine D.fn.ok sc_answer_look (fun vs H Q E h=>?_) (fun cdv Ar outer s H vs Q E hr h=>?_)
 ·obtain ⟨a,lb,g,s0,c,_,rfl,_⟩:=h
  rfl
 ·obtain ⟨a,lb,g,s0,c,⟨t,rfl⟩,rfl,M,hg,hl,k⟩:=h
  refine ⟨_,(aC (bJ (dJ (bK (aG G_is_text (hr.mono (by decide)) rfl D_is_text.mg D_is_text.fn.kp D_is_text.bi .nil aN (aB (pv 1) aD)))) (aE (aK (bE (aB (aW rfl T.eG) aD)))) aU) (aE (aK (aG G_reading_answer (hr.mono (by decide)) rfl D_reading_answer.mg D_reading_answer.fn.kp D_reading_answer.bi .nil aN (aB (aG G_read_text (hr.mono (by decide)) rfl D_read_text.mg D_read_text.fn.kp D_read_text.bi .nil aN (aB (aI (pv 0) rfl) (aB (pv 1) aD))) aD))))),?_⟩
  have eg:kF [[1],t]=t:=by
   show [] ++ (t ++ [])=t
   simp
  rw[eg] at hg hl
  obtain ⟨dx,p,ha,NN,NI⟩:=M.net
  have rg:Vbmiai.callOf [[1],t]=Vbmiai.ranged (Vbmiai.isText t) (.look (Vbmiai.nats t)):=rfl
  refine wC (bQ (bW (aA rfl)) ⟨g,t,rfl,SqL.of hg,by rw[sizeLine_eq];omega,fun H1 s1=>⟨_,rfl,?_⟩⟩)
  cases e:Vbmiai.isText t with
  | false=>exact iE (bP (cD M k s1 aL (eN rg e)))
  | true=>
   refine rG ?_
   have es:stepRows s0 [[1],t]=_:=gH (s:=s0) rg e
   have hb:=e
   unfold Vbmiai.isText at hb
   rw[Bool.and_eq_true,decide_eq_true_iff,List.all_eq_true] at hb
   have en:t.map V.int=nI (Vbmiai.nats t):=by
    unfold nI Vbmiai.nats
    rw[List.map_map]
    apply List.map_congr_left
    intro z hz
    obtain ⟨n,rfl,_⟩:=bM (hb.2 z hz) (Int.le_refl 0)
    rfl
   rw[en] at hg
   have hlen:(Vbmiai.nats t).length≤2000:=by
    unfold Vbmiai.nats
    rw[List.length_map]
    exact hb.1
   refine bP (fF (cK (bQ (bS (aH (aA rfl) (s1 _ _ ha) T.bT.cl T.bB aX) (aA rfl)) ⟨p,g,s0.net,Vbmiai.nats t,rfl,NN.same s1,M.wf,SqL.of (s1 _ _ hg),hlen,fun e x H2 hr h0 s2 hx=>?_,fun kk x q lj lr ls lc H2 hr Wk s2 G hx=>?_⟩)))
   ·have ef:stepRows s0 [[1],t]=(s0,Vbmiai.faulty e):=by
     rw[es]
     show (s0,match Vbmiai.readNet s0.net (Vbmiai.nats t) with
      | .error e=>Vbmiai.faulty e
      | .ok k=>Vbmiai.sizes k)=_
     rw[hr]
    refine ⟨x,p,_,_,_,rfl,hx,.inl ⟨h0,fun l hl=>?_⟩⟩
    have s12:=s1.trans s2
    exact gO M k ef (s12.over (s12.free hl)) (s12.free hl) aF
   ·have ef:stepRows s0 [[1],t]=(s0,Vbmiai.sizes kk):=by
     rw[es]
     show (s0,match Vbmiai.readNet s0.net (Vbmiai.nats t) with
      | .error e=>Vbmiai.faulty e
      | .ok k=>Vbmiai.sizes k)=_
     rw[hr]
    refine ⟨x,q,0,0,0,rfl,hx,.inr ⟨rfl,kk,G.nis,fun l hl=>?_⟩⟩
    have s12:=s1.trans s2
    exact gO M k ef (s12.over (s12.free hl)) (s12.free hl) aF
theorem zZ {f:Addr}{fd:FuncData} (T:Txt P w K mg A) (D:Dn K mg "answer_write" mU ["mine","given"] f fd):bO P w K mg base eC 3 f fd ["mine","given"] (Ih A (fun c=>c=[[2]])):=by
 obtain ⟨af_written_net,fd_written_net,D_written_net⟩:=T.Gc
 have G_written_net:=El (base:=base) T D_written_net
 have nd:=sc_answer_write.nd
 refine D.fn.ok sc_answer_write (fun vs H Q E h=>?_) (fun cdv Ar outer s H vs Q E hr h=>?_)
 ·obtain ⟨a,lb,g,s0,c,_,rfl,_⟩:=h
  rfl
 ·obtain ⟨a,lb,g,s0,c,rfl,rfl,M,hg,hl,k⟩:=h
  refine ⟨_,(aE (aK (cO qB (bE (aB (aW rfl T.gG) aD)) (aG G_written_net (hr.mono (by decide)) rfl D_written_net.mg D_written_net.fn.kp D_written_net.bi .nil aN (aB (aI (pv 0) rfl) aD))))),?_⟩
  obtain ⟨dx,p,ha,NN,NI⟩:=M.net
  have ef:stepRows s0 [[2]]=(s0,0 :: Vbmiai.ints (Vbmiai.written s0.net)):=rfl
  have wl:=M.wf.written_len
  refine bP (qA (dI (bW aL) (by show 1≤sizeLine;decide) fun p1 h1=>?_))
  have s1:Same H (cA H p1 (.lst [.int 0])):=bN h1
  refine bQ (bW (aH (aA rfl) (s1 _ _ ha) T.bT.cl T.bB aX)) ⟨p,s0.net,rfl,NN.same s1,M.wf,fun l H2 s2 nl e2=>⟨p1,l,_,_,rfl,rfl,s2 _ _ aF,e2,?_,fun p2 h2=>?_⟩⟩
  ·rw[cJ,sizeLine_eq]
   show 1 + _≤_
   omega
  have s12:=s1.trans s2
  refine gO M k ef (s12.over (s12.free h2)) (s12.free h2) ?_
  rw[aF,List.map_cons,lF]
  rfl
theorem Dz {f:Addr}{fd:FuncData} (T:Txt P w K mg A) (D:Dn K mg "answer_undo" oP ["mine","given"] f fd):bO P w K mg base eC 2 f fd ["mine","given"] (Ih A (fun c=>c=[[3]])):=by
 obtain ⟨af_Mine_can_undo,fd_Mine_can_undo,M_Mine_can_undo⟩:=T.Av
 have G_Mine_can_undo:=yQ (base:=base) T M_Mine_can_undo
 obtain ⟨af_Mine_undo,fd_Mine_undo,M_Mine_undo⟩:=T.Nr
 have G_Mine_undo:=Jv (base:=base) T M_Mine_undo
 have nd:=sc_answer_undo.nd
 refine D.fn.ok sc_answer_undo (fun vs H Q E h=>?_) (fun cdv Ar outer s H vs Q E hr h=>?_)
 ·obtain ⟨a,lb,g,s0,c,_,rfl,_⟩:=h
  rfl
 ·obtain ⟨a,lb,g,s0,c,rfl,rfl,M,hg,hl,k⟩:=h
  refine ⟨_,(aC (bJ (dJ (bK (lY (pv 0) T.bT.cl M_Mine_can_undo.me G_Mine_can_undo (hr.mono (by decide)) M_Mine_can_undo.bi .nil aN))) (aE (aK (bE (aB (aW rfl T.yW) aD)))) aU) (aC (cI (lY (pv 0) T.bT.cl M_Mine_undo.me G_Mine_undo (hr.mono (by decide)) M_Mine_undo.bi .nil aN)) (aE (aK (bE (aB (aW rfl T.gG) aD)))))),?_⟩
  obtain ⟨dx,p,ha,NN,NI⟩:=M.net
  have es:stepRows s0 [[3]]=match s0.past with
    | []=>(s0,[-4])
    | k :: r=>(⟨k,r⟩,[0]):=rfl
  refine cB (dH (bR (aa (aA rfl) ha (by kernel_rfl) eA fun Q q=>⟨a,lb,s0,rfl,M,q⟩))) (fun e=>?_) (fun e=>?_)
  ·have ep:s0.past=[]:=by simpa using e
   rw[ep] at es
   exact cD M k (Same.refl H) aL es
  ·obtain ⟨m,r,ep⟩:∃ m r,s0.past=m :: r:=by
    cases q:s0.past with
    | nil=>
     rw[q] at e
     cases e
    | cons m r=>exact ⟨m,r,rfl⟩
   rw[ep] at es
   rw[es] at k
   refine iB (rJ (aA rfl) ha (by kernel_rfl) eA ⟨a,lb,s0,m,r,rfl,M,ep,fun H1 kp M1=>?_⟩)
   refine bP (dI (bW aL) (by show 1≤sizeLine;decide) fun l hl=>?_)
   obtain ⟨dx3,q3,ha3,_⟩:=M1.ob
   have nl:H l=none:=by
    cases hq:H l with
    | none=>rfl
    | some o=>
     by_cases z1:l=a
     ·rw[z1,ha3] at hl
      cases hl
     ·by_cases z2:l=lb
      ·obtain ⟨_,z,_⟩:=M1.bf
       rw[z2,z] at hl
       cases hl
      ·rw[kp l o hq z1 z2] at hl
       cases hl
   exact k l _ (kp.trans (bN hl).kp) nl aF (M1.same (bN hl))
theorem Al {f:Addr}{fd:FuncData} (T:Txt P w K mg A) (D:Dn K mg "answer_close" mZ ["mine","given"] f fd):bO P w K mg base eC 5 f fd ["mine","given"] (Ih A (fun c=>∃ n lo hi,c=[[4,n,lo,hi]])):=by
 obtain ⟨af_Closing,fd_Closing,I_Closing⟩:=T.Ic
 have G_Closing:=Dj (base:=base) T I_Closing
 obtain ⟨af_Mine_change,fd_Mine_change,M_Mine_change⟩:=T.oX
 have G_Mine_change:=mV (base:=base) T M_Mine_change
 obtain ⟨af_has_road,fd_has_road,D_has_road⟩:=T.iP
 have G_has_road:=gW (base:=base) T D_has_road
 obtain ⟨af_is_minute,fd_is_minute,D_is_minute⟩:=T.fO
 have G_is_minute:=eS (base:=base) T D_is_minute
 obtain ⟨af_is_name,fd_is_name,D_is_name⟩:=T.fI
 have G_is_name:=eO (base:=base) T D_is_name
 obtain ⟨af_with_closing,fd_with_closing,D_with_closing⟩:=T.Ep
 have G_with_closing:=Ac (base:=base) T D_with_closing
 have nd:=sc_answer_close.nd
 refine D.fn.ok sc_answer_close (fun vs H Q E h=>?_) (fun cdv Ar outer s H vs Q E hr h=>?_)
 ·obtain ⟨a,lb,g,s0,c,_,rfl,_⟩:=h
  rfl
 ·obtain ⟨a,lb,g,s0,c,⟨n,lo,hi,rfl⟩,rfl,M,hg,hl,k⟩:=h
  refine ⟨_,(aC (aR (i:=2) nd rfl (Or.inl rfl) (bX bC (pv 1) aM (fun _ _=>rfl))) (aC (aR (i:=3) nd rfl (Or.inl rfl) (bX bC (pv 1) aM (fun _ _=>rfl))) (aC (aR (i:=4) nd rfl (Or.inl rfl) (bX bC (pv 1) aM (fun _ _=>rfl))) (aC (bJ (dJ (PW.pt (cU (bK (aG G_is_name (hr.mono (by decide)) rfl D_is_name.mg D_is_name.fn.kp D_is_name.bi .nil aN (aB (pv 2) aD))) (cU (bK (aG G_is_minute (hr.mono (by decide)) rfl D_is_minute.mg D_is_minute.fn.kp D_is_minute.bi .nil aN (aB (pv 3) aD))) (eL (bK (aG G_is_minute (hr.mono (by decide)) rfl D_is_minute.mg D_is_minute.fn.kp D_is_minute.bi .nil aN (aB (pv 4) aD)))))))) (aE (aK (bE (aB (aW rfl T.eG) aD)))) aU) (aC (bJ (dJ (bK (aG G_has_road (hr.mono (by decide)) rfl D_has_road.mg D_has_road.fn.kp D_has_road.bi .nil aN (aB (aI (pv 0) rfl) (aB (pv 2) aD))))) (aE (aK (bE (aB (aW rfl T.pQ) aD)))) aU) (aC (bJ (aY fX (pv 4) (pv 3) (bD _)) (aE (aK (bE (aB (aW rfl T.Bc) aD)))) aU) (aC (bJ (aY uP (bU bG (by rfl) T.eP dL (aB (aI (aI (pv 0) rfl) rfl) aD)) (aW rfl T.rC) (bD _)) (aE (aK (bE (aB (aW rfl T.uK) aD)))) aU) (aC (cI (Jj (pv 0) T.bT.cl M_Mine_change.me G_Mine_change (hr.mono (by decide)) M_Mine_change.bi .nil aN (aB (aG G_with_closing (hr.mono (by decide)) rfl D_with_closing.mg D_with_closing.fn.kp D_with_closing.bi .nil aN (aB (aI (pv 0) rfl) (aB (hC I_Closing.ma G_Closing (hr.mono (by decide)) rfl T.dC.mg I_Closing.bi .nil aN (aB (pv 2) (aB (pv 3) (aB (pv 4) aD)))) aD))) aD))) (aE (aK (bE (aB (aW rfl T.gG) aD)))))))))))),?_⟩
  have hg:H g=some (.lst [.int n,.int lo,.int hi]):=hg
  obtain ⟨dx,p,ha,NN,NI⟩:=M.net
  have rg:Vbmiai.callOf [[4,n,lo,hi]]=Vbmiai.ranged (Vbmiai.isJ n && (Vbmiai.isT lo && Vbmiai.isT hi)) (.close n.toNat lo.toNat hi.toNat):=rfl
  refine cC (bL (aA rfl) aL (SqL.of hg) (cY (j:=0) rfl rfl)) ?_
  refine cC (bL (aA rfl) aL (SqL.of hg) (cY (j:=1) rfl rfl)) ?_
  refine cC (bL (aA rfl) aL (SqL.of hg) (cY (j:=2) rfl rfl)) ?_
  refine cB (dH (dA (bR (aZ (bW (aA rfl)) fun Q q=>⟨n,rfl,q⟩)) fun _=>dA (bR (aZ (bW (aA rfl)) fun Q q=>⟨lo,rfl,q⟩)) fun _=>bR (aZ (bW (aA rfl)) fun Q q=>⟨hi,rfl,q⟩))) (fun e=>?_) (fun e=>?_)
  ·exact cD M k (Same.refl H) aL (eN rg ((Bool.not_eq_true' _).mp e))
  have e:=(Bool.not_eq_false' (b:=_)).mp e
  have es:=gH (s:=s0) rg e
  rw[Bool.and_eq_true,Bool.and_eq_true] at e
  obtain ⟨n',rfl,b1,b2⟩:=bM e.1 (by decide)
  obtain ⟨lo',rfl,b3,b4⟩:=bM e.2.1 (by decide)
  obtain ⟨hi',rfl,b5,b6⟩:=bM e.2.2 (by decide)
  rw[Int.toNat_natCast,Int.toNat_natCast,Int.toNat_natCast] at es
  have es:stepRows s0 [[4,(n':Int),(lo':Int),(hi':Int)]]=(match Vbmiai.roadOf s0.net n' with
    | none=>(s0,[-3])
    | some _=>if hi'≤lo' then (s0,[-5]) else if Vbmiai.CLOSINGS≤s0.net.closings.length then (s0,[-6]) else Vbmiai.onward s0 { s0.net with closings:=Vbmiai.putClosing ⟨n',lo',hi'⟩ s0.net.closings } [0]):=es
  refine cB (dH (bR (aZ (bS (aH (aA rfl) ha T.bT.cl T.bB aX) (aA rfl)) fun Q q=>⟨p,s0.net,n',rfl,NN,q⟩))) (fun e=>?_) (fun e=>?_)
  ·rw[pL (o:=Vbmiai.roadOf s0.net n') ((Bool.not_eq_true' _).mp e)] at es
   exact cD M k (Same.refl H) aL es
  obtain ⟨r,hr0⟩:=pP (by simpa using e:(Vbmiai.roadOf s0.net n').isSome=true)
  rw[hr0] at es
  dsimp only at es
  refine cB ((aO (bH (aA rfl) (aA rfl))).to (c:=decide (hi'≤lo')) jY) (fun e=>?_) (fun e=>?_)
  ·rw[if_pos (of_decide_eq_true e)] at es
   exact cD M k (Same.refl H) aL es
  rw[if_neg (of_decide_eq_false e)] at es
  have hlt:=of_decide_eq_false e
  obtain ⟨lj,lr,ls,lc,N⟩:=id NN
  obtain ⟨dp,hp⟩:=N.ob
  obtain ⟨as,hcl,hall⟩:=N.cs
  refine cB ((aO (bH (cW (bW (aH (aH (aA rfl) ha T.bT.cl T.bB aX) hp T.dQ.cl T.dF dW)) (SqL.of hcl)) aL)).to (c:=decide (20≤s0.net.closings.length)) (by rw[List.length_map,hall.length];exact Bs (b:=20))) (fun e=>?_) (fun e=>?_)
  ·rw[if_pos (show Vbmiai.CLOSINGS≤_ from of_decide_eq_true e)] at es
   exact cD M k (Same.refl H) aL es
  have h20:¬ 20≤s0.net.closings.length:=of_decide_eq_false e
  rw[if_neg (show ¬ Vbmiai.CLOSINGS≤_ from h20)] at es
  rw[es] at k
  refine iB ?_
  refine (aA rfl) _ ⟨a,dx,_,rfl,ha,by kernel_rfl,?_⟩
  refine cK (fF (cK ((aH (aA rfl) ha T.bT.cl T.bB aX) _ (cK (lW (bA (aA rfl) (bS (aA rfl) (aA rfl))) rfl fun x dy hx hdy=>?_)))))
  have s1:=cP (C:=A.Closing) (fs:=cF ⟨n',lo',hi'⟩) hx hdy
  refine ⟨p,x,s0.net,⟨n',lo',hi'⟩,rfl,NN.same s1,jP,M.wf.clen,fun q lj lr ls lc H2 s2 G=>?_⟩
  have s12:=s1.trans s2
  obtain ⟨ps,hbf,_⟩:=M.bf
  refine ⟨a,lb,q,s0,_,rfl,M.same s12,G.into (s1 _ _ hbf),M.wf.closing ⟨by omega,by omega⟩ ⟨by omega,by omega⟩ (by omega),fun H3 kp M3=>?_⟩
  refine bP (dI (bW aL) (by show 1≤sizeLine;decide) fun l hl=>?_)
  have kp3:=s12.kp.trans kp
  exact k l _ (kp3.trans (bN hl).kp) (Rm kp3 M3 hl) aF (M3.same (bN hl))
theorem Eb {f:Addr}{fd:FuncData} (T:Txt P w K mg A) (D:Dn K mg "answer_free" oG ["mine","given"] f fd):bO P w K mg base eC 5 f fd ["mine","given"] (Ih A (fun c=>∃ n,c=[[5,n]])):=by
 obtain ⟨af_Mine_change,fd_Mine_change,M_Mine_change⟩:=T.oX
 have G_Mine_change:=mV (base:=base) T M_Mine_change
 obtain ⟨af_closings_of,fd_closings_of,D_closings_of⟩:=T.uW
 have G_closings_of:=tM (base:=base) T D_closings_of
 obtain ⟨af_has_road,fd_has_road,D_has_road⟩:=T.iP
 have G_has_road:=gW (base:=base) T D_has_road
 obtain ⟨af_is_name,fd_is_name,D_is_name⟩:=T.fI
 have G_is_name:=eO (base:=base) T D_is_name
 obtain ⟨af_without_closings,fd_without_closings,D_without_closings⟩:=T.vZ
 have G_without_closings:=uJ (base:=base) T D_without_closings
 have nd:=sc_answer_free.nd
 refine D.fn.ok sc_answer_free (fun vs H Q E h=>?_) (fun cdv Ar outer s H vs Q E hr h=>?_)
 ·obtain ⟨a,lb,g,s0,c,_,rfl,_⟩:=h
  rfl
 ·obtain ⟨a,lb,g,s0,c,⟨n,rfl⟩,rfl,M,hg,hl,k⟩:=h
  refine ⟨_,(aC (aR (i:=2) nd rfl (Or.inl rfl) (bX bC (pv 1) aM (fun _ _=>rfl))) (aC (bJ (dJ (bK (aG G_is_name (hr.mono (by decide)) rfl D_is_name.mg D_is_name.fn.kp D_is_name.bi .nil aN (aB (pv 2) aD)))) (aE (aK (bE (aB (aW rfl T.eG) aD)))) aU) (aC (bJ (dJ (bK (aG G_has_road (hr.mono (by decide)) rfl D_has_road.mg D_has_road.fn.kp D_has_road.bi .nil aN (aB (aI (pv 0) rfl) (aB (pv 2) aD))))) (aE (aK (bE (aB (aW rfl T.pQ) aD)))) aU) (aC (aR (i:=3) nd rfl (Or.inl rfl) (bU bG (by rfl) T.eP dL (aB (aG G_closings_of (hr.mono (by decide)) rfl D_closings_of.mg D_closings_of.fn.kp D_closings_of.bi .nil aN (aB (aI (pv 0) rfl) (aB (pv 2) aD))) aD))) (aC (cI (Jj (pv 0) T.bT.cl M_Mine_change.me G_Mine_change (hr.mono (by decide)) M_Mine_change.bi .nil aN (aB (aG G_without_closings (hr.mono (by decide)) rfl D_without_closings.mg D_without_closings.fn.kp D_without_closings.bi .nil aN (aB (aI (pv 0) rfl) (aB (pv 2) aD))) aD))) (aE (aK (bE (aB (aW rfl T.gG) (aB (pv 3) aD)))))))))),?_⟩
  have hg:H g=some (.lst [.int n]):=hg
  obtain ⟨dx,p,ha,NN,NI⟩:=M.net
  have rg:Vbmiai.callOf [[5,n]]=Vbmiai.ranged (Vbmiai.isJ n) (.free n.toNat):=rfl
  refine cC (bL (aA rfl) aL (SqL.of hg) (cY (j:=0) rfl rfl)) ?_
  refine cB (dH (bR (aZ (bW (aA rfl)) fun Q q=>⟨n,rfl,q⟩))) (fun e=>?_) (fun e=>?_)
  ·exact cD M k (Same.refl H) aL (eN rg ((Bool.not_eq_true' _).mp e))
  have e:=(Bool.not_eq_false' (b:=_)).mp e
  have es:=gH (s:=s0) rg e
  obtain ⟨n',rfl,b1,b2⟩:=bM e (by decide)
  rw[Int.toNat_natCast] at es
  have es:stepRows s0 [[5,(n':Int)]]=(match Vbmiai.roadOf s0.net n' with
    | none=>(s0,[-3])
    | some _=>Vbmiai.onward s0 { s0.net with closings:=s0.net.closings.filter fun c=>c.road != n' } [0,Int.ofNat (s0.net.closings.filter fun c=>c.road == n').length]):=es
  refine cB (dH (bR (aZ (bS (aH (aA rfl) ha T.bT.cl T.bB aX) (aA rfl)) fun Q q=>⟨p,s0.net,n',rfl,NN,q⟩))) (fun e=>?_) (fun e=>?_)
  ·rw[pL (o:=Vbmiai.roadOf s0.net n') ((Bool.not_eq_true' _).mp e)] at es
   exact cD M k (Same.refl H) aL es
  obtain ⟨r,hr0⟩:=pP (by simpa using e:(Vbmiai.roadOf s0.net n').isSome=true)
  rw[hr0] at es
  dsimp only at es
  rw[es] at k
  refine bZ (Gw (bQ (bS (aH (aA rfl) ha T.bT.cl T.bB aX) (aA rfl)) ⟨p,s0.net,n',rfl,NN,M.wf.clen,fun l1 H1 s1 n1 L1=>?_⟩))
  obtain ⟨as,hl1,hall⟩:=L1
  refine ⟨l1,_,rfl,.inl (SqL.of hl1),?_⟩
  rw[List.length_map,hall.length]
  refine iB ?_
  refine (aA rfl) _ ⟨a,dx,_,rfl,s1 _ _ ha,by kernel_rfl,?_⟩
  refine cK (bQ (bS (aH (aA rfl) (s1 _ _ ha) T.bT.cl T.bB aX) (aA rfl)) ⟨p,s0.net,n',rfl,NN.same s1,M.wf.clen,fun q lj lr ls lc H2 s2 G=>?_⟩)
  have s12:=s1.trans s2
  obtain ⟨ps,hbf,_⟩:=M.bf
  refine ⟨a,lb,q,s0,_,rfl,M.same s12,G.into (s1 _ _ hbf),M.wf.freed _,fun H3 kp M3=>?_⟩
  refine bP (dI (bS aL (aA rfl)) (by show 2≤sizeLine;decide) fun l hl=>?_)
  have kp3:=s12.kp.trans kp
  exact k l _ (kp3.trans (bN hl).kp) (Rm kp3 M3 hl) aF (M3.same (bN hl))
theorem Eg {f:Addr}{fd:FuncData} (T:Txt P w K mg A) (D:Dn K mg "answer_road" oV ["mine","given"] f fd):bO P w K mg base eC 3 f fd ["mine","given"] (Ih A (fun c=>∃ n l,c=[[6,n,l]])):=by
 obtain ⟨af_find_road,fd_find_road,D_find_road⟩:=T.tJ
 have G_find_road:=qT (base:=base) T D_find_road
 obtain ⟨af_has_road,fd_has_road,D_has_road⟩:=T.iP
 have G_has_road:=gW (base:=base) T D_has_road
 obtain ⟨af_is_load,fd_is_load,D_is_load⟩:=T.hX
 have G_is_load:=gI (base:=base) T D_is_load
 obtain ⟨af_is_name,fd_is_name,D_is_name⟩:=T.fI
 have G_is_name:=eO (base:=base) T D_is_name
 obtain ⟨af_road_minutes,fd_road_minutes,D_road_minutes⟩:=T.tU
 have G_road_minutes:=qY (base:=base) T D_road_minutes
 have nd:=sc_answer_road.nd
 refine D.fn.ok sc_answer_road (fun vs H Q E h=>?_) (fun cdv Ar outer s H vs Q E hr h=>?_)
 ·obtain ⟨a,lb,g,s0,c,_,rfl,_⟩:=h
  rfl
 ·obtain ⟨a,lb,g,s0,c,⟨n,ld,rfl⟩,rfl,M,hg,hl,k⟩:=h
  refine ⟨_,(aC (aR (i:=2) nd rfl (Or.inl rfl) (bX bC (pv 1) aM (fun _ _=>rfl))) (aC (aR (i:=3) nd rfl (Or.inl rfl) (bX bC (pv 1) aM (fun _ _=>rfl))) (aC (bJ (dJ (PW.pt (cU (bK (aG G_is_name (hr.mono (by decide)) rfl D_is_name.mg D_is_name.fn.kp D_is_name.bi .nil aN (aB (pv 2) aD))) (eL (bK (aG G_is_load (hr.mono (by decide)) rfl D_is_load.mg D_is_load.fn.kp D_is_load.bi .nil aN (aB (pv 3) aD))))))) (aE (aK (bE (aB (aW rfl T.eG) aD)))) aU) (aC (bJ (dJ (bK (aG G_has_road (hr.mono (by decide)) rfl D_has_road.mg D_has_road.fn.kp D_has_road.bi .nil aN (aB (aI (pv 0) rfl) (aB (pv 2) aD))))) (aE (aK (bE (aB (aW rfl T.pQ) aD)))) aU) (aC (aR (i:=4) nd rfl (Or.inl rfl) (aG G_find_road (hr.mono (by decide)) rfl D_find_road.mg D_find_road.fn.kp D_find_road.bi .nil aN (aB (aI (pv 0) rfl) (aB (pv 2) aD)))) (aC (aR (i:=5) nd rfl (Or.inl rfl) (aG G_road_minutes (hr.mono (by decide)) rfl D_road_minutes.mg D_road_minutes.fn.kp D_road_minutes.bi .nil aN (aB (aI (pv 0) rfl) (aB (pv 4) (aB (aW rfl T.kE) (aB (pv 3) aD)))))) (aC (aR (i:=6) nd rfl (Or.inl rfl) (aG G_road_minutes (hr.mono (by decide)) rfl D_road_minutes.mg D_road_minutes.fn.kp D_road_minutes.bi .nil aN (aB (aI (pv 0) rfl) (aB (pv 4) (aB (aW rfl T.pA) (aB (pv 3) aD)))))) (aE (aK (bE (aB (aW rfl T.gG) (aB (aI (pv 4) rfl) (aB (aI (pv 4) rfl) (aB (pv 5) (aB (pv 6) aD))))))))))))))),?_⟩
  have hg:H g=some (.lst [.int n,.int ld]):=hg
  obtain ⟨dx,p,ha,NN,NI⟩:=M.net
  have rg:Vbmiai.callOf [[6,n,ld]]=Vbmiai.ranged (Vbmiai.isJ n && Vbmiai.isB ld) (.road n.toNat ld.toNat):=rfl
  refine cC (bL (aA rfl) aL (SqL.of hg) (cY (j:=0) rfl rfl)) ?_
  refine cC (bL (aA rfl) aL (SqL.of hg) (cY (j:=1) rfl rfl)) ?_
  refine cB (dH (dA (bR (aZ (bW (aA rfl)) fun Q q=>⟨n,rfl,q⟩)) fun _=>bR (aZ (bW (aA rfl)) fun Q q=>⟨ld,rfl,q⟩))) (fun e=>?_) (fun e=>?_)
  ·exact cD M k (Same.refl H) aL (eN rg ((Bool.not_eq_true' _).mp e))
  have e:=(Bool.not_eq_false' (b:=_)).mp e
  have es:=gH (s:=s0) rg e
  rw[Bool.and_eq_true] at e
  obtain ⟨n',rfl,b1,b2⟩:=bM e.1 (by decide)
  have el:=nY e.2
  rw[Int.toNat_natCast] at es
  have es:stepRows s0 [[6,(n':Int),ld]]=(match Vbmiai.roadOf s0.net n' with
    | none=>(s0,[-3])
    | some r=>(s0,[0,Int.ofNat r.a,Int.ofNat r.b,Vbmiai.optional (Vbmiai.minutesOf s0.net r false (ld.toNat == 1)),Vbmiai.optional (Vbmiai.minutesOf s0.net r true (ld.toNat == 1))])):=es
  generalize (ld.toNat == 1)=l at el es
  refine cB (dH (bR (aZ (bS (aH (aA rfl) ha T.bT.cl T.bB aX) (aA rfl)) fun Q q=>⟨p,s0.net,n',rfl,NN,q⟩))) (fun e=>?_) (fun e=>?_)
  ·rw[pL (o:=Vbmiai.roadOf s0.net n') ((Bool.not_eq_true' _).mp e)] at es
   exact cD M k (Same.refl H) aL es
  obtain ⟨r,hr0⟩:=pP (by simpa using e:(Vbmiai.roadOf s0.net n').isSome=true)
  rw[hr0] at es
  dsimp only at es
  have hrm:=(zN hr0).1
  refine bZ (bQ (bS (aH (aA rfl) ha T.bT.cl T.bB aX) (aA rfl)) ⟨p,s0.net,n',rfl,NN,fun x ar h1 h2=>?_,fun h1=>by rw[hr0] at h1;cases h1⟩)
  rw[hr0] at h1
  cases h1
  obtain ⟨dr,hob⟩:=h2
  refine cC (aZ (bA (aH (aA rfl) ha T.bT.cl T.bB aX) (bA (aA rfl) (bS aL (aA rfl)))) fun Q q=>⟨p,ar,s0.net,r,false,l,by rw[el];rfl,NN,M.wf,hrm,⟨dr,hob⟩,q⟩) ?_
  refine cC (aZ (bA (aH (aA rfl) ha T.bT.cl T.bB aX) (bA (aA rfl) (bS aL (aA rfl)))) fun Q q=>⟨p,ar,s0.net,r,true,l,by rw[el];rfl,NN,M.wf,hrm,⟨dr,hob⟩,q⟩) ?_
  refine bP (dI (bA aL (bA (aH (aA rfl) hob T.dS.cl T.mB lP) (bA (aH (aA rfl) hob T.dS.cl T.mC lN) (bS (aA rfl) (aA rfl))))) (by show 5≤sizeLine;decide) fun q hq=>?_)
  refine gO M k es (bN hq) hq ?_
  rw[aF,wG,wG]
  rfl
theorem Ah {f:Addr}{fd:FuncData} (T:Txt P w K mg A) (D:Dn K mg "answer_times" mT ["mine","given"] f fd):bO P w K mg base eC 6 f fd ["mine","given"] (Ih A (fun c=>∃ a t l,c=[[7,a,t,l]])):=by
 obtain ⟨af_all_steps,fd_all_steps,D_all_steps⟩:=T.gF
 have G_all_steps:=fQ (base:=base) T D_all_steps
 obtain ⟨af_earliest_minutes,fd_earliest_minutes,D_earliest_minutes⟩:=T.dX
 have G_earliest_minutes:=dM (base:=base) T D_earliest_minutes
 obtain ⟨af_has_junction,fd_has_junction,D_has_junction⟩:=T.dU
 have G_has_junction:=dG (base:=base) T D_has_junction
 obtain ⟨af_is_load,fd_is_load,D_is_load⟩:=T.hX
 have G_is_load:=gI (base:=base) T D_is_load
 obtain ⟨af_is_minute,fd_is_minute,D_is_minute⟩:=T.fO
 have G_is_minute:=eS (base:=base) T D_is_minute
 obtain ⟨af_is_name,fd_is_name,D_is_name⟩:=T.fI
 have G_is_name:=eO (base:=base) T D_is_name
 obtain ⟨af_minutes_in_order,fd_minutes_in_order,D_minutes_in_order⟩:=T.nL
 have G_minutes_in_order:=lC (base:=base) T D_minutes_in_order
 have nd:=sc_answer_times.nd
 refine D.fn.ok sc_answer_times (fun vs H Q E h=>?_) (fun cdv Ar outer s H vs Q E hr h=>?_)
 ·obtain ⟨a,lb,g,s0,c,_,rfl,_⟩:=h
  rfl
 ·obtain ⟨a,lb,g,s0,c,⟨ja,t,ld,rfl⟩,rfl,M,hg,hl,k⟩:=h
  refine ⟨_,(aC (aR (i:=2) nd rfl (Or.inl rfl) (bX bC (pv 1) aM (fun _ _=>rfl))) (aC (aR (i:=3) nd rfl (Or.inl rfl) (bX bC (pv 1) aM (fun _ _=>rfl))) (aC (aR (i:=4) nd rfl (Or.inl rfl) (bX bC (pv 1) aM (fun _ _=>rfl))) (aC (bJ (dJ (PW.pt (cU (bK (aG G_is_name (hr.mono (by decide)) rfl D_is_name.mg D_is_name.fn.kp D_is_name.bi .nil aN (aB (pv 2) aD))) (cU (bK (aG G_is_minute (hr.mono (by decide)) rfl D_is_minute.mg D_is_minute.fn.kp D_is_minute.bi .nil aN (aB (pv 3) aD))) (eL (bK (aG G_is_load (hr.mono (by decide)) rfl D_is_load.mg D_is_load.fn.kp D_is_load.bi .nil aN (aB (pv 4) aD)))))))) (aE (aK (bE (aB (aW rfl T.eG) aD)))) aU) (aC (bJ (dJ (bK (aG G_has_junction (hr.mono (by decide)) rfl D_has_junction.mg D_has_junction.fn.kp D_has_junction.bi .nil aN (aB (aI (pv 0) rfl) (aB (pv 2) aD))))) (aE (aK (bE (aB (aW rfl T.eX) aD)))) aU) (aC (aR (i:=5) nd rfl (Or.inl rfl) (aG G_earliest_minutes (hr.mono (by decide)) rfl D_earliest_minutes.mg D_earliest_minutes.fn.kp D_earliest_minutes.bi .nil aN (aB (aG G_all_steps (hr.mono (by decide)) rfl D_all_steps.mg D_all_steps.fn.kp D_all_steps.bi .nil aN (aB (aI (pv 0) rfl) (aB (pv 4) aD))) (aB (pv 2) (aB (pv 3) aD))))) (aE (aK (cO qB (bE (aB (aW rfl T.gG) aD)) (aG G_minutes_in_order (hr.mono (by decide)) rfl D_minutes_in_order.mg D_minutes_in_order.fn.kp D_minutes_in_order.bi .nil aN (aB (aI (pv 0) rfl) (aB (pv 5) aD)))))))))))),?_⟩
  have hg:H g=some (.lst [.int ja,.int t,.int ld]):=hg
  obtain ⟨dx,p,ha,NN,NI⟩:=M.net
  have rg:Vbmiai.callOf [[7,ja,t,ld]]=Vbmiai.ranged (Vbmiai.isJ ja && (Vbmiai.isT t && Vbmiai.isB ld)) (.times ja.toNat t.toNat ld.toNat):=rfl
  refine cC (bL (aA rfl) aL (SqL.of hg) (cY (j:=0) rfl rfl)) ?_
  refine cC (bL (aA rfl) aL (SqL.of hg) (cY (j:=1) rfl rfl)) ?_
  refine cC (bL (aA rfl) aL (SqL.of hg) (cY (j:=2) rfl rfl)) ?_
  refine cB (dH (dA (bR (aZ (bW (aA rfl)) fun Q q=>⟨ja,rfl,q⟩)) fun _=>dA (bR (aZ (bW (aA rfl)) fun Q q=>⟨t,rfl,q⟩)) fun _=>bR (aZ (bW (aA rfl)) fun Q q=>⟨ld,rfl,q⟩))) (fun e=>?_) (fun e=>?_)
  ·exact cD M k (Same.refl H) aL (eN rg ((Bool.not_eq_true' _).mp e))
  have e:=(Bool.not_eq_false' (b:=_)).mp e
  have es:=gH (s:=s0) rg e
  rw[Bool.and_eq_true,Bool.and_eq_true] at e
  obtain ⟨a',rfl,b1,b2⟩:=bM e.1 (by decide)
  obtain ⟨t',rfl,b3,b4⟩:=bM e.2.1 (by decide)
  have el:=nY e.2.2
  rw[Int.toNat_natCast,Int.toNat_natCast] at es
  have es:stepRows s0 [[7,(a':Int),(t':Int),ld]]=(if Vbmiai.hasJunction s0.net a'=false then (s0,[-2]) else (s0,0 :: (Vbmiai.times s0.net a' t' (ld.toNat == 1)).map fun x=>Vbmiai.optional x.2)):=es
  generalize (ld.toNat == 1)=l at el es
  subst el
  refine cB (dH (bR (aZ (bS (aH (aA rfl) ha T.bT.cl T.bB aX) (aA rfl)) fun Q q=>⟨p,s0.net,a',rfl,NN,q⟩))) (fun e=>?_) (fun e=>?_)
  ·rw[if_pos (by simpa using e)] at es
   exact cD M k (Same.refl H) aL es
  have hj:Vbmiai.hasJunction s0.net a'=true:=by simpa using e
  rw[if_neg (by rw[hj];simp)] at es
  refine bZ (Vw (aH (aA rfl) ha T.bT.cl T.bB aX) (aA rfl) (fun _ _=>(aA rfl)) (fun _ _=>(aA rfl)) NN M.wf hj fun d ks H1 s1 nd hd G=>?_)
  refine bP (qA (dI (bW aL) (by show 1≤sizeLine;decide) fun p1 h1=>?_))
  have s2:=s1.over (o:=.lst [.int 0]) (s1.free h1)
  refine bQ (bS (aH (aA rfl) (s2 _ _ ha) T.bT.cl T.bB aX) (aA rfl)) ⟨p,d,s0.net,ks,rfl,NN.same s2,M.wf,bN h1 _ _ hd,fun x H3 s3 nx e3=>⟨p1,x,_,_,rfl,rfl,s3 _ _ aF,e3,?_,fun p2 h2=>?_⟩⟩
  ·rw[List.length_map,sizeLine_eq]
   have:=M.wf.jlen
   show 1 + _≤_
   omega
  have s23:=s2.trans s3
  refine gO M k es (s23.over (s23.free h2)) (s23.free h2) ?_
  rw[aF,List.map_cons,Qg M.wf G hj]
  rfl
end
open Vbmiai (State stepRows)
theorem ae {m:Net}{ss:List pB}{t:Times}{ks:rD}{a j:Nat}{r:List (pB×Nat)} (et:∀ j,Vbmiai.timeAt t j=look ks j) (h:Back m ss t a j r):Bk m ss ks a j (r.map (·.1))∧∀ x ∈ r,∃ u,look ks x.1.from_=some u∧x.2=Vbmiai.begins m x.1.road u x.1.long:=by
 induction h with
 | here=>exact ⟨.here,fun x hx=>by cases hx⟩
 | @step j x r hj hx _ ih=>
  unfold Vbmiai.lastStep at hx
  rw[et j] at hx
  cases q:look ks j with
  | none=>
   rw[q] at hx
   cases hx
  | some k=>
   rw[q] at hx
   dsimp only at hx
   have ef:(fun s:pB=>s.to == j && (Vbmiai.timeAt t s.from_).any fun u=>Vbmiai.arrives m s u == k)=kN m ks j k:=by
    funext s
    unfold kN
    rw[et]
   rw[ef] at hx
   cases q2:ss.find? (kN m ks j k) with
   | none=>
    rw[q2] at hx
    cases hx
   | some s=>
    rw[q2] at hx
    have hx:(Vbmiai.timeAt t s.from_).map (fun u=>(s,Vbmiai.begins m s.road u s.long))=some x:=hx
    rw[et] at hx
    cases q3:look ks s.from_ with
    | none=>
     rw[q3] at hx
     cases hx
    | some u=>
     rw[q3] at hx
     have hx:(s,Vbmiai.begins m s.road u s.long)=x:=Option.some.inj hx
     subst hx
     refine ⟨.step hj q q2 ih.1,fun y hy=>?_⟩
     rcases List.mem_cons.mp hy with rfl | hy
     ·exact ⟨u,q3,rfl⟩
     ·exact ih.2 y hy
theorem minI_inj {x y:Option Nat}:jN x=jN y ↔ x=y:=by
 constructor
 ·intro h
  cases x <;> cases y <;> simp[jN] at h ⊢ <;> omega
 ·rintro rfl
  rfl
def hG (g g':Nat→Option Nat) (j:Junction):List Int:=if g j.number=g' j.number then [] else [(j.number:Int),jN (g j.number),jN (g' j.number)]
theorem Sd (g g':Nat→Option Nat):∀ js:List Junction,(((js.map fun x=>(x.number,g x.number)).zip (js.map fun x=>(x.number,g' x.number))).filter fun z=>z.1 != z.2).flatMap (fun z=>[Int.ofNat z.1.1,Vbmiai.optional z.1.2,Vbmiai.optional z.2.2])=js.flatMap (hG g g')
 | []=>rfl
 | j :: js=>by
  have ih:=Sd g g' js
  rw[List.map_cons,List.map_cons,List.zip_cons_cons,List.filter_cons,List.flatMap_cons]
  unfold hG
  by_cases e:g j.number=g' j.number
  ·rw[if_pos e,if_neg (by simp[e]),ih]
   rfl
  ·rw[if_neg e,if_pos (by simp[e]),List.flatMap_cons,ih,wG,wG]
   rfl
theorem Lu (g:Nat→Option Nat):∀ (js:List Junction) (r:List Nat),r.length=js.length→(((js.zip r).map fun x=>(x.1.number,if x.2=0 then none else some (x.2 - 1)))=js.map (fun x=>(x.number,g x.number)) ↔ r.map (fun (n:Nat)=>(n:Int))=js.map fun x=>jN (g x.number) + 1)
 | [],[],_=>by simp
 | [],_ :: _,h=>by simp at h
 | _ :: _,[],h=>by simp at h
 | j :: js,n :: r,h=>by
  have ih:=Lu g js r (by simpa using h)
  rw[List.zip_cons_cons,List.map_cons,List.map_cons,List.map_cons,List.map_cons,List.cons.injEq,List.cons.injEq,ih]
  have e1:((j.number,if n=0 then none else some (n - 1))=(j.number,g j.number)) ↔ (n:Int)=jN (g j.number) + 1:=by
   rw[Prod.mk.injEq]
   cases g j.number with
   | none=>
    simp[jN]
   | some v=>
    simp[jN]
    constructor
    ·rintro ⟨h1,h2⟩
     omega
    ·intro h
     omega
  rw[e1]
theorem uO {σ:L2.St}{H:Hp}{t u:TT}{Q:Bool→Hp→Prop}{c:Bool} (h:EvT t σ H c) (hu:c=true→u σ H Q) (hf:c=false→Q false H):Zl t u σ H Q:=h _ (by
 cases c with
 | true=>exact iE (hu rfl)
 | false=>exact rG (hf rfl))
theorem Wd {σ:L2.St}{H:Hp}{t:TT}{Q:Bool→Hp→Prop} (h:t σ H fun c H1=>Q (!c) H1):fb t σ H Q:=h
theorem fj {σ:L2.St}{H:Hp}{te:TE}{Q:Bool→Hp→Prop} (h:te σ H fun x H1=>∃ c,x = .bl c∧Q c H1):tB te σ H Q:=h
theorem iw (m:Net):(0 :: (Int.ofNat m.junctions.length :: m.junctions.flatMap (fun x=>Vbmiai.ints [x.number,x.height]) ++ (Int.ofNat m.roads.length :: m.roads.flatMap (fun r=>Vbmiai.ints [r.number,r.a,r.b,r.long,r.ways]) ++
   (Int.ofNat m.speeds.length :: m.speeds.flatMap (fun x=>Vbmiai.ints [x.grade,x.up,x.upLoaded,x.down,x.downLoaded]) ++ (Int.ofNat m.closings.length :: m.closings.flatMap fun c=>Vbmiai.ints [c.road,c.lo,c.hi]))))).map V.int = .int 0 :: nI (tW m):=by
 have fm:∀ {α:Type} (row:α→List Nat) (l:List α),(l.flatMap fun x=>Vbmiai.ints (row x))=Vbmiai.ints (l.flatMap row):=by
  intro α row l
  unfold Vbmiai.ints
  rw[List.map_flatMap]
 have e1:=fm jR m.junctions
 have e2:=fm rR m.roads
 have e3:=fm sR m.speeds
 have e4:=fm cR m.closings
 unfold jR at e1
 unfold rR at e2
 unfold sR at e3
 unfold cR at e4
 rw[e1,e2,e3,e4]
 show (0 :: (Vbmiai.ints (m.junctions.length :: m.junctions.flatMap jR) ++ (Vbmiai.ints (m.roads.length :: m.roads.flatMap rR) ++ (Vbmiai.ints (m.speeds.length :: m.speeds.flatMap sR) ++ Vbmiai.ints (m.closings.length :: m.closings.flatMap cR))))).map V.int=_
 rw[List.map_cons,List.map_append,List.map_append,List.map_append,lF,lF,lF,lF]
 unfold tW
 rw[dY,dY,dY,List.append_assoc,List.append_assoc]
section
variable {P:Program}{w:World}{K:PySem.W.Frag}{mg:Str→Option Value}{base:Heap}{A:Ad}
theorem An {f:Addr}{fd:FuncData} (T:Txt P w K mg A) (D:Dn K mg "answer_route" mL ["mine","given"] f fd):bO P w K mg base eC 6 f fd ["mine","given"] (Ih A (fun c=>∃ a b t l,c=[[8,a,b,t,l]])):=by
 obtain ⟨af_all_steps,fd_all_steps,D_all_steps⟩:=T.gF
 have G_all_steps:=fQ (base:=base) T D_all_steps
 obtain ⟨af_earliest_minutes,fd_earliest_minutes,D_earliest_minutes⟩:=T.dX
 have G_earliest_minutes:=dM (base:=base) T D_earliest_minutes
 obtain ⟨af_first_begin,fd_first_begin,D_first_begin⟩:=T.oY
 have G_first_begin:=mH (base:=base) T D_first_begin
 obtain ⟨af_has_junction,fd_has_junction,D_has_junction⟩:=T.dU
 have G_has_junction:=dG (base:=base) T D_has_junction
 obtain ⟨af_is_load,fd_is_load,D_is_load⟩:=T.hX
 have G_is_load:=gI (base:=base) T D_is_load
 obtain ⟨af_is_minute,fd_is_minute,D_is_minute⟩:=T.fO
 have G_is_minute:=eS (base:=base) T D_is_minute
 obtain ⟨af_is_name,fd_is_name,D_is_name⟩:=T.fI
 have G_is_name:=eO (base:=base) T D_is_name
 obtain ⟨af_route_steps,fd_route_steps,D_route_steps⟩:=T.Gd
 have G_route_steps:=Ef (base:=base) T D_route_steps
 have nd:=sc_answer_route.nd
 refine D.fn.ok sc_answer_route (fun vs H Q E h=>?_) (fun cdv Ar outer s H vs Q E hr h=>?_)
 ·obtain ⟨a,lb,g,s0,c,_,rfl,_⟩:=h
  rfl
 ·obtain ⟨a,lb,g,s0,c,⟨ja,jb,t,ld,rfl⟩,rfl,M,hg,hl,k⟩:=h
  have hu:=nN hr
  refine ⟨_,(aC (aR (i:=2) nd rfl (Or.inl rfl) (bX bC (pv 1) aM (fun _ _=>rfl))) (aC (aR (i:=3) nd rfl (Or.inl rfl) (bX bC (pv 1) aM (fun _ _=>rfl))) (aC (aR (i:=4) nd rfl (Or.inl rfl) (bX bC (pv 1) aM (fun _ _=>rfl))) (aC (aR (i:=5) nd rfl (Or.inl rfl) (bX bC (pv 1) aM (fun _ _=>rfl))) (aC (bJ (dJ (PW.pt (cU (bK (aG G_is_name (hr.mono (by decide)) rfl D_is_name.mg D_is_name.fn.kp D_is_name.bi .nil aN (aB (pv 2) aD))) (cU (bK (aG G_is_name (hr.mono (by decide)) rfl D_is_name.mg D_is_name.fn.kp D_is_name.bi .nil aN (aB (pv 3) aD))) (cU (bK (aG G_is_minute (hr.mono (by decide)) rfl D_is_minute.mg D_is_minute.fn.kp D_is_minute.bi .nil aN (aB (pv 4) aD))) (eL (bK (aG G_is_load (hr.mono (by decide)) rfl D_is_load.mg D_is_load.fn.kp D_is_load.bi .nil aN (aB (pv 5) aD))))))))) (aE (aK (bE (aB (aW rfl T.eG) aD)))) aU) (aC (bJ (dJ (PW.pt (cU (bK (aG G_has_junction (hr.mono (by decide)) rfl D_has_junction.mg D_has_junction.fn.kp D_has_junction.bi .nil aN (aB (aI (pv 0) rfl) (aB (pv 2) aD)))) (eL (bK (aG G_has_junction (hr.mono (by decide)) rfl D_has_junction.mg D_has_junction.fn.kp D_has_junction.bi .nil aN (aB (aI (pv 0) rfl) (aB (pv 3) aD)))))))) (aE (aK (bE (aB (aW rfl T.eX) aD)))) aU) (aC (aR (i:=6) nd rfl (Or.inl rfl) (aG G_all_steps (hr.mono (by decide)) rfl D_all_steps.mg D_all_steps.fn.kp D_all_steps.bi .nil aN (aB (aI (pv 0) rfl) (aB (pv 5) aD)))) (aC (aR (i:=7) nd rfl (Or.inl rfl) (aG G_earliest_minutes (hr.mono (by decide)) rfl D_earliest_minutes.mg D_earliest_minutes.fn.kp D_earliest_minutes.bi .nil aN (aB (pv 6) (aB (pv 2) (aB (pv 4) aD))))) (aC (bJ (qC (lO hu (pv 3) (pv 7))) (aE (aK (bE (aB (aW rfl T.rS) aD)))) aU) (aC (aR (i:=8) nd rfl (Or.inl rfl) (bE (aB (aW rfl T.gG) (aB (gQ hu (pv 7) (pv 3) (fun _ _=>rfl)) aD)))) (aC (eK PassesOwn.never rfl (cH (aG G_route_steps (hr.mono (by decide)) rfl D_route_steps.mg D_route_steps.fn.kp D_route_steps.bi .nil aN (aB (pv 6) (aB (pv 7) (aB (pv 2) (aB (pv 3) aD)))))) (bV (i:=9) nd rfl (Or.inl rfl)) (aE (cI (fG PySem.F.plainAttrs_list PySem.F.slot_list_extend PySem.F.type_list_extend iY (pv 8) (aB (bE (aB (aI (pv 9) rfl) (aB (aG G_first_begin (hr.mono (by decide)) rfl D_first_begin.mg D_first_begin.fn.kp D_first_begin.bi .nil aN (aB (pv 9) (aB (gQ hu (pv 7) (aI (pv 9) rfl) (fun _ _=>rfl)) aD))) aD))) aD))))) (aE (aK (pv 8)))))))))))))),?_⟩
  have hg:H g=some (.lst [.int ja,.int jb,.int t,.int ld]):=hg
  obtain ⟨dx,p,ha,NN,NI⟩:=M.net
  have rg:Vbmiai.callOf [[8,ja,jb,t,ld]]=Vbmiai.ranged (Vbmiai.isJ ja && (Vbmiai.isJ jb && (Vbmiai.isT t && Vbmiai.isB ld))) (.route ja.toNat jb.toNat t.toNat ld.toNat):=rfl
  refine cC (bL (aA rfl) aL (SqL.of hg) (cY (j:=0) rfl rfl)) ?_
  refine cC (bL (aA rfl) aL (SqL.of hg) (cY (j:=1) rfl rfl)) ?_
  refine cC (bL (aA rfl) aL (SqL.of hg) (cY (j:=2) rfl rfl)) ?_
  refine cC (bL (aA rfl) aL (SqL.of hg) (cY (j:=3) rfl rfl)) ?_
  refine cB (dH (dA (bR (aZ (bW (aA rfl)) fun Q q=>⟨ja,rfl,q⟩)) fun _=>dA (bR (aZ (bW (aA rfl)) fun Q q=>⟨jb,rfl,q⟩)) fun _=>dA (bR (aZ (bW (aA rfl)) fun Q q=>⟨t,rfl,q⟩)) fun _=>bR (aZ (bW (aA rfl)) fun Q q=>⟨ld,rfl,q⟩))) (fun e=>?_) (fun e=>?_)
  ·exact cD M k (Same.refl H) aL (eN rg ((Bool.not_eq_true' _).mp e))
  have e:=(Bool.not_eq_false' (b:=_)).mp e
  have es:=gH (s:=s0) rg e
  rw[Bool.and_eq_true,Bool.and_eq_true,Bool.and_eq_true] at e
  obtain ⟨a',rfl,b1,b2⟩:=bM e.1 (by decide)
  obtain ⟨b',rfl,b3,b4⟩:=bM e.2.1 (by decide)
  obtain ⟨t',rfl,b5,b6⟩:=bM e.2.2.1 (by decide)
  have el:=nY e.2.2.2
  rw[Int.toNat_natCast,Int.toNat_natCast,Int.toNat_natCast] at es
  have es:stepRows s0 [[8,(a':Int),(b':Int),(t':Int),ld]]=(if Vbmiai.hasJunction s0.net a'=false then (s0,[-2]) else if Vbmiai.hasJunction s0.net b'=false then (s0,[-2]) else match Vbmiai.timeAt (Vbmiai.times s0.net a' t' (ld.toNat == 1)) b' with
    | none=>(s0,[-7])
    | some k=>(s0,0 :: Int.ofNat k :: Vbmiai.ints ((Vbmiai.route s0.net a' b' t' (ld.toNat == 1)).flatMap fun x=>[x.1.road,x.2]))):=es
  generalize (ld.toNat == 1)=l at el es
  subst el
  refine cB (dH (dA (bR (aZ (bS (aH (aA rfl) ha T.bT.cl T.bB aX) (aA rfl)) fun Q q=>⟨p,s0.net,a',rfl,NN,q⟩)) fun _=>bR (aZ (bS (aH (aA rfl) ha T.bT.cl T.bB aX) (aA rfl)) fun Q q=>⟨p,s0.net,b',rfl,NN,q⟩))) (fun e=>?_) (fun e=>?_)
  ·have e:=(Bool.not_eq_true' _).mp e
   refine cD M k (Same.refl H) aL ?_
   rw[es]
   cases q1:Vbmiai.hasJunction s0.net a' with
   | false=>rfl
   | true=>
    rw[q1] at e
    have q2:Vbmiai.hasJunction s0.net b'=false:=e
    rw[q2]
    rfl
  have e:=(Bool.not_eq_false' (b:=_)).mp e
  rw[Bool.and_eq_true] at e
  obtain ⟨hj,hjb⟩:=e
  rw[if_neg (by rw[hj];simp),if_neg (by rw[hjb];simp)] at es
  refine bZ (bQ (bS (aH (aA rfl) ha T.bT.cl T.bB aX) (aA rfl)) ⟨p,s0.net,l,rfl,NN,M.wf,fun sl H1 s1 nx L=>?_⟩)
  obtain ⟨as1,hl1,hall1⟩:=id L
  refine bZ (bQ (bA (aA rfl) (bS (aA rfl) (aA rfl))) ⟨sl,s0.net,_,_,a',t',_,rfl,L,M.wf.caps hj,fun d ks H2 s2 nd hd R G=>?_⟩)
  have s12:=s1.trans s2
  have et:=M.wf.times G hj
  rw[et b'] at es
  cases q:look ks b' with
  | none=>
   rw[q] at es
   refine cB ((bR (gA (aA rfl) (aA rfl) hd)).to (c:=true) (by rw[cM,q];rfl)) (fun _=>cD M k s12 aL es) (fun e=>by cases e)
  | some kk=>
   rw[q] at es
   dsimp only at es
   refine cB ((bR (gA (aA rfl) (aA rfl) hd)).to (c:=false) (by rw[cM,q];rfl)) (fun e=>by cases e) (fun _=>?_)
   obtain ⟨r,hback,er,hr10⟩:=M.wf.route G hj q
   obtain ⟨hbk,hbeg⟩:=ae et hback
   rw[er] at es
   refine bZ (dI (bS aL (gP (aA rfl) (aA rfl) hd (by rw[cM,q];rfl))) (by show 2≤sizeLine;decide) fun an han=>?_)
   have s3:=s12.over (o:=.lst [.int 0,.int (kk:Int)]) (s12.free han)
   have s13:Same H1 (cA H2 an (.lst [.int 0,.int (kk:Int)])):=s2.over (s2.free han)
   have han0:H an=none:=s12.free han
   refine Ji (bQ (bA (aA rfl) (bA (aA rfl) (bS (aA rfl) (aA rfl)))) ⟨sl,d,s0.net,_,as1,ks,a',b',r.map (·.1),rfl,s13 _ _ hl1,hall1.imp fun _ _ z=>z.same s13,bN han _ _ hd,hbk,by rw[List.length_map];exact hr10,fun x H4 as s4 nx4 hl4 hall=>?_⟩)
   rw[←List.map_reverse] at hall
   have hlen:r.reverse.length≤10:=by rw[List.length_reverse];exact hr10
   have hflat:∀ i,((r.reverse.take i).flatMap fun x=>[x.1.road,x.2]).length≤20:=by
    intro i
    have h2:(r.reverse.take i).length≤10:=by
     rw[List.length_take]
     omega
    exact Nat.le_trans (Cp (fun x:pB×Nat=>[x.1.road,x.2]) 2 (r.reverse.take i) fun x _=>Nat.le_refl _) (by omega)
   refine Jh (SqL.of hl4) (fun i σ H'=>(∃ v:Option V,σ=[some (.ref a),some (.ref g),some (.int (a':Int)),some (.int (b':Int)),some (.int (t':Int)),some (.int (lI l)),some (.ref sl),some (.ref d),some (.ref an),v])∧Same H H'∧H' x=some (.lst (as.map V.ref))∧H' d=some (.dK (gN ks))∧Same H1 H'∧H' an=some (.lst (.int 0 :: .int (kk:Int) :: nI ((r.reverse.take i).flatMap fun x=>[x.1.road,x.2])))) ⟨⟨_,rfl⟩,s3.trans s4,hl4,s4 _ _ (bN han _ _ hd),s13.trans s4,s4 _ _ aF⟩ (fun i σ H' _ h=>SqL.of h.2.2.1) ?_ ?_
   ·rintro i y σ H5 hi ⟨⟨v,rfl⟩,s5,h5,hd5,s15,han5⟩
    obtain ⟨b,hb,rfl⟩:=bF hi
    obtain ⟨st,hst,i1,hi1,hi2⟩:=hall.get hb
    obtain ⟨xx,hxx,rfl⟩:=bF hst
    obtain ⟨st',hst',S1⟩:=hall1.get hi1
    rw[hi2] at hst'
    cases hst'
    have S:=S1.same s15
    obtain ⟨u,hu,eb⟩:=hbeg xx (List.mem_reverse.mp (List.mem_of_getElem? hxx))
    obtain ⟨ll,cs,S'⟩:=id S
    obtain ⟨dst,hob⟩:=S'.ob
    refine gU (uZ (aA rfl) han5 (dI (bS (aH (aA rfl) hob T.dZ.cl T.nW qN) (aZ (bS (aA rfl) (gP (aA rfl) (aH (aA rfl) hob T.dZ.cl T.fS fT) hd5 (by rw[cM,hu];rfl))) fun Q q=>⟨b,s0.net,xx.1,u,rfl,S,q⟩)) (by show 2≤sizeLine;decide) fun q2 hq2=>?_))
    have h5q:=bN (o:=.lst [.int (xx.1.road:Int),.int (Vbmiai.begins s0.net xx.1.road u xx.1.long:Int)]) hq2
    refine ⟨an,q2,_,_,rfl,rfl,h5q _ _ han5,aF,?_,⟨_,rfl⟩,(s5.over (s5.free hq2)).over han0,?_,?_,?_,?_⟩
    ·have:=hflat i
     rw[List.length_cons,List.length_cons,cJ,sizeLine_eq]
     show _ + 2≤_
     omega
    ·have nx:x≠an:=fun z=>by
      rw[z] at nx4
      rw[aF] at nx4
      cases nx4
     rw[aV nx]
     exact h5q _ _ h5
    ·rw[aV (jM (h5q _ _ hd5) (h5q _ _ han5) (by intro z;cases z))]
     exact h5q _ _ hd5
    ·exact (s15.over (s15.free hq2)).over (s2.free han)
    ·rw[aF,cG hxx,List.flatMap_append,dY]
     have e2:nI ([xx].flatMap fun x=>[x.1.road,x.2])=[.int (xx.1.road:Int),.int (Vbmiai.begins s0.net xx.1.road u xx.1.long:Int)]:=by
      show [V.int (xx.1.road:Int),V.int (xx.2:Int)]=_
      rw[eb]
     rw[e2]
     rfl
   ·rintro σ H5 ⟨⟨v,rfl⟩,s5,h5,hd5,s15,han5⟩
    have e5:(as.map V.ref).length=r.reverse.length:=by
     rw[List.length_map,hall.length,List.length_map]
    rw[e5,List.take_length] at han5
    refine cS (aA rfl) (gO M k es s5 han0 ?_)
    rw[han5,List.map_cons,List.map_cons,lF]
    rfl
end
open Vbmiai (State stepRows)
theorem Cr {l:List Int}{most:Nat} (h:Vbmiai.isList l most 0 1000000=true):l.map V.int=nI (Vbmiai.nats l)∧l.length≤most∧(Vbmiai.nats l).length=l.length∧l=(Vbmiai.nats l).map (fun (n:Nat)=>(n:Int)):=by
 unfold Vbmiai.isList at h
 rw[Bool.and_eq_true,decide_eq_true_iff,List.all_eq_true] at h
 have e:∀ z ∈ l,z=((z.toNat:Nat):Int):=fun z hz=>by
  obtain ⟨n,rfl,_⟩:=bM (h.2 z hz) (Int.le_refl 0)
  rfl
 refine ⟨?_,h.1,by unfold Vbmiai.nats;rw[List.length_map],?_⟩
 ·unfold nI Vbmiai.nats
  rw[List.map_map]
  apply List.map_congr_left
  intro z hz
  exact congrArg V.int (e z hz)
 ·unfold Vbmiai.nats
  rw[List.map_map]
  conv=>lhs;rw[←List.map_id l]
  apply List.map_congr_left
  intro z hz
  exact e z hz
section
variable {P:Program}{w:World}{K:PySem.W.Frag}{mg:Str→Option Value}{base:Heap}{A:Ad}
theorem Au {f:Addr}{fd:FuncData} (T:Txt P w K mg A) (D:Dn K mg "answer_check" mR ["mine","given"] f fd):bO P w K mg base eC 6 f fd ["mine","given"] (Ih A (fun c=>∃ a t l r,c=[[9,a,t,l],r])):=by
 obtain ⟨af_all_steps,fd_all_steps,D_all_steps⟩:=T.gF
 have G_all_steps:=fQ (base:=base) T D_all_steps
 obtain ⟨af_follow_trip,fd_follow_trip,D_follow_trip⟩:=T.Ge
 have G_follow_trip:=Ed (base:=base) T D_follow_trip
 obtain ⟨af_has_junction,fd_has_junction,D_has_junction⟩:=T.dU
 have G_has_junction:=dG (base:=base) T D_has_junction
 obtain ⟨af_is_load,fd_is_load,D_is_load⟩:=T.hX
 have G_is_load:=gI (base:=base) T D_is_load
 obtain ⟨af_is_minute,fd_is_minute,D_is_minute⟩:=T.fO
 have G_is_minute:=eS (base:=base) T D_is_minute
 obtain ⟨af_is_name,fd_is_name,D_is_name⟩:=T.fI
 have G_is_name:=eO (base:=base) T D_is_name
 obtain ⟨af_is_row,fd_is_row,D_is_row⟩:=T.Ct
 have G_is_row:=xT (base:=base) T D_is_row
 have nd:=sc_answer_check.nd
 refine D.fn.ok sc_answer_check (fun vs H Q E h=>?_) (fun cdv Ar outer s H vs Q E hr h=>?_)
 ·obtain ⟨a,lb,g,s0,c,_,rfl,_⟩:=h
  rfl
 ·obtain ⟨a,lb,g,s0,c,⟨ja,t,ld,r,rfl⟩,rfl,M,hg,hl,k⟩:=h
  refine ⟨_,(aC (aR (i:=2) nd rfl (Or.inl rfl) (bX bC (pv 1) aM (fun _ _=>rfl))) (aC (aR (i:=3) nd rfl (Or.inl rfl) (bX bC (pv 1) aM (fun _ _=>rfl))) (aC (aR (i:=4) nd rfl (Or.inl rfl) (bX bC (pv 1) aM (fun _ _=>rfl))) (aC (aR (i:=5) nd rfl (Or.inl rfl) (pG uA (pv 1) (nP aM) Bi)) (aC (bJ (dJ (PW.pt (cU (bK (aG G_is_name (hr.mono (by decide)) rfl D_is_name.mg D_is_name.fn.kp D_is_name.bi .nil aN (aB (pv 2) aD))) (cU (bK (aG G_is_minute (hr.mono (by decide)) rfl D_is_minute.mg D_is_minute.fn.kp D_is_minute.bi .nil aN (aB (pv 3) aD))) (cU (bK (aG G_is_load (hr.mono (by decide)) rfl D_is_load.mg D_is_load.fn.kp D_is_load.bi .nil aN (aB (pv 4) aD))) (eL (bK (aG G_is_row (hr.mono (by decide)) rfl D_is_row.mg D_is_row.fn.kp D_is_row.bi .nil aN (aB (pv 5) (aB (aW rfl T.uL) aD)))))))))) (aE (aK (bE (aB (aW rfl T.eG) aD)))) aU) (aC (bJ (dJ (bK (aG G_has_junction (hr.mono (by decide)) rfl D_has_junction.mg D_has_junction.fn.kp D_has_junction.bi .nil aN (aB (aI (pv 0) rfl) (aB (pv 2) aD))))) (aE (aK (bE (aB (aW rfl T.eX) aD)))) aU) (aC (bJ (aY fW (cO Il (bU bG (by rfl) T.eP dL (aB (pv 5) aD)) aM) aM (bD _)) (aE (aK (bE (aB (aW rfl T.oZ) aD)))) aU) (aC (aR (i:=6) nd rfl (Or.inl rfl) (aG G_follow_trip (hr.mono (by decide)) rfl D_follow_trip.mg D_follow_trip.fn.kp D_follow_trip.bi .nil aN (aB (aG G_all_steps (hr.mono (by decide)) rfl D_all_steps.mg D_all_steps.fn.kp D_all_steps.bi .nil aN (aB (aI (pv 0) rfl) (aB (pv 4) aD))) (aB (pv 2) (aB (pv 3) (aB (pv 5) aD)))))) (aC (bJ (aY uP (aI (pv 6) rfl) aM (bD _)) (aE (aK (bE (aB (aW rfl T.gG) (aB aM (aB (aI (pv 6) rfl) aD)))))) aU) (aE (aK (bE (aB (aW rfl T.gG) (aB aM (aB (aI (pv 6) rfl) (aB (aI (pv 6) rfl) aD)))))))))))))))),?_⟩
  have eg:kF [[9,ja,t,ld],r]=ja :: t :: ld :: r:=by
   show [ja,t,ld] ++ (r ++ [])=_
   simp
  rw[eg] at hg hl
  have hg:H g=some (.lst (.int ja :: .int t :: .int ld :: r.map V.int)):=hg
  have hrl:r.length<sizeLine:=by
   simp at hl
   rw[sizeLine_eq]
   omega
  obtain ⟨dx,p,ha,NN,NI⟩:=M.net
  have rg:Vbmiai.callOf [[9,ja,t,ld],r]=Vbmiai.ranged (Vbmiai.isJ ja && (Vbmiai.isT t && (Vbmiai.isB ld && Vbmiai.isList r 60 0 1000000))) (.check ja.toNat t.toNat ld.toNat (Vbmiai.nats r)):=rfl
  refine cC (bL (aA rfl) aL (SqL.of hg) (cY (j:=0) rfl rfl)) ?_
  refine cC (bL (aA rfl) aL (SqL.of hg) (cY (j:=1) rfl rfl)) ?_
  refine cC (bL (aA rfl) aL (SqL.of hg) (cY (j:=2) rfl rfl)) ?_
  refine bZ (pH (aA rfl) (iZ aL) uF (SqL.of hg) (uC (i:=3) (by simp)) fun nl hnl=>?_)
  have s1:Same H (cA H nl (.lst (List.drop 3 (.int ja :: .int t :: .int ld :: r.map V.int)))):=bN hnl
  have hn1:cA H nl (.lst (List.drop 3 (.int ja :: .int t :: .int ld :: r.map V.int))) nl=some (.lst (r.map V.int)):=aF
  refine wC (Wd (uO (bR (aZ (bW (aA rfl)) fun Q q=>⟨ja,rfl,q⟩)) (fun e1=>uO (bR (aZ (bW (aA rfl)) fun Q q=>⟨t,rfl,q⟩)) (fun e2=>uO (bR (aZ (bW (aA rfl)) fun Q q=>⟨ld,rfl,q⟩)) (fun e3=>fj (bQ (bS (aA rfl) aL) ⟨nl,r,60,rfl,SqL.of hn1,hrl,fun H2 s2=>⟨_,rfl,?_⟩⟩)) (fun e=>iE ?_)) (fun e=>iE ?_)) (fun e=>iE ?_)))
  rotate_left
  ·exact bP (cD M k s1 aL (eN rg (by rw[show Vbmiai.isB ld=false from e];simp)))
  ·exact bP (cD M k s1 aL (eN rg (by rw[show Vbmiai.isT t=false from e];simp)))
  ·exact bP (cD M k s1 aL (eN rg (by rw[show Vbmiai.isJ ja=false from e];simp)))
  have s12:=s1.trans s2
  cases e4:Vbmiai.isList r 60 0 1000000 with
  | false=>exact iE (bP (cD M k s12 aL (eN rg (by rw[e4];simp))))
  | true=>
   refine rG ?_
   have es:=gH (s:=s0) rg (by rw[show Vbmiai.isJ ja=true from e1,show Vbmiai.isT t=true from e2,show Vbmiai.isB ld=true from e3,e4];rfl)
   obtain ⟨a',rfl,b1,b2⟩:=bM e1 (by decide)
   obtain ⟨t',rfl,b3,b4⟩:=bM e2 (by decide)
   have el:=nY e3
   obtain ⟨en,h60,hnl2,_⟩:=Cr e4
   rw[Int.toNat_natCast,Int.toNat_natCast] at es
   have es:stepRows s0 [[9,(a':Int),(t':Int),ld],r]=(if Vbmiai.hasJunction s0.net a'=false then (s0,[-2]) else if (Vbmiai.nats r).length % 2≠0 then (s0,[-8]) else match Vbmiai.travelled s0.net (ld.toNat == 1) 0 a' t' (Vbmiai.pairsOf (Vbmiai.nats r)) with
     | .ok p=>(s0,0 :: 1 :: Vbmiai.ints [p.1,p.2])
     | .error i=>(s0,[0,0,Int.ofNat i])):=es
   generalize (ld.toNat == 1)=l at el es
   subst el
   refine cB (dH (bR (aZ (bS (aH (aA rfl) (s12 _ _ ha) T.bT.cl T.bB aX) (aA rfl)) fun Q q=>⟨p,s0.net,a',rfl,NN.same s12,q⟩))) (fun e=>?_) (fun e=>?_)
   ·rw[if_pos ((Bool.not_eq_true' _).mp e)] at es
    exact cD M k s12 aL es
   have hj:=(Bool.not_eq_false' (b:=_)).mp e
   rw[if_neg (by rw[hj];simp)] at es
   have hn2:=s2 _ _ hn1
   refine cB ((aO (fA (jO (cW (bW (aA rfl)) (SqL.of hn2)) aL (by show (0:Int)<2;decide)) aL)).to (c:=decide ((Vbmiai.nats r).length % 2≠0)) ?_) (fun e=>?_) (fun e=>?_)
   ·rw[List.length_map,hnl2,Bool.eq_iff_iff,decide_eq_true_iff,decide_eq_true_iff]
    constructor
    ·intro z
     injection z with z
     have z:((r.length:Nat):Int) % 2=1:=z
     omega
    ·intro z
     refine congrArg V.int (show ((r.length:Nat):Int) % 2=1 from ?_)
     omega
   ·rw[if_pos (of_decide_eq_true e)] at es
    exact cD M k s12 aL es
   have hev:=of_decide_eq_false e
   rw[if_neg hev] at es
   rw[en] at hn2
   refine bZ (fF (cK (bQ (bS (aH (aA rfl) (s12 _ _ ha) T.bT.cl T.bB aX) (aA rfl)) ⟨p,s0.net,l,rfl,NN.same s12,M.wf,fun sl H3 s3 nx L=>(bA (aA rfl) (bS (aA rfl) (aA rfl))) _ ?_⟩)))
   refine ⟨sl,nl,s0.net,l,a',t',Vbmiai.nats r,rfl,L,SqL.of (s3 _ _ hn2),by omega,by omega,fun x H4 s4 nx4 hx=>?_⟩
   have s14:=s12.trans (s3.trans s4)
   cases et:Vbmiai.travelled s0.net l 0 a' t' (Vbmiai.pairsOf (Vbmiai.nats r)) with
   | ok pr=>
    rw[et] at hx es
    obtain ⟨dt,hx⟩:=hx
    refine cB ((aO (bH (aH (aA rfl) hx T.oC.cl T.kD mJ) aL)).to (c:=false) rfl) (fun e=>by cases e) (fun _=>?_)
    refine bP (dI (bA aL (bA aL (bS (aH (aA rfl) hx T.oC.cl T.xB Ft) (aH (aA rfl) hx T.oC.cl T.uV En)))) (by show 4≤sizeLine;decide) fun q hq=>?_)
    exact gO M k es (s14.over (s14.free hq)) (s14.free hq) aF
   | error i=>
    rw[et] at hx es
    obtain ⟨u,v,dt,hx⟩:=hx
    refine cB ((aO (bH (aH (aA rfl) hx T.oC.cl T.kD mJ) aL)).to (c:=true) (by rw[decide_eq_true_iff];omega)) (fun _=>?_) (fun e=>by cases e)
    refine dI (bA aL (bS aL (aH (aA rfl) hx T.oC.cl T.kD mJ))) (by show 3≤sizeLine;decide) fun q hq=>?_
    exact gO M k es (s14.over (s14.free hq)) (s14.free hq) aF
theorem Ab {f:Addr}{fd:FuncData} (T:Txt P w K mg A) (D:Dn K mg "answer_table" nF ["mine","given"] f fd):bO P w K mg base eC 6 f fd ["mine","given"] (Ih A (fun c=>∃ a t l r,c=[[10,a,t,l],r])):=by
 obtain ⟨af_all_steps,fd_all_steps,D_all_steps⟩:=T.gF
 have G_all_steps:=fQ (base:=base) T D_all_steps
 obtain ⟨af_earliest_minutes,fd_earliest_minutes,D_earliest_minutes⟩:=T.dX
 have G_earliest_minutes:=dM (base:=base) T D_earliest_minutes
 obtain ⟨af_has_junction,fd_has_junction,D_has_junction⟩:=T.dU
 have G_has_junction:=dG (base:=base) T D_has_junction
 obtain ⟨af_is_load,fd_is_load,D_is_load⟩:=T.hX
 have G_is_load:=gI (base:=base) T D_is_load
 obtain ⟨af_is_minute,fd_is_minute,D_is_minute⟩:=T.fO
 have G_is_minute:=eS (base:=base) T D_is_minute
 obtain ⟨af_is_name,fd_is_name,D_is_name⟩:=T.fI
 have G_is_name:=eO (base:=base) T D_is_name
 obtain ⟨af_is_row,fd_is_row,D_is_row⟩:=T.Ct
 have G_is_row:=xT (base:=base) T D_is_row
 obtain ⟨af_minutes_in_order,fd_minutes_in_order,D_minutes_in_order⟩:=T.nL
 have G_minutes_in_order:=lC (base:=base) T D_minutes_in_order
 have nd:=sc_answer_table.nd
 refine D.fn.ok sc_answer_table (fun vs H Q E h=>?_) (fun cdv Ar outer s H vs Q E hr h=>?_)
 ·obtain ⟨a,lb,g,s0,c,_,rfl,_⟩:=h
  rfl
 ·obtain ⟨a,lb,g,s0,c,⟨ja,t,ld,r,rfl⟩,rfl,M,hg,hl,k⟩:=h
  have hu64:=hr.units
  refine ⟨_,(aC (aR (i:=2) nd rfl (Or.inl rfl) (bX bC (pv 1) aM (fun _ _=>rfl))) (aC (aR (i:=3) nd rfl (Or.inl rfl) (bX bC (pv 1) aM (fun _ _=>rfl))) (aC (aR (i:=4) nd rfl (Or.inl rfl) (bX bC (pv 1) aM (fun _ _=>rfl))) (aC (aR (i:=5) nd rfl (Or.inl rfl) (pG uA (pv 1) (nP aM) Bi)) (aC (bJ (dJ (PW.pt (cU (bK (aG G_is_name (hr.mono (by decide)) rfl D_is_name.mg D_is_name.fn.kp D_is_name.bi .nil aN (aB (pv 2) aD))) (cU (bK (aG G_is_minute (hr.mono (by decide)) rfl D_is_minute.mg D_is_minute.fn.kp D_is_minute.bi .nil aN (aB (pv 3) aD))) (cU (bK (aG G_is_load (hr.mono (by decide)) rfl D_is_load.mg D_is_load.fn.kp D_is_load.bi .nil aN (aB (pv 4) aD))) (eL (bK (aG G_is_row (hr.mono (by decide)) rfl D_is_row.mg D_is_row.fn.kp D_is_row.bi .nil aN (aB (pv 5) (aB (aW rfl T.tV) aD)))))))))) (aE (aK (bE (aB (aW rfl T.eG) aD)))) aU) (aC (bJ (dJ (bK (aG G_has_junction (hr.mono (by decide)) rfl D_has_junction.mg D_has_junction.fn.kp D_has_junction.bi .nil aN (aB (aI (pv 0) rfl) (aB (pv 2) aD))))) (aE (aK (bE (aB (aW rfl T.eX) aD)))) aU) (aC (bJ (aY Br (bU bG (by rfl) T.eP dL (aB (pv 5) aD)) (bU bG (by rfl) T.eP dL (aB (aI (aI (pv 0) rfl) rfl) aD)) (bD _)) (aE (aK (bE (aB (aW rfl T.oZ) aD)))) aU) (aC (aR (i:=6) nd rfl (Or.inl rfl) (aG G_earliest_minutes (hr.mono (by decide)) rfl D_earliest_minutes.mg D_earliest_minutes.fn.kp D_earliest_minutes.bi .nil aN (aB (aG G_all_steps (hr.mono (by decide)) rfl D_all_steps.mg D_all_steps.fn.kp D_all_steps.bi .nil aN (aB (aI (pv 0) rfl) (aB (pv 4) aD))) (aB (pv 2) (aB (pv 3) aD))))) (aC (Cq (i:=7) rfl nd rfl rfl rfl (cH (aG G_minutes_in_order (hr.mono (by decide)) rfl D_minutes_in_order.mg D_minutes_in_order.fn.kp D_minutes_in_order.bi .nil aN (aB (aI (pv 0) rfl) (aB (pv 6) aD)))) (blk (own:=[("minute",8)])) (fun _ _ _ _ _=>by exact (bV (i:=8) nd rfl (Or.inl rfl))) (fun _ _ _ _ _=>by exact iI) (fun _ _ _ _ _=>by exact (cO eR (pv 8) aM))) (aE (aK (bE (aB (aW rfl T.gG) (aB (rN (aY (Oj hu64) (pv 5) (pv 7) (bD _)) aM aM) aD)))))))))))))),?_⟩
  have eg:kF [[10,ja,t,ld],r]=ja :: t :: ld :: r:=by
   show [ja,t,ld] ++ (r ++ [])=_
   simp
  rw[eg] at hg hl
  have hg:H g=some (.lst (.int ja :: .int t :: .int ld :: r.map V.int)):=hg
  have hrl:r.length<sizeLine:=by
   simp at hl
   rw[sizeLine_eq]
   omega
  obtain ⟨dx,p,ha,NN,NI⟩:=M.net
  have rg:Vbmiai.callOf [[10,ja,t,ld],r]=Vbmiai.ranged (Vbmiai.isJ ja && (Vbmiai.isT t && (Vbmiai.isB ld && Vbmiai.isList r 20 0 1000000))) (.table ja.toNat t.toNat ld.toNat (Vbmiai.nats r)):=rfl
  refine cC (bL (aA rfl) aL (SqL.of hg) (cY (j:=0) rfl rfl)) ?_
  refine cC (bL (aA rfl) aL (SqL.of hg) (cY (j:=1) rfl rfl)) ?_
  refine cC (bL (aA rfl) aL (SqL.of hg) (cY (j:=2) rfl rfl)) ?_
  refine bZ (pH (aA rfl) (iZ aL) uF (SqL.of hg) (uC (i:=3) (by simp)) fun nl hnl=>?_)
  have s1:Same H (cA H nl (.lst (List.drop 3 (.int ja :: .int t :: .int ld :: r.map V.int)))):=bN hnl
  have hn1:cA H nl (.lst (List.drop 3 (.int ja :: .int t :: .int ld :: r.map V.int))) nl=some (.lst (r.map V.int)):=aF
  refine wC (Wd (uO (bR (aZ (bW (aA rfl)) fun Q q=>⟨ja,rfl,q⟩)) (fun e1=>uO (bR (aZ (bW (aA rfl)) fun Q q=>⟨t,rfl,q⟩)) (fun e2=>uO (bR (aZ (bW (aA rfl)) fun Q q=>⟨ld,rfl,q⟩)) (fun e3=>fj (bQ (bS (aA rfl) aL) ⟨nl,r,20,rfl,SqL.of hn1,hrl,fun H2 s2=>⟨_,rfl,?_⟩⟩)) (fun e=>iE ?_)) (fun e=>iE ?_)) (fun e=>iE ?_)))
  rotate_left
  ·exact bP (cD M k s1 aL (eN rg (by rw[show Vbmiai.isB ld=false from e];simp)))
  ·exact bP (cD M k s1 aL (eN rg (by rw[show Vbmiai.isT t=false from e];simp)))
  ·exact bP (cD M k s1 aL (eN rg (by rw[show Vbmiai.isJ ja=false from e];simp)))
  have s12:=s1.trans s2
  cases e4:Vbmiai.isList r 20 0 1000000 with
  | false=>exact iE (bP (cD M k s12 aL (eN rg (by rw[e4];simp))))
  | true=>
   refine rG ?_
   have es:=gH (s:=s0) rg (by rw[show Vbmiai.isJ ja=true from e1,show Vbmiai.isT t=true from e2,show Vbmiai.isB ld=true from e3,e4];rfl)
   obtain ⟨a',rfl,b1,b2⟩:=bM e1 (by decide)
   obtain ⟨t',rfl,b3,b4⟩:=bM e2 (by decide)
   have el:=nY e3
   obtain ⟨en,h60,hnl2,er⟩:=Cr e4
   rw[Int.toNat_natCast,Int.toNat_natCast] at es
   have es:stepRows s0 [[10,(a':Int),(t':Int),ld],r]=(if Vbmiai.hasJunction s0.net a'=false then (s0,[-2]) else if (Vbmiai.nats r).length≠s0.net.junctions.length then (s0,[-8]) else (s0,[0,if Vbmiai.isTable s0.net a' t' (ld.toNat == 1) ((s0.net.junctions.zip (Vbmiai.nats r)).map fun x=>(x.1.number,if x.2=0 then none else some (x.2 - 1)))=true then 1 else 0])):=es
   generalize (ld.toNat == 1)=l at el es
   subst el
   refine cB (dH (bR (aZ (bS (aH (aA rfl) (s12 _ _ ha) T.bT.cl T.bB aX) (aA rfl)) fun Q q=>⟨p,s0.net,a',rfl,NN.same s12,q⟩))) (fun e=>?_) (fun e=>?_)
   ·rw[if_pos ((Bool.not_eq_true' _).mp e)] at es
    exact cD M k s12 aL es
   have hj:=(Bool.not_eq_false' (b:=_)).mp e
   rw[if_neg (by rw[hj];simp)] at es
   have hn2:=s2 _ _ hn1
   obtain ⟨lj,lr,ls,lc,N⟩:=NN.same s12
   obtain ⟨dp,hp⟩:=N.ob
   obtain ⟨as,hjl,hall⟩:=N.js
   refine cB ((aO (yY (cW (bW (aA rfl)) (SqL.of hn2)) (cW (bW (aH (aH (aA rfl) (s12 _ _ ha) T.bT.cl T.bB aX) hp T.dQ.cl T.cN cQ)) (SqL.of hjl)))).to (c:=decide ((Vbmiai.nats r).length≠s0.net.junctions.length)) ?_) (fun e=>?_) (fun e=>?_)
   ·rw[fE,List.length_map,List.length_map,hall.length,hnl2,Bool.eq_iff_iff,decide_eq_true_iff,Bool.not_eq_true',beq_eq_false_iff_ne]
   ·rw[if_pos (of_decide_eq_true e)] at es
    exact cD M k s12 aL es
   have hev:=of_decide_eq_false e
   rw[if_neg hev] at es
   have hlen:(Vbmiai.nats r).length=s0.net.junctions.length:=by omega
   refine bZ (Vw (aH (aA rfl) (s12 _ _ ha) T.bT.cl T.bB aX) (aA rfl) (fun _ _=>(aA rfl)) (fun _ _=>(aA rfl)) (NN.same s12) M.wf hj fun d ks H3 s3 nd hd G=>?_)
   have s13:=s12.trans s3
   refine bZ (de (bQ (bS (aH (aA rfl) (s13 _ _ ha) T.bT.cl T.bB aX) (aA rfl)) ⟨p,d,s0.net,ks,rfl,NN.same s13,M.wf,hd,fun x H4 s4 nx e4=>?_⟩))
   have s14:=s13.trans s4
   have jl:=M.wf.jlen
   refine Wn (xs:=s0.net.junctions.map fun j=>V.int (jN (look ks j.number))) (zs:=s0.net.junctions) (fun _=>true) (fun _ j=>.int (jN (look ks j.number) + 1)) (SqL.of e4) (by rw[List.length_map]) (by rw[List.length_map];exact cE (by omega)) (fun _=>rfl) (fun i v z hi hz H' sm=>⟨lG,fun _=>?_⟩) (fun D hD=>?_)
   ·obtain ⟨z',hz',rfl⟩:=bF hi
    rw[hz] at hz'
    cases hz'
    exact bH (aA rfl) aL
   rw[jH _ _ _ _ (by rw[List.length_map]),lZ]
   have ed:s0.net.junctions.map (fun j=>V.int (jN (look ks j.number) + 1))=(s0.net.junctions.map fun j=>jN (look ks j.number) + 1).map V.int:=by rw[List.map_map];rfl
   rw[ed]
   have s5:=s14.over (o:=.lst ((s0.net.junctions.map fun j=>jN (look ks j.number) + 1).map V.int)) (s14.free hD)
   have hn5:(cA H4 D (.lst ((s0.net.junctions.map fun j=>jN (look ks j.number) + 1).map V.int))) nl=some (.lst (r.map V.int)):=bN hD _ _ (s4 _ _ (s3 _ _ hn2))
   refine bP (dI (bS aL (Lp (aO (Xe (aA rfl) (aA rfl) (SqL.of hn5) (SqL.of aF))) (fun _=>aL) (fun _=>aL))) (by show 2≤sizeLine;decide) fun q hq=>?_)
   refine gO M k es (s5.over (s5.free hq)) (s5.free hq) ?_
   rw[aF]
   have hk:((s0.net.junctions.zip (Vbmiai.nats r)).map fun x=>(x.1.number,if x.2=0 then none else some (x.2 - 1))).map (·.1)=s0.net.junctions.map (·.number):=by
    rw[List.map_map]
    have:((fun x:Nat×Option Nat=>x.1) ∘ fun x:Junction×Nat=>(x.1.number,if x.2=0 then none else some (x.2 - 1)))=(fun j:Junction=>j.number) ∘ Prod.fst:=rfl
    rw[this,←List.map_map,List.map_fst_zip (by omega)]
   have key:=(Ni M.wf G hj hk).trans (Lu (look ks) s0.net.junctions (Vbmiai.nats r) hlen)
   rw[←er] at key
   by_cases z:r=s0.net.junctions.map fun j=>jN (look ks j.number) + 1
   ·rw[if_pos (decide_eq_true z),if_pos (key.mpr z)]
    rfl
   ·rw[if_neg (by simpa using z),if_neg (fun q=>z (key.mp q))]
    rfl
theorem xF {f:Addr}{fd:FuncData} (T:Txt P w K mg A) (D:Dn K mg "answer_without" jW ["mine","given"] f fd):bO P w K mg base eC 6 f fd ["mine","given"] (Ih A (fun c=>∃ n a t l,c=[[11,n,a,t,l]])):=by
 obtain ⟨af_all_steps,fd_all_steps,D_all_steps⟩:=T.gF
 have G_all_steps:=fQ (base:=base) T D_all_steps
 obtain ⟨af_earliest_minutes,fd_earliest_minutes,D_earliest_minutes⟩:=T.dX
 have G_earliest_minutes:=dM (base:=base) T D_earliest_minutes
 obtain ⟨af_has_junction,fd_has_junction,D_has_junction⟩:=T.dU
 have G_has_junction:=dG (base:=base) T D_has_junction
 obtain ⟨af_has_road,fd_has_road,D_has_road⟩:=T.iP
 have G_has_road:=gW (base:=base) T D_has_road
 obtain ⟨af_is_load,fd_is_load,D_is_load⟩:=T.hX
 have G_is_load:=gI (base:=base) T D_is_load
 obtain ⟨af_is_minute,fd_is_minute,D_is_minute⟩:=T.fO
 have G_is_minute:=eS (base:=base) T D_is_minute
 obtain ⟨af_is_name,fd_is_name,D_is_name⟩:=T.fI
 have G_is_name:=eO (base:=base) T D_is_name
 obtain ⟨af_steps_without,fd_steps_without,D_steps_without⟩:=T.rB
 have G_steps_without:=pT (base:=base) T D_steps_without
 have nd:=sc_answer_without.nd
 refine D.fn.ok sc_answer_without (fun vs H Q E h=>?_) (fun cdv Ar outer s H vs Q E hr h=>?_)
 ·obtain ⟨a,lb,g,s0,c,_,rfl,_⟩:=h
  rfl
 ·obtain ⟨a,lb,g,s0,c,⟨n,ja,t,ld,rfl⟩,rfl,M,hg,hl,k⟩:=h
  have hu:=nN hr
  refine ⟨_,(aC (aR (i:=2) nd rfl (Or.inl rfl) (bX bC (pv 1) aM (fun _ _=>rfl))) (aC (aR (i:=3) nd rfl (Or.inl rfl) (bX bC (pv 1) aM (fun _ _=>rfl))) (aC (aR (i:=4) nd rfl (Or.inl rfl) (bX bC (pv 1) aM (fun _ _=>rfl))) (aC (aR (i:=5) nd rfl (Or.inl rfl) (bX bC (pv 1) aM (fun _ _=>rfl))) (aC (bJ (dJ (PW.pt (cU (bK (aG G_is_name (hr.mono (by decide)) rfl D_is_name.mg D_is_name.fn.kp D_is_name.bi .nil aN (aB (pv 2) aD))) (cU (bK (aG G_is_name (hr.mono (by decide)) rfl D_is_name.mg D_is_name.fn.kp D_is_name.bi .nil aN (aB (pv 3) aD))) (cU (bK (aG G_is_minute (hr.mono (by decide)) rfl D_is_minute.mg D_is_minute.fn.kp D_is_minute.bi .nil aN (aB (pv 4) aD))) (eL (bK (aG G_is_load (hr.mono (by decide)) rfl D_is_load.mg D_is_load.fn.kp D_is_load.bi .nil aN (aB (pv 5) aD))))))))) (aE (aK (bE (aB (aW rfl T.eG) aD)))) aU) (aC (bJ (dJ (bK (aG G_has_road (hr.mono (by decide)) rfl D_has_road.mg D_has_road.fn.kp D_has_road.bi .nil aN (aB (aI (pv 0) rfl) (aB (pv 2) aD))))) (aE (aK (bE (aB (aW rfl T.pQ) aD)))) aU) (aC (bJ (dJ (bK (aG G_has_junction (hr.mono (by decide)) rfl D_has_junction.mg D_has_junction.fn.kp D_has_junction.bi .nil aN (aB (aI (pv 0) rfl) (aB (pv 3) aD))))) (aE (aK (bE (aB (aW rfl T.eX) aD)))) aU) (aC (aR (i:=6) nd rfl (Or.inl rfl) (aG G_all_steps (hr.mono (by decide)) rfl D_all_steps.mg D_all_steps.fn.kp D_all_steps.bi .nil aN (aB (aI (pv 0) rfl) (aB (pv 5) aD)))) (aC (aR (i:=7) nd rfl (Or.inl rfl) (aG G_earliest_minutes (hr.mono (by decide)) rfl D_earliest_minutes.mg D_earliest_minutes.fn.kp D_earliest_minutes.bi .nil aN (aB (pv 6) (aB (pv 3) (aB (pv 4) aD))))) (aC (aR (i:=8) nd rfl (Or.inl rfl) (aG G_earliest_minutes (hr.mono (by decide)) rfl D_earliest_minutes.mg D_earliest_minutes.fn.kp D_earliest_minutes.bi .nil aN (aB (aG G_steps_without (hr.mono (by decide)) rfl D_steps_without.mg D_steps_without.fn.kp D_steps_without.bi .nil aN (aB (pv 6) (aB (pv 2) aD))) (aB (pv 3) (aB (pv 4) aD))))) (aC (aR (i:=9) nd rfl (Or.inl rfl) (bE (aB (aW rfl T.gG) aD))) (aC (eK PassesOwn.never rfl (cH (aI (aI (pv 0) rfl) rfl)) (bV (i:=10) nd rfl (Or.inl rfl)) (aC (aR (i:=11) nd rfl (Or.inl rfl) (aI (pv 10) rfl)) (aE (bJ (aY Br (rM hu (pv 7) (pv 11) (aW rfl T.kI) ⟨rfl,rfl,rfl,rfl⟩) (rM hu (pv 8) (pv 11) (aW rfl T.kI) ⟨rfl,rfl,rfl,rfl⟩) (bD _)) (aE (cI (fG PySem.F.plainAttrs_list PySem.F.slot_list_extend PySem.F.type_list_extend iY (pv 9) (aB (bE (aB (pv 11) (aB (rM hu (pv 7) (pv 11) (aW rfl T.kI) ⟨rfl,rfl,rfl,rfl⟩) (aB (rM hu (pv 8) (pv 11) (aW rfl T.kI) ⟨rfl,rfl,rfl,rfl⟩) aD)))) aD)))) aU)))) (aE (aK (pv 9))))))))))))))),?_⟩
  have hg:H g=some (.lst [.int n,.int ja,.int t,.int ld]):=hg
  obtain ⟨dx,p,ha,NN,NI⟩:=M.net
  have rg:Vbmiai.callOf [[11,n,ja,t,ld]]=Vbmiai.ranged (Vbmiai.isJ n && (Vbmiai.isJ ja && (Vbmiai.isT t && Vbmiai.isB ld))) (.without n.toNat ja.toNat t.toNat ld.toNat):=rfl
  refine cC (bL (aA rfl) aL (SqL.of hg) (cY (j:=0) rfl rfl)) ?_
  refine cC (bL (aA rfl) aL (SqL.of hg) (cY (j:=1) rfl rfl)) ?_
  refine cC (bL (aA rfl) aL (SqL.of hg) (cY (j:=2) rfl rfl)) ?_
  refine cC (bL (aA rfl) aL (SqL.of hg) (cY (j:=3) rfl rfl)) ?_
  refine cB (dH (dA (bR (aZ (bW (aA rfl)) fun Q q=>⟨n,rfl,q⟩)) fun _=>dA (bR (aZ (bW (aA rfl)) fun Q q=>⟨ja,rfl,q⟩)) fun _=>dA (bR (aZ (bW (aA rfl)) fun Q q=>⟨t,rfl,q⟩)) fun _=>bR (aZ (bW (aA rfl)) fun Q q=>⟨ld,rfl,q⟩))) (fun e=>?_) (fun e=>?_)
  ·exact cD M k (Same.refl H) aL (eN rg ((Bool.not_eq_true' _).mp e))
  have e:=(Bool.not_eq_false' (b:=_)).mp e
  have es:=gH (s:=s0) rg e
  rw[Bool.and_eq_true,Bool.and_eq_true,Bool.and_eq_true] at e
  obtain ⟨n',rfl,b1,b2⟩:=bM e.1 (by decide)
  obtain ⟨a',rfl,b3,b4⟩:=bM e.2.1 (by decide)
  obtain ⟨t',rfl,b5,b6⟩:=bM e.2.2.1 (by decide)
  have el:=nY e.2.2.2
  rw[Int.toNat_natCast,Int.toNat_natCast,Int.toNat_natCast] at es
  have es:stepRows s0 [[11,(n':Int),(a':Int),(t':Int),ld]]=(match Vbmiai.roadOf s0.net n' with
    | none=>(s0,[-3])
    | some _=>if Vbmiai.hasJunction s0.net a'=false then (s0,[-2]) else (s0,0 :: (((Vbmiai.times s0.net a' t' (ld.toNat == 1)).zip (Vbmiai.times (Vbmiai.withoutRoad s0.net n') a' t' (ld.toNat == 1))).filter fun z=>z.1 != z.2).flatMap fun z=>[Int.ofNat z.1.1,Vbmiai.optional z.1.2,Vbmiai.optional z.2.2])):=es
  generalize (ld.toNat == 1)=l at el es
  subst el
  refine cB (dH (bR (aZ (bS (aH (aA rfl) ha T.bT.cl T.bB aX) (aA rfl)) fun Q q=>⟨p,s0.net,n',rfl,NN,q⟩))) (fun e=>?_) (fun e=>?_)
  ·rw[pL (o:=Vbmiai.roadOf s0.net n') ((Bool.not_eq_true' _).mp e)] at es
   exact cD M k (Same.refl H) aL es
  obtain ⟨r,hr0⟩:=pP ((Bool.not_eq_false' (b:=_)).mp e:(Vbmiai.roadOf s0.net n').isSome=true)
  rw[hr0] at es
  dsimp only at es
  refine cB (dH (bR (aZ (bS (aH (aA rfl) ha T.bT.cl T.bB aX) (aA rfl)) fun Q q=>⟨p,s0.net,a',rfl,NN,q⟩))) (fun e=>?_) (fun e=>?_)
  ·rw[if_pos ((Bool.not_eq_true' _).mp e)] at es
   exact cD M k (Same.refl H) aL es
  have hj:=(Bool.not_eq_false' (b:=_)).mp e
  rw[if_neg (by rw[hj];simp)] at es
  refine bZ (bQ (bS (aH (aA rfl) ha T.bT.cl T.bB aX) (aA rfl)) ⟨p,s0.net,l,rfl,NN,M.wf,fun sl H1 s1 nx L=>?_⟩)
  refine bZ (bQ (bA (aA rfl) (bS (aA rfl) (aA rfl))) ⟨sl,s0.net,_,_,a',t',_,rfl,L,M.wf.caps hj,fun d ks H2 s2 nd hd R G=>?_⟩)
  have s12:=s1.trans s2
  have W':=M.wf.without n'
  refine bZ (fF (cK (bQ (bS (aA rfl) (aA rfl)) ⟨sl,s0.net,_,n',rfl,L.same s2,Hf M.wf l,fun sl2 H3 s3 nx3 L3=>(bS (aA rfl) (aA rfl)) _ ?_⟩)))
  rw[←sZ] at L3
  refine ⟨sl2,s0.net,_,_,a',t',_,rfl,L3,W'.caps (a:=a') hj,fun d' ks' H4 s4 nd' hd' R' G'=>?_⟩
  have s14:=s12.trans (s3.trans s4)
  have hd4:=s4 _ _ (s3 _ _ hd)
  have e1:=M.wf.times_list G hj
  have e2:=W'.times_list (g:=look ks') G' hj
  rw[show (Vbmiai.withoutRoad s0.net n').junctions=s0.net.junctions from rfl] at e2
  rw[e1,e2,Sd] at es
  obtain ⟨lj,lr,ls,lc,N⟩:=id NN
  obtain ⟨dp,hp⟩:=N.ob
  obtain ⟨as,hjl,hall⟩:=N.js
  have jl:=M.wf.jlen
  have hfl:∀ i,((s0.net.junctions.take i).flatMap (hG (look ks) (look ks'))).length≤30:=by
   intro i
   have h2:(s0.net.junctions.take i).length≤10:=by
    rw[List.length_take]
    omega
   have h3:∀ (js:List Junction),(js.flatMap (hG (look ks) (look ks'))).length≤3 * js.length:=by
    intro js
    induction js with
    | nil=>simp
    | cons j js ih=>
     rw[List.flatMap_cons,List.length_append,List.length_cons]
     have:(hG (look ks) (look ks') j).length≤3:=by
      unfold hG
      split <;> simp
     omega
   have:=h3 (s0.net.junctions.take i)
   omega
  refine bZ (dI (bW aL) (by show 1≤sizeLine;decide) fun an han=>?_)
  have han0:H an=none:=s14.free han
  have s5:=s14.over (o:=.lst [.int 0]) han0
  refine iL (aH (aH (aA rfl) (s5 _ _ ha) T.bT.cl T.bB aX) (s5 _ _ hp) T.dQ.cl T.cN cQ) (SqL.of (s5 _ _ hjl)) (fun i σ H'=>(∃ v1 v2:Option V,σ=[some (.ref a),some (.ref g),some (.int (n':Int)),some (.int (a':Int)),some (.int (t':Int)),some (.int (lI l)),some (.ref sl),some (.ref d),some (.ref d'),some (.ref an),v1,v2])∧Same H H'∧H' d=some (.dK (gN ks))∧H' d'=some (.dK (gN ks'))∧H' an=some (.lst (.int 0 :: ((s0.net.junctions.take i).flatMap (hG (look ks) (look ks'))).map V.int))) ⟨⟨_,_,rfl⟩,s5,bN han _ _ hd4,bN han _ _ hd',aF⟩ (fun i σ H' _ h=>SqL.of (h.2.1 _ _ hjl)) ?_ ?_
  ·rintro i y σ H5 hi ⟨⟨v1,v2,rfl⟩,s6,f1,f2,f3⟩
   obtain ⟨b,hb,rfl⟩:=bF hi
   obtain ⟨j,hjj,dj,hob⟩:=hall.get hb
   have hob:=s6 _ _ hob
   refine cC (aH (aA rfl) hob T.dE.cl T.cT cX) ?_
   have gv:∀ ks:rD,(lD (gN ks) (Sum.inl (j.number:Int))).getD (.int (-1))=V.int (jN (look ks j.number)):=fun ks=>by
    rw[cM]
    cases look ks j.number <;> rfl
   refine lS ((aO (yY ((rP (aA rfl) (aA rfl) aL f1).to (gv ks)) ((rP (aA rfl) (aA rfl) aL f2).to (gv ks')))).to (c:=!decide (look ks j.number=look ks' j.number)) ?_) (fun e=>?_) (fun e=>?_)
   ·congr 1
    rw[Bool.eq_iff_iff,decide_eq_true_iff,decide_eq_true_iff]
    constructor
    ·intro z
     injection z with z
     exact minI_inj.mp z
    ·intro z
     rw[z]
   ·have hne:¬ look ks j.number=look ks' j.number:=by simpa using e
    refine gU (uZ (aA rfl) f3 (dI (bA (aA rfl) (bS ((rP (aA rfl) (aA rfl) aL f1).to (gv ks)) ((rP (aA rfl) (aA rfl) aL f2).to (gv ks')))) (by show 3≤sizeLine;decide) fun q hq=>?_))
    have sq:=bN (o:=.lst [.int (j.number:Int),.int (jN (look ks j.number)),.int (jN (look ks' j.number))]) hq
    refine ⟨an,q,_,_,rfl,rfl,sq _ _ f3,aF,?_,⟨_,_,rfl⟩,(s6.over (s6.free hq)).over han0,?_,?_,?_⟩
    ·have:=hfl i
     rw[List.length_cons,List.length_map,sizeLine_eq]
     show _ + 3≤_
     omega
    ·rw[aV (jM (sq _ _ f1) (sq _ _ f3) (by intro z;cases z))]
     exact sq _ _ f1
    ·rw[aV (jM (sq _ _ f2) (sq _ _ f3) (by intro z;cases z))]
     exact sq _ _ f2
    ·rw[aF,cG hjj,List.flatMap_append,List.map_append]
     have:[j].flatMap (hG (look ks) (look ks'))=[(j.number:Int),jN (look ks j.number),jN (look ks' j.number)]:=by
      show hG (look ks) (look ks') j ++ []=_
      rw[List.append_nil]
      unfold hG
      rw[if_neg hne]
     rw[this]
     rfl
   ·have heq:look ks j.number=look ks' j.number:=by simpa using e
    refine ⟨⟨_,_,rfl⟩,s6,f1,f2,?_⟩
    rw[cG hjj,List.flatMap_append]
    have:[j].flatMap (hG (look ks) (look ks'))=[]:=by
     show hG (look ks) (look ks') j ++ []=_
     rw[List.append_nil]
     unfold hG
     rw[if_pos heq]
    rw[this,List.append_nil]
    exact f3
  ·rintro σ H5 ⟨⟨v1,v2,rfl⟩,s6,f1,f2,f3⟩
   rw[List.length_map,hall.length,List.take_length] at f3
   refine cS (aA rfl) (gO M k es s6 han0 ?_)
   rw[f3]
   rfl
end
open Vbmiai (State stepRows Surface)
section
variable {P:Program}{w:World}{K:PySem.W.Frag}{mg:Str→Option Value}{base:Heap}{A:Ad}
theorem yM {f:Addr}{fd:FuncData} (T:Txt P w K mg A) (D:Dn K mg "answer_needed" lA ["mine","given"] f fd):bO P w K mg base eC 6 f fd ["mine","given"] (Ih A (fun c=>∃ a l,c=[[12,a,l]])):=by
 obtain ⟨af_all_steps,fd_all_steps,D_all_steps⟩:=T.gF
 have G_all_steps:=fQ (base:=base) T D_all_steps
 obtain ⟨af_has_junction,fd_has_junction,D_has_junction⟩:=T.dU
 have G_has_junction:=dG (base:=base) T D_has_junction
 obtain ⟨af_is_load,fd_is_load,D_is_load⟩:=T.hX
 have G_is_load:=gI (base:=base) T D_is_load
 obtain ⟨af_is_name,fd_is_name,D_is_name⟩:=T.fI
 have G_is_name:=eO (base:=base) T D_is_name
 obtain ⟨af_needed_roads,fd_needed_roads,D_needed_roads⟩:=T.Ew
 have G_needed_roads:=Ae (base:=base) T D_needed_roads
 have nd:=sc_answer_needed.nd
 refine D.fn.ok sc_answer_needed (fun vs H Q E h=>?_) (fun cdv Ar outer s H vs Q E hr h=>?_)
 ·obtain ⟨a,lb,g,s0,c,_,rfl,_⟩:=h
  rfl
 ·obtain ⟨a,lb,g,s0,c,⟨ja,ld,rfl⟩,rfl,M,hg,hl,k⟩:=h
  refine ⟨_,(aC (aR (i:=2) nd rfl (Or.inl rfl) (bX bC (pv 1) aM (fun _ _=>rfl))) (aC (aR (i:=3) nd rfl (Or.inl rfl) (bX bC (pv 1) aM (fun _ _=>rfl))) (aC (bJ (dJ (PW.pt (cU (bK (aG G_is_name (hr.mono (by decide)) rfl D_is_name.mg D_is_name.fn.kp D_is_name.bi .nil aN (aB (pv 2) aD))) (eL (bK (aG G_is_load (hr.mono (by decide)) rfl D_is_load.mg D_is_load.fn.kp D_is_load.bi .nil aN (aB (pv 3) aD))))))) (aE (aK (bE (aB (aW rfl T.eG) aD)))) aU) (aC (bJ (dJ (bK (aG G_has_junction (hr.mono (by decide)) rfl D_has_junction.mg D_has_junction.fn.kp D_has_junction.bi .nil aN (aB (aI (pv 0) rfl) (aB (pv 2) aD))))) (aE (aK (bE (aB (aW rfl T.eX) aD)))) aU) (aE (aK (cO qB (bE (aB (aW rfl T.gG) aD)) (aG G_needed_roads (hr.mono (by decide)) rfl D_needed_roads.mg D_needed_roads.fn.kp D_needed_roads.bi .nil aN (aB (aI (aI (pv 0) rfl) rfl) (aB (aG G_all_steps (hr.mono (by decide)) rfl D_all_steps.mg D_all_steps.fn.kp D_all_steps.bi .nil aN (aB (aI (pv 0) rfl) (aB (pv 3) aD))) (aB (pv 2) aD))))))))))),?_⟩
  have hg:H g=some (.lst [.int ja,.int ld]):=hg
  obtain ⟨dx,p,ha,NN,NI⟩:=M.net
  have rg:Vbmiai.callOf [[12,ja,ld]]=Vbmiai.ranged (Vbmiai.isJ ja && Vbmiai.isB ld) (.needed ja.toNat ld.toNat):=rfl
  refine cC (bL (aA rfl) aL (SqL.of hg) (cY (j:=0) rfl rfl)) ?_
  refine cC (bL (aA rfl) aL (SqL.of hg) (cY (j:=1) rfl rfl)) ?_
  refine cB (dH (dA (bR (aZ (bW (aA rfl)) fun Q q=>⟨ja,rfl,q⟩)) fun _=>bR (aZ (bW (aA rfl)) fun Q q=>⟨ld,rfl,q⟩))) (fun e=>?_) (fun e=>?_)
  ·exact cD M k (Same.refl H) aL (eN rg ((Bool.not_eq_true' _).mp e))
  have e:=(Bool.not_eq_false' (b:=_)).mp e
  have es:=gH (s:=s0) rg e
  rw[Bool.and_eq_true] at e
  obtain ⟨a',rfl,b1,b2⟩:=bM e.1 (by decide)
  have el:=nY e.2
  rw[Int.toNat_natCast] at es
  have es:stepRows s0 [[12,(a':Int),ld]]=(if Vbmiai.hasJunction s0.net a'=false then (s0,[-2]) else (s0,0 :: Vbmiai.ints (Vbmiai.needed s0.net a' (ld.toNat == 1)))):=es
  generalize (ld.toNat == 1)=l at el es
  subst el
  refine cB (dH (bR (aZ (bS (aH (aA rfl) ha T.bT.cl T.bB aX) (aA rfl)) fun Q q=>⟨p,s0.net,a',rfl,NN,q⟩))) (fun e=>?_) (fun e=>?_)
  ·rw[if_pos ((Bool.not_eq_true' _).mp e)] at es
   exact cD M k (Same.refl H) aL es
  have hj:=(Bool.not_eq_false' (b:=_)).mp e
  rw[if_neg (by rw[hj];simp)] at es
  have nlen:(Vbmiai.needed s0.net a' l).length≤20:=by
   unfold Vbmiai.needed
   rw[List.length_map]
   exact Nat.le_trans (List.length_filter_le _ _) M.wf.rlen
  refine bP (qA (dI (bW aL) (by show 1≤sizeLine;decide) fun p1 h1=>?_))
  have s1:Same H (cA H p1 (.lst [.int 0])):=bN h1
  obtain ⟨lj,lr,ls,lc,N⟩:=NN.same s1
  obtain ⟨dp,hp⟩:=N.ob
  refine fF (cK ((aH (aH (aA rfl) (s1 _ _ ha) T.bT.cl T.bB aX) hp T.dQ.cl T.eV eT) _ (cK (bQ (bS (aH (aA rfl) (s1 _ _ ha) T.bT.cl T.bB aX) (aA rfl)) ⟨p,s0.net,l,rfl,NN.same s1,M.wf,fun sl H2 s2 nx L=>(bW (aA rfl)) _ ?_⟩))))
  refine ⟨lr,sl,s0.net,l,a',rfl,N.rs.same s2,L,M.wf,hj,fun x H3 s3 nx3 e3=>⟨p1,x,_,_,rfl,rfl,s3 _ _ (s2 _ _ aF),e3,?_,fun p2 h2=>?_⟩⟩
  ·rw[cJ,sizeLine_eq]
   show 1 + _≤_
   omega
  have s13:=s1.trans (s2.trans s3)
  refine gO M k es (s13.over (s13.free h2)) (s13.free h2) ?_
  rw[aF,List.map_cons,lF]
  rfl
theorem Ag {f:Addr}{fd:FuncData} (T:Txt P w K mg A) (D:Dn K mg "answer_round" mI ["mine","given"] f fd):bO P w K mg base eC 6 f fd ["mine","given"] (Ih A (fun c=>∃ a b t s,c=[[13,a,b,t,s]])):=by
 obtain ⟨af_all_steps,fd_all_steps,D_all_steps⟩:=T.gF
 have G_all_steps:=fQ (base:=base) T D_all_steps
 obtain ⟨af_earliest_minutes,fd_earliest_minutes,D_earliest_minutes⟩:=T.dX
 have G_earliest_minutes:=dM (base:=base) T D_earliest_minutes
 obtain ⟨af_has_junction,fd_has_junction,D_has_junction⟩:=T.dU
 have G_has_junction:=dG (base:=base) T D_has_junction
 obtain ⟨af_is_minute,fd_is_minute,D_is_minute⟩:=T.fO
 have G_is_minute:=eS (base:=base) T D_is_minute
 obtain ⟨af_is_name,fd_is_name,D_is_name⟩:=T.fI
 have G_is_name:=eO (base:=base) T D_is_name
 obtain ⟨af_is_stay,fd_is_stay,D_is_stay⟩:=T.Vl
 have G_is_stay:=Ql (base:=base) T D_is_stay
 have nd:=sc_answer_round.nd
 refine D.fn.ok sc_answer_round (fun vs H Q E h=>?_) (fun cdv Ar outer s H vs Q E hr h=>?_)
 ·obtain ⟨a,lb,g,s0,c,_,rfl,_⟩:=h
  rfl
 ·obtain ⟨a,lb,g,s0,c,⟨ja,jb,t,sy,rfl⟩,rfl,M,hg,hl,k⟩:=h
  have hu:=nN hr
  refine ⟨_,(aC (aR (i:=2) nd rfl (Or.inl rfl) (bX bC (pv 1) aM (fun _ _=>rfl))) (aC (aR (i:=3) nd rfl (Or.inl rfl) (bX bC (pv 1) aM (fun _ _=>rfl))) (aC (aR (i:=4) nd rfl (Or.inl rfl) (bX bC (pv 1) aM (fun _ _=>rfl))) (aC (aR (i:=5) nd rfl (Or.inl rfl) (bX bC (pv 1) aM (fun _ _=>rfl))) (aC (bJ (dJ (PW.pt (cU (bK (aG G_is_name (hr.mono (by decide)) rfl D_is_name.mg D_is_name.fn.kp D_is_name.bi .nil aN (aB (pv 2) aD))) (cU (bK (aG G_is_name (hr.mono (by decide)) rfl D_is_name.mg D_is_name.fn.kp D_is_name.bi .nil aN (aB (pv 3) aD))) (cU (bK (aG G_is_minute (hr.mono (by decide)) rfl D_is_minute.mg D_is_minute.fn.kp D_is_minute.bi .nil aN (aB (pv 4) aD))) (eL (bK (aG G_is_stay (hr.mono (by decide)) rfl D_is_stay.mg D_is_stay.fn.kp D_is_stay.bi .nil aN (aB (pv 5) aD))))))))) (aE (aK (bE (aB (aW rfl T.eG) aD)))) aU) (aC (bJ (dJ (PW.pt (cU (bK (aG G_has_junction (hr.mono (by decide)) rfl D_has_junction.mg D_has_junction.fn.kp D_has_junction.bi .nil aN (aB (aI (pv 0) rfl) (aB (pv 2) aD)))) (eL (bK (aG G_has_junction (hr.mono (by decide)) rfl D_has_junction.mg D_has_junction.fn.kp D_has_junction.bi .nil aN (aB (aI (pv 0) rfl) (aB (pv 3) aD)))))))) (aE (aK (bE (aB (aW rfl T.eX) aD)))) aU) (aC (aR (i:=6) nd rfl (Or.inl rfl) (aG G_earliest_minutes (hr.mono (by decide)) rfl D_earliest_minutes.mg D_earliest_minutes.fn.kp D_earliest_minutes.bi .nil aN (aB (aG G_all_steps (hr.mono (by decide)) rfl D_all_steps.mg D_all_steps.fn.kp D_all_steps.bi .nil aN (aB (aI (pv 0) rfl) (aB (aW rfl T.Zi) aD))) (aB (pv 2) (aB (pv 4) aD))))) (aC (bJ (qC (lO hu (pv 3) (pv 6))) (aE (aK (bE (aB (aW rfl T.rS) aD)))) aU) (aC (aR (i:=7) nd rfl (Or.inl rfl) (aG G_earliest_minutes (hr.mono (by decide)) rfl D_earliest_minutes.mg D_earliest_minutes.fn.kp D_earliest_minutes.bi .nil aN (aB (aG G_all_steps (hr.mono (by decide)) rfl D_all_steps.mg D_all_steps.fn.kp D_all_steps.bi .nil aN (aB (aI (pv 0) rfl) (aB (aW rfl T.cn) aD))) (aB (pv 3) (aB (cO eR (gQ hu (pv 6) (pv 3) (fun _ _=>rfl)) (pv 5)) aD))))) (aC (bJ (qC (lO hu (pv 2) (pv 7))) (aE (aK (bE (aB (aW rfl T.rS) aD)))) aU) (aE (aK (bE (aB (aW rfl T.gG) (aB (gQ hu (pv 6) (pv 3) (fun _ _=>rfl)) (aB (gQ hu (pv 7) (pv 2) (fun _ _=>rfl)) aD)))))))))))))))),?_⟩
  have hg:H g=some (.lst [.int ja,.int jb,.int t,.int sy]):=hg
  obtain ⟨dx,p,ha,NN,NI⟩:=M.net
  have rg:Vbmiai.callOf [[13,ja,jb,t,sy]]=Vbmiai.ranged (Vbmiai.isJ ja && (Vbmiai.isJ jb && (Vbmiai.isT t && Vbmiai.within sy 0 1000))) (.round ja.toNat jb.toNat t.toNat sy.toNat):=rfl
  refine cC (bL (aA rfl) aL (SqL.of hg) (cY (j:=0) rfl rfl)) ?_
  refine cC (bL (aA rfl) aL (SqL.of hg) (cY (j:=1) rfl rfl)) ?_
  refine cC (bL (aA rfl) aL (SqL.of hg) (cY (j:=2) rfl rfl)) ?_
  refine cC (bL (aA rfl) aL (SqL.of hg) (cY (j:=3) rfl rfl)) ?_
  refine cB (dH (dA (bR (aZ (bW (aA rfl)) fun Q q=>⟨ja,rfl,q⟩)) fun _=>dA (bR (aZ (bW (aA rfl)) fun Q q=>⟨jb,rfl,q⟩)) fun _=>dA (bR (aZ (bW (aA rfl)) fun Q q=>⟨t,rfl,q⟩)) fun _=>bR (aZ (bW (aA rfl)) fun Q q=>⟨sy,rfl,q⟩))) (fun e=>?_) (fun e=>?_)
  ·exact cD M k (Same.refl H) aL (eN rg ((Bool.not_eq_true' _).mp e))
  have e:=(Bool.not_eq_false' (b:=_)).mp e
  have es:=gH (s:=s0) rg e
  rw[Bool.and_eq_true,Bool.and_eq_true,Bool.and_eq_true] at e
  obtain ⟨a',rfl,b1,b2⟩:=bM e.1 (by decide)
  obtain ⟨b',rfl,b3,b4⟩:=bM e.2.1 (by decide)
  obtain ⟨t',rfl,b5,b6⟩:=bM e.2.2.1 (by decide)
  obtain ⟨sy',rfl,b7,b8⟩:=bM e.2.2.2 (by decide)
  rw[Int.toNat_natCast,Int.toNat_natCast,Int.toNat_natCast,Int.toNat_natCast] at es
  have es:stepRows s0 [[13,(a':Int),(b':Int),(t':Int),(sy':Int)]]=(if Vbmiai.hasJunction s0.net a'=false then (s0,[-2]) else if Vbmiai.hasJunction s0.net b'=false then (s0,[-2]) else match Vbmiai.timeAt (Vbmiai.times s0.net a' t' true) b' with
    | none=>(s0,[-7])
    | some k=>match Vbmiai.timeAt (Vbmiai.times s0.net b' (k + sy') false) a' with
     | none=>(s0,[-7])
     | some e=>(s0,0 :: Vbmiai.ints [k,e])):=es
  refine cB (dH (dA (bR (aZ (bS (aH (aA rfl) ha T.bT.cl T.bB aX) (aA rfl)) fun Q q=>⟨p,s0.net,a',rfl,NN,q⟩)) fun _=>bR (aZ (bS (aH (aA rfl) ha T.bT.cl T.bB aX) (aA rfl)) fun Q q=>⟨p,s0.net,b',rfl,NN,q⟩))) (fun e=>?_) (fun e=>?_)
  ·have e:=(Bool.not_eq_true' _).mp e
   refine cD M k (Same.refl H) aL ?_
   rw[es]
   cases q1:Vbmiai.hasJunction s0.net a' with
   | false=>rfl
   | true=>
    rw[q1] at e
    have q2:Vbmiai.hasJunction s0.net b'=false:=e
    rw[q2]
    rfl
  have e:=(Bool.not_eq_false' (b:=_)).mp e
  rw[Bool.and_eq_true] at e
  obtain ⟨hj,hjb⟩:=e
  rw[if_neg (by rw[hj];simp),if_neg (by rw[hjb];simp)] at es
  refine bZ (Vw (l:=true) (aH (aA rfl) ha T.bT.cl T.bB aX) aL (fun _ _=>(aA rfl)) (fun _ _=>(aA rfl)) NN M.wf hj fun d ks H1 s1 nd hd G=>?_)
  rw[M.wf.times G hj b'] at es
  cases q:look ks b' with
  | none=>
   rw[q] at es
   exact cB ((bR (gA (aA rfl) (aA rfl) hd)).to (c:=true) (by rw[cM,q];rfl)) (fun _=>cD M k s1 aL es) (fun e=>by cases e)
  | some kk=>
   rw[q] at es
   dsimp only at es
   refine cB ((bR (gA (aA rfl) (aA rfl) hd)).to (c:=false) (by rw[cM,q];rfl)) (fun e=>by cases e) (fun _=>?_)
   refine bZ (Vw (l:=false) (t:=kk + sy') (aH (aA rfl) (s1 _ _ ha) T.bT.cl T.bB aX) aL (fun _ _=>(aA rfl)) (fun H' sm=>(bH (gP (aA rfl) (aA rfl) (sm _ _ hd) (by rw[cM,q];rfl)) (aA rfl)).to (by rw[←Int.natCast_add])) (NN.same s1) M.wf hjb fun d2 ks2 H2 s2 nd2 hd2 G2=>?_)
   have s12:=s1.trans s2
   rw[M.wf.times G2 hjb a'] at es
   cases q2:look ks2 a' with
   | none=>
    rw[q2] at es
    exact cB ((bR (gA (aA rfl) (aA rfl) hd2)).to (c:=true) (by rw[cM,q2];rfl)) (fun _=>cD M k s12 aL es) (fun e=>by cases e)
   | some ee=>
    rw[q2] at es
    dsimp only at es
    refine cB ((bR (gA (aA rfl) (aA rfl) hd2)).to (c:=false) (by rw[cM,q2];rfl)) (fun e=>by cases e) (fun _=>?_)
    refine bP (dI (bA aL (bS (gP (aA rfl) (aA rfl) (s2 _ _ hd) (by rw[cM,q];rfl)) (gP (aA rfl) (aA rfl) hd2 (by rw[cM,q2];rfl)))) (by show 3≤sizeLine;decide) fun x hx=>?_)
    exact gO M k es (s12.over (s12.free hx)) (s12.free hx) aF
theorem yS {f:Addr}{fd:FuncData} (T:Txt P w K mg A) (D:Dn K mg "answer_within" kX ["mine","given"] f fd):bO P w K mg base eC 6 f fd ["mine","given"] (Ih A (fun c=>∃ a t m l,c=[[14,a,t,m,l]])):=by
 obtain ⟨af_all_steps,fd_all_steps,D_all_steps⟩:=T.gF
 have G_all_steps:=fQ (base:=base) T D_all_steps
 obtain ⟨af_earliest_minutes,fd_earliest_minutes,D_earliest_minutes⟩:=T.dX
 have G_earliest_minutes:=dM (base:=base) T D_earliest_minutes
 obtain ⟨af_has_junction,fd_has_junction,D_has_junction⟩:=T.dU
 have G_has_junction:=dG (base:=base) T D_has_junction
 obtain ⟨af_is_load,fd_is_load,D_is_load⟩:=T.hX
 have G_is_load:=gI (base:=base) T D_is_load
 obtain ⟨af_is_minute,fd_is_minute,D_is_minute⟩:=T.fO
 have G_is_minute:=eS (base:=base) T D_is_minute
 obtain ⟨af_is_name,fd_is_name,D_is_name⟩:=T.fI
 have G_is_name:=eO (base:=base) T D_is_name
 have nd:=sc_answer_within.nd
 refine D.fn.ok sc_answer_within (fun vs H Q E h=>?_) (fun cdv Ar outer s H vs Q E hr h=>?_)
 ·obtain ⟨a,lb,g,s0,c,_,rfl,_⟩:=h
  rfl
 ·obtain ⟨a,lb,g,s0,c,⟨ja,t,mm,ld,rfl⟩,rfl,M,hg,hl,k⟩:=h
  have hu:=nN hr
  refine ⟨_,(aC (aR (i:=2) nd rfl (Or.inl rfl) (bX bC (pv 1) aM (fun _ _=>rfl))) (aC (aR (i:=3) nd rfl (Or.inl rfl) (bX bC (pv 1) aM (fun _ _=>rfl))) (aC (aR (i:=4) nd rfl (Or.inl rfl) (bX bC (pv 1) aM (fun _ _=>rfl))) (aC (aR (i:=5) nd rfl (Or.inl rfl) (bX bC (pv 1) aM (fun _ _=>rfl))) (aC (bJ (dJ (PW.pt (cU (bK (aG G_is_name (hr.mono (by decide)) rfl D_is_name.mg D_is_name.fn.kp D_is_name.bi .nil aN (aB (pv 2) aD))) (cU (bK (aG G_is_minute (hr.mono (by decide)) rfl D_is_minute.mg D_is_minute.fn.kp D_is_minute.bi .nil aN (aB (pv 3) aD))) (cU (bK (aG G_is_minute (hr.mono (by decide)) rfl D_is_minute.mg D_is_minute.fn.kp D_is_minute.bi .nil aN (aB (pv 4) aD))) (eL (bK (aG G_is_load (hr.mono (by decide)) rfl D_is_load.mg D_is_load.fn.kp D_is_load.bi .nil aN (aB (pv 5) aD))))))))) (aE (aK (bE (aB (aW rfl T.eG) aD)))) aU) (aC (bJ (dJ (bK (aG G_has_junction (hr.mono (by decide)) rfl D_has_junction.mg D_has_junction.fn.kp D_has_junction.bi .nil aN (aB (aI (pv 0) rfl) (aB (pv 2) aD))))) (aE (aK (bE (aB (aW rfl T.eX) aD)))) aU) (aC (aR (i:=6) nd rfl (Or.inl rfl) (aG G_earliest_minutes (hr.mono (by decide)) rfl D_earliest_minutes.mg D_earliest_minutes.fn.kp D_earliest_minutes.bi .nil aN (aB (aG G_all_steps (hr.mono (by decide)) rfl D_all_steps.mg D_all_steps.fn.kp D_all_steps.bi .nil aN (aB (aI (pv 0) rfl) (aB (pv 5) aD))) (aB (pv 2) (aB (pv 3) aD))))) (aC (aR (i:=7) nd rfl (Or.inl rfl) (bE (aB (aW rfl T.gG) aD))) (aC (eK PassesOwn.never rfl (cH (aI (aI (pv 0) rfl) rfl)) (bV (i:=8) nd rfl (Or.inl rfl)) (aE (bJ (PW.pt (cU (qC (Om hu (aI (pv 8) rfl) (pv 6))) (eL (aY fX (gQ hu (pv 6) (aI (pv 8) rfl) (fun _ _=>rfl)) (cO eR (pv 3) (pv 4)) (bD _))))) (aE (cI (fG PySem.F.plainAttrs_list PySem.F.slot_list_append PySem.F.type_list_append dB (pv 7) (aB (aI (pv 8) rfl) aD)))) aU))) (aE (aK (pv 7)))))))))))),?_⟩
  have hg:H g=some (.lst [.int ja,.int t,.int mm,.int ld]):=hg
  obtain ⟨dx,p,ha,NN,NI⟩:=M.net
  have rg:Vbmiai.callOf [[14,ja,t,mm,ld]]=Vbmiai.ranged (Vbmiai.isJ ja && (Vbmiai.isT t && (Vbmiai.isT mm && Vbmiai.isB ld))) (.within_ ja.toNat t.toNat mm.toNat ld.toNat):=rfl
  refine cC (bL (aA rfl) aL (SqL.of hg) (cY (j:=0) rfl rfl)) ?_
  refine cC (bL (aA rfl) aL (SqL.of hg) (cY (j:=1) rfl rfl)) ?_
  refine cC (bL (aA rfl) aL (SqL.of hg) (cY (j:=2) rfl rfl)) ?_
  refine cC (bL (aA rfl) aL (SqL.of hg) (cY (j:=3) rfl rfl)) ?_
  refine cB (dH (dA (bR (aZ (bW (aA rfl)) fun Q q=>⟨ja,rfl,q⟩)) fun _=>dA (bR (aZ (bW (aA rfl)) fun Q q=>⟨t,rfl,q⟩)) fun _=>dA (bR (aZ (bW (aA rfl)) fun Q q=>⟨mm,rfl,q⟩)) fun _=>bR (aZ (bW (aA rfl)) fun Q q=>⟨ld,rfl,q⟩))) (fun e=>?_) (fun e=>?_)
  ·exact cD M k (Same.refl H) aL (eN rg ((Bool.not_eq_true' _).mp e))
  have e:=(Bool.not_eq_false' (b:=_)).mp e
  have es:=gH (s:=s0) rg e
  rw[Bool.and_eq_true,Bool.and_eq_true,Bool.and_eq_true] at e
  obtain ⟨a',rfl,b1,b2⟩:=bM e.1 (by decide)
  obtain ⟨t',rfl,b3,b4⟩:=bM e.2.1 (by decide)
  obtain ⟨m',rfl,b5,b6⟩:=bM e.2.2.1 (by decide)
  have el:=nY e.2.2.2
  rw[Int.toNat_natCast,Int.toNat_natCast,Int.toNat_natCast] at es
  have es:stepRows s0 [[14,(a':Int),(t':Int),(m':Int),ld]]=(if Vbmiai.hasJunction s0.net a'=false then (s0,[-2]) else (s0,0 :: Vbmiai.ints (((Vbmiai.times s0.net a' t' (ld.toNat == 1)).filter fun x=>x.2.any fun k=>decide (k≤t' + m')).map fun x=>x.1))):=es
  generalize (ld.toNat == 1)=l at el es
  subst el
  refine cB (dH (bR (aZ (bS (aH (aA rfl) ha T.bT.cl T.bB aX) (aA rfl)) fun Q q=>⟨p,s0.net,a',rfl,NN,q⟩))) (fun e=>?_) (fun e=>?_)
  ·rw[if_pos ((Bool.not_eq_true' _).mp e)] at es
   exact cD M k (Same.refl H) aL es
  have hj:=(Bool.not_eq_false' (b:=_)).mp e
  rw[if_neg (by rw[hj];simp)] at es
  refine bZ (Vw (aH (aA rfl) ha T.bT.cl T.bB aX) (aA rfl) (fun _ _=>(aA rfl)) (fun _ _=>(aA rfl)) NN M.wf hj fun d ks H1 s1 nd hd G=>?_)
  rw[M.wf.times_list G hj,List.filter_map,List.map_map] at es
  have es:stepRows s0 [[14,(a':Int),(t':Int),(m':Int),lI l]]=(s0,0 :: Vbmiai.ints ((s0.net.junctions.filter fun j=>(look ks j.number).any fun k=>decide (k≤t' + m')).map fun j=>j.number)):=es
  obtain ⟨lj,lr,ls,lc,N⟩:=id NN
  obtain ⟨dp,hp⟩:=N.ob
  obtain ⟨as,hjl,hall⟩:=N.js
  have jl:=M.wf.jlen
  refine bZ (dI (bW aL) (by show 1≤sizeLine;decide) fun an han=>?_)
  have han0:H an=none:=s1.free han
  have s2:=s1.over (o:=.lst [.int 0]) han0
  refine iL (aH (aH (aA rfl) (s2 _ _ ha) T.bT.cl T.bB aX) (s2 _ _ hp) T.dQ.cl T.cN cQ) (SqL.of (s2 _ _ hjl)) (fun i σ H'=>(∃ v:Option V,σ=[some (.ref a),some (.ref g),some (.int (a':Int)),some (.int (t':Int)),some (.int (m':Int)),some (.int (lI l)),some (.ref d),some (.ref an),v])∧Same H H'∧H' d=some (.dK (gN ks))∧H' an=some (.lst (.int 0 :: nI (((s0.net.junctions.take i).filter fun j=>(look ks j.number).any fun k=>decide (k≤t' + m')).map fun j=>j.number)))) ⟨⟨_,rfl⟩,s2,bN han _ _ hd,aF⟩ (fun i σ H' _ h=>SqL.of (h.2.1 _ _ hjl)) ?_ ?_
  ·rintro i y σ H5 hi ⟨⟨v,rfl⟩,s6,f1,f3⟩
   obtain ⟨b,hb,rfl⟩:=bF hi
   obtain ⟨j,hjj,dj,hob⟩:=hall.get hb
   have hob:=s6 _ _ hob
   have yes:EvT (Zl (tB (fc (Bn K (lR 8) "number") (lR 6))) (Gv (Fh (Sn fun i j=>.bl (decide (i≤j))) (Wc (lR 6) (Bn K (lR 8) "number")) (Fh (Sn fun i j=>.int (i + j)) (lR 3) (lR 4))))) [some (.ref a),some (.ref g),some (.int (a':Int)),some (.int (t':Int)),some (.int (m':Int)),some (.int (lI l)),some (.ref d),some (.ref an),some (.ref b)] H5 ((look ks j.number).any fun k=>decide (k≤t' + m')):=by
    cases q:look ks j.number with
    | none=>exact (dA (c:=true) (bR (Ir (aH (aA rfl) hob T.dE.cl T.cT cX) (aA rfl) f1)) (fun z=>by rw[cM,q] at z;cases z)).to (by rw[cM,q];rfl)
    | some kk=>
     refine (dA (bR (Ir (aH (aA rfl) hob T.dE.cl T.cT cX) (aA rfl) f1)) (fun _=>aO (bH (gP (aA rfl) (aH (aA rfl) hob T.dE.cl T.cT cX) f1 (by rw[cM,q];rfl)) (bH (aA rfl) (aA rfl))))).to ?_
     rw[cM,q]
     show (true && decide ((kk:Int)≤(t':Int) + (m':Int)))=decide (kk≤t' + m')
     rw[Bool.true_and,←Int.natCast_add]
     exact jY
   refine lS yes (fun e=>?_) (fun e=>?_)
   ·refine gU (fN (aA rfl) (aH (aA rfl) hob T.dE.cl T.cT cX) f3 ?_ ⟨⟨_,rfl⟩,s6.over han0,?_,?_⟩)
    ·rw[List.length_cons,cJ,List.length_map]
     have h1:=List.length_filter_le (fun j:Junction=>(look ks j.number).any fun k=>decide (k≤t' + m')) (s0.net.junctions.take i)
     rw[List.length_take] at h1
     exact cE (by omega)
    ·rw[aV (jM f1 f3 (by intro z;cases z))]
     exact f1
    ·rw[aF,nV hjj,if_pos e,List.map_append,dY]
     rfl
   ·refine ⟨⟨_,rfl⟩,s6,f1,?_⟩
    rw[nV hjj,if_neg (by rw[e];simp),List.append_nil]
    exact f3
  ·rintro σ H5 ⟨⟨v,rfl⟩,s6,f1,f3⟩
   rw[List.length_map,hall.length,List.take_length] at f3
   refine cS (aA rfl) (gO M k es s6 han0 ?_)
   rw[f3,List.map_cons,lF]
theorem Ec {f:Addr}{fd:FuncData} (T:Txt P w K mg A) (D:Dn K mg "answer_ramp" oO ["mine","given"] f fd):bO P w K mg base eC 5 f fd ["mine","given"] (Ih A (fun c=>∃ x m a b h,c=[[15,x,m,a,b],h])):=by
 obtain ⟨af_Surface,fd_Surface,I_Surface⟩:=T.Vj
 have G_Surface:=Pe (base:=base) T I_Surface
 obtain ⟨af_cell_levels,fd_cell_levels,D_cell_levels⟩:=T.Ga
 have G_cell_levels:=Ek (base:=base) T D_cell_levels
 obtain ⟨af_is_cell,fd_is_cell,D_is_cell⟩:=T.Vm
 have G_is_cell:=Qa (base:=base) T D_is_cell
 obtain ⟨af_is_member,fd_is_member,D_is_member⟩:=T.zT
 have G_is_member:=wR (base:=base) T D_is_member
 obtain ⟨af_is_nx,fd_is_nx,D_is_nx⟩:=T.ci
 have G_is_nx:=Zc (base:=base) T D_is_nx
 obtain ⟨af_is_row,fd_is_row,D_is_row⟩:=T.Ct
 have G_is_row:=xT (base:=base) T D_is_row
 obtain ⟨af_ramp_cells,fd_ramp_cells,D_ramp_cells⟩:=T.Ld
 have G_ramp_cells:=Fu (base:=base) T D_ramp_cells
 have nd:=sc_answer_ramp.nd
 refine D.fn.ok sc_answer_ramp (fun vs H Q E h=>?_) (fun cdv Ar outer s H vs Q E hr h=>?_)
 ·obtain ⟨a,lb,g,s0,c,_,rfl,_⟩:=h
  rfl
 ·obtain ⟨a,lb,g,s0,c,⟨x,mm,ca,cb,hs,rfl⟩,rfl,M,hg,hl,k⟩:=h
  have hu:=nN hr
  refine ⟨_,(aC (aR (i:=2) nd rfl (Or.inl rfl) (bX bC (pv 1) aM (fun _ _=>rfl))) (aC (aR (i:=3) nd rfl (Or.inl rfl) (bX bC (pv 1) aM (fun _ _=>rfl))) (aC (aR (i:=4) nd rfl (Or.inl rfl) (bX bC (pv 1) aM (fun _ _=>rfl))) (aC (aR (i:=5) nd rfl (Or.inl rfl) (bX bC (pv 1) aM (fun _ _=>rfl))) (aC (aR (i:=6) nd rfl (Or.inl rfl) (pG uA (pv 1) (nP aM) Bi)) (aC (bJ (dJ (PW.pt (cU (bK (aG G_is_nx (hr.mono (by decide)) rfl D_is_nx.mg D_is_nx.fn.kp D_is_nx.bi .nil aN (aB (pv 2) aD))) (cU (bK (aG G_is_member (hr.mono (by decide)) rfl D_is_member.mg D_is_member.fn.kp D_is_member.bi .nil aN (aB (pv 3) aD))) (cU (bK (aG G_is_cell (hr.mono (by decide)) rfl D_is_cell.mg D_is_cell.fn.kp D_is_cell.bi .nil aN (aB (pv 4) aD))) (cU (bK (aG G_is_cell (hr.mono (by decide)) rfl D_is_cell.mg D_is_cell.fn.kp D_is_cell.bi .nil aN (aB (pv 5) aD))) (eL (bK (aG G_is_row (hr.mono (by decide)) rfl D_is_row.mg D_is_row.fn.kp D_is_row.bi .nil aN (aB (pv 6) (aB (aW rfl T.Ff) aD))))))))))) (aE (aK (bE (aB (aW rfl T.eG) aD)))) aU) (aC (bJ (PW.pt (yZ (aY fW (bU bG (by rfl) T.eP dL (aB (pv 6) aD)) aM (bD _)) (vC (aY pD (cO Il (bU bG (by rfl) T.eP dL (aB (pv 6) aD)) (pv 2)) aM (bD _))))) (aE (aK (bE (aB (aW rfl T.oZ) aD)))) aU) (aC (bJ (PW.pt (yZ (aY uP (pv 4) (bU bG (by rfl) T.eP dL (aB (pv 6) aD)) (bD _)) (vC (aY uP (pv 5) (bU bG (by rfl) T.eP dL (aB (pv 6) aD)) (bD _))))) (aE (aK (bE (aB (aW rfl T.Vp) aD)))) aU) (aC (aR (i:=7) nd rfl (Or.inl rfl) (hC I_Surface.ma G_Surface (hr.mono (by decide)) rfl T.hW.mg I_Surface.bi .nil aN (aB (pv 2) (aB (pv 6) (aB (pv 3) aD))))) (aC (aR (i:=8) nd rfl (Or.inl rfl) (aG G_cell_levels (hr.mono (by decide)) rfl D_cell_levels.mg D_cell_levels.fn.kp D_cell_levels.bi .nil aN (aB (pv 7) (aB (pv 4) aD)))) (aC (bJ (qC (lO hu (pv 5) (pv 8))) (aE (aK (bE (aB (aW rfl T.rS) aD)))) aU) (aE (aK (cO qB (bE (aB (aW rfl T.gG) aD)) (aG G_ramp_cells (hr.mono (by decide)) rfl D_ramp_cells.mg D_ramp_cells.fn.kp D_ramp_cells.bi .nil aN (aB (pv 7) (aB (pv 8) (aB (pv 5) aD)))))))))))))))))),?_⟩
  have eg:kF [[15,x,mm,ca,cb],hs]=x :: mm :: ca :: cb :: hs:=by
   show [x,mm,ca,cb] ++ (hs ++ [])=_
   simp
  rw[eg] at hg hl
  have hg:H g=some (.lst (.int x :: .int mm :: .int ca :: .int cb :: hs.map V.int)):=hg
  have hrl:hs.length<sizeLine:=by
   simp at hl
   rw[sizeLine_eq]
   omega
  have rg:Vbmiai.callOf [[15,x,mm,ca,cb],hs]=Vbmiai.ranged (Vbmiai.within x 1 8 && (Vbmiai.within mm 0 1000000 && (Vbmiai.within ca 0 63 && (Vbmiai.within cb 0 63 && Vbmiai.isList hs 64 0 1000000)))) (.ramp x.toNat mm.toNat ca.toNat cb.toNat (Vbmiai.nats hs)):=rfl
  refine cC (bL (aA rfl) aL (SqL.of hg) (cY (j:=0) rfl rfl)) ?_
  refine cC (bL (aA rfl) aL (SqL.of hg) (cY (j:=1) rfl rfl)) ?_
  refine cC (bL (aA rfl) aL (SqL.of hg) (cY (j:=2) rfl rfl)) ?_
  refine cC (bL (aA rfl) aL (SqL.of hg) (cY (j:=3) rfl rfl)) ?_
  refine bZ (pH (aA rfl) (iZ aL) uF (SqL.of hg) (uC (i:=4) (by simp)) fun nl hnl=>?_)
  have s1:Same H (cA H nl (.lst (List.drop 4 (.int x :: .int mm :: .int ca :: .int cb :: hs.map V.int)))):=bN hnl
  have hn1:cA H nl (.lst (List.drop 4 (.int x :: .int mm :: .int ca :: .int cb :: hs.map V.int))) nl=some (.lst (hs.map V.int)):=aF
  refine wC (Wd (uO (bR (aZ (bW (aA rfl)) fun Q q=>⟨x,rfl,q⟩)) (fun e1=>uO (bR (aZ (bW (aA rfl)) fun Q q=>⟨mm,rfl,q⟩)) (fun e2=>uO (bR (aZ (bW (aA rfl)) fun Q q=>⟨ca,rfl,q⟩)) (fun e3=>uO (bR (aZ (bW (aA rfl)) fun Q q=>⟨cb,rfl,q⟩)) (fun e5=>fj (bQ (bS (aA rfl) aL) ⟨nl,hs,64,rfl,SqL.of hn1,hrl,fun H2 s2=>⟨_,rfl,?_⟩⟩)) (fun e=>iE ?_)) (fun e=>iE ?_)) (fun e=>iE ?_)) (fun e=>iE ?_)))
  rotate_left
  ·exact bP (cD M k s1 aL (eN rg (by rw[e];simp)))
  ·exact bP (cD M k s1 aL (eN rg (by rw[e];simp)))
  ·exact bP (cD M k s1 aL (eN rg (by rw[e];simp)))
  ·exact bP (cD M k s1 aL (eN rg (by rw[e];simp)))
  have s12:=s1.trans s2
  cases e4:Vbmiai.isList hs 64 0 1000000 with
  | false=>exact iE (bP (cD M k s12 aL (eN rg (by rw[e4];simp))))
  | true=>
   refine rG ?_
   have es:=gH (s:=s0) rg (by rw[e1,e2,e3,e5,e4];rfl)
   obtain ⟨x',rfl,b1,b2⟩:=bM e1 (by decide)
   obtain ⟨m',rfl,b3,b4⟩:=bM e2 (by decide)
   obtain ⟨a',rfl,b5,b6⟩:=bM e3 (by decide)
   obtain ⟨b',rfl,b7,b8⟩:=bM e5 (by decide)
   obtain ⟨en,h64,hnl2,_⟩:=Cr e4
   rw[Int.toNat_natCast,Int.toNat_natCast,Int.toNat_natCast,Int.toNat_natCast] at es
   have es:stepRows s0 [[15,(x':Int),(m':Int),(a':Int),(b':Int)],hs]=(if (Vbmiai.nats hs).length % x'≠0∨(Vbmiai.nats hs).isEmpty=true then (s0,[-8]) else if (Vbmiai.nats hs).length≤a'∨(Vbmiai.nats hs).length≤b' then (s0,[-9]) else match Vbmiai.ramp ⟨x',Vbmiai.nats hs,m'⟩ a' b' with
     | none=>(s0,[-7])
     | some r=>(s0,0 :: Vbmiai.ints r)):=es
   have hn2:=s2 _ _ hn1
   rw[en] at hn2
   generalize Vbmiai.nats hs=ns at es hn2 hnl2
   have hx0:0<x':=by omega
   refine cB ((xO (aO (fA (cW (bW (aA rfl)) (SqL.of hn2)) aL)) (fun _=>aO (bH (jO (cW (bW (aA rfl)) (SqL.of hn2)) (aA rfl) (by show (0:Int)<_;omega)) aL))).to (c:=decide (ns.length % x'≠0∨ns.isEmpty=true)) ?_) (fun e=>?_) (fun e=>?_)
   ·have cm:(((ns.length:Nat):Int) % (x':Int))=((ns.length % x':Nat):Int):=rfl
    rw[cJ,Bool.eq_iff_iff,Bool.or_eq_true,decide_eq_true_iff,decide_eq_true_iff,decide_eq_true_iff,cm]
    constructor
    ·rintro (z | z)
     ·right
      injection z with z
      cases ns with
      | nil=>rfl
      | cons y ns=>
       rw[List.length_cons] at z
       omega
     ·left
      omega
    ·rintro (z | z)
     ·right
      omega
     ·left
      cases ns with
      | nil=>rfl
      | cons y ns=>cases z
   ·rw[if_pos (of_decide_eq_true e)] at es
    exact cD M k s12 aL es
   have hrow:=of_decide_eq_false e
   rw[if_neg hrow] at es
   refine cB ((xO (aO (bH (aA rfl) (cW (bW (aA rfl)) (SqL.of hn2)))) (fun _=>aO (bH (aA rfl) (cW (bW (aA rfl)) (SqL.of hn2))))).to (c:=decide (ns.length≤a'∨ns.length≤b')) ?_) (fun e=>?_) (fun e=>?_)
   ·rw[cJ,Bool.eq_iff_iff,Bool.or_eq_true,decide_eq_true_iff,decide_eq_true_iff,decide_eq_true_iff]
    omega
   ·rw[if_pos (of_decide_eq_true e)] at es
    exact cD M k s12 aL es
   have hcell:=of_decide_eq_false e
   rw[if_neg hcell] at es
   have S:Oh ⟨x',ns,m'⟩:=⟨hx0,by
    show ns.length % x'=0
    omega,by
    show ns.length≤64
    omega⟩
   have ha0:a'<ns.length:=by omega
   refine bZ (lW (bA (aA rfl) (bS (aA rfl) (aA rfl))) rfl fun su dsu hsu hdsu=>?_)
   have s3:=cP (C:=A.Surface) (fs:=(["nx","heights","most"]:List Str).zip [.int (x':Int),.ref nl,.int (m':Int)]) hsu hdsu
   have s13:=s12.trans s3
   have SA:SuAt A (jk H2 su dsu A.Surface ((["nx","heights","most"]:List Str).zip [.int (x':Int),.ref nl,.int (m':Int)])) su ⟨x',ns,m'⟩:=⟨nl,jP,s3 _ _ hn2⟩
   refine bZ (bQ (bS (aA rfl) (aA rfl)) ⟨su,⟨x',ns,m'⟩,a',rfl,SA,S,ha0,fun d ks H4 s4 nd hd G=>?_⟩)
   have s14:=s13.trans s4
   rw[aj G ha0 b'] at es
   cases q:look ks b' with
   | none=>
    rw[q] at es
    exact cB ((bR (gA (aA rfl) (aA rfl) hd)).to (c:=true) (by rw[cM,q];rfl)) (fun _=>cD M k s14 aL es) (fun e=>by cases e)
   | some kk=>
    rw[q] at es
    refine cB ((bR (gA (aA rfl) (aA rfl) hd)).to (c:=false) (by rw[cM,q];rfl)) (fun e=>by cases e) (fun _=>?_)
    have cl:=xW (s:=⟨x',ns,m'⟩) (g:=look ks) kk b'
    have hk64:=Jb G ha0 q
    have hk64:kk<ns.length:=hk64
    refine bP (qA (dI (bW aL) (by show 1≤sizeLine;decide) fun p1 h1=>?_))
    have sp1:=bN (o:=.lst [.int 0]) h1
    refine bQ (bA (aA rfl) (bS (aA rfl) (aA rfl))) ⟨su,d,⟨x',ns,m'⟩,a',b',kk,ks,rfl,(SA.same s4).same sp1,S,sp1 _ _ hd,ha0,G,q,fun l5 H5 s5 n5 e5=>⟨p1,l5,_,_,rfl,rfl,s5 _ _ aF,e5,?_,fun p2 h2=>?_⟩⟩
    ·rw[cJ,List.length_append,List.length_reverse,sizeLine_eq]
     show 1 + (_ + 1)≤_
     omega
    have s15:=(s14.trans sp1).trans s5
    refine gO M k es (s15.over (s15.free h2)) (s15.free h2) ?_
    rw[aF,List.map_cons,lF]
    rfl
theorem yN {f:Addr}{fd:FuncData} (T:Txt P w K mg A) (D:Dn K mg "answer_begins" kY ["mine","given"] f fd):bO P w K mg base eC 5 f fd ["mine","given"] (Ih A (fun c=>∃ n t l w,c=[[16,n,t,l,w]])):=by
 obtain ⟨af_find_road,fd_find_road,D_find_road⟩:=T.tJ
 have G_find_road:=qT (base:=base) T D_find_road
 obtain ⟨af_first_begin,fd_first_begin,D_first_begin⟩:=T.oY
 have G_first_begin:=mH (base:=base) T D_first_begin
 obtain ⟨af_has_road,fd_has_road,D_has_road⟩:=T.iP
 have G_has_road:=gW (base:=base) T D_has_road
 obtain ⟨af_is_load,fd_is_load,D_is_load⟩:=T.hX
 have G_is_load:=gI (base:=base) T D_is_load
 obtain ⟨af_is_minute,fd_is_minute,D_is_minute⟩:=T.fO
 have G_is_minute:=eS (base:=base) T D_is_minute
 obtain ⟨af_is_name,fd_is_name,D_is_name⟩:=T.fI
 have G_is_name:=eO (base:=base) T D_is_name
 obtain ⟨af_is_way,fd_is_way,D_is_way⟩:=T.Zf
 have G_is_way:=Vi (base:=base) T D_is_way
 obtain ⟨af_road_step,fd_road_step,D_road_step⟩:=T.zU
 have G_road_step:=wQ (base:=base) T D_road_step
 have nd:=sc_answer_begins.nd
 refine D.fn.ok sc_answer_begins (fun vs H Q E h=>?_) (fun cdv Ar outer s H vs Q E hr h=>?_)
 ·obtain ⟨a,lb,g,s0,c,_,rfl,_⟩:=h
  rfl
 ·obtain ⟨a,lb,g,s0,c,⟨n,t,ld,wy,rfl⟩,rfl,M,hg,hl,k⟩:=h
  refine ⟨_,(aC (aR (i:=2) nd rfl (Or.inl rfl) (bX bC (pv 1) aM (fun _ _=>rfl))) (aC (aR (i:=3) nd rfl (Or.inl rfl) (bX bC (pv 1) aM (fun _ _=>rfl))) (aC (aR (i:=4) nd rfl (Or.inl rfl) (bX bC (pv 1) aM (fun _ _=>rfl))) (aC (aR (i:=5) nd rfl (Or.inl rfl) (bX bC (pv 1) aM (fun _ _=>rfl))) (aC (bJ (dJ (PW.pt (cU (bK (aG G_is_name (hr.mono (by decide)) rfl D_is_name.mg D_is_name.fn.kp D_is_name.bi .nil aN (aB (pv 2) aD))) (cU (bK (aG G_is_minute (hr.mono (by decide)) rfl D_is_minute.mg D_is_minute.fn.kp D_is_minute.bi .nil aN (aB (pv 3) aD))) (cU (bK (aG G_is_load (hr.mono (by decide)) rfl D_is_load.mg D_is_load.fn.kp D_is_load.bi .nil aN (aB (pv 4) aD))) (eL (bK (aG G_is_way (hr.mono (by decide)) rfl D_is_way.mg D_is_way.fn.kp D_is_way.bi .nil aN (aB (pv 5) aD))))))))) (aE (aK (bE (aB (aW rfl T.eG) aD)))) aU) (aC (bJ (dJ (bK (aG G_has_road (hr.mono (by decide)) rfl D_has_road.mg D_has_road.fn.kp D_has_road.bi .nil aN (aB (aI (pv 0) rfl) (aB (pv 2) aD))))) (aE (aK (bE (aB (aW rfl T.pQ) aD)))) aU) (aC (aR (i:=6) nd rfl (Or.inl rfl) (aG G_road_step (hr.mono (by decide)) rfl D_road_step.mg D_road_step.fn.kp D_road_step.bi .nil aN (aB (aI (pv 0) rfl) (aB (aG G_find_road (hr.mono (by decide)) rfl D_find_road.mg D_find_road.fn.kp D_find_road.bi .nil aN (aB (aI (pv 0) rfl) (aB (pv 2) aD))) (aB (pv 5) (aB (pv 4) aD)))))) (aC (bJ (aY Ot (pv 6) jQ (bD _)) (aE (aK (bE (aB (aW rfl T.rS) aD)))) aU) (aC (aR (i:=7) nd rfl (Or.inl rfl) (aG G_first_begin (hr.mono (by decide)) rfl D_first_begin.mg D_first_begin.fn.kp D_first_begin.bi .nil aN (aB (pv 6) (aB (pv 3) aD)))) (aE (aK (bE (aB (aW rfl T.gG) (aB (pv 7) (aB (cO eR (pv 7) (aI (pv 6) rfl)) aD))))))))))))))),?_⟩
  have hg:H g=some (.lst [.int n,.int t,.int ld,.int wy]):=hg
  obtain ⟨dx,p,ha,NN,NI⟩:=M.net
  have rg:Vbmiai.callOf [[16,n,t,ld,wy]]=Vbmiai.ranged (Vbmiai.isJ n && (Vbmiai.isT t && (Vbmiai.isB ld && Vbmiai.isB wy))) (.begins n.toNat t.toNat ld.toNat wy.toNat):=rfl
  refine cC (bL (aA rfl) aL (SqL.of hg) (cY (j:=0) rfl rfl)) ?_
  refine cC (bL (aA rfl) aL (SqL.of hg) (cY (j:=1) rfl rfl)) ?_
  refine cC (bL (aA rfl) aL (SqL.of hg) (cY (j:=2) rfl rfl)) ?_
  refine cC (bL (aA rfl) aL (SqL.of hg) (cY (j:=3) rfl rfl)) ?_
  refine cB (dH (dA (bR (aZ (bW (aA rfl)) fun Q q=>⟨n,rfl,q⟩)) fun _=>dA (bR (aZ (bW (aA rfl)) fun Q q=>⟨t,rfl,q⟩)) fun _=>dA (bR (aZ (bW (aA rfl)) fun Q q=>⟨ld,rfl,q⟩)) fun _=>bR (aZ (bW (aA rfl)) fun Q q=>⟨wy,rfl,q⟩))) (fun e=>?_) (fun e=>?_)
  ·exact cD M k (Same.refl H) aL (eN rg ((Bool.not_eq_true' _).mp e))
  have e:=(Bool.not_eq_false' (b:=_)).mp e
  have es:=gH (s:=s0) rg e
  rw[Bool.and_eq_true,Bool.and_eq_true,Bool.and_eq_true] at e
  obtain ⟨n',rfl,b1,b2⟩:=bM e.1 (by decide)
  obtain ⟨t',rfl,b3,b4⟩:=bM e.2.1 (by decide)
  have el:=nY e.2.2.1
  have ew:=nY e.2.2.2
  rw[Int.toNat_natCast,Int.toNat_natCast] at es
  have es:stepRows s0 [[16,(n':Int),(t':Int),ld,wy]]=(match Vbmiai.roadOf s0.net n' with
    | none=>(s0,[-3])
    | some r=>match Vbmiai.minutesOf s0.net r (wy.toNat == 1) (ld.toNat == 1) with
     | none=>(s0,[-7])
     | some k=>(s0,[0,Int.ofNat (Vbmiai.begins s0.net n' t' k),Int.ofNat (Vbmiai.begins s0.net n' t' k + k)])):=es
  generalize (ld.toNat == 1)=l at el es
  generalize (wy.toNat == 1)=wb at ew es
  subst el ew
  refine cB (dH (bR (aZ (bS (aH (aA rfl) ha T.bT.cl T.bB aX) (aA rfl)) fun Q q=>⟨p,s0.net,n',rfl,NN,q⟩))) (fun e=>?_) (fun e=>?_)
  ·rw[pL (o:=Vbmiai.roadOf s0.net n') ((Bool.not_eq_true' _).mp e)] at es
   exact cD M k (Same.refl H) aL es
  obtain ⟨r,hr0⟩:=pP ((Bool.not_eq_false' (b:=_)).mp e:(Vbmiai.roadOf s0.net n').isSome=true)
  rw[hr0] at es
  dsimp only at es
  obtain ⟨hrm,hrn⟩:=zN hr0
  refine bZ (fF (cK ((aH (aA rfl) ha T.bT.cl T.bB aX) _ (cK (bQ (bS (aH (aA rfl) ha T.bT.cl T.bB aX) (aA rfl)) ⟨p,s0.net,n',rfl,NN,fun y ar h1 h2=>?_,fun h1=>by rw[hr0] at h1;cases h1⟩)))))
  rw[hr0] at h1
  cases h1
  refine (bS (aA rfl) (aA rfl)) _ ⟨p,ar,s0.net,r,wb,l,rfl,NN,M.wf,hrm,h2,fun kk x H2 hm s2 nx hst=>?_,fun hm=>?_⟩
  ·rw[hm] at es
   dsimp only at es
   have S:=hst.at
   obtain ⟨ll,cs,S'⟩:=id S
   obtain ⟨dst,hob⟩:=S'.ob
   have er:(oB r wb kk).road=n':=by
    rw[←hrn]
    unfold oB
    cases wb <;> rfl
   have ek:(oB r wb kk).long=kk:=by
    unfold oB
    cases wb <;> rfl
   refine cB ((aO (xL (aA rfl) aL)).to (c:=false) rfl) (fun e=>by cases e) (fun _=>?_)
   refine cC (aZ (bS (aA rfl) (aA rfl)) fun Q q=>⟨x,s0.net,oB r wb kk,t',rfl,S,q⟩) ?_
   rw[er,ek]
   refine bP (dI (bA aL (bS (aA rfl) (bH (aA rfl) (aH (aA rfl) hob T.dZ.cl T.gC gL)))) (by show 3≤sizeLine;decide) fun q hq=>?_)
   refine gO M k es (s2.over (s2.free hq)) (s2.free hq) ?_
   rw[aF,ek]
   rfl
  ·rw[hm] at es
   exact cB ((aO (xL (aA rfl) aL)).to (c:=true) rfl) (fun _=>cD M k (Same.refl H) aL es) (fun e=>by cases e)
theorem Fx {f:Addr}{fd:FuncData} (T:Txt P w K mg A) (D:Dn K mg "answer_net" qJ ["mine","given"] f fd):bO P w K mg base eC 4 f fd ["mine","given"] (Ih A (fun c=>c=[[17]])):=by
 obtain ⟨af_net_numbers,fd_net_numbers,D_net_numbers⟩:=T.Fz
 have G_net_numbers:=Dx (base:=base) T D_net_numbers
 have nd:=sc_answer_net.nd
 refine D.fn.ok sc_answer_net (fun vs H Q E h=>?_) (fun cdv Ar outer s H vs Q E hr h=>?_)
 ·obtain ⟨a,lb,g,s0,c,_,rfl,_⟩:=h
  rfl
 ·obtain ⟨a,lb,g,s0,c,rfl,rfl,M,hg,hl,k⟩:=h
  refine ⟨_,(aE (aK (cO qB (bE (aB (aW rfl T.gG) aD)) (aG G_net_numbers (hr.mono (by decide)) rfl D_net_numbers.mg D_net_numbers.fn.kp D_net_numbers.bi .nil aN (aB (aI (pv 0) rfl) aD))))),?_⟩
  obtain ⟨dx,p,ha,NN,NI⟩:=M.net
  have ef:stepRows s0 [[17]]=(s0,0 :: (Int.ofNat s0.net.junctions.length :: s0.net.junctions.flatMap (fun x=>Vbmiai.ints [x.number,x.height]) ++ (Int.ofNat s0.net.roads.length :: s0.net.roads.flatMap (fun r=>Vbmiai.ints [r.number,r.a,r.b,r.long,r.ways]) ++
     (Int.ofNat s0.net.speeds.length :: s0.net.speeds.flatMap (fun x=>Vbmiai.ints [x.grade,x.up,x.upLoaded,x.down,x.downLoaded]) ++ (Int.ofNat s0.net.closings.length :: s0.net.closings.flatMap fun c=>Vbmiai.ints [c.road,c.lo,c.hi]))))):=rfl
  have W:=M.wf
  have f1:=hJ jR s0.net.junctions (fun _=>by show 2≤5;decide) 10 W.jlen
  have f2:=hJ rR s0.net.roads (fun _=>by show 5≤5;decide) 20 W.rlen
  have f3:=hJ sR s0.net.speeds (fun _=>by show 5≤5;decide) 6 W.slen
  have f4:=hJ cR s0.net.closings (fun _=>by show 3≤5;decide) 20 W.clen
  have nl:(tW s0.net).length≤300:=by
   unfold tW
   simp only[List.length_append,List.length_cons]
   omega
  refine bP (qA (dI (bW aL) (by show 1≤sizeLine;decide) fun p1 h1=>?_))
  have s1:Same H (cA H p1 (.lst [.int 0])):=bN h1
  refine bQ (bW (aH (aA rfl) (s1 _ _ ha) T.bT.cl T.bB aX)) ⟨p,s0.net,rfl,NN.same s1,M.wf,fun l H2 s2 nl' e2=>⟨p1,l,_,_,rfl,rfl,s2 _ _ aF,e2,?_,fun p2 h2=>?_⟩⟩
  ·rw[cJ,sizeLine_eq]
   show 1 + _≤_
   omega
  have s12:=s1.trans s2
  refine gO M k ef (s12.over (s12.free h2)) (s12.free h2) ?_
  rw[aF,iw]
  rfl
end
open Vbmiai (State stepRows)
theorem Di {c:List (List Int)} (h:Form c):∃ (k n:Nat) (b:Bool) (args r:List Int),k<18∧Xg[k]? = some ((n:Int),b)∧args.length=n∧Rg c=(k:Int)∧PyFlat.put1 c=(k:Int) :: (args ++ (if b=true then (r.length:Int) :: r else []))∧kF c=args ++ (if b=true then r else []):=by
 cases h with
 | read t=>exact ⟨0,0,true,[],t,by decide,rfl,rfl,rfl,by simp[PyFlat.put1,PyFlat.putRows,PyFlat.putRow],by simp[kF]⟩
 | look t=>exact ⟨1,0,true,[],t,by decide,rfl,rfl,rfl,by simp[PyFlat.put1,PyFlat.putRows,PyFlat.putRow],by simp[kF]⟩
 | write=>exact ⟨2,0,false,[],[],by decide,rfl,rfl,rfl,rfl,rfl⟩
 | undo=>exact ⟨3,0,false,[],[],by decide,rfl,rfl,rfl,rfl,rfl⟩
 | close n lo hi=>exact ⟨4,3,false,[n,lo,hi],[],by decide,rfl,rfl,rfl,rfl,rfl⟩
 | free n=>exact ⟨5,1,false,[n],[],by decide,rfl,rfl,rfl,rfl,rfl⟩
 | road n l=>exact ⟨6,2,false,[n,l],[],by decide,rfl,rfl,rfl,rfl,rfl⟩
 | times a t l=>exact ⟨7,3,false,[a,t,l],[],by decide,rfl,rfl,rfl,rfl,rfl⟩
 | route a b t l=>exact ⟨8,4,false,[a,b,t,l],[],by decide,rfl,rfl,rfl,rfl,rfl⟩
 | check a t l r=>exact ⟨9,3,true,[a,t,l],r,by decide,rfl,rfl,rfl,by simp[PyFlat.put1,PyFlat.putRows,PyFlat.putRow],by simp[kF]⟩
 | table a t l r=>exact ⟨10,3,true,[a,t,l],r,by decide,rfl,rfl,rfl,by simp[PyFlat.put1,PyFlat.putRows,PyFlat.putRow],by simp[kF]⟩
 | without n a t l=>exact ⟨11,4,false,[n,a,t,l],[],by decide,rfl,rfl,rfl,rfl,rfl⟩
 | needed a l=>exact ⟨12,2,false,[a,l],[],by decide,rfl,rfl,rfl,rfl,rfl⟩
 | round a b t s=>exact ⟨13,4,false,[a,b,t,s],[],by decide,rfl,rfl,rfl,rfl,rfl⟩
 | within a t m l=>exact ⟨14,4,false,[a,t,m,l],[],by decide,rfl,rfl,rfl,rfl,rfl⟩
 | ramp x m a b h=>exact ⟨15,4,true,[x,m,a,b],h,by decide,rfl,rfl,rfl,by simp[PyFlat.put1,PyFlat.putRows,PyFlat.putRow],by simp[kF]⟩
 | begins n t l w=>exact ⟨16,4,false,[n,t,l,w],[],by decide,rfl,rfl,rfl,rfl,rfl⟩
 | net=>exact ⟨17,0,false,[],[],by decide,rfl,rfl,rfl,rfl,rfl⟩
theorem Ja:∀ (as:List Addr) (n k:Nat) (a:Addr),as[k]? = some a→lD (Ii n as) (Sum.inl ((n + k:Nat):Int))=some (.ref a)
 | [],_,_,_,h=>by simp at h
 | x :: as,n,0,a,h=>by
  have e:x=a:=by simpa using h
  subst e
  unfold Ii lD
  rw[List.find?_cons]
  simp
 | x :: as,n,k + 1,a,h=>by
  have ih:=Ja as (n + 1) k a (by simpa using h)
  unfold lD at ih ⊢
  show (List.find? _ ((Sum.inl (n:Int),V.ref x) :: Ii (n + 1) as)).map _=_
  rw[List.find?_cons]
  have e:decide ((Sum.inl (n:Int):fJ)=Sum.inl ((n + (k + 1):Nat):Int))=false:=by
   rw[Ix]
   rw[beq_eq_false_iff_ne]
   omega
  rw[e]
  have e2:n + (k + 1)=n + 1 + k:=by omega
  rw[e2]
  exact ih
def vB (H:Hp) (f t:Addr) (c:List (List Int)):Prop:=∃ g,H t=some (.tup [.int (Rg c),.ref g])∧H g=some (.lst ((kF c).map V.int))∧g≠f
def Kb (K:PySem.W.Frag):Sp:=fun vs H Q _=>∃ (a:Addr) (l:List Int) (cs:List (List (List Int))),vs=[.ref a]∧SqL K H a (l.map V.int)∧l=PyFlat.put cs∧(∀ c ∈ cs,Form c)∧l.length≤17000∧cs.length≤400 ∧
 ∀ (x:Addr) (H':Hp) (ts:List Addr),Same H H'→H x=none→H' x=some (.lst (ts.map V.ref))→All2 (fun t c=>vB H' x t c) ts cs→Q (.ref x) H'
theorem al (a b:List (List (List Int))):PyFlat.put (a ++ b)=PyFlat.put a ++ PyFlat.put b:=by
 induction a with
 | nil=>rfl
 | cons c a ih=>
  show PyFlat.put1 c ++ PyFlat.put (a ++ b)=(PyFlat.put1 c ++ PyFlat.put a) ++ _
  rw[ih,List.append_assoc]
def kz (H0 H:Hp) (y:Addr) (as:List (List Int)):Prop:=∃ bs:List Addr,H y=some (.lst (bs.map V.ref))∧All2 (fun b a=>H b=some (.lst (a.map V.int))∧H0 b=none) bs as
def Fs (A:Ad):Sp:=fun vs H Q _=>∃ (x:Addr) (ts:List Addr) (cs:List (List (List Int))),vs=[.ref x]∧H x=some (.lst (ts.map V.ref))∧All2 (fun t c=>vB H x t c) ts cs∧(∀ c ∈ cs,Form c)∧(∀ c ∈ cs,(kF c).length≤17000)∧cs.length≤400 ∧
 ∀ y H',Same H H'→H y=none→kz H H' y (PyFlat.played stepRows Vbmiai.start cs)→(∀ r ∈ PyFlat.played stepRows Vbmiai.start cs,r.length≤7000)→Q (.ref y) H'
def vH (K:PySem.W.Frag):Sp:=fun vs H Q _=>∃ (a:Addr) (l:List Int),vs=[.ref a]∧SqL K H a (l.map V.int)∧l.length≤17000∧PyVbmiai.answers_asked l=true∧∀ p H',H' p=some (.lst ((PyVbmiai.answers l).map V.int))→Q (.ref p) H'
theorem Zy {σ:L2.St}{H:Hp}{K:PySem.W.Frag}{D:jB}{te:TE}{g:TG}{tb s2:TS}{a:Addr}{xs:List V} (he:Ev te σ H (.ref a)) (hx:SqL K H a xs) (Pv:Nat→L2.St→Hp→Prop) (h0:Pv 0 σ H) (hl:∀ i σ H,i≤xs.length→Pv i σ H→SqL K H a xs)
  (hs:∀ i x σ H,xs[i]? = some x→Pv i σ H→g x σ H fun σ2 H2=>tb ⟨Pv (i + 1),D.rt,s2 D,Pv (i + 1)⟩ σ2 H2) (hd:∀ σ H,Pv xs.length σ H→s2 D σ H):pC (Fi (wB K te) g tb) s2 D σ H:=he _ ⟨a,rfl,⟨xs,hx⟩,Co (D:={ D with nx:=s2 D }) Pv h0 hl hs hd⟩
section
variable {P:Program}{w:World}{K:PySem.W.Frag}{mg:Str→Option Value}{base:Heap}{A:Ad}
theorem af {f:Addr}{fd:FuncData} (T:Txt P w K mg A) (D:Fg K A.Mine "Mine.__init__" nS ["self"] f fd):bO P w K mg base eC 4 f fd ["self"] (Sj A):=Jw T D
theorem Pc (T:Txt P w K mg A) {c:List (List Int)} (h:Form c) {fs:List Addr} (m:All2 (fun f n=>mg n=some (.ref f)) fs Ch):∃ (k i:Nat) (f:Addr) (fd:FuncData) (ok:List (List Int)→Prop),Rg c=(i:Int)∧fs[i]? = some f∧k≤7∧bO P w K mg base eC k f fd ["mine","given"] (Ih A ok)∧ok c∧PySem.W.keepIn K (.ref f)=true∧Binds K fd ["mine","given"] []:=by
 have at_:∀ {i:Nat}{n:Str}{f:Addr},Ch[i]? = some n→mg n=some (.ref f)→fs[i]? = some f:=by
  intro i n f h1 h2
  obtain ⟨f',h3,h4⟩:=m.get' h1
  rw[h2] at h4
  cases h4
  exact h3
 cases h with
 | read t=>
  obtain ⟨f,fd,D⟩:=T.Gf
  exact ⟨7,0,f,fd,_,rfl,at_ (n:="answer_read") rfl D.mg,by decide,Ea T D,⟨t,rfl⟩,D.fn.kp,D.bi⟩
 | look t=>
  obtain ⟨f,fd,D⟩:=T.Gg
  exact ⟨7,1,f,fd,_,rfl,at_ (n:="answer_look") rfl D.mg,by decide,Ei T D,⟨t,rfl⟩,D.fn.kp,D.bi⟩
 | write =>
  obtain ⟨f,fd,D⟩:=T.Ex
  exact ⟨3,2,f,fd,_,rfl,at_ (n:="answer_write") rfl D.mg,by decide,zZ T D,rfl,D.fn.kp,D.bi⟩
 | undo =>
  obtain ⟨f,fd,D⟩:=T.Gh
  exact ⟨2,3,f,fd,_,rfl,at_ (n:="answer_undo") rfl D.mg,by decide,Dz T D,rfl,D.fn.kp,D.bi⟩
 | close n lo hi=>
  obtain ⟨f,fd,D⟩:=T.Ey
  exact ⟨5,4,f,fd,_,rfl,at_ (n:="answer_close") rfl D.mg,by decide,Al T D,⟨n,lo,hi,rfl⟩,D.fn.kp,D.bi⟩
 | free n=>
  obtain ⟨f,fd,D⟩:=T.Gi
  exact ⟨5,5,f,fd,_,rfl,at_ (n:="answer_free") rfl D.mg,by decide,Eb T D,⟨n,rfl⟩,D.fn.kp,D.bi⟩
 | road n l=>
  obtain ⟨f,fd,D⟩:=T.Gj
  exact ⟨3,6,f,fd,_,rfl,at_ (n:="answer_road") rfl D.mg,by decide,Eg T D,⟨n,l,rfl⟩,D.fn.kp,D.bi⟩
 | times a t l=>
  obtain ⟨f,fd,D⟩:=T.Ez
  exact ⟨6,7,f,fd,_,rfl,at_ (n:="answer_times") rfl D.mg,by decide,Ah T D,⟨a,t,l,rfl⟩,D.fn.kp,D.bi⟩
 | route a b t l=>
  obtain ⟨f,fd,D⟩:=T.Fa
  exact ⟨6,8,f,fd,_,rfl,at_ (n:="answer_route") rfl D.mg,by decide,An T D,⟨a,b,t,l,rfl⟩,D.fn.kp,D.bi⟩
 | check a t l r=>
  obtain ⟨f,fd,D⟩:=T.Fb
  exact ⟨6,9,f,fd,_,rfl,at_ (n:="answer_check") rfl D.mg,by decide,Au T D,⟨a,t,l,r,rfl⟩,D.fn.kp,D.bi⟩
 | table a t l r=>
  obtain ⟨f,fd,D⟩:=T.Fc
  exact ⟨6,10,f,fd,_,rfl,at_ (n:="answer_table") rfl D.mg,by decide,Ab T D,⟨a,t,l,r,rfl⟩,D.fn.kp,D.bi⟩
 | without n a t l=>
  obtain ⟨f,fd,D⟩:=T.yT
  exact ⟨6,11,f,fd,_,rfl,at_ (n:="answer_without") rfl D.mg,by decide,xF T D,⟨n,a,t,l,rfl⟩,D.fn.kp,D.bi⟩
 | needed a l=>
  obtain ⟨f,fd,D⟩:=T.Az
  exact ⟨6,12,f,fd,_,rfl,at_ (n:="answer_needed") rfl D.mg,by decide,yM T D,⟨a,l,rfl⟩,D.fn.kp,D.bi⟩
 | round a b t s=>
  obtain ⟨f,fd,D⟩:=T.Fd
  exact ⟨6,13,f,fd,_,rfl,at_ (n:="answer_round") rfl D.mg,by decide,Ag T D,⟨a,b,t,s,rfl⟩,D.fn.kp,D.bi⟩
 | within a t m l=>
  obtain ⟨f,fd,D⟩:=T.Ba
  exact ⟨6,14,f,fd,_,rfl,at_ (n:="answer_within") rfl D.mg,by decide,yS T D,⟨a,t,m,l,rfl⟩,D.fn.kp,D.bi⟩
 | ramp x m a b h=>
  obtain ⟨f,fd,D⟩:=T.Gk
  exact ⟨5,15,f,fd,_,rfl,at_ (n:="answer_ramp") rfl D.mg,by decide,Ec T D,⟨x,m,a,b,h,rfl⟩,D.fn.kp,D.bi⟩
 | begins n t l w=>
  obtain ⟨f,fd,D⟩:=T.Bb
  exact ⟨5,16,f,fd,_,rfl,at_ (n:="answer_begins") rfl D.mg,by decide,yN T D,⟨n,t,l,w,rfl⟩,D.fn.kp,D.bi⟩
 | net =>
  obtain ⟨f,fd,D⟩:=T.Lg
  exact ⟨4,17,f,fd,_,rfl,at_ (n:="answer_net") rfl D.mg,by decide,Fx T D,rfl,D.fn.kp,D.bi⟩
theorem xD {f:Addr}{fd:FuncData} (T:Txt P w K mg A) (D:Dn K mg "cut_into_calls" jU ["calls"] f fd):bO P w K mg base eC 1 f fd ["calls"] (Kb K):=by
 obtain ⟨a_SHAPES,l_SHAPES,wM,k_SHAPES,m_SHAPES⟩:=T.wM
 have nd:=sc_cut_into_calls.nd
 refine D.fn.ok sc_cut_into_calls (fun vs H Q E h=>?_) (fun cdv Ar outer s H vs Q E hr h=>?_)
 ·obtain ⟨a,l,cs,rfl,_⟩:=h
  rfl
 ·obtain ⟨a,l,cs,rfl,hS,el,hF,h17,h400,k⟩:=h
  have hu:=nN hr
  refine ⟨_,(aC (aR (i:=1) nd rfl (Or.inl rfl) (bE aD)) (aC (aR (i:=2) nd rfl (Or.inl rfl) aM) (aC (rQ PassesOwn.never (aY uM (pv 2) (bU bG (by rfl) T.eP dL (aB (pv 0) aD)) (bD _)) (aC (aR (i:=3) nd rfl (Or.inl rfl) (bX bC (pv 0) (pv 2) (fun _ _=>rfl))) (aC (aR (i:=4) nd rfl (Or.inl rfl) (Ce hu (fC (v:=.ref a_SHAPES) rfl wM rfl) (pv 3) (fun _ _=>rfl))) (aC (aR (i:=5) nd rfl (Or.inl rfl) (cO eR (cO eR (pv 2) aM) (bX xK (pv 4) aM (fun _ _=>rfl)))) (aC (aR (i:=6) nd rfl (Or.inl rfl) (pG uA (pv 0) (nP (cO eR (pv 2) aM)) (nP (pv 5)))) (aC (aR (i:=2) nd rfl (Or.inl rfl) (pv 5)) (aC (bJ (bK (bX xK (pv 4) aM (fun _ _=>rfl))) (aC (aR (i:=2) nd rfl (Or.inl rfl) (cO eR (cO eR (pv 5) aM) (bX bC (pv 0) (pv 5) (fun _ _=>rfl)))) (aE (cI (fG PySem.F.plainAttrs_list PySem.F.slot_list_extend PySem.F.type_list_extend iY (pv 6) (aB (pG uA (pv 0) (nP (cO eR (pv 5) aM)) (nP (pv 2))) aD))))) aU) (aE (cI (fG PySem.F.plainAttrs_list PySem.F.slot_list_append PySem.F.type_list_append dB (pv 1) (aB (lX (aB (pv 3) (aB (pv 6) aD))) aD))))))))))) (aE (aK (pv 1)))))),?_⟩
  refine bZ (dI eA (Nat.zero_le _) fun f0 hf0=>?_)
  refine cC aL ?_
  have e0:(0:Int)=(((PyFlat.put (cs.take 0)).length:Nat):Int):=rfl
  refine wD (fun n σ H'=>∃ (i:Nat) (v3 v4 v5 v6:Option V) (ts:List Addr),n=cs.length - i∧i≤cs.length∧σ=[some (.ref a),some (.ref f0),some (.int (((PyFlat.put (cs.take i)).length:Nat):Int)),v3,v4,v5,v6]∧Same H H'∧H' f0=some (.lst (ts.map V.ref))∧All2 (fun t c=>vB H' f0 t c) ts (cs.take i))
   ⟨0,none,none,none,none,[],rfl,Nat.zero_le _,rfl,bN hf0,aF,trivial⟩ ?_
  rintro n σ H1 ⟨i,v3,v4,v5,v6,ts,rfl,hi,rfl,s1,h1,hall⟩
  have hS1:=s1.seq hS
  have epa:l=PyFlat.put (cs.take i) ++ PyFlat.put (cs.drop i):=by
   rw[←al,List.take_append_drop]
   exact el
  by_cases hlt:i<cs.length
  rotate_left
  ·have ei:i=cs.length:=by omega
   subst ei
   refine ⟨false,(aO (bH (aA rfl) (cW (bW (aA rfl)) hS1))).to ?_,(fun e=>by cases e),fun _=>?_⟩
   ·rw[List.length_map,List.take_length,←el,decide_eq_false_iff_not]
    omega
   ·rw[List.take_length] at hall
    exact cS (aA rfl) (k f0 H1 ts s1 hf0 h1 hall)
  obtain ⟨c,hc⟩:∃ c,cs[i]? = some c:=⟨_,List.getElem?_eq_getElem hlt⟩
  have hcF:=hF c (List.mem_of_getElem? hc)
  obtain ⟨kk,nn,b,args,r,hk18,hsh,han,hpl,hput,hgv⟩:=Di hcF
  have ecd:PyFlat.put (cs.drop i)=PyFlat.put1 c ++ PyFlat.put (cs.drop (i + 1)):=by
   rw[pN hc]
   rfl
  rw[ecd,hput] at epa
  generalize hN:(PyFlat.put (cs.take i)).length=N
  have enext:(PyFlat.put (cs.take (i + 1))).length=N + (PyFlat.put1 c).length:=by
   rw[cG hc,Yj,List.length_append,hN]
  rw[hput] at enext
  generalize PyFlat.put (cs.take i)=pre at epa hN
  generalize PyFlat.put (cs.drop (i + 1))=post at epa
  obtain ⟨sa,hsa,ks⟩:=m_SHAPES.get' hsh
  have hval:=Ja l_SHAPES 0 kk sa hsa
  rw[Nat.zero_add] at hval
  have hllen:l.length=N + (1 + (nn + ((if b=true then (r.length:Int) :: r else []) ++ post).length)):=by
   rw[epa,List.length_append,hN]
   simp[han]
   omega
  refine ⟨true,(aO (bH (aA rfl) (cW (bW (aA rfl)) hS1))).to ?_,fun _=>?_,(fun e=>by cases e)⟩
  ·rw[List.length_map,decide_eq_true_iff,hllen]
   omega
  have gk:l[N]? = some (kk:Int):=by
   rw[epa,List.getElem?_append_right (by omega),hN]
   simp
  have ga:(l.drop (N + 1)).take nn=args:=by
   have:l.drop (N + 1)=args ++ ((if b=true then (r.length:Int) :: r else []) ++ post):=by
    rw[epa,List.drop_append,hN]
    have e1:pre.drop (N + 1)=[]:=List.drop_of_length_le (by omega)
    rw[e1,show N + 1 - N=1 by omega]
    simp
   rw[this,←han]
   exact List.take_left' rfl
  refine cC (bL (aA rfl) (aA rfl) hS1 (wI (by rw[List.getElem?_map,gk];rfl))) ?_
  refine cC (Cc (k:=Sum.inl (kk:Int)) aL (aA rfl) k_SHAPES hval) ?_
  refine cC ((bH (bH (aA rfl) aL) (uX (aA rfl) aL (ks.sq H1) (cY (j:=0) rfl rfl))).to (x:=.int ((N + 1 + nn:Nat):Int)) (by first | rfl | (congr 1;omega))) ?_
  have ecut:xJ (l.map V.int) (some ((N + 1:Nat):Int)) (some ((N + 1 + nn:Nat):Int))=args.map V.int:=by
   rw[Mp (by omega) (by rw[List.length_map];omega),show N + 1 + nn - (N + 1)=nn by omega,←List.map_drop,←List.map_take,ga]
  refine bZ (pH (aA rfl) (iZ ((bH (aA rfl) aL).to (x:=.int ((N + 1:Nat):Int)) (by first | rfl | (congr 1;omega)))) (iZ (aA rfl)) hS1 ecut fun g hg=>?_)
  have s2:=s1.over (o:=.lst (args.map V.int)) (s1.free hg)
  have gf:g≠f0:=(aQ h1 hg).symm
  refine cC (aA rfl) ?_
  have tail:∀ (H2:Hp) (q:Nat) {D:jB},(∀ σ' H',(∃ m',m'<cs.length - i∧∃ (i:Nat) (v3 v4 v5 v6:Option V) (ts:List Addr),m'=cs.length - i∧i≤cs.length∧σ'=[some (.ref a),some (.ref f0),some (.int (((PyFlat.put (cs.take i)).length:Nat):Int)),v3,v4,v5,v6]∧Same H H'∧H' f0=some (.lst (ts.map V.ref))∧All2 (fun t c=>vB H' f0 t c) ts (cs.take i))→D.nx σ' H')→q=(PyFlat.put (cs.take (i + 1))).length→Same H H2→H2 f0=some (.lst (ts.map V.ref))→All2 (fun t c=>vB H2 f0 t c) ts (cs.take i)→H2 g=some (.lst ((kF c).map V.int)) →
    Lr (dv K "list" tZ (lR 1) (gJ (Zp (gJ (lR 3) (gJ (lR 6) lQ))) lQ)) D [some (.ref a),some (.ref f0),some (.int (q:Int)),some (.int (kk:Int)),some (.ref sa),some (.int ((N + 1 + nn:Nat):Int)),some (.ref g)] H2:=by
   intro H2 q D hD hq s3 hf2 hall2 hg2
   refine gU (Iu (aA rfl) hf2 (We (bS (aA rfl) (aA rfl)) (by show 2≤sizeLine;decide) fun tu htu=>?_))
   have st:=bN (o:=.tup [.int (kk:Int),.ref g]) htu
   have s4:=s3.over (o:=.tup [.int (kk:Int),.ref g]) (s3.free htu)
   refine ⟨f0,_,.ref tu,rfl,rfl,st _ _ hf2,?_,hD _ _ ⟨cs.length - (i + 1),by omega,i + 1,_,_,_,_,ts ++ [tu],rfl,hlt,by rw[←hq],s4.over hf0,?_,?_⟩⟩
   ·rw[List.length_map,hall2.length,List.length_take,sizeLine_eq]
    omega
   ·rw[aF,List.map_append]
    rfl
   ·rw[cG hc]
    have ntf:tu≠f0:=(aQ hf2 htu).symm
    have k1:All2 (fun t c=>vB (cA (cA H2 tu (.tup [.int (kk:Int),.ref g])) f0 (.lst (ts.map V.ref ++ [V.ref tu]))) f0 t c) ts (cs.take i):=hall2.imp fun t c' ⟨g',q1,q2,q3⟩=>⟨g',by rw[aV (jM (st _ _ q1) (st _ _ hf2) (by intro z;cases z))];exact st _ _ q1,by rw[aV q3];exact st _ _ q2,q3⟩
    exact k1.snoc ⟨g,by rw[aV ntf,hpl];exact aF,by rw[aV gf];exact st _ _ hg2,gf⟩
  have keep:∀ {H2:Hp},(∀ b o,H1 b=some o→H2 b=some o)→All2 (fun t c=>vB H2 f0 t c) ts (cs.take i):=fun h=>hall.imp fun t c' ⟨g',q1,q2,q3⟩=>⟨g',h _ _ q1,h _ _ q2,q3⟩
  cases b with
  | false=>
   refine So ((bR (uX (aA rfl) aL (ks.sq _) (cY (j:=1) rfl rfl))).to (c:=false) rfl) (fun e=>by cases e) (fun _=>?_)
   refine tail _ (N + 1 + nn) (fun _ _ z=>z) ?_ s2 (bN hg _ _ h1) (keep (bN hg)) ?_
   ·rw[enext]
    simp[han]
    omega
   ·rw[aF,hgv]
    simp
  | true=>
   refine So ((bR (uX (aA rfl) aL (ks.sq _) (cY (j:=1) rfl rfl))).to (c:=true) rfl) (fun _=>?_) (fun e=>by cases e)
   have edr:l.drop (N + 1 + nn)=(r.length:Int) :: (r ++ post):=by
    rw[epa,List.drop_append,hN]
    have e1:pre.drop (N + 1 + nn)=[]:=List.drop_of_length_le (by omega)
    rw[e1,show N + 1 + nn - N=nn + 1 by omega,List.nil_append,List.cons_append,List.drop_succ_cons,List.append_assoc,List.drop_left' han]
    rfl
   have gr:l[N + 1 + nn]? = some (r.length:Int):=by
    have:(l.drop (N + 1 + nn))[0]? = some (r.length:Int):=by rw[edr];rfl
    rw[List.getElem?_drop] at this
    simpa using this
   have gr2:(l.drop (N + 1 + nn + 1)).take r.length=r:=by
    rw[←List.drop_drop,edr]
    show (r ++ post).take r.length=r
    exact List.take_left' rfl
   have hS2:=(bN (o:=.lst (args.map V.int)) hg).seq hS1
   have hlr:N + 1 + nn + 1 + r.length≤l.length:=by
    rw[hllen]
    simp
    omega
   refine cC ((bH (bH (aA rfl) aL) (bL (aA rfl) (aA rfl) hS2 (wI (by rw[List.getElem?_map,gr];rfl)))).to (x:=.int ((N + 1 + nn + 1 + r.length:Nat):Int)) (by first | rfl | (congr 1;omega))) ?_
   have ecut2:xJ (l.map V.int) (some ((N + 1 + nn + 1:Nat):Int)) (some ((N + 1 + nn + 1 + r.length:Nat):Int))=r.map V.int:=by
    rw[Mp (by omega) (by rw[List.length_map];omega),show N + 1 + nn + 1 + r.length - (N + 1 + nn + 1)=r.length by omega,←List.map_drop,←List.map_take,gr2]
   refine gU (uZ (aA rfl) aF (pH (aA rfl) (iZ ((bH (aA rfl) aL).to (x:=.int ((N + 1 + nn + 1:Nat):Int)) (by first | rfl | (congr 1;omega)))) (iZ (aA rfl)) hS2 ecut2 fun g2 hg2=>?_))
   have sg2:=bN (o:=.lst (r.map V.int)) hg2
   refine ⟨g,g2,_,_,rfl,rfl,sg2 _ _ aF,aF,?_,?_⟩
   ·rw[List.length_map,List.length_map,sizeLine_eq]
    omega
   have gg:∀ {b:Addr}{o:HO},H1 b=some o→cA (cA (cA H1 g (.lst (args.map V.int))) g2 (.lst (r.map V.int))) g (.lst (args.map V.int ++ r.map V.int)) b=some o:=fun {b o} h=>by
    rw[aV (aQ h hg)]
    exact sg2 _ _ (bN hg _ _ h)
   refine tail _ (N + 1 + nn + 1 + r.length) (fun _ _ z=>z) ?_ ((s2.over (s2.free hg2)).over (s1.free hg)) (gg h1) (keep fun _ _ h=>gg h) ?_
   ·rw[enext]
    simp[han]
    omega
   ·rw[aF,hgv,List.map_append]
    rfl
end
open Vbmiai (State stepRows)
theorem NetIn.off {A:Ad}{H:Hp}{lb p t:Addr}{m:Net}{o:HO} (h:NetIn A H lb p m) (n1:∀ xs,H t≠some (.lst xs)) (n2:∀ C dx fs,H t≠some (.ins C dx fs)):NetIn A (cA H t o) lb p m:=by
 have kl:∀ {b:Addr}{xs:List V},H b=some (.lst xs)→cA H t o b=some (.lst xs):=fun {b xs} q=>by
  rw[aV (fun z=>n1 xs (by rw[←z];exact q))]
  exact q
 have ki:∀ {b C:Addr}{fs:List (Str×V)},OA H C fs b→OA (cA H t o) C fs b:=fun {b C fs} ⟨dx,q⟩=>⟨dx,by
  rw[aV (fun z=>n2 C dx fs (by rw[←z];exact q))]
  exact q⟩
 have kL:∀ {α:Type}{C l:Addr}{F:α→List (Str×V)}{xs:List α},LA H C F l xs→LA (cA H t o) C F l xs:=fun ⟨as,q1,q2⟩=>⟨as,kl q1,q2.imp fun _ _ z=>ki z⟩
 obtain ⟨lj,lr,ls,lc,N,r⟩:=h
 exact ⟨lj,lr,ls,lc,⟨ki N.ob,kL N.js,kL N.rs,kL N.ss,kL N.cs⟩,r⟩
theorem MineAt.off {A:Ad}{H:Hp}{a lb t:Addr}{s:State}{o:HO} (h:MineAt A H a lb s) (n1:∀ xs,H t≠some (.lst xs)) (n2:∀ C dx fs,H t≠some (.ins C dx fs)):MineAt A (cA H t o) a lb s:=by
 obtain ⟨dx,p,h1,h2⟩:=h.ob
 obtain ⟨ps,h3,h4⟩:=h.bf
 refine ⟨⟨dx,p,?_,h2.off n1 n2⟩,⟨ps,?_,h4.imp fun _ _ q=>q.off n1 n2⟩,h.wf,h.wp,h.len⟩
 ·rw[aV (fun z=>n2 _ _ _ (by rw[←z];exact h1))]
  exact h1
 ·rw[aV (fun z=>n1 _ (by rw[←z];exact h3))]
  exact h3
theorem Sk {c:List (List Int)}:∀ {cs:List (List (List Int))},c ∈ cs→(PyFlat.put1 c).length≤(PyFlat.put cs).length
 | [],h=>by cases h
 | d :: cs,h=>by
  show _≤(PyFlat.put1 d ++ PyFlat.put cs).length
  rw[List.length_append]
  rcases List.mem_cons.mp h with rfl | h
  ·omega
  ·have:=Sk h
   omega
theorem Ug {c:List (List Int)} (h:Form c):(kF c).length≤(PyFlat.put1 c).length:=by
 obtain ⟨k,n,b,args,r,_,_,_,_,h1,h2⟩:=Di h
 rw[h1,h2]
 cases b <;> simp
 omega
theorem Yn (as:List (List Int)):(∀ r ∈ as,r.length≤7000)→(PyFlat.told as).length≤as.length * 7001:=by
 intro h
 exact fP _ 7001 as fun x hx=>by
  rw[List.length_cons]
  have:=h x hx
  omega
theorem Cu (cs:List (List (List Int))):∀ s:State,(PyFlat.played stepRows s cs).length=cs.length:=by
 induction cs with
 | nil=>intro _;rfl
 | cons c cs ih=>
  intro s
  show (PyFlat.played stepRows _ cs).length + 1=_
  rw[ih]
  rfl
section
variable {P:Program}{w:World}{K:PySem.W.Frag}{mg:Str→Option Value}{base:Heap}{A:Ad}
theorem Fw {f:Addr}{fd:FuncData} (T:Txt P w K mg A) (D:Dn K mg "answer_all" qM ["cut_calls"] f fd):bO P w K mg base eC 8 f fd ["cut_calls"] (Fs A):=by
 obtain ⟨af_Mine,fd_Mine,I_Mine⟩:=T.jd
 have G_Mine:=af (base:=base) T I_Mine
 obtain ⟨a_HANDLERS,l_HANDLERS,qI,k_HANDLERS,m_HANDLERS⟩:=T.qI
 have nd:=sc_answer_all.nd
 refine D.fn.ok sc_answer_all (fun vs H Q E h=>?_) (fun cdv Ar outer s H vs Q E hr h=>?_)
 ·obtain ⟨x,ts,cs,rfl,_⟩:=h
  rfl
 ·obtain ⟨x,ts,cs,rfl,hx,hall,hF,h17,h400,k⟩:=h
  have hu:=nN hr
  refine ⟨_,(aC (aR (i:=1) nd rfl (Or.inl rfl) (Yy I_Mine.ma G_Mine (hr.mono (by decide)) rfl T.bT.mg I_Mine.bi .nil aN)) (aC (aR (i:=2) nd rfl (Or.inl rfl) (bE aD)) (aC (eK PassesOwn.never rfl (cH (pv 0)) (Ow rfl (pE (bV (i:=3) nd rfl (Or.inl rfl)) (pE (bV (i:=4) nd rfl (Or.inl rfl)) Jd))) (aC (aR (i:=5) nd rfl (Or.inl rfl) (Ce hu (fC (v:=.ref a_HANDLERS) rfl qI rfl) (pv 3) (fun _ _=>rfl))) (aE (cI (fG PySem.F.plainAttrs_list PySem.F.slot_list_append PySem.F.type_list_append dB (pv 2) (aB (bp (Yg (pv 5) (aB (pv 1) (aB (pv 4) aD)))) aD)))))) (aE (aK (pv 2)))))),?_⟩
  refine bZ ?_
  intro mn dm hmn hdm nmd
  refine ⟨mn,dm,rfl,aF,fun lb H1 hlb kp1 M1=>⟨rfl,?_⟩⟩
  have s0:Same H (cA (cA H dm (.own mn)) mn (.ins A.Mine dm [])):=cP hmn hdm
  have s1:Same H H1:=fun b o e=>kp1 b o (s0 b o e) (aQ e hmn)
  have hlb0:H lb=none:=s0.free hlb
  refine bZ (dI eA (Nat.zero_le _) fun t ht=>?_)
  have s2:=s1.over (o:=.lst []) (s1.free ht)
  obtain ⟨ps0,hbf0,_⟩:=M1.bf
  have ntl:t≠lb:=(aQ hbf0 ht).symm
  have ht0:H t=none:=s1.free ht
  refine Zy (aA rfl) (SqL.of (s2 _ _ hx)) (fun i σ H'=>∃ (v3 v4 v5:Option V) (bs:List Addr),σ=[some (.ref x),some (.ref mn),some (.ref t),v3,v4,v5]∧Same H H'∧MineAt A (cA H' t (.own t)) mn lb (after Vbmiai.start (cs.take i))∧H' t=some (.lst (bs.map V.ref))∧All2 (fun b a=>H' b=some (.lst (a.map V.int))∧b≠lb∧b≠t∧H b=none) bs (PyFlat.played stepRows Vbmiai.start (cs.take i))∧∀ r ∈ PyFlat.played stepRows Vbmiai.start (cs.take i),r.length≤7000) ⟨none,none,none,[],rfl,s2,(by rw[dN];exact M1.same (bN ht)),aF,trivial,(fun r hr=>by cases hr)⟩ (fun i σ H' _ h=>by obtain ⟨_,_,_,_,_,s3,_⟩:=h;exact SqL.of (s3 _ _ hx)) ?_ ?_
  ·rintro i y σ H2 hi ⟨v3,v4,v5,bs,rfl,s3,M2',h2,hbs,hlens⟩
   obtain ⟨tu,htu,rfl⟩:=bF hi
   obtain ⟨c,hc,g,hg1,hg2,_⟩:=hall.get htu
   have hcm:=List.mem_of_getElem? hc
   obtain ⟨kk,ii,f,fd,ok,hpl,hfi,hk7,FO,hok,hkp,hbi⟩:=Pc (base:=base) T (hF c hcm) m_HANDLERS
   have hval:=Ja l_HANDLERS 0 ii f hfi
   rw[Nat.zero_add,←hpl] at hval
   refine ⟨tu,_,rfl,SqT.of (s3 _ _ hg1),rfl,_,_,rfl,_,_,rfl,rfl,?_⟩
   refine cC (Cc (k:=Sum.inl (Rg c)) aL (aA rfl) k_HANDLERS hval) ?_
   refine gU (Iu (aA rfl) h2 ⟨t,.lst (bs.map V.ref),h2,trivial,fun od=>?_⟩)
   have M2:MineAt A (cA H2 t (.frz od (.lst (bs.map V.ref)))) mn lb (after Vbmiai.start (cs.take i)):=by
    have:=M2'.off (t:=t) (o:=.frz od (.lst (bs.map V.ref))) (fun xs z=>by rw[aF] at z;cases z) (fun C dx fs z=>by rw[aF] at z;cases z)
    rw[dN] at this
    exact this
   obtain ⟨dm2,pn2,hmn2,_⟩:=M2.ob
   obtain ⟨ps2,hbf2,_⟩:=M2.bf
   have f2t:cA H2 t (.frz od (.lst (bs.map V.ref))) t=some (.frz od (.lst (bs.map V.ref))):=aF
   have sf:∀ {b:Addr}{o:HO},H b=some o→cA H2 t (.frz od (.lst (bs.map V.ref))) b=some o:=fun {b o} e=>by
    rw[aV (aQ e ht0)]
    exact s3 _ _ e
   refine (aA rfl) _ ⟨f,kk,fd,_,_,rfl,FO,hr.mono hk7,hkp,hbi,(bS (aA rfl) (aA rfl)) _ ⟨mn,lb,g,_,c,hok,rfl,M2,sf hg2,h17 c hcm,fun l H3 kp nl e3 M3=>?_⟩⟩
   have tm:t≠mn:=jM f2t hmn2 (by intro z;cases z)
   have h3t:H3 t=some (.frz od (.lst (bs.map V.ref))):=kp _ _ f2t tm ntl
   have same3:Same H H3:=fun b o e=>kp b o (sf e) (aQ e hmn) (aQ e hlb0)
   have ltn:l≠t:=(aQ f2t nl).symm
   have llb:l≠lb:=(aQ hbf2 nl).symm
   have hl0:H l=none:=by
    cases q:H l with
    | none=>rfl
    | some o=>
     rw[sf q] at nl
     cases nl
   have hlen:=hbs.length
   rw[Cu] at hlen
   refine ⟨h3t,t,_,.ref l,rfl,rfl,aF,?_,_,_,_,bs ++ [l],rfl,(same3.over ht0).over ht0,?_,?_,?_,?_⟩
   ·rw[List.length_map,hlen,List.length_take,sizeLine_eq]
    omega
   ·rw[cG hc,Pl,dN,dN]
    exact M3.off (fun xs z=>by rw[h3t] at z;cases z) (fun C dx fs z=>by rw[h3t] at z;cases z)
   ·rw[aF,List.map_append]
    rfl
   ·rw[cG hc,tF,dN]
    have k1:All2 (fun b a=>(cA H3 t (.lst (bs.map V.ref ++ [V.ref l]))) b=some (.lst (a.map V.int))∧b≠lb∧b≠t∧H b=none) bs (PyFlat.played stepRows Vbmiai.start (cs.take i)):=hbs.imp fun b a ⟨q1,q2,q3,q5⟩=>by
     have q4:cA H2 t (.frz od (.lst (bs.map V.ref))) b=some (.lst (a.map V.int)):=by
      rw[aV q3]
      exact q1
     exact ⟨by rw[aV q3];exact kp _ _ q4 (jM q4 hmn2 li) q2,q2,q3,q5⟩
    exact k1.snoc ⟨by rw[aV ltn];exact e3,llb,ltn,hl0⟩
   ·rw[cG hc,tF]
    intro r hr'
    rcases List.mem_append.mp hr' with q | q
    ·exact hlens r q
    ·rw[List.mem_singleton.mp q]
     exact ao M2.wf (hF c hcm)
  ·rintro σ H2 ⟨v3,v4,v5,bs,rfl,s3,M2,h2,hbs,hlens⟩
   rw[List.length_map,hall.length,List.take_length] at hbs hlens
   exact cS (aA rfl) (k t H2 s3 ht0 ⟨bs,h2,hbs.imp fun _ _ q=>⟨q.1,q.2.2.2⟩⟩ hlens)
theorem Qc {f:Addr}{fd:FuncData} (T:Txt P w K mg A) (D:Dn K mg "answers" xY ["calls"] f fd):bO P w K mg base eC 9 f fd ["calls"] (vH K):=by
 obtain ⟨af_answer_all,fd_answer_all,D_answer_all⟩:=T.Lh
 have G_answer_all:=Fw (base:=base) T D_answer_all
 obtain ⟨af_cut_into_calls,fd_cut_into_calls,D_cut_into_calls⟩:=T.yU
 have G_cut_into_calls:=xD (base:=base) T D_cut_into_calls
 have nd:=sc_answers.nd
 refine D.fn.ok sc_answers (fun vs H Q E h=>?_) (fun cdv Ar outer s H vs Q E hr h=>?_)
 ·obtain ⟨a,l,rfl,_⟩:=h
  rfl
 ·obtain ⟨a,l,rfl,hS,h17,hask,k⟩:=h
  refine ⟨_,(aC (aR (i:=1) nd rfl (Or.inl rfl) (bE aD)) (aC (eK PassesOwn.never rfl (cH (aG G_answer_all (hr.mono (by decide)) rfl D_answer_all.mg D_answer_all.fn.kp D_answer_all.bi .nil aN (aB (aG G_cut_into_calls (hr.mono (by decide)) rfl D_cut_into_calls.mg D_cut_into_calls.fn.kp D_cut_into_calls.bi .nil aN (aB (pv 0) aD)) aD))) (bV (i:=2) nd rfl (Or.inl rfl)) (aC (cI (fG PySem.F.plainAttrs_list PySem.F.slot_list_append PySem.F.type_list_append dB (pv 1) (aB (bU bG (by rfl) T.eP dL (aB (pv 2) aD)) aD))) (aE (cI (fG PySem.F.plainAttrs_list PySem.F.slot_list_extend PySem.F.type_list_extend iY (pv 1) (aB (pv 2) aD)))))) (aE (aK (pv 1))))),?_⟩
  obtain ⟨cs,AS⟩:=Yq hask
  have hlen:=AS.put
  refine bZ (dI eA (Nat.zero_le _) fun t ht=>?_)
  have s1:Same H (cA H t (.lst [])):=bN ht
  refine Ji (fF (cK (bQ (bW (aA rfl)) ⟨a,l,cs,rfl,s1.seq hS,AS.put,AS.form,h17,AS.most,fun x H1 ts s2 nx hx hall=>?_⟩)))
  refine ⟨x,ts,cs,rfl,hx,hall,AS.form,fun c hc=>?_,AS.most,fun y H2 s3 ny hy hl7=>?_⟩
  ·have h1:=Ug (AS.form c hc)
   have h2:=Sk hc
   rw[←AS.put] at h2
   omega
  obtain ⟨bs,hyl,hall2⟩:=hy
  have hpl:=Cu cs Vbmiai.start
  have h400:=AS.most
  have ea:=AS.ans
  generalize PyFlat.played stepRows Vbmiai.start cs=as at hall2 hl7 hpl ea
  have s23:=s2.trans s3
  have s13:=s1.trans s23
  have hyt:y≠t:=fun z=>by
   rw[z] at ny
   rw[s2 _ _ aF] at ny
   cases ny
  refine Jh (SqL.of hyl) (fun i σ H'=>(∃ v:Option V,σ=[some (.ref a),some (.ref t),v])∧H' y=some (.lst (bs.map V.ref))∧All2 (fun b r=>H' b=some (.lst (r.map V.int))∧b≠t) bs as∧H' t=some (.lst ((PyFlat.told (as.take i)).map V.int))) ⟨⟨_,rfl⟩,hyl,?_,s23 _ _ aF⟩ (fun i σ H' _ h=>SqL.of h.2.1) ?_ ?_
  ·exact hall2.imp fun b r q=>⟨q.1,fun z=>by rw[z,s2 _ _ aF] at q;cases q.2⟩
  ·rintro i z σ H4 hi ⟨⟨v,rfl⟩,h4,hall4,ht4⟩
   obtain ⟨b,hb,rfl⟩:=bF hi
   obtain ⟨r,hr0,hbr,hbt⟩:=hall4.get hb
   have hi':=(List.getElem?_eq_some_iff.mp hr0).1
   have tl1:=Yn (as.take i) fun q hq=>hl7 q (List.mem_of_mem_take hq)
   rw[List.length_take] at tl1
   have tl2:(PyFlat.told (as.take i)).length≤400 * 7001:=Nat.le_trans tl1 (Nat.mul_le_mul_right _ (by omega))
   have hr7:=hl7 r (List.mem_of_getElem? hr0)
   refine iB (fN (aA rfl) (cW (bW (aA rfl)) (SqL.of hbr)) ht4 (by rw[List.length_map,sizeLine_eq];omega) ?_)
   have hb5:cA H4 t (.lst ((PyFlat.told (as.take i)).map V.int ++ [.int ((r.map V.int).length:Nat)])) b=some (.lst (r.map V.int)):=by
    rw[aV hbt]
    exact hbr
   refine gU (Yw (aA rfl) (aA rfl) aF hb5 ?_ ⟨⟨_,rfl⟩,?_,?_,?_⟩)
   ·rw[List.length_append,List.length_map,List.length_map,List.length_singleton,sizeLine_eq]
    omega
   ·rw[dN,aV hyt]
    exact h4
   ·rw[dN]
    exact hall4.imp fun _ _ q=>⟨by rw[aV q.2];exact q.1,q.2⟩
   ·rw[aF,cG hr0,Tp,List.map_append,List.length_map,List.append_assoc]
    rfl
  ·rintro σ H4 ⟨⟨v,rfl⟩,h4,hall4,ht4⟩
   rw[List.length_map,hall2.length,List.take_length,←ea] at ht4
   exact cS (aA rfl) (k t H4 ht4)
end
end Mr
namespace Mr
open PySem PySem.Spec PyProof.Rows L2
section
variable {P:Program}{w:World}{K:PySem.W.Frag}{h:Heap}{mg:Str→Option Value}
theorem qh {x:Str}{C:Addr} (X:K.In h) (G:h.Ns mainGlobals mg) (a:PySem.W.nsIn K mainGlobals x=some (some (.ref C))) (pg:PySem.W.plainGet K C Str.empty=true) (hd:PySem.W.hasDictIn K C=true) (po:PySem.W.plainOver K C=true)
  (sa:PySem.W.findIn K (.ref C) "__setattr__" = some (some (.builtin "object.__setattr__"))):Cn K mg x C:=⟨⟨pg,hd,po,sa⟩,PySem.W.mg_of X G a⟩
theorem qr {x:Str}{C:Addr} (a:PySem.W.findIn K (.ref C) x=some none):NoAttr K C x:=a
theorem qp {x:Str} (X:K.In h) (G:h.Ns mainGlobals mg) (a:PySem.W.nsIn K mainGlobals x=some none):mg x=none:=PySem.W.mg_none_of X G a
section
variable {x qual:Str}{st:Stmt}{ps:List Str}{C f:Addr}{oc:Value}{od an:Option Addr}{osl:Array (Option Value)}{kV doc pm cdv ct:Value}
theorem qu (X:K.In h) (G:h.Ns mainGlobals mg) (a:PySem.W.nsIn K mainGlobals x=some (some (.ref f))) (l:K.lookup f=some ⟨oc,od,.func (PySem.W.fnOf x x (jX st) (jD st) (aJ st) .none kV doc pm an cdv ct),osl⟩)
  (c:PySem.W.codeIn K cdv x=true) (k:PySem.W.keepIn K (.ref f)=true)
  (b:∀ (kV doc pm:Value) (an:Option Addr) (cdv ct:Value) (us:List Value),us.length=ps.length→bindArgs (PySem.W.fnOf x x (jX st) (jD st) (aJ st) .none kV doc pm an cdv ct) ⟨us,[]⟩=pure (ps.zip us)):∃ f fd,Dn K mg x st ps f fd :=
 ⟨f,_,xR (st:=st) l c k,(xR (st:=st) l c k).binds b,PySem.W.mg_of X G a⟩
theorem ql (a:PySem.W.findIn K (.ref C) x=some (some (.ref f))) (i:PySem.W.isFn K (.ref f)=true) (l:K.lookup f=some ⟨oc,od,.func (PySem.W.fnOf x qual (jX st) (jD st) (aJ st) .none kV doc pm an cdv ct),osl⟩)
  (c:PySem.W.codeIn K cdv qual=true) (k:PySem.W.keepIn K (.ref f)=true)
  (b:∀ (kV doc pm:Value) (an:Option Addr) (cdv ct:Value) (us:List Value),us.length=ps.length→bindArgs (PySem.W.fnOf x qual (jX st) (jD st) (aJ st) .none kV doc pm an cdv ct) ⟨us,[]⟩=pure (ps.zip us)):∃ f fd,Mn K C x qual st ps f fd :=
 ⟨f,_,xR (st:=st) l c k,(xR (st:=st) l c k).binds b,a,i,k⟩
theorem ou (a:PySem.W.findIn K (.ref C) "__init__" = some (some (.ref f))) (i:PySem.W.isFn K (.ref f)=true) (l:K.lookup f=some ⟨oc,od,.func (PySem.W.fnOf "__init__" qual (jX st) (jD st) (aJ st) .none kV doc pm an cdv ct),osl⟩)
  (c:PySem.W.codeIn K cdv qual=true) (k:PySem.W.keepIn K (.ref f)=true) (m:PySem.W.makesIn K C=true) (kc:PySem.W.keepIn K (.ref C)=true)
  (b:∀ (kV doc pm:Value) (an:Option Addr) (cdv ct:Value) (us:List Value),us.length=ps.length→bindArgs (PySem.W.fnOf "__init__" qual (jX st) (jD st) (aJ st) .none kV doc pm an cdv ct) ⟨us,[]⟩=pure (ps.zip us)):∃ f fd,Fg K C qual st ps f fd :=
 ⟨f,_,xR (st:=st) l c k,(xR (st:=st) l c k).binds b,m,a,i,kc⟩
end
theorem qj {x:Str}{z:Int}{t:Nat} (X:K.In h) (G:h.Ns mainGlobals mg) (a:PySem.W.nsIn K mainGlobals x=some (some (.int z t))):∃ u,mg x=some u∧RelV (.int z) u:=⟨_,PySem.W.mg_of X G a,_,rfl⟩
theorem qo {x z:Str}{t:Nat} (X:K.In h) (G:h.Ns mainGlobals mg) (a:PySem.W.nsIn K mainGlobals x=some (some (.str z t))):∃ u,mg x=some u∧RelV (.str z) u:=⟨_,PySem.W.mg_of X G a,_,rfl⟩
theorem my {a:Addr}{xs:List V}{od:Option Addr}{sl:Array (Option Value)}{its:Array Value}{n:Nat} (l:K.lookup a=some ⟨.type "tuple",od,.seq its n,sl⟩) (hs:its.size≤sizeLine) (v:Vals xs its.toList):KTup K a xs:=⟨_,its,n,l,rfl,rfl,hs,v⟩
theorem oy {x:Str}{a:Addr}{xs:List V}{od:Option Addr}{sl:Array (Option Value)}{its:Array Value}{n:Nat} (X:K.In h) (G:h.Ns mainGlobals mg) (e:PySem.W.nsIn K mainGlobals x=some (some (.ref a))) (l:K.lookup a=some ⟨.type "tuple",od,.seq its n,sl⟩) (hs:its.size≤sizeLine) (v:Vals xs its.toList) :
  ∃ a,mg x=some (.ref a)∧KTup K a xs:=⟨a,PySem.W.mg_of X G e,my l hs v⟩
def jh (P:Program) (w:World) (e:DictEntry) (p:fJ×V):Prop:=(dP P w).is p.1 e.key=true∧e.hash=(dP P w).hash p.1∧RelV p.2 e.val
theorem ents:∀ {es:List DictEntry}{kvs:List (fJ×V)},Paired (jh P w) es kvs→∃ vs,KV kvs vs∧Pairs (dP P w) es vs∧vs.map (·.1)=kvs.map (·.1)∧∀ e ∈ es,∃ k,(dP P w).is k e.key=true∧e.hash=(dP P w).hash k
 | _,_,.nil=>⟨[],.nil,.nil,rfl,fun _ q=>absurd q List.not_mem_nil⟩
 | _,_,.cons (a:=e) (b:=p) q r=>
  let ⟨vs,h1,h2,h3,h4⟩:=ents r
  ⟨(p.1,e.val) :: vs,.cons ⟨rfl,q.2.2⟩ h1,.cons q.1 rfl h2,by rw[List.map_cons,List.map_cons,h3],fun e' m=>(List.mem_cons.mp m).elim (fun z=>by rw[z];exact ⟨p.1,q.1,q.2.1⟩) (h4 e')⟩
theorem qa {a:Addr}{es:Array DictEntry}{ep:Nat}{kvs:List (fJ×V)} (hm:(a == sysModules)=false) (l:K.lookup a=some ⟨.type "dict",none,.dict es ep,#[]⟩) (e:Paired (jh P w) es.toList kvs) (nd:(kvs.map (·.1)).Nodup):KDict P w K a kvs:=by
 obtain ⟨vs,h1,h2,h3,h4⟩:=ents e
 exact ⟨hm,_,es,ep,vs,l,⟨rfl,rfl,rfl⟩,rfl,by rw[←Array.length_toList];exact Paired.length e,h1,fun e he=>h4 e (Array.mem_def.mp he),h2,by rw[h3];exact nd⟩
theorem pc {k z:Int}{t:Nat}{a:Addr} (e:z=hashInt k):jh P w ⟨z,.int k t,.ref a⟩ (.inl k,.ref a):=⟨zK P w k t,e,rfl⟩
theorem Zu {x:Str}{t:Nat}{a:Addr}:jh P w ⟨PyData.keyHash w.params x,.str x t,.ref a⟩ (.inr x,.ref a):=⟨zL P w x t,rfl,rfl⟩
theorem kd:∀ {as:List Addr}{us:List Value},Paired (fun a u=>u=Value.ref a) as us→Vals (as.map V.ref) us
 | _,_,.nil=>.nil
 | _,_,.cons h r=>.cons h (kd r)
theorem qm {a:Addr}{as:List Addr}{bs:List (Int×Int)}{od:Option Addr}{sl:Array (Option Value)}{its:Array Value}{n:Nat} (l:K.lookup a=some ⟨.type "tuple",od,.seq its n,sl⟩) (hs:its.size≤sizeLine) (v:Paired (fun a u=>u=Value.ref a) as its.toList)
  (r:All2 (fun t b=>KTup K t [.int b.1,.int b.2]) as bs):Og K a bs:=⟨as,my l hs (kd v),r⟩
theorem oa {α β:Type}{R:α→β→Prop}{a:α}{b:β}{as:List α}{bs:List β} (h:R a b) (r:All2 R as bs):All2 R (a :: as) (b :: bs):=⟨h,r⟩
inductive IxE:Nat→List DictEntry→List Addr→Prop
 | nil {n:Nat}:IxE n [] []
 | cons {n t:Nat}{a:Addr}{z:Int}{es:List DictEntry}{ts:List Addr}:z=hashInt (n:Int)→IxE (n + 1) es ts→IxE n (⟨z,.int (n:Int) t,.ref a⟩ :: es) (a :: ts)
theorem IxE.ents:∀ {n:Nat}{es:List DictEntry}{ts:List Addr},IxE n es ts→Paired (jh P w) es (Ii n ts)
 | _,_,_,.nil=>.nil
 | _,_,_,.cons e r=>.cons (pc e) (IxE.ents r)
theorem kh {a:Addr}{es:Array DictEntry}{ep:Nat}{ts:List Addr}{β:Type}{R:Addr→β→Prop}{bs:List β}{x:Str} (X:K.In h) (G:h.Ns mainGlobals mg) (g:PySem.W.nsIn K mainGlobals x=some (some (.ref a))) (hm:(a == sysModules)=false) (l:K.lookup a=some ⟨.type "dict",none,.dict es ep,#[]⟩) (e:IxE 0 es.toList ts)
  (nd:((Ii 0 ts).map (·.1)).Nodup) (r:All2 R ts bs):∃ a,∃ ts:List Addr,mg x=some (.ref a)∧KDict P w K a (Ii 0 ts)∧All2 R ts bs:=⟨a,ts,PySem.W.mg_of X G g,qa hm l e.ents nd,r⟩
theorem ow {a t0 t1 t2 t3:Addr}{es:Array DictEntry}{ep:Nat}{x x0 x1 x2 x3:Str}{b0 b1 b2 b3:List (Int×Int)} (X:K.In h) (G:h.Ns mainGlobals mg) (g:PySem.W.nsIn K mainGlobals x=some (some (.ref a))) (hm:(a == sysModules)=false) (l:K.lookup a=some ⟨.type "dict",none,.dict es ep,#[]⟩)
  (e:Paired (jh P w) es.toList [(.inr x0,.ref t0),(.inr x1,.ref t1),(.inr x2,.ref t2),(.inr x3,.ref t3)]) (nd:([.inr x0,.inr x1,.inr x2,.inr x3]:List fJ).Nodup) (f0:Og K t0 b0) (f1:Og K t1 b1) (f2:Og K t2 b2) (f3:Og K t3 b3) :
  ∃ a t0 t1 t2 t3,mg x=some (.ref a)∧KDict P w K a [(.inr x0,.ref t0),(.inr x1,.ref t1),(.inr x2,.ref t2),(.inr x3,.ref t3)]∧Og K t0 b0∧Og K t1 b1∧Og K t2 b2∧Og K t3 b3:=⟨a,t0,t1,t2,t3,PySem.W.mg_of X G g,qa hm l e nd,f0,f1,f2,f3⟩
theorem wA {fa C0 C1 C2 C3 C4 C5 C6 C7 C8 C9:Addr} (h0:PySem.W.nsIn K mainGlobals "Junction" = some (some (.ref C0))) (h1:PySem.W.nsIn K mainGlobals "Road" = some (some (.ref C1))) (h2:PySem.W.nsIn K mainGlobals "Speed" = some (some (.ref C2))) (h3:PySem.W.nsIn K mainGlobals "Closing" = some (some (.ref C3))) (h4:PySem.W.nsIn K mainGlobals "Net" = some (some (.ref C4))) (h5:PySem.W.nsIn K mainGlobals "Mine" = some (some (.ref C5))) (h6:PySem.W.nsIn K mainGlobals "Surface" = some (some (.ref C6))) (h7:PySem.W.nsIn K mainGlobals "Reading" = some (some (.ref C7))) (h8:PySem.W.nsIn K mainGlobals "Step" = some (some (.ref C8))) (h9:PySem.W.nsIn K mainGlobals "Trip" = some (some (.ref C9))) (T:Txt P w K mg ⟨C0,C1,C2,C3,C4,C5,C6,C7,C8,C9⟩) (hmg:mg "answers" = some (.ref fa)) :
  ∃ fd:FuncData,(∀ (s:Shared) (us:List Value),us.length=(["calls"]:List Str).length→BindsTo s fd ⟨us,[]⟩ ((["calls"]:List Str).zip us))∧∀ base:Heap,K.In base→base.Ns mainGlobals mg→bO P w K mg base eC 9 fa fd ["calls"] (vH K):=by
 obtain ⟨f,fd,D⟩:=T.Vn
 have e:=hmg.symm.trans D.mg
 cases e
 refine ⟨fd,?_,fun base _ _=>Qc T D⟩
 obtain ⟨oc,od,kV,doc,pm,an,cdv,ct,osl,e,lk,hcd⟩:=D.fn.ex
 subst e
 exact fun s us hu=>match us,hu with | [_],_=>.of_eq rfl
end
end Mr
open PySem PySem.W PyProof.Rows
set_option maxRecDepth 100000 in
set_option maxHeartbeats 0 in
theorem PySem.Challenge.cw_mineroads_s01_answers_holds : PySem.Challenge.rw_mineroads_s01_answers.Holds := by
 have hws:=Mr.ws
 w_on;k_headS;(case hw=>exact ⟨[.list [.int 2]],by decide +kernel,by decide +kernel⟩)
 k_fillS
 refine L2.Pi (r:=PySem.Challenge.rw_mineroads_s01_answers) (k:=9) (CX:=L2.eC) (ps:=["calls"]) (sp:=Mr.vH) Mr.ws rfl rfl ⟨rfl,by decide,by decide⟩ (fun w h Y=>PySem.W.kIn_of Y) ?F ?S (fun _ _ _ _ z=>z)
 case F=>
  intro w mg fa h Y KX G hmg
  refine' Mr.wA ?h0 ?h1 ?h2 ?h3 ?h4 ?h5 ?h6 ?h7 ?h8 ?h9 ?T hmg
  (case h0=>k_is);(case h1=>k_is);(case h2=>k_is);(case h3=>k_is);(case h4=>k_is);(case h5=>k_is);(case h6=>k_is);(case h7=>k_is);(case h8=>k_is);(case h9=>k_is)
  case T=>
   constructor
   case qF=>
    refine' Mr.ow KX G ?a ?m ?l ?e ?n ?f0 ?f1 ?f2 ?f3
    (case a=>k_is);(case m=>rfl);(case l=>k_is)
    (case e=>exact .cons Mr.Zu (.cons Mr.Zu (.cons Mr.Zu (.cons Mr.Zu .nil))));(case n=>decide +kernel)
    all_goals (refine' Mr.qm ?l ?s ?v ?r;(case l=>k_is);(case s=>decide);(case v=>first | (exact .cons rfl (.cons rfl (.nil))) | (exact .cons rfl (.cons rfl (.cons rfl (.cons rfl (.cons rfl (.nil)))))) | (exact .cons rfl (.cons rfl (.cons rfl (.nil)))));(case r=>(repeat (refine' Mr.oa (Mr.my ?_ ?_ ?_) ?_;rotate_left 4;k_is;decide;exact .cons ⟨_,rfl⟩ (.cons ⟨_,rfl⟩ .nil)));exact trivial))
   case wM=>
    refine' Mr.kh KX G ?a ?m ?l ?e ?n ?r
    (case a=>k_is);(case m=>rfl);(case l=>k_is);(case e=>exact .cons rfl (.cons rfl (.cons rfl (.cons rfl (.cons rfl (.cons rfl (.cons rfl (.cons rfl (.cons rfl (.cons rfl (.cons rfl (.cons rfl (.cons rfl (.cons rfl (.cons rfl (.cons rfl (.cons rfl (.cons rfl (.nil)))))))))))))))))));(case n=>decide +kernel)
    (case r=>(repeat (refine' Mr.oa (Mr.my ?_ ?_ ?_) ?_;rotate_left 4;k_is;decide;exact .cons ⟨_,rfl⟩ (.cons rfl .nil)));exact trivial)
   case qI=>
    refine' Mr.kh KX G ?a ?m ?l ?e ?n ?r
    (case a=>k_is);(case m=>rfl);(case l=>k_is);(case e=>exact .cons rfl (.cons rfl (.cons rfl (.cons rfl (.cons rfl (.cons rfl (.cons rfl (.cons rfl (.cons rfl (.cons rfl (.cons rfl (.cons rfl (.cons rfl (.cons rfl (.cons rfl (.cons rfl (.cons rfl (.cons rfl (.nil)))))))))))))))))));(case n=>decide +kernel)
    (case r=>(repeat (refine' Mr.oa (PySem.W.mg_of KX G ?_) ?_;k_is));exact trivial)
   all_goals try dsimp only
   all_goals first
    | (refine' Mr.qh KX G ?_ ?_ ?_ ?_ ?_ <;> k_is)
    | (refine' Mr.qr ?_;k_is)
    | (refine' Mr.qp KX G ?_;k_is)
    | (refine' Mr.qj KX G ?a;(case a=>k_is))
    | (refine' Mr.qo KX G ?a;(case a=>k_is))
    | (refine' Mr.oy KX G ?a ?l ?s ?v;(case a=>k_is);(case l=>k_is);(case s=>decide);(case v=>exact .cons ⟨_,rfl⟩ (.cons ⟨_,rfl⟩ .nil)))
    | (refine' Mr.ou ?a ?i ?l ?c ?k ?m ?kc ?b;(case a=>k_is);(case i=>k_is);(case l=>k_is);(case c=>k_is);(case k=>k_is);(case m=>k_is);(case kc=>k_is);(case b=>first | (exact fun _ _ _ _ _ _ us hl=>match us,hl with | [_,_],_=>rfl) | (exact fun _ _ _ _ _ _ us hl=>match us,hl with | [_],_=>rfl) | (exact fun _ _ _ _ _ _ us hl=>match us,hl with | [_,_,_],_=>rfl) | (exact fun _ _ _ _ _ _ us hl=>match us,hl with | [_,_,_,_],_=>rfl) | (exact fun _ _ _ _ _ _ us hl=>match us,hl with | [],_=>rfl) | (exact fun _ _ _ _ _ _ us hl=>match us,hl with | [_,_,_,_,_,_],_=>rfl) | (exact fun _ _ _ _ _ _ us hl=>match us,hl with | [_,_,_,_,_],_=>rfl)))
    | (refine' Mr.ql ?a ?i ?l ?c ?k ?b;(case a=>k_is);(case i=>k_is);(case l=>k_is);(case c=>k_is);(case k=>k_is);(case b=>first | (exact fun _ _ _ _ _ _ us hl=>match us,hl with | [_,_],_=>rfl) | (exact fun _ _ _ _ _ _ us hl=>match us,hl with | [_],_=>rfl) | (exact fun _ _ _ _ _ _ us hl=>match us,hl with | [_,_,_],_=>rfl) | (exact fun _ _ _ _ _ _ us hl=>match us,hl with | [_,_,_,_],_=>rfl) | (exact fun _ _ _ _ _ _ us hl=>match us,hl with | [],_=>rfl) | (exact fun _ _ _ _ _ _ us hl=>match us,hl with | [_,_,_,_,_,_],_=>rfl) | (exact fun _ _ _ _ _ _ us hl=>match us,hl with | [_,_,_,_,_],_=>rfl)))
    | (refine' Mr.qu KX G ?a ?l ?c ?k ?b;(case a=>k_is);(case l=>k_is);(case c=>k_is);(case k=>k_is);(case b=>first | (exact fun _ _ _ _ _ _ us hl=>match us,hl with | [_,_],_=>rfl) | (exact fun _ _ _ _ _ _ us hl=>match us,hl with | [_],_=>rfl) | (exact fun _ _ _ _ _ _ us hl=>match us,hl with | [_,_,_],_=>rfl) | (exact fun _ _ _ _ _ _ us hl=>match us,hl with | [_,_,_,_],_=>rfl) | (exact fun _ _ _ _ _ _ us hl=>match us,hl with | [],_=>rfl) | (exact fun _ _ _ _ _ _ us hl=>match us,hl with | [_,_,_,_,_,_],_=>rfl) | (exact fun _ _ _ _ _ _ us hl=>match us,hl with | [_,_,_,_,_],_=>rfl)))
 case S=>
  intro K H xs a hO hwi hask hx
  cases hx with
  | cons h1 h2=>
   cases h2
   cases h1 with
   | lst hs ha=>
    have e:=L2.Sg a.1 _ ha
    subst e
    have q:((Codec.inLen 0 17000 a.1 && a.1.all (Codec.inInt _ _)) && true)=true:=hwi
    rw[Bool.and_eq_true,Bool.and_eq_true] at q
    have hl:=(Codec.inNat_iff.mp q.1.1).2
    exact ⟨_,a.1,rfl,hs,hl,hask,fun p H' hp=>.lst (L2.SqL.of hp) (L2.Ro _)⟩
