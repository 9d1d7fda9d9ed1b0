/-
  What functions of the program do, told of abstract states. Conditions: as each theorem says.
-/
import Derived.Test.YtemdgidnhgcafaaGreatDoorAbD
import Derived.Test.YtemdgidnhgcafaaGreatDoorProg
open Go.Proofs.Tryz renaming prog->ds,results168->axf,func142->aAP,results142->axg,results104->aAQ,results218->awm,results201->awn,func200->aAR,ntmps200->aAS,results200->aAT,results175->ayG,results169->aws,results143->aAX,results145->aAY
open Nat renaming reduceEqDiff->vt,reduceAdd->AS,mul_one->VU,reduceLeDiff->By,le_refl->BY,reduceBEq->av7,mul_comm->awU,mod_lt->aw6,le_trans->OF,pow_add->axj,lt_of_mul_lt_mul_right->aAU,add_mul->atY,mul_le_mul_right->avo,mod_eq_of_lt->avS,lt_of_le_of_lt->ayI,mul_add->axk,lt_or_ge->awr,zero_mod->aAV,xor_zero->aAW,add_assoc->awy,mul_assoc->aw3
open Int renaming toNat_natCast->avc,toNat->avn,fdiv_eq_ediv_of_nonneg->axi
open List renaming drop_eq_getElem_cons->avk,getD->ava,getElem?_eq_getElem->ME,mem_cons->IN,mem_of_getElem?->avK,contains_cons->av0,contains_nil->av6,take_succ_cons->aw2,all_cons->awO,map_drop->awC,length_drop->avJ,cons_append->avx,length_cons->ave,flatMap_cons->avj,append_assoc->au8
open Bool renaming and_eq_true->VW,or_eq_true->avY,or_true->axh,or_false->avM,true_and->avR
open Option renaming map_eq_some_iff->avL
open Array renaming replicate->awb,ext'->avE
set_option linter.unusedVariables false
set_option linter.unusedSimpArgs false
set_option maxHeartbeats 2000000
set_option maxRecDepth 10000
namespace Go.Proofs.YtemdgidnhgcafaaGreatDoor.Pk
open Go Go.Proofs Go.Proofs.YtemdgidnhgcafaaGreatDoor.Ab
theorem alq:tF ds 108=some (7,1):=by kernel_rfl
theorem alr:tF ds 123=none:=by kernel_rfl
theorem als:tF ds 246=some (11,4):=by kernel_rfl
theorem Jb:tF ds 292=some (17,1):=by kernel_rfl
theorem DM:tF ds 46=none:=by kernel_rfl
theorem Jc:H5 ds 4=true:=by kernel_rfl
theorem XV:bT ds 10=true:=by kernel_rfl
theorem alu:bT ds 100=true:=by kernel_rfl
theorem Jd:bT ds 101=true:=by kernel_rfl
theorem Gz:bT ds 102=true:=by kernel_rfl
theorem XW:bT ds 103=true:=by kernel_rfl
theorem Sp:bT ds 104=true:=by kernel_rfl
theorem Sq:bT ds 105=true:=by kernel_rfl
theorem Sr:bT ds 106=true:=by kernel_rfl
theorem alv:bT ds 107=true:=by kernel_rfl
theorem ww:bT ds 108=true:=by kernel_rfl
theorem XX:bT ds 11=true:=by kernel_rfl
theorem alw:bT ds 110=true:=by kernel_rfl
theorem alx:bT ds 111=true:=by kernel_rfl
theorem aly:bT ds 112=true:=by kernel_rfl
theorem XY:bT ds 113=true:=by kernel_rfl
theorem XZ:bT ds 114=true:=by kernel_rfl
theorem alz:bT ds 115=true:=by kernel_rfl
theorem alA:bT ds 118=true:=by kernel_rfl
theorem alB:bT ds 119=true:=by kernel_rfl
theorem X0:bT ds 12=true:=by kernel_rfl
theorem GA:bT ds 120=true:=by kernel_rfl
theorem alC:bT ds 121=true:=by kernel_rfl
theorem alD:bT ds 123=true:=by kernel_rfl
theorem Ss:bT ds 13=true:=by kernel_rfl
theorem alE:bT ds 132=true:=by kernel_rfl
theorem alF:bT ds 133=true:=by kernel_rfl
theorem B2:bT ds 14=true:=by kernel_rfl
theorem X1:bT ds 142=true:=by kernel_rfl
theorem ND:bT ds 143=true:=by kernel_rfl
theorem alG:bT ds 144=true:=by kernel_rfl
theorem St:bT ds 145=true:=by kernel_rfl
theorem alH:bT ds 146=true:=by kernel_rfl
theorem alI:bT ds 147=true:=by kernel_rfl
theorem alJ:bT ds 15=true:=by kernel_rfl
theorem Su:bT ds 150=true:=by kernel_rfl
theorem alK:bT ds 152=true:=by kernel_rfl
theorem Je:bT ds 153=true:=by kernel_rfl
theorem X2:bT ds 154=true:=by kernel_rfl
theorem Sv:bT ds 155=true:=by kernel_rfl
theorem alL:bT ds 156=true:=by kernel_rfl
theorem Sw:bT ds 16=true:=by kernel_rfl
theorem alM:bT ds 167=true:=by kernel_rfl
theorem alN:bT ds 168=true:=by kernel_rfl
theorem X3:bT ds 169=true:=by kernel_rfl
theorem Sx:bT ds 17=true:=by kernel_rfl
theorem alO:bT ds 170=true:=by kernel_rfl
theorem alP:bT ds 174=true:=by kernel_rfl
theorem wY:bT ds 175=true:=by kernel_rfl
theorem X4:bT ds 185=true:=by kernel_rfl
theorem alQ:bT ds 19=true:=by kernel_rfl
theorem NF:bT ds 195=true:=by kernel_rfl
theorem X5:bT ds 196=true:=by kernel_rfl
theorem alR:bT ds 199=true:=by kernel_rfl
theorem alS:bT ds 200=true:=by kernel_rfl
theorem DN:bT ds 201=true:=by kernel_rfl
theorem alT:bT ds 202=true:=by kernel_rfl
theorem alU:bT ds 21=true:=by kernel_rfl
theorem alV:bT ds 210=true:=by kernel_rfl
theorem X6:bT ds 212=true:=by kernel_rfl
theorem alW:bT ds 215=true:=by kernel_rfl
theorem alX:bT ds 218=true:=by kernel_rfl
theorem alY:bT ds 22=true:=by kernel_rfl
theorem X7:bT ds 229=true:=by kernel_rfl
theorem alZ:bT ds 232=true:=by kernel_rfl
theorem X8:bT ds 233=true:=by kernel_rfl
theorem X9:bT ds 238=true:=by kernel_rfl
theorem Ya:bT ds 239=true:=by kernel_rfl
theorem al0:bT ds 243=true:=by kernel_rfl
theorem al1:bT ds 244=true:=by kernel_rfl
theorem al2:bT ds 27=true:=by kernel_rfl
theorem al3:bT ds 28=true:=by kernel_rfl
theorem al4:bT ds 29=true:=by kernel_rfl
theorem Yb:bT ds 30=true:=by kernel_rfl
theorem Yc:bT ds 31=true:=by kernel_rfl
theorem al5:bT ds 32=true:=by kernel_rfl
theorem Yd:bT ds 33=true:=by kernel_rfl
theorem al6:bT ds 34=true:=by kernel_rfl
theorem Ye:bT ds 35=true:=by kernel_rfl
theorem al7:bT ds 37=true:=by kernel_rfl
theorem Sy:bT ds 38=true:=by kernel_rfl
theorem Yf:bT ds 39=true:=by kernel_rfl
theorem Yg:bT ds 40=true:=by kernel_rfl
theorem al8:bT ds 41=true:=by kernel_rfl
theorem al9:bT ds 42=true:=by kernel_rfl
theorem ama:bT ds 47=true:=by kernel_rfl
theorem amb:bT ds 48=true:=by kernel_rfl
theorem Yh:bT ds 49=true:=by kernel_rfl
theorem Yi:bT ds 50=true:=by kernel_rfl
theorem Yj:bT ds 51=true:=by kernel_rfl
theorem amc:bT ds 52=true:=by kernel_rfl
theorem amd:bT ds 53=true:=by kernel_rfl
theorem ame:bT ds 54=true:=by kernel_rfl
theorem Yk:bT ds 56=true:=by kernel_rfl
theorem amf:bT ds 57=true:=by kernel_rfl
theorem NG:bT ds 59=true:=by kernel_rfl
theorem NH:bT ds 60=true:=by kernel_rfl
theorem amg:bT ds 61=true:=by kernel_rfl
theorem Sz:bT ds 62=true:=by kernel_rfl
theorem SA:bT ds 63=true:=by kernel_rfl
theorem amh:bT ds 64=true:=by kernel_rfl
theorem Yl:bT ds 65=true:=by kernel_rfl
theorem ami:bT ds 66=true:=by kernel_rfl
theorem Ym:bT ds 67=true:=by kernel_rfl
theorem amj:bT ds 68=true:=by kernel_rfl
theorem NI:bT ds 69=true:=by kernel_rfl
theorem Jf:bT ds 7=true:=by kernel_rfl
theorem amk:bT ds 70=true:=by kernel_rfl
theorem aml:bT ds 71=true:=by kernel_rfl
theorem amm:bT ds 72=true:=by kernel_rfl
theorem NJ:bT ds 73=true:=by kernel_rfl
theorem Yn:bT ds 74=true:=by kernel_rfl
theorem Yo:bT ds 75=true:=by kernel_rfl
theorem amn:bT ds 76=true:=by kernel_rfl
theorem amo:bT ds 77=true:=by kernel_rfl
theorem amp:bT ds 78=true:=by kernel_rfl
theorem amq:bT ds 79=true:=by kernel_rfl
theorem Yp:bT ds 80=true:=by kernel_rfl
theorem Yq:bT ds 81=true:=by kernel_rfl
theorem amr:bT ds 83=true:=by kernel_rfl
theorem ams:bT ds 84=true:=by kernel_rfl
theorem DO:bT ds 85=true:=by kernel_rfl
theorem GB:bT ds 86=true:=by kernel_rfl
theorem amt:bT ds 87=true:=by kernel_rfl
theorem DP:bT ds 88=true:=by kernel_rfl
theorem Yr:bT ds 89=true:=by kernel_rfl
theorem NK:bT ds 91=true:=by kernel_rfl
theorem amu:bT ds 92=true:=by kernel_rfl
theorem amv:bT ds 96=true:=by kernel_rfl
theorem Ys:bT ds 97=true:=by kernel_rfl
theorem Yt:bT ds 98=true:=by kernel_rfl
theorem amw:bT ds 99=true:=by kernel_rfl
theorem Yu:df ds 101 0=some 0:=by kernel_rfl
theorem SB:df ds 101 1=some 1:=by kernel_rfl
theorem Yv:df ds 101 2=some 2:=by kernel_rfl
theorem SC:df ds 101 3=some 3:=by kernel_rfl
theorem Yw:df ds 110 0=some 0:=by kernel_rfl
theorem amx:df ds 110 1=some 1:=by kernel_rfl
theorem amy:df ds 110 2=some 2:=by kernel_rfl
theorem amz:df ds 110 3=some 3:=by kernel_rfl
theorem amA:df ds 110 4=some 4:=by kernel_rfl
theorem y9:df ds 125 0=some 0:=by kernel_rfl
theorem GC:df ds 125 1=some 6:=by kernel_rfl
theorem GD:df ds 150 0=some 0:=by kernel_rfl
theorem Yx:df ds 150 1=some 2:=by kernel_rfl
theorem SD:df ds 150 2=some 3:=by kernel_rfl
theorem i9:df ds 150 3=some 4:=by kernel_rfl
theorem i8:df ds 150 4=some 5:=by kernel_rfl
theorem i7:df ds 163 0=some 0:=by kernel_rfl
theorem B3:df ds 163 1=some 1:=by kernel_rfl
theorem Yy:df ds 163 2=some 5:=by kernel_rfl
theorem SE:df ds 173 0=some 0:=by kernel_rfl
theorem SF:df ds 173 1=some 1:=by kernel_rfl
theorem amB:df ds 177 0=some 0:=by kernel_rfl
theorem amC:df ds 177 1=some 1:=by kernel_rfl
theorem Yz:df ds 178 0=some 0:=by kernel_rfl
theorem amD:df ds 178 1=some 1:=by kernel_rfl
theorem amE:df ds 186 0=some 0:=by kernel_rfl
theorem Jg:df ds 198 0=some 0:=by kernel_rfl
theorem AF:df ds 210 0=some 0:=by kernel_rfl
theorem amF:df ds 218 0=some 0:=by kernel_rfl
theorem YA:df ds 218 1=some 3:=by kernel_rfl
theorem GF:df ds 218 2=some 4:=by kernel_rfl
theorem YB:df ds 245 0=some 0:=by kernel_rfl
theorem amG:df ds 245 1=some 1:=by kernel_rfl
theorem YC:df ds 245 2=some 2:=by kernel_rfl
theorem amH:df ds 245 3=some 3:=by kernel_rfl
theorem lZ:df ds 24 0=some 0:=by kernel_rfl
theorem fd:df ds 24 1=some 1:=by kernel_rfl
theorem SG:df ds 266 0=some 0:=by kernel_rfl
theorem YD:df ds 266 1=some 1:=by kernel_rfl
theorem YE:df ds 284 0=some 0:=by kernel_rfl
theorem xY:df ds 284 1=some 1:=by kernel_rfl
theorem SH:df ds 34 0=some 0:=by kernel_rfl
theorem YF:df ds 34 1=some 1:=by kernel_rfl
theorem NL:df ds 350 0=some 0:=by kernel_rfl
theorem YG:df ds 350 1=some 1:=by kernel_rfl
theorem B4:df ds 45 0=some 0:=by kernel_rfl
theorem Jh:df ds 45 1=some 1:=by kernel_rfl
theorem AG:df ds 45 2=some 2:=by kernel_rfl
theorem wZ:df ds 48 0=some 0:=by kernel_rfl
theorem NM:df ds 48 1=some 1:=by kernel_rfl
theorem B5:df ds 48 2=some 2:=by kernel_rfl
theorem GG:df ds 48 3=some 3:=by kernel_rfl
theorem GH:df ds 48 4=some 4:=by kernel_rfl
theorem NN:df ds 48 5=some 5:=by kernel_rfl
theorem SI:df ds 48 6=some 8:=by kernel_rfl
theorem Ji:df ds 48 7=some 9:=by kernel_rfl
theorem NO:df ds 48 8=some 10:=by kernel_rfl
theorem YH:df ds 57 0=some 0:=by kernel_rfl
theorem B6:df ds 57 1=some 1:=by kernel_rfl
theorem GI:df ds 57 2=some 2:=by kernel_rfl
theorem NP:df ds 57 3=some 3:=by kernel_rfl
theorem SJ:df ds 57 4=some 4:=by kernel_rfl
theorem amI:df ds 57 5=some 5:=by kernel_rfl
theorem nW:df ds 66 0=some 0:=by kernel_rfl
theorem GJ:df ds 66 1=some 1:=by kernel_rfl
theorem rk:df ds 66 2=some 2:=by kernel_rfl
theorem hd:df ds 68 0=some 0:=by kernel_rfl
theorem rl:df ds 68 1=some 1:=by kernel_rfl
theorem qu:df ds 68 2=some 2:=by kernel_rfl
theorem B7:df ds 68 3=some 5:=by kernel_rfl
theorem SK:df ds 74 0=some 0:=by kernel_rfl
theorem SL:df ds 74 1=some 1:=by kernel_rfl
theorem YI:df ds 90 0=some 0:=by kernel_rfl
theorem GK:df ds 90 1=some 1:=by kernel_rfl
theorem GL:df ds 90 2=some 2:=by kernel_rfl
theorem Jj:df ds 95 0=some 0:=by kernel_rfl
theorem YJ:df ds 95 1=some 2:=by kernel_rfl
theorem NQ:df ds 95 2=some 3:=by kernel_rfl
theorem amJ:df ds 95 3=some 4:=by kernel_rfl
theorem SM:df ds 95 4=some 5:=by kernel_rfl
theorem YK:df ds 95 5=some 6:=by kernel_rfl
theorem SN:df ds 95 6=some 7:=by kernel_rfl
theorem SO:df ds 95 7=some 8:=by kernel_rfl
theorem NR:df ds 95 8=some 9:=by kernel_rfl
theorem DQ:df ds 95 9=some 10:=by kernel_rfl
theorem Ok:Gj ds 256=some false:=by kernel_rfl
theorem amK:Gj ds 37=some false:=by kernel_rfl
theorem ns:nn ds 131=some .u64:=by kernel_rfl
theorem wn:nn ds 189=some .u64:=by kernel_rfl
theorem Jk:nn ds 2=some .i64:=by kernel_rfl
theorem iA:nn ds 3=some .i64:=by kernel_rfl
theorem mv:nn ds 5=some .u8:=by kernel_rfl
theorem amL:nn ds 60=some .u16:=by kernel_rfl
theorem Jl:ef ds 123=some 1:=by kernel_rfl
theorem amM:ef ds 136=some 0:=by kernel_rfl
theorem B8:ef ds 145=some 0:=by kernel_rfl
theorem YL:ef ds 151=some 0:=by kernel_rfl
theorem amN:ef ds 208=some 2:=by kernel_rfl
theorem rn:ef ds 22=some 1:=by kernel_rfl
theorem tM:ef ds 25=some 1:=by kernel_rfl
theorem SP:ef ds 256=some 0:=by kernel_rfl
theorem r3:ef ds 26=some 1:=by kernel_rfl
theorem uH:ef ds 282=some 1:=by kernel_rfl
theorem DR:ef ds 288=some 1:=by kernel_rfl
theorem AH:ef ds 29=some 1:=by kernel_rfl
theorem NS:ef ds 31=some 1:=by kernel_rfl
theorem NT:ef ds 32=some 1:=by kernel_rfl
theorem amO:ef ds 36=some 0:=by kernel_rfl
theorem gy:ef ds 46=some 1:=by kernel_rfl
theorem GM:ef ds 52=some 1:=by kernel_rfl
theorem AJ:ef ds 64=some 1:=by kernel_rfl
theorem amP:ef ds 85=some 0:=by kernel_rfl
theorem AK:ef ds 88=some 1:=by kernel_rfl
theorem YM:ef ds 98=some 1:=by kernel_rfl
theorem YN:ef ds 99=some 1:=by kernel_rfl
theorem Jm:loadT ds 101=some (some 4):=by kernel_rfl
theorem vN:loadT ds 110=some (some 5):=by kernel_rfl
theorem SQ:loadT ds 123=some none:=by kernel_rfl
theorem SR:loadT ds 136=some none:=by kernel_rfl
theorem DS:loadT ds 145=some none:=by kernel_rfl
theorem DT:loadT ds 148=some none:=by kernel_rfl
theorem YO:loadT ds 161=some none:=by kernel_rfl
theorem amQ:loadT ds 173=some (some 4):=by kernel_rfl
theorem amR:loadT ds 177=some (some 5):=by kernel_rfl
theorem amS:loadT ds 186=some (some 12):=by kernel_rfl
theorem du:loadT ds 2=some none:=by kernel_rfl
theorem AL:loadT ds 208=some none:=by kernel_rfl
theorem GN:loadT ds 212=some none:=by kernel_rfl
theorem mw:loadT ds 22=some none:=by kernel_rfl
theorem js:loadT ds 24=some (some 2):=by kernel_rfl
theorem amT:loadT ds 245=some (some 4):=by kernel_rfl
theorem wl:loadT ds 248=some (some 2):=by kernel_rfl
theorem Jn:loadT ds 25=some none:=by kernel_rfl
theorem Jo:loadT ds 256=some none:=by kernel_rfl
theorem Jp:loadT ds 26=some none:=by kernel_rfl
theorem za:loadT ds 282=some none:=by kernel_rfl
theorem YP:loadT ds 29=some none:=by kernel_rfl
theorem aW:loadT ds 3=some none:=by kernel_rfl
theorem SS:loadT ds 31=some none:=by kernel_rfl
theorem YQ:loadT ds 32=some none:=by kernel_rfl
theorem vO:loadT ds 34=some (some 3):=by kernel_rfl
theorem SU:loadT ds 350=some (some 2):=by kernel_rfl
theorem DU:loadT ds 36=some none:=by kernel_rfl
theorem SV:loadT ds 37=some none:=by kernel_rfl
theorem py:loadT ds 4=some none:=by kernel_rfl
theorem dG:loadT ds 45=some (some 3):=by kernel_rfl
theorem hz:loadT ds 46=some none:=by kernel_rfl
theorem DV:loadT ds 48=some (some 11):=by kernel_rfl
theorem r4:loadT ds 5=some none:=by kernel_rfl
theorem YR:loadT ds 52=some none:=by kernel_rfl
theorem GO:loadT ds 57=some (some 6):=by kernel_rfl
theorem sZ:loadT ds 64=some none:=by kernel_rfl
theorem fM:loadT ds 66=some (some 3):=by kernel_rfl
theorem om:loadT ds 68=some (some 6):=by kernel_rfl
theorem SX:loadT ds 71=some none:=by kernel_rfl
theorem SY:loadT ds 72=some none:=by kernel_rfl
theorem DW:loadT ds 74=some (some 2):=by kernel_rfl
theorem xZ:loadT ds 85=some none:=by kernel_rfl
theorem Jq:loadT ds 88=some none:=by kernel_rfl
theorem Jr:loadT ds 90=some (some 3):=by kernel_rfl
theorem YS:loadT ds 98=some none:=by kernel_rfl
theorem SZ:loadT ds 99=some none:=by kernel_rfl
theorem sh:eL ds 148=some (3,151,.int .i64):=by kernel_rfl
theorem NU:eL ds 204=some (3,3,.int .i64):=by kernel_rfl
theorem Js:eL ds 208=some (3,2,.int .i64):=by kernel_rfl
theorem amU:bT ds 245=false:=by kernel_rfl
theorem amV:eY ds 101=some (.inl [(0,1),(1,1),(2,1),(3,1)]):=by kernel_rfl
theorem wd:eY ds 110=some (.inl [(0,1),(1,1),(2,1),(3,1),(4,1)]):=by kernel_rfl
theorem amW:eY ds 125=some (.inl [(0,6),(6,1)]):=by kernel_rfl
theorem amX:eY ds 150=some (.inl [(0,2),(2,1),(3,1),(4,1),(5,1)]):=by kernel_rfl
theorem amY:eY ds 163=some (.inl [(0,1),(1,4),(5,1)]):=by kernel_rfl
theorem amZ:eY ds 173=some (.inl [(0,1),(1,3)]):=by kernel_rfl
theorem am0:eY ds 177=some (.inl [(0,1),(1,3),(4,1)]):=by kernel_rfl
theorem am1:eY ds 178=some (.inl [(0,1),(1,1)]):=by kernel_rfl
theorem am2:eY ds 179=some (.inr 2):=by kernel_rfl
theorem am3:eY ds 186=some (.inl [(0,11),(11,1)]):=by kernel_rfl
theorem YT:eY ds 198=some (.inl [(0,1)]):=by kernel_rfl
theorem am4:eY ds 210=some (.inl [(0,1)]):=by kernel_rfl
theorem am5:eY ds 218=some (.inl [(0,3),(3,1),(4,1)]):=by kernel_rfl
theorem AM:eY ds 24=some (.inl [(0,1),(1,1)]):=by kernel_rfl
theorem NV:eY ds 248=some (.inl [(0,1),(1,1)]):=by kernel_rfl
theorem am6:eY ds 266=some (.inl [(0,1),(1,1)]):=by kernel_rfl
theorem am7:eY ds 284=some (.inl [(0,1),(1,1)]):=by kernel_rfl
theorem YU:eY ds 34=some (.inl [(0,1),(1,1),(2,1)]):=by kernel_rfl
theorem am8:eY ds 350=some (.inl [(0,1),(1,1)]):=by kernel_rfl
theorem AN:eY ds 45=some (.inl [(0,1),(1,1),(2,1)]):=by kernel_rfl
theorem NW:eY ds 48=some (.inl [(0,1),(1,1),(2,1),(3,1),(4,1),(5,3),(8,1),(9,1),(10,1)]):=by kernel_rfl
theorem LT:eY ds 57=some (.inl [(0,1),(1,1),(2,1),(3,1),(4,1),(5,1)]):=by kernel_rfl
theorem ls:eY ds 66=some (.inl [(0,1),(1,1),(2,1)]):=by kernel_rfl
theorem DX:eY ds 68=some (.inl [(0,1),(1,1),(2,3),(5,1)]):=by kernel_rfl
theorem am9:eY ds 74=some (.inl [(0,1),(1,1)]):=by kernel_rfl
theorem YV:eY ds 90=some (.inl [(0,1),(1,1),(2,1)]):=by kernel_rfl
theorem ana:eY ds 95=some (.inl [(0,2),(2,1),(3,1),(4,1),(5,1),(6,1),(7,1),(8,1),(9,1),(10,1)]):=by kernel_rfl
theorem anb:RM ds 90 1=some (1,none):=by kernel_rfl
theorem YW:IE ds 45=some [0,0,0]:=by kernel_rfl
theorem YX:fL ds 123=some ⟨186,[.int .i64 0,.int .i64 0,.int .i64 0,.int .i64 0,.int .i64 0,.int .i64 0,.int .i64 0,.int .i64 0,.bool false,.ag,.ag,.int .i64 0],12,128⟩:=by kernel_rfl
theorem S0:fL ds 22=some ⟨68,[.int .i64 0,.ag,.int .i64 0,.int .i64 0,.ag,.int .i64 0],6,80⟩:=by kernel_rfl
theorem B9:fL ds 25=some ⟨45,[.int .i64 0,.int .i64 0,.int .i64 0],3,24⟩:=by kernel_rfl
theorem Jt:fL ds 26=some ⟨5,[.int .u8 0],1,1⟩:=by kernel_rfl
theorem AO:fL ds 282=some ⟨350,[.int .i64 0,.int .i64 0],2,16⟩:=by kernel_rfl
theorem Ca:fL ds 29=some ⟨48,[.int .i64 0,.int .i64 0,.int .i64 0,.int .i64 0,.int .i64 0,.int .i64 0,.int .i64 0,.int .i64 0,.bool false,.ag,.ag],11,120⟩:=by kernel_rfl
theorem YY:fL ds 31=some ⟨90,[.int .i64 0,.ag,.ag],3,56⟩:=by kernel_rfl
theorem YZ:fL ds 32=some ⟨57,[.int .i64 0,.int .i64 0,.int .i64 0,.ag,.ag,.int .i64 0],6,80⟩:=by kernel_rfl
theorem oU:fL ds 46=some ⟨3,[.int .i64 0],1,8⟩:=by kernel_rfl
theorem NX:fL ds 52=some ⟨110,[.int .i64 0,.int .i64 0,.int .i64 0,.int .i64 0,.bool false],5,40⟩:=by kernel_rfl
theorem S1:fL ds 64=some ⟨66,[.int .i64 0,.int .i64 0,.ag],3,40⟩:=by kernel_rfl
theorem GP:fL ds 88=some ⟨4,[.bool false],1,1⟩:=by kernel_rfl
theorem Y0:fL ds 98=some ⟨173,[.int .i64 0,.int .i64 0,.int .i64 0,.int .i64 0],4,32⟩:=by kernel_rfl
theorem Y1:fL ds 99=some ⟨177,[.int .i64 0,.int .i64 0,.int .i64 0,.int .i64 0,.int .i64 0],5,40⟩:=by kernel_rfl
theorem anc:dF ds 108=none:=by kernel_rfl
theorem S2:dF ds 123=some 12:=by kernel_rfl
theorem DY:dF ds 22=some 6:=by kernel_rfl
theorem ane:dF ds 246=none:=by kernel_rfl
theorem S3:dF ds 25=some 3:=by kernel_rfl
theorem NY:dF ds 26=some 1:=by kernel_rfl
theorem x0:dF ds 282=some 2:=by kernel_rfl
theorem anf:dF ds 29=some 11:=by kernel_rfl
theorem Ju:dF ds 292=none:=by kernel_rfl
theorem ang:dF ds 31=some 3:=by kernel_rfl
theorem anh:dF ds 32=some 6:=by kernel_rfl
theorem jI:dF ds 46=some 1:=by kernel_rfl
theorem Y2:dF ds 52=some 5:=by kernel_rfl
theorem Y3:dF ds 64=some 3:=by kernel_rfl
theorem S4:dF ds 88=some 1:=by kernel_rfl
theorem ani:dF ds 98=some 4:=by kernel_rfl
theorem anj:dF ds 99=some 5:=by kernel_rfl
theorem NZ:la ds 151=some (.pointer none):=by kernel_rfl
theorem S5:la ds 2=some (.int .i64 0):=by kernel_rfl
theorem v6:gR ds 101=some [.ag,.ag,.ag,.ag]:=by kernel_rfl
theorem Cb:gR ds 110=some [.int .i64 0,.int .i64 0,.int .i64 0,.int .i64 0,.bool false]:=by kernel_rfl
theorem ank:gR ds 125=some [.int .i64 0,.int .i64 0,.int .i64 0,.ag,.ag,.int .i64 0,.ag]:=by kernel_rfl
theorem anl:gR ds 150=some [.ag,.int .i64 0,.ag,.int .i64 0,.c8,.ff]:=by kernel_rfl
theorem anm:gR ds 163=some [.c8,.ag,.ag,.ag,.ag,.int .i64 0]:=by kernel_rfl
theorem Y4:gR ds 173=some [.int .i64 0,.int .i64 0,.int .i64 0,.int .i64 0]:=by kernel_rfl
theorem Y5:gR ds 177=some [.int .i64 0,.int .i64 0,.int .i64 0,.int .i64 0,.int .i64 0]:=by kernel_rfl
theorem S6:gR ds 178=some [.bool false,.int .i64 0]:=by kernel_rfl
theorem ann:gR ds 179=some [.bool false,.int .i64 0,.bool false,.int .i64 0,.bool false,.int .i64 0,.bool false,.int .i64 0,.bool false,.int .i64 0,.bool false,.int .i64 0,.bool false,.int .i64 0,.bool false,.int .i64 0]:=by kernel_rfl
theorem Y6:gR ds 186=some [.int .i64 0,.int .i64 0,.int .i64 0,.int .i64 0,.int .i64 0,.int .i64 0,.int .i64 0,.int .i64 0,.bool false,.ag,.ag,.int .i64 0]:=by kernel_rfl
theorem Y7:gR ds 198=some [.ag]:=by kernel_rfl
theorem S7:gR ds 2=some [.int .i64 0]:=by kernel_rfl
theorem ano:gR ds 210=some [.ff]:=by kernel_rfl
theorem anp:gR ds 218=some [.int .i64 0,.int .i64 0,.ag,.int .i64 0,.nilIface]:=by kernel_rfl
theorem uI:gR ds 24=some [.ag,.int .i64 0]:=by kernel_rfl
theorem N0:gR ds 248=some [.int .i64 0,.int .i64 0]:=by kernel_rfl
theorem M2:gR ds 266=some [.c8,.int .i64 0]:=by kernel_rfl
theorem anq:gR ds 284=some [.int .i64 0,.ag]:=by kernel_rfl
theorem S8:gR ds 3=some [.int .i64 0]:=by kernel_rfl
theorem Jv:gR ds 34=some [.ag,.ag,.int .i64 0]:=by kernel_rfl
theorem anr:gR ds 350=some [.int .i64 0,.int .i64 0]:=by kernel_rfl
theorem ans:gR ds 37=some [.int .i64 0]:=by kernel_rfl
theorem s0:gR ds 45=some [.int .i64 0,.int .i64 0,.int .i64 0]:=by kernel_rfl
theorem ant:gR ds 46=some [.ag]:=by kernel_rfl
theorem Jw:gR ds 48=some [.int .i64 0,.int .i64 0,.int .i64 0,.int .i64 0,.int .i64 0,.int .i64 0,.int .i64 0,.int .i64 0,.bool false,.ag,.ag]:=by kernel_rfl
theorem GQ:gR ds 57=some [.int .i64 0,.int .i64 0,.int .i64 0,.ag,.ag,.int .i64 0]:=by kernel_rfl
theorem oV:gR ds 66=some [.int .i64 0,.int .i64 0,.ag]:=by kernel_rfl
theorem pZ:gR ds 68=some [.int .i64 0,.ag,.int .i64 0,.int .i64 0,.ag,.int .i64 0]:=by kernel_rfl
theorem Y8:gR ds 74=some [.ff,.ff]:=by kernel_rfl
theorem Jx:gR ds 90=some [.int .i64 0,.ag,.ag]:=by kernel_rfl
theorem anu:gR ds 95=some [.ag,.int .i64 0,.int .i64 0,.int .i64 0,.c8,.ag,.int .i64 0,.int .i64 0,.ag,.ag,.ag]:=by kernel_rfl
theorem GR:cC ds 101=some 4:=by kernel_rfl
theorem AP:cC ds 110=some 5:=by kernel_rfl
theorem N1:cC ds 123=some 1:=by kernel_rfl
theorem anv:cC ds 173=some 4:=by kernel_rfl
theorem anw:cC ds 177=some 5:=by kernel_rfl
theorem Y9:cC ds 178=some 2:=by kernel_rfl
theorem anx:cC ds 186=some 12:=by kernel_rfl
theorem anz:cC ds 198=some 1:=by kernel_rfl
theorem r5:cC ds 2=some 1:=by kernel_rfl
theorem anA:cC ds 22=some 1:=by kernel_rfl
theorem uJ:cC ds 24=some 2:=by kernel_rfl
theorem N2:cC ds 248=some 2:=by kernel_rfl
theorem S9:cC ds 25=some 1:=by kernel_rfl
theorem Ta:cC ds 26=some 1:=by kernel_rfl
theorem anB:cC ds 266=some 2:=by kernel_rfl
theorem anC:cC ds 282=some 1:=by kernel_rfl
theorem Za:cC ds 29=some 1:=by kernel_rfl
theorem oo:cC ds 3=some 1:=by kernel_rfl
theorem Tb:cC ds 34=some 3:=by kernel_rfl
theorem Zb:cC ds 350=some 2:=by kernel_rfl
theorem Tc:cC ds 37=some 1:=by kernel_rfl
theorem w0:cC ds 45=some 3:=by kernel_rfl
theorem Cc:cC ds 46=some 1:=by kernel_rfl
theorem Zc:cC ds 48=some 11:=by kernel_rfl
theorem anD:cC ds 52=some 1:=by kernel_rfl
theorem Jy:cC ds 57=some 6:=by kernel_rfl
theorem Zd:cC ds 64=some 1:=by kernel_rfl
theorem nt:cC ds 66=some 3:=by kernel_rfl
theorem p0:cC ds 68=some 6:=by kernel_rfl
theorem Td:cC ds 74=some 2:=by kernel_rfl
theorem Te:cC ds 88=some 1:=by kernel_rfl
theorem GS:cC ds 90=some 3:=by kernel_rfl
theorem anE:cC ds 98=some 1:=by kernel_rfl
theorem anF:cC ds 99=some 1:=by kernel_rfl
inductive b4 where
 | mk (op n:Int) (aQ:List b4)
def b4.op:b4→Int | .mk o _ _=>o
def b4.num:b4→Int | .mk _ n _=>n
def b4.aQ:b4→List b4 | .mk _ _ l=>l
mutual
def aE:b4→List V
 | .mk o n l=>[.int .i64 o,.int .i64 n,.ah l.length (r6 l)]
def r6:List b4→List V
 | []=>[]
 | k::r=>aE k++r6 r
end
theorem Ze:∀ l:List b4,r6 l=l.flatMap aE
 | []=>by simp [r6]
 | k::r=>by rw [r6,Ze r];simp
theorem qv (e:b4):(aE e).length=3:=by cases e;rfl
theorem Jz (e:b4):(aE e).all (·.one)=true:=by cases e;rfl
theorem nu (o n:Int) (l:List b4):aE (.mk o n l)=[.int .i64 o,.int .i64 n,.ah l.length (l.flatMap aE)]:=by rw [aE,Ze]
mutual
theorem Tf:(e:b4)→a1 (aE e)
 | .mk o n l=>a1.cons (a7.int _ _) (a1.cons (a7.int _ _) (a1.cons (a7.ah (Zf l)) a1.nil))
theorem Zf:(l:List b4)→a1 (r6 l)
 | []=>by rw [r6];exact a1.nil
 | k::r=>by rw [r6];exact (Tf k).append (Zf r)
end
def dn:List Int:=[0,0,0,0,0,0,2,2,2,2,2,2,2,3,1,2,2]
def fG:List V:=dn.map (.int .i64)
def gN (h:I):Prop:=h.glob 2=some fG
def l0:b4→Bool
 | .mk o n l=>decide (1≤o∧o≤16)&&(decide ((l.length:Int)=dn.getD o.toNat 0)&&(decide (n=0)||decide (o=1)))
theorem anG (e:b4) (h:I) (az:gN h):Pure ds 168 [.agg (aE e)] h (.bool (l0 e)):=by
 refine Pure.val (a7.bool _) ?_;obtain ⟨o,n,l⟩:=e;refine af.au (c:=_) Tryz.func168 rfl (by kernel_rfl) (by simp) ?_
 have ay:(V.agg (aE (.mk o n l))).cells=some [.int .i64 o,.int .i64 n,.ah l.length (l.flatMap aE)]:=by rw [nu];rfl
 by_cases h1:o<1
 ·have bk:l0 (.mk o n l)=false:=by simp [l0];omega
  simp only [ae,vt,AS,nW,aW,ay,h1,aS,axf,ac];exact ax ⟨by rw [bk],J.push _ _ _⟩
 by_cases ad:16<o
 ·have bk:l0 (.mk o n l)=false:=by simp [l0];omega
  simp only [ae,vt,AS,nW,aW,ay,h1,ad,aS,axf,ac];exact ax ⟨by rw [bk],J.push _ _ _⟩
 simp only [ae,vt,AS,nW,aW,ay,h1,ad];refine aZ.bB none_ [] (.q 0 (.q 1 (.q 2 (.q 3 (.q 4 (.q 5 (.q 6 (.q 7 (.q 8 (.q 9 (.q 10 (.q 11 (.q 12 (.q 13 (.q 14 (.q 15 (.q 16 (.q 17 (.q 18 .done))))))))))))))))))) (by kernel_rfl) (by kernel_rfl) (by kernel_rfl) ?_
 have r2:∀ (f:ak) (a:aO),ak.eval f (h.push a) (.global 2)=.at fG:=fun f a=>H4 (by rw [DA];exact az)
 obtain ⟨k,hk,anH⟩:∃ k:Nat,o=(k:Int)∧k<17:=⟨o.toNat,by omega,by omega⟩
 subst hk;have p1:∀ m,cP (aO.cells [.int .i64 (k:Int),.int .i64 n,.ah l.length (l.flatMap aE)] 66 none) m=if m≤3 then some ([V.int .i64 (k:Int),.int .i64 n,.ah l.length (l.flatMap aE)].drop m) else none:=fun m=>rfl
 have fq:(if (0:Int)≤(k:Int)∧(k:Int)<((17:Nat):Int)∧((k:Int).toNat * 1)≤fG.length then some (V.at (fG.drop ((k:Int).toNat * 1))) else none)=some (.at (.int .i64 (dn.getD k 0)::fG.drop (k+1))):=by
  rw [if_pos ⟨by omega,by omega,by simp [fG,dn];omega⟩]
  have:fG.drop ((k:Int).toNat * 1)=.int .i64 (dn.getD k 0)::fG.drop (k+1):=by
   rw [avc,VU,avk (by simp [fG,dn];omega)]
   simp [fG,ava,ME (show k<dn.length by simp [dn];omega)]
  rw [this]
 by_cases aD:((l.length:Nat):Int)=dn.getD k 0
 ·have c3:(((l.length:Nat):Int)==dn.getD k 0)=true:=by simpa using aD
  by_cases bn:n=0
  ·have eP:(n==0)=true:=by simpa using bn
   have bk:l0 (.mk (k:Int) n l)=true:=by simp [l0,aD,bn];omega
   simp only [ae,bM,vt,By,Jb,nW,GJ,rk,AJ,du,aW,sZ,Ju,p1,r2,fq,c3,eP,aS,axf,ac];exact ax ⟨by rw [bk],J.push _ _ _⟩
  ·have eP:(n==0)=false:=by simpa using bn
   have bk:l0 (.mk (k:Int) n l)=((k:Int)==1):=by rw [Bool.eq_iff_iff];simp [l0,aD,bn];omega
   simp only [ae,bM,vt,By,Jb,nW,GJ,rk,AJ,du,aW,sZ,Ju,p1,r2,fq,c3,eP,aS,axf,ac];exact ax ⟨by rw [bk],J.push _ _ _⟩
 ·have c3:(((l.length:Nat):Int)==dn.getD k 0)=false:=by simpa using aD
  have bk:l0 (.mk (k:Int) n l)=false:=by simp [l0] at aD⊢;omega
  simp only [ae,bM,vt,By,Jb,nW,rk,AJ,aW,sZ,Ju,p1,r2,fq,c3,aS,axf,ac];exact ax ⟨by rw [bk],J.push _ _ _⟩
def jJ (f:Nat→b4→Option Nat) (room:Nat):Nat→List b4→Option Nat
 | m,[]=>some m
 | m,k::r=>match f (room - m) k with
  | some c=>jJ f room (m+c) r
  | none=>none
def hA:Nat→Nat→b4→Option Nat
 | 0,_,_=>none
 | l+1,room,e=>if room=0∨l0 e=false then none else jJ (hA l) room 1 e.aQ
theorem Zg {f:Nat→b4→Option Nat} {room:Nat} (av:∀ q e c,f q e=some c→1≤c∧c≤q):∀ {m:Nat} {l:List b4} {c:Nat},1≤m→m≤room→jJ f room m l=some c→1≤c∧c≤room
 | m,[],c,h1,ad,h=>by simp [jJ] at h;omega
 | m,k::r,c,h1,ad,h=>by
  unfold jJ at h;split at h
  ·rename_i d bf;have:=av _ _ _ bf;exact Zg av (by omega) (by omega) h
  ·cases h
theorem Zh:∀ {l room:Nat} {e:b4} {c:Nat},hA l room e=some c→1≤c∧c≤room
 | 0,_,_,_,h=>by simp [hA] at h
 | l+1,room,e,c,h=>by
  unfold hA at h;split at h
  ·cases h
  ·rename_i aL;exact Zg (fun q e c=>Zh) (by omega) (by omega) h
def vP:Option Nat→V
 | some m=>.tuple [.int .i64 (m:Nat),.bool true]
 | none=>.tuple [.int .i64 0,.bool false]
theorem anI {o n:Int} {l:List b4} (h:l0 (.mk o n l)=true):l.length≤3:=by
 simp only [l0,VW,avY,decide_eq_true_eq] at h;obtain ⟨⟨h1,ad⟩,aD,_⟩:=h;have:∀ k:Nat,dn.getD k 0≤3:=fun k=>by
  by_cases hk:k<17
  ·revert hk;revert k;decide
  ·rw [ava,List.getElem?_eq_none (by simp [dn];omega)];decide
 have:=this o.toNat;omega
theorem N3 {l:List b4} {k:Nat} (hk:k<l.length) {kk:IntKind}:hG ds 64 (.ah l.length (l.flatMap aE)) (.int kk (k:Int))=some (.at (aE l[k]++(l.drop (k+1)).flatMap aE)):=sX qv hk Y3
theorem Zi:∀ (l room:Nat) (e:b4) (h:I),gN h→l≤16→room≤64→Pure ds 142 [.agg (aE e),.int .i64 (l:Nat),.int .i64 (room:Nat)] h (vP (hA l room e))
 | 0,room,e,h,az,_,_=>by
  refine Pure.val (a7.tuple (a1.cons (a7.int _ _) (a1.cons (a7.bool _) a1.nil))) ?_;refine af.au (c:=_) aAP rfl (by kernel_rfl) (by simp) ?_
  have ay:(V.agg (aE e)).cells=some (aE e):=rfl;have bb:(((0:Nat):Int)==0)=true:=rfl;simp only [ae,vt,ay,bb,aS,axg,c9];exact ax ⟨rfl,J.push _ _ _⟩
 | l+1,room,e,h,az,aw,aL=>by
  have qq:a7 (vP (hA (l+1) room e)):=by
   cases hA (l+1) room e<;>exact a7.tuple (a1.cons (a7.int _ _) (a1.cons (a7.bool _) a1.nil))
  refine Pure.val qq ?_;refine af.au (c:=_) aAP rfl (by kernel_rfl) (by simp) ?_
  have ay:(V.agg (aE e)).cells=some (aE e):=rfl;have bb:(((l+1:Nat):Int)==0)=false:=by simp only [beq_eq_false_iff_ne,ne_eq];omega
  by_cases aK:room=0
  ·have bt:(((room:Nat):Int)==0)=true:=by simp [aK]
   have bk:hA (l+1) room e=none:=by simp [hA,aK]
   simp only [ae,vt,ay,bb,bt,aS,axg,c9];exact ax ⟨by rw [bk];rfl,J.push _ _ _⟩
  have bt:(((room:Nat):Int)==0)=false:=by simp only [beq_eq_false_iff_ne,ne_eq];omega
  have p1:cP (aO.cells (aE e) 66 none) 0=some (aE e):=by cases e;rfl
  have k4:cO (some (some 3)) (some (aE e))=some (.agg (aE e)):=by cases e;rfl
  have jl:∀ a,gN (h.push a):=fun a=>by unfold gN;rw [DA];exact az
  simp only [ae,vt,fM,ay,bb,bt,p1,k4];refine bW alN (anG e _ (jl _)) ?_;by_cases av:l0 e=false
  ·have bk:hA (l+1) room e=none:=by simp [hA,av]
   simp only [ae,vt,av,aS,axg,c9];exact ax ⟨by rw [bk];rfl,J.push _ _ _⟩
  have b8:l0 e=true:=by simpa using av
  obtain ⟨o,n,aQ⟩:=e;have k5:=anI b8;have bk:hA (l+1) room (.mk o n aQ)=jJ (hA l) room 1 aQ:=by simp [hA,aK,b8,b4.aQ]
  have kz:cP (aO.cells (aE (.mk o n aQ)) 66 none) 2=some [.ah aQ.length (aQ.flatMap aE)]:=by rw [nu];rfl
  simp only [ae,vt,rk,AJ,sZ,b8,kz];refine aZ.bQ (α:=Nat×Nat) (fun x f h'=>f 1=.int .i64 ((l+1:Nat):Int)∧f 2=.int .i64 (room:Nat)∧f 25=.ah aQ.length (aQ.flatMap aE)∧f 26=.int .i64 ((aQ.length:Nat):Int)∧f 27=.int .i64 (x.1:Nat)∧f 8=.int .i64 (x.2:Nat)∧x.1≤aQ.length∧1≤x.2∧x.2≤room∧J h h' none_∧jJ (hA l) room 1 aQ=jJ (hA l) room x.2 (aQ.drop x.1))
   (fun x=>aQ.length - x.1) (0,1) ⟨rfl,rfl,rfl,rfl,rfl,rfl,Nat.zero_le _,BY _,by omega,J.push _ _ _,rfl⟩ ?_
  rintro ⟨i,m⟩ f h' ⟨f1,f2,f25,f26,f27,f8,hi,wm,nC,hk,bL⟩
  simp only at f27 f8 hi wm nC bL;refine ee (by kernel_rfl) ?_
  by_cases aM:i<aQ.length;rotate_left
  ·have c3:decide ((i:Int)<((aQ.length:Nat):Int))=false:=by simp only [decide_eq_false_iff_not];omega
   rw [List.drop_of_length_le (by omega)] at bL
   simp only [ae,vt,f26,f27,f8,c3,aS,axg,c9];exact ax ⟨by rw [bk,bL];rfl,hk⟩
  ·have c3:decide ((i:Int)<((aQ.length:Nat):Int))=true:=by simp only [decide_eq_true_eq];omega
   rw [avk aM] at bL;have ft:=N3 (kk:=.i64) aM;generalize aQ[i]=A at *;have kg:∀ (q:List V),cO (some (some 3)) (some (aE A++q))=some (.agg (aE A)):=fun q=>lz (qv A);have cm:(V.agg (aE A)).cells=some (aE A):=rfl;have dV:bF (some 3) (aO.cells [.int .i64 0,.int .i64 0,.ag] 66 none) 0 (aE A)=some (.cells (aE A) 66 none):=by
    rw [sR (n:=3) (qv A) (Jz A),if_pos (by decide)];cases A;rfl
   have JA:cP (aO.cells (aE A) 66 none) 0=some (aE A):=by cases A;rfl
   have q3:cO (some (some 3)) (some (aE A))=some (.agg (aE A)):=by cases A;rfl
   have aJ:IntKind.i64.wrap (((l+1:Nat):Int) - 1)=((l:Nat):Int):=by rw [Go.IntWalk.i64_in _ (by omega)];omega
   have cV:IntKind.i64.wrap (((room:Nat):Int) - ((m:Nat):Int))=((room - m:Nat):Int):=by rw [Go.IntWalk.i64_in _ (by omega)];omega
   have bS:IntKind.i64.wrap (((i:Nat):Int)+1)=((i+1:Nat):Int):=by rw [Go.IntWalk.i64_in _ (by omega)];omega
   have Zj:gN h':=by unfold gN;rw [hk.glob];exact az
   have ih:=Zi l (room - m) A (h'.push (.cells (aE A) 66 none)) (by unfold gN;rw [DA];exact Zj) (by omega) (by omega)
   simp only [ae,vt,fM,oV,nt,f1,f2,f25,f26,f27,f8,c3,ft,kg,cm,dV,JA,q3,aJ,cV];refine bW X1 ih ?_;cases tj:hA l (room - m) A with
   | none=>
    have Zk:jJ (hA l) room 1 aQ=none:=by rw [bL];simp [jJ,tj]
    simp only [ae,vt,vP,aS,axg,c9];exact ax ⟨by rw [bk,Zk];rfl,hk.bH _⟩
   | some c=>
    have cI:=Zh tj;have j7:IntKind.i64.wrap (((m:Nat):Int)+((c:Nat):Int))=((m+c:Nat):Int):=by rw [Go.IntWalk.i64_in _ (by omega)];omega
    simp only [ae,vt,f27,f8,vP,bS,j7];exact ax ⟨(i+1,m+c),⟨f1,f2,f25,f26,rfl,rfl,by omega,by simp only;omega,by simp only;omega,hk.bH _,by rw [bL];simp [jJ,tj]⟩,by simp only;omega⟩
def c1 (e:b4):Bool:=(hA 16 64 e).isSome
theorem DZ (e:b4) (h:I) (az:gN h):Pure ds 104 [.agg (aE e)] h (.bool (c1 e)):=by
 refine Pure.val (a7.bool _) ?_;refine af.au (c:=_) Tryz.func104 rfl (by kernel_rfl) (by simp) ?_
 have ay:(V.agg (aE e)).cells=some (aE e):=rfl;have p1:cP (aO.cells (aE e) 66 none) 0=some (aE e):=by cases e;rfl
 have k4:cO (some (some 3)) (some (aE e))=some (.agg (aE e)):=by cases e;rfl
 have jl:∀ a,gN (h.push a):=fun a=>by unfold gN;rw [DA];exact az
 simp only [ae,vt,fM,ay,p1,k4];refine bW X1 (Zi 16 64 e _ (jl _) (by omega) (by omega)) ?_
 cases tj:hA 16 64 e with
 | none=>
  simp only [ae,vt,vP,aS,aAQ,ac];exact ax ⟨by simp [c1,tj],J.push _ _ _⟩
 | some c=>
  simp only [ae,vt,vP,aS,aAQ,ac];exact ax ⟨by simp [c1,tj],J.push _ _ _⟩
def nX (P:Program) (f:FuncId) (args:List V) (h:I) (o:Option V):Prop:=bV P f args h (fun r h'=>o=some r∧h'=h) (fun h'=>h'=h∧o=none)
theorem nX.pure {P:Program} {f:FuncId} {args:List V} {h:I} {v:V} (ay:nX P f args h (some v)):Pure P f args h v :=
 bV.mono ay (fun r h' ⟨aC,bd⟩=>⟨(Option.some.inj aC).symm,bd⟩) fun h' ⟨_,e⟩=>by cases e
theorem Pure.e {P:Program} {f:FuncId} {args:List V} {h:I} {v:V} (ay:Pure P f args h v):nX P f args h (some v) :=
 bV.mono ay (fun r h' ⟨aC,bd⟩=>⟨by rw [aC],bd⟩) fun h' e=>e.elim
theorem nX.of {P:Program} {f:FuncId} {args:List V} {h:I} (o:Option V) (aH:∀ v,o=some v→a7 v) (ay:bV P f args h (fun r h'=>o=some r∧J h h' none_) (fun h'=>J h h' none_∧o=none)):nX P f args h o:=by
 intro ρ B aJ w args' hw aP;refine (ay ρ B aJ w args' hw aP).mono fun e w' U=>?_;rcases U with ⟨ρ',r,c0,h',he,aL,bX,hle,aC,hk⟩ | ⟨ρ',iv,h',he,nE,bX,hle,hk,bL⟩
 ·exact .inl ⟨⟨ρ.ren,ρ'.frz,ρ.dfr⟩,r,c0,h,he,aH r aC _ _ _ aL fun _ _ h=>h,hw.forget bX hle hk,⟨fun _ _ h=>h,hle.frz,rfl⟩,aC,rfl⟩
 ·exact .inr ⟨⟨ρ.ren,ρ'.frz,ρ.dfr⟩,iv,h,he,nE,hw.forget bX hle hk,⟨fun _ _ h=>h,hle.frz,rfl⟩,rfl,bL⟩
def iO (o:Option Int):Option V:=o.map (.int .i64)
theorem anJ (o:Option Int):∀ v,iO o=some v→a7 v:=fun v h=>by
 obtain ⟨n,_,rfl⟩:=avL.1 h;exact a7.int _ _
theorem Zl (b:Bool) (h:I):Pure ds 239 [.bool b] h (.int .i64 (if b then 1 else 0)):=by
 refine af.au (c:=_) Tryz.func239 rfl (by kernel_rfl) (by simp) ?_
 cases b <;>
 ·simp only [ae,vt,reduceCtorEq,aS,Tryz.results239,ac];exact ax ⟨rfl,rfl⟩
theorem Zm (n:Int) (h:I):nX ds 238 [.int .i64 n] h (if n=0 then none else some (.int .i64 n)):=by
 refine bV.au (c:=_) Tryz.func238 rfl (by kernel_rfl) (by simp) ?_
 by_cases aK:n=0
 ·have c:(n==0)=true:=by simp [aK]
  simp only [ae,vt,reduceCtorEq,amK,c,yZ];exact ax ⟨rfl,by rw [if_pos aK]⟩
 ·have c:(n==0)=false:=by simp [aK]
  simp only [ae,vt,reduceCtorEq,c,aS,Tryz.results238,ac];exact ax ⟨by rw [if_neg aK],rfl⟩
def ma (n:Int):Int:=IntKind.i64.wrap n
def tN (op a b:Int):Option Int :=
 if op=6 then some (ma (a+b)) else if op=7 then some (ma (a - b)) else if op=8 then some (ma (a * b))
 else if op=9 then (if b=0 then none else some (ma (a.tdiv b))) else if op=10 then (if b=0 then none else some (a.tmod b))
 else if op=11 then some (if a<b then 1 else 0) else if op=12 then some (if a=b then 1 else 0) else if op=15 then some (min a b) else some (max a b)
theorem anK (op a b:Int) (h:I):nX ds 218 [.int .i64 op,.int .i64 a,.int .i64 b] h (iO (tN op a b)):=by
 refine bV.au (c:=_) Tryz.func218 rfl (by kernel_rfl) (by simp) ?_
 by_cases c6:op=6
 ·have c:(op==6)=true:=by simp [c6]
  simp only [ae,vt,reduceCtorEq,c,aS,awm,ac];exact ax ⟨by simp [tN,c6,iO,ma],rfl⟩
 have h6:(op==6)=false:=by simp [c6]
 by_cases gV:op=7
 ·have c:(op==7)=true:=by simp [gV]
  simp only [ae,vt,reduceCtorEq,h6,c,aS,awm,ac];exact ax ⟨by simp [tN,gV,iO,ma],rfl⟩
 have nv:(op==7)=false:=by simp [gV]
 by_cases kh:op=8
 ·have c:(op==8)=true:=by simp [kh]
  simp only [ae,vt,reduceCtorEq,h6,nv,c,aS,awm,ac];exact ax ⟨by simp [tN,kh,iO,ma],rfl⟩
 have kS:(op==8)=false:=by simp [kh]
 by_cases fU:op=9
 ·have c:(op==9)=true:=by simp [fU]
  simp only [ae,vt,reduceCtorEq,h6,nv,kS,c];refine yY X9 (Zm b h) (fun r h' ⟨aC,bd⟩=>?_) (fun h' ⟨aC,bd⟩=>?_)
  ·subst bd;by_cases al:b=0
   ·rw [if_pos al] at aC;cases aC
   rw [if_neg al] at aC;cases aC;simp only [ae,vt,Wq al,aS,awm,ac];exact ax ⟨by simp [tN,fU,al,iO,ma],rfl⟩
  ·subst aC;have al:b=0:=Classical.byContradiction fun al=>by rw [if_neg al] at bd;cases bd
   simp only [ae,yZ];exact ax ⟨rfl,by simp [tN,fU,al,iO]⟩
 have gO:(op==9)=false:=by simp [fU]
 by_cases r7:op=10
 ·have c:(op==10)=true:=by simp [r7]
  simp only [ae,vt,reduceCtorEq,h6,nv,kS,gO,c];refine yY X9 (Zm b h) (fun r h' ⟨aC,bd⟩=>?_) (fun h' ⟨aC,bd⟩=>?_)
  ·subst bd;by_cases al:b=0
   ·rw [if_pos al] at aC;cases aC
   rw [if_neg al] at aC;cases aC;simp only [ae,vt,BH al,aS,awm,ac];exact ax ⟨by simp [tN,r7,al,iO],rfl⟩
  ·subst aC;have al:b=0:=Classical.byContradiction fun al=>by rw [if_neg al] at bd;cases bd
   simp only [ae,yZ];exact ax ⟨rfl,by simp [tN,r7,al,iO]⟩
 have gZ:(op==10)=false:=by simp [r7]
 by_cases E7:op=11
 ·have c:(op==11)=true:=by simp [E7]
  simp only [ae,vt,reduceCtorEq,h6,nv,kS,gO,gZ,c];refine bW Ya (Zl _ h) ?_;simp only [ae,vt,aS,awm,ac];exact ax ⟨by simp [tN,E7,iO],rfl⟩
 have JB:(op==11)=false:=by simp [E7]
 by_cases zy:op=12
 ·have c:(op==12)=true:=by simp [zy]
  simp only [ae,vt,reduceCtorEq,h6,nv,kS,gO,gZ,JB,c];refine bW Ya (Zl _ h) ?_;simp only [ae,vt,aS,awm,ac];exact ax ⟨by simp [tN,zy,iO],rfl⟩
 have PG:(op==12)=false:=by simp [zy]
 by_cases E8:op=15
 ·have c:(op==15)=true:=by simp [E8]
  simp only [ae,vt,reduceCtorEq,h6,nv,kS,gO,gZ,JB,PG,c,aS,awm,ac];exact ax ⟨by simp [tN,E8,iO],rfl⟩
 have Zn:(op==15)=false:=by simp [E8]
 simp only [ae,vt,reduceCtorEq,h6,nv,kS,gO,gZ,JB,PG,Zn,aS,awm,ac];exact ax ⟨by simp [tN,c6,gV,kh,fU,r7,E7,zy,E8,iO],rfl⟩
def cM (cF rv rt acc:Int):Nat→b4→Option Int
 | 0,_=>none
 | d+1,.mk o n aQ=>
  if o=1 then some n else if o=2 then some cF else if o=3 then some rv else if o=4 then some rt else if o=5 then some acc
  else if o=14 then ((aQ[0]?).bind (cM cF rv rt acc d)).map fun a=>ma (-a)
  else if o=13 then ((aQ[0]?).bind (cM cF rv rt acc d)).bind fun a=>if a=0 then (aQ[2]?).bind (cM cF rv rt acc d) else (aQ[1]?).bind (cM cF rv rt acc d)
  else ((aQ[0]?).bind (cM cF rv rt acc d)).bind fun a=>((aQ[1]?).bind (cM cF rv rt acc d)).bind fun b=>tN o a b
def uK (d:Nat) (e:b4):Prop:=∃ room c,hA d room e=some c
theorem Zo {f:Nat→b4→Option Nat} {room:Nat}:∀ {m:Nat} {l:List b4} {c:Nat},jJ f room m l=some c→∀ k ∈ l,∃ q c,f q k=some c
 | m,[],c,h,k,hk=>by simp at hk
 | m,a::r,c,h,k,hk=>by
  unfold jJ at h;split at h
  ·rename_i d bf;rcases IN.1 hk with rfl | hk
   ·exact ⟨_,_,bf⟩
   ·exact Zo h k hk
  ·cases h
theorem uK.fits {d:Nat} {e:b4} (h:uK (d+1) e):l0 e=true∧∀ k ∈ e.aQ,uK d k:=by
 obtain ⟨room,c,h⟩:=h;unfold hA at h;split at h
 ·cases h
 ·rename_i aG;refine ⟨?_,fun k hk=>Zo h k hk⟩;cases av:l0 e<;>simp_all
theorem uK.zero {e:b4} (h:uK 0 e):False:=by
 obtain ⟨room,c,h⟩:=h;simp [hA] at h
theorem Tg {aQ:List b4} {k:Nat} {A:b4} (h:aQ[k]?=some A):∃ r,hG ds 64 (.ah aQ.length (aQ.flatMap aE)) (.int .i64 (k:Int))=some (.at (aE A++r)) :=
 Nr qv rfl h Y3
theorem Th {o n:Int} {aQ:List b4} (h:l0 (.mk o n aQ)=true):(aQ.length:Int)=dn.getD o.toNat 0∧1≤o∧o≤16:=by
 simp only [l0,VW,avY,decide_eq_true_eq] at h;exact ⟨h.2.1,h.1⟩
theorem D0 (cF rv rt acc:Int):∀ (d:Nat) (e:b4) (h:I),uK d e→nX ds 201 [.agg (aE e),.agg [.int .i64 cF,.int .i64 rv,.int .i64 rt],.int .i64 acc] h (iO (cM cF rv rt acc d e))
 | 0,e,h,aY=>aY.zero.elim
 | d+1,.mk o n aQ,h,aY=>by
  obtain ⟨eW,AQ⟩:=aY.fits;obtain ⟨hlen,l4,iH⟩:=Th eW;refine nX.of _ (anJ _) ?_;rw [nu];refine bV.au (c:=_) Tryz.func201 rfl (by kernel_rfl) (by simp) ?_
  have b9:∀ a b,J h ((h.push a).push b) none_:=fun a b=>(J.push _ _ _).bH _;by_cases h1:o=1
  ·have c:(o==1)=true:=by simp [h1]
   simp only [ae,vt,AS,By,nW,GJ,du,aW,c,aS,awn,ac];exact ax ⟨by simp [cM,h1,iO],b9 _ _⟩
  have bb:(o==1)=false:=by simp [h1]
  by_cases ad:o=2
  ·have c:(o==2)=true:=by simp [ad]
   simp only [ae,vt,AS,B4,nW,du,aW,bb,c,aS,awn,ac];exact ax ⟨by simp [cM,ad,iO],b9 _ _⟩
  have bt:(o==2)=false:=by simp [ad]
  by_cases aD:o=3
  ·have c:(o==3)=true:=by simp [aD]
   simp only [ae,vt,AS,By,Jh,nW,du,aW,bb,bt,c,aS,awn,ac];exact ax ⟨by simp [cM,aD,iO],b9 _ _⟩
  have c3:(o==3)=false:=by simp [aD]
  by_cases bn:o=4
  ·have c:(o==4)=true:=by simp [bn]
   simp only [ae,vt,AS,By,AG,nW,du,aW,bb,bt,c3,c,aS,awn,ac];exact ax ⟨by simp [cM,bn,iO],b9 _ _⟩
  have eP:(o==4)=false:=by simp [bn]
  by_cases bN:o=5
  ·have c:(o==5)=true:=by simp [bN]
   simp only [ae,vt,AS,nW,aW,bb,bt,c3,eP,c,aS,awn,ac];exact ax ⟨by simp [cM,bN,iO],b9 _ _⟩
  have c5:(o==5)=false:=by simp [bN]
  have kg:∀ (A:b4) (q:List V),cO (some (some 3)) (some (aE A++q))=some (.agg (aE A)):=fun A q=>lz (qv A);have two:∀ {A:Type} {l:List A} {k:Nat},k<l.length→∃ x,l[k]?=some x:=fun hk=>⟨_,ME hk⟩;have h5:0<aQ.length:=by
   have:(1:Int)≤dn.getD o.toNat 0:=by
    have:o.toNat=6∨o.toNat=7∨o.toNat=8∨o.toNat=9∨o.toNat=10∨o.toNat=11∨o.toNat=12∨o.toNat=13∨o.toNat=14∨o.toNat=15∨o.toNat=16:=by omega
    rcases this with q | q | q | q | q | q | q | q | q | q | q<;>rw [q]<;>decide
   omega
  obtain ⟨A,jD⟩:=two h5;obtain ⟨nY,PH⟩:=Tg jD;have ft:hG ds 64 (.ah aQ.length (aQ.flatMap aE)) (.int .i64 0)=some (.at (aE A++nY)):=PH;clear PH;have mb:=AQ A (avK jD);by_cases E9:o=14
  ·have c:(o==14)=true:=by simp [E9]
   have bk:cM cF rv rt acc (d+1) (.mk o n aQ)=(cM cF rv rt acc d A).map fun a=>ma (-a):=by simp [cM,E9,jD]
   generalize aQ.length=N at *;generalize aQ.flatMap aE=Zp at *;simp only [ae,vt,AS,nW,aW,bb,bt,c3,eP,c5,c];refine aZ.rZ [6] (by kernel_rfl) (by kernel_rfl) (by kernel_rfl) ?_
   simp only [ae,xJ,xI,xK,xL,nV,axh,avM,av0,av6,av7,vt,AS,By,rk,dG,sZ,fM,ft,kg];refine yY DN (D0 cF rv rt acc d A _ mb) (fun r h' ⟨aC,bd⟩=>?_) (fun h' ⟨aC,bd⟩=>?_)
   ·subst bd;obtain ⟨a,aP,rfl⟩:=avL.1 aC;simp only [ae,Gt,xJ,xI,xK,xL,nV,avM,av0,av6,av7,vt,AS,aS,awn,ac];exact ax ⟨by simp [bk,aP,iO,ma],b9 _ _⟩
   ·subst aC;simp only [ae,Ij,AS,yZ];have:cM cF rv rt acc d A=none:=by simpa [iO] using bd
    exact ax ⟨b9 _ _,by simp [bk,this,iO]⟩
  have PI:(o==14)=false:=by simp [E9]
  have ht:1<aQ.length:=by
   have:(2:Int)≤dn.getD o.toNat 0:=by
    have:o.toNat=6∨o.toNat=7∨o.toNat=8∨o.toNat=9∨o.toNat=10∨o.toNat=11∨o.toNat=12∨o.toNat=13∨o.toNat=15∨o.toNat=16:=by omega
    rcases this with q | q | q | q | q | q | q | q | q | q<;>rw [q]<;>decide
   omega
  obtain ⟨B,cr⟩:=two ht;obtain ⟨cZ,PJ⟩:=Tg cr;have cy:hG ds 64 (.ah aQ.length (aQ.flatMap aE)) (.int .i64 1)=some (.at (aE B++cZ)):=PJ;clear PJ;have okB:=AQ B (avK cr);by_cases Cd:o=13
  ·have c:(o==13)=true:=by simp [Cd]
   have mP:2<aQ.length:=by
    rw [Cd] at hlen;have:(aQ.length:Int)=3:=hlen;omega
   obtain ⟨C,zb⟩:=two mP;obtain ⟨dI,PK⟩:=Tg zb;have eN:hG ds 64 (.ah aQ.length (aQ.flatMap aE)) (.int .i64 2)=some (.at (aE C++dI)):=PK;clear PK;have Zq:=AQ C (avK zb);have bk:cM cF rv rt acc (d+1) (.mk o n aQ)=(cM cF rv rt acc d A).bind fun a=>if a=0 then cM cF rv rt acc d C else cM cF rv rt acc d B:=by simp [cM,Cd,jD,cr,zb]
   generalize aQ.length=N at *;generalize aQ.flatMap aE=Zp at *;simp only [ae,vt,AS,nW,aW,bb,bt,c3,eP,c5,PI,c];refine aZ.rZ [6] (by kernel_rfl) (by kernel_rfl) (by kernel_rfl) ?_
   simp only [ae,xJ,xI,xK,xL,nV,axh,avM,av0,av6,av7,vt,AS,By,rk,dG,sZ,fM,ft,kg];refine yY DN (D0 cF rv rt acc d A _ mb) (fun r h' ⟨aC,bd⟩=>?_) (fun h' ⟨aC,bd⟩=>?_)
   ·subst bd;obtain ⟨a,aP,rfl⟩:=avL.1 aC;by_cases zG:a=0
    ·have q:(a !=0)=false:=by simp [zG]
     simp only [ae,Gt,xJ,xI,xK,xL,nV,avM,av0,av6,av7,vt,AS,q];refine aZ.rZ [6] (by kernel_rfl) (by kernel_rfl) (by kernel_rfl) ?_
     simp only [ae,xJ,xI,xK,xL,nV,axh,avM,av0,av6,av7,vt,AS,By,rk,dG,sZ,fM,eN,kg];refine yY DN (D0 cF rv rt acc d C _ Zq) (fun r h' ⟨aC,bd⟩=>?_) (fun h' ⟨aC,bd⟩=>?_)
     ·subst bd;obtain ⟨b,al,rfl⟩:=avL.1 aC;simp only [ae,Gt,xJ,xI,xK,xL,nV,avM,av0,av6,av7,vt,AS,aS,awn,ac];exact ax ⟨by simp [bk,aP,zG,al,iO],b9 _ _⟩
     ·subst aC;simp only [ae,Ij,AS,yZ];have:cM cF rv rt acc d C=none:=by simpa [iO] using bd
      exact ax ⟨b9 _ _,by simp [bk,aP,zG,this,iO]⟩
    ·have q:(a !=0)=true:=by simp [zG]
     simp only [ae,Gt,xJ,xI,xK,xL,nV,avM,av0,av6,av7,vt,AS,q];refine aZ.rZ [6] (by kernel_rfl) (by kernel_rfl) (by kernel_rfl) ?_
     simp only [ae,xJ,xI,xK,xL,nV,axh,avM,av0,av6,av7,vt,AS,By,rk,dG,sZ,fM,cy,kg];refine yY DN (D0 cF rv rt acc d B _ okB) (fun r h' ⟨aC,bd⟩=>?_) (fun h' ⟨aC,bd⟩=>?_)
     ·subst bd;obtain ⟨b,al,rfl⟩:=avL.1 aC;simp only [ae,Gt,xJ,xI,xK,xL,nV,avM,av0,av6,av7,vt,AS,aS,awn,ac];exact ax ⟨by simp [bk,aP,zG,al,iO],b9 _ _⟩
     ·subst aC;simp only [ae,Ij,AS,yZ];have:cM cF rv rt acc d B=none:=by simpa [iO] using bd
      exact ax ⟨b9 _ _,by simp [bk,aP,zG,this,iO]⟩
   ·subst aC;simp only [ae,Ij,AS,yZ];have:cM cF rv rt acc d A=none:=by simpa [iO] using bd
    exact ax ⟨b9 _ _,by simp [bk,this,iO]⟩
  have Zr:(o==13)=false:=by simp [Cd]
  have bk:cM cF rv rt acc (d+1) (.mk o n aQ)=(cM cF rv rt acc d A).bind fun a=>(cM cF rv rt acc d B).bind fun b=>tN o a b:=by simp [cM,h1,ad,aD,bn,bN,E9,Cd,jD,cr]
  generalize aQ.length=N at *;generalize aQ.flatMap aE=Zp at *;simp only [ae,vt,AS,nW,aW,bb,bt,c3,eP,c5,PI,Zr];refine aZ.rZ [6] (by kernel_rfl) (by kernel_rfl) (by kernel_rfl) ?_
  simp only [ae,xJ,xI,xK,xL,nV,axh,avM,av0,av6,av7,vt,AS,By,rk,dG,sZ,fM,ft,kg];refine yY DN (D0 cF rv rt acc d A _ mb) (fun r h' ⟨aC,bd⟩=>?_) (fun h' ⟨aC,bd⟩=>?_)
  ·subst bd;obtain ⟨a,aP,rfl⟩:=avL.1 aC;simp only [ae,Gt,xJ,xI,xK,xL,nV,avM,av0,av6,av7,vt,AS];refine aZ.bB none_ [9,10] (.q 0 (.q 1 (.q 2 (.q 3 (.q 4 (.q 5 (.q 6 (.q 7 (.q 8 (.e 9 (.a 10 (.q 11 .done)) .stop)))))))))) (by kernel_rfl) (by kernel_rfl) (by kernel_rfl) ?_
   simp only [ae,bM,vt,AS,By,nW,rk,aW,dG,sZ,fM,cy,kg];refine yY DN (D0 cF rv rt acc d B _ okB) (fun r h' ⟨aC,bd⟩=>?_) (fun h' ⟨aC,bd⟩=>?_)
   ·subst bd;obtain ⟨b,al,rfl⟩:=avL.1 aC;simp only [ae,bM,vt];refine yY alX (anK o a b _) (fun r h' ⟨aC,bd⟩=>?_) (fun h' ⟨aC,bd⟩=>?_)
    ·subst bd;obtain ⟨c,ay,rfl⟩:=avL.1 aC;simp only [ae,bM,vt,aS,awn,ac];exact ax ⟨by simp [bk,aP,al,ay,iO],b9 _ _⟩
    ·subst aC;simp only [ae,bM,yZ];have:tN o a b=none:=by simpa [iO] using bd
     exact fun _=>ax ⟨b9 _ _,by simp [bk,aP,al,this,iO]⟩
   ·subst aC;simp only [ae,bM,yZ];have:cM cF rv rt acc d B=none:=by simpa [iO] using bd
    exact fun _=>ax ⟨b9 _ _,by simp [bk,aP,this,iO]⟩
  ·subst aC;simp only [ae,Ij,AS,yZ];have:cM cF rv rt acc d A=none:=by simpa [iO] using bd
   exact ax ⟨b9 _ _,by simp [bk,this,iO]⟩
theorem anL (p q:Value) (w:World):CallsD ds 200 #[p,q] .returning w fun e tz w'=>e=.returned (.tuple #[])∧tz=.returning∧w'=w:=by
 refine callsD_of_wpS aAR rfl fun c₀ cs hu=>?_;apply wpS_seq;apply wpS_region;simp [wpOpsS,go_sem,recoverD,hu,aAS,Exit.thenS];refine wpS_cond (t:=false) (by simp [Act.eval,awb]) ?_
 simp only [Bool.false_eq_true,if_false];refine wpS_of_wp (wp_skip ?_);cases c₀
 simp_all [bodyPostS,results,aAT]
theorem anM {h:I} {gq gU:V} {R:I→Prop} (eC:R h):Xf ds 200 [gq,gU] h R:=by
 intro ρ B aJ w args' hw aP;obtain ⟨p,t1,aC,aU,zD⟩:=aP.dB;obtain ⟨q,t2,rfl,ab,BW⟩:=zD.dB;have:=BW.eq_nil;subst this;obtain rfl:args'=#[p,q]:=avE (by simpa using aC)
 exact (anL p q w).mono fun e tz w' ⟨h1,ad,aD⟩=>⟨h1,ad,ρ,h,aD ▸ hw,Ren.le.refl ρ,eC⟩
theorem anN {h:I} {i j:Nat} {a b:Int} (hi:h.get i=.cells [.int .i64 a] 2 none) (aV:h.get j=.cells [.int .i64 b] 37 none) (j9:i≠j) {R:I→Prop}
  (eC:R ((h.set i (.cells [.int .i64 0] 2 none)).set j (.cells [.int .i64 10] 37 none))):Xg ds 200 [.ptr i 0,.ptr j 0] h R:=by
 intro ρ B aJ w args' xR cv hw aP;obtain ⟨p,t1,aC,aU,zD⟩:=aP.dB;obtain ⟨q,t2,rfl,ab,BW⟩:=zD.dB;have:=BW.eq_nil;subst this;obtain rfl:args'=#[p,q]:=avE (by simpa using aC)
 refine callsD_of_wpS aAR rfl fun c₀ cs hu=>?_;apply wpS_seq;apply wpS_region;simp [wpOpsS,go_sem,recoverD,hu,aAS,Exit.thenS];refine wpS_cond (t:=true) (by simp [Act.eval,awb]) ?_
 simp only [if_true];refine wpS_of_wp ?_;refine wp_mono (Q:=lq 4 B aJ { ρ with dfr:=[] } (fun x f ad=>x=.normal∧ad=(h.set i (.cells [.int .i64 0] 2 none)).set j (.cells [.int .i64 10] 37 none)))
  ((show aZ ds 4 _ _ (fun k=>if k=0 then .ptr i 0 else if k=1 then .ptr j 0 else .top) h from ee (by kernel_rfl) ?_) { ρ with dfr:=[] } B aJ _ w (hw.dfr []) ⟨fun k=>?_,rfl,rfl⟩) ?_
 ·have jj:(h.set i (.cells [.int .i64 0] 2 none)).get j=.cells [.int .i64 b] 37 none:=by rw [np (Ne.symm j9)];exact aV
  simp only [ae,reduceCtorEq,r5,Tc,hi,jj]
 ·match k with
  | 0=>exact aU.dfr []
  | 1=>exact ab.dfr []
  | n+2=>exact .top _
 ·rintro e ig w' ⟨ρ',z,f,ad,aj,bX,b8,aw,rfl,rfl⟩
  cases e<;>simp only [ql] at aj;refine ⟨b8.defers.trans aw.dfr,_,rfl,.tuple #[],by simp [results,aAT],rfl,rfl,_,_,bX.dfr ρ.dfr,aw.qi,eC⟩
theorem Zs (e:b4) (cF rv rt acc:Int) (h:I) (az:gN h) :
  Pure ds 175 [.agg (aE e),.agg [.int .i64 cF,.int .i64 rv,.int .i64 rt],.int .i64 acc] h
   (if c1 e then (match cM cF rv rt acc 16 e with | some n=>.tuple [.int .i64 n,.int .i64 0] | none=>.tuple [.int .i64 0,.int .i64 10]) else .tuple [.int .i64 0,.int .i64 1]):=by
 refine Pure.val (by split<;>(try split)<;>exact a7.tuple (a1.cons (a7.int _ _) (a1.cons (a7.int _ _) a1.nil))) ?_
 have ay:(V.agg (aE e)).cells=some (aE e):=rfl;have p1:cP (aO.cells (aE e) 66 none) 0=some (aE e):=by cases e;rfl
 have k4:cO (some (some 3)) (some (aE e))=some (.agg (aE e)):=by cases e;rfl
 obtain ⟨H,hH⟩:∃ x,x=(((h.push (.cells (aE e) 66 none)).push (.cells [.int .i64 cF,.int .i64 rv,.int .i64 rt] 45 none)).push (.cells [.int .i64 0] 2 none)).push (.cells [.int .i64 0] 37 none):=⟨_,rfl⟩;have g3:H.get h.n=.cells (aE e) 66 none:=by rw [hH];simp [y2,dq];rw [if_neg (by omega),if_neg (by omega)]
 have g4:H.get (h.n+1)=.cells [.int .i64 cF,.int .i64 rv,.int .i64 rt] 45 none:=by rw [hH];simp [y2,dq]
 have g6:H.get (h.n+1+1)=.cells [.int .i64 0] 2 none:=by rw [hH];simp [y2,dq]
 have g7:H.get (h.n+1+1+1)=.cells [.int .i64 0] 37 none:=by rw [hH];simp [y2,dq]
 have bw:J h H none_:=by rw [hH];exact (((J.push _ _ _).bH _).bH _).bH _
 have r8:gN H:=by unfold gN;rw [bw.glob];exact az
 have cY:∀ a b,J h ((H.set (h.n+1+1) a).set (h.n+1+1+1) b) none_:=fun a b=>by
  refine ⟨by rw [lW,lW];exact bw.n,fun i hi _=>?_,by rw [WG,WG];exact bw.glob⟩
  rw [np (by omega),np (by omega)]
  exact bw.get i hi (by simp [none_])
 have PL:∀ a,(H.set (h.n+1+1) a).get (h.n+1+1+1)=.cells [.int .i64 0] 37 none:=fun a=>by rw [np (by omega)];exact g7
 have JC:∀ a b,((H.set (h.n+1+1) a).set (h.n+1+1+1) b).get (h.n+1+1)=a:=fun a b=>by rw [np (by omega),aT]
 refine af.IH (A:=_) (A2:=_) (C:=_) (M:=fun f h'=>c1 e=true∧f 2=.int .i64 acc∧f 3=.ptr h.n 0∧f 4=.ptr (h.n+1) 0∧f 6=.ptr (h.n+1+1) 0∧f 7=.ptr (h.n+1+1+1) 0∧h'=H)
  (KR:=fun gq gU f h'=>∃ n,cM cF rv rt acc 16 e=some n∧c1 e=true∧f 6=.ptr (h.n+1+1) 0∧f 7=.ptr (h.n+1+1+1) 0∧h'=(H.set (h.n+1+1) (.cells [.int .i64 n] 2 none)).set (h.n+1+1+1) (.cells [.int .i64 0] 37 none))
  (KP:=fun gq gU f h'=>cM cF rv rt acc 16 e=none∧c1 e=true∧gq=.ptr (h.n+1+1) 0∧gU=.ptr (h.n+1+1+1) 0∧f 6=.ptr (h.n+1+1) 0∧f 7=.ptr (h.n+1+1+1) 0∧h'=H)
  Tryz.func175 rfl (by decide) alS (by simp) ?_ ?_ ?_ ?_
 ·refine ee (by kernel_rfl) ?_
  simp only [ae,vt,S7,ans,ay];rw [←hH];refine ee (by kernel_rfl) ?_
  simp only [ae,vt,fM,g3,p1,k4];refine bW Sp (DZ e H r8) ?_;cases hm:c1 e with
  | false=>
   simp only [ae,vt,reduceCtorEq,du,SV,r5,Tc,g6,PL,BV,ayG,iy,fB,ix,JC];exact .inl (cY _ _)
  | true=>
   simp only [ae,vt,reduceCtorEq];refine .inr ?_
   trivial
 ·rintro f h' ⟨hm,f2,f3,f4,f6,f7,rfl⟩
  refine ee (by kernel_rfl) ?_
  have aY:uK 16 e:=by
   unfold c1 at hm;obtain ⟨c,ay⟩:=Option.isSome_iff_exists.1 hm;exact ⟨64,c,ay⟩
  simp only [ae,vt,AS,dG,fM,f2,f3,f4,g3,g4,p1,k4];refine yY DN (D0 cF rv rt acc 16 e h' aY) (fun r ad ⟨aC,bd⟩=>?_) (fun ad ⟨aC,bd⟩=>?_)
  ·subst bd;obtain ⟨n,aG,rfl⟩:=avL.1 aC;simp only [ae,vt,reduceCtorEq,r5,Tc,f6,f7,g6,PL];exact .inl ⟨.inl trivial,n,aG,hm,rfl⟩
  ·subst aC;have:cM cF rv rt acc 16 e=none:=by simpa [iO] using bd
   simp only [ae,vt,reduceCtorEq,f6,f7];exact .inr ⟨this,hm⟩
 ·rintro gq gU f h' ⟨n,aG,hm,f6,f7,rfl⟩
  refine anM ?_;simp only [ae,du,SV,BV,ayG,iy,fB,ix,f6,f7,JC];exact ⟨by simp [hm,aG],cY _ _⟩
 ·rintro gq gU f h' ⟨aG,hm,rfl,rfl,f6,f7,rfl⟩
  refine anN g6 g7 (by omega) ?_
  simp only [ae,du,SV,BV,ayG,iy,fB,ix,f6,f7,JC];exact ⟨by simp [hm,aG],cY _ _⟩
theorem aA.agg {l ez:List V} {h ad:I} (a:aq l h ez ad):aA (.agg l) h (.agg ez) ad:=fun ρ B aJ w c0 hw aH=>by
 cases aH with
 | agg aa aj=>
  rename_i xs;obtain ⟨ρ1,hc,cV,v1⟩:=a ρ B aJ w xs.toList hw ⟨by simpa using aa,by simpa using aj⟩
  exact ⟨ρ1,hc,cV,v1.jz.agg⟩
theorem anO (o n:Int) (h:I):aA (.agg [.int .i64 o,.int .i64 n,.ag]) h (.agg (aE (.mk o n []))) h:=by
 rw [nu];exact Pk.aA.agg (aq.skip (aq.skip (aq.last (aA.hL h))))
theorem Zt {h:I} {v:V} {aQ:List b4} (o n:Int) (aN:Own h 66 3 v (aQ.flatMap aE)):∃ ad,aA (.agg [.int .i64 o,.int .i64 n,v]) h (.agg (aE (.mk o n aQ))) ad∧J h ad (a6 v):=by
 obtain ⟨ad,c,k⟩:=aA.own (n:=aQ.length) aN (gM qv aQ) (by decide)
 refine ⟨ad,?_,k⟩;rw [nu];exact Pk.aA.agg (aq.cons (aA.refl _ _) (aq.cons (aA.refl _ _) (aq.cons c (aq.refl _ _))))
theorem gN.ai {h h':I} {M:Nat→Prop} (az:gN h) (hk:J h h' M):gN h':=by unfold gN;rw [hk.glob];exact az
theorem gN.or {h aa h':I} {M:Nat→Prop} (az:gN aa) (q0:gN h) (hk:J aa h' M∨h'=h):gN h':=by
 rcases hk with hk | rfl
 ·exact az.ai hk
 ·exact q0
inductive h7:b4→Prop
 | mk (o n:Int) (l:List b4) (aw:l.length<2 ^ 47) (h:∀ k ∈ l,h7 k) (aN:-2 ^ 63≤o∧o<2 ^ 63) (aG:-2 ^ 63≤n∧n<2 ^ 63):h7 (.mk o n l)
theorem h7.len {e:b4} (h:h7 e):e.aQ.length<2 ^ 47:=by cases h;assumption
theorem h7.Fa {e:b4} (h:h7 e):∀ k ∈ e.aQ,h7 k:=by cases h;assumption
mutual
def e0:b4→Nat
 | .mk _ _ l=>e1 l+1
def e1:List b4→Nat
 | []=>0
 | k::r=>e0 k+e1 r
end
theorem anP {l:List b4} {i:Nat} (hi:i<l.length):e1 (l.take (i+1))=e1 (l.take i)+e0 l[i]:=by
 induction l generalizing i with
 | nil=>simp at hi
 | cons a r ih=>
  cases i with
  | zero=>simp [e1]
  | succ i=>simp only [aw2,e1,List.getElem_cons_succ];rw [ih (by simpa using hi)];omega
theorem Zu {e:b4}:∀ k ∈ e.aQ,e0 k<e0 e:=by
 obtain ⟨o,n,l⟩:=e;have:∀ (l:List b4) (k:b4),k ∈ l→e0 k≤e1 l:=fun l=>by
  induction l with
  | nil=>intro k hk;simp at hk
  | cons a r ih=>
   intro k hk;rcases IN.1 hk with rfl | hk
   ·simp [e1]
   ·have:=ih k hk;simp only [e1];omega
 intro k hk;have:=this l k hk;simp only [e0];omega
mutual
def r9 (op:Int):b4→Bool
 | .mk o _ l=>o==op||sa op l
def sa (op:Int):List b4→Bool
 | []=>false
 | k::r=>r9 op k||sa op r
end
def x1 (o:Int):Int:=if o≤5 then 0 else if o=14 then 1 else if o=13 then 3 else 2
theorem Ti {o:Int} (h1:1≤o) (ad:o≤16):dn.getD o.toNat 0=x1 o:=by
 obtain ⟨k,rfl⟩:∃ k:Nat,o=k:=⟨o.toNat,by omega⟩
 have hk:k<17:=by omega
 simp only [avc];have:∀ k:Nat,k<17→1≤k→dn.getD k 0=x1 (k:Int):=by decide
 exact this k hk (by omega)
def rp:Nat→b4→Bool
 | 0,_=>false
 | n+1,e=>l0 e&&e.aQ.all (rp n)
theorem anQ (e:b4):1≤e0 e:=by cases e;simp [e0]
theorem ws:∀ (l room:Nat) (e:b4),hA l room e=if rp l e=true∧e0 e≤room then some (e0 e) else none
 | 0,room,e=>by simp [hA,rp]
 | l+1,room,.mk o n aQ=>by
  have gH:∀ (aQ:List b4) (m:Nat),1≤m→jJ (hA l) room m aQ=if aQ.all (rp l)=true∧m+e1 aQ≤room∨aQ=[] then some (m+e1 aQ) else none:=by
   intro aQ
   induction aQ with
   | nil=>intro m hm;simp [jJ,e1]
   | cons k r ih=>
    intro m hm;have aU:=anQ k;unfold jJ;rw [ws l (room - m) k];by_cases bf:rp l k=true
    ·by_cases aa:e0 k≤room - m
     ·rw [if_pos ⟨bf,aa⟩];simp only;rw [ih _ (by omega)]
      cases r with
      | nil=>simp [e1,bf];omega
      | cons a r=>
       simp only [awO,bf,avR,e1,reduceCtorEq,or_false];by_cases ab:(rp l a&&r.all (rp l))=true∧m+e0 k+(e0 a+e1 r)≤room
       ·rw [if_pos ab,if_pos ⟨ab.1,by omega⟩];congr 1;omega
       ·rw [if_neg ab,if_neg (fun U=>ab ⟨U.1,by omega⟩)]
     ·rw [if_neg (fun U=>aa U.2)];simp only [awO,e1,reduceCtorEq,or_false];rw [if_neg (fun U=>by omega)]
    ·rw [if_neg (fun U=>bf U.1)];simp only [awO,reduceCtorEq,or_false];rw [if_neg (fun U=>by simp [bf] at U)]
  have uL:rp (l+1) (.mk o n aQ)=(l0 (.mk o n aQ)&&aQ.all (rp l)):=rfl;have bo:e0 (.mk o n aQ)=e1 aQ+1:=by simp [e0]
  have Tj:hA (l+1) room (.mk o n aQ)=if room=0∨l0 (.mk o n aQ)=false then none else jJ (hA l) room 1 aQ:=rfl
  rw [Tj];by_cases aK:room=0
  ·rw [if_pos (.inl aK),if_neg (fun U=>by omega)]
  ·cases av:l0 (.mk o n aQ) with
   | false=>rw [if_pos (.inr rfl),if_neg (fun U=>by rw [uL,av] at U;simp at U)]
   | true=>
    rw [if_neg (by simp [aK]),gH aQ 1 (BY _)]
    rw [av,avR] at uL;cases aQ with
    | nil=>rw [if_pos (.inr rfl),if_pos ⟨by rw [uL];rfl,by rw [bo];simp [e1];omega⟩,bo];rfl
    | cons a r=>
     by_cases ab:(a::r).all (rp l)=true∧1+e1 (a::r)≤room
     ·rw [if_pos (.inl ab),if_pos ⟨by rw [uL];exact ab.1,by rw [bo];omega⟩,bo];congr 1;omega
     ·rw [if_neg (by simp only [reduceCtorEq,or_false];exact ab),if_neg (fun U=>ab ⟨by rw [←uL];exact U.1,by rw [bo] at U;omega⟩)]
def e9 (l:List Nat):List V:=l.map fun (n:Nat)=>V.int .u8 (n:Int)
theorem Zv (l:List Nat):(e9 l).all (·.one)=true:=by
 rw [List.all_eq_true];intro x aj;obtain ⟨n,_,rfl⟩:=List.mem_map.1 aj;rfl
theorem Tk (a b:List Nat):e9 (a++b)=e9 a++e9 b:=by simp [e9]
theorem p2 (a:List Nat):(e9 a).length=a.length:=by simp [e9]
theorem Ce (a:List Nat):a1 (e9 a):=a1.map fun _ _=>a7.int _ _
def enc (n:Nat):List Nat:=if n<128 then [n] else (n % 128+128)::enc (n / 128)
termination_by n
theorem GU {n:Nat} (h:n<128):enc n=[n]:=by rw [enc,if_pos h]
theorem JD {n:Nat} (h:¬n<128):enc n=(n % 128+128)::enc (n / 128):=by rw [enc,if_neg h]
theorem anR (k:Nat):∀ n,n<128 ^ (k+1)→1≤(enc n).length∧(enc n).length≤k+1:=by
 induction k with
 | zero=>intro n h;rw [GU (by simpa using h)];simp
 | succ k ih=>
  intro n h;by_cases aG:n<128
  ·rw [GU aG];simp
  ·rw [JD aG];have:=ih (n / 128) (by rw [Nat.pow_succ] at h;exact Nat.div_lt_of_lt_mul (by rw [awU];exact h))
   simp;omega
theorem p3 (n:Nat) (h:n<2 ^ 64):1≤(enc n).length∧(enc n).length≤10:=by
 have:(2:Nat) ^ 64<128 ^ 10:=by decide
 exact anR 9 n (by omega)
theorem anS (n:Nat):uv .u8 (IntKind.u8.wrap (n:Int)) 128=((n % 128+128:Nat):Int):=by
 rw [IntKind.wrap_u8];unfold uv;rw [IntKind.wrap_u8];have aC:BitVec.ofInt IntKind.u8.bits ((n:Int) % 256)=BitVec.ofNat 8 (n % 256):=by
  apply BitVec.eq_of_toNat_eq;simp [IntKind.bits];omega
 rw [aC];have h:∀ m:Fin 256,((BitVec.ofNat 8 m.val ||| BitVec.ofInt 8 128).toNat:Int) % 256=((m.val % 128+128:Nat):Int):=by decide +kernel
 have:=h ⟨n % 256,aw6 _ (by decide)⟩
 have bd:((n % 256 % 128+128:Nat):Int)=((n % 128+128:Nat):Int):=by omega
 exact this.trans bd
theorem Tl (n:Nat):(n:Int).fdiv (2 ^ (min (avn 7) IntKind.u64.bits))=((n / 128:Nat):Int):=by
 have:(2 ^ (min (avn 7) IntKind.u64.bits):Int)=128:=by decide
 rw [this,axi _ (by omega)]
 rfl
theorem anT (n:Nat) (h:n<128):IntKind.u8.wrap (n:Int)=(n:Int):=by rw [IntKind.wrap_u8];omega
theorem Zw (h:I) (a:Int):ie ds 26 1 [(0,.int .u8 a)] h=some (.bj h.n 0 1 1,h.push (.cells [.int .u8 a] 5 none)):=by rw [lY Jt];rfl
theorem Tm (s:V) (cs:List Nat) (n:Nat) (h:I) (aN:Own h 5 1 s (e9 cs)) (ay:cs.length≤2 ^ 46) (aG:n<2 ^ 64) :
  af ds 101 [s,.int .u64 n] h (fun r h'=>Own h' 5 1 r (e9 (cs++enc n))∧J h h' (a6 s)∧dm h s r):=by
 refine af.au (c:=_) Tryz.func101 rfl (by kernel_rfl) (by simp) ?_
 simp only [ae];refine aZ.bQ (α:=V×List Nat×Nat) (fun x f h'=>f 0=x.1∧f 1=.int .u64 (x.2.2:Nat)∧Own h' 5 1 x.1 (e9 x.2.1)∧J h h' (a6 s)∧dm h s x.1∧x.2.1++enc x.2.2=cs++enc n∧x.2.2<2 ^ 64) (fun x=>x.2.2) (s,cs,n)
  ⟨rfl,rfl,aN,J.refl _ _,.inl rfl,rfl,aG⟩ ?_
 rintro ⟨cJ,cs',rH⟩ f h1 ⟨f0,f1,gY,hk,dk,dX,mL⟩
 simp only at f0 f1 gY dk dX mL;refine ee (by kernel_rfl) ?_
 have hlen:cs'.length+1≤cs.length+10:=by
  have h1:=congrArg List.length dX;have ad:=p3 n aG;have aD:=p3 rH mL;simp at h1;omega
 have next:∀ (v:V) (ad:I),J h1 ad (a6 cJ)→dm h1 cJ v→J h ad (a6 s)∧dm h s v:=fun v ad ba d2=>by
  refine ⟨hk.trans ba fun k hv rV=>?_,?_⟩
  ·rcases dk with dk | dk
   ·unfold a6 at rV⊢;rw [←dk];exact rV
   ·have:=dk k rV;omega
  ·rcases d2 with d2 | d2
   ·rcases dk with dk | dk
    ·exact .inl (d2.trans dk)
    ·exact .inr fun k hv=>dk k (by rw [←d2];exact hv)
   ·exact .inr fun k hv=>OF hk.n (d2 k hv)
 by_cases aM:128≤rH
 ·have bb:decide ((128:Int)≤(rH:Int))=true:=by simp;omega
  obtain ⟨v,ad,cX,dT,e8,jt⟩:=M3 (P:=ds) Jt (by decide) gY (xs:=[.int .u8 ((rH % 128+128:Nat):Int)]) rfl rfl (by simp [p2,lim];omega) (by simp [p2,lim];omega)
  obtain ⟨ba,d2⟩:=next v ad e8 jt;simp only [ae,vt,reduceCtorEq,f0,f1,bb,mq ns mv,anS,Zw,cX,M0 (show (0:Int)≤7 by decide),Tl]
  refine ax ⟨(v,cs'++[rH % 128+128],rH / 128),⟨rfl,rfl,?_,ba,d2,?_,by simp only;omega⟩,by simp;omega⟩
  ·rw [Tk];exact dT
  ·simp only;rw [←dX,JD (n:=rH) (by omega)]
   simp
 ·have bb:decide ((128:Int)≤(rH:Int))=false:=by simp;omega
  obtain ⟨v,ad,cX,dT,e8,jt⟩:=M3 (P:=ds) Jt (by decide) gY (xs:=[.int .u8 (rH:Int)]) rfl rfl (by simp [p2,lim];omega) (by simp [p2,lim];omega)
  obtain ⟨ba,d2⟩:=next v ad e8 jt;simp only [ae,vt,reduceCtorEq,f0,f1,bb,mq ns mv,anT rH (by omega),Zw,cX,aS,Tryz.results101,ac]
  refine ax ⟨?_,ba,d2⟩;rw [←dX,GU (by omega),Tk]
  exact dT
structure Rd (h:I) (s:V) (cs:List Nat):Prop where
 len:∀ h',J h h' none_→dS ds 26 s h'=some (.int .i64 cs.length)
 lenOf:i4 s=some cs.length
 first:∀ h',J h h' none_→tA 1 cs.length s h'=some (e9 cs)
 src:∀ h',J h h' none_→fI ds 1 26 s h'=some (cs.length,e9 cs)
theorem Rd.ag (h:I):Rd h .ag []:=⟨fun _ _=>xC r3,rfl,fun _ _=>rfl,fun _ _=>by
 obtain ⟨d,hu,bf⟩:=BI r3;cases d<;>simp [vy] at bf;simp [fI,hu,e9]⟩
theorem Rd.ah (h:I) (cs:List Nat):Rd h (.ah cs.length (e9 cs)) cs:=⟨fun _ _=>Ww r3,rfl,fun h' _=>by
 simp only [tA,p2,VU,BY,and_self,if_true];rw [List.take_of_length_le (by rw [p2];exact BY _)],fun h' _=>Ia r3 (by rw [p2,VU]) (Zv cs)⟩
theorem Rd.ai {h h':I} {s:V} {cs:List Nat} (rd:Rd h s cs) (k:J h h' none_):Rd h' s cs :=
 ⟨fun ad ba=>rd.len ad (k.trans' ba),rd.lenOf,fun ad ba=>rd.first ad (k.trans' ba),fun ad ba=>rd.src ad (k.trans' ba)⟩
theorem fresh (s:V) (cs:List Nat) (m:Nat) (h:I) (rd:Rd h s cs) (ay:cs.length+m≤2 ^ 47) :
  af ds 102 [s,.int .i64 m] h (fun r h'=>r=.bj h.n 0 cs.length (cs.length+m)∧Own h' 5 1 r (e9 cs)∧J h h' none_):=by
 refine af.au (c:=_) Tryz.func102 rfl (by kernel_rfl) (by simp) ?_
 have hw:IntKind.i64.wrap ((cs.length:Int)+(m:Int))=((cs.length+m:Nat):Int):=by rw [Go.IntWalk.i64_in _ (by omega)];omega
 obtain ⟨h1,ad,cX,dT,e8,jt,tO⟩:=ajX (P:=ds) (tx:=26) (k:=.i64) (k':=.i64) (h:=h) (c:=cs.length+m) Jt rd.lenOf rd.first (Zv cs) (by simp [p2]) (by omega) (by simp only;omega) (by omega)
 simp only [ae,vt,reduceCtorEq,rd.len h (J.refl _ _),hw,cX,dT,aS,Tryz.results102,ac];exact ax ⟨rfl,e8,tO⟩
theorem Tn (s:V) (cs:List Nat) (n:Nat) (h:I) (rd:Rd h s cs) (ay:cs.length≤2 ^ 46) (aG:n<2 ^ 64) :
  af ds 60 [s,.int .u64 n] h (fun r h'=>Own h' 5 1 r (e9 (cs++enc n))∧J h h' none_∧∀ k,a8 r=some k→h.n≤k):=by
 refine af.au (c:=_) Tryz.func60 rfl (by kernel_rfl) (by simp) ?_
 simp only [ae,vt,reduceCtorEq];refine cB Gz (fresh s cs 10 h rd (by omega)) fun cZ h1 ⟨aC,gT,bJ⟩=>?_
 have d1:∀ k,a8 cZ=some k→h.n≤k:=fun k hk=>by subst aC;simp [a8] at hk;omega
 simp only [ae,vt];refine cB Jd (Tm cZ cs n h1 gT ay aG) fun dI ad ⟨dZ,ba,d2⟩=>?_;simp only [ae,vt,aS,Tryz.results60,ac];refine ax ⟨dZ,bJ.trans ba fun k hk hi=>?_,fun k hk=>?_⟩
 ·have:=d1 k hi;omega
 ·rcases d2 with d2 | d2
  ·exact d1 k (d2 ▸ hk)
  ·exact OF bJ.n (d2 k hk)
theorem N4 (s:V) (cs:List Nat) (n:Nat) (h:I) (rd:Rd h s cs) (ay:cs.length≤2 ^ 46) (aG:n<2 ^ 64) :
  Pure ds 60 [s,.int .u64 n] h (.ah (cs++enc n).length (e9 (cs++enc n))):=by
 refine Pure.of (a7.ah (Ce _)) ((Tn s cs n h rd ay aG).mono fun r h' ⟨o,k,d⟩=>?_);obtain ⟨ad,c,ba⟩:=aA.own o (n:=(cs++enc n).length) (by simp [p2]) (by omega)
 exact ⟨ad,c,k.trans ba fun j aV aa=>by have:=d j aa;omega⟩
theorem Zx (s:V) (cs:List Nat) (m:Nat) (h:I) (rd:Rd h s cs) (ay:cs.length+m≤2 ^ 47) :
  Pure ds 102 [s,.int .i64 m] h (.ah cs.length (e9 cs)):=by
 refine Pure.of (a7.ah (Ce _)) ((fresh s cs m h rd ay).mono fun r h' ⟨e,o,k⟩=>?_);obtain ⟨ad,c,ba⟩:=aA.own o (n:=cs.length) (by simp [p2]) (by omega)
 refine ⟨ad,c,k.trans ba fun j aV aa=>?_⟩;subst e;simp [a6,a8] at aa;omega
def dA (h:I) (p:V) (i:Nat) (cs:List Nat):Prop:=p=.ptr i 0∧i<h.n∧h.get i=.cells [.ah cs.length (e9 cs)] 198 none
theorem JE (s:V) (cs:List Nat) (h:I) (rd:Rd h s cs) (ay:cs.length≤2 ^ 47) :
  af ds 65 [s] h (fun r h'=>r=.ptr h.n 0∧dA h' r h.n cs∧J h h' none_):=by
 refine af.au (c:=_) Tryz.func65 rfl (by kernel_rfl) (by simp) ?_
 simp only [ae,vt,reduceCtorEq];refine bW Gz (Zx s cs 0 h rd (by omega)) ?_
 simp only [ae,vt,YT,Y7,aS,Tryz.results65,ac];exact ax ⟨rfl,⟨rfl,by rw [dq];omega,ck⟩,J.push _ _ _⟩
theorem rest (h:I) (p:V) (i:Nat) (cs:List Nat) (aL:dA h p i cs):Pure ds 108 [p] h (.ah cs.length (e9 cs)):=by
 obtain ⟨rfl,hi,az⟩:=aL;refine af.au (c:=_) Tryz.func108 rfl (by kernel_rfl) (by simp) ?_
 simp only [ae,vt,reduceCtorEq,Jg,amM,Jp,az,aS,Tryz.results108,ac];exact ax ⟨rfl,rfl⟩
theorem Left (h:I) (p:V) (i:Nat) (cs:List Nat) (aL:dA h p i cs):Pure ds 67 [p] h (.int .i64 cs.length):=by
 refine af.au (c:=_) Tryz.func67 rfl (by kernel_rfl) (by simp) ?_
 simp only [ae,vt,reduceCtorEq];refine bW ww (rest h p i cs aL) ?_;simp only [ae,vt,r3,aS,Tryz.results67,ac];exact ax ⟨rfl,rfl⟩
theorem D1 (w n:Nat):BitVec.ofInt w (n:Int)=BitVec.ofNat w n:=by
 apply BitVec.eq_of_toNat_eq;simp
theorem anU (a b k:Nat) (al:b<2 ^ k) (hk:k≤64) (aP:a * 2 ^ k<2 ^ 64):uv .u64 (b:Int) ((a * 2 ^ k:Nat):Int)=((a * 2 ^ k+b:Nat):Int):=by
 have aM:a * 2 ^ k+b<2 ^ 64:=by
  have e:(2:Nat) ^ 64=2 ^ (64 - k) * 2 ^ k:=by rw [←axj];congr 1;omega
  rw [e] at aP⊢;have h1:a<2 ^ (64 - k):=aAU aP
  calc a * 2 ^ k+b<a * 2 ^ k+2 ^ k:=by omega
   _=(a+1) * 2 ^ k:=by rw [atY];simp
   _≤_:=avo _ h1
 unfold uv;rw [D1,D1];have aC:(BitVec.ofNat IntKind.u64.bits b ||| BitVec.ofNat IntKind.u64.bits (a * 2 ^ k)).toNat=a * 2 ^ k+b:=by
  rw [BitVec.toNat_or];simp only [BitVec.toNat_ofNat,IntKind.bits];rw [avS (by omega),avS aP]
  have:=Nat.shiftLeft_add_eq_or_of_lt al a;rw [Nat.shiftLeft_eq] at this;rw [this,Nat.or_comm]
 rw [aC,IntKind.wrap_u64];omega
theorem To (g:Nat) (az:g<256):IntKind.u64.wrap (Gp .u8 (g:Int) 128)=((g % 128:Nat):Int):=by
 have h:∀ m:Fin 256,IntKind.u64.wrap (Gp .u8 (m.val:Int) 128)=((m.val % 128:Nat):Int):=by decide +kernel
 exact h ⟨g,az⟩
theorem Zy (g at_:Nat) (az:g % 128 * 2 ^ (7 * at_)<2 ^ 64) (aP:at_≤9):IntKind.u64.wrap (((g % 128:Nat):Int) * 2 ^ (min (IntKind.i64.wrap (7 * (at_:Int))).toNat IntKind.u64.bits))=((g % 128 * 2 ^ (7 * at_):Nat):Int):=by
 have e:(min (IntKind.i64.wrap (7 * (at_:Int))).toNat IntKind.u64.bits)=7 * at_:=by
  rw [IntKind.wrap_i64];have h1:((7 * (at_:Int)+9223372036854775808) % 18446744073709551616 - 9223372036854775808)=((7 * at_:Nat):Int):=by omega
  rw [h1,avc];simp only [IntKind.bits];omega
 rw [e,IntKind.wrap_u64];have:(((g % 128:Nat):Int) * 2 ^ (7 * at_))=((g % 128 * 2 ^ (7 * at_):Nat):Int):=by push_cast;rfl
 rw [this];omega
theorem Zz (g at_:Nat) (zH:at_≤9) (tP:¬(at_=9∧1<g)) (az:g<256):g % 128 * 2 ^ (7 * at_)<2 ^ 64:=by
 by_cases kh:at_≤8
 ·have h1:(2:Nat) ^ (7 * at_)≤2 ^ 56:=Nat.pow_le_pow_right (by decide) (by omega)
  have ad:g % 128<128:=aw6 _ (by decide)
  have aD:g % 128 * 2 ^ (7 * at_)≤127 * 2 ^ 56:=Nat.mul_le_mul (by omega) h1
  exact ayI aD (by decide)
 ·have:at_=9:=by omega
  subst this;have:g % 128≤1:=by omega
  exact ayI (avo _ this) (by decide)
theorem ZA (g n at_:Nat) (aG:n<2 ^ (7 * at_)) (zH:at_≤9) (Fb:g % 128 * 2 ^ (7 * at_)<2 ^ 64):uv .u64 (n:Int) ((g % 128 * 2 ^ (7 * at_):Nat):Int)=((n+g % 128 * 2 ^ (7 * at_):Nat):Int):=by
 rw [anU (g % 128) n (7 * at_) aG (by omega) Fb,Nat.add_comm]
theorem ZB (g n at_:Nat) (aG:n<2 ^ (7 * at_)):n+g % 128 * 2 ^ (7 * at_)<2 ^ (7 * (at_+1)):=by
 have e:(2:Nat) ^ (7 * (at_+1))=128 * 2 ^ (7 * at_):=by rw [axk,axj];omega
 rw [e];have ad:g % 128<128:=aw6 _ (by decide)
 have aD:=avo (2 ^ (7 * at_)) (show g % 128≤127 by omega)
 generalize 2 ^ (7 * at_)=p at *;omega
def dec:List Nat→Nat→Nat→Nat×Nat×Nat
 | [],_,_=>(0,0,4)
 | g::r,at_,n=>
  if at_=9∧1<g then (0,0,5)
  else if 128≤g then dec r (at_+1) (n+g % 128 * 2 ^ (7 * at_))
  else if g=0∧0<at_ then (0,0,5)
  else (n+g % 128 * 2 ^ (7 * at_),at_+1,0)
def vQ (r:Nat×Nat×Nat):V:=.tuple [.int .u64 (r.1:Nat),.int .i64 (r.2.1:Nat),.int .i64 (r.2.2:Nat)]
theorem anV {ao:List Nat} {k:Nat} (hk:k<ao.length):(e9 ao).drop (k * 1)=.int .u8 (ao[k]:Nat)::e9 (ao.drop (k+1)):=by
 rw [VU];unfold e9;rw [←awC,avk hk];rfl
theorem number (ao:List Nat) (h:I) (al:∀ b ∈ ao,b<256) (ay:ao.length≤2 ^ 47) :
  Pure ds 169 [.ah ao.length (e9 ao)] h (vQ (dec ao 0 0)):=by
 refine af.au (c:=_) Tryz.func169 rfl (by kernel_rfl) (by simp) ?_
 simp only [ae];refine aZ.BP (α:=Nat×Nat) (l:=0) rfl (fun x f h'=>h'=h∧f 0=.ah ao.length (e9 ao)∧f 5=.int .u64 (x.2:Nat)∧f 6=.int .i64 (x.1:Nat)∧dec (ao.drop x.1) x.1 x.2=dec ao 0 0∧x.2<2 ^ (7 * x.1)∧x.1≤9∧x.1≤ao.length) (fun x=>10 - x.1) ?_ ?_ ?_
 ·rintro x f h1 _
  omega
 ·rintro ⟨at_,n⟩ f h1 ⟨rfl,f0,f5,f6,bf,aG,zH,ky⟩
  simp only at f5 f6 bf aG zH ky;refine ee (by kernel_rfl) ?_
  by_cases JF:at_=ao.length
  ·have ka:((at_:Int)==(ao.length:Int))=true:=by simp [JF]
   simp only [ae,vt,reduceCtorEq,r3,f0,f6,ka,Ax,aS,aws,Aq];refine ax ⟨?_,rfl⟩;rw [←bf,JF,List.drop_length];rfl
  ·have ka:((at_:Int)==(ao.length:Int))=false:=by simp;omega
   have aM:at_<ao.length:=by omega
   have AR:ao[at_]<256:=al _ (List.getElem_mem aM);have Fc:ao.drop at_=ao[at_]::ao.drop (at_+1):=avk aM;have fq:=Gu (P:=ds) (t:=26) (k:=.i64) (i:=(at_:Int)) (n:=ao.length) (cs:=e9 ao) NY (by omega) (by omega) (by rw [p2];omega)
   rw [avc,anV aM] at fq;have kz:dec (ao.drop at_) at_ n=dec (ao[at_]::ao.drop (at_+1)) at_ n:=by rw [←Fc]
   generalize ao[at_]=g at AR fq kz;clear Fc;by_cases tP:at_=9∧1<g
   ·have k1:((at_:Int)==9)=true:=by simp [tP.1]
    have ZC:decide ((1:Int)<(g:Int))=true:=by simp;omega
    simp only [ae,vt,reduceCtorEq,r3,r4,f0,f6,ka,fq,k1,ZC,Ax,aS,aws,Aq];refine ax ⟨?_,rfl⟩;rw [←bf,kz,dec,if_pos tP];rfl
   ·have Fb:=Zz g at_ zH tP AR;have uM:=ZA g n at_ aG zH Fb;have sM:=ZB g n at_ aG;have x2:=Zy g at_ Fb zH;have x3:=To g AR;have dg:(0:Int)≤IntKind.i64.wrap (7 * (at_:Int)):=by
     rw [Go.IntWalk.i64_in _ (by omega)]
     omega
    have gX:IntKind.i64.wrap ((at_:Int)+1)=((at_+1:Nat):Int):=by rw [Go.IntWalk.i64_in _ (by omega)];rfl
    have lk:(((at_:Int)==9)=true∧decide ((1:Int)<(g:Int))=false)∨((at_:Int)==9)=false:=by
     by_cases fU:at_=9
     ·left;refine ⟨by simp [fU],by simp;omega⟩
     ·right;simp;omega
    by_cases D2:128≤g
    ·have wG:decide ((128:Int)≤(g:Int))=true:=by simp;omega
     have kh:at_≤8:=by
      rcases awr at_ 9 with h | h
      ·omega
      ·exact absurd ⟨by omega,by omega⟩ tP
     have kT:dec (ao.drop (at_+1)) (at_+1) (n+g % 128 * 2 ^ (7 * at_))=dec ao 0 0:=by
      rw [←bf,kz,dec,if_neg tP,if_pos D2]
     rcases lk with ⟨bb,bt⟩ | bb
     ·exfalso;simp at bb;omega
     ·simp only [ae,vt,reduceCtorEq,r3,r4,f0,f5,f6,ka,fq,bb,wG,mq mv ns,x3,BG dg,x2,uM,gX,ajZ];exact ax ⟨(at_+1,_),⟨rfl,f0,rfl,rfl,kT,sM,by simp only;omega,by simp only;omega⟩,by simp;omega⟩
    ·have wG:decide ((128:Int)≤(g:Int))=false:=by simp;omega
     have aL:dec ao 0 0=if g=0∧0<at_ then (0,0,5) else (n+g % 128 * 2 ^ (7 * at_),at_+1,0):=by
      rw [←bf,kz,dec,if_neg tP,if_neg D2]
     have IQ:((g:Int)==0)=false∨(((g:Int)==0)=true∧decide ((1:Int)<((at_+1:Nat):Int))=decide (0<at_)):=by
      by_cases aK:g=0
      ·right;exact ⟨by simp [aK],by rw [decide_eq_decide];omega⟩
      ·left;simp;omega
     rcases IQ with c3 | ⟨c3,eP⟩
     ·have aK:¬(g=0∧0<at_):=by intro h;simp [h.1] at c3
      rw [if_neg aK] at aL;rcases lk with ⟨bb,bt⟩ | bb
      ·simp only [ae,vt,reduceCtorEq,r3,r4,f0,f5,f6,ka,fq,bb,bt,c3,wG,mq mv ns,x3,BG dg,x2,uM,gX,Ax,aS,aws,Aq];exact ax ⟨by rw [aL];rfl,rfl⟩
      ·simp only [ae,vt,reduceCtorEq,r3,r4,f0,f5,f6,ka,fq,bb,c3,wG,mq mv ns,x3,BG dg,x2,uM,gX,Ax,aS,aws,Aq];exact ax ⟨by rw [aL];rfl,rfl⟩
     ·by_cases xM:0<at_
      ·have aK:(g=0∧0<at_):=⟨by simpa using c3,xM⟩
       rw [if_pos aK] at aL;simp only [xM,decide_true] at eP;rcases lk with ⟨bb,bt⟩ | bb
       ·simp only [ae,vt,reduceCtorEq,r3,r4,f0,f5,f6,ka,fq,bb,bt,c3,eP,wG,mq mv ns,x3,BG dg,x2,uM,gX,Ax,aS,aws,Aq];exact ax ⟨by rw [aL];rfl,rfl⟩
       ·simp only [ae,vt,reduceCtorEq,r3,r4,f0,f5,f6,ka,fq,bb,c3,eP,wG,mq mv ns,x3,BG dg,x2,uM,gX,Ax,aS,aws,Aq];exact ax ⟨by rw [aL];rfl,rfl⟩
      ·have aK:¬(g=0∧0<at_):=fun h=>xM h.2;rw [if_neg aK] at aL;simp only [xM,decide_false] at eP;rcases lk with ⟨bb,bt⟩ | bb
       ·simp only [ae,vt,reduceCtorEq,r3,r4,f0,f5,f6,ka,fq,bb,bt,c3,eP,wG,mq mv ns,x3,BG dg,x2,uM,gX,Ax,aS,aws,Aq];exact ax ⟨by rw [aL];rfl,rfl⟩
       ·simp only [ae,vt,reduceCtorEq,r3,r4,f0,f5,f6,ka,fq,bb,c3,eP,wG,mq mv ns,x3,BG dg,x2,uM,gX,Ax,aS,aws,Aq];exact ax ⟨by rw [aL];rfl,rfl⟩
 ·intro step;refine aZ.seq (ee (by kernel_rfl) ?_)
  simp only [ae];refine aZ.seq (ee (by kernel_rfl) ?_)
  simp only [ae];refine aZ.seq (.label ?_);exact step (0,0) _ _ ⟨rfl,rfl,rfl,rfl,rfl,by decide,by decide,by omega⟩
theorem Tp (l:List Nat):∀ k n,(dec l k n).2.2≠0→dec l k n=(0,0,(dec l k n).2.2):=by
 induction l with
 | nil=>intro k n _;rfl
 | cons g r ih=>
  intro k n h;unfold dec at h⊢;split
  ·rfl
  ·rename_i h1;rw [if_neg h1] at h;split
   ·rename_i ad;rw [if_pos ad] at h;exact ih _ _ h
   ·rename_i ad;rw [if_neg ad] at h;split
    ·rfl
    ·rename_i aD;rw [if_neg aD] at h;simp at h
theorem Tq (l:List Nat):∀ k n,(dec l k n).2.1≤l.length+k:=by
 induction l with
 | nil=>intro k n;simp [dec]
 | cons g r ih=>
  intro k n;unfold dec;split
  ·simp
  ·split
   ·have:=ih (k+1) (n+g % 128 * 2 ^ (7 * k));simp;omega
   ·split
    ·simp
    ·simp;omega
theorem anW (a:Nat) (aP:a<2 ^ 64):rT .u64 (a:Int) 0=(a:Int):=by
 show IntKind.u64.wrap ((BitVec.ofInt 64 (a:Int) ^^^ BitVec.ofInt 64 0).toNat:Int)=_;have e:BitVec.ofInt 64 (0:Int)=BitVec.ofNat 64 0:=rfl;have aC:(BitVec.ofNat 64 a ^^^ BitVec.ofNat 64 0).toNat=a:=by
  rw [BitVec.toNat_xor,BitVec.toNat_ofNat,BitVec.toNat_ofNat,aAV,aAW];exact avS aP
 rw [D1,e,aC,IntKind.wrap_u64];omega
theorem anX (a:Nat) (aP:a<2 ^ 64):rT .u64 (a:Int) 18446744073709551615=((18446744073709551615 - a:Nat):Int):=by
 show IntKind.u64.wrap ((BitVec.ofInt 64 (a:Int) ^^^ BitVec.ofInt 64 18446744073709551615).toNat:Int)=_;have e:BitVec.ofInt 64 (18446744073709551615:Int)=BitVec.allOnes 64:=by decide
 have aC:(BitVec.ofNat 64 a ^^^ BitVec.allOnes 64).toNat=18446744073709551615 - a:=by
  rw [BitVec.xor_allOnes,BitVec.toNat_not,BitVec.toNat_ofNat,avS aP]
 rw [D1,e,aC,IntKind.wrap_u64];omega
theorem ZD (n:Int) (h1:-2 ^ 63≤n) (ad:n<2 ^ 63):rT .u64 (IntKind.u64.wrap (IntKind.u64.wrap n * 2 ^ min (avn 1) IntKind.u64.bits)) (IntKind.u64.wrap (n.fdiv (2 ^ min (avn 63) IntKind.i64.bits))) =
  ((if 0≤n then 2 * n.toNat else 2 * (-n).toNat - 1:Nat):Int):=by
 have aC:(2:Int) ^ min (avn 1) IntKind.u64.bits=2:=by decide
 have bd:(2:Int) ^ min (avn 63) IntKind.i64.bits=9223372036854775808:=by decide
 rw [aC,bd];have wz:-9223372036854775808≤n:=by simpa using h1
 have uz:n<9223372036854775808:=by simpa using ad
 by_cases aK:0≤n
 ·have ev:n.fdiv 9223372036854775808=0:=by rw [axi _ (by omega)];omega
  have jr:IntKind.u64.wrap (IntKind.u64.wrap n * 2)=((2 * n.toNat:Nat):Int):=by rw [IntKind.wrap_u64,IntKind.wrap_u64];omega
  have j5:IntKind.u64.wrap 0=0:=by decide
  rw [ev,jr,j5,anW _ (by omega),if_pos aK]
 ·have ev:n.fdiv 9223372036854775808=-1:=by rw [axi _ (by omega)];omega
  have jr:IntKind.u64.wrap (IntKind.u64.wrap n * 2)=((2 * n+18446744073709551616).toNat:Int):=by rw [IntKind.wrap_u64,IntKind.wrap_u64];omega
  have j5:IntKind.u64.wrap (-1)=18446744073709551615:=by decide
  rw [ev,jr,j5,anX _ (by omega),if_neg aK]
  omega
def jK (n:Int):Nat:=if 0≤n then 2 * n.toNat else 2 * (-n).toNat - 1
theorem AU (n:Int) (h1:-2 ^ 63≤n) (ad:n<2 ^ 63):jK n<2 ^ 64:=by
 have wz:-9223372036854775808≤n:=by simpa using h1
 have uz:n<9223372036854775808:=by simpa using ad
 unfold jK;split<;>omega
theorem dA.ai {h h':I} {p:V} {i:Nat} {cs:List Nat} {own:Nat→Prop} (aL:dA h p i cs) (hk:J h h' own) (bI:¬own i):dA h' p i cs :=
 ⟨aL.1,Nat.lt_of_lt_of_le aL.2.1 hk.n,(hk.get i aL.2.1 bI).trans aL.2.2⟩
theorem N5 (p:V) (i:Nat) (ao:List Nat) (h:I) (aL:dA h p i ao) (al:∀ b ∈ ao,b<256) (ay:ao.length≤2 ^ 47) :
  af ds 143 [p] h (fun r h'=>r=.tuple [.int .u64 ((dec ao 0 0).1:Nat),.int .i64 ((dec ao 0 0).2.2:Nat)]∧dA h' p i (ao.drop (dec ao 0 0).2.1)∧J h h' (·=i)):=by
 refine af.au (c:=_) Tryz.func143 rfl (by kernel_rfl) (by simp) ?_
 simp only [ae,vt,reduceCtorEq];refine bW ww (rest h p i ao aL) ?_;simp only [ae,vt];refine bW X3 (number ao h al ay) ?_;by_cases h8:(dec ao 0 0).2.2=0
 ·have bI:((((dec ao 0 0).2.2:Nat):Int) !=0)=false:=by simp [h8]
  have N6:=Tq ao 0 0;obtain ⟨rfl,hi,az⟩:=aL;have qW:nT ds 26 (.ah ao.length (e9 ao)) (some (.int .i64 ((dec ao 0 0).2.1:Nat))) none none=some (.ah (ao.drop (dec ao 0 0).2.1).length (e9 (ao.drop (dec ao 0 0).2.1))):=by
   rw [WR NY (by omega) (by omega) (by rw [p2];omega)]
   rw [avc,VU];unfold e9;rw [awC,avJ]
  simp only [ae,vt,reduceCtorEq,Jg,Jp,Ta,vQ,bI,az,qW,aS,aAX,c9];exact ax ⟨by simp [h8],⟨rfl,by rw [lW];exact hi,aT⟩,J.set _ _ _⟩
 ·have bI:((((dec ao 0 0).2.2:Nat):Int) !=0)=true:=by simp;omega
  have bf:=Tp ao 0 0 h8;simp only [ae,vt,vQ,bI,aS,aAX,c9];refine ax ⟨?_,?_,J.refl _ _⟩
  ·rw [bf];rfl
  ·rw [bf];simpa using aL
theorem ZE (n:Int) (h:I) (h1:-2 ^ 63≤n) (ad:n<2 ^ 63):Pure ds 103 [.int .i64 n] h (.int .u64 (jK n:Nat)):=by
 refine af.au (c:=_) Tryz.func103 rfl (by kernel_rfl) (by simp) ?_
 simp only [ae,vt,reduceCtorEq,BG (show (0:Int)≤1 by decide),M0 (show (0:Int)≤63 by decide),mq Jk ns,aS,Tryz.results103,ac]
 exact ax ⟨by rw [ZD n h1 ad];rfl,rfl⟩
theorem JG (s:V) (cs:List Nat) (n:Int) (h:I) (rd:Rd h s cs) (ay:cs.length≤2 ^ 46) (h1:-2 ^ 63≤n) (ad:n<2 ^ 63) :
  Pure ds 62 [s,.int .i64 n] h (.ah (cs++enc (jK n)).length (e9 (cs++enc (jK n)))):=by
 refine Pure.of (a7.ah (Ce _)) (af.mono (R:=fun r h'=>Own h' 5 1 r (e9 (cs++enc (jK n)))∧J h h' none_∧∀ k,a8 r=some k→h.n≤k) ?_ fun r h' ⟨o,k,d⟩=>?_)
 ·refine af.au (c:=_) Tryz.func62 rfl (by kernel_rfl) (by simp) ?_
  simp only [ae,vt,reduceCtorEq];refine cB Gz (fresh s cs 10 h rd (by omega)) fun cZ wz ⟨aC,gT,bJ⟩=>?_
  have d1:∀ k,a8 cZ=some k→h.n≤k:=fun k hk=>by subst aC;simp [a8] at hk;omega
  simp only [ae,vt];refine bW XW (ZE n wz h1 ad) ?_;simp only [ae,vt];refine cB Jd (Tm cZ cs (jK n) wz gT ay (AU n h1 ad)) fun dI uz ⟨dZ,ba,d2⟩=>?_;simp only [ae,vt,aS,Tryz.results62,ac];refine ax ⟨dZ,bJ.trans ba fun k hk hi=>?_,fun k hk=>?_⟩
  ·have:=d1 k hi;omega
  ·rcases d2 with d2 | d2
   ·exact d1 k (d2 ▸ hk)
   ·exact OF bJ.n (d2 k hk)
 ·obtain ⟨ad,c,ba⟩:=aA.own o (n:=(cs++enc (jK n)).length) (by simp [p2]) (by omega)
  exact ⟨ad,c,k.trans ba fun j aV aa=>by have:=d j aa;omega⟩
theorem Tr:∀ (ao:List Nat) (k acc m used:Nat),(∀ b ∈ ao,b<256)→dec ao k acc=(m,used,0)→k<used∧∃ x,m=acc+x * 2 ^ (7 * k)∧ao.take (used - k)=enc x∧(0<k→0<x)
 | [],k,acc,m,used,_,h=>by simp [dec] at h
 | g::r,k,acc,m,used,al,h=>by
  have az:g<256:=al g (by simp)
  unfold dec at h;split at h
  ·simp at h
  ·split at h
   ·rename_i ad;obtain ⟨hu,x,aD,bn,bN⟩:=Tr r (k+1) _ m used (fun b iJ=>al b (by simp [iJ])) h
    have aj:=bN (by omega)
    refine ⟨by omega,g % 128+128 * x,?_,?_,by omega⟩
    ·rw [aD,axk,axj,atY,awy]
     congr 2
     have e:(2:Nat) ^ (7 * 1)=128:=by decide
     rw [e,awU (2 ^ (7 * k)) 128,←aw3,awU x 128]
    ·rw [show used - k=(used - (k+1))+1 by omega,aw2,bn,JD (n:=g % 128+128 * x) (by omega)]
     congr 1
     ·omega
     ·congr 1;omega
   ·split at h
    ·simp at h
    ·rename_i h1 ad aD;simp only [Prod.mk.injEq,and_true] at h;obtain ⟨rfl,rfl⟩:=h;refine ⟨by omega,g,?_,?_,by omega⟩
     ·rw [avS (by omega)]
     ·rw [show k+1 - k=1 by omega,GU (by omega)];rfl
theorem dec_lt:∀ (ao:List Nat) (k acc:Nat),k≤9→acc<2 ^ (7 * k)→(∀ b ∈ ao,b<256)→(dec ao k acc).1<2 ^ 64
 | [],k,acc,_,_,_=>by simp [dec]
 | g::r,k,acc,hk,aP,al=>by
  have az:g<256:=al g (by simp)
  unfold dec;split
  ·simp
  ·rename_i h1;have gV:=Zz g k hk h1 az;have aG:=ZB g acc k aP;split
   ·rename_i ad;by_cases ZF:k≤8
    ·exact dec_lt r (k+1) _ (by omega) aG fun b iJ=>al b (by simp [iJ])
    ·exfalso;omega
   ·split
    ·simp
    ·show acc+g % 128 * 2 ^ (7 * k)<2 ^ 64;have e:(2:Nat) ^ 64=2 ^ (64 - 7 * k) * 2 ^ (7 * k):=by rw [←axj];congr 1;omega
     rw [e] at gV⊢;have kh:g % 128<2 ^ (64 - 7 * k):=aAU gV
     calc acc+g % 128 * 2 ^ (7 * k)<2 ^ (7 * k)+g % 128 * 2 ^ (7 * k):=by omega
      _=(g % 128+1) * 2 ^ (7 * k):=by rw [atY];omega
      _≤_:=avo _ kh
theorem zc:∀ (m n:Nat),n≤m→∀ b ∈ enc n,b<256
 | m,n,h,b,al=>by
  by_cases aG:n<128
  ·rw [GU aG] at al;simp at al;omega
  ·rw [JD aG] at al;rcases IN.1 al with rfl | al
   ·omega
   ·cases m with
    | zero=>omega
    | succ m=>exact zc m (n / 128) (by omega) b al
theorem ZG (r:List Nat):∀ (m x k acc:Nat),x≤m→k≤9→x * 2 ^ (7 * k)<2 ^ 64→(0<k→0<x)→dec (enc x++r) k acc=(acc+x * 2 ^ (7 * k),k+(enc x).length,0)
 | m,x,k,acc,hm,hk,aj,aK=>by
  by_cases aa:x<128
  ·rw [GU aa,avx,dec,if_neg,if_neg (by omega),if_neg,avS aa]
   ·rfl
   ·intro U;have:=aK U.2;omega
   ·rintro ⟨rfl,h1⟩
    have ad:2 * 2 ^ (7 * 9)≤x * 2 ^ (7 * 9):=avo _ h1;have aD:2 * 2 ^ (7 * 9)=2 ^ 64:=by decide
    omega
  ·have ZF:k≤8:=by
    rcases awr k 9 with h | h
    ·omega
    ·have ZH:k=9:=by omega
     subst ZH;have ad:128 * 2 ^ (7 * 9)≤x * 2 ^ (7 * 9):=avo _ (by omega)
     have aD:2 ^ 64≤128 * 2 ^ (7 * 9):=by decide
     omega
   have rq:2 ^ (7 * (k+1))=128 * 2 ^ (7 * k):=by rw [axk,axj,awU]
   rw [JD aa,avx,dec,if_neg (by omega),if_pos (by omega)]
   cases m with
   | zero=>omega
   | succ m=>
    rw [ZG r m (x / 128) (k+1) _ (by omega) (by omega) (by
     rw [rq,←aw3];exact ayI (avo _ (Nat.div_mul_le_self x 128)) aj) (by omega)]
    simp only [Prod.mk.injEq,ave,and_true];refine ⟨?_,by omega⟩
    rw [rq];have aC:(x % 128+128) % 128=x % 128:=by omega
    rw [aC,←aw3,awy,←atY,awU (x / 128) 128,Nat.mod_add_div]
theorem zd (x:Nat) (aj:x<2 ^ 64) (r:List Nat):dec (enc x++r) 0 0=(x,(enc x).length,0):=by
 rw [ZG r x x 0 0 (BY _) (by omega) (by simpa using aj) (by omega)]
 simp
theorem anY {l:List Int} {k:Nat} (hk:k<l.length):(ar l).drop (k * 1)=.int .i64 l[k]::ar (l.drop (k+1)):=by
 rw [VU];unfold ar;rw [←awC,avk hk];rfl
theorem N7 {l:List Int} {k:Nat} (hk:k<l.length) {t:TypeId} (aa:dF ds t=some 1):hG ds t (.ah l.length (ar l)) (.int .i64 (k:Int))=some (.at (.int .i64 l[k]::ar (l.drop (k+1)))):=by
 rw [Gu aa (by omega) (by omega) (by rw [gi];omega),avc,anY hk]
theorem JH {n:Nat} (h:n<2 ^ 64):IntKind.u64.wrap (n:Int)=(n:Int):=by rw [IntKind.wrap_u64];omega
def ze (x:List Nat):List Nat:=enc x.length++x
def x4 (l:List Int):List Nat:=enc l.length++l.flatMap fun n=>enc (jK n)
theorem ZI (s:V) (cs:List Nat) (m:Nat) (h:I) (rd:Rd h s cs) (ay:cs.length+m≤2 ^ 47) :
  af ds 102 [s,.int .i64 m] h (fun r h'=>Acc h h' 5 1 r (e9 cs)) :=
 (fresh s cs m h rd ay).mono fun r h' ⟨e,o,k⟩=>⟨o,k,fun j aV=>by subst e;simp [a8] at aV;omega⟩
theorem Ts {aK:I} (s:V) (cs:List Nat) (n:Nat) (h:I) (a:Acc aK h 5 1 s (e9 cs)) (ay:cs.length≤2 ^ 46) (aG:n<2 ^ 64) :
  af ds 101 [s,.int .u64 n] h (fun r h'=>Acc aK h' 5 1 r (e9 (cs++enc n))) :=
 (Tm s cs n h a.own ay aG).mono fun r h' ⟨o,k,d⟩=>a.step o k d
theorem ZJ {α β:Type} (l:List α) (f:α→List β) {i:Nat} (hi:i<l.length):(l.take (i+1)).flatMap f=(l.take i).flatMap f++f l[i]:=by
 rw [List.take_succ_eq_append_getElem hi,List.flatMap_append];simp
theorem ZK {l:List Int} (aw:∀ n ∈ l,-2 ^ 63≤n∧n<2 ^ 63):(l.flatMap fun n=>enc (jK n)).length≤10 * l.length:=by
 induction l with
 | nil=>simp
 | cons n l ih=>
  have h1:=ih fun n aG=>aw n (by simp [aG])
  have ad:=aw n (by simp)
  have:=(p3 (jK n) (AU n ad.1 ad.2)).2;simp only [avj,List.length_append,ave];omega
def fZ (n:Nat):Int:=if n % 2=0 then ((n / 2:Nat):Int) else -((n / 2:Nat):Int) - 1
theorem anZ (n:Nat) (aG:n<2 ^ 64):Ar .u64 (n:Int) 1=((n % 2:Nat):Int):=by
 show IntKind.u64.wrap ((BitVec.ofInt 64 (n:Int) &&& BitVec.ofInt 64 1).toNat:Int)=_;have e:BitVec.ofInt 64 (1:Int)=BitVec.ofNat 64 1:=rfl;have aC:(BitVec.ofNat 64 n &&& BitVec.ofNat 64 1).toNat=n % 2:=by
  rw [BitVec.toNat_and,BitVec.toNat_ofNat,BitVec.toNat_ofNat,avS aG,avS (by decide),Nat.and_one_is_mod]
 rw [D1,e,aC,IntKind.wrap_u64];omega
theorem an0 (a:Nat) (aP:a<2 ^ 63):rT .i64 (a:Int) 0=(a:Int):=by
 show IntKind.i64.wrap ((BitVec.ofInt 64 (a:Int) ^^^ BitVec.ofInt 64 0).toNat:Int)=_;have e:BitVec.ofInt 64 (0:Int)=BitVec.ofNat 64 0:=rfl;have aC:(BitVec.ofNat 64 a ^^^ BitVec.ofNat 64 0).toNat=a:=by
  rw [BitVec.toNat_xor,BitVec.toNat_ofNat,BitVec.toNat_ofNat,aAV,aAW];exact avS (by omega)
 rw [D1,e,aC,IntKind.wrap_i64];omega
theorem an1 (a:Nat) (aP:a<2 ^ 63):rT .i64 (a:Int) (-1)=-(a:Int) - 1:=by
 show IntKind.i64.wrap ((BitVec.ofInt 64 (a:Int) ^^^ BitVec.ofInt 64 (-1)).toNat:Int)=_;have e:BitVec.ofInt 64 (-1:Int)=BitVec.allOnes 64:=by decide
 have aC:(BitVec.ofNat 64 a ^^^ BitVec.allOnes 64).toNat=18446744073709551615 - a:=by
  rw [BitVec.xor_allOnes,BitVec.toNat_not,BitVec.toNat_ofNat,avS (by omega)]
 rw [D1,e,aC,IntKind.wrap_i64];omega
theorem an2 (n:Nat) (aG:n<2 ^ 64):rT .i64 (IntKind.i64.wrap ((n:Int).fdiv (2 ^ min (avn 1) IntKind.u64.bits))) (IntKind.i64.wrap (0 - IntKind.i64.wrap (Ar .u64 (n:Int) 1)))=fZ n:=by
 have aC:(2:Int) ^ min (avn 1) IntKind.u64.bits=2:=by decide
 have bd:IntKind.i64.wrap ((n:Int).fdiv 2)=((n / 2:Nat):Int):=by
  rw [axi _ (by omega),Go.IntWalk.i64_in _ (by omega)];omega
 rw [aC,bd,anZ n aG,Go.IntWalk.i64_in ((n % 2:Nat):Int) (by omega),Go.IntWalk.i64_in _ (by omega)]
 unfold fZ;by_cases h:n % 2=0
 ·rw [if_pos h,h];exact an0 _ (by omega)
 ·have h1:n % 2=1:=by omega
  rw [if_neg h,h1];exact an1 _ (by omega)
theorem ZL (n:Nat) (aG:n<2 ^ 64):-2 ^ 63≤fZ n∧fZ n<2 ^ 63:=by
 unfold fZ;split<;>omega
theorem an3 (n:Nat) (h:I) (aG:n<2 ^ 64):Pure ds 170 [.int .u64 n] h (.int .i64 (fZ n)):=by
 refine af.au (c:=_) Tryz.func170 rfl (by kernel_rfl) (by simp) ?_
 simp only [ae,vt,reduceCtorEq,M0 (show (0:Int)≤1 by decide),mq ns Jk,aS,Tryz.results170,ac]
 exact ax ⟨by rw [an2 n aG],rfl⟩
theorem D3 (p:V) (i:Nat) (ao:List Nat) (h:I) (aL:dA h p i ao) (al:∀ b ∈ ao,b<256) (ay:ao.length≤2 ^ 47) :
  af ds 145 [p] h (fun r h'=>r=.tuple [.int .i64 (fZ (dec ao 0 0).1),.int .i64 ((dec ao 0 0).2.2:Nat)]∧dA h' p i (ao.drop (dec ao 0 0).2.1)∧J h h' (·=i)):=by
 refine af.au (c:=_) Tryz.func145 rfl (by kernel_rfl) (by simp) ?_
 simp only [ae,vt,reduceCtorEq];refine cB ND (N5 p i ao h aL al ay) fun r h1 ⟨aC,cZ,bJ⟩=>?_;subst aC;have aM:=dec_lt ao 0 0 (by omega) (by decide) al
 by_cases h8:(dec ao 0 0).2.2=0
 ·have bI:((((dec ao 0 0).2.2:Nat):Int) !=0)=false:=by simp [h8]
  simp only [ae,vt,bI];refine bW alO (an3 _ h1 aM) ?_;simp only [ae,vt,aS,aAY,c9];exact ax ⟨by rw [h8];rfl,cZ,bJ⟩
 ·have bI:((((dec ao 0 0).2.2:Nat):Int) !=0)=true:=by simp;omega
  have bf:=Tp ao 0 0 h8;simp only [ae,vt,bI,aS,aAY,c9];refine ax ⟨?_,cZ,bJ⟩;rw [bf];have:fZ 0=0:=by decide
  simp only [this]
def hM (ao:List Nat):List Nat×List Nat×Nat :=
 if (dec ao 0 0).2.2≠0 then ([],ao,(dec ao 0 0).2.2)
 else if (ao.drop (dec ao 0 0).2.1).length<(dec ao 0 0).1 then ([],ao,4)
 else ((ao.drop (dec ao 0 0).2.1).take (dec ao 0 0).1,(ao.drop (dec ao 0 0).2.1).drop (dec ao 0 0).1,0)
theorem ZM (l:List Nat) (k:Nat) (hk:k≤l.length) {kk:IntKind}:nT ds 26 (.ah l.length (e9 l)) (some (.int kk (k:Nat))) none none=some (.ah (l.drop k).length (e9 (l.drop k))):=by
 rw [WR NY (by omega) (by omega) (by rw [p2];omega)]
 rw [avc,VU];unfold e9;rw [awC,avJ]
theorem an4 (l:List Nat) (k:Nat) (hk:k≤l.length) {kk:IntKind}:nT ds 26 (.ah l.length (e9 l)) none (some (.int kk (k:Nat))) none=some (.ah (l.take k).length (e9 (l.take k))):=by
 rw [ajV NY (by omega) (by omega) (by rw [p2];omega)]
 rw [avc,VU,List.length_take,Nat.min_eq_left hk];unfold e9;rw [List.map_take]
theorem w1 (h:I) (l:List V):aA (.tuple (.ag::l)) h (.tuple (.ah 0 []::l)) h:=fun ρ B aJ w c0 hw aH=>by
 cases aH with
 | tuple aa aj=>
  refine ⟨ρ,Ren.le.refl ρ,hw,.tuple aa fun k v v' a b=>?_⟩
  match k with
  | 0=>
   simp at a;subst a;have:=aj 0 .ag v' rfl b;cases this;exact .gg _ _ (by simp)
  | k+1=>exact aj (k+1) v v' (by simpa using a) b
theorem Tt (n:Int):fZ (jK n)=n:=by
 unfold fZ jK;by_cases h:0≤n
 ·rw [if_pos h,if_pos (by omega)];omega
 ·rw [if_neg h,if_neg (by omega)];omega
def qw:Nat→List Nat→List Int→List Int×List Nat×Nat
 | 0,rest,acc=>(acc,rest,0)
 | k+1,rest,acc=>
  if (dec rest 0 0).2.2≠0 then ([],[],(dec rest 0 0).2.2)
  else if fZ (dec rest 0 0).1 < -2147483648∨2147483647<fZ (dec rest 0 0).1 then ([],[],2)
  else qw k (rest.drop (dec rest 0 0).2.1) (acc++[fZ (dec rest 0 0).1])
def iZ (ao:List Nat) (most:Int):List Int×List Nat×Nat :=
 if (dec ao 0 0).2.2≠0 then ([],ao,(dec ao 0 0).2.2)
 else if most<0∨most<((dec ao 0 0).1:Nat) then ([],ao,2)
 else if (qw (dec ao 0 0).1 (ao.drop (dec ao 0 0).2.1) []).2.2≠0 then ([],ao,(qw (dec ao 0 0).1 (ao.drop (dec ao 0 0).2.1) []).2.2)
 else qw (dec ao 0 0).1 (ao.drop (dec ao 0 0).2.1) []
theorem ZN {rest:List Nat} (al:∀ b ∈ rest,b<256) (h:(dec rest 0 0).2.2=0):1≤(dec rest 0 0).2.1∧(dec rest 0 0).2.1≤rest.length:=by
 have h1:=(Tr rest 0 0 (dec rest 0 0).1 (dec rest 0 0).2.1 al (by
  have q:dec rest 0 0=((dec rest 0 0).1,(dec rest 0 0).2.1,(dec rest 0 0).2.2):=rfl;rw [h] at q;exact q)).1
 have ad:=Tq rest 0 0;omega
theorem an5 (h:I) (a:Int):ie ds 46 1 [(0,.int .i64 a)] h=some (.bj h.n 0 1 1,h.push (.cells [.int .i64 a] 3 none)):=by rw [lY oU];rfl
theorem ZO {P:Nat→Prop} {l:List Nat} (h:∀ b ∈ l,P b) (k:Nat):∀ b ∈ l.drop k,P b:=fun b al=>h b (List.mem_of_mem_drop al)
theorem an6 (x r:List Nat) (aj:x.length<2 ^ 64):hM (ze x++r)=(x,r,0):=by
 unfold hM ze;rw [au8,zd _ aj];simp
theorem ZP (r:List Nat):∀ (l acc:List Int),(∀ n ∈ l,-2147483648≤n∧n≤2147483647)→qw l.length ((l.flatMap fun n=>enc (jK n))++r) acc=(acc++l,r,0)
 | [],acc,_=>by simp [qw]
 | n::l,acc,h=>by
  have h1:=h n (by simp)
  have bR:jK n<2 ^ 64:=by unfold jK;split<;>omega
  rw [ave,qw,avj,au8,zd _ bR];simp only [Tt];rw [if_neg (by simp),if_neg (by omega),List.drop_left,ZP r l (acc++[n]) fun m hm=>h m (by simp [hm])]
  simp
end Go.Proofs.YtemdgidnhgcafaaGreatDoor.Pk
