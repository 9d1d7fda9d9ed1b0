/-
  What functions of the program do, told of abstract states. Conditions: as each theorem says.
-/
import Derived.Test.YtemdgidnhgcafaaGreatDoorAcD
import Derived.Test.YtemdgidnhgcafaaGreatDoorProg
open Go.Proofs.Tryz renaming prog->mc,results168->aBD,func142->aFm,results142->aBE,results104->aFn,results218->aAp,results201->aAq,func200->aFo,ntmps200->aFp,results200->aFq,results175->aD0,results169->aAB,results143->aFv,results145->aFw
open Nat renaming reduceEqDiff->ds,reduceAdd->AS,mul_one->ajD,reduceLeDiff->By,le_refl->BY,reduceBEq->az9,mul_comm->aAz,mod_lt->aAG,le_trans->ajy,pow_add->aAA,lt_of_mul_lt_mul_right->aFr,add_mul->axY,mul_le_mul_right->azl,mod_eq_of_lt->azS,lt_of_le_of_lt->aD2,mul_add->aBG,lt_or_ge->aAy,zero_mod->aFt,xor_zero->aFu,add_assoc->aAk,mul_assoc->aBq
open Int renaming toNat_natCast->ayQ,toNat->azk,fdiv_eq_ediv_of_nonneg->aA8
open List renaming drop_eq_getElem_cons->azg,getD->ayO,getElem?_eq_getElem->IA,mem_cons->Iz,mem_of_getElem?->azq,contains_cons->az3,contains_nil->az8,take_succ_cons->aBn,all_cons->aA1,map_drop->aAN,length_drop->azD,cons_append->azv,length_cons->axW,flatMap_cons->azh,append_assoc->axV
open Bool renaming and_eq_true->ajC,or_eq_true->az2,or_true->aBF,or_false->azN,true_and->azR
open Option renaming map_eq_some_iff->azL
open Array renaming replicate->azZ,ext'->azH
open Go renaming IntKind->aOT,Program->aOR
set_option linter.unusedVariables false
set_option linter.unusedSimpArgs false
set_option maxHeartbeats 2000000
set_option maxRecDepth 10000
namespace Go.Proofs.YtemdgidnhgcafaaGreatDoor.Pk
open Go Go.Proofs Go.Proofs.YtemdgidnhgcafaaGreatDoor.Ab
theorem apv:sd mc 108=some (7,1):=by kernel_rfl
theorem apw:sd mc 123=none:=by kernel_rfl
theorem apx:sd mc 246=some (11,4):=by kernel_rfl
theorem apy:sd mc 29=none:=by kernel_rfl
theorem LA:sd mc 292=some (17,1):=by kernel_rfl
theorem F7:sd mc 46=none:=by kernel_rfl
theorem abh:sd mc 52=none:=by kernel_rfl
theorem LB:I1 mc 4=true:=by kernel_rfl
theorem apz:mC mc 152=true:=by kernel_rfl
theorem abi:mC mc 154=true:=by kernel_rfl
theorem apA:mC mc 200=true:=by kernel_rfl
theorem F8:mC mc 201=true:=by kernel_rfl
theorem apB:mC mc 218=true:=by kernel_rfl
theorem abj:mC mc 238=true:=by kernel_rfl
theorem apC:mC mc 244=true:=by kernel_rfl
theorem Vr:mC mc 88=true:=by kernel_rfl
theorem Qe:Lr mc 329=some .f64:=by kernel_rfl
theorem abk:db mc 101 0=some 0:=by kernel_rfl
theorem Vs:db mc 101 1=some 1:=by kernel_rfl
theorem abl:db mc 101 2=some 2:=by kernel_rfl
theorem Vt:db mc 101 3=some 3:=by kernel_rfl
theorem Qf:db mc 110 0=some 0:=by kernel_rfl
theorem A6:db mc 110 1=some 1:=by kernel_rfl
theorem LC:db mc 110 2=some 2:=by kernel_rfl
theorem Vu:db mc 110 3=some 3:=by kernel_rfl
theorem apD:db mc 110 4=some 4:=by kernel_rfl
theorem A7:db mc 125 0=some 0:=by kernel_rfl
theorem Jd:db mc 125 1=some 6:=by kernel_rfl
theorem Je:db mc 150 0=some 0:=by kernel_rfl
theorem abm:db mc 150 1=some 2:=by kernel_rfl
theorem Vv:db mc 150 2=some 3:=by kernel_rfl
theorem F9:db mc 150 3=some 4:=by kernel_rfl
theorem Ga:db mc 150 4=some 5:=by kernel_rfl
theorem Gb:db mc 163 0=some 0:=by kernel_rfl
theorem Ed:db mc 163 1=some 1:=by kernel_rfl
theorem abn:db mc 163 2=some 5:=by kernel_rfl
theorem Vx:db mc 173 0=some 0:=by kernel_rfl
theorem Vy:db mc 173 1=some 1:=by kernel_rfl
theorem apE:db mc 177 0=some 0:=by kernel_rfl
theorem apF:db mc 177 1=some 1:=by kernel_rfl
theorem abo:db mc 178 0=some 0:=by kernel_rfl
theorem apG:db mc 178 1=some 1:=by kernel_rfl
theorem apH:db mc 186 0=some 0:=by kernel_rfl
theorem LD:db mc 198 0=some 0:=by kernel_rfl
theorem CE:db mc 210 0=some 0:=by kernel_rfl
theorem apI:db mc 218 0=some 0:=by kernel_rfl
theorem abp:db mc 218 1=some 3:=by kernel_rfl
theorem Jf:db mc 218 2=some 4:=by kernel_rfl
theorem abq:db mc 245 0=some 0:=by kernel_rfl
theorem apJ:db mc 245 1=some 1:=by kernel_rfl
theorem abr:db mc 245 2=some 2:=by kernel_rfl
theorem apK:db mc 245 3=some 3:=by kernel_rfl
theorem km:db mc 24 0=some 0:=by kernel_rfl
theorem yP:db mc 24 1=some 1:=by kernel_rfl
theorem Vz:db mc 266 0=some 0:=by kernel_rfl
theorem abt:db mc 266 1=some 1:=by kernel_rfl
theorem abu:db mc 284 0=some 0:=by kernel_rfl
theorem zS:db mc 284 1=some 1:=by kernel_rfl
theorem abv:db mc 287 0=some 0:=by kernel_rfl
theorem Jg:db mc 287 1=some 1:=by kernel_rfl
theorem Ee:db mc 287 2=some 2:=by kernel_rfl
theorem abw:db mc 290 0=some 0:=by kernel_rfl
theorem Gc:db mc 290 1=some 1:=by kernel_rfl
theorem A8:db mc 290 2=some 2:=by kernel_rfl
theorem abx:db mc 302 0=some 0:=by kernel_rfl
theorem Qg:db mc 302 1=some 1:=by kernel_rfl
theorem Gd:db mc 308 0=some 0:=by kernel_rfl
theorem aby:db mc 308 1=some 1:=by kernel_rfl
theorem apL:db mc 308 2=some 2:=by kernel_rfl
theorem VA:db mc 34 0=some 0:=by kernel_rfl
theorem abz:db mc 34 1=some 1:=by kernel_rfl
theorem Qh:db mc 350 0=some 0:=by kernel_rfl
theorem abA:db mc 350 1=some 1:=by kernel_rfl
theorem vx:db mc 45 0=some 0:=by kernel_rfl
theorem LF:db mc 45 1=some 1:=by kernel_rfl
theorem td:db mc 45 2=some 2:=by kernel_rfl
theorem yQ:db mc 48 0=some 0:=by kernel_rfl
theorem Qi:db mc 48 1=some 1:=by kernel_rfl
theorem Ef:db mc 48 2=some 2:=by kernel_rfl
theorem Jh:db mc 48 3=some 3:=by kernel_rfl
theorem Ji:db mc 48 4=some 4:=by kernel_rfl
theorem Qj:db mc 48 5=some 5:=by kernel_rfl
theorem VB:db mc 48 6=some 8:=by kernel_rfl
theorem LG:db mc 48 7=some 9:=by kernel_rfl
theorem Qk:db mc 48 8=some 10:=by kernel_rfl
theorem abB:db mc 57 0=some 0:=by kernel_rfl
theorem Eg:db mc 57 1=some 1:=by kernel_rfl
theorem Eh:db mc 57 2=some 2:=by kernel_rfl
theorem LH:db mc 57 3=some 3:=by kernel_rfl
theorem Ql:db mc 57 4=some 4:=by kernel_rfl
theorem abC:db mc 57 5=some 5:=by kernel_rfl
theorem pn:db mc 66 0=some 0:=by kernel_rfl
theorem Jj:db mc 66 1=some 1:=by kernel_rfl
theorem rJ:db mc 66 2=some 2:=by kernel_rfl
theorem hb:db mc 68 0=some 0:=by kernel_rfl
theorem te:db mc 68 1=some 1:=by kernel_rfl
theorem rK:db mc 68 2=some 2:=by kernel_rfl
theorem i6:db mc 68 3=some 5:=by kernel_rfl
theorem VC:db mc 74 0=some 0:=by kernel_rfl
theorem VD:db mc 74 1=some 1:=by kernel_rfl
theorem abD:db mc 90 0=some 0:=by kernel_rfl
theorem Jk:db mc 90 1=some 1:=by kernel_rfl
theorem Jl:db mc 90 2=some 2:=by kernel_rfl
theorem LI:db mc 95 0=some 0:=by kernel_rfl
theorem abE:db mc 95 1=some 2:=by kernel_rfl
theorem Qm:db mc 95 2=some 3:=by kernel_rfl
theorem apM:db mc 95 3=some 4:=by kernel_rfl
theorem VE:db mc 95 4=some 5:=by kernel_rfl
theorem abF:db mc 95 5=some 6:=by kernel_rfl
theorem abG:db mc 95 6=some 7:=by kernel_rfl
theorem VF:db mc 95 7=some 8:=by kernel_rfl
theorem VG:db mc 95 8=some 9:=by kernel_rfl
theorem Jm:db mc 95 9=some 10:=by kernel_rfl
theorem apN:DL mc 256=some false:=by kernel_rfl
theorem apO:DL mc 259=some false:=by kernel_rfl
theorem apP:DL mc 262=some false:=by kernel_rfl
theorem apQ:DL mc 37=some false:=by kernel_rfl
theorem oP:lZ mc 131=some .u64:=by kernel_rfl
theorem Ge:lZ mc 189=some .u64:=by kernel_rfl
theorem xF:lZ mc 2=some .i64:=by kernel_rfl
theorem gS:lZ mc 3=some .i64:=by kernel_rfl
theorem kG:lZ mc 5=some .u8:=by kernel_rfl
theorem LJ:et mc 123=some 1:=by kernel_rfl
theorem apR:et mc 136=some 0:=by kernel_rfl
theorem Ei:et mc 145=some 0:=by kernel_rfl
theorem abH:et mc 151=some 0:=by kernel_rfl
theorem apS:et mc 208=some 2:=by kernel_rfl
theorem pM:et mc 22=some 1:=by kernel_rfl
theorem rL:et mc 25=some 1:=by kernel_rfl
theorem VH:et mc 256=some 0:=by kernel_rfl
theorem apT:et mc 259=some 0:=by kernel_rfl
theorem qd:et mc 26=some 1:=by kernel_rfl
theorem Qn:et mc 262=some 0:=by kernel_rfl
theorem wE:et mc 282=some 1:=by kernel_rfl
theorem abI:et mc 285=some 2:=by kernel_rfl
theorem tV:et mc 288=some 1:=by kernel_rfl
theorem A9:et mc 29=some 1:=by kernel_rfl
theorem Qo:et mc 31=some 1:=by kernel_rfl
theorem Qp:et mc 32=some 1:=by kernel_rfl
theorem apU:et mc 36=some 0:=by kernel_rfl
theorem fB:et mc 46=some 1:=by kernel_rfl
theorem wF:et mc 52=some 1:=by kernel_rfl
theorem zT:et mc 64=some 1:=by kernel_rfl
theorem apV:et mc 85=some 0:=by kernel_rfl
theorem CF:et mc 88=some 1:=by kernel_rfl
theorem abJ:et mc 98=some 1:=by kernel_rfl
theorem abK:et mc 99=some 1:=by kernel_rfl
theorem LK:loadT mc 101=some (some 4):=by kernel_rfl
theorem ou:loadT mc 110=some (some 5):=by kernel_rfl
theorem VI:loadT mc 123=some none:=by kernel_rfl
theorem VJ:loadT mc 136=some none:=by kernel_rfl
theorem Gf:loadT mc 145=some none:=by kernel_rfl
theorem Gg:loadT mc 148=some none:=by kernel_rfl
theorem abL:loadT mc 161=some none:=by kernel_rfl
theorem apW:loadT mc 173=some (some 4):=by kernel_rfl
theorem apX:loadT mc 177=some (some 5):=by kernel_rfl
theorem apY:loadT mc 186=some (some 12):=by kernel_rfl
theorem bR:loadT mc 2=some none:=by kernel_rfl
theorem CG:loadT mc 208=some none:=by kernel_rfl
theorem Jn:loadT mc 212=some none:=by kernel_rfl
theorem kH:loadT mc 22=some none:=by kernel_rfl
theorem jh:loadT mc 24=some (some 2):=by kernel_rfl
theorem apZ:loadT mc 245=some (some 4):=by kernel_rfl
theorem Qq:loadT mc 248=some (some 2):=by kernel_rfl
theorem LL:loadT mc 25=some none:=by kernel_rfl
theorem LM:loadT mc 256=some none:=by kernel_rfl
theorem LN:loadT mc 26=some none:=by kernel_rfl
theorem Ba:loadT mc 282=some none:=by kernel_rfl
theorem Ej:loadT mc 285=some none:=by kernel_rfl
theorem Gh:loadT mc 288=some none:=by kernel_rfl
theorem abM:loadT mc 29=some none:=by kernel_rfl
theorem aY:loadT mc 3=some none:=by kernel_rfl
theorem LO:loadT mc 302=some (some 2):=by kernel_rfl
theorem abN:loadT mc 306=some none:=by kernel_rfl
theorem mU:loadT mc 308=some (some 3):=by kernel_rfl
theorem VK:loadT mc 31=some none:=by kernel_rfl
theorem abO:loadT mc 32=some none:=by kernel_rfl
theorem CH:loadT mc 34=some (some 3):=by kernel_rfl
theorem VL:loadT mc 350=some (some 2):=by kernel_rfl
theorem Gi:loadT mc 36=some none:=by kernel_rfl
theorem VM:loadT mc 37=some none:=by kernel_rfl
theorem qR:loadT mc 4=some none:=by kernel_rfl
theorem dM:loadT mc 45=some (some 3):=by kernel_rfl
theorem hL:loadT mc 46=some none:=by kernel_rfl
theorem Gj:loadT mc 48=some (some 11):=by kernel_rfl
theorem sn:loadT mc 5=some none:=by kernel_rfl
theorem abP:loadT mc 52=some none:=by kernel_rfl
theorem Jo:loadT mc 57=some (some 6):=by kernel_rfl
theorem tf:loadT mc 64=some none:=by kernel_rfl
theorem gj:loadT mc 66=some (some 3):=by kernel_rfl
theorem pN:loadT mc 68=some (some 6):=by kernel_rfl
theorem VN:loadT mc 71=some none:=by kernel_rfl
theorem VO:loadT mc 72=some none:=by kernel_rfl
theorem Gk:loadT mc 74=some (some 2):=by kernel_rfl
theorem zU:loadT mc 85=some none:=by kernel_rfl
theorem LP:loadT mc 88=some none:=by kernel_rfl
theorem LQ:loadT mc 90=some (some 3):=by kernel_rfl
theorem abQ:loadT mc 98=some none:=by kernel_rfl
theorem VP:loadT mc 99=some none:=by kernel_rfl
theorem ut:eA mc 148=some (3,151,.int .i64):=by kernel_rfl
theorem Qr:eA mc 204=some (3,3,.int .i64):=by kernel_rfl
theorem LR:eA mc 208=some (3,2,.int .i64):=by kernel_rfl
theorem ap0:mC mc 245=false:=by kernel_rfl
theorem ap1:mC mc 254=false:=by kernel_rfl
theorem ap2:eX mc 101=some (.inl [(0,1),(1,1),(2,1),(3,1)]):=by kernel_rfl
theorem Bb:eX mc 110=some (.inl [(0,1),(1,1),(2,1),(3,1),(4,1)]):=by kernel_rfl
theorem ap3:eX mc 125=some (.inl [(0,6),(6,1)]):=by kernel_rfl
theorem ap4:eX mc 150=some (.inl [(0,2),(2,1),(3,1),(4,1),(5,1)]):=by kernel_rfl
theorem ap5:eX mc 163=some (.inl [(0,1),(1,4),(5,1)]):=by kernel_rfl
theorem ap6:eX mc 173=some (.inl [(0,1),(1,3)]):=by kernel_rfl
theorem ap7:eX mc 177=some (.inl [(0,1),(1,3),(4,1)]):=by kernel_rfl
theorem ap8:eX mc 178=some (.inl [(0,1),(1,1)]):=by kernel_rfl
theorem ap9:eX mc 179=some (.inr 2):=by kernel_rfl
theorem aqa:eX mc 186=some (.inl [(0,11),(11,1)]):=by kernel_rfl
theorem abR:eX mc 198=some (.inl [(0,1)]):=by kernel_rfl
theorem aqb:eX mc 210=some (.inl [(0,1)]):=by kernel_rfl
theorem aqc:eX mc 218=some (.inl [(0,3),(3,1),(4,1)]):=by kernel_rfl
theorem CI:eX mc 24=some (.inl [(0,1),(1,1)]):=by kernel_rfl
theorem Qs:eX mc 248=some (.inl [(0,1),(1,1)]):=by kernel_rfl
theorem aqd:eX mc 266=some (.inl [(0,1),(1,1)]):=by kernel_rfl
theorem aqe:eX mc 284=some (.inl [(0,1),(1,1)]):=by kernel_rfl
theorem aqf:eX mc 287=some (.inl [(0,1),(1,1),(2,1)]):=by kernel_rfl
theorem aqg:eX mc 290=some (.inl [(0,1),(1,1),(2,1)]):=by kernel_rfl
theorem VQ:eX mc 302=some (.inl [(0,1),(1,1)]):=by kernel_rfl
theorem aqh:eX mc 308=some (.inl [(0,1),(1,1),(2,1)]):=by kernel_rfl
theorem aqi:eX mc 34=some (.inl [(0,1),(1,1),(2,1)]):=by kernel_rfl
theorem aqj:eX mc 350=some (.inl [(0,1),(1,1)]):=by kernel_rfl
theorem Ek:eX mc 45=some (.inl [(0,1),(1,1),(2,1)]):=by kernel_rfl
theorem Qt:eX mc 48=some (.inl [(0,1),(1,1),(2,1),(3,1),(4,1),(5,3),(8,1),(9,1),(10,1)]):=by kernel_rfl
theorem abS:eX mc 57=some (.inl [(0,1),(1,1),(2,1),(3,1),(4,1),(5,1)]):=by kernel_rfl
theorem yR:eX mc 66=some (.inl [(0,1),(1,1),(2,1)]):=by kernel_rfl
theorem Gl:eX mc 68=some (.inl [(0,1),(1,1),(2,3),(5,1)]):=by kernel_rfl
theorem aqk:eX mc 74=some (.inl [(0,1),(1,1)]):=by kernel_rfl
theorem abT:eX mc 90=some (.inl [(0,1),(1,1),(2,1)]):=by kernel_rfl
theorem aql:eX mc 95=some (.inl [(0,2),(2,1),(3,1),(4,1),(5,1),(6,1),(7,1),(8,1),(9,1),(10,1)]):=by kernel_rfl
theorem aqm:UI mc 90 1=some (1,none):=by kernel_rfl
theorem abU:I8 mc 45=some [0,0,0]:=by kernel_rfl
theorem abV:gp mc 123=some ⟨186,[.int .i64 0,.int .i64 0,.int .i64 0,.int .i64 0,.int .i64 0,.int .i64 0,.int .i64 0,.int .i64 0,.bool false,.ag,.ag,.int .i64 0],12,128⟩:=by kernel_rfl
theorem VR:gp mc 22=some ⟨68,[.int .i64 0,.ag,.int .i64 0,.int .i64 0,.ag,.int .i64 0],6,80⟩:=by kernel_rfl
theorem El:gp mc 25=some ⟨45,[.int .i64 0,.int .i64 0,.int .i64 0],3,24⟩:=by kernel_rfl
theorem LS:gp mc 26=some ⟨5,[.int .u8 0],1,1⟩:=by kernel_rfl
theorem CJ:gp mc 282=some ⟨350,[.int .i64 0,.int .i64 0],2,16⟩:=by kernel_rfl
theorem yS:gp mc 288=some ⟨308,[.int .i64 0,.complex .f64 0 0,.int .i64 0],3,32⟩:=by kernel_rfl
theorem CK:gp mc 29=some ⟨48,[.int .i64 0,.int .i64 0,.int .i64 0,.int .i64 0,.int .i64 0,.int .i64 0,.int .i64 0,.int .i64 0,.bool false,.ag,.ag],11,120⟩:=by kernel_rfl
theorem abW:gp mc 31=some ⟨90,[.int .i64 0,.ag,.ag],3,56⟩:=by kernel_rfl
theorem abX:gp mc 32=some ⟨57,[.int .i64 0,.int .i64 0,.int .i64 0,.ag,.ag,.int .i64 0],6,80⟩:=by kernel_rfl
theorem oQ:gp mc 46=some ⟨3,[.int .i64 0],1,8⟩:=by kernel_rfl
theorem Em:gp mc 52=some ⟨110,[.int .i64 0,.int .i64 0,.int .i64 0,.int .i64 0,.bool false],5,40⟩:=by kernel_rfl
theorem VS:gp mc 64=some ⟨66,[.int .i64 0,.int .i64 0,.ag],3,40⟩:=by kernel_rfl
theorem Jp:gp mc 88=some ⟨4,[.bool false],1,1⟩:=by kernel_rfl
theorem abY:gp mc 98=some ⟨173,[.int .i64 0,.int .i64 0,.int .i64 0,.int .i64 0],4,32⟩:=by kernel_rfl
theorem abZ:gp mc 99=some ⟨177,[.int .i64 0,.int .i64 0,.int .i64 0,.int .i64 0,.int .i64 0],5,40⟩:=by kernel_rfl
theorem aqn:dC mc 108=none:=by kernel_rfl
theorem VT:dC mc 123=some 12:=by kernel_rfl
theorem En:dC mc 22=some 6:=by kernel_rfl
theorem aqo:dC mc 246=none:=by kernel_rfl
theorem VU:dC mc 25=some 3:=by kernel_rfl
theorem LU:dC mc 26=some 1:=by kernel_rfl
theorem zV:dC mc 282=some 2:=by kernel_rfl
theorem vy:dC mc 288=some 3:=by kernel_rfl
theorem Qu:dC mc 29=some 11:=by kernel_rfl
theorem un:dC mc 292=none:=by kernel_rfl
theorem aqp:dC mc 31=some 3:=by kernel_rfl
theorem aqq:dC mc 32=some 6:=by kernel_rfl
theorem iS:dC mc 46=some 1:=by kernel_rfl
theorem Qv:dC mc 52=some 5:=by kernel_rfl
theorem ab0:dC mc 64=some 3:=by kernel_rfl
theorem VV:dC mc 88=some 1:=by kernel_rfl
theorem aqr:dC mc 98=some 4:=by kernel_rfl
theorem aqs:dC mc 99=some 5:=by kernel_rfl
theorem Qw:mz mc 151=some (.pointer none):=by kernel_rfl
theorem LV:mz mc 2=some (.int .i64 0):=by kernel_rfl
theorem Qx:gV mc 101=some [.ag,.ag,.ag,.ag]:=by kernel_rfl
theorem oR:gV mc 110=some [.int .i64 0,.int .i64 0,.int .i64 0,.int .i64 0,.bool false]:=by kernel_rfl
theorem aqt:gV mc 125=some [.int .i64 0,.int .i64 0,.int .i64 0,.ag,.ag,.int .i64 0,.ag]:=by kernel_rfl
theorem aqu:gV mc 150=some [.ag,.int .i64 0,.ag,.int .i64 0,.dx,.fj]:=by kernel_rfl
theorem aqv:gV mc 163=some [.dx,.ag,.ag,.ag,.ag,.int .i64 0]:=by kernel_rfl
theorem ab1:gV mc 173=some [.int .i64 0,.int .i64 0,.int .i64 0,.int .i64 0]:=by kernel_rfl
theorem ab2:gV mc 177=some [.int .i64 0,.int .i64 0,.int .i64 0,.int .i64 0,.int .i64 0]:=by kernel_rfl
theorem VW:gV mc 178=some [.bool false,.int .i64 0]:=by kernel_rfl
theorem aqw:gV mc 179=some [.bool false,.int .i64 0,.bool false,.int .i64 0,.bool false,.int .i64 0,.bool false,.int .i64 0,.bool false,.int .i64 0,.bool false,.int .i64 0,.bool false,.int .i64 0,.bool false,.int .i64 0]:=by kernel_rfl
theorem ab3:gV mc 186=some [.int .i64 0,.int .i64 0,.int .i64 0,.int .i64 0,.int .i64 0,.int .i64 0,.int .i64 0,.int .i64 0,.bool false,.ag,.ag,.int .i64 0]:=by kernel_rfl
theorem ab4:gV mc 198=some [.ag]:=by kernel_rfl
theorem VX:gV mc 2=some [.int .i64 0]:=by kernel_rfl
theorem aqx:gV mc 210=some [.fj]:=by kernel_rfl
theorem aqy:gV mc 218=some [.int .i64 0,.int .i64 0,.ag,.int .i64 0,.nilIface]:=by kernel_rfl
theorem wG:gV mc 24=some [.ag,.int .i64 0]:=by kernel_rfl
theorem Qy:gV mc 248=some [.int .i64 0,.int .i64 0]:=by kernel_rfl
theorem aqz:gV mc 266=some [.dx,.int .i64 0]:=by kernel_rfl
theorem aqA:gV mc 284=some [.int .i64 0,.ag]:=by kernel_rfl
theorem aqB:gV mc 287=some [.int .i64 0,.int .i64 0,.fj]:=by kernel_rfl
theorem aqC:gV mc 290=some [.int .i64 0,.int .i64 0,.ag]:=by kernel_rfl
theorem VY:gV mc 3=some [.int .i64 0]:=by kernel_rfl
theorem Qz:gV mc 302=some [.int .i64 0,.int .i64 0]:=by kernel_rfl
theorem QA:gV mc 308=some [.int .i64 0,.complex .f64 0 0,.int .i64 0]:=by kernel_rfl
theorem QB:gV mc 34=some [.ag,.ag,.int .i64 0]:=by kernel_rfl
theorem aqD:gV mc 350=some [.int .i64 0,.int .i64 0]:=by kernel_rfl
theorem aqE:gV mc 37=some [.int .i64 0]:=by kernel_rfl
theorem tg:gV mc 45=some [.int .i64 0,.int .i64 0,.int .i64 0]:=by kernel_rfl
theorem aqF:gV mc 46=some [.ag]:=by kernel_rfl
theorem LW:gV mc 48=some [.int .i64 0,.int .i64 0,.int .i64 0,.int .i64 0,.int .i64 0,.int .i64 0,.int .i64 0,.int .i64 0,.bool false,.ag,.ag]:=by kernel_rfl
theorem Eo:gV mc 57=some [.int .i64 0,.int .i64 0,.int .i64 0,.ag,.ag,.int .i64 0]:=by kernel_rfl
theorem qe:gV mc 66=some [.int .i64 0,.int .i64 0,.ag]:=by kernel_rfl
theorem rM:gV mc 68=some [.int .i64 0,.ag,.int .i64 0,.int .i64 0,.ag,.int .i64 0]:=by kernel_rfl
theorem ab5:gV mc 74=some [.fj,.fj]:=by kernel_rfl
theorem LX:gV mc 90=some [.int .i64 0,.ag,.ag]:=by kernel_rfl
theorem aqG:gV mc 95=some [.ag,.int .i64 0,.int .i64 0,.int .i64 0,.dx,.ag,.int .i64 0,.int .i64 0,.ag,.ag,.ag]:=by kernel_rfl
theorem Jq:cH mc 101=some 4:=by kernel_rfl
theorem qS:cH mc 110=some 5:=by kernel_rfl
theorem QC:cH mc 123=some 1:=by kernel_rfl
theorem aqH:cH mc 173=some 4:=by kernel_rfl
theorem aqI:cH mc 177=some 5:=by kernel_rfl
theorem IT:cH mc 178=some 2:=by kernel_rfl
theorem aqJ:cH mc 186=some 12:=by kernel_rfl
theorem aqK:cH mc 198=some 1:=by kernel_rfl
theorem qT:cH mc 2=some 1:=by kernel_rfl
theorem aqL:cH mc 22=some 1:=by kernel_rfl
theorem wH:cH mc 24=some 2:=by kernel_rfl
theorem QD:cH mc 248=some 2:=by kernel_rfl
theorem VZ:cH mc 25=some 1:=by kernel_rfl
theorem V0:cH mc 26=some 1:=by kernel_rfl
theorem aqM:cH mc 266=some 2:=by kernel_rfl
theorem aqN:cH mc 282=some 1:=by kernel_rfl
theorem V1:cH mc 288=some 1:=by kernel_rfl
theorem aqO:cH mc 29=some 1:=by kernel_rfl
theorem qU:cH mc 3=some 1:=by kernel_rfl
theorem V2:cH mc 302=some 2:=by kernel_rfl
theorem QE:cH mc 308=some 3:=by kernel_rfl
theorem V3:cH mc 34=some 3:=by kernel_rfl
theorem IR:cH mc 350=some 2:=by kernel_rfl
theorem V4:cH mc 37=some 1:=by kernel_rfl
theorem vz:cH mc 45=some 3:=by kernel_rfl
theorem Gm:cH mc 46=some 1:=by kernel_rfl
theorem Ok:cH mc 48=some 11:=by kernel_rfl
theorem aqP:cH mc 52=some 1:=by kernel_rfl
theorem Gn:cH mc 57=some 6:=by kernel_rfl
theorem ab6:cH mc 64=some 1:=by kernel_rfl
theorem oS:cH mc 66=some 3:=by kernel_rfl
theorem rN:cH mc 68=some 6:=by kernel_rfl
theorem V5:cH mc 74=some 2:=by kernel_rfl
theorem V6:cH mc 88=some 1:=by kernel_rfl
theorem Jr:cH mc 90=some 3:=by kernel_rfl
theorem aqQ:cH mc 98=some 1:=by kernel_rfl
theorem aqR:cH mc 99=some 1:=by kernel_rfl
inductive b6 where
 | mk (op n:Int) (aM:List b6)
def b6.op:b6->Int | .mk o _ _=>o
def b6.num:b6->Int | .mk _ n _=>n
def b6.aM:b6->List b6 | .mk _ _ l=>l
mutual
def aH:b6->List V
 | .mk o n l=>[.int .i64 o,.int .i64 n,.af l.length (tW l)]
def tW:List b6->List V
 | []=>[]
 | k::r=>aH k++tW r
end
theorem ab7:∀l:List b6,tW l=l.flatMap aH
 | []=>by simp[tW]
 | k::r=>by rw[tW,ab7 r];simp
theorem rO(e:b6):(aH e).length=3:=by cases e;rfl
theorem LY(e:b6):(aH e).all (·.one)=true:=by cases e;rfl
theorem l3(o n:Int)(l:List b6):aH (.mk o n l)=[.int .i64 o,.int .i64 n,.af l.length (l.flatMap aH)]:=by rw[aH,ab7]
mutual
theorem V7:(e:b6)->bb (aH e)
 | .mk o n l=>bb.cons (a8.int _ _) (bb.cons (a8.int _ _) (bb.cons (a8.af (ab8 l)) bb.nil))
theorem ab8:(l:List b6)->bb (tW l)
 | []=>by rw[tW];exact bb.nil
 | k::r=>by rw[tW];exact(V7 k).append (ab8 r)
end
def dR:List Int:=[0,0,0,0,0,0,2,2,2,2,2,2,2,3,1,2,2]
def gv:List V:=dR.map (.int .i64)
def hB(h:I):Prop:=h.glob 2=some gv
def nE:b6->Bool
 | .mk o n l=>decide (1<=o/\o<=16)&&(decide ((l.length:Int)=dR.getD o.toNat 0)&&(decide (n=0)||decide (o=1)))
theorem aqS(e:b6)(h:I)(F:hB h):Pure mc 168 [.agg (aH e)] h (.bool (nE e)):=by
 refine Pure.val (a8.bool _) ?_;obtain⟨o,n,l⟩:=e;refine bd Tryz.func168 rfl ?_;have av:(V.agg (aH (.mk o n l))).cells=some [.int .i64 o,.int .i64 n,.af l.length (l.flatMap aH)]:=by rw[l3];rfl
 by_cases z:o<1
 ·have i:nE (.mk o n l)=false:=by simp[nE];omega
  simp only[ae,ds,AS,pn,aY,av,z,aP,aBD,ac];exact ar ⟨by rw[i],J.push _ _ _⟩
 by_cases E:16<o
 ·have i:nE (.mk o n l)=false:=by simp[nE];omega
  simp only[ae,ds,AS,pn,aY,av,z,E,aP,aBD,ac];exact ar ⟨by rw[i],J.push _ _ _⟩
 simp only[ae,ds,AS,pn,aY,av,z,E];refine aS.cS none_ [] (.q 0 (.q 1 (.q 2 (.q 3 (.q 4 (.q 5 (.q 6 (.q 7 (.q 8 (.q 9 (.q 10 (.q 11 (.q 12 (.q 13 (.q 14 (.q 15 (.q 16 (.q 17 (.q 18 .done))))))))))))))))))) ?_;have A:∀(f:aj) (a:aR),aj.eval f (h.push a) (.global 2)=.at gv:=λf a=>Ks (by rw[FT];exact F)
 obtain⟨k,G,H⟩:∃k:Nat,o=(k:Int)/\k<17:=⟨o.toNat,by omega,by omega⟩
 subst G;have B:∀m,cO (aR.cells [.int .i64 (k:Int),.int .i64 n,.af l.length (l.flatMap aH)] 66 none) m=if m<=3 then some ([V.int .i64 (k:Int),.int .i64 n,.af l.length (l.flatMap aH)].drop m)else none:=λm=>rfl
 have C:(if(0:Int)<=(k:Int)/\(k:Int)<((17:Nat):Int)/\((k:Int).toNat*1)<=gv.length then some (V.at (gv.drop ((k:Int).toNat*1)))else none)=some (.at (.int .i64 (dR.getD k 0)::gv.drop (k+1))):=by
  rw[if_pos ⟨by omega,by omega,by simp[gv,dR];omega⟩]
  have:gv.drop ((k:Int).toNat*1)=.int .i64 (dR.getD k 0)::gv.drop (k+1):=by
   rw[ayQ,ajD,azg (by simp[gv,dR];omega)]
   simp[gv,ayO,IA (show k<dR.length by simp[dR];omega)]
  rw[this]
 by_cases j:(l.length:Int)=dR.getD k 0
 ·have s:((l.length:Int)==dR.getD k 0)=true:=by simpa using j
  by_cases u:n=0
  ·have D:(n==0)=true:=by simpa using u
   have i:nE (.mk (k:Int) n l)=true:=by simp[nE,j,u];omega
   simp only[ae,bt,ds,By,LA,pn,Jj,rJ,zT,bR,aY,tf,un,B,A,C,s,D,aP,aBD,ac];exact ar ⟨by rw[i],J.push _ _ _⟩
  ·have D:(n==0)=false:=by simpa using u
   have i:nE (.mk (k:Int) n l)=((k:Int)==1):=by rw[Bool.eq_iff_iff];simp[nE,j,u];omega
   simp only[ae,bt,ds,By,LA,pn,Jj,rJ,zT,bR,aY,tf,un,B,A,C,s,D,aP,aBD,ac];exact ar ⟨by rw[i],J.push _ _ _⟩
 ·have s:((l.length:Int)==dR.getD k 0)=false:=by simpa using j
  have i:nE (.mk (k:Int) n l)=false:=by simp[nE]at j⊢;omega
  simp only[ae,bt,ds,By,LA,pn,rJ,zT,aY,tf,un,B,A,C,s,aP,aBD,ac];exact ar ⟨by rw[i],J.push _ _ _⟩
def kI(f:Nat->b6->Option Nat)(room:Nat):Nat->List b6->Option Nat
 | m,[]=>some m
 | m,k::r=>match f (room-m) k with
  | some c=>kI f room (m+c) r
  | none=>none
def h9:Nat->Nat->b6->Option Nat
 | 0,_,_=>none
 | l+1,a,e=>if a=0\/nE e=false then none else kI (h9 l) a 1 e.aM
theorem ab9{f:Nat->b6->Option Nat}{room:Nat}(a:∀q e c,f q e=some c->1<=c/\c<=q):∀{m:Nat} {l:List b6} {c:Nat},1<=m->m<=room->kI f room m l=some c->1<=c/\c<=room
 | m,[],c,i,j,h=>by simp[kI]at h;omega
 | m,k::r,c,i,j,h=>by
  unfold kI at h;split at h
  ·rename_i d s;have:=a _ _ _ s;exact ab9 a (by omega) (by omega) h
  ·cases h
theorem aca:∀{l room:Nat} {e:b6} {c:Nat},h9 l room e=some c->1<=c/\c<=room
 | 0,_,_,_,h=>by simp[h9]at h
 | l+1,room,e,c,h=>by
  unfold h9 at h;split at h
  ·cases h
  ·rename_i a;exact ab9 (λq e c=>aca) (by omega) (by omega) h
def xG:Option Nat->V
 | some m=>.tuple [.int .i64 (m:Nat),.bool true]
 | none=>.tuple [.int .i64 0,.bool false]
theorem aqU{o n:Int}{l:List b6}(h:nE (.mk o n l)=true):l.length<=3:=by
 simp only[nE,ajC,az2,decide_eq_true_eq]at h;obtain⟨⟨i,j⟩,m,_⟩:=h;have:∀k:Nat,dR.getD k 0<=3:=λk=>by
  by_cases a:k<17
  ·revert a;revert k;decide
  ·rw[ayO,List.getElem?_eq_none (by simp[dR];omega)];decide
 have:=this o.toNat;omega
theorem LZ{l:List b6}{k:Nat}(a:k<l.length){kk:aOT}:gP mc 64 (.af l.length (l.flatMap aH)) (.int kk (k:Int))=some (.at (aH l[k]++(l.drop (k+1)).flatMap aH)):=tR rO a ab0
theorem acb:∀(l room:Nat) (e:b6) (h:I),hB h->l<=16->room<=64->Pure mc 142 [.agg (aH e),.int .i64 (l:Nat),.int .i64 (room:Nat)] h (xG (h9 l room e))
 | 0,room,e,h,G,_,_=>by
  refine Pure.val (a8.tuple (bb.cons (a8.int _ _) (bb.cons (a8.bool _) bb.nil))) ?_;refine bd aFm rfl ?_;have av:(V.agg (aH e)).cells=some (aH e):=rfl;have D:(((0:Nat):Int)==0)=true:=rfl;simp only[ae,ds,av,D,aP,aBE,da];exact ar ⟨rfl,J.push _ _ _⟩
 | l+1,room,e,h,G,ax,aJ=>by
  have Y:a8 (xG (h9 (l+1) room e)):=by
   cases h9 (l+1) room e<;>exact a8.tuple (bb.cons (a8.int _ _) (bb.cons (a8.bool _) bb.nil))
  refine Pure.val Y ?_;refine bd aFm rfl ?_;have av:(V.agg (aH e)).cells=some (aH e):=rfl;have D:(((l+1:Nat):Int)==0)=false:=by simp only[beq_eq_false_iff_ne,ne_eq];omega
  by_cases H:room=0
  ·have L:((room:Int)==0)=true:=by simp[H]
   have z:h9 (l+1) room e=none:=by simp[h9,H]
   simp only[ae,ds,av,D,L,aP,aBE,da];exact ar ⟨by rw[z];rfl,J.push _ _ _⟩
  have L:((room:Int)==0)=false:=by simp only[beq_eq_false_iff_ne,ne_eq];omega
  have Z:cO (aR.cells (aH e) 66 none) 0=some (aH e):=by cases e;rfl
  have mm:cJ (some (some 3)) (some (aH e))=some (.agg (aH e)):=by cases e;rfl
  have fy:∀a,hB (h.push a):=λa=>by unfold hB;rw[FT];exact G
  simp only[ae,ds,gj,av,D,L,Z,mm];refine bO (aqS e _ (fy _)) ?_;by_cases M:nE e=false
  ·have z:h9 (l+1) room e=none:=by simp[h9,M]
   simp only[ae,ds,M,aP,aBE,da];exact ar ⟨by rw[z];rfl,J.push _ _ _⟩
  have N:nE e=true:=by simpa using M
  obtain⟨o,n,j⟩:=e;have mn:=aqU N;have z:h9 (l+1) room (.mk o n j)=kI (h9 l) room 1 j:=by simp[h9,H,N,b6.aM]
  have kg:cO (aR.cells (aH (.mk o n j)) 66 none) 2=some [.af j.length (j.flatMap aH)]:=by rw[l3];rfl
  simp only[ae,ds,rJ,zT,tf,N,kg];refine aS.bI (α:=Nat×Nat) (λx f h'=>f 1=.int .i64 ((l+1:Nat):Int)/\f 2=.int .i64 (room:Nat)/\f 25=.af j.length (j.flatMap aH)/\f 26=.int .i64 (j.length:Int)/\f 27=.int .i64 (x.1:Nat)/\f 8=.int .i64 (x.2:Nat)/\x.1<=j.length/\1<=x.2/\x.2<=room/\J h h' none_/\kI (h9 l) room 1 j=kI (h9 l) room x.2 (j.drop x.1))
   (λx=>j.length-x.1) (0,1) ⟨rfl,rfl,rfl,rfl,rfl,rfl,Nat.zero_le _,BY _,by omega,J.push _ _ _,rfl⟩ ?_
  rintro⟨i,m⟩ f h' ⟨T,W,C,u,s,E,hi,x5,o1,F,B⟩
  simp only at s E hi x5 o1 B;refine wpS ?_;by_cases X:i<j.length;rotate_left
  ·have O:=eC (a:=i) (b:=j.length) (by omega)
   rw[List.drop_of_length_le (by omega)]at B
   simp only[ae,ds,u,s,E,O,aP,aBE,da];exact ar ⟨by rw[z,B];rfl,F⟩
  ·have O:=dV (a:=i) (b:=j.length) (by omega)
   rw[azg X]at B;have dL:=LZ (kk:=.i64) X;generalize j[i]=A at *;have jC:∀(q:List V),cJ (some (some 3)) (some (aH A++q))=some (.agg (aH A)):=λq=>be (rO A);have cb:(V.agg (aH A)).cells=some (aH A):=rfl;have dA:bA (some 3) (aR.cells [.int .i64 0,.int .i64 0,.ag] 66 none) 0 (aH A)=some (.cells (aH A) 66 none):=by
    rw[uR (n:=3) (rO A) (LY A),if_pos (by decide)];cases A;rfl
   have L0:cO (aR.cells (aH A) 66 none) 0=some (aH A):=by cases A;rfl
   have jS:cJ (some (some 3)) (some (aH A))=some (.agg (aH A)):=by cases A;rfl
   have aV:aOT.i64.wrap (((l+1:Nat):Int)-1)=(l:Int):=by rw[Go.IntWalk.i64_in _ (by omega)];omega
   have cE:aOT.i64.wrap ((room:Int)-(m:Int))=((room-m:Nat):Int):=by rw[Go.IntWalk.i64_in _ (by omega)];omega
   have bT:=hR (i:=i) (by omega)
   have Q:hB h':=by unfold hB;rw[F.glob];exact G
   have ih:=acb l (room-m) A (h'.push (.cells (aH A) 66 none)) (by unfold hB;rw[FT];exact Q) (by omega) (by omega)
   simp only[ae,ds,gj,qe,oS,T,W,C,u,s,E,O,dL,jC,cb,dA,L0,jS,aV,cE];refine bO ih ?_;cases R:h9 l (room-m) A with
   | none=>
    have S:kI (h9 l) room 1 j=none:=by rw[B];simp[kI,R]
    simp only[ae,ds,xG,aP,aBE,da];exact ar ⟨by rw[z,S];rfl,F.bp _⟩
   | some c=>
    have cM:=aca R;have iI:aOT.i64.wrap ((m:Int)+(c:Int))=((m+c:Nat):Int):=by rw[Go.IntWalk.i64_in _ (by omega)];omega
    simp only[ae,ds,s,E,xG,bT,iI];exact ar ⟨(i+1,m+c),⟨T,W,C,u,rfl,rfl,by omega,by simp only;omega,by simp only;omega,F.bp _,by rw[B];simp[kI,R]⟩,by simp only;omega⟩
def dj(e:b6):Bool:=(h9 16 64 e).isSome
theorem Gp(e:b6)(h:I)(j:hB h):Pure mc 104 [.agg (aH e)] h (.bool (dj e)):=by
 refine Pure.val (a8.bool _) ?_;refine bd Tryz.func104 rfl ?_;have av:(V.agg (aH e)).cells=some (aH e):=rfl;have m:cO (aR.cells (aH e) 66 none) 0=some (aH e):=by cases e;rfl
 have q:cJ (some (some 3)) (some (aH e))=some (.agg (aH e)):=by cases e;rfl
 have s:∀a,hB (h.push a):=λa=>by unfold hB;rw[FT];exact j
 simp only[ae,ds,gj,av,m,q];refine bO (acb 16 64 e _ (s _) (by omega) (by omega)) ?_
 cases i:h9 16 64 e with
 | none=>
  simp only[ae,ds,xG,aP,aFn,ac];exact ar ⟨by simp[dj,i],J.push _ _ _⟩
 | some c=>
  simp only[ae,ds,xG,aP,aFn,ac];exact ar ⟨by simp[dj,i],J.push _ _ _⟩
def po(P:aOR)(f:FuncId)(args:List V)(h:I)(o:Option V):Prop:=b4 P f args h (λr h'=>o=some r/\h'=h) (λh'=>h'=h/\o=none)
theorem po.pure{P:aOR}{f:FuncId}{args:List V}{h:I}{v:V}(av:po P f args h (some v)):Pure P f args h v :=
 b4.mono av (λr h' ⟨ay,bc⟩=>⟨(Option.some.inj ay).symm,bc⟩) λh' ⟨_,e⟩=>by cases e
theorem Pure.e{P:aOR}{f:FuncId}{args:List V}{h:I}{v:V}(av:Pure P f args h v):po P f args h (some v) :=
 b4.mono av (λr h' ⟨ay,bc⟩=>⟨by rw[ay],bc⟩) λh' e=>e.elim
theorem po.of{P:aOR}{f:FuncId}{args:List V}{h:I}(o:Option V)(C:∀v,o=some v->a8 v)(av:b4 P f args h (λr h'=>o=some r/\J h h' none_) (λh'=>J h h' none_/\o=none)):po P f args h o:=by
 intro ρ B D w j s aT;refine(av ρ B D w j s aT).mono λe w' U=>?_;rcases U with⟨ρ',r,E,h',u,F,z,i,ay,A⟩|⟨ρ',G,h',u,H,z,i,A,L⟩
 ·exact .inl ⟨⟨ρ.ren,ρ'.frz,ρ.dfr⟩,r,E,h,u,C r ay _ _ _ F λ_ _ h=>h,s.forget z i A,⟨λ_ _ h=>h,i.frz,rfl⟩,ay,rfl⟩
 ·exact .inr ⟨⟨ρ.ren,ρ'.frz,ρ.dfr⟩,G,h,u,H,s.forget z i A,⟨λ_ _ h=>h,i.frz,rfl⟩,rfl,L⟩
def jT(o:Option Int):Option V:=o.map (.int .i64)
theorem aqV(o:Option Int):∀v,jT o=some v->a8 v:=λv h=>by
 obtain⟨n,_,rfl⟩:=azL.1 h;exact a8.int _ _
theorem acf(b:Bool)(h:I):Pure mc 239 [.bool b] h (.int .i64 (if b then 1 else 0)):=by
 refine bd Tryz.func239 rfl ?_;cases b <;>
 ·simp only[ae,ds,reduceCtorEq,aP,Tryz.results239,ac];exact ar ⟨rfl,rfl⟩
theorem acg(n:Int)(h:I):po mc 238 [.int .i64 n] h (if n=0 then none else some (.int .i64 n)):=by
 refine b4.tG (c:=_) Tryz.func238 rfl (by kernel_rfl) (by simp) ?_
 by_cases a:n=0
 ·have c:(n==0)=true:=by simp[a]
  simp only[ae,ds,reduceCtorEq,apQ,c,AX];exact ar ⟨rfl,by rw[if_pos a]⟩
 ·have c:(n==0)=false:=by simp[a]
  simp only[ae,ds,reduceCtorEq,c,aP,Tryz.results238,ac];exact ar ⟨by rw[if_neg a],rfl⟩
def mo(n:Int):Int:=aOT.i64.wrap n
def vA(op a b:Int):Option Int :=
 if op=6 then some (mo (a+b))else if op=7 then some (mo (a-b))else if op=8 then some (mo (a*b))
 else if op=9 then(if b=0 then none else some (mo (a.tdiv b)))else if op=10 then(if b=0 then none else some (a.tmod b))
 else if op=11 then some (if a<b then 1 else 0)else if op=12 then some (if a=b then 1 else 0)else if op=15 then some (min a b)else some (max a b)
theorem aqW(op a b:Int)(h:I):po mc 218 [.int .i64 op,.int .i64 a,.int .i64 b] h (jT (vA op a b)):=by
 refine b4.tG (c:=_) Tryz.func218 rfl (by kernel_rfl) (by simp) ?_
 by_cases z:op=6
 ·have c:(op==6)=true:=by simp[z]
  simp only[ae,ds,reduceCtorEq,c,aP,aAp,ac];exact ar ⟨by simp[vA,z,jT,mo],rfl⟩
 have i:(op==6)=false:=by simp[z]
 by_cases A:op=7
 ·have c:(op==7)=true:=by simp[A]
  simp only[ae,ds,reduceCtorEq,i,c,aP,aAp,ac];exact ar ⟨by simp[vA,A,jT,mo],rfl⟩
 have j:(op==7)=false:=by simp[A]
 by_cases B:op=8
 ·have c:(op==8)=true:=by simp[B]
  simp only[ae,ds,reduceCtorEq,i,j,c,aP,aAp,ac];exact ar ⟨by simp[vA,B,jT,mo],rfl⟩
 have m:(op==8)=false:=by simp[B]
 by_cases q:op=9
 ·have c:(op==9)=true:=by simp[q]
  simp only[ae,ds,reduceCtorEq,i,j,m,c];refine AW abj (acg b h) (λr h' ⟨ay,bc⟩=>?_) (λh' ⟨ay,bc⟩=>?_)
  ·subst bc;by_cases ak:b=0
   ·rw[if_pos ak]at ay;cases ay
   rw[if_neg ak]at ay;cases ay;simp only[ae,ds,ZY ak,aP,aAp,ac];exact ar ⟨by simp[vA,q,ak,jT,mo],rfl⟩
  ·subst ay;have ak:b=0:=Classical.byContradiction λak=>by rw[if_neg ak]at bc;cases bc
   simp only[ae,AX];exact ar ⟨rfl,by simp[vA,q,ak,jT]⟩
 have s:(op==9)=false:=by simp[q]
 by_cases u:op=10
 ·have c:(op==10)=true:=by simp[u]
  simp only[ae,ds,reduceCtorEq,i,j,m,s,c];refine AW abj (acg b h) (λr h' ⟨ay,bc⟩=>?_) (λh' ⟨ay,bc⟩=>?_)
  ·subst bc;by_cases ak:b=0
   ·rw[if_pos ak]at ay;cases ay
   rw[if_neg ak]at ay;cases ay;simp only[ae,ds,Cr ak,aP,aAp,ac];exact ar ⟨by simp[vA,u,ak,jT],rfl⟩
  ·subst ay;have ak:b=0:=Classical.byContradiction λak=>by rw[if_neg ak]at bc;cases bc
   simp only[ae,AX];exact ar ⟨rfl,by simp[vA,u,ak,jT]⟩
 have C:(op==10)=false:=by simp[u]
 by_cases D:op=11
 ·have c:(op==11)=true:=by simp[D]
  simp only[ae,ds,reduceCtorEq,i,j,m,s,C,c];refine bO (acf _ h) ?_;simp only[ae,ds,aP,aAp,ac];exact ar ⟨by simp[vA,D,jT],rfl⟩
 have G:(op==11)=false:=by simp[D]
 by_cases E:op=12
 ·have c:(op==12)=true:=by simp[E]
  simp only[ae,ds,reduceCtorEq,i,j,m,s,C,G,c];refine bO (acf _ h) ?_;simp only[ae,ds,aP,aAp,ac];exact ar ⟨by simp[vA,E,jT],rfl⟩
 have L:(op==12)=false:=by simp[E]
 by_cases F:op=15
 ·have c:(op==15)=true:=by simp[F]
  simp only[ae,ds,reduceCtorEq,i,j,m,s,C,G,L,c,aP,aAp,ac];exact ar ⟨by simp[vA,F,jT],rfl⟩
 have H:(op==15)=false:=by simp[F]
 simp only[ae,ds,reduceCtorEq,i,j,m,s,C,G,L,H,aP,aAp,ac];exact ar ⟨by simp[vA,z,A,B,q,u,D,E,F,jT],rfl⟩
def c2(j rv m i:Int):Nat->b6->Option Int
 | 0,_=>none
 | d+1,.mk o n q=>
  if o=1 then some n else if o=2 then some j else if o=3 then some rv else if o=4 then some m else if o=5 then some i
  else if o=14 then((q[0]?).bind (c2 j rv m i d)).map λa=>mo (-a)
  else if o=13 then((q[0]?).bind (c2 j rv m i d)).bind λa=>if a=0 then(q[2]?).bind (c2 j rv m i d)else(q[1]?).bind (c2 j rv m i d)
  else((q[0]?).bind (c2 j rv m i d)).bind λa=>((q[1]?).bind (c2 j rv m i d)).bind λb=>vA o a b
def wI(d:Nat)(e:b6):Prop:=∃a c,h9 d a e=some c
theorem aci{f:Nat->b6->Option Nat}{room:Nat}:∀{m:Nat} {l:List b6} {c:Nat},kI f room m l=some c->∀k∈l,∃q c,f q k=some c
 | m,[],c,h,k,i=>by simp at i
 | m,a::r,c,h,k,i=>by
  unfold kI at h;split at h
  ·rename_i d j;rcases Iz.1 i with rfl|i
   ·exact⟨_,_,j⟩
   ·exact aci h k i
  ·cases h
theorem wI.fits{d:Nat}{e:b6}(h:wI (d+1) e):nE e=true/\∀k∈e.aM,wI d k:=by
 obtain⟨room,c,h⟩:=h;unfold h9 at h;split at h
 ·cases h
 ·rename_i j;refine⟨?_,λk i=>aci h k i⟩;cases s:nE e<;>simp_all
theorem wI.zero{e:b6}(h:wI 0 e):False:=by
 obtain⟨room,c,h⟩:=h;simp[h9]at h
theorem V8{a:List b6}{k:Nat}{A:b6}(h:a[k]?=some A):∃r,gP mc 64 (.af a.length (a.flatMap aH)) (.int .i64 (k:Int))=some (.at (aH A++r)) :=
 P4 rO rfl h ab0
theorem V9{o n:Int}{a:List b6}(h:nE (.mk o n a)=true):(a.length:Int)=dR.getD o.toNat 0/\1<=o/\o<=16:=by
 simp only[nE,ajC,az2,decide_eq_true_eq]at h;exact⟨h.2.1,h.1⟩
theorem Gq(j rv m i:Int):∀(d:Nat) (e:b6) (h:I),wI d e->po mc 201 [.agg (aH e),.agg [.int .i64 j,.int .i64 rv,.int .i64 m],.int .i64 i] h (jT (c2 j rv m i d e))
 | 0,e,h,aZ=>aZ.zero.elim
 | d+1,.mk o n s,h,aZ=>by
  obtain⟨fG,CL⟩:=aZ.fits;obtain⟨D,nK,ky⟩:=V9 fG;refine po.of _ (aqV _) ?_;rw[l3];refine b4.tG (c:=_) Tryz.func201 rfl (by kernel_rfl) (by simp) ?_
  have u:∀a b,J h ((h.push a).push b) none_:=λa b=>(J.push _ _ _).bp _;by_cases T:o=1
  ·have c:(o==1)=true:=by simp[T]
   simp only[ae,ds,AS,By,pn,Jj,bR,aY,c,aP,aAq,ac];exact ar ⟨by simp[c2,T,jT],u _ _⟩
  have E:(o==1)=false:=by simp[T]
  by_cases W:o=2
  ·have c:(o==2)=true:=by simp[W]
   simp only[ae,ds,AS,vx,pn,bR,aY,E,c,aP,aAq,ac];exact ar ⟨by simp[c2,W,jT],u _ _⟩
  have G:(o==2)=false:=by simp[W]
  by_cases X:o=3
  ·have c:(o==3)=true:=by simp[X]
   simp only[ae,ds,AS,By,LF,pn,bR,aY,E,G,c,aP,aAq,ac];exact ar ⟨by simp[c2,X,jT],u _ _⟩
  have M:(o==3)=false:=by simp[X]
  by_cases Y:o=4
  ·have c:(o==4)=true:=by simp[Y]
   simp only[ae,ds,AS,By,td,pn,bR,aY,E,G,M,c,aP,aAq,ac];exact ar ⟨by simp[c2,Y,jT],u _ _⟩
  have Z:(o==4)=false:=by simp[Y]
  by_cases bM:o=5
  ·have c:(o==5)=true:=by simp[bM]
   simp only[ae,ds,AS,pn,aY,E,G,M,Z,c,aP,aAq,ac];exact ar ⟨by simp[c2,bM,jT],u _ _⟩
  have c5:(o==5)=false:=by simp[bM]
  have H:∀(A:b6) (q:List V),cJ (some (some 3)) (some (aH A++q))=some (.agg (aH A)):=λA q=>be (rO A);have F:∀{A:Type} {l:List A} {k:Nat},k<l.length->∃x,l[k]?=some x:=λhk=>⟨_,IA hk⟩;have hP:0<s.length:=by
   have:(1:Int)<=dR.getD o.toNat 0:=by
    have:o.toNat=6\/o.toNat=7\/o.toNat=8\/o.toNat=9\/o.toNat=10\/o.toNat=11\/o.toNat=12\/o.toNat=13\/o.toNat=14\/o.toNat=15\/o.toNat=16:=by omega
    rcases this with q|q|q|q|q|q|q|q|q|q|q<;>rw[q]<;>decide
   omega
  obtain⟨A,O⟩:=F hP;obtain⟨n9,Sk⟩:=V8 O;have dL:gP mc 64 (.af s.length (s.flatMap aH)) (.int .i64 0)=some (.at (aH A++n9)):=Sk;clear Sk;have lN:=CL A (azq O);by_cases HB:o=14
  ·have c:(o==14)=true:=by simp[HB]
   have z:c2 j rv m i (d+1) (.mk o n s)=(c2 j rv m i d A).map λa=>mo (-a):=by simp[c2,HB,O]
   generalize s.length=N at *;generalize s.flatMap aH=Q at *;simp only[ae,ds,AS,pn,aY,E,G,M,Z,c5,c];refine aS.tP [6] (by kernel_rfl) (by kernel_rfl) (by kernel_rfl) ?_
   simp only[ae,zE,zD,zF,zG,pk,aBF,azN,az3,az8,az9,ds,AS,By,rJ,dM,tf,gj,dL,H];refine AW F8 (Gq j rv m i d A _ lN) (λr h' ⟨ay,bc⟩=>?_) (λh' ⟨ay,bc⟩=>?_)
   ·subst bc;obtain⟨a,aT,rfl⟩:=azL.1 ay;simp only[ae,I5,zE,zD,zF,zG,pk,azN,az3,az8,az9,ds,AS,aP,aAq,ac];exact ar ⟨by simp[z,aT,jT,mo],u _ _⟩
   ·subst ay;simp only[ae,KJ,AS,AX];have:c2 j rv m i d A=none:=by simpa [jT]using bc
    exact ar ⟨u _ _,by simp[z,this,jT]⟩
  have Sl:(o==14)=false:=by simp[HB]
  have h6:1<s.length:=by
   have:(2:Int)<=dR.getD o.toNat 0:=by
    have:o.toNat=6\/o.toNat=7\/o.toNat=8\/o.toNat=9\/o.toNat=10\/o.toNat=11\/o.toNat=12\/o.toNat=13\/o.toNat=15\/o.toNat=16:=by omega
    rcases this with q|q|q|q|q|q|q|q|q|q<;>rw[q]<;>decide
   omega
  obtain⟨B,b3⟩:=F h6;obtain⟨cL,Sm⟩:=V8 b3;have bV:gP mc 64 (.af s.length (s.flatMap aH)) (.int .i64 1)=some (.at (aH B++cL)):=Sm;clear Sm;have R:=CL B (azq b3);by_cases S:o=13
  ·have c:(o==13)=true:=by simp[S]
   have pI:2<s.length:=by
    rw[S]at D;have:(s.length:Int)=3:=D;omega
   obtain⟨C,vB⟩:=F pI;obtain⟨dB,Sn⟩:=V8 vB;have eM:gP mc 64 (.af s.length (s.flatMap aH)) (.int .i64 2)=some (.at (aH C++dB)):=Sn;clear Sn;have aa:=CL C (azq vB);have z:c2 j rv m i (d+1) (.mk o n s)=(c2 j rv m i d A).bind λa=>if a=0 then c2 j rv m i d C else c2 j rv m i d B:=by simp[c2,S,O,b3,vB]
   generalize s.length=N at *;generalize s.flatMap aH=Q at *;simp only[ae,ds,AS,pn,aY,E,G,M,Z,c5,Sl,c];refine aS.tP [6] (by kernel_rfl) (by kernel_rfl) (by kernel_rfl) ?_
   simp only[ae,zE,zD,zF,zG,pk,aBF,azN,az3,az8,az9,ds,AS,By,rJ,dM,tf,gj,dL,H];refine AW F8 (Gq j rv m i d A _ lN) (λr h' ⟨ay,bc⟩=>?_) (λh' ⟨ay,bc⟩=>?_)
   ·subst bc;obtain⟨a,aT,rfl⟩:=azL.1 ay;by_cases L:a=0
    ·have q:(a !=0)=false:=by simp[L]
     simp only[ae,I5,zE,zD,zF,zG,pk,azN,az3,az8,az9,ds,AS,q];refine aS.tP [6] (by kernel_rfl) (by kernel_rfl) (by kernel_rfl) ?_
     simp only[ae,zE,zD,zF,zG,pk,aBF,azN,az3,az8,az9,ds,AS,By,rJ,dM,tf,gj,eM,H];refine AW F8 (Gq j rv m i d C _ aa) (λr h' ⟨ay,bc⟩=>?_) (λh' ⟨ay,bc⟩=>?_)
     ·subst bc;obtain⟨b,ak,rfl⟩:=azL.1 ay;simp only[ae,I5,zE,zD,zF,zG,pk,azN,az3,az8,az9,ds,AS,aP,aAq,ac];exact ar ⟨by simp[z,aT,L,ak,jT],u _ _⟩
     ·subst ay;simp only[ae,KJ,AS,AX];have:c2 j rv m i d C=none:=by simpa [jT]using bc
      exact ar ⟨u _ _,by simp[z,aT,L,this,jT]⟩
    ·have q:(a !=0)=true:=by simp[L]
     simp only[ae,I5,zE,zD,zF,zG,pk,azN,az3,az8,az9,ds,AS,q];refine aS.tP [6] (by kernel_rfl) (by kernel_rfl) (by kernel_rfl) ?_
     simp only[ae,zE,zD,zF,zG,pk,aBF,azN,az3,az8,az9,ds,AS,By,rJ,dM,tf,gj,bV,H];refine AW F8 (Gq j rv m i d B _ R) (λr h' ⟨ay,bc⟩=>?_) (λh' ⟨ay,bc⟩=>?_)
     ·subst bc;obtain⟨b,ak,rfl⟩:=azL.1 ay;simp only[ae,I5,zE,zD,zF,zG,pk,azN,az3,az8,az9,ds,AS,aP,aAq,ac];exact ar ⟨by simp[z,aT,L,ak,jT],u _ _⟩
     ·subst ay;simp only[ae,KJ,AS,AX];have:c2 j rv m i d B=none:=by simpa [jT]using bc
      exact ar ⟨u _ _,by simp[z,aT,L,this,jT]⟩
   ·subst ay;simp only[ae,KJ,AS,AX];have:c2 j rv m i d A=none:=by simpa [jT]using bc
    exact ar ⟨u _ _,by simp[z,this,jT]⟩
  have ab:(o==13)=false:=by simp[S]
  have z:c2 j rv m i (d+1) (.mk o n s)=(c2 j rv m i d A).bind λa=>(c2 j rv m i d B).bind λb=>vA o a b:=by simp[c2,T,W,X,Y,bM,HB,S,O,b3]
  generalize s.length=N at *;generalize s.flatMap aH=Q at *;simp only[ae,ds,AS,pn,aY,E,G,M,Z,c5,Sl,ab];refine aS.tP [6] (by kernel_rfl) (by kernel_rfl) (by kernel_rfl) ?_
  simp only[ae,zE,zD,zF,zG,pk,aBF,azN,az3,az8,az9,ds,AS,By,rJ,dM,tf,gj,dL,H];refine AW F8 (Gq j rv m i d A _ lN) (λr h' ⟨ay,bc⟩=>?_) (λh' ⟨ay,bc⟩=>?_)
  ·subst bc;obtain⟨a,aT,rfl⟩:=azL.1 ay;simp only[ae,I5,zE,zD,zF,zG,pk,azN,az3,az8,az9,ds,AS];refine aS.cS none_ [9,10] (.q 0 (.q 1 (.q 2 (.q 3 (.q 4 (.q 5 (.q 6 (.q 7 (.q 8 (.e 9 (.a 10 (.q 11 .done)) .stop)))))))))) ?_;simp only[ae,bt,ds,AS,By,pn,rJ,aY,dM,tf,gj,bV,H];refine AW F8 (Gq j rv m i d B _ R) (λr h' ⟨ay,bc⟩=>?_) (λh' ⟨ay,bc⟩=>?_)
   ·subst bc;obtain⟨b,ak,rfl⟩:=azL.1 ay;simp only[ae,bt,ds];refine AW apB (aqW o a b _) (λr h' ⟨ay,bc⟩=>?_) (λh' ⟨ay,bc⟩=>?_)
    ·subst bc;obtain⟨c,av,rfl⟩:=azL.1 ay;simp only[ae,bt,ds,aP,aAq,ac];exact ar ⟨by simp[z,aT,ak,av,jT],u _ _⟩
    ·subst ay;simp only[ae,bt,AX];have:vA o a b=none:=by simpa [jT]using bc
     exact λ_=>ar ⟨u _ _,by simp[z,aT,ak,this,jT]⟩
   ·subst ay;simp only[ae,bt,AX];have:c2 j rv m i d B=none:=by simpa [jT]using bc
    exact λ_=>ar ⟨u _ _,by simp[z,aT,this,jT]⟩
  ·subst ay;simp only[ae,KJ,AS,AX];have:c2 j rv m i d A=none:=by simpa [jT]using bc
   exact ar ⟨u _ _,by simp[z,this,jT]⟩
theorem aqX(p q:Value)(w:World):CallsD mc 200 #[p,q] .returning w λe a w'=>e=.returned (.tuple #[])/\a=.returning/\w'=w:=by
 refine callsD_of_wpS aFo rfl λi m j=>?_;apply wpS_seq;apply wpS_region;simp[wpOpsS,go_sem,recoverD,j,aFp,Exit.thenS];refine wpS_cond (t:=false) (by simp[Act.eval,azZ]) ?_
 simp only[Bool.false_eq_true,if_false];refine wpS_of_wp (wp_skip ?_);cases i
 simp_all[bodyPostS,results,aFq]
theorem aqY{h:I}{i j:V}{R:I->Prop}(m:R h):aaE mc 200 [i,j] h R:=by
 intro ρ B E w a s aT;obtain⟨p,F,ay,G,u⟩:=aT.dT;obtain⟨q,H,rfl,L,z⟩:=u.dT;have:=z.eq_nil;subst this;obtain rfl:a=#[p,q]:=azH (by simpa using ay)
 exact(aqX p q w).mono λe M w' ⟨A,C,D⟩=>⟨A,C,ρ,h,D▸s,Ren.le.refl ρ,m⟩
theorem aqZ{h:I}{i j:Nat}{a b:Int}(hi:h.get i=.cells [.int .i64 a] 2 none)(D:h.get j=.cells [.int .i64 b] 37 none)(E:i≠j){R:I->Prop}
  (F:R ((h.set i (.cells [.int .i64 0] 2 none)).set j (.cells [.int .i64 10] 37 none))):aaF mc 200 [.ptr i 0,.ptr j 0] h R:=by
 intro ρ B u w m Y Z G aT;obtain⟨p,t1,ay,H,L⟩:=aT.dT;obtain⟨q,t2,rfl,M,N⟩:=L.dT;have:=N.eq_nil;subst this;obtain rfl:m=#[p,q]:=azH (by simpa using ay)
 refine callsD_of_wpS aFo rfl λc₀ cs O=>?_;apply wpS_seq;apply wpS_region;simp[wpOpsS,go_sem,recoverD,O,aFp,Exit.thenS];refine wpS_cond (t:=true) (by simp[Act.eval,azZ]) ?_
 simp only[if_true];refine wpS_of_wp ?_;refine wp_mono (Q:=mM 4 B u { ρ with dfr:=[] } (λx f A=>x=.normal/\A=(h.set i (.cells [.int .i64 0] 2 none)).set j (.cells [.int .i64 10] 37 none)))
  ((show aS mc 4 _ _ (λk=>if k=0 then .ptr i 0 else if k=1 then .ptr j 0 else .top) h from IY (by kernel_rfl) ?_) { ρ with dfr:=[] } B u _ w (G.dfr []) ⟨λk=>?_,rfl,rfl⟩) ?_
 ·have S:(h.set i (.cells [.int .i64 0] 2 none)).get j=.cells [.int .i64 b] 37 none:=by rw[n1 (Ne.symm E)];exact D
  simp only[ae,reduceCtorEq,qT,V4,hi,S]
 ·match k with
  | 0=>exact H.dfr []
  | 1=>exact M.dfr []
  | n+2=>exact .top _
 ·rintro e iD w' ⟨ρ',z,f,A,T,W,X,C,rfl,rfl⟩
  cases e<;>simp only[r9]at T;refine⟨X.defers.trans C.dfr,_,rfl,.tuple #[],by simp[results,aFq],rfl,rfl,_,_,W.dfr ρ.dfr,C.r5,F⟩
theorem acn(e:b6)(q rv s j:Int)(h:I)(W:hB h) :
  Pure mc 175 [.agg (aH e),.agg [.int .i64 q,.int .i64 rv,.int .i64 s],.int .i64 j] h
   (if dj e then(match c2 q rv s j 16 e with|some n=>.tuple [.int .i64 n,.int .i64 0]|none=>.tuple [.int .i64 0,.int .i64 10])else .tuple [.int .i64 0,.int .i64 1]):=by
 refine Pure.val (by split<;>(try split)<;>exact a8.tuple (bb.cons (a8.int _ _) (bb.cons (a8.int _ _) bb.nil))) ?_
 have av:(V.agg (aH e)).cells=some (aH e):=rfl;have O:cO (aR.cells (aH e) 66 none) 0=some (aH e):=by cases e;rfl
 have Q:cJ (some (some 3)) (some (aH e))=some (.agg (aH e)):=by cases e;rfl
 obtain⟨H,hH⟩:∃x,x=(((h.push (.cells (aH e) 66 none)).push (.cells [.int .i64 q,.int .i64 rv,.int .i64 s] 45 none)).push (.cells [.int .i64 0] 2 none)).push (.cells [.int .i64 0] 37 none):=⟨_,rfl⟩;have R:H.get h.n=.cells (aH e) 66 none:=by rw[hH];simp[AY,df];rw[if_neg (by omega),if_neg (by omega)]
 have X:H.get (h.n+1)=.cells [.int .i64 q,.int .i64 rv,.int .i64 s] 45 none:=by rw[hH];simp[AY,df]
 have G:H.get (h.n+1+1)=.cells [.int .i64 0] 2 none:=by rw[hH];simp[AY,df]
 have S:H.get (h.n+1+1+1)=.cells [.int .i64 0] 37 none:=by rw[hH];simp[AY,df]
 have D:J h H none_:=by rw[hH];exact(((J.push _ _ _).bp _).bp _).bp _
 have Y:hB H:=by unfold hB;rw[D.glob];exact W
 have L:∀a b,J h ((H.set (h.n+1+1) a).set (h.n+1+1+1) b) none_:=λa b=>by
  refine⟨by rw[kj,kj];exact D.n,λi hi _=>?_,by rw[aac,aac];exact D.glob⟩
  rw[n1 (by omega),n1 (by omega)]
  exact D.get i hi (by simp[none_])
 have T:∀a,(H.set (h.n+1+1) a).get (h.n+1+1+1)=.cells [.int .i64 0] 37 none:=λa=>by rw[n1 (by omega)];exact S
 have N:∀a b,((H.set (h.n+1+1) a).set (h.n+1+1+1) b).get (h.n+1+1)=a:=λa b=>by rw[n1 (by omega),aL]
 refine au.K4 (A:=_) (A2:=_) (C:=_) (M:=λf h'=>dj e=true/\f 2=.int .i64 j/\f 3=.ptr h.n 0/\f 4=.ptr (h.n+1) 0/\f 6=.ptr (h.n+1+1) 0/\f 7=.ptr (h.n+1+1+1) 0/\h'=H)
  (KR:=λE F f h'=>∃n,c2 q rv s j 16 e=some n/\dj e=true/\f 6=.ptr (h.n+1+1) 0/\f 7=.ptr (h.n+1+1+1) 0/\h'=(H.set (h.n+1+1) (.cells [.int .i64 n] 2 none)).set (h.n+1+1+1) (.cells [.int .i64 0] 37 none))
  (KP:=λE F f h'=>c2 q rv s j 16 e=none/\dj e=true/\E=.ptr (h.n+1+1) 0/\F=.ptr (h.n+1+1+1) 0/\f 6=.ptr (h.n+1+1) 0/\f 7=.ptr (h.n+1+1+1) 0/\h'=H)
  Tryz.func175 rfl (by decide) apA (by simp) ?_ ?_ ?_ ?_
 ·refine wpS ?_;simp only[ae,ds,VX,aqE,av];rw[<-hH];refine wpS ?_;simp only[ae,ds,gj,R,O,Q];refine bO (Gp e H Y) ?_;cases m:dj e with
  | false=>
   simp only[ae,ds,reduceCtorEq,bR,VM,qT,V4,G,T,D4,aD0,iR,fq,iQ,N];exact .inl (L _ _)
  | true=>
   simp only[ae,ds,reduceCtorEq];refine .inr ?_
   trivial
 ·rintro f h' ⟨m,Z,f3,f4,u,z,rfl⟩
  refine wpS ?_;have aZ:wI 16 e:=by
   unfold dj at m;obtain⟨c,av⟩:=Option.isSome_iff_exists.1 m;exact⟨64,c,av⟩
  simp only[ae,ds,AS,dM,gj,Z,f3,f4,R,X,O,Q];refine AW F8 (Gq q rv s j 16 e h' aZ) (λr ad ⟨ay,bc⟩=>?_) (λad ⟨ay,bc⟩=>?_)
  ·subst bc;obtain⟨n,B,rfl⟩:=azL.1 ay;simp only[ae,ds,reduceCtorEq,qT,V4,u,z,G,T];exact .inl ⟨.inl trivial,n,B,m,rfl⟩
  ·subst ay;have:c2 q rv s j 16 e=none:=by simpa [jT]using bc
   simp only[ae,ds,reduceCtorEq,u,z];exact .inr ⟨this,m⟩
 ·rintro E F f h' ⟨n,B,m,u,z,rfl⟩
  refine aqY ?_;simp only[ae,bR,VM,D4,aD0,iR,fq,iQ,u,z,N];exact⟨by simp[m,B],L _ _⟩
 ·rintro E F f h' ⟨B,m,rfl,rfl,u,z,rfl⟩
  refine aqZ G S (by omega) ?_
  simp only[ae,bR,VM,D4,aD0,iR,fq,iQ,u,z,N];exact⟨by simp[m,B],L _ _⟩
theorem aF.agg{l i:List V}{h j:I}(a:aA l h i j):aF (.agg l) h (.agg i) j:=fun ρ B s w G u z=>by
 cases z with
 | agg A C=>
  rename_i xs;obtain⟨ρ1,D,E,F⟩:=a ρ B s w xs.toList u ⟨by simpa using A,by simpa using C⟩
  exact⟨ρ1,D,E,F.j0.agg⟩
theorem aq0(o n:Int)(h:I):aF (.agg [.int .i64 o,.int .i64 n,.ag]) h (.agg (aH (.mk o n []))) h:=by
 rw[l3];exact Pk.aF.agg (aA.skip (aA.skip (aA.last (aF.il h))))
theorem aco{h:I}{v:V}{a:List b6}(o n:Int)(j:Own h 66 3 v (a.flatMap aH)):∃i,aF (.agg [.int .i64 o,.int .i64 n,v]) h (.agg (aH (.mk o n a))) i/\J h i (a7 v):=by
 obtain⟨i,c,k⟩:=aF.own (n:=a.length) j (fJ rO a) (by decide)
 refine⟨i,?_,k⟩;rw[l3];exact Pk.aF.agg (aA.cons (aF.refl _ _) (aA.cons (aF.refl _ _) (aA.cons c (aA.refl _ _))))
theorem hB.ai{h h':I}{M:Nat->Prop}(i:hB h)(j:J h h' M):hB h':=by unfold hB;rw[j.glob];exact i
theorem hB.or{h j h':I}{M:Nat->Prop}(s:hB j)(u:hB h)(i:J j h' M\/h'=h):hB h':=by
 rcases i with i|rfl
 ·exact s.ai i
 ·exact u
inductive hT:b6->Prop
 | mk (o n:Int) (l:List b6) (ax:l.length<2^47) (h:∀k∈l,hT k) (aO:-2^63<=o/\o<2^63) (aB:-2^63<=n/\n<2^63):hT (.mk o n l)
theorem hT.len{e:b6}(h:hT e):e.aM.length<2^47:=by cases h;assumption
theorem hT.Er{e:b6}(h:hT e):∀k∈e.aM,hT k:=by cases h;assumption
def L3(l:List V):Prop:=∃e:b6,hT e/\l=aH e
theorem aq1:∀l,ix.hJ L3 (.cat (.int .i64) (.cat (.int .i64) (.cat (.bg (.ext 3)) .unit))) l->L3 l:=λl h=>by
 obtain⟨F,_,rfl,⟨o,rfl,A⟩,G,_,rfl,⟨n,rfl,B⟩,H,_,rfl,⟨j,rfl,C,z⟩,rfl⟩:=h;have:∃i:List b6,(∀k∈i,hT k)/\j.length=i.length/\j.flatten=i.flatMap aH:=by
  clear C
  induction j with
  | nil=>exact⟨[],by simp,rfl,rfl⟩
  | cons a r ih=>
   obtain⟨i,m,q,s⟩:=ih λe D=>z e (by simp[D])
   obtain⟨⟨k,E,rfl⟩,_⟩:=z a (by simp)
   refine⟨k::i,λx u=>?_,by simp[q],by simp[s]⟩
   rcases Iz.1 u with rfl|u
   ·exact E
   ·exact m x u
 obtain⟨i,m,q,s⟩:=this;refine⟨.mk o n i,.mk o n i (by omega) m (wf_i64 A) (wf_i64 B),?_⟩
 rw[l3,q,s];rfl
mutual
def e0:b6->Nat
 | .mk _ _ l=>ff l+1
def ff:List b6->Nat
 | []=>0
 | k::r=>e0 k+ff r
end
theorem acp{l:List b6}{i:Nat}(hi:i<l.length):ff (l.take (i+1))=ff (l.take i)+e0 l[i]:=by
 induction l generalizing i with
 | nil=>simp at hi
 | cons a r ih=>
  cases i with
  | zero=>simp[ff]
  | succ i=>simp only[aBn,ff,List.getElem_cons_succ];rw[ih (by simpa using hi)];omega
theorem Wa{e:b6}:∀k∈e.aM,e0 k<e0 e:=by
 obtain⟨o,n,l⟩:=e;have:∀(l:List b6) (k:b6),k∈l->e0 k<=ff l:=λl=>by
  induction l with
  | nil=>intro k i;simp at i
  | cons a r ih=>
   intro k i;rcases Iz.1 i with rfl|i
   ·simp[ff]
   ·have:=ih k i;simp only[ff];omega
 intro k i;have:=this l k i;simp only[e0];omega
theorem wrap_add(a b:Int):aOT.i64.wrap (aOT.i64.wrap a+aOT.i64.wrap b)=aOT.i64.wrap (a+b):=by
 rw[aOT.wrap_i64,aOT.wrap_i64 a,aOT.wrap_i64 b,aOT.wrap_i64 (a+b)];omega
mutual
def tY(op:Int):b6->Bool
 | .mk o _ l=>o==op||tZ op l
def tZ(op:Int):List b6->Bool
 | []=>false
 | k::r=>tY op k||tZ op r
end
def zW(o:Int):Int:=if o<=5 then 0 else if o=14 then 1 else if o=13 then 3 else 2
theorem Wb{o:Int}(i:1<=o)(j:o<=16):dR.getD o.toNat 0=zW o:=by
 obtain⟨k,rfl⟩:∃k:Nat,o=k:=⟨o.toNat,by omega⟩
 have a:k<17:=by omega
 simp only[ayQ];have:∀k:Nat,k<17->1<=k->dR.getD k 0=zW (k:Int):=by decide
 exact this k a (by omega)
def ti:Nat->b6->Bool
 | 0,_=>false
 | n+1,e=>nE e&&e.aM.all (ti n)
theorem aq2(e:b6):1<=e0 e:=by cases e;simp[e0]
theorem QF:∀(l room:Nat) (e:b6),h9 l room e=if ti l e=true/\e0 e<=room then some (e0 e)else none
 | 0,room,e=>by simp[h9,ti]
 | l+1,room,.mk o n i=>by
  have B:∀(i:List b6) (m:Nat),1<=m->kI (h9 l) room m i=if i.all (ti l)=true/\m+ff i<=room\/i=[]then some (m+ff i)else none:=by
   intro i
   induction i with
   | nil=>intro m C;simp[kI,ff]
   | cons k r ih=>
    intro m C;have E:=aq2 k;unfold kI;rw[QF l (room-m) k];by_cases q:ti l k=true
    ·by_cases u:e0 k<=room-m
     ·rw[if_pos ⟨q,u⟩];simp only;rw[ih _ (by omega)]
      cases r with
      | nil=>simp[ff,q];omega
      | cons a r=>
       simp only[aA1,q,azR,ff,reduceCtorEq,or_false];by_cases j:(ti l a&&r.all (ti l))=true/\m+e0 k+(e0 a+ff r)<=room
       ·rw[if_pos j,if_pos ⟨j.1,by omega⟩];congr 1;omega
       ·rw[if_neg j,if_neg (λU=>j ⟨U.1,by omega⟩)]
     ·rw[if_neg (λU=>u U.2)];simp only[aA1,ff,reduceCtorEq,or_false];rw[if_neg (λU=>by omega)]
    ·rw[if_neg (λU=>q U.1)];simp only[aA1,reduceCtorEq,or_false];rw[if_neg (λU=>by simp[q]at U)]
  have s:ti (l+1) (.mk o n i)=(nE (.mk o n i)&&i.all (ti l)):=rfl;have bl:e0 (.mk o n i)=ff i+1:=by simp[e0]
  have D:h9 (l+1) room (.mk o n i)=if room=0\/nE (.mk o n i)=false then none else kI (h9 l) room 1 i:=rfl
  rw[D];by_cases z:room=0
  ·rw[if_pos (.inl z),if_neg (λU=>by omega)]
  ·cases A:nE (.mk o n i)with
   | false=>rw[if_pos (.inr rfl),if_neg (λU=>by rw[s,A]at U;simp at U)]
   | true=>
    rw[if_neg (by simp[z]),B i 1 (BY _)]
    rw[A,azR]at s;cases i with
    | nil=>rw[if_pos (.inr rfl),if_pos ⟨by rw[s];rfl,by rw[bl];simp[ff];omega⟩,bl];rfl
    | cons a r=>
     by_cases j:(a::r).all (ti l)=true/\1+ff (a::r)<=room
     ·rw[if_pos (.inl j),if_pos ⟨by rw[s];exact j.1,by rw[bl];omega⟩,bl];congr 1;omega
     ·rw[if_neg (by simp only[reduceCtorEq,or_false];exact j),if_neg (λU=>j ⟨by rw[<-s];exact U.1,by rw[bl]at U;omega⟩)]
def e5(l:List Nat):List V:=l.map λ(n:Nat)=>V.int .u8 (n:Int)
theorem acq(l:List Nat):(e5 l).all (·.one)=true:=by
 rw[List.all_eq_true];intro x a;obtain⟨n,_,rfl⟩:=List.mem_map.1 a;rfl
theorem Wd(a b:List Nat):e5 (a++b)=e5 a++e5 b:=by simp[e5]
theorem rQ(a:List Nat):(e5 a).length=a.length:=by simp[e5]
theorem Es(a:List Nat):bb (e5 a):=bb.map λ_ _=>a8.int _ _
def enc(n:Nat):List Nat:=if n<128 then [n]else(n % 128+128)::enc (n / 128)
termination_by n
theorem Js{n:Nat}(h:n<128):enc n=[n]:=by rw[enc,if_pos h]
theorem L4{n:Nat}(h:¬n<128):enc n=(n % 128+128)::enc (n / 128):=by rw[enc,if_neg h]
theorem aq3(k:Nat):∀n,n<128^(k+1)->1<=(enc n).length/\(enc n).length<=k+1:=by
 induction k with
 | zero=>intro n h;rw[Js (by simpa using h)];simp
 | succ k ih=>
  intro n h;by_cases a:n<128
  ·rw[Js a];simp
  ·rw[L4 a];have:=ih (n / 128) (by rw[Nat.pow_succ]at h;exact Nat.div_lt_of_lt_mul (by rw[aAz];exact h))
   simp;omega
theorem rR(n:Nat)(h:n<2^64):1<=(enc n).length/\(enc n).length<=10:=by
 have:(2:Nat)^64<128^10:=by decide
 exact aq3 9 n (by omega)
theorem aq4(n:Nat):wm .u8 (aOT.u8.wrap (n:Int)) 128=((n % 128+128:Nat):Int):=by
 rw[aOT.wrap_u8];unfold wm;rw[aOT.wrap_u8];have ay:BitVec.ofInt aOT.u8.bits ((n:Int) % 256)=BitVec.ofNat 8 (n % 256):=by
  apply BitVec.eq_of_toNat_eq;simp[aOT.bits];omega
 rw[ay];have h:∀m:Fin 256,((BitVec.ofNat 8 m.val ||| BitVec.ofInt 8 128).toNat:Int) % 256=((m.val % 128+128:Nat):Int):=by decide +kernel
 have:=h ⟨n % 256,aAG _ (by decide)⟩
 have bc:((n % 256 % 128+128:Nat):Int)=((n % 128+128:Nat):Int):=by omega
 exact this.trans bc
theorem We(n:Nat):(n:Int).fdiv (2^(min (azk 7) aOT.u64.bits))=((n / 128:Nat):Int):=by
 have:(2^(min (azk 7) aOT.u64.bits):Int)=128:=by decide
 rw[this,aA8 _ (by omega)]
 rfl
theorem aq5(n:Nat)(h:n<128):aOT.u8.wrap (n:Int)=(n:Int):=by rw[aOT.wrap_u8];omega
theorem acr(h:I)(a:Int):h3 mc 26 1 [(0,.int .u8 a)] h=some (.bg h.n 0 1 1,h.push (.cells [.int .u8 a] 5 none)):=by rw[mD LS];rfl
theorem Wf(s:V)(cs:List Nat)(n:Nat)(h:I)(T:Own h 5 1 s (e5 cs))(av:cs.length<=2^46)(N:n<2^64) :
  au mc 101 [s,.int .u64 n] h (λr h'=>Own h' 5 1 r (e5 (cs++enc n))/\J h h' (a7 s)/\cu h s r):=by
 refine bd Tryz.func101 rfl ?_;simp only[ae];refine aS.bI (α:=V×List Nat×Nat) (λx f h'=>f 0=x.1/\f 1=.int .u64 (x.2.2:Nat)/\Own h' 5 1 x.1 (e5 x.2.1)/\J h h' (a7 s)/\cu h s x.1/\x.2.1++enc x.2.2=cs++enc n/\x.2.2<2^64) (λx=>x.2.2) (s,cs,n)
  ⟨rfl,rfl,T,J.refl _ _,.inl rfl,rfl,N⟩ ?_
 rintro⟨O,cs',i⟩ f u ⟨B,C,D,Q,a,z,R⟩
 simp only at B C D a z R;refine wpS ?_;have S:cs'.length+1<=cs.length+10:=by
  have u:=congrArg List.length z;have m:=rR n N;have W:=rR i R;simp at u;omega
 have next:∀(v:V) (m:I),J u m (a7 O)->cu u O v->J h m (a7 s)/\cu h s v:=λv m q j=>by
  refine⟨Q.trans q λk A E=>?_,?_⟩
  ·rcases a with a|a
   ·unfold a7 at E⊢;rw[<-a];exact E
   ·have:=a k E;omega
  ·rcases j with j|j
   ·rcases a with a|a
    ·exact .inl (j.trans a)
    ·exact .inr λk A=>a k (by rw[<-j];exact A)
   ·exact .inr λk A=>ajy Q.n (j k A)
 by_cases X:128<=i
 ·have F:decide ((128:Int)<=(i:Int))=true:=by simp;omega
  obtain⟨v,m,G,H,L,M⟩:=ls (P:=mc) LS (by decide) D (xs:=[.int .u8 ((i % 128+128:Nat):Int)]) rfl rfl (by simp[rQ,lim];omega) (by simp[rQ,lim];omega)
  obtain⟨q,j⟩:=next v m L M;simp only[ae,ds,reduceCtorEq,B,C,F,lL oP kG,aq4,acr,G,Ku (show(0:Int)<=7 by decide),We]
  refine ar ⟨(v,cs'++[i % 128+128],i / 128),⟨rfl,rfl,?_,q,j,?_,by simp only;omega⟩,by simp;omega⟩
  ·rw[Wd];exact H
  ·simp only;rw[<-z,L4 (n:=i) (by omega)]
   simp
 ·have F:decide ((128:Int)<=(i:Int))=false:=by simp;omega
  obtain⟨v,m,G,H,L,M⟩:=ls (P:=mc) LS (by decide) D (xs:=[.int .u8 (i:Int)]) rfl rfl (by simp[rQ,lim];omega) (by simp[rQ,lim];omega)
  obtain⟨q,j⟩:=next v m L M;simp only[ae,ds,reduceCtorEq,B,C,F,lL oP kG,aq5 i (by omega),acr,G,aP,Tryz.results101,ac]
  refine ar ⟨?_,q,j⟩;rw[<-z,Js (by omega),Wd]
  exact H
structure Rd(h:I)(s:V)(cs:List Nat):Prop where
 len:∀h',J h h' none_->dJ mc 26 s h'=some (.int .i64 cs.length)
 lenOf:zm s=some cs.length
 first:∀h',J h h' none_->vh 1 cs.length s h'=some (e5 cs)
 src:∀h',J h h' none_->fS mc 1 26 s h'=some (cs.length,e5 cs)
theorem Rd.ag(h:I):Rd h .ag []:=⟨λ_ _=>yK qd,rfl,λ_ _=>rfl,λ_ _=>by
 obtain⟨d,i,j⟩:=DR qd;cases d<;>simp[xt]at j;simp[fS,i,e5]⟩
theorem Rd.af(h:I)(cs:List Nat):Rd h (.af cs.length (e5 cs)) cs:=⟨λ_ _=>Z5 qd,rfl,λh' _=>by
 simp only[vh,rQ,ajD,BY,and_self,if_true];rw[List.take_of_length_le (by rw[rQ];exact BY _)],λh' _=>I3 qd (by rw[rQ,ajD]) (acq cs)⟩
theorem Rd.ai{h h':I}{s:V}{cs:List Nat}(rd:Rd h s cs)(k:J h h' none_):Rd h' s cs :=
 ⟨λi j=>rd.len i (k.trans' j),rd.lenOf,λi j=>rd.first i (k.trans' j),λi j=>rd.src i (k.trans' j)⟩
theorem fresh(s:V)(cs:List Nat)(m:Nat)(h:I)(rd:Rd h s cs)(av:cs.length+m<=2^47) :
  au mc 102 [s,.int .i64 m] h (λr h'=>r=.bg h.n 0 cs.length (cs.length+m)/\Own h' 5 1 r (e5 cs)/\J h h' none_):=by
 refine bd Tryz.func102 rfl ?_;have a:aOT.i64.wrap ((cs.length:Int)+(m:Int))=((cs.length+m:Nat):Int):=by rw[Go.IntWalk.i64_in _ (by omega)];omega
 obtain⟨z,A,i,j,q,B,u⟩:=anN (P:=mc) (tx:=26) (k:=.i64) (k':=.i64) (h:=h) (c:=cs.length+m) LS rd.lenOf rd.first (acq cs) (by simp[rQ]) (by omega) (by simp only;omega) (by omega)
 simp only[ae,ds,reduceCtorEq,rd.len h (J.refl _ _),a,i,j,aP,Tryz.results102,ac];exact ar ⟨rfl,q,u⟩
theorem Wg(s:V)(cs:List Nat)(n:Nat)(h:I)(rd:Rd h s cs)(av:cs.length<=2^46)(q:n<2^64) :
  au mc 60 [s,.int .u64 n] h (λr h'=>Own h' 5 1 r (e5 (cs++enc n))/\J h h' none_/\∀k,aU r=some k->h.n<=k):=by
 refine bd Tryz.func60 rfl ?_;simp only[ae,ds,reduceCtorEq];refine cA (fresh s cs 10 h rd (by omega)) λcL u ⟨ay,z,j⟩=>?_
 have m:∀k,aU cL=some k->h.n<=k:=λk a=>by subst ay;simp[aU]at a;omega
 simp only[ae,ds];refine cA (Wf cL cs n u z av q) λdB C ⟨A,B,i⟩=>?_;simp only[ae,ds,aP,Tryz.results60,ac];refine ar ⟨A,j.trans B λk a hi=>?_,λk a=>?_⟩
 ·have:=m k hi;omega
 ·rcases i with i|i
  ·exact m k (i▸a)
  ·exact ajy j.n (i k a)
theorem Fd(s:V)(cs:List Nat)(n:Nat)(h:I)(rd:Rd h s cs)(av:cs.length<=2^46)(a:n<2^64) :
  Pure mc 60 [s,.int .u64 n] h (.af (cs++enc n).length (e5 (cs++enc n))):=by
 refine Pure.of (a8.af (Es _)) ((Wg s cs n h rd av a).mono λr h' ⟨o,k,d⟩=>?_);obtain⟨i,c,m⟩:=aF.own o (n:=(cs++enc n).length) (by simp[rQ]) (by omega)
 exact⟨i,c,k.trans m λj u q=>by have:=d j q;omega⟩
theorem acs(s:V)(cs:List Nat)(m:Nat)(h:I)(rd:Rd h s cs)(av:cs.length+m<=2^47) :
  Pure mc 102 [s,.int .i64 m] h (.af cs.length (e5 cs)):=by
 refine Pure.of (a8.af (Es _)) ((fresh s cs m h rd av).mono λr h' ⟨e,o,k⟩=>?_);obtain⟨a,c,i⟩:=aF.own o (n:=cs.length) (by simp[rQ]) (by omega)
 refine⟨a,c,k.trans i λj u q=>?_⟩;subst e;simp[a7,aU]at q;omega
def dS(h:I)(p:V)(i:Nat)(cs:List Nat):Prop:=p=.ptr i 0/\i<h.n/\h.get i=.cells [.af cs.length (e5 cs)] 198 none
theorem L5(s:V)(cs:List Nat)(h:I)(rd:Rd h s cs)(av:cs.length<=2^47) :
  au mc 65 [s] h (λr h'=>r=.ptr h.n 0/\dS h' r h.n cs/\J h h' none_):=by
 refine bd Tryz.func65 rfl ?_;simp only[ae,ds,reduceCtorEq];refine bO (acs s cs 0 h rd (by omega)) ?_
 simp only[ae,ds,abR,ab4,aP,Tryz.results65,ac];exact ar ⟨rfl,⟨rfl,by rw[df];omega,fv⟩,J.push _ _ _⟩
theorem rest(h:I)(p:V)(i:Nat)(cs:List Nat)(a:dS h p i cs):Pure mc 108 [p] h (.af cs.length (e5 cs)):=by
 obtain⟨rfl,m,j⟩:=a;refine bd Tryz.func108 rfl ?_;simp only[ae,ds,reduceCtorEq,LD,apR,LN,j,aP,Tryz.results108,ac];exact ar ⟨rfl,rfl⟩
theorem Left(h:I)(p:V)(i:Nat)(cs:List Nat)(a:dS h p i cs):Pure mc 67 [p] h (.int .i64 cs.length):=by
 refine bd Tryz.func67 rfl ?_;simp only[ae,ds,reduceCtorEq];refine bO (rest h p i cs a) ?_;simp only[ae,ds,qd,aP,Tryz.results67,ac];exact ar ⟨rfl,rfl⟩
theorem i3(w n:Nat):BitVec.ofInt w (n:Int)=BitVec.ofNat w n:=by
 apply BitVec.eq_of_toNat_eq;simp
theorem aq6(a b k:Nat)(ak:b<2^k)(j:k<=64)(aT:a*2^k<2^64):wm .u64 (b:Int) ((a*2^k:Nat):Int)=((a*2^k+b:Nat):Int):=by
 have m:a*2^k+b<2^64:=by
  have e:(2:Nat)^64=2^(64-k)*2^k:=by rw[<-aAA];congr 1;omega
  rw[e]at aT⊢;have i:a<2^(64-k):=aFr aT
  calc a*2^k+b<a*2^k+2^k:=by omega
   _=(a+1)*2^k:=by rw[axY];simp
   _<=_:=azl _ i
 unfold wm;rw[i3,i3];have ay:(BitVec.ofNat aOT.u64.bits b ||| BitVec.ofNat aOT.u64.bits (a*2^k)).toNat=a*2^k+b:=by
  rw[BitVec.toNat_or];simp only[BitVec.toNat_ofNat,aOT.bits];rw[azS (by omega),azS aT]
  have:=Nat.shiftLeft_add_eq_or_of_lt ak a;rw[Nat.shiftLeft_eq]at this;rw[this,Nat.or_comm]
 rw[ay,aOT.wrap_u64];omega
theorem Wh(g:Nat)(a:g<256):aOT.u64.wrap (I0 .u8 (g:Int) 128)=((g % 128:Nat):Int):=by
 have h:∀m:Fin 256,aOT.u64.wrap (I0 .u8 (m.val:Int) 128)=((m.val % 128:Nat):Int):=by decide +kernel
 exact h ⟨g,a⟩
theorem acu(g a:Nat)(j:g % 128*2^(7*a)<2^64)(aT:a<=9):aOT.u64.wrap (((g % 128:Nat):Int)*2^(min (aOT.i64.wrap (7*(a:Int))).toNat aOT.u64.bits))=((g % 128*2^(7*a):Nat):Int):=by
 have e:(min (aOT.i64.wrap (7*(a:Int))).toNat aOT.u64.bits)=7*a:=by
  rw[aOT.wrap_i64];have i:((7*(a:Int)+9223372036854775808) % 18446744073709551616-9223372036854775808)=((7*a:Nat):Int):=by omega
  rw[i,ayQ];simp only[aOT.bits];omega
 rw[e,aOT.wrap_u64];have:(((g % 128:Nat):Int)*2^(7*a))=((g % 128*2^(7*a):Nat):Int):=by push_cast;rfl
 rw[this];omega
theorem acv(g a:Nat)(m:a<=9)(q:¬(a=9/\1<g))(s:g<256):g % 128*2^(7*a)<2^64:=by
 by_cases u:a<=8
 ·have i:(2:Nat)^(7*a)<=2^56:=Nat.pow_le_pow_right (by decide) (by omega)
  have z:g % 128<128:=aAG _ (by decide)
  have j:g % 128*2^(7*a)<=127*2^56:=Nat.mul_le_mul (by omega) i
  exact aD2 j (by decide)
 ·have:a=9:=by omega
  subst this;have:g % 128<=1:=by omega
  exact aD2 (azl _ this) (by decide)
theorem acw(g n a:Nat)(i:n<2^(7*a))(m:a<=9)(j:g % 128*2^(7*a)<2^64):wm .u64 (n:Int) ((g % 128*2^(7*a):Nat):Int)=((n+g % 128*2^(7*a):Nat):Int):=by
 rw[aq6 (g % 128) n (7*a) i (by omega) j,Nat.add_comm]
theorem acx(g n a:Nat)(i:n<2^(7*a)):n+g % 128*2^(7*a)<2^(7*(a+1)):=by
 have e:(2:Nat)^(7*(a+1))=128*2^(7*a):=by rw[aBG,aAA];omega
 rw[e];have j:g % 128<128:=aAG _ (by decide)
 have m:=azl (2^(7*a)) (show g % 128<=127 by omega)
 generalize 2^(7*a)=p at *;omega
def dec:List Nat->Nat->Nat->Nat×Nat×Nat
 | [],_,_=>(0,0,4)
 | g::r,a,n=>
  if a=9/\1<g then(0,0,5)
  else if 128<=g then dec r (a+1) (n+g % 128*2^(7*a))
  else if g=0/\0<a then(0,0,5)
  else(n+g % 128*2^(7*a),a+1,0)
def xH(r:Nat×Nat×Nat):V:=.tuple [.int .u64 (r.1:Nat),.int .i64 (r.2.1:Nat),.int .i64 (r.2.2:Nat)]
theorem aq7{a:List Nat}{k:Nat}(i:k<a.length):(e5 a).drop (k*1)=.int .u8 (a[k]:Nat)::e5 (a.drop (k+1)):=by
 rw[ajD];unfold e5;rw[<-aAN,azg i];rfl
theorem number(j:List Nat)(h:I)(ak:∀b∈j,b<256)(av:j.length<=2^47) :
  Pure mc 169 [.af j.length (e5 j)] h (xH (dec j 0 0)):=by
 refine bd Tryz.func169 rfl ?_;simp only[ae];refine aS.DY (α:=Nat×Nat) (l:=0) rfl (λx f h'=>h'=h/\f 0=.af j.length (e5 j)/\f 5=.int .u64 (x.2:Nat)/\f 6=.int .i64 (x.1:Nat)/\dec (j.drop x.1) x.1 x.2=dec j 0 0/\x.2<2^(7*x.1)/\x.1<=9/\x.1<=j.length) (λx=>10-x.1) ?_ ?_ ?_
 ·rintro x f h1 _
  omega
 ·rintro⟨a,n⟩ f h1 ⟨rfl,q,C,s,R,Y,S,jR⟩
  simp only at C s R Y S jR;refine wpS ?_;by_cases vE:a=j.length
  ·have u:((a:Int)==(j.length:Int))=true:=by simp[vE]
   simp only[ae,ds,reduceCtorEq,qd,q,s,u,Cy,aP,aAB,xx];refine ar ⟨?_,rfl⟩;rw[<-R,vE,List.drop_length];rfl
  ·have u:((a:Int)==(j.length:Int))=false:=by simp;omega
   have Z:a<j.length:=by omega
   have CM:j[a]<256:=ak _ (List.getElem_mem Z);have HD:j.drop a=j[a]::j.drop (a+1):=azg Z;have z:=I6 (P:=mc) (t:=26) (k:=.i64) (i:=(a:Int)) (n:=j.length) (cs:=e5 j) LU (by omega) (by omega) (by rw[rQ];omega)
   rw[ayQ,aq7 Z]at z;have T:dec (j.drop a) a n=dec (j[a]::j.drop (a+1)) a n:=by rw[<-HD]
   generalize j[a]=g at CM z T;clear HD;by_cases N:a=9/\1<g
   ·have mh:((a:Int)==9)=true:=by simp[N.1]
    have aa:decide ((1:Int)<(g:Int))=true:=by simp;omega
    simp only[ae,ds,reduceCtorEq,qd,sn,q,s,u,z,mh,aa,Cy,aP,aAB,xx];refine ar ⟨?_,rfl⟩;rw[<-R,T,dec,if_pos N];rfl
   ·have HC:=acv g a S N CM;have E:=acw g n a Y S HC;have uM:=acx g n a Y;have F:=acu g a HC S;have G:=Wh g CM;have H:(0:Int)<=aOT.i64.wrap (7*(a:Int)):=by
     rw[Go.IntWalk.i64_in _ (by omega)]
     omega
    have L:aOT.i64.wrap ((a:Int)+1)=((a+1:Nat):Int):=by rw[Go.IntWalk.i64_in _ (by omega)];rfl
    have W:(((a:Int)==9)=true/\decide ((1:Int)<(g:Int))=false)\/((a:Int)==9)=false:=by
     by_cases hc:a=9
     ·left;refine⟨by simp[hc],by simp;omega⟩
     ·right;simp;omega
    by_cases L6:128<=g
    ·have D:decide ((128:Int)<=(g:Int))=true:=by simp;omega
     have ko:a<=8:=by
      rcases aAy a 9 with h|h
      ·omega
      ·exact absurd ⟨by omega,by omega⟩ N
     have l5:dec (j.drop (a+1)) (a+1) (n+g % 128*2^(7*a))=dec j 0 0:=by
      rw[<-R,T,dec,if_neg N,if_pos L6]
     rcases W with⟨m,O⟩|m
     ·exfalso;simp at m;omega
     ·simp only[ae,ds,reduceCtorEq,qd,sn,q,C,s,u,z,m,D,lL kG oP,G,jp H,F,E,L,anP];exact ar ⟨(a+1,_),⟨rfl,q,rfl,rfl,l5,uM,by simp only;omega,by simp only;omega⟩,by simp;omega⟩
    ·have D:decide ((128:Int)<=(g:Int))=false:=by simp;omega
     have A:dec j 0 0=if g=0/\0<a then(0,0,5)else(n+g % 128*2^(7*a),a+1,0):=by
      rw[<-R,T,dec,if_neg N,if_neg L6]
     have Ld:((g:Int)==0)=false\/(((g:Int)==0)=true/\decide ((1:Int)<((a+1:Nat):Int))=decide (0<a)):=by
      by_cases M:g=0
      ·right;exact⟨by simp[M],by rw[decide_eq_decide];omega⟩
      ·left;simp;omega
     rcases Ld with B|⟨B,Q⟩
     ·have M:¬(g=0/\0<a):=by intro h;simp[h.1]at B
      rw[if_neg M]at A;rcases W with⟨m,O⟩|m
      ·simp only[ae,ds,reduceCtorEq,qd,sn,q,C,s,u,z,m,O,B,D,lL kG oP,G,jp H,F,E,L,Cy,aP,aAB,xx];exact ar ⟨by rw[A];rfl,rfl⟩
      ·simp only[ae,ds,reduceCtorEq,qd,sn,q,C,s,u,z,m,B,D,lL kG oP,G,jp H,F,E,L,Cy,aP,aAB,xx];exact ar ⟨by rw[A];rfl,rfl⟩
     ·by_cases X:0<a
      ·have M:(g=0/\0<a):=⟨by simpa using B,X⟩
       rw[if_pos M]at A;simp only[X,decide_true]at Q;rcases W with⟨m,O⟩|m
       ·simp only[ae,ds,reduceCtorEq,qd,sn,q,C,s,u,z,m,O,B,Q,D,lL kG oP,G,jp H,F,E,L,Cy,aP,aAB,xx];exact ar ⟨by rw[A];rfl,rfl⟩
       ·simp only[ae,ds,reduceCtorEq,qd,sn,q,C,s,u,z,m,B,Q,D,lL kG oP,G,jp H,F,E,L,Cy,aP,aAB,xx];exact ar ⟨by rw[A];rfl,rfl⟩
      ·have M:¬(g=0/\0<a):=λh=>X h.2;rw[if_neg M]at A;simp only[X,decide_false]at Q;rcases W with⟨m,O⟩|m
       ·simp only[ae,ds,reduceCtorEq,qd,sn,q,C,s,u,z,m,O,B,Q,D,lL kG oP,G,jp H,F,E,L,Cy,aP,aAB,xx];exact ar ⟨by rw[A];rfl,rfl⟩
       ·simp only[ae,ds,reduceCtorEq,qd,sn,q,C,s,u,z,m,B,Q,D,lL kG oP,G,jp H,F,E,L,Cy,aP,aAB,xx];exact ar ⟨by rw[A];rfl,rfl⟩
 ·intro step;refine aS.seq (IY (by kernel_rfl) ?_)
  simp only[ae];refine aS.seq (IY (by kernel_rfl) ?_)
  simp only[ae];refine aS.seq (.label ?_);exact step (0,0) _ _ ⟨rfl,rfl,rfl,rfl,rfl,by decide,by decide,by omega⟩
theorem Wi(l:List Nat):∀k n,(dec l k n).2.2≠0->dec l k n=(0,0,(dec l k n).2.2):=by
 induction l with
 | nil=>intro k n _;rfl
 | cons g r ih=>
  intro k n h;unfold dec at h⊢;split
  ·rfl
  ·rename_i i;rw[if_neg i]at h;split
   ·rename_i a;rw[if_pos a]at h;exact ih _ _ h
   ·rename_i a;rw[if_neg a]at h;split
    ·rfl
    ·rename_i j;rw[if_neg j]at h;simp at h
theorem Wj(l:List Nat):∀k n,(dec l k n).2.1<=l.length+k:=by
 induction l with
 | nil=>intro k n;simp[dec]
 | cons g r ih=>
  intro k n;unfold dec;split
  ·simp
  ·split
   ·have:=ih (k+1) (n+g % 128*2^(7*k));simp;omega
   ·split
    ·simp
    ·simp;omega
theorem aq8(a:Nat)(aT:a<2^64):tL .u64 (a:Int) 0=(a:Int):=by
 show aOT.u64.wrap ((BitVec.ofInt 64 (a:Int) ^^^ BitVec.ofInt 64 0).toNat:Int)=_;have e:BitVec.ofInt 64 (0:Int)=BitVec.ofNat 64 0:=rfl;have ay:(BitVec.ofNat 64 a ^^^ BitVec.ofNat 64 0).toNat=a:=by
  rw[BitVec.toNat_xor,BitVec.toNat_ofNat,BitVec.toNat_ofNat,aFt,aFu];exact azS aT
 rw[i3,e,ay,aOT.wrap_u64];omega
theorem aq9(a:Nat)(aT:a<2^64):tL .u64 (a:Int) 18446744073709551615=((18446744073709551615-a:Nat):Int):=by
 show aOT.u64.wrap ((BitVec.ofInt 64 (a:Int) ^^^ BitVec.ofInt 64 18446744073709551615).toNat:Int)=_;have e:BitVec.ofInt 64 (18446744073709551615:Int)=BitVec.allOnes 64:=by decide
 have ay:(BitVec.ofNat 64 a ^^^ BitVec.allOnes 64).toNat=18446744073709551615-a:=by
  rw[BitVec.xor_allOnes,BitVec.toNat_not,BitVec.toNat_ofNat,azS aT]
 rw[i3,e,ay,aOT.wrap_u64];omega
theorem acz(n:Int)(q:-2^63<=n)(s:n<2^63):tL .u64 (aOT.u64.wrap (aOT.u64.wrap n*2^min (azk 1) aOT.u64.bits)) (aOT.u64.wrap (n.fdiv (2^min (azk 63) aOT.i64.bits))) =
  ((if 0<=n then 2*n.toNat else 2*(-n).toNat-1:Nat):Int):=by
 have ay:(2:Int)^min (azk 1) aOT.u64.bits=2:=by decide
 have bc:(2:Int)^min (azk 63) aOT.i64.bits=9223372036854775808:=by decide
 rw[ay,bc];have u:-9223372036854775808<=n:=by simpa using q
 have z:n<9223372036854775808:=by simpa using s
 by_cases m:0<=n
 ·have a:n.fdiv 9223372036854775808=0:=by rw[aA8 _ (by omega)];omega
  have i:aOT.u64.wrap (aOT.u64.wrap n*2)=((2*n.toNat:Nat):Int):=by rw[aOT.wrap_u64,aOT.wrap_u64];omega
  have j:aOT.u64.wrap 0=0:=by decide
  rw[a,i,j,aq8 _ (by omega),if_pos m]
 ·have a:n.fdiv 9223372036854775808=-1:=by rw[aA8 _ (by omega)];omega
  have i:aOT.u64.wrap (aOT.u64.wrap n*2)=((2*n+18446744073709551616).toNat:Int):=by rw[aOT.wrap_u64,aOT.wrap_u64];omega
  have j:aOT.u64.wrap (-1)=18446744073709551615:=by decide
  rw[a,i,j,aq9 _ (by omega),if_neg m]
  omega
def kJ(n:Int):Nat:=if 0<=n then 2*n.toNat else 2*(-n).toNat-1
theorem CN(n:Int)(a:-2^63<=n)(i:n<2^63):kJ n<2^64:=by
 have j:-9223372036854775808<=n:=by simpa using a
 have m:n<9223372036854775808:=by simpa using i
 unfold kJ;split<;>omega
theorem dS.ai{h h':I}{p:V}{i:Nat}{cs:List Nat}{own:Nat->Prop}(j:dS h p i cs)(s:J h h' own)(u:¬own i):dS h' p i cs :=
 ⟨j.1,Nat.lt_of_lt_of_le j.2.1 s.n,(s.get i j.2.1 u).trans j.2.2⟩
theorem QG(p:V)(i:Nat)(a:List Nat)(h:I)(j:dS h p i a)(ak:∀b∈a,b<256)(av:a.length<=2^47) :
  au mc 143 [p] h (λr h'=>r=.tuple [.int .u64 ((dec a 0 0).1:Nat),.int .i64 ((dec a 0 0).2.2:Nat)]/\dS h' p i (a.drop (dec a 0 0).2.1)/\J h h' (·=i)):=by
 refine bd Tryz.func143 rfl ?_;simp only[ae,ds,reduceCtorEq];refine bO (rest h p i a j) ?_;simp only[ae,ds];refine bO (number a h ak av) ?_;by_cases m:(dec a 0 0).2.2=0
 ·have q:((((dec a 0 0).2.2:Nat):Int) !=0)=false:=by simp[m]
  have A:=Wj a 0 0;obtain⟨rfl,hi,u⟩:=j;have z:kx mc 26 (.af a.length (e5 a)) (some (.int .i64 ((dec a 0 0).2.1:Nat))) none none=some (.af (a.drop (dec a 0 0).2.1).length (e5 (a.drop (dec a 0 0).2.1))):=by
   rw[aak LU (by omega) (by omega) (by rw[rQ];omega)]
   rw[ayQ,ajD];unfold e5;rw[aAN,azD]
  simp only[ae,ds,reduceCtorEq,LD,LN,V0,xH,q,u,z,aP,aFv,da];exact ar ⟨by simp[m],⟨rfl,by rw[kj];exact hi,aL⟩,J.set _ _ _⟩
 ·have q:((((dec a 0 0).2.2:Nat):Int) !=0)=true:=by simp;omega
  have s:=Wi a 0 0 m;simp only[ae,ds,xH,q,aP,aFv,da];refine ar ⟨?_,?_,J.refl _ _⟩
  ·rw[s];rfl
  ·rw[s];simpa using j
theorem acA(n:Int)(h:I)(a:-2^63<=n)(i:n<2^63):Pure mc 103 [.int .i64 n] h (.int .u64 (kJ n:Nat)):=by
 refine bd Tryz.func103 rfl ?_;simp only[ae,ds,reduceCtorEq,jp (show(0:Int)<=1 by decide),Ku (show(0:Int)<=63 by decide),lL xF oP,aP,Tryz.results103,ac]
 exact ar ⟨by rw[acz n a i];rfl,rfl⟩
theorem L7(s:V)(cs:List Nat)(n:Int)(h:I)(rd:Rd h s cs)(av:cs.length<=2^46)(u:-2^63<=n)(m:n<2^63) :
  Pure mc 62 [s,.int .i64 n] h (.af (cs++enc (kJ n)).length (e5 (cs++enc (kJ n)))):=by
 refine Pure.of (a8.af (Es _)) (au.mono (R:=λr h'=>Own h' 5 1 r (e5 (cs++enc (kJ n)))/\J h h' none_/\∀k,aU r=some k->h.n<=k) ?_ λr h' ⟨o,k,d⟩=>?_)
 ·refine bd Tryz.func62 rfl ?_;simp only[ae,ds,reduceCtorEq];refine cA (fresh s cs 10 h rd (by omega)) λcL z ⟨ay,C,A⟩=>?_
  have B:∀k,aU cL=some k->h.n<=k:=λk a=>by subst ay;simp[aU]at a;omega
  simp only[ae,ds];refine bO (acA n z u m) ?_;simp only[ae,ds];refine cA (Wf cL cs (kJ n) z C av (CN n u m)) λdB F ⟨D,q,i⟩=>?_;simp only[ae,ds,aP,Tryz.results62,ac];refine ar ⟨D,A.trans q λk a hi=>?_,λk a=>?_⟩
  ·have:=B k hi;omega
  ·rcases i with i|i
   ·exact B k (i▸a)
   ·exact ajy A.n (i k a)
 ·obtain⟨m,c,q⟩:=aF.own o (n:=(cs++enc (kJ n)).length) (by simp[rQ]) (by omega)
  exact⟨m,c,k.trans q λj G E=>by have:=d j E;omega⟩
theorem Wk:∀(j:List Nat) (k i m a:Nat),(∀b∈j,b<256)->dec j k i=(m,a,0)->k<a/\∃x,m=i+x*2^(7*k)/\j.take (a-k)=enc x/\(0<k->0<x)
 | [],k,i,m,a,_,h=>by simp[dec]at h
 | g::r,k,i,m,a,ak,h=>by
  have B:g<256:=ak g (by simp)
  unfold dec at h;split at h
  ·simp at h
  ·split at h
   ·rename_i s;obtain⟨C,x,q,u,z⟩:=Wk r (k+1) _ m a (λb A=>ak b (by simp[A])) h
    have D:=z (by omega)
    refine⟨by omega,g % 128+128*x,?_,?_,by omega⟩
    ·rw[q,aBG,aAA,axY,aAk]
     congr 2
     have e:(2:Nat)^(7*1)=128:=by decide
     rw[e,aAz (2^(7*k)) 128,<-aBq,aAz x 128]
    ·rw[show a-k=(a-(k+1))+1 by omega,aBn,u,L4 (n:=g % 128+128*x) (by omega)]
     congr 1
     ·omega
     ·congr 1;omega
   ·split at h
    ·simp at h
    ·rename_i E s q;simp only[Prod.mk.injEq,and_true]at h;obtain⟨rfl,rfl⟩:=h;refine⟨by omega,g,?_,?_,by omega⟩
     ·rw[azS (by omega)]
     ·rw[show k+1-k=1 by omega,Js (by omega)];rfl
theorem dec_lt:∀(i:List Nat) (k a:Nat),k<=9->a<2^(7*k)->(∀b∈i,b<256)->(dec i k a).1<2^64
 | [],k,a,_,_,_=>by simp[dec]
 | g::r,k,a,m,aT,ak=>by
  have q:g<256:=ak g (by simp)
  unfold dec;split
  ·simp
  ·rename_i s;have j:=acv g k m s q;have u:=acx g a k aT;split
   ·rename_i C;by_cases z:k<=8
    ·exact dec_lt r (k+1) _ (by omega) u λb A=>ak b (by simp[A])
    ·exfalso;omega
   ·split
    ·simp
    ·show a+g % 128*2^(7*k)<2^64;have e:(2:Nat)^64=2^(64-7*k)*2^(7*k):=by rw[<-aAA];congr 1;omega
     rw[e]at j⊢;have B:g % 128<2^(64-7*k):=aFr j
     calc a+g % 128*2^(7*k)<2^(7*k)+g % 128*2^(7*k):=by omega
      _=(g % 128+1)*2^(7*k):=by rw[axY];omega
      _<=_:=azl _ B
theorem Bc:∀(m n:Nat),n<=m->∀b∈enc n,b<256
 | m,n,h,b,ak=>by
  by_cases a:n<128
  ·rw[Js a]at ak;simp at ak;omega
  ·rw[L4 a]at ak;rcases Iz.1 ak with rfl|ak
   ·omega
   ·cases m with
    | zero=>omega
    | succ m=>exact Bc m (n / 128) (by omega) b ak
theorem acC(r:List Nat):∀(m x k a:Nat),x<=m->k<=9->x*2^(7*k)<2^64->(0<k->0<x)->dec (enc x++r) k a=(a+x*2^(7*k),k+(enc x).length,0)
 | m,x,k,a,D,E,s,u=>by
  by_cases i:x<128
  ·rw[Js i,azv,dec,if_neg,if_neg (by omega),if_neg,azS i]
   ·rfl
   ·intro U;have:=u U.2;omega
   ·rintro⟨rfl,z⟩
    have A:2*2^(7*9)<=x*2^(7*9):=azl _ z;have B:2*2^(7*9)=2^64:=by decide
    omega
  ·have C:k<=8:=by
    rcases aAy k 9 with h|h
    ·omega
    ·have j:k=9:=by omega
     subst j;have A:128*2^(7*9)<=x*2^(7*9):=azl _ (by omega)
     have B:2^64<=128*2^(7*9):=by decide
     omega
   have q:2^(7*(k+1))=128*2^(7*k):=by rw[aBG,aAA,aAz]
   rw[L4 i,azv,dec,if_neg (by omega),if_pos (by omega)]
   cases m with
   | zero=>omega
   | succ m=>
    rw[acC r m (x / 128) (k+1) _ (by omega) (by omega) (by
     rw[q,<-aBq];exact aD2 (azl _ (Nat.div_mul_le_self x 128)) s) (by omega)]
    simp only[Prod.mk.injEq,axW,and_true];refine⟨?_,by omega⟩
    rw[q];have ay:(x % 128+128) % 128=x % 128:=by omega
    rw[ay,<-aBq,aAk,<-axY,aAz (x / 128) 128,Nat.mod_add_div]
theorem i8(x:Nat)(a:x<2^64)(r:List Nat):dec (enc x++r) 0 0=(x,(enc x).length,0):=by
 rw[acC r x x 0 0 (BY _) (by omega) (by simpa using a) (by omega)]
 simp
theorem ara{l:List Int}{k:Nat}(a:k<l.length):(ao l).drop (k*1)=.int .i64 l[k]::ao (l.drop (k+1)):=by
 rw[ajD];unfold ao;rw[<-aAN,azg a];rfl
theorem QI{l:List Int}{k:Nat}(a:k<l.length){t:TypeId}(i:dC mc t=some 1):gP mc t (.af l.length (ao l)) (.int .i64 (k:Int))=some (.at (.int .i64 l[k]::ao (l.drop (k+1)))):=by
 rw[I6 i (by omega) (by omega) (by rw[am];omega),ayQ,ara a]
theorem L8{n:Nat}(h:n<2^64):aOT.u64.wrap (n:Int)=(n:Int):=by rw[aOT.wrap_u64];omega
def Bd(x:List Nat):List Nat:=enc x.length++x
def zZ(l:List Int):List Nat:=enc l.length++l.flatMap λn=>enc (kJ n)
theorem acE(s:V)(cs:List Nat)(m:Nat)(h:I)(rd:Rd h s cs)(av:cs.length+m<=2^47) :
  au mc 102 [s,.int .i64 m] h (λr h'=>Acc h h' 5 1 r (e5 cs)) :=
 (fresh s cs m h rd av).mono λr h' ⟨e,o,k⟩=>⟨o,k,λj a=>by subst e;simp[aU]at a;omega⟩
theorem Wl{i:I}(s:V)(cs:List Nat)(n:Nat)(h:I)(a:Acc i h 5 1 s (e5 cs))(av:cs.length<=2^46)(j:n<2^64) :
  au mc 101 [s,.int .u64 n] h (λr h'=>Acc i h' 5 1 r (e5 (cs++enc n))) :=
 (Wf s cs n h a.own av j).mono λr h' ⟨o,k,d⟩=>a.step o k d
theorem acF{α β:Type}(l:List α)(f:α->List β){i:Nat}(a:i<l.length):(l.take (i+1)).flatMap f=(l.take i).flatMap f++f l[i]:=by
 rw[List.take_succ_eq_append_getElem a,List.flatMap_append];simp
theorem acG{l:List Int}(a:∀n∈l,-2^63<=n/\n<2^63):(l.flatMap λn=>enc (kJ n)).length<=10*l.length:=by
 induction l with
 | nil=>simp
 | cons n l ih=>
  have m:=ih λn j=>a n (by simp[j])
  have i:=a n (by simp)
  have:=(rR (kJ n) (CN n i.1 i.2)).2;simp only[azh,List.length_append,axW];omega
def gL(n:Nat):Int:=if n % 2=0 then((n / 2:Nat):Int)else -((n / 2:Nat):Int)-1
theorem arb(n:Nat)(a:n<2^64):Cs .u64 (n:Int) 1=((n % 2:Nat):Int):=by
 show aOT.u64.wrap ((BitVec.ofInt 64 (n:Int) &&& BitVec.ofInt 64 1).toNat:Int)=_;have e:BitVec.ofInt 64 (1:Int)=BitVec.ofNat 64 1:=rfl;have ay:(BitVec.ofNat 64 n &&& BitVec.ofNat 64 1).toNat=n % 2:=by
  rw[BitVec.toNat_and,BitVec.toNat_ofNat,BitVec.toNat_ofNat,azS a,azS (by decide),Nat.and_one_is_mod]
 rw[i3,e,ay,aOT.wrap_u64];omega
theorem arc(a:Nat)(aT:a<2^63):tL .i64 (a:Int) 0=(a:Int):=by
 show aOT.i64.wrap ((BitVec.ofInt 64 (a:Int) ^^^ BitVec.ofInt 64 0).toNat:Int)=_;have e:BitVec.ofInt 64 (0:Int)=BitVec.ofNat 64 0:=rfl;have ay:(BitVec.ofNat 64 a ^^^ BitVec.ofNat 64 0).toNat=a:=by
  rw[BitVec.toNat_xor,BitVec.toNat_ofNat,BitVec.toNat_ofNat,aFt,aFu];exact azS (by omega)
 rw[i3,e,ay,aOT.wrap_i64];omega
theorem ard(a:Nat)(aT:a<2^63):tL .i64 (a:Int) (-1)=-(a:Int)-1:=by
 show aOT.i64.wrap ((BitVec.ofInt 64 (a:Int) ^^^ BitVec.ofInt 64 (-1)).toNat:Int)=_;have e:BitVec.ofInt 64 (-1:Int)=BitVec.allOnes 64:=by decide
 have ay:(BitVec.ofNat 64 a ^^^ BitVec.allOnes 64).toNat=18446744073709551615-a:=by
  rw[BitVec.xor_allOnes,BitVec.toNat_not,BitVec.toNat_ofNat,azS (by omega)]
 rw[i3,e,ay,aOT.wrap_i64];omega
theorem arf(n:Nat)(a:n<2^64):tL .i64 (aOT.i64.wrap ((n:Int).fdiv (2^min (azk 1) aOT.u64.bits))) (aOT.i64.wrap (0-aOT.i64.wrap (Cs .u64 (n:Int) 1)))=gL n:=by
 have ay:(2:Int)^min (azk 1) aOT.u64.bits=2:=by decide
 have bc:aOT.i64.wrap ((n:Int).fdiv 2)=((n / 2:Nat):Int):=by
  rw[aA8 _ (by omega),Go.IntWalk.i64_in _ (by omega)];omega
 rw[ay,bc,arb n a,Go.IntWalk.i64_in ((n % 2:Nat):Int) (by omega),Go.IntWalk.i64_in _ (by omega)]
 unfold gL;by_cases h:n % 2=0
 ·rw[if_pos h,h];exact arc _ (by omega)
 ·have i:n % 2=1:=by omega
  rw[if_neg h,i];exact ard _ (by omega)
theorem acH(n:Nat)(a:n<2^64):-2^63<=gL n/\gL n<2^63:=by
 unfold gL;split<;>omega
theorem arh(n:Nat)(h:I)(a:n<2^64):Pure mc 170 [.int .u64 n] h (.int .i64 (gL n)):=by
 refine bd Tryz.func170 rfl ?_;simp only[ae,ds,reduceCtorEq,Ku (show(0:Int)<=1 by decide),lL oP xF,aP,Tryz.results170,ac]
 exact ar ⟨by rw[arf n a],rfl⟩
theorem Gr(p:V)(i:Nat)(a:List Nat)(h:I)(s:dS h p i a)(ak:∀b∈a,b<256)(av:a.length<=2^47) :
  au mc 145 [p] h (λr h'=>r=.tuple [.int .i64 (gL (dec a 0 0).1),.int .i64 ((dec a 0 0).2.2:Nat)]/\dS h' p i (a.drop (dec a 0 0).2.1)/\J h h' (·=i)):=by
 refine bd Tryz.func145 rfl ?_;simp only[ae,ds,reduceCtorEq];refine cA (QG p i a h s ak av) λr u ⟨ay,cL,q⟩=>?_;subst ay;have z:=dec_lt a 0 0 (by omega) (by decide) ak
 by_cases j:(dec a 0 0).2.2=0
 ·have m:((((dec a 0 0).2.2:Nat):Int) !=0)=false:=by simp[j]
  simp only[ae,ds,m];refine bO (arh _ u z) ?_;simp only[ae,ds,aP,aFw,da];exact ar ⟨by rw[j];rfl,cL,q⟩
 ·have m:((((dec a 0 0).2.2:Nat):Int) !=0)=true:=by simp;omega
  have A:=Wi a 0 0 j;simp only[ae,ds,m,aP,aFw,da];refine ar ⟨?_,cL,q⟩;rw[A];have:gL 0=0:=by decide
  simp only[this]
def ir(a:List Nat):List Nat×List Nat×Nat :=
 if(dec a 0 0).2.2≠0 then([],a,(dec a 0 0).2.2)
 else if(a.drop (dec a 0 0).2.1).length<(dec a 0 0).1 then([],a,4)
 else((a.drop (dec a 0 0).2.1).take (dec a 0 0).1,(a.drop (dec a 0 0).2.1).drop (dec a 0 0).1,0)
theorem acI(l:List Nat)(k:Nat)(a:k<=l.length){kk:aOT}:kx mc 26 (.af l.length (e5 l)) (some (.int kk (k:Nat))) none none=some (.af (l.drop k).length (e5 (l.drop k))):=by
 rw[aak LU (by omega) (by omega) (by rw[rQ];omega)]
 rw[ayQ,ajD];unfold e5;rw[aAN,azD]
theorem ari(l:List Nat)(k:Nat)(a:k<=l.length){kk:aOT}:kx mc 26 (.af l.length (e5 l)) none (some (.int kk (k:Nat))) none=some (.af (l.take k).length (e5 (l.take k))):=by
 rw[anL LU (by omega) (by omega) (by rw[rQ];omega)]
 rw[ayQ,ajD,List.length_take,Nat.min_eq_left a];unfold e5;rw[List.map_take]
theorem yT(h:I)(l:List V):aF (.tuple (.ag::l)) h (.tuple (.af 0 []::l)) h:=fun ρ B u w z m q=>by
 cases q with
 | tuple s i=>
  refine⟨ρ,Ren.le.refl ρ,m,.tuple s λk v j a b=>?_⟩
  match k with
  | 0=>
   simp at a;subst a;have:=i 0 .ag j rfl b;cases this;exact .fD _ _ (by simp)
  | k+1=>exact i (k+1) v j (by simpa using a) b
theorem Wm(n:Int):gL (kJ n)=n:=by
 unfold gL kJ;by_cases h:0<=n
 ·rw[if_pos h,if_pos (by omega)];omega
 ·rw[if_neg h,if_neg (by omega)];omega
def so:Nat->List Nat->List Int->List Int×List Nat×Nat
 | 0,rest,a=>(a,rest,0)
 | k+1,rest,a=>
  if(dec rest 0 0).2.2≠0 then([],[],(dec rest 0 0).2.2)
  else if gL (dec rest 0 0).1 < -2147483648\/2147483647<gL (dec rest 0 0).1 then([],[],2)
  else so k (rest.drop (dec rest 0 0).2.1) (a++[gL (dec rest 0 0).1])
def j3(a:List Nat)(i:Int):List Int×List Nat×Nat :=
 if(dec a 0 0).2.2≠0 then([],a,(dec a 0 0).2.2)
 else if i<0\/i<((dec a 0 0).1:Nat)then([],a,2)
 else if(so (dec a 0 0).1 (a.drop (dec a 0 0).2.1) []).2.2≠0 then([],a,(so (dec a 0 0).1 (a.drop (dec a 0 0).2.1) []).2.2)
 else so (dec a 0 0).1 (a.drop (dec a 0 0).2.1) []
theorem acJ{rest:List Nat}(ak:∀b∈rest,b<256)(h:(dec rest 0 0).2.2=0):1<=(dec rest 0 0).2.1/\(dec rest 0 0).2.1<=rest.length:=by
 have a:=(Wk rest 0 0 (dec rest 0 0).1 (dec rest 0 0).2.1 ak (by
  have q:dec rest 0 0=((dec rest 0 0).1,(dec rest 0 0).2.1,(dec rest 0 0).2.2):=rfl;rw[h]at q;exact q)).1
 have i:=Wj rest 0 0;omega
theorem arj(h:I)(a:Int):h3 mc 46 1 [(0,.int .i64 a)] h=some (.bg h.n 0 1 1,h.push (.cells [.int .i64 a] 3 none)):=by rw[mD oQ];rfl
theorem acK{P:Nat->Prop}{l:List Nat}(h:∀b∈l,P b)(k:Nat):∀b∈l.drop k,P b:=λb ak=>h b (List.mem_of_mem_drop ak)
theorem ark(x r:List Nat)(a:x.length<2^64):ir (Bd x++r)=(x,r,0):=by
 unfold ir Bd;rw[axV,i8 _ a];simp
theorem acL(r:List Nat):∀(l a:List Int),(∀n∈l,-2147483648<=n/\n<=2147483647)->so l.length ((l.flatMap λn=>enc (kJ n))++r) a=(a++l,r,0)
 | [],a,_=>by simp[so]
 | n::l,a,h=>by
  have q:=h n (by simp)
  have i:kJ n<2^64:=by unfold kJ;split<;>omega
  rw[axW,so,azh,axV,i8 _ i];simp only[Wm];rw[if_neg (by simp),if_neg (by omega),List.drop_left,acL r l (a++[n]) λm j=>h m (by simp[j])]
  simp
end Go.Proofs.YtemdgidnhgcafaaGreatDoor.Pk
