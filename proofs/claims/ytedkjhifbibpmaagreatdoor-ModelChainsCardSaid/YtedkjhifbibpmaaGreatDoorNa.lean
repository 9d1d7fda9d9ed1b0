/-
  What functions of the program do, told of abstract states. Conditions: as each theorem says.
-/
import Derived.Test.YtedkjhifbibpmaaGreatDoorAcD
import Derived.Test.YtedkjhifbibpmaaGreatDoorProg
set_option linter.unusedVariables false
set_option linter.unusedSimpArgs false
set_option maxHeartbeats 2000000
set_option maxRecDepth 10000
namespace Go.Proofs.YtedkjhifbibpmaaGreatDoor.Pk
open Go Go.Proofs Go.Proofs.YtedkjhifbibpmaaGreatDoor.Ab
theorem EY:uq Tryz.prog 24=none:=by kernel_rfl
theorem Hh:uq Tryz.prog 283=some (17,1):=by kernel_rfl
theorem aiE:uq Tryz.prog 339=some (11,4):=by kernel_rfl
theorem VS:uq Tryz.prog 35=none:=by kernel_rfl
theorem aiF:bT Tryz.prog 103=true:=by kernel_rfl
theorem P2:bT Tryz.prog 104=true:=by kernel_rfl
theorem P3:bT Tryz.prog 105=true:=by kernel_rfl
theorem aiG:bT Tryz.prog 106=true:=by kernel_rfl
theorem aiH:bT Tryz.prog 107=true:=by kernel_rfl
theorem aiI:bT Tryz.prog 108=true:=by kernel_rfl
theorem VT:bT Tryz.prog 109=true:=by kernel_rfl
theorem P4:bT Tryz.prog 110=true:=by kernel_rfl
theorem VU:bT Tryz.prog 111=true:=by kernel_rfl
theorem aiJ:bT Tryz.prog 112=true:=by kernel_rfl
theorem aiK:bT Tryz.prog 113=true:=by kernel_rfl
theorem aiL:bT Tryz.prog 114=true:=by kernel_rfl
theorem Ck:bT Tryz.prog 115=true:=by kernel_rfl
theorem VV:bT Tryz.prog 116=true:=by kernel_rfl
theorem aiM:bT Tryz.prog 117=true:=by kernel_rfl
theorem P5:bT Tryz.prog 118=true:=by kernel_rfl
theorem VW:bT Tryz.prog 119=true:=by kernel_rfl
theorem P6:bT Tryz.prog 120=true:=by kernel_rfl
theorem VX:bT Tryz.prog 121=true:=by kernel_rfl
theorem Hi:bT Tryz.prog 122=true:=by kernel_rfl
theorem P7:bT Tryz.prog 123=true:=by kernel_rfl
theorem KO:bT Tryz.prog 124=true:=by kernel_rfl
theorem aiN:bT Tryz.prog 125=true:=by kernel_rfl
theorem VY:bT Tryz.prog 126=true:=by kernel_rfl
theorem aiO:bT Tryz.prog 127=true:=by kernel_rfl
theorem aiP:bT Tryz.prog 128=true:=by kernel_rfl
theorem aiQ:bT Tryz.prog 129=true:=by kernel_rfl
theorem aiR:bT Tryz.prog 130=true:=by kernel_rfl
theorem aiS:bT Tryz.prog 131=true:=by kernel_rfl
theorem aiT:bT Tryz.prog 132=true:=by kernel_rfl
theorem aiU:bT Tryz.prog 133=true:=by kernel_rfl
theorem aiV:bT Tryz.prog 134=true:=by kernel_rfl
theorem aiW:bT Tryz.prog 135=true:=by kernel_rfl
theorem KQ:bT Tryz.prog 137=true:=by kernel_rfl
theorem VZ:bT Tryz.prog 156=true:=by kernel_rfl
theorem EZ:bT Tryz.prog 157=true:=by kernel_rfl
theorem KS:bT Tryz.prog 158=true:=by kernel_rfl
theorem P8:bT Tryz.prog 159=true:=by kernel_rfl
theorem KT:bT Tryz.prog 160=true:=by kernel_rfl
theorem E0:bT Tryz.prog 161=true:=by kernel_rfl
theorem aiX:bT Tryz.prog 162=true:=by kernel_rfl
theorem aiY:bT Tryz.prog 163=true:=by kernel_rfl
theorem P9:bT Tryz.prog 166=true:=by kernel_rfl
theorem aiZ:bT Tryz.prog 167=true:=by kernel_rfl
theorem Qa:bT Tryz.prog 168=true:=by kernel_rfl
theorem Cl:bT Tryz.prog 169=true:=by kernel_rfl
theorem V0:bT Tryz.prog 17=true:=by kernel_rfl
theorem ai0:bT Tryz.prog 171=true:=by kernel_rfl
theorem ai1:bT Tryz.prog 172=true:=by kernel_rfl
theorem V1:bT Tryz.prog 173=true:=by kernel_rfl
theorem ai2:bT Tryz.prog 174=true:=by kernel_rfl
theorem KU:bT Tryz.prog 175=true:=by kernel_rfl
theorem V2:bT Tryz.prog 176=true:=by kernel_rfl
theorem V3:bT Tryz.prog 177=true:=by kernel_rfl
theorem ai3:bT Tryz.prog 178=true:=by kernel_rfl
theorem Hj:bT Tryz.prog 179=true:=by kernel_rfl
theorem V4:bT Tryz.prog 18=true:=by kernel_rfl
theorem V5:bT Tryz.prog 180=true:=by kernel_rfl
theorem Qb:bT Tryz.prog 181=true:=by kernel_rfl
theorem ai4:bT Tryz.prog 182=true:=by kernel_rfl
theorem ai5:bT Tryz.prog 183=true:=by kernel_rfl
theorem ai6:bT Tryz.prog 184=true:=by kernel_rfl
theorem Hk:bT Tryz.prog 185=true:=by kernel_rfl
theorem EQ:bT Tryz.prog 186=true:=by kernel_rfl
theorem Qc:bT Tryz.prog 187=true:=by kernel_rfl
theorem ai7:bT Tryz.prog 188=true:=by kernel_rfl
theorem ai8:bT Tryz.prog 19=true:=by kernel_rfl
theorem ai9:bT Tryz.prog 190=true:=by kernel_rfl
theorem aja:bT Tryz.prog 191=true:=by kernel_rfl
theorem ajb:bT Tryz.prog 198=true:=by kernel_rfl
theorem V6:bT Tryz.prog 199=true:=by kernel_rfl
theorem ajc:bT Tryz.prog 200=true:=by kernel_rfl
theorem ajd:bT Tryz.prog 201=true:=by kernel_rfl
theorem V7:bT Tryz.prog 202=true:=by kernel_rfl
theorem V8:bT Tryz.prog 204=true:=by kernel_rfl
theorem V9:bT Tryz.prog 205=true:=by kernel_rfl
theorem aje:bT Tryz.prog 206=true:=by kernel_rfl
theorem ajf:bT Tryz.prog 207=true:=by kernel_rfl
theorem KV:bT Tryz.prog 210=true:=by kernel_rfl
theorem ajg:bT Tryz.prog 211=true:=by kernel_rfl
theorem ajh:bT Tryz.prog 212=true:=by kernel_rfl
theorem aji:bT Tryz.prog 214=true:=by kernel_rfl
theorem LT:bT Tryz.prog 215=true:=by kernel_rfl
theorem ajj:bT Tryz.prog 226=true:=by kernel_rfl
theorem aim:bT Tryz.prog 24=true:=by kernel_rfl
theorem ajk:bT Tryz.prog 243=true:=by kernel_rfl
theorem aio:bT Tryz.prog 25=true:=by kernel_rfl
theorem Wa:bT Tryz.prog 251=true:=by kernel_rfl
theorem ajl:bT Tryz.prog 257=true:=by kernel_rfl
theorem VB:bT Tryz.prog 26=true:=by kernel_rfl
theorem PX:bT Tryz.prog 27=true:=by kernel_rfl
theorem Wb:bT Tryz.prog 274=true:=by kernel_rfl
theorem ajm:bT Tryz.prog 298=true:=by kernel_rfl
theorem ajn:bT Tryz.prog 299=true:=by kernel_rfl
theorem Wc:bT Tryz.prog 303=true:=by kernel_rfl
theorem ajo:bT Tryz.prog 32=true:=by kernel_rfl
theorem Qd:bT Tryz.prog 53=true:=by kernel_rfl
theorem Wd:bT Tryz.prog 54=true:=by kernel_rfl
theorem We:bT Tryz.prog 55=true:=by kernel_rfl
theorem Cm:bT Tryz.prog 56=true:=by kernel_rfl
theorem ajp:bT Tryz.prog 57=true:=by kernel_rfl
theorem Wf:bT Tryz.prog 58=true:=by kernel_rfl
theorem vI:bT Tryz.prog 59=true:=by kernel_rfl
theorem ajq:bT Tryz.prog 61=true:=by kernel_rfl
theorem ajr:bT Tryz.prog 62=true:=by kernel_rfl
theorem ajs:bT Tryz.prog 63=true:=by kernel_rfl
theorem Wg:bT Tryz.prog 64=true:=by kernel_rfl
theorem ajt:bT Tryz.prog 65=true:=by kernel_rfl
theorem aju:bT Tryz.prog 66=true:=by kernel_rfl
theorem Wh:bT Tryz.prog 67=true:=by kernel_rfl
theorem Qe:bT Tryz.prog 68=true:=by kernel_rfl
theorem Wi:bT Tryz.prog 69=true:=by kernel_rfl
theorem ajv:bT Tryz.prog 70=true:=by kernel_rfl
theorem Ok:bT Tryz.prog 71=true:=by kernel_rfl
theorem ajw:bT Tryz.prog 72=true:=by kernel_rfl
theorem Cn:bT Tryz.prog 73=true:=by kernel_rfl
theorem E1:bT Tryz.prog 74=true:=by kernel_rfl
theorem ajx:bT Tryz.prog 75=true:=by kernel_rfl
theorem Co:bT Tryz.prog 76=true:=by kernel_rfl
theorem ajy:bT Tryz.prog 82=true:=by kernel_rfl
theorem U1:bT Tryz.prog 83=true:=by kernel_rfl
theorem KW:GQ Tryz.prog 328=some .f64:=by kernel_rfl
theorem ajz:eT Tryz.prog 124 0=some 0:=by kernel_rfl
theorem Wj:eT Tryz.prog 124 1=some 3:=by kernel_rfl
theorem Cp:eT Tryz.prog 124 2=some 4:=by kernel_rfl
theorem E2:eT Tryz.prog 146 0=some 0:=by kernel_rfl
theorem Wk:eT Tryz.prog 146 1=some 2:=by kernel_rfl
theorem Qf:eT Tryz.prog 146 2=some 3:=by kernel_rfl
theorem Cq:eT Tryz.prog 146 3=some 4:=by kernel_rfl
theorem Cr:eT Tryz.prog 146 4=some 5:=by kernel_rfl
theorem Cs:eT Tryz.prog 149 0=some 0:=by kernel_rfl
theorem AQ:eT Tryz.prog 149 1=some 1:=by kernel_rfl
theorem Wl:eT Tryz.prog 149 2=some 5:=by kernel_rfl
theorem Qg:eT Tryz.prog 206 0=some 0:=by kernel_rfl
theorem Wm:eT Tryz.prog 206 1=some 1:=by kernel_rfl
theorem wX:eT Tryz.prog 231 0=some 0:=by kernel_rfl
theorem Wn:eT Tryz.prog 269 0=some 0:=by kernel_rfl
theorem uG:eT Tryz.prog 269 1=some 1:=by kernel_rfl
theorem Wo:eT Tryz.prog 272 0=some 0:=by kernel_rfl
theorem Ct:eT Tryz.prog 272 1=some 1:=by kernel_rfl
theorem xV:eT Tryz.prog 272 2=some 2:=by kernel_rfl
theorem Qh:eT Tryz.prog 275 0=some 0:=by kernel_rfl
theorem Cu:eT Tryz.prog 275 1=some 1:=by kernel_rfl
theorem vJ:eT Tryz.prog 275 2=some 2:=by kernel_rfl
theorem Hl:eT Tryz.prog 278 0=some 0:=by kernel_rfl
theorem nv:eT Tryz.prog 27 0=some 0:=by kernel_rfl
theorem E3:eT Tryz.prog 27 1=some 1:=by kernel_rfl
theorem pz:eT Tryz.prog 27 2=some 2:=by kernel_rfl
theorem Wp:eT Tryz.prog 286 0=some 0:=by kernel_rfl
theorem KX:eT Tryz.prog 286 1=some 1:=by kernel_rfl
theorem Cv:eT Tryz.prog 292 0=some 0:=by kernel_rfl
theorem Wq:eT Tryz.prog 292 1=some 1:=by kernel_rfl
theorem ajA:eT Tryz.prog 292 2=some 2:=by kernel_rfl
theorem KY:eT Tryz.prog 297 0=some 0:=by kernel_rfl
theorem Wr:eT Tryz.prog 297 1=some 1:=by kernel_rfl
theorem hl:eT Tryz.prog 29 0=some 0:=by kernel_rfl
theorem qE:eT Tryz.prog 29 1=some 1:=by kernel_rfl
theorem co:eT Tryz.prog 29 2=some 2:=by kernel_rfl
theorem xW:eT Tryz.prog 29 3=some 5:=by kernel_rfl
theorem Ws:eT Tryz.prog 338 0=some 0:=by kernel_rfl
theorem ajB:eT Tryz.prog 338 1=some 1:=by kernel_rfl
theorem Wt:eT Tryz.prog 338 2=some 2:=by kernel_rfl
theorem ajC:eT Tryz.prog 338 3=some 3:=by kernel_rfl
theorem vK:eT Tryz.prog 38 0=some 0:=by kernel_rfl
theorem Hm:eT Tryz.prog 38 1=some 1:=by kernel_rfl
theorem rk:eT Tryz.prog 38 2=some 2:=by kernel_rfl
theorem E4:eT Tryz.prog 40 0=some 0:=by kernel_rfl
theorem ou:eT Tryz.prog 40 1=some 1:=by kernel_rfl
theorem tG:eT Tryz.prog 40 2=some 2:=by kernel_rfl
theorem AR:eT Tryz.prog 40 3=some 3:=by kernel_rfl
theorem xX:eT Tryz.prog 40 4=some 4:=by kernel_rfl
theorem lU:eT Tryz.prog 56 0=some 0:=by kernel_rfl
theorem E5:eT Tryz.prog 56 1=some 1:=by kernel_rfl
theorem Ch:eT Tryz.prog 67 0=some 0:=by kernel_rfl
theorem Wu:eT Tryz.prog 67 1=some 1:=by kernel_rfl
theorem ajD:eT Tryz.prog 67 2=some 2:=by kernel_rfl
theorem Hc:eT Tryz.prog 67 3=some 3:=by kernel_rfl
theorem ajE:eT Tryz.prog 79 0=some 0:=by kernel_rfl
theorem VM:eT Tryz.prog 79 1=some 1:=by kernel_rfl
theorem IT:eT Tryz.prog 81 2=some 4:=by kernel_rfl
theorem LE:Ae Tryz.prog 194=some false:=by kernel_rfl
theorem ajF:Ae Tryz.prog 197=some false:=by kernel_rfl
theorem ajG:Ae Tryz.prog 200=some false:=by kernel_rfl
theorem ajH:Ae Tryz.prog 32=some false:=by kernel_rfl
theorem uH:kK Tryz.prog 2=some .i64:=by kernel_rfl
theorem mY:kK Tryz.prog 221=some .u64:=by kernel_rfl
theorem iB:kK Tryz.prog 3=some .i64:=by kernel_rfl
theorem Hn:kK Tryz.prog 312=some .u64:=by kernel_rfl
theorem mj:kK Tryz.prog 5=some .u8:=by kernel_rfl
theorem xY:eH Tryz.prog 140=some 0:=by kernel_rfl
theorem Qi:eH Tryz.prog 194=some 0:=by kernel_rfl
theorem ajI:eH Tryz.prog 197=some 0:=by kernel_rfl
theorem E6:eH Tryz.prog 200=some 0:=by kernel_rfl
theorem ajJ:eH Tryz.prog 203=some 0:=by kernel_rfl
theorem ajK:eH Tryz.prog 229=some 2:=by kernel_rfl
theorem qF:eH Tryz.prog 24=some 1:=by kernel_rfl
theorem uF:eH Tryz.prog 25=some 1:=by kernel_rfl
theorem r3:eH Tryz.prog 267=some 1:=by kernel_rfl
theorem Wv:eH Tryz.prog 270=some 2:=by kernel_rfl
theorem rn:eH Tryz.prog 273=some 1:=by kernel_rfl
theorem Ww:eH Tryz.prog 31=some 0:=by kernel_rfl
theorem wY:eH Tryz.prog 35=some 1:=by kernel_rfl
theorem KI:eH Tryz.prog 49=some 1:=by kernel_rfl
theorem px:eH Tryz.prog 54=some 1:=by kernel_rfl
theorem PW:eH Tryz.prog 61=some 0:=by kernel_rfl
theorem zu:eH Tryz.prog 64=some 1:=by kernel_rfl
theorem Hd:eH Tryz.prog 65=some 1:=by kernel_rfl
theorem rp:eH Tryz.prog 87=some 1:=by kernel_rfl
theorem Cw:loadT Tryz.prog 118=some none:=by kernel_rfl
theorem Cx:loadT Tryz.prog 140=some none:=by kernel_rfl
theorem Cy:loadT Tryz.prog 144=some none:=by kernel_rfl
theorem Wx:loadT Tryz.prog 147=some none:=by kernel_rfl
theorem U0:loadT Tryz.prog 159=some none:=by kernel_rfl
theorem Ho:loadT Tryz.prog 194=some none:=by kernel_rfl
theorem bx:loadT Tryz.prog 2=some none:=by kernel_rfl
theorem Qj:loadT Tryz.prog 203=some none:=by kernel_rfl
theorem wZ:loadT Tryz.prog 229=some none:=by kernel_rfl
theorem mW:loadT Tryz.prog 24=some none:=by kernel_rfl
theorem qG:loadT Tryz.prog 25=some none:=by kernel_rfl
theorem w0:loadT Tryz.prog 267=some none:=by kernel_rfl
theorem fh:loadT Tryz.prog 27=some (some 3):=by kernel_rfl
theorem xZ:loadT Tryz.prog 270=some none:=by kernel_rfl
theorem zx:loadT Tryz.prog 273=some none:=by kernel_rfl
theorem Cz:loadT Tryz.prog 286=some (some 2):=by kernel_rfl
theorem nS:loadT Tryz.prog 29=some (some 6):=by kernel_rfl
theorem Wy:loadT Tryz.prog 290=some none:=by kernel_rfl
theorem jZ:loadT Tryz.prog 292=some (some 3):=by kernel_rfl
theorem Qk:loadT Tryz.prog 297=some (some 2):=by kernel_rfl
theorem bn:loadT Tryz.prog 3=some none:=by kernel_rfl
theorem KM:loadT Tryz.prog 32=some none:=by kernel_rfl
theorem ajL:loadT Tryz.prog 338=some (some 4):=by kernel_rfl
theorem KZ:loadT Tryz.prog 341=some (some 2):=by kernel_rfl
theorem ajM:loadT Tryz.prog 35=some none:=by kernel_rfl
theorem dQ:loadT Tryz.prog 38=some (some 3):=by kernel_rfl
theorem o5:loadT Tryz.prog 4=some none:=by kernel_rfl
theorem mH:loadT Tryz.prog 40=some (some 5):=by kernel_rfl
theorem UU:loadT Tryz.prog 49=some none:=by kernel_rfl
theorem rq:loadT Tryz.prog 5=some none:=by kernel_rfl
theorem kO:loadT Tryz.prog 54=some none:=by kernel_rfl
theorem nX:loadT Tryz.prog 56=some (some 2):=by kernel_rfl
theorem x0:loadT Tryz.prog 61=some none:=by kernel_rfl
theorem Ci:loadT Tryz.prog 64=some none:=by kernel_rfl
theorem He:loadT Tryz.prog 65=some none:=by kernel_rfl
theorem K0:loadT Tryz.prog 67=some (some 4):=by kernel_rfl
theorem ajN:loadT Tryz.prog 79=some (some 4):=by kernel_rfl
theorem Hp:loadT Tryz.prog 87=some none:=by kernel_rfl
theorem Hq:e9 Tryz.prog 144=some (3,31,.int .i64):=by kernel_rfl
theorem K1:e9 Tryz.prog 226=some (3,3,.int .i64):=by kernel_rfl
theorem E7:e9 Tryz.prog 229=some (3,2,.int .i64):=by kernel_rfl
theorem ajO:bT Tryz.prog 208=false:=by kernel_rfl
theorem ajP:bT Tryz.prog 255=false:=by kernel_rfl
theorem ajQ:gq Tryz.prog 124=some (.inl [(0,3),(3,1),(4,1)]):=by kernel_rfl
theorem ajR:gq Tryz.prog 146=some (.inl [(0,2),(2,1),(3,1),(4,1),(5,1)]):=by kernel_rfl
theorem ajS:gq Tryz.prog 149=some (.inl [(0,1),(1,4),(5,1)]):=by kernel_rfl
theorem ajT:gq Tryz.prog 206=some (.inl [(0,1),(1,1)]):=by kernel_rfl
theorem ajU:gq Tryz.prog 231=some (.inl [(0,1)]):=by kernel_rfl
theorem ajV:gq Tryz.prog 269=some (.inl [(0,1),(1,1)]):=by kernel_rfl
theorem vL:gq Tryz.prog 27=some (.inl [(0,1),(1,1),(2,1)]):=by kernel_rfl
theorem ajW:gq Tryz.prog 272=some (.inl [(0,1),(1,1),(2,1)]):=by kernel_rfl
theorem ajX:gq Tryz.prog 275=some (.inl [(0,1),(1,1),(2,1)]):=by kernel_rfl
theorem Wz:gq Tryz.prog 278=some (.inl [(0,1)]):=by kernel_rfl
theorem K2:gq Tryz.prog 286=some (.inl [(0,1),(1,1)]):=by kernel_rfl
theorem li:gq Tryz.prog 29=some (.inl [(0,1),(1,1),(2,3),(5,1)]):=by kernel_rfl
theorem ajY:gq Tryz.prog 292=some (.inl [(0,1),(1,1),(2,1)]):=by kernel_rfl
theorem ajZ:gq Tryz.prog 297=some (.inl [(0,1),(1,1)]):=by kernel_rfl
theorem K3:gq Tryz.prog 341=some (.inl [(0,1),(1,1)]):=by kernel_rfl
theorem E8:gq Tryz.prog 38=some (.inl [(0,1),(1,1),(2,1)]):=by kernel_rfl
theorem w1:gq Tryz.prog 40=some (.inl [(0,1),(1,1),(2,1),(3,1),(4,1)]):=by kernel_rfl
theorem xS:gq Tryz.prog 56=some (.inl [(0,1),(1,1)]):=by kernel_rfl
theorem No:gq Tryz.prog 67=some (.inl [(0,1),(1,1),(2,1),(3,1)]):=by kernel_rfl
theorem aj0:gq Tryz.prog 79=some (.inl [(0,1),(1,3)]):=by kernel_rfl
theorem Nm:gq Tryz.prog 81=some (.inl [(0,1),(1,3),(4,1)]):=by kernel_rfl
theorem aj1:KG Tryz.prog 79=some [([0],false),([0,0,0],true)]:=by kernel_rfl
theorem aj2:B3 Tryz.prog 38=some [0,0,0]:=by kernel_rfl
theorem uA:hr Tryz.prog 24=some ⟨3,[.int .i64 0],1,8⟩:=by kernel_rfl
theorem Ql:hr Tryz.prog 25=some ⟨27,[.int .i64 0,.int .i64 0,.an],3,40⟩:=by kernel_rfl
theorem w2:hr Tryz.prog 267=some ⟨297,[.int .i64 0,.int .i64 0],2,16⟩:=by kernel_rfl
theorem vM:hr Tryz.prog 273=some ⟨292,[.int .i64 0,.complex .f64 0 0,.int .i64 0],3,32⟩:=by kernel_rfl
theorem CA:hr Tryz.prog 35=some ⟨40,[.int .i64 0,.int .i64 0,.int .i64 0,.int .i64 0,.bool false],5,40⟩:=by kernel_rfl
theorem PG:hr Tryz.prog 49=some ⟨38,[.int .i64 0,.int .i64 0,.int .i64 0],3,24⟩:=by kernel_rfl
theorem Ce:hr Tryz.prog 54=some ⟨29,[.int .i64 0,.an,.int .i64 0,.int .i64 0,.an,.int .i64 0],6,80⟩:=by kernel_rfl
theorem WA:hr Tryz.prog 64=some ⟨79,[.int .i64 0,.int .i64 0,.int .i64 0,.int .i64 0],4,32⟩:=by kernel_rfl
theorem WB:hr Tryz.prog 65=some ⟨81,[.int .i64 0,.int .i64 0,.int .i64 0,.int .i64 0,.int .i64 0],5,40⟩:=by kernel_rfl
theorem Hr:hr Tryz.prog 87=some ⟨5,[.int .u8 0],1,1⟩:=by kernel_rfl
theorem mF:ek Tryz.prog 24=some 1:=by kernel_rfl
theorem WC:ek Tryz.prog 25=some 3:=by kernel_rfl
theorem r4:ek Tryz.prog 267=some 2:=by kernel_rfl
theorem fd:ek Tryz.prog 273=some 3:=by kernel_rfl
theorem Hs:ek Tryz.prog 283=none:=by kernel_rfl
theorem aj3:ek Tryz.prog 339=none:=by kernel_rfl
theorem K4:ek Tryz.prog 35=some 5:=by kernel_rfl
theorem PE:ek Tryz.prog 49=some 3:=by kernel_rfl
theorem xR:ek Tryz.prog 54=some 6:=by kernel_rfl
theorem KN:ek Tryz.prog 64=some 4:=by kernel_rfl
theorem ais:ek Tryz.prog 65=some 5:=by kernel_rfl
theorem K5:ek Tryz.prog 87=some 1:=by kernel_rfl
theorem CB:lO Tryz.prog 2=some (.int .i64 0):=by kernel_rfl
theorem K6:lO Tryz.prog 31=some (.pointer none):=by kernel_rfl
theorem aj4:hF Tryz.prog 124=some [.int .i64 0,.int .i64 0,.an,.int .i64 0,.nilIface]:=by kernel_rfl
theorem aj5:hF Tryz.prog 146=some [.an,.int .i64 0,.an,.int .i64 0,.c9,.kF]:=by kernel_rfl
theorem aj6:hF Tryz.prog 149=some [.c9,.an,.an,.an,.an,.int .i64 0]:=by kernel_rfl
theorem ahZ:hF Tryz.prog 159=some [.nilFunc]:=by kernel_rfl
theorem Qm:hF Tryz.prog 2=some [.int .i64 0]:=by kernel_rfl
theorem aj7:hF Tryz.prog 206=some [.c9,.int .i64 0]:=by kernel_rfl
theorem aj8:hF Tryz.prog 231=some [.kF]:=by kernel_rfl
theorem U3:hF Tryz.prog 24=some [.an]:=by kernel_rfl
theorem aj9:hF Tryz.prog 269=some [.int .i64 0,.an]:=by kernel_rfl
theorem ov:hF Tryz.prog 27=some [.int .i64 0,.int .i64 0,.an]:=by kernel_rfl
theorem aka:hF Tryz.prog 272=some [.int .i64 0,.int .i64 0,.kF]:=by kernel_rfl
theorem akb:hF Tryz.prog 275=some [.int .i64 0,.int .i64 0,.an]:=by kernel_rfl
theorem WD:hF Tryz.prog 278=some [.an]:=by kernel_rfl
theorem Ht:hF Tryz.prog 286=some [.int .i64 0,.int .i64 0]:=by kernel_rfl
theorem nW:hF Tryz.prog 29=some [.int .i64 0,.an,.int .i64 0,.int .i64 0,.an,.int .i64 0]:=by kernel_rfl
theorem E9:hF Tryz.prog 292=some [.int .i64 0,.complex .f64 0 0,.int .i64 0]:=by kernel_rfl
theorem akc:hF Tryz.prog 297=some [.int .i64 0,.int .i64 0]:=by kernel_rfl
theorem akd:hF Tryz.prog 32=some [.int .i64 0]:=by kernel_rfl
theorem K7:hF Tryz.prog 341=some [.int .i64 0,.int .i64 0]:=by kernel_rfl
theorem vH:hF Tryz.prog 38=some [.int .i64 0,.int .i64 0,.int .i64 0]:=by kernel_rfl
theorem ml:hF Tryz.prog 40=some [.int .i64 0,.int .i64 0,.int .i64 0,.int .i64 0,.bool false]:=by kernel_rfl
theorem ah0:hF Tryz.prog 49=some [.an]:=by kernel_rfl
theorem tD:hF Tryz.prog 56=some [.an,.int .i64 0]:=by kernel_rfl
theorem Ha:hF Tryz.prog 67=some [.an,.an,.an,.an]:=by kernel_rfl
theorem ake:hF Tryz.prog 79=some [.int .i64 0,.int .i64 0,.int .i64 0,.int .i64 0]:=by kernel_rfl
theorem akf:hF Tryz.prog 81=some [.int .i64 0,.int .i64 0,.int .i64 0,.int .i64 0,.int .i64 0]:=by kernel_rfl
theorem ah1:cI Tryz.prog 159=some 1:=by kernel_rfl
theorem rr:cI Tryz.prog 2=some 1:=by kernel_rfl
theorem akg:cI Tryz.prog 206=some 2:=by kernel_rfl
theorem PI:cI Tryz.prog 24=some 1:=by kernel_rfl
theorem WE:cI Tryz.prog 25=some 1:=by kernel_rfl
theorem WG:cI Tryz.prog 267=some 1:=by kernel_rfl
theorem mZ:cI Tryz.prog 27=some 3:=by kernel_rfl
theorem Qn:cI Tryz.prog 273=some 1:=by kernel_rfl
theorem akh:cI Tryz.prog 278=some 1:=by kernel_rfl
theorem K8:cI Tryz.prog 286=some 2:=by kernel_rfl
theorem pZ:cI Tryz.prog 29=some 6:=by kernel_rfl
theorem CC:cI Tryz.prog 292=some 3:=by kernel_rfl
theorem WH:cI Tryz.prog 297=some 2:=by kernel_rfl
theorem uz:cI Tryz.prog 3=some 1:=by kernel_rfl
theorem Qo:cI Tryz.prog 32=some 1:=by kernel_rfl
theorem K9:cI Tryz.prog 341=some 2:=by kernel_rfl
theorem aki:cI Tryz.prog 35=some 1:=by kernel_rfl
theorem m9:cI Tryz.prog 38=some 3:=by kernel_rfl
theorem ow:cI Tryz.prog 40=some 5:=by kernel_rfl
theorem ahN:cI Tryz.prog 49=some 1:=by kernel_rfl
theorem KK:cI Tryz.prog 54=some 1:=by kernel_rfl
theorem tE:cI Tryz.prog 56=some 2:=by kernel_rfl
theorem akj:cI Tryz.prog 64=some 1:=by kernel_rfl
theorem akk:cI Tryz.prog 65=some 1:=by kernel_rfl
theorem Cg:cI Tryz.prog 67=some 4:=by kernel_rfl
theorem Qp:cI Tryz.prog 87=some 1:=by kernel_rfl
inductive bG where
 | mk (op n:Int) (aE:List bG)
def bG.op:bG→Int | .mk o _ _=>o
def bG.num:bG→Int | .mk _ n _=>n
def bG.aE:bG→List bG | .mk _ _ l=>l
mutual
def ay:bG→List V
 | .mk o n l=>[.int .i64 o,.int .i64 n,.ai l.length (ru l)]
def ru:List bG→List V
 | []=>[]
 | k::r=>ay k++ru r
end
theorem WI:∀ l:List bG,ru l=l.flatMap ay
 | []=>by simp [ru]
 | k::r=>by rw [ru,WI r];simp
theorem ot (e:bG):(ay e).length=3:=by cases e;rfl
theorem Hu (e:bG):(ay e).all (·.one)=true:=by cases e;rfl
theorem jv (o n:Int) (l:List bG):ay (.mk o n l)=[.int .i64 o,.int .i64 n,.ai l.length (l.flatMap ay)]:=by rw [ay,WI]
mutual
theorem Qq:(e:bG)→bo (ay e)
 | .mk o n l=>bo.cons (bj.int _ _) (bo.cons (bj.int _ _) (bo.cons (bj.ai (WJ l)) bo.nil))
theorem WJ:(l:List bG)→bo (ru l)
 | []=>by rw [ru];exact bo.nil
 | k::r=>by rw [ru];exact (Qq k).append (WJ r)
end
def dq:List Int:=[0,0,0,0,0,0,2,2,2,2,2,2,2,3,1,2,2]
def fx:List V:=dq.map (.int .i64)
def ga (h:I):Prop:=h.glob 1=some fx
def lV:bG→Bool
 | .mk o n l=>decide (1≤o∧o≤16)&&(decide ((l.length:Int)=dq.getD o.toNat 0)&&(decide (n=0)||decide (o=1)))
theorem akl (e:bG) (h:I) (av:ga h):Pure Tryz.prog 198 [.agg (ay e)] h (.bool (lV e)):=by
 refine Pure.val (bj.bool _) ?_
 obtain ⟨o,n,l⟩:=e
 refine ae.ax (c:=_) Tryz.func198 rfl (by kernel_rfl) (by simp) ?_
 have au:(V.agg (ay (.mk o n l))).cells=some [.int .i64 o,.int .i64 n,.ai l.length (l.flatMap ay)]:=by rw [jv];rfl
 by_cases h1:o<1
 ·have bs:lV (.mk o n l)=false:=by simp [lV];omega
  simp only [af,Nat.reduceEqDiff,Nat.reduceAdd,nv,bn,au,h1,aU,Tryz.results198,ac]
  exact aF ⟨by rw [bs],J.push _ _ _⟩
 by_cases aa:16<o
 ·have bs:lV (.mk o n l)=false:=by simp [lV];omega
  simp only [af,Nat.reduceEqDiff,Nat.reduceAdd,nv,bn,au,h1,aa,aU,Tryz.results198,ac]
  exact aF ⟨by rw [bs],J.push _ _ _⟩
 simp only [af,Nat.reduceEqDiff,Nat.reduceAdd,nv,bn,au,h1,aa]
 refine aX.bk none_ [] (.q 0 (.q 1 (.q 2 (.q 3 (.q 4 (.q 5 (.q 6 (.q 7 (.q 8 (.q 9 (.q 10 (.q 11 (.q 12 (.q 13 (.q 14 (.q 15 (.q 16 (.q 17 (.q 18 .done))))))))))))))))))) (by kernel_rfl) (by kernel_rfl) (by kernel_rfl) ?_
 have tv:∀ (f:ah) (a:bb),ah.eval f (h.push a) (.global 1)=.at fx:=fun f a=>J1 (by rw [EC];exact av)
 obtain ⟨k,hk,akm⟩:∃ k:Nat,o=(k:Int)∧k<17:=⟨o.toNat,by omega,by omega⟩
 subst hk
 have pA:∀ m,dB (bb.cells [.int .i64 (k:Int),.int .i64 n,.ai l.length (l.flatMap ay)] 27 none) m=if m≤3 then some ([V.int .i64 (k:Int),.int .i64 n,.ai l.length (l.flatMap ay)].drop m) else none:=fun m=>rfl
 have gk:(if (0:Int)≤(k:Int)∧(k:Int)<((17:Nat):Int)∧((k:Int).toNat * 1)≤fx.length then some (V.at (fx.drop ((k:Int).toNat * 1))) else none)=some (.at (.int .i64 (dq.getD k 0)::fx.drop (k+1))):=by
  rw [if_pos ⟨by omega,by omega,by simp [fx,dq];omega⟩]
  have:fx.drop ((k:Int).toNat * 1)=.int .i64 (dq.getD k 0)::fx.drop (k+1):=by
   rw [Int.toNat_natCast,Nat.mul_one,List.drop_eq_getElem_cons (by simp [fx,dq];omega)]
   simp [fx,List.getD,List.getElem?_eq_getElem (show k<dq.length by simp [dq];omega)]
  rw [this]
 by_cases aC:((l.length:Nat):Int)=dq.getD k 0
 ·have c3:(((l.length:Nat):Int)==dq.getD k 0)=true:=by simpa using aC
  by_cases bz:n=0
  ·have ew:(n==0)=true:=by simpa using bz
   have bs:lV (.mk (k:Int) n l)=true:=by simp [lV,aC,bz];omega
   simp only [af,bN,Nat.reduceEqDiff,Nat.reduceLeDiff,Hh,nv,E3,pz,uF,bx,qG,bn,Hs,pA,tv,gk,c3,ew,aU,Tryz.results198,ac]
   exact aF ⟨by rw [bs],J.push _ _ _⟩
  ·have ew:(n==0)=false:=by simpa using bz
   have bs:lV (.mk (k:Int) n l)=((k:Int)==1):=by rw [Bool.eq_iff_iff];simp [lV,aC,bz];omega
   simp only [af,bN,Nat.reduceEqDiff,Nat.reduceLeDiff,Hh,nv,E3,pz,uF,bx,qG,bn,Hs,pA,tv,gk,c3,ew,aU,Tryz.results198,ac]
   exact aF ⟨by rw [bs],J.push _ _ _⟩
 ·have c3:(((l.length:Nat):Int)==dq.getD k 0)=false:=by simpa using aC
  have bs:lV (.mk (k:Int) n l)=false:=by simp [lV] at aC⊢;omega
  simp only [af,bN,Nat.reduceEqDiff,Nat.reduceLeDiff,Hh,nv,pz,uF,qG,bn,Hs,pA,tv,gk,c3,aU,Tryz.results198,ac]
  exact aF ⟨by rw [bs],J.push _ _ _⟩
def jK (f:Nat→bG→Option Nat) (room:Nat):Nat→List bG→Option Nat
 | m,[]=>some m
 | m,k::r=>match f (room - m) k with
  | some c=>jK f room (m+c) r
  | none=>none
def gW:Nat→Nat→bG→Option Nat
 | 0,_,_=>none
 | l+1,room,e=>if room=0∨lV e=false then none else jK (gW l) room 1 e.aE
theorem WK {f:Nat→bG→Option Nat} {room:Nat} (aq:∀ q e c,f q e=some c→1≤c∧c≤q):∀ {m:Nat} {l:List bG} {c:Nat},1≤m→m≤room→jK f room m l=some c→1≤c∧c≤room
 | m,[],c,h1,aa,h=>by simp [jK] at h;omega
 | m,k::r,c,h1,aa,h=>by
  unfold jK at h
  split at h
  ·rename_i d a7
   have:=aq _ _ _ a7
   exact WK aq (by omega) (by omega) h
  ·cases h
theorem WL:∀ {l room:Nat} {e:bG} {c:Nat},gW l room e=some c→1≤c∧c≤room
 | 0,_,_,_,h=>by simp [gW] at h
 | l+1,room,e,c,h=>by
  unfold gW at h
  split at h
  ·cases h
  ·rename_i aH
   exact WK (fun q e c=>WL) (by omega) (by omega) h
def uI:Option Nat→V
 | some m=>.tuple [.int .i64 (m:Nat),.bool true]
 | none=>.tuple [.int .i64 0,.bool false]
theorem akn {o n:Int} {l:List bG} (h:lV (.mk o n l)=true):l.length≤3:=by
 simp only [lV,Bool.and_eq_true,Bool.or_eq_true,decide_eq_true_eq] at h
 obtain ⟨⟨h1,aa⟩,aC,_⟩:=h
 have:∀ k:Nat,dq.getD k 0≤3:=fun k=>by
  by_cases hk:k<17
  ·revert hk;revert k;decide
  ·rw [List.getD,List.getElem?_eq_none (by simp [dq];omega)];decide
 have:=this o.toNat
 omega
theorem EV {l:List bG} {k:Nat} (hk:k<l.length) {kk:IntKind}:hA Tryz.prog 25 (.ai l.length (l.flatMap ay)) (.int kk (k:Int))=some (.at (ay l[k]++(l.drop (k+1)).flatMap ay)):=qC ot hk WC
theorem WM:∀ (l room:Nat) (e:bG) (h:I),ga h→l≤16→room≤64→Pure Tryz.prog 156 [.agg (ay e),.int .i64 (l:Nat),.int .i64 (room:Nat)] h (uI (gW l room e))
 | 0,room,e,h,av,_,_=>by
  refine Pure.val (bj.tuple (bo.cons (bj.int _ _) (bo.cons (bj.bool _) bo.nil))) ?_
  refine ae.ax (c:=_) Tryz.func156 rfl (by kernel_rfl) (by simp) ?_
  have au:(V.agg (ay e)).cells=some (ay e):=rfl
  have bh:(((0:Nat):Int)==0)=true:=rfl
  simp only [af,Nat.reduceEqDiff,au,bh,aU,Tryz.results156,dn]
  exact aF ⟨rfl,J.push _ _ _⟩
 | l+1,room,e,h,av,az,aH=>by
  have pT:bj (uI (gW (l+1) room e)):=by
   cases gW (l+1) room e<;>exact bj.tuple (bo.cons (bj.int _ _) (bo.cons (bj.bool _) bo.nil))
  refine Pure.val pT ?_
  refine ae.ax (c:=_) Tryz.func156 rfl (by kernel_rfl) (by simp) ?_
  have au:(V.agg (ay e)).cells=some (ay e):=rfl
  have bh:(((l+1:Nat):Int)==0)=false:=by simp only [beq_eq_false_iff_ne,ne_eq];omega
  by_cases h0:room=0
  ·have bD:(((room:Nat):Int)==0)=true:=by simp [h0]
   have bs:gW (l+1) room e=none:=by simp [gW,h0]
   simp only [af,Nat.reduceEqDiff,au,bh,bD,aU,Tryz.results156,dn]
   exact aF ⟨by rw [bs];rfl,J.push _ _ _⟩
  have bD:(((room:Nat):Int)==0)=false:=by simp only [beq_eq_false_iff_ne,ne_eq];omega
  have pA:dB (bb.cells (ay e) 27 none) 0=some (ay e):=by cases e;rfl
  have kX:dv (some (some 3)) (some (ay e))=some (.agg (ay e)):=by cases e;rfl
  have ef:∀ a,ga (h.push a):=fun a=>by unfold ga;rw [EC];exact av
  simp only [af,Nat.reduceEqDiff,fh,au,bh,bD,pA,kX]
  refine bU ajb (akl e _ (ef _)) ?_
  by_cases aq:lV e=false
  ·have bs:gW (l+1) room e=none:=by simp [gW,aq]
   simp only [af,Nat.reduceEqDiff,aq,aU,Tryz.results156,dn]
   exact aF ⟨by rw [bs];rfl,J.push _ _ _⟩
  have b4:lV e=true:=by simpa using aq
  obtain ⟨o,n,aE⟩:=e
  have yC:=akn b4
  have bs:gW (l+1) room (.mk o n aE)=jK (gW l) room 1 aE:=by simp [gW,h0,b4,bG.aE]
  have jm:dB (bb.cells (ay (.mk o n aE)) 27 none) 2=some [.ai aE.length (aE.flatMap ay)]:=by rw [jv];rfl
  simp only [af,Nat.reduceEqDiff,pz,uF,qG,b4,jm]
  refine aX.b9 (α:=Nat×Nat) (fun x f h'=>f 1=.int .i64 ((l+1:Nat):Int)∧f 2=.int .i64 (room:Nat)∧f 25=.ai aE.length (aE.flatMap ay)∧f 26=.int .i64 ((aE.length:Nat):Int)∧f 27=.int .i64 (x.1:Nat)∧f 8=.int .i64 (x.2:Nat)∧x.1≤aE.length∧1≤x.2∧x.2≤room∧J h h' none_∧jK (gW l) room 1 aE=jK (gW l) room x.2 (aE.drop x.1))
   (fun x=>aE.length - x.1) (0,1) ⟨rfl,rfl,rfl,rfl,rfl,rfl,Nat.zero_le _,Nat.le_refl _,by omega,J.push _ _ _,rfl⟩ ?_
  rintro ⟨i,m⟩ f h' ⟨f1,f2,f25,f26,f27,f8,hi,v7,oz,hk,bF⟩
  simp only at f27 f8 hi v7 oz bF
  refine am (by kernel_rfl) ?_
  by_cases aN:i<aE.length
  rotate_left
  ·have c3:decide ((i:Int)<((aE.length:Nat):Int))=false:=by simp only [decide_eq_false_iff_not];omega
   rw [List.drop_of_length_le (by omega)] at bF
   simp only [af,Nat.reduceEqDiff,f26,f27,f8,c3,aU,Tryz.results156,dn]
   exact aF ⟨by rw [bs,bF];rfl,hk⟩
  ·have c3:decide ((i:Int)<((aE.length:Nat):Int))=true:=by simp only [decide_eq_true_eq];omega
   rw [List.drop_eq_getElem_cons aN] at bF
   have gn:=EV (kk:=.i64) aN
   generalize aE[i]=A at *
   have kS:∀ (q:List V),dv (some (some 3)) (some (ay A++q))=some (.agg (ay A)):=fun q=>nN (ot A)
   have b5:(V.agg (ay A)).cells=some (ay A):=rfl
   have db:bR (some 3) (bb.cells [.int .i64 0,.int .i64 0,.an] 27 none) 0 (ay A)=some (.cells (ay A) 27 none):=by
    rw [sF (n:=3) (ot A) (Hu A),if_pos (by decide)];cases A;rfl
   have Hv:dB (bb.cells (ay A) 27 none) 0=some (ay A):=by cases A;rfl
   have gX:dv (some (some 3)) (some (ay A))=some (.agg (ay A)):=by cases A;rfl
   have aK:IntKind.i64.wrap (((l+1:Nat):Int) - 1)=((l:Nat):Int):=by rw [Go.IntWalk.i64_in _ (by omega)];omega
   have c2:IntKind.i64.wrap (((room:Nat):Int) - ((m:Nat):Int))=((room - m:Nat):Int):=by rw [Go.IntWalk.i64_in _ (by omega)];omega
   have bX:IntKind.i64.wrap (((i:Nat):Int)+1)=((i+1:Nat):Int):=by rw [Go.IntWalk.i64_in _ (by omega)];omega
   have WN:ga h':=by unfold ga;rw [hk.glob];exact av
   have ih:=WM l (room - m) A (h'.push (.cells (ay A) 27 none)) (by unfold ga;rw [EC];exact WN) (by omega) (by omega)
   simp only [af,Nat.reduceEqDiff,fh,ov,mZ,f1,f2,f25,f26,f27,f8,c3,gn,kS,b5,db,Hv,gX,aK,c2]
   refine bU VZ ih ?_
   cases si:gW l (room - m) A with
   | none=>
    have WO:jK (gW l) room 1 aE=none:=by rw [bF];simp [jK,si]
    simp only [af,Nat.reduceEqDiff,uI,aU,Tryz.results156,dn]
    exact aF ⟨by rw [bs,WO];rfl,hk.bg _⟩
   | some c=>
    have cw:=WL si
    have k8:IntKind.i64.wrap (((m:Nat):Int)+((c:Nat):Int))=((m+c:Nat):Int):=by rw [Go.IntWalk.i64_in _ (by omega)];omega
    simp only [af,Nat.reduceEqDiff,f27,f8,uI,bX,k8]
    exact aF ⟨(i+1,m+c),⟨f1,f2,f25,f26,rfl,rfl,by omega,by simp only;omega,by simp only;omega,hk.bg _,by rw [bF];simp [jK,si]⟩,by simp only;omega⟩
def cY (e:bG):Bool:=(gW 16 64 e).isSome
theorem CD (e:bG) (h:I) (av:ga h):Pure Tryz.prog 104 [.agg (ay e)] h (.bool (cY e)):=by
 refine Pure.val (bj.bool _) ?_
 refine ae.ax (c:=_) Tryz.func104 rfl (by kernel_rfl) (by simp) ?_
 have au:(V.agg (ay e)).cells=some (ay e):=rfl
 have pA:dB (bb.cells (ay e) 27 none) 0=some (ay e):=by cases e;rfl
 have kX:dv (some (some 3)) (some (ay e))=some (.agg (ay e)):=by cases e;rfl
 have ef:∀ a,ga (h.push a):=fun a=>by unfold ga;rw [EC];exact av
 simp only [af,Nat.reduceEqDiff,fh,au,pA,kX]
 refine bU VZ (WM 16 64 e _ (ef _) (by omega) (by omega)) ?_
 cases si:gW 16 64 e with
 | none=>
  simp only [af,Nat.reduceEqDiff,uI,aU,Tryz.results104,ac]
  exact aF ⟨by simp [cY,si],J.push _ _ _⟩
 | some c=>
  simp only [af,Nat.reduceEqDiff,uI,aU,Tryz.results104,ac]
  exact aF ⟨by simp [cY,si],J.push _ _ _⟩
def nw (P:Program) (f:FuncId) (args:List V) (h:I) (o:Option V):Prop:=ca P f args h (fun r h'=>o=some r∧h'=h) (fun h'=>h'=h∧o=none)
theorem nw.pure {P:Program} {f:FuncId} {args:List V} {h:I} {v:V} (au:nw P f args h (some v)):Pure P f args h v :=
 ca.mono au (fun r h' ⟨aw,aW⟩=>⟨(Option.some.inj aw).symm,aW⟩) fun h' ⟨_,e⟩=>by cases e
theorem Pure.e {P:Program} {f:FuncId} {args:List V} {h:I} {v:V} (au:Pure P f args h v):nw P f args h (some v) :=
 ca.mono au (fun r h' ⟨aw,aW⟩=>⟨by rw [aw],aW⟩) fun h' e=>e.elim
theorem nw.of {P:Program} {f:FuncId} {args:List V} {h:I} (o:Option V) (aD:∀ v,o=some v→bj v) (au:ca P f args h (fun r h'=>o=some r∧J h h' none_) (fun h'=>J h h' none_∧o=none)):nw P f args h o:=by
 intro ρ B aK w args' hw aO
 refine (au ρ B aK w args' hw aO).mono fun e w' ab=>?_
 rcases ab with ⟨ρ',r,cm,h',he,aH,bL,hle,aw,hk⟩ | ⟨ρ',iu,h',he,nj,bL,hle,hk,bF⟩
 ·exact .inl ⟨⟨ρ.ren,ρ'.frz,ρ.dfr⟩,r,cm,h,he,aD r aw _ _ _ aH fun _ _ h=>h,hw.forget bL hle hk,⟨fun _ _ h=>h,hle.frz,rfl⟩,aw,rfl⟩
 ·exact .inr ⟨⟨ρ.ren,ρ'.frz,ρ.dfr⟩,iu,h,he,nj,hw.forget bL hle hk,⟨fun _ _ h=>h,hle.frz,rfl⟩,rfl,bF⟩
def iT (o:Option Int):Option V:=o.map (.int .i64)
theorem ako (o:Option Int):∀ v,iT o=some v→bj v:=fun v h=>by
 obtain ⟨n,_,rfl⟩:=Option.map_eq_some_iff.1 h
 exact bj.int _ _
theorem WQ (b:Bool) (h:I):Pure Tryz.prog 205 [.bool b] h (.int .i64 (if b then 1 else 0)):=by
 refine ae.ax (c:=_) Tryz.func205 rfl (by kernel_rfl) (by simp) ?_
 cases b <;>
 ·simp only [af,Nat.reduceEqDiff,reduceCtorEq,aU,Tryz.results205,ac]
  exact aF ⟨rfl,rfl⟩
theorem WR (n:Int) (h:I):nw Tryz.prog 204 [.int .i64 n] h (if n=0 then none else some (.int .i64 n)):=by
 refine ca.ax (c:=_) Tryz.func204 rfl (by kernel_rfl) (by simp) ?_
 by_cases h0:n=0
 ·have c:(n==0)=true:=by simp [h0]
  simp only [af,Nat.reduceEqDiff,reduceCtorEq,ajH,c,xJ]
  exact aF ⟨rfl,by rw [if_pos h0]⟩
 ·have c:(n==0)=false:=by simp [h0]
  simp only [af,Nat.reduceEqDiff,reduceCtorEq,c,aU,Tryz.results204,ac]
  exact aF ⟨by rw [if_neg h0],rfl⟩
def j2 (n:Int):Int:=IntKind.i64.wrap n
def sN (op a b:Int):Option Int :=
 if op=6 then some (j2 (a+b)) else if op=7 then some (j2 (a - b)) else if op=8 then some (j2 (a * b))
 else if op=9 then (if b=0 then none else some (j2 (a.tdiv b))) else if op=10 then (if b=0 then none else some (a.tmod b))
 else if op=11 then some (if a<b then 1 else 0) else if op=12 then some (if a=b then 1 else 0) else if op=15 then some (min a b) else some (max a b)
theorem akp (op a b:Int) (h:I):nw Tryz.prog 167 [.int .i64 op,.int .i64 a,.int .i64 b] h (iT (sN op a b)):=by
 refine ca.ax (c:=_) Tryz.func167 rfl (by kernel_rfl) (by simp) ?_
 by_cases da:op=6
 ·have c:(op==6)=true:=by simp [da]
  simp only [af,Nat.reduceEqDiff,reduceCtorEq,c,aU,Tryz.results167,ac]
  exact aF ⟨by simp [sN,da,iT,j2],rfl⟩
 have jw:(op==6)=false:=by simp [da]
 by_cases k7:op=7
 ·have c:(op==7)=true:=by simp [k7]
  simp only [af,Nat.reduceEqDiff,reduceCtorEq,jw,c,aU,Tryz.results167,ac]
  exact aF ⟨by simp [sN,k7,iT,j2],rfl⟩
 have na:(op==7)=false:=by simp [k7]
 by_cases lx:op=8
 ·have c:(op==8)=true:=by simp [lx]
  simp only [af,Nat.reduceEqDiff,reduceCtorEq,jw,na,c,aU,Tryz.results167,ac]
  exact aF ⟨by simp [sN,lx,iT,j2],rfl⟩
 have mm:(op==8)=false:=by simp [lx]
 by_cases gd:op=9
 ·have c:(op==9)=true:=by simp [gd]
  simp only [af,Nat.reduceEqDiff,reduceCtorEq,jw,na,mm,c]
  refine xI V8 (WR b h) (fun r h' ⟨aw,aW⟩=>?_) (fun h' ⟨aw,aW⟩=>?_)
  ·subst aW
   by_cases ak:b=0
   ·rw [if_pos ak] at aw;cases aw
   rw [if_neg ak] at aw
   cases aw
   simp only [af,Nat.reduceEqDiff,aeA ak,aU,Tryz.results167,ac]
   exact aF ⟨by simp [sN,gd,ak,iT,j2],rfl⟩
  ·subst aw
   have ak:b=0:=Classical.byContradiction fun ak=>by rw [if_neg ak] at aW;cases aW
   simp only [af,xJ]
   exact aF ⟨rfl,by simp [sN,gd,ak,iT]⟩
 have hP:(op==9)=false:=by simp [gd]
 by_cases rv:op=10
 ·have c:(op==10)=true:=by simp [rv]
  simp only [af,Nat.reduceEqDiff,reduceCtorEq,jw,na,mm,hP,c]
  refine xI V8 (WR b h) (fun r h' ⟨aw,aW⟩=>?_) (fun h' ⟨aw,aW⟩=>?_)
  ·subst aW
   by_cases ak:b=0
   ·rw [if_pos ak] at aw;cases aw
   rw [if_neg ak] at aw
   cases aw
   simp only [af,Nat.reduceEqDiff,Tx ak,aU,Tryz.results167,ac]
   exact aF ⟨by simp [sN,rv,ak,iT],rfl⟩
  ·subst aw
   have ak:b=0:=Classical.byContradiction fun ak=>by rw [if_neg ak] at aW;cases aW
   simp only [af,xJ]
   exact aF ⟨rfl,by simp [sN,rv,ak,iT]⟩
 have gF:(op==10)=false:=by simp [rv]
 by_cases DM:op=11
 ·have c:(op==11)=true:=by simp [DM]
  simp only [af,Nat.reduceEqDiff,reduceCtorEq,jw,na,mm,hP,gF,c]
  refine bU V9 (WQ _ h) ?_
  simp only [af,Nat.reduceEqDiff,aU,Tryz.results167,ac]
  exact aF ⟨by simp [sN,DM,iT],rfl⟩
 have Hw:(op==11)=false:=by simp [DM]
 by_cases ym:op=12
 ·have c:(op==12)=true:=by simp [ym]
  simp only [af,Nat.reduceEqDiff,reduceCtorEq,jw,na,mm,hP,gF,Hw,c]
  refine bU V9 (WQ _ h) ?_
  simp only [af,Nat.reduceEqDiff,aU,Tryz.results167,ac]
  exact aF ⟨by simp [sN,ym,iT],rfl⟩
 have MN:(op==12)=false:=by simp [ym]
 by_cases DN:op=15
 ·have c:(op==15)=true:=by simp [DN]
  simp only [af,Nat.reduceEqDiff,reduceCtorEq,jw,na,mm,hP,gF,Hw,MN,c,aU,Tryz.results167,ac]
  exact aF ⟨by simp [sN,DN,iT],rfl⟩
 have WS:(op==15)=false:=by simp [DN]
 simp only [af,Nat.reduceEqDiff,reduceCtorEq,jw,na,mm,hP,gF,Hw,MN,WS,aU,Tryz.results167,ac]
 exact aF ⟨by simp [sN,da,k7,lx,gd,rv,DM,ym,DN,iT],rfl⟩
def cE (b6 cT rt acc:Int):Nat→bG→Option Int
 | 0,_=>none
 | d+1,.mk o n aE=>
  if o=1 then some n else if o=2 then some b6 else if o=3 then some cT else if o=4 then some rt else if o=5 then some acc
  else if o=14 then ((aE[0]?).bind (cE b6 cT rt acc d)).map fun a=>j2 (-a)
  else if o=13 then ((aE[0]?).bind (cE b6 cT rt acc d)).bind fun a=>if a=0 then (aE[2]?).bind (cE b6 cT rt acc d) else (aE[1]?).bind (cE b6 cT rt acc d)
  else ((aE[0]?).bind (cE b6 cT rt acc d)).bind fun a=>((aE[1]?).bind (cE b6 cT rt acc d)).bind fun b=>sN o a b
def tH (d:Nat) (e:bG):Prop:=∃ room c,gW d room e=some c
theorem WT {f:Nat→bG→Option Nat} {room:Nat}:∀ {m:Nat} {l:List bG} {c:Nat},jK f room m l=some c→∀ k ∈ l,∃ q c,f q k=some c
 | m,[],c,h,k,hk=>by simp at hk
 | m,a::r,c,h,k,hk=>by
  unfold jK at h
  split at h
  ·rename_i d a7
   rcases List.mem_cons.1 hk with rfl | hk
   ·exact ⟨_,_,a7⟩
   ·exact WT h k hk
  ·cases h
theorem tH.fits {d:Nat} {e:bG} (h:tH (d+1) e):lV e=true∧∀ k ∈ e.aE,tH d k:=by
 obtain ⟨room,c,h⟩:=h
 unfold gW at h
 split at h
 ·cases h
 ·rename_i aG
  refine ⟨?_,fun k hk=>WT h k hk⟩
  cases aq:lV e<;>simp_all
theorem tH.zero {e:bG} (h:tH 0 e):False:=by
 obtain ⟨room,c,h⟩:=h
 simp [gW] at h
theorem Qr {aE:List bG} {k:Nat} {A:bG} (h:aE[k]?=some A):∃ r,hA Tryz.prog 25 (.ai aE.length (aE.flatMap ay)) (.int .i64 (k:Int))=some (.at (ay A++r)) :=
 Kt ot rfl h WC
theorem Qs {o n:Int} {aE:List bG} (h:lV (.mk o n aE)=true):(aE.length:Int)=dq.getD o.toNat 0∧1≤o∧o≤16:=by
 simp only [lV,Bool.and_eq_true,Bool.or_eq_true,decide_eq_true_eq] at h
 exact ⟨h.2.1,h.1⟩
theorem CE (b6 cT rt acc:Int):∀ (d:Nat) (e:bG) (h:I),tH d e→nw Tryz.prog 115 [.agg (ay e),.agg [.int .i64 b6,.int .i64 cT,.int .i64 rt],.int .i64 acc] h (iT (cE b6 cT rt acc d e))
 | 0,e,h,a1=>a1.zero.elim
 | d+1,.mk o n aE,h,a1=>by
  obtain ⟨eW,zy⟩:=a1.fits
  obtain ⟨hlen,qS,ni⟩:=Qs eW
  refine nw.of _ (ako _) ?_
  rw [jv]
  refine ca.ax (c:=_) Tryz.func115 rfl (by kernel_rfl) (by simp) ?_
  have b8:∀ a b,J h ((h.push a).push b) none_:=fun a b=>(J.push _ _ _).bg _
  by_cases h1:o=1
  ·have c:(o==1)=true:=by simp [h1]
   simp only [af,Nat.reduceEqDiff,Nat.reduceAdd,Nat.reduceLeDiff,nv,E3,bx,bn,c,aU,Tryz.results115,ac]
   exact aF ⟨by simp [cE,h1,iT],b8 _ _⟩
  have bh:(o==1)=false:=by simp [h1]
  by_cases aa:o=2
  ·have c:(o==2)=true:=by simp [aa]
   simp only [af,Nat.reduceEqDiff,Nat.reduceAdd,nv,vK,bx,bn,bh,c,aU,Tryz.results115,ac]
   exact aF ⟨by simp [cE,aa,iT],b8 _ _⟩
  have bD:(o==2)=false:=by simp [aa]
  by_cases aC:o=3
  ·have c:(o==3)=true:=by simp [aC]
   simp only [af,Nat.reduceEqDiff,Nat.reduceAdd,Nat.reduceLeDiff,nv,Hm,bx,bn,bh,bD,c,aU,Tryz.results115,ac]
   exact aF ⟨by simp [cE,aC,iT],b8 _ _⟩
  have c3:(o==3)=false:=by simp [aC]
  by_cases bz:o=4
  ·have c:(o==4)=true:=by simp [bz]
   simp only [af,Nat.reduceEqDiff,Nat.reduceAdd,Nat.reduceLeDiff,nv,rk,bx,bn,bh,bD,c3,c,aU,Tryz.results115,ac]
   exact aF ⟨by simp [cE,bz,iT],b8 _ _⟩
  have ew:(o==4)=false:=by simp [bz]
  by_cases bY:o=5
  ·have c:(o==5)=true:=by simp [bY]
   simp only [af,Nat.reduceEqDiff,Nat.reduceAdd,nv,bn,bh,bD,c3,ew,c,aU,Tryz.results115,ac]
   exact aF ⟨by simp [cE,bY,iT],b8 _ _⟩
  have c5:(o==5)=false:=by simp [bY]
  have kS:∀ (A:bG) (q:List V),dv (some (some 3)) (some (ay A++q))=some (.agg (ay A)):=fun A q=>nN (ot A)
  have two:∀ {A:Type} {l:List A} {k:Nat},k<l.length→∃ x,l[k]?=some x:=fun hk=>⟨_,List.getElem?_eq_getElem hk⟩
  have ie:0<aE.length:=by
   have:(1:Int)≤dq.getD o.toNat 0:=by
    have:o.toNat=6∨o.toNat=7∨o.toNat=8∨o.toNat=9∨o.toNat=10∨o.toNat=11∨o.toNat=12∨o.toNat=13∨o.toNat=14∨o.toNat=15∨o.toNat=16:=by omega
    rcases this with q | q | q | q | q | q | q | q | q | q | q<;>rw [q]<;>decide
   omega
  obtain ⟨A,hI⟩:=two ie
  obtain ⟨k9,MO⟩:=Qr hI
  have gn:hA Tryz.prog 25 (.ai aE.length (aE.flatMap ay)) (.int .i64 0)=some (.at (ay A++k9)):=MO
  clear MO
  have jn:=zy A (List.mem_of_getElem? hI)
  by_cases DO:o=14
  ·have c:(o==14)=true:=by simp [DO]
   have bs:cE b6 cT rt acc (d+1) (.mk o n aE)=(cE b6 cT rt acc d A).map fun a=>j2 (-a):=by simp [cE,DO,hI]
   generalize aE.length=N at *
   generalize aE.flatMap ay=WU at *
   simp only [af,Nat.reduceEqDiff,Nat.reduceAdd,nv,bn,bh,bD,c3,ew,c5,c]
   refine aX.pr [6] (by kernel_rfl) (by kernel_rfl) (by kernel_rfl) ?_
   simp only [af,sH,sG,sI,sJ,lT,Bool.or_true,Bool.or_false,List.contains_cons,List.contains_nil,Nat.reduceBEq,Nat.reduceEqDiff,Nat.reduceAdd,Nat.reduceLeDiff,pz,qG,fh,dQ,gn,kS]
   refine xI Ck (CE b6 cT rt acc d A _ jn) (fun r h' ⟨aw,aW⟩=>?_) (fun h' ⟨aw,aW⟩=>?_)
   ·subst aW
    obtain ⟨a,aO,rfl⟩:=Option.map_eq_some_iff.1 aw
    simp only [af,zf,sH,sG,sI,sJ,lT,Bool.or_false,List.contains_cons,List.contains_nil,Nat.reduceBEq,Nat.reduceEqDiff,Nat.reduceAdd,aU,Tryz.results115,ac]
    exact aF ⟨by simp [bs,aO,iT,j2],b8 _ _⟩
   ·subst aw
    simp only [af,Gi,Nat.reduceAdd,xJ]
    have:cE b6 cT rt acc d A=none:=by simpa [iT] using aW
    exact aF ⟨b8 _ _,by simp [bs,this,iT]⟩
  have MP:(o==14)=false:=by simp [DO]
  have gp:1<aE.length:=by
   have:(2:Int)≤dq.getD o.toNat 0:=by
    have:o.toNat=6∨o.toNat=7∨o.toNat=8∨o.toNat=9∨o.toNat=10∨o.toNat=11∨o.toNat=12∨o.toNat=13∨o.toNat=15∨o.toNat=16:=by omega
    rcases this with q | q | q | q | q | q | q | q | q | q<;>rw [q]<;>decide
   omega
  obtain ⟨B,bM⟩:=two gp
  obtain ⟨cg,MQ⟩:=Qr bM
  have ck:hA Tryz.prog 25 (.ai aE.length (aE.flatMap ay)) (.int .i64 1)=some (.at (ay B++cg)):=MQ
  clear MQ
  have okB:=zy B (List.mem_of_getElem? bM)
  by_cases AU:o=13
  ·have c:(o==13)=true:=by simp [AU]
   have pw:2<aE.length:=by
    rw [AU] at hlen
    have:(aE.length:Int)=3:=hlen
    omega
   obtain ⟨C,nx⟩:=two pw
   obtain ⟨cZ,MR⟩:=Qr nx
   have dW:hA Tryz.prog 25 (.ai aE.length (aE.flatMap ay)) (.int .i64 2)=some (.at (ay C++cZ)):=MR
   clear MR
   have WV:=zy C (List.mem_of_getElem? nx)
   have bs:cE b6 cT rt acc (d+1) (.mk o n aE)=(cE b6 cT rt acc d A).bind fun a=>if a=0 then cE b6 cT rt acc d C else cE b6 cT rt acc d B:=by simp [cE,AU,hI,bM,nx]
   generalize aE.length=N at *
   generalize aE.flatMap ay=WU at *
   simp only [af,Nat.reduceEqDiff,Nat.reduceAdd,nv,bn,bh,bD,c3,ew,c5,MP,c]
   refine aX.pr [6] (by kernel_rfl) (by kernel_rfl) (by kernel_rfl) ?_
   simp only [af,sH,sG,sI,sJ,lT,Bool.or_true,Bool.or_false,List.contains_cons,List.contains_nil,Nat.reduceBEq,Nat.reduceEqDiff,Nat.reduceAdd,Nat.reduceLeDiff,pz,qG,fh,dQ,gn,kS]
   refine xI Ck (CE b6 cT rt acc d A _ jn) (fun r h' ⟨aw,aW⟩=>?_) (fun h' ⟨aw,aW⟩=>?_)
   ·subst aW
    obtain ⟨a,aO,rfl⟩:=Option.map_eq_some_iff.1 aw
    by_cases yD:a=0
    ·have q:(a !=0)=false:=by simp [yD]
     simp only [af,zf,sH,sG,sI,sJ,lT,Bool.or_false,List.contains_cons,List.contains_nil,Nat.reduceBEq,Nat.reduceEqDiff,Nat.reduceAdd,q]
     refine aX.pr [6] (by kernel_rfl) (by kernel_rfl) (by kernel_rfl) ?_
     simp only [af,sH,sG,sI,sJ,lT,Bool.or_true,Bool.or_false,List.contains_cons,List.contains_nil,Nat.reduceBEq,Nat.reduceEqDiff,Nat.reduceAdd,Nat.reduceLeDiff,pz,qG,fh,dQ,dW,kS]
     refine xI Ck (CE b6 cT rt acc d C _ WV) (fun r h' ⟨aw,aW⟩=>?_) (fun h' ⟨aw,aW⟩=>?_)
     ·subst aW
      obtain ⟨b,ak,rfl⟩:=Option.map_eq_some_iff.1 aw
      simp only [af,zf,sH,sG,sI,sJ,lT,Bool.or_false,List.contains_cons,List.contains_nil,Nat.reduceBEq,Nat.reduceEqDiff,Nat.reduceAdd,aU,Tryz.results115,ac]
      exact aF ⟨by simp [bs,aO,yD,ak,iT],b8 _ _⟩
     ·subst aw
      simp only [af,Gi,Nat.reduceAdd,xJ]
      have:cE b6 cT rt acc d C=none:=by simpa [iT] using aW
      exact aF ⟨b8 _ _,by simp [bs,aO,yD,this,iT]⟩
    ·have q:(a !=0)=true:=by simp [yD]
     simp only [af,zf,sH,sG,sI,sJ,lT,Bool.or_false,List.contains_cons,List.contains_nil,Nat.reduceBEq,Nat.reduceEqDiff,Nat.reduceAdd,q]
     refine aX.pr [6] (by kernel_rfl) (by kernel_rfl) (by kernel_rfl) ?_
     simp only [af,sH,sG,sI,sJ,lT,Bool.or_true,Bool.or_false,List.contains_cons,List.contains_nil,Nat.reduceBEq,Nat.reduceEqDiff,Nat.reduceAdd,Nat.reduceLeDiff,pz,qG,fh,dQ,ck,kS]
     refine xI Ck (CE b6 cT rt acc d B _ okB) (fun r h' ⟨aw,aW⟩=>?_) (fun h' ⟨aw,aW⟩=>?_)
     ·subst aW
      obtain ⟨b,ak,rfl⟩:=Option.map_eq_some_iff.1 aw
      simp only [af,zf,sH,sG,sI,sJ,lT,Bool.or_false,List.contains_cons,List.contains_nil,Nat.reduceBEq,Nat.reduceEqDiff,Nat.reduceAdd,aU,Tryz.results115,ac]
      exact aF ⟨by simp [bs,aO,yD,ak,iT],b8 _ _⟩
     ·subst aw
      simp only [af,Gi,Nat.reduceAdd,xJ]
      have:cE b6 cT rt acc d B=none:=by simpa [iT] using aW
      exact aF ⟨b8 _ _,by simp [bs,aO,yD,this,iT]⟩
   ·subst aw
    simp only [af,Gi,Nat.reduceAdd,xJ]
    have:cE b6 cT rt acc d A=none:=by simpa [iT] using aW
    exact aF ⟨b8 _ _,by simp [bs,this,iT]⟩
  have WW:(o==13)=false:=by simp [AU]
  have bs:cE b6 cT rt acc (d+1) (.mk o n aE)=(cE b6 cT rt acc d A).bind fun a=>(cE b6 cT rt acc d B).bind fun b=>sN o a b:=by simp [cE,h1,aa,aC,bz,bY,DO,AU,hI,bM]
  generalize aE.length=N at *
  generalize aE.flatMap ay=WU at *
  simp only [af,Nat.reduceEqDiff,Nat.reduceAdd,nv,bn,bh,bD,c3,ew,c5,MP,WW]
  refine aX.pr [6] (by kernel_rfl) (by kernel_rfl) (by kernel_rfl) ?_
  simp only [af,sH,sG,sI,sJ,lT,Bool.or_true,Bool.or_false,List.contains_cons,List.contains_nil,Nat.reduceBEq,Nat.reduceEqDiff,Nat.reduceAdd,Nat.reduceLeDiff,pz,qG,fh,dQ,gn,kS]
  refine xI Ck (CE b6 cT rt acc d A _ jn) (fun r h' ⟨aw,aW⟩=>?_) (fun h' ⟨aw,aW⟩=>?_)
  ·subst aW
   obtain ⟨a,aO,rfl⟩:=Option.map_eq_some_iff.1 aw
   simp only [af,zf,sH,sG,sI,sJ,lT,Bool.or_false,List.contains_cons,List.contains_nil,Nat.reduceBEq,Nat.reduceEqDiff,Nat.reduceAdd]
   refine aX.bk none_ [9,10] (.q 0 (.q 1 (.q 2 (.q 3 (.q 4 (.q 5 (.q 6 (.q 7 (.q 8 (.e 9 (.a 10 (.q 11 .done)) .stop)))))))))) (by kernel_rfl) (by kernel_rfl) (by kernel_rfl) ?_
   simp only [af,bN,Nat.reduceEqDiff,Nat.reduceAdd,Nat.reduceLeDiff,nv,pz,qG,fh,bn,dQ,ck,kS]
   refine xI Ck (CE b6 cT rt acc d B _ okB) (fun r h' ⟨aw,aW⟩=>?_) (fun h' ⟨aw,aW⟩=>?_)
   ·subst aW
    obtain ⟨b,ak,rfl⟩:=Option.map_eq_some_iff.1 aw
    simp only [af,bN,Nat.reduceEqDiff]
    refine xI aiZ (akp o a b _) (fun r h' ⟨aw,aW⟩=>?_) (fun h' ⟨aw,aW⟩=>?_)
    ·subst aW
     obtain ⟨c,au,rfl⟩:=Option.map_eq_some_iff.1 aw
     simp only [af,bN,Nat.reduceEqDiff,aU,Tryz.results115,ac]
     exact aF ⟨by simp [bs,aO,ak,au,iT],b8 _ _⟩
    ·subst aw
     simp only [af,bN,xJ]
     have:sN o a b=none:=by simpa [iT] using aW
     exact fun _=>aF ⟨b8 _ _,by simp [bs,aO,ak,this,iT]⟩
   ·subst aw
    simp only [af,bN,xJ]
    have:cE b6 cT rt acc d B=none:=by simpa [iT] using aW
    exact fun _=>aF ⟨b8 _ _,by simp [bs,aO,this,iT]⟩
  ·subst aw
   simp only [af,Gi,Nat.reduceAdd,xJ]
   have:cE b6 cT rt acc d A=none:=by simpa [iT] using aW
   exact aF ⟨b8 _ _,by simp [bs,this,iT]⟩
theorem akq (p q:Value) (w:World):CallsD Tryz.prog 114 #[p,q] .returning w fun e sv w'=>e=.returned (.tuple #[])∧sv=.returning∧w'=w:=by
 refine callsD_of_wpS Tryz.func114 rfl fun c₀ cs hu=>?_
 apply wpS_seq
 apply wpS_region
 simp [wpOpsS,go_sem,recoverD,hu,Tryz.ntmps114,Exit.thenS]
 refine wpS_cond (t:=false) (by simp [Act.eval,Array.replicate]) ?_
 simp only [Bool.false_eq_true,if_false]
 refine wpS_of_wp (wp_skip ?_)
 cases c₀
 simp_all [bodyPostS,results,Tryz.results114]
theorem akr {h:I} {dV eC:V} {R:I→Prop} (eR:R h):T8 Tryz.prog 114 [dV,eC] h R:=by
 intro ρ B aK w args' hw aO
 obtain ⟨p,t1,aw,aZ,yu⟩:=aO.di
 obtain ⟨q,t2,rfl,ad,AB⟩:=yu.di
 have:=AB.eq_nil
 subst this
 obtain rfl:args'=#[p,q]:=Array.ext' (by simpa using aw)
 exact (akq p q w).mono fun e sv w' ⟨h1,aa,aC⟩=>⟨h1,aa,ρ,h,aC ▸ hw,Ren.le.refl ρ,eR⟩
theorem aks {h:I} {i j:Nat} {a b:Int} (hi:h.get i=.cells [.int .i64 a] 2 none) (aS:h.get j=.cells [.int .i64 b] 32 none) (hp:i≠j) {R:I→Prop}
  (eR:R ((h.set i (.cells [.int .i64 0] 2 none)).set j (.cells [.int .i64 10] 32 none))):T9 Tryz.prog 114 [.ptr i 0,.ptr j 0] h R:=by
 intro ρ B aK w args' Ug cp hw aO
 obtain ⟨p,t1,aw,aZ,yu⟩:=aO.di
 obtain ⟨q,t2,rfl,ad,AB⟩:=yu.di
 have:=AB.eq_nil
 subst this
 obtain rfl:args'=#[p,q]:=Array.ext' (by simpa using aw)
 refine callsD_of_wpS Tryz.func114 rfl fun c₀ cs hu=>?_
 apply wpS_seq
 apply wpS_region
 simp [wpOpsS,go_sem,recoverD,hu,Tryz.ntmps114,Exit.thenS]
 refine wpS_cond (t:=true) (by simp [Act.eval,Array.replicate]) ?_
 simp only [if_true]
 refine wpS_of_wp ?_
 refine wp_mono (Q:=lh 4 B aK { ρ with dfr:=[] } (fun x f aa=>x=.normal∧aa=(h.set i (.cells [.int .i64 0] 2 none)).set j (.cells [.int .i64 10] 32 none)))
  ((show aX Tryz.prog 4 _ _ (fun k=>if k=0 then .ptr i 0 else if k=1 then .ptr j 0 else .top) h from am (by kernel_rfl) ?_) { ρ with dfr:=[] } B aK _ w (hw.dfr []) ⟨fun k=>?_,rfl,rfl⟩) ?_
 ·have jj:(h.set i (.cells [.int .i64 0] 2 none)).get j=.cells [.int .i64 b] 32 none:=by rw [kL (Ne.symm hp)];exact aS
  simp only [af,reduceCtorEq,rr,Qo,hi,jj]
 ·match k with
  | 0=>exact aZ.dfr []
  | 1=>exact ad.dfr []
  | n+2=>exact .top _
 ·rintro e hB w' ⟨ρ',z,f,aa,ag,bL,b4,az,rfl,rfl⟩
  cases e<;>simp only [pR] at ag
  refine ⟨b4.defers.trans az.dfr,_,rfl,.tuple #[],by simp [results,Tryz.results114],rfl,rfl,_,_,bL.dfr ρ.dfr,az.pP,eR⟩
theorem WX (e:bG) (b6 cT rt acc:Int) (h:I) (av:ga h) :
  Pure Tryz.prog 59 [.agg (ay e),.agg [.int .i64 b6,.int .i64 cT,.int .i64 rt],.int .i64 acc] h
   (if cY e then (match cE b6 cT rt acc 16 e with | some n=>.tuple [.int .i64 n,.int .i64 0] | none=>.tuple [.int .i64 0,.int .i64 10]) else .tuple [.int .i64 0,.int .i64 1]):=by
 refine Pure.val (by split<;>(try split)<;>exact bj.tuple (bo.cons (bj.int _ _) (bo.cons (bj.int _ _) bo.nil))) ?_
 have au:(V.agg (ay e)).cells=some (ay e):=rfl
 have pA:dB (bb.cells (ay e) 27 none) 0=some (ay e):=by cases e;rfl
 have kX:dv (some (some 3)) (some (ay e))=some (.agg (ay e)):=by cases e;rfl
 obtain ⟨H,hH⟩:∃ x,x=(((h.push (.cells (ay e) 27 none)).push (.cells [.int .i64 b6,.int .i64 cT,.int .i64 rt] 38 none)).push (.cells [.int .i64 0] 2 none)).push (.cells [.int .i64 0] 32 none):=⟨_,rfl⟩
 have g3:H.get h.n=.cells (ay e) 27 none:=by rw [hH];simp [tg,eI];rw [if_neg (by omega),if_neg (by omega)]
 have g4:H.get (h.n+1)=.cells [.int .i64 b6,.int .i64 cT,.int .i64 rt] 38 none:=by rw [hH];simp [tg,eI]
 have g6:H.get (h.n+1+1)=.cells [.int .i64 0] 2 none:=by rw [hH];simp [tg,eI]
 have g7:H.get (h.n+1+1+1)=.cells [.int .i64 0] 32 none:=by rw [hH];simp [tg,eI]
 have bA:J h H none_:=by rw [hH];exact (((J.push _ _ _).bg _).bg _).bg _
 have jL:ga H:=by unfold ga;rw [bA.glob];exact av
 have en:∀ a b,J h ((H.set (h.n+1+1) a).set (h.n+1+1+1) b) none_:=fun a b=>by
  refine ⟨by rw [jt,jt];exact bA.n,fun i hi _=>?_,by rw [TJ,TJ];exact bA.glob⟩
  rw [kL (by omega),kL (by omega)]
  exact bA.get i hi (by simp [none_])
 have MS:∀ a,(H.set (h.n+1+1) a).get (h.n+1+1+1)=.cells [.int .i64 0] 32 none:=fun a=>by rw [kL (by omega)];exact g7
 have Hx:∀ a b,((H.set (h.n+1+1) a).set (h.n+1+1+1) b).get (h.n+1+1)=a:=fun a b=>by rw [kL (by omega),aP]
 refine ae.Gz (A:=_) (A2:=_) (C:=_) (M:=fun f h'=>cY e=true∧f 2=.int .i64 acc∧f 3=.ptr h.n 0∧f 4=.ptr (h.n+1) 0∧f 6=.ptr (h.n+1+1) 0∧f 7=.ptr (h.n+1+1+1) 0∧h'=H)
  (KR:=fun dV eC f h'=>∃ n,cE b6 cT rt acc 16 e=some n∧cY e=true∧f 6=.ptr (h.n+1+1) 0∧f 7=.ptr (h.n+1+1+1) 0∧h'=(H.set (h.n+1+1) (.cells [.int .i64 n] 2 none)).set (h.n+1+1+1) (.cells [.int .i64 0] 32 none))
  (KP:=fun dV eC f h'=>cE b6 cT rt acc 16 e=none∧cY e=true∧dV=.ptr (h.n+1+1) 0∧eC=.ptr (h.n+1+1+1) 0∧f 6=.ptr (h.n+1+1) 0∧f 7=.ptr (h.n+1+1+1) 0∧h'=H)
  Tryz.func59 rfl (by decide) aiL (by simp) ?_ ?_ ?_ ?_
 ·refine am (by kernel_rfl) ?_
  simp only [af,Nat.reduceEqDiff,Qm,akd,au]
  rw [←hH]
  refine am (by kernel_rfl) ?_
  simp only [af,Nat.reduceEqDiff,fh,g3,pA,kX]
  refine bU P2 (CD e H jL) ?_
  cases hm:cY e with
  | false=>
   simp only [af,Nat.reduceEqDiff,reduceCtorEq,bx,KM,rr,Qo,g6,MS,Az,Tryz.results59,hh,fp,hg,Hx]
   exact .inl (en _ _)
  | true=>
   simp only [af,Nat.reduceEqDiff,reduceCtorEq]
   refine .inr ?_
   trivial
 ·rintro f h' ⟨hm,f2,f3,f4,f6,f7,rfl⟩
  refine am (by kernel_rfl) ?_
  have a1:tH 16 e:=by
   unfold cY at hm
   obtain ⟨c,au⟩:=Option.isSome_iff_exists.1 hm
   exact ⟨64,c,au⟩
  simp only [af,Nat.reduceEqDiff,Nat.reduceAdd,fh,dQ,f2,f3,f4,g3,g4,pA,kX]
  refine xI Ck (CE b6 cT rt acc 16 e h' a1) (fun r aa ⟨aw,aW⟩=>?_) (fun aa ⟨aw,aW⟩=>?_)
  ·subst aW
   obtain ⟨n,aG,rfl⟩:=Option.map_eq_some_iff.1 aw
   simp only [af,Nat.reduceEqDiff,reduceCtorEq,rr,Qo,f6,f7,g6,MS]
   exact .inl ⟨.inl trivial,n,aG,hm,rfl⟩
  ·subst aw
   have:cE b6 cT rt acc 16 e=none:=by simpa [iT] using aW
   simp only [af,Nat.reduceEqDiff,reduceCtorEq,f6,f7]
   exact .inr ⟨this,hm⟩
 ·rintro dV eC f h' ⟨n,aG,hm,f6,f7,rfl⟩
  refine akr ?_
  simp only [af,bx,KM,Az,Tryz.results59,hh,fp,hg,f6,f7,Hx]
  exact ⟨by simp [hm,aG],en _ _⟩
 ·rintro dV eC f h' ⟨aG,hm,rfl,rfl,f6,f7,rfl⟩
  refine aks g6 g7 (by omega) ?_
  simp only [af,bx,KM,Az,Tryz.results59,hh,fp,hg,f6,f7,Hx]
  exact ⟨by simp [hm,aG],en _ _⟩
theorem aM.agg {l dm:List V} {h aa:I} (a:aB l h dm aa):aM (.agg l) h (.agg dm) aa:=fun ρ B aK w cm hw aD=>by
 cases aD with
 | agg U ag=>
  rename_i xs
  obtain ⟨ρ1,ey,c2,v1⟩:=a ρ B aK w xs.toList hw ⟨by simpa using U,by simpa using ag⟩
  exact ⟨ρ1,ey,c2,v1.iq.agg⟩
theorem akt (o n:Int) (h:I):aM (.agg [.int .i64 o,.int .i64 n,.an]) h (.agg (ay (.mk o n []))) h:=by
 rw [jv]
 exact Pk.aM.agg (aB.skip (aB.skip (aB.last (aM.kN h))))
theorem WY {h:I} {v:V} {aE:List bG} (o n:Int) (aR:Own h 27 3 v (aE.flatMap ay)):∃ aa,aM (.agg [.int .i64 o,.int .i64 n,v]) h (.agg (ay (.mk o n aE))) aa∧J h aa (bl v):=by
 obtain ⟨aa,c,k⟩:=aM.own (n:=aE.length) aR (j7 ot aE) (by decide)
 refine ⟨aa,?_,k⟩
 rw [jv]
 exact Pk.aM.agg (aB.cons (aM.refl _ _) (aB.cons (aM.refl _ _) (aB.cons c (aB.refl _ _))))
theorem ga.al {h h':I} {M:Nat→Prop} (av:ga h) (hk:J h h' M):ga h':=by unfold ga;rw [hk.glob];exact av
theorem ga.or {h U h':I} {M:Nat→Prop} (av:ga U) (lj:ga h) (hk:J U h' M∨h'=h):ga h':=by
 rcases hk with hk | rfl
 ·exact av.al hk
 ·exact lj
inductive fP:bG→Prop
 | mk (o n:Int) (l:List bG) (az:l.length<2 ^ 47) (h:∀ k ∈ l,fP k) (aR:-2 ^ 63≤o∧o<2 ^ 63) (aG:-2 ^ 63≤n∧n<2 ^ 63):fP (.mk o n l)
theorem fP.len {e:bG} (h:fP e):e.aE.length<2 ^ 47:=by cases h;assumption
theorem fP.AV {e:bG} (h:fP e):∀ k ∈ e.aE,fP k:=by cases h;assumption
def EX (l:List V):Prop:=∃ e:bG,fP e∧l=ay e
theorem aiB:∀ l,gr.fw EX (.cat (.int .i64) (.cat (.int .i64) (.cat (.bc (.ext 3)) .unit))) l→EX l:=fun l h=>by
 obtain ⟨ey,_,rfl,⟨o,rfl,c2⟩,dm,_,rfl,⟨n,rfl,bX⟩,vE,_,rfl,⟨es,rfl,aG,mE⟩,rfl⟩:=h
 have:∃ aE:List bG,(∀ k ∈ aE,fP k)∧es.length=aE.length∧es.flatten=aE.flatMap ay:=by
  clear aG
  induction es with
  | nil=>exact ⟨[],by simp,rfl,rfl⟩
  | cons a r ih=>
   obtain ⟨aE,h1,aa,aC⟩:=ih fun e he=>mE e (by simp [he])
   obtain ⟨⟨k,hk,rfl⟩,_⟩:=mE a (by simp)
   refine ⟨k::aE,fun x ag=>?_,by simp [aa],by simp [aC]⟩
   rcases List.mem_cons.1 ag with rfl | ag
   ·exact hk
   ·exact h1 x ag
 obtain ⟨aE,h1,aa,aC⟩:=this
 refine ⟨.mk o n aE,.mk o n aE (by omega) h1 (wf_i64 c2) (wf_i64 bX),?_⟩
 rw [jv,aa,aC]
 rfl
mutual
def et:bG→Nat
 | .mk _ _ l=>eK l+1
def eK:List bG→Nat
 | []=>0
 | k::r=>et k+eK r
end
theorem WZ {l:List bG} {i:Nat} (hi:i<l.length):eK (l.take (i+1))=eK (l.take i)+et l[i]:=by
 induction l generalizing i with
 | nil=>simp at hi
 | cons a r ih=>
  cases i with
  | zero=>simp [eK]
  | succ i=>simp only [List.take_succ_cons,eK,List.getElem_cons_succ];rw [ih (by simpa using hi)];omega
theorem Qt {e:bG}:∀ k ∈ e.aE,et k<et e:=by
 obtain ⟨o,n,l⟩:=e
 have:∀ (l:List bG) (k:bG),k ∈ l→et k≤eK l:=fun l=>by
  induction l with
  | nil=>intro k hk;simp at hk
  | cons a r ih=>
   intro k hk
   rcases List.mem_cons.1 hk with rfl | hk
   ·simp [eK]
   ·have:=ih k hk;simp only [eK];omega
 intro k hk
 have:=this l k hk
 simp only [et];omega
theorem wrap_add (a b:Int):IntKind.i64.wrap (IntKind.i64.wrap a+IntKind.i64.wrap b)=IntKind.i64.wrap (a+b):=by
 rw [IntKind.wrap_i64,IntKind.wrap_i64 a,IntKind.wrap_i64 b,IntKind.wrap_i64 (a+b)];omega
mutual
def uJ (op:Int):bG→Bool
 | .mk o _ l=>o==op||ry op l
def ry (op:Int):List bG→Bool
 | []=>false
 | k::r=>uJ op k||ry op r
end
def w3 (o:Int):Int:=if o≤5 then 0 else if o=14 then 1 else if o=13 then 3 else 2
theorem Qu {o:Int} (h1:1≤o) (aa:o≤16):dq.getD o.toNat 0=w3 o:=by
 obtain ⟨k,rfl⟩:∃ k:Nat,o=k:=⟨o.toNat,by omega⟩
 have hk:k<17:=by omega
 simp only [Int.toNat_natCast]
 have:∀ k:Nat,k<17→1≤k→dq.getD k 0=w3 (k:Int):=by decide
 exact this k hk (by omega)
def qH:Nat→bG→Bool
 | 0,_=>false
 | n+1,e=>lV e&&e.aE.all (qH n)
theorem aku (e:bG):1≤et e:=by cases e;simp [et]
theorem La:∀ (l room:Nat) (e:bG),gW l room e=if qH l e=true∧et e≤room then some (et e) else none
 | 0,room,e=>by simp [gW,qH]
 | l+1,room,.mk o n aE=>by
  have hW:∀ (aE:List bG) (m:Nat),1≤m→jK (gW l) room m aE=if aE.all (qH l)=true∧m+eK aE≤room∨aE=[] then some (m+eK aE) else none:=by
   intro aE
   induction aE with
   | nil=>intro m hm;simp [jK,eK]
   | cons k r ih=>
    intro m hm
    have aZ:=aku k
    unfold jK
    rw [La l (room - m) k]
    by_cases a7:qH l k=true
    ·by_cases U:et k≤room - m
     ·rw [if_pos ⟨a7,U⟩]
      simp only
      rw [ih _ (by omega)]
      cases r with
      | nil=>simp [eK,a7];omega
      | cons a r=>
       simp only [List.all_cons,a7,Bool.true_and,eK,reduceCtorEq,or_false]
       by_cases ad:(qH l a&&r.all (qH l))=true∧m+et k+(et a+eK r)≤room
       ·rw [if_pos ad,if_pos ⟨ad.1,by omega⟩];congr 1;omega
       ·rw [if_neg ad,if_neg (fun ab=>ad ⟨ab.1,by omega⟩)]
     ·rw [if_neg (fun ab=>U ab.2)]
      simp only [List.all_cons,eK,reduceCtorEq,or_false]
      rw [if_neg (fun ab=>by omega)]
    ·rw [if_neg (fun ab=>a7 ab.1)]
     simp only [List.all_cons,reduceCtorEq,or_false]
     rw [if_neg (fun ab=>by simp [a7] at ab)]
  have tI:qH (l+1) (.mk o n aE)=(lV (.mk o n aE)&&aE.all (qH l)):=rfl
  have bf:et (.mk o n aE)=eK aE+1:=by simp [et]
  have Qv:gW (l+1) room (.mk o n aE)=if room=0∨lV (.mk o n aE)=false then none else jK (gW l) room 1 aE:=rfl
  rw [Qv]
  by_cases h0:room=0
  ·rw [if_pos (.inl h0),if_neg (fun ab=>by omega)]
  ·cases aq:lV (.mk o n aE) with
   | false=>rw [if_pos (.inr rfl),if_neg (fun ab=>by rw [tI,aq] at ab;simp at ab)]
   | true=>
    rw [if_neg (by simp [h0]),hW aE 1 (Nat.le_refl _)]
    rw [aq,Bool.true_and] at tI
    cases aE with
    | nil=>rw [if_pos (.inr rfl),if_pos ⟨by rw [tI];rfl,by rw [bf];simp [eK];omega⟩,bf];rfl
    | cons a r=>
     by_cases ad:(a::r).all (qH l)=true∧1+eK (a::r)≤room
     ·rw [if_pos (.inl ad),if_pos ⟨by rw [tI];exact ad.1,by rw [bf];omega⟩,bf];congr 1;omega
     ·rw [if_neg (by simp only [reduceCtorEq,or_false];exact ad),if_neg (fun ab=>ad ⟨by rw [←tI];exact ab.1,by rw [bf] at ab;omega⟩)]
def e7 (l:List Nat):List V:=l.map fun (n:Nat)=>V.int .u8 (n:Int)
theorem W0 (l:List Nat):(e7 l).all (·.one)=true:=by
 rw [List.all_eq_true];intro x ag
 obtain ⟨n,_,rfl⟩:=List.mem_map.1 ag
 rfl
theorem Qw (a b:List Nat):e7 (a++b)=e7 a++e7 b:=by simp [e7]
theorem pB (a:List Nat):(e7 a).length=a.length:=by simp [e7]
theorem AW (a:List Nat):bo (e7 a):=bo.map fun _ _=>bj.int _ _
def enc (n:Nat):List Nat:=if n<128 then [n] else (n % 128+128)::enc (n / 128)
termination_by n
theorem Fa {n:Nat} (h:n<128):enc n=[n]:=by rw [enc,if_pos h]
theorem Hy {n:Nat} (h:¬n<128):enc n=(n % 128+128)::enc (n / 128):=by rw [enc,if_neg h]
theorem akv (k:Nat):∀ n,n<128 ^ (k+1)→1≤(enc n).length∧(enc n).length≤k+1:=by
 induction k with
 | zero=>intro n h;rw [Fa (by simpa using h)];simp
 | succ k ih=>
  intro n h
  by_cases aG:n<128
  ·rw [Fa aG];simp
  ·rw [Hy aG]
   have:=ih (n / 128) (by rw [Nat.pow_succ] at h;exact Nat.div_lt_of_lt_mul (by rw [Nat.mul_comm];exact h))
   simp;omega
theorem pC (n:Nat) (h:n<2 ^ 64):1≤(enc n).length∧(enc n).length≤10:=by
 have:(2:Nat) ^ 64<128 ^ 10:=by decide
 exact akv 9 n (by omega)
theorem akw (n:Nat):wo .u8 (IntKind.u8.wrap (n:Int)) 128=((n % 128+128:Nat):Int):=by
 rw [IntKind.wrap_u8]
 unfold wo
 rw [IntKind.wrap_u8]
 have aw:BitVec.ofInt IntKind.u8.bits ((n:Int) % 256)=BitVec.ofNat 8 (n % 256):=by
  apply BitVec.eq_of_toNat_eq
  simp [IntKind.bits]
  omega
 rw [aw]
 have h:∀ m:Fin 256,((BitVec.ofNat 8 m.val ||| BitVec.ofInt 8 128).toNat:Int) % 256=((m.val % 128+128:Nat):Int):=by decide +kernel
 have:=h ⟨n % 256,Nat.mod_lt _ (by decide)⟩
 have aW:((n % 256 % 128+128:Nat):Int)=((n % 128+128:Nat):Int):=by omega
 exact this.trans aW
theorem Qx (n:Nat):(n:Int).fdiv (2 ^ (min (Int.toNat 7) IntKind.u64.bits))=((n / 128:Nat):Int):=by
 have:(2 ^ (min (Int.toNat 7) IntKind.u64.bits):Int)=128:=by decide
 rw [this,Int.fdiv_eq_ediv_of_nonneg _ (by omega)]
 rfl
theorem akx (n:Nat) (h:n<128):IntKind.u8.wrap (n:Int)=(n:Int):=by rw [IntKind.wrap_u8];omega
theorem W1 (h:I) (a:Int):kI Tryz.prog 87 1 [(0,.int .u8 a)] h=some (.bc h.n 0 1 1,h.push (.cells [.int .u8 a] 5 none)):=by rw [qA Hr];rfl
theorem Qy (s:V) (cs:List Nat) (n:Nat) (h:I) (aR:Own h 5 1 s (e7 cs)) (au:cs.length≤2 ^ 46) (aG:n<2 ^ 64) :
  ae Tryz.prog 179 [s,.int .u64 n] h (fun r h'=>Own h' 5 1 r (e7 (cs++enc n))∧J h h' (bl s)∧bV h s r):=by
 refine ae.ax (c:=_) Tryz.func179 rfl (by kernel_rfl) (by simp) ?_
 simp only [af]
 refine aX.b9 (α:=V×List Nat×Nat) (fun x f h'=>f 0=x.1∧f 1=.int .u64 (x.2.2:Nat)∧Own h' 5 1 x.1 (e7 x.2.1)∧J h h' (bl s)∧bV h s x.1∧x.2.1++enc x.2.2=cs++enc n∧x.2.2<2 ^ 64) (fun x=>x.2.2) (s,cs,n)
  ⟨rfl,rfl,aR,J.refl _ _,.inl rfl,rfl,aG⟩ ?_
 rintro ⟨cK,cs',n'⟩ f h1 ⟨f0,f1,hs,hk,c4,cS,oA⟩
 simp only at f0 f1 hs c4 cS oA
 refine am (by kernel_rfl) ?_
 have hlen:cs'.length+1≤cs.length+10:=by
  have h1:=congrArg List.length cS
  have aa:=pC n aG
  have aC:=pC n' oA
  simp at h1
  omega
 have next:∀ (v:V) (aa:I),J h1 aa (bl cK)→bV h1 cK v→J h aa (bl s)∧bV h s v:=fun v aa k2 d2=>by
  refine ⟨hk.trans k2 fun k jF q6=>?_,?_⟩
  ·rcases c4 with c4 | c4
   ·unfold bl at q6⊢;rw [←c4];exact q6
   ·have:=c4 k q6;omega
  ·rcases d2 with d2 | d2
   ·rcases c4 with c4 | c4
    ·exact .inl (d2.trans c4)
    ·exact .inr fun k jF=>c4 k (by rw [←d2];exact jF)
   ·exact .inr fun k jF=>Nat.le_trans hk.n (d2 k jF)
 by_cases aN:128≤n'
 ·have bh:decide ((128:Int)≤(n':Int))=true:=by simp;omega
  obtain ⟨v,aa,cn,cO,fg,ju⟩:=Ka (P:=Tryz.prog) Hr (by decide) hs (xs:=[.int .u8 ((n' % 128+128:Nat):Int)]) rfl rfl (by simp [pB,lim];omega) (by simp [pB,lim];omega)
  obtain ⟨k2,d2⟩:=next v aa fg ju
  simp only [af,Nat.reduceEqDiff,reduceCtorEq,f0,f1,bh,lR mY mj,akw,W1,cn,F6 (show (0:Int)≤7 by decide),Qx]
  refine aF ⟨(v,cs'++[n' % 128+128],n' / 128),⟨rfl,rfl,?_,k2,d2,?_,by simp only;omega⟩,by simp;omega⟩
  ·rw [Qw];exact cO
  ·simp only
   rw [←cS,Hy (n:=n') (by omega)]
   simp
 ·have bh:decide ((128:Int)≤(n':Int))=false:=by simp;omega
  obtain ⟨v,aa,cn,cO,fg,ju⟩:=Ka (P:=Tryz.prog) Hr (by decide) hs (xs:=[.int .u8 (n':Int)]) rfl rfl (by simp [pB,lim];omega) (by simp [pB,lim];omega)
  obtain ⟨k2,d2⟩:=next v aa fg ju
  simp only [af,Nat.reduceEqDiff,reduceCtorEq,f0,f1,bh,lR mY mj,akx n' (by omega),W1,cn,aU,Tryz.results179,ac]
  refine aF ⟨?_,k2,d2⟩
  rw [←cS,Fa (by omega),Qw]
  exact cO
structure Rd (h:I) (s:V) (cs:List Nat):Prop where
 len:∀ h',J h h' none_→dU Tryz.prog 87 s h'=some (.int .i64 cs.length)
 lenOf:BK s=some cs.length
 first:∀ h',J h h' none_→wc 1 cs.length s h'=some (e7 cs)
 src:∀ h',J h h' none_→fm Tryz.prog 1 87 s h'=some (cs.length,e7 cs)
theorem Rd.an (h:I):Rd h .an []:=⟨fun _ _=>Am rp,rfl,fun _ _=>rfl,fun _ _=>by
 obtain ⟨d,hu,a7⟩:=Al rp
 cases d<;>simp [xE] at a7
 simp [fm,hu,e7]⟩
theorem Rd.ai (h:I) (cs:List Nat):Rd h (.ai cs.length (e7 cs)) cs:=⟨fun _ _=>TD rp,rfl,fun h' _=>by
 simp only [wc,pB,Nat.mul_one,Nat.le_refl,and_self,if_true]
 rw [List.take_of_length_le (by rw [pB];exact Nat.le_refl _)],fun h' _=>afj rp (by rw [pB,Nat.mul_one]) (W0 cs)⟩
theorem Rd.al {h h':I} {s:V} {cs:List Nat} (rd:Rd h s cs) (k:J h h' none_):Rd h' s cs :=
 ⟨fun aa k2=>rd.len aa (k.trans' k2),rd.lenOf,fun aa k2=>rd.first aa (k.trans' k2),fun aa k2=>rd.src aa (k.trans' k2)⟩
theorem fresh (s:V) (cs:List Nat) (m:Nat) (h:I) (rd:Rd h s cs) (au:cs.length+m≤2 ^ 47) :
  ae Tryz.prog 157 [s,.int .i64 m] h (fun r h'=>r=.bc h.n 0 cs.length (cs.length+m)∧Own h' 5 1 r (e7 cs)∧J h h' none_):=by
 refine ae.ax (c:=_) Tryz.func157 rfl (by kernel_rfl) (by simp) ?_
 have hw:IntKind.i64.wrap ((cs.length:Int)+(m:Int))=((cs.length+m:Nat):Int):=by rw [Go.IntWalk.i64_in _ (by omega)];omega
 obtain ⟨h1,aa,cn,cO,fg,ju,w4⟩:=af6 (P:=Tryz.prog) (tx:=87) (k:=.i64) (k':=.i64) (h:=h) (c:=cs.length+m) Hr rd.lenOf rd.first (W0 cs) (by simp [pB]) (by omega) (by simp only;omega) (by omega)
 simp only [af,Nat.reduceEqDiff,reduceCtorEq,rd.len h (J.refl _ _),hw,cn,cO,aU,Tryz.results157,ac]
 exact aF ⟨rfl,fg,w4⟩
theorem Qz (s:V) (cs:List Nat) (n:Nat) (h:I) (rd:Rd h s cs) (au:cs.length≤2 ^ 46) (aG:n<2 ^ 64) :
  ae Tryz.prog 124 [s,.int .u64 n] h (fun r h'=>Own h' 5 1 r (e7 (cs++enc n))∧J h h' none_∧∀ k,aV r=some k→h.n≤k):=by
 refine ae.ax (c:=_) Tryz.func124 rfl (by kernel_rfl) (by simp) ?_
 simp only [af,Nat.reduceEqDiff,reduceCtorEq]
 refine cy EZ (fresh s cs 10 h rd (by omega)) fun cg h1 ⟨aw,js,bB⟩=>?_
 have d1:∀ k,aV cg=some k→h.n≤k:=fun k hk=>by subst aw;simp [aV] at hk;omega
 simp only [af,Nat.reduceEqDiff]
 refine cy Hj (Qy cg cs n h1 js au aG) fun cZ aa ⟨ei,k2,d2⟩=>?_
 simp only [af,Nat.reduceEqDiff,aU,Tryz.results124,ac]
 refine aF ⟨ei,bB.trans k2 fun k hk hi=>?_,fun k hk=>?_⟩
 ·have:=d1 k hi;omega
 ·rcases d2 with d2 | d2
  ·exact d1 k (d2 ▸ hk)
  ·exact Nat.le_trans bB.n (d2 k hk)
theorem Lb (s:V) (cs:List Nat) (n:Nat) (h:I) (rd:Rd h s cs) (au:cs.length≤2 ^ 46) (aG:n<2 ^ 64) :
  Pure Tryz.prog 124 [s,.int .u64 n] h (.ai (cs++enc n).length (e7 (cs++enc n))):=by
 refine Pure.of (bj.ai (AW _)) ((Qz s cs n h rd au aG).mono fun r h' ⟨o,k,d⟩=>?_)
 obtain ⟨aa,c,k2⟩:=aM.own o (n:=(cs++enc n).length) (by simp [pB]) (by omega)
 exact ⟨aa,c,k.trans k2 fun j aS U=>by have:=d j U;omega⟩
theorem W2 (s:V) (cs:List Nat) (m:Nat) (h:I) (rd:Rd h s cs) (au:cs.length+m≤2 ^ 47) :
  Pure Tryz.prog 157 [s,.int .i64 m] h (.ai cs.length (e7 cs)):=by
 refine Pure.of (bj.ai (AW _)) ((fresh s cs m h rd au).mono fun r h' ⟨e,o,k⟩=>?_)
 obtain ⟨aa,c,k2⟩:=aM.own o (n:=cs.length) (by simp [pB]) (by omega)
 refine ⟨aa,c,k.trans k2 fun j aS U=>?_⟩
 subst e
 simp [bl,aV] at U
 omega
def du (h:I) (p:V) (i:Nat) (cs:List Nat):Prop:=p=.ptr i 0∧i<h.n∧h.get i=.cells [.ai cs.length (e7 cs)] 278 none
theorem Hz (s:V) (cs:List Nat) (h:I) (rd:Rd h s cs) (au:cs.length≤2 ^ 47) :
  ae Tryz.prog 109 [s] h (fun r h'=>r=.ptr h.n 0∧du h' r h.n cs∧J h h' none_):=by
 refine ae.ax (c:=_) Tryz.func109 rfl (by kernel_rfl) (by simp) ?_
 simp only [af,Nat.reduceEqDiff,reduceCtorEq]
 refine bU EZ (W2 s cs 0 h rd (by omega)) ?_
 simp only [af,Nat.reduceEqDiff,Wz,WD,aU,Tryz.results109,ac]
 exact aF ⟨rfl,⟨rfl,by rw [eI];omega,cA⟩,J.push _ _ _⟩
theorem rest (h:I) (p:V) (i:Nat) (cs:List Nat) (aH:du h p i cs):Pure Tryz.prog 160 [p] h (.ai cs.length (e7 cs)):=by
 obtain ⟨rfl,hi,av⟩:=aH
 refine ae.ax (c:=_) Tryz.func160 rfl (by kernel_rfl) (by simp) ?_
 simp only [af,Nat.reduceEqDiff,reduceCtorEq,Hl,ajJ,Hp,av,aU,Tryz.results160,ac]
 exact aF ⟨rfl,rfl⟩
theorem Left (h:I) (p:V) (i:Nat) (cs:List Nat) (aH:du h p i cs):Pure Tryz.prog 111 [p] h (.int .i64 cs.length):=by
 refine ae.ax (c:=_) Tryz.func111 rfl (by kernel_rfl) (by simp) ?_
 simp only [af,Nat.reduceEqDiff,reduceCtorEq]
 refine bU KT (rest h p i cs aH) ?_
 simp only [af,Nat.reduceEqDiff,rp,aU,Tryz.results111,ac]
 exact aF ⟨rfl,rfl⟩
theorem CF (w n:Nat):BitVec.ofInt w (n:Int)=BitVec.ofNat w n:=by
 apply BitVec.eq_of_toNat_eq
 simp
theorem aky (a b k:Nat) (ak:b<2 ^ k) (hk:k≤64) (aO:a * 2 ^ k<2 ^ 64):wo .u64 (b:Int) ((a * 2 ^ k:Nat):Int)=((a * 2 ^ k+b:Nat):Int):=by
 have aN:a * 2 ^ k+b<2 ^ 64:=by
  have e:(2:Nat) ^ 64=2 ^ (64 - k) * 2 ^ k:=by rw [←Nat.pow_add];congr 1;omega
  rw [e] at aO⊢
  have h1:a<2 ^ (64 - k):=Nat.lt_of_mul_lt_mul_right aO
  calc a * 2 ^ k+b<a * 2 ^ k+2 ^ k:=by omega
   _=(a+1) * 2 ^ k:=by rw [Nat.add_mul];simp
   _≤_:=Nat.mul_le_mul_right _ h1
 unfold wo
 rw [CF,CF]
 have aw:(BitVec.ofNat IntKind.u64.bits b ||| BitVec.ofNat IntKind.u64.bits (a * 2 ^ k)).toNat=a * 2 ^ k+b:=by
  rw [BitVec.toNat_or]
  simp only [BitVec.toNat_ofNat,IntKind.bits]
  rw [Nat.mod_eq_of_lt (by omega),Nat.mod_eq_of_lt aO]
  have:=Nat.shiftLeft_add_eq_or_of_lt ak a
  rw [Nat.shiftLeft_eq] at this
  rw [this,Nat.or_comm]
 rw [aw,IntKind.wrap_u64]
 omega
theorem QA (g:Nat) (av:g<256):IntKind.u64.wrap (J4 .u8 (g:Int) 128)=((g % 128:Nat):Int):=by
 have h:∀ m:Fin 256,IntKind.u64.wrap (J4 .u8 (m.val:Int) 128)=((m.val % 128:Nat):Int):=by decide +kernel
 exact h ⟨g,av⟩
theorem W3 (g at_:Nat) (av:g % 128 * 2 ^ (7 * at_)<2 ^ 64) (aO:at_≤9):IntKind.u64.wrap (((g % 128:Nat):Int) * 2 ^ (min (IntKind.i64.wrap (7 * (at_:Int))).toNat IntKind.u64.bits))=((g % 128 * 2 ^ (7 * at_):Nat):Int):=by
 have e:(min (IntKind.i64.wrap (7 * (at_:Int))).toNat IntKind.u64.bits)=7 * at_:=by
  rw [IntKind.wrap_i64]
  have h1:((7 * (at_:Int)+9223372036854775808) % 18446744073709551616 - 9223372036854775808)=((7 * at_:Nat):Int):=by omega
  rw [h1,Int.toNat_natCast]
  simp only [IntKind.bits]
  omega
 rw [e,IntKind.wrap_u64]
 have:(((g % 128:Nat):Int) * 2 ^ (7 * at_))=((g % 128 * 2 ^ (7 * at_):Nat):Int):=by push_cast;rfl
 rw [this]
 omega
theorem W4 (g at_:Nat) (yE:at_≤9) (sO:¬(at_=9∧1<g)) (av:g<256):g % 128 * 2 ^ (7 * at_)<2 ^ 64:=by
 by_cases lx:at_≤8
 ·have h1:(2:Nat) ^ (7 * at_)≤2 ^ 56:=Nat.pow_le_pow_right (by decide) (by omega)
  have aa:g % 128<128:=Nat.mod_lt _ (by decide)
  have aC:g % 128 * 2 ^ (7 * at_)≤127 * 2 ^ 56:=Nat.mul_le_mul (by omega) h1
  exact Nat.lt_of_le_of_lt aC (by decide)
 ·have:at_=9:=by omega
  subst this
  have:g % 128≤1:=by omega
  exact Nat.lt_of_le_of_lt (Nat.mul_le_mul_right _ this) (by decide)
theorem W5 (g n at_:Nat) (aG:n<2 ^ (7 * at_)) (yE:at_≤9) (DP:g % 128 * 2 ^ (7 * at_)<2 ^ 64):wo .u64 (n:Int) ((g % 128 * 2 ^ (7 * at_):Nat):Int)=((n+g % 128 * 2 ^ (7 * at_):Nat):Int):=by
 rw [aky (g % 128) n (7 * at_) aG (by omega) DP,Nat.add_comm]
theorem W6 (g n at_:Nat) (aG:n<2 ^ (7 * at_)):n+g % 128 * 2 ^ (7 * at_)<2 ^ (7 * (at_+1)):=by
 have e:(2:Nat) ^ (7 * (at_+1))=128 * 2 ^ (7 * at_):=by rw [Nat.mul_add,Nat.pow_add];omega
 rw [e]
 have aa:g % 128<128:=Nat.mod_lt _ (by decide)
 have aC:=Nat.mul_le_mul_right (2 ^ (7 * at_)) (show g % 128≤127 by omega)
 generalize 2 ^ (7 * at_)=p at *
 omega
def dec:List Nat→Nat→Nat→Nat×Nat×Nat
 | [],_,_=>(0,0,4)
 | g::r,at_,n=>
  if at_=9∧1<g then (0,0,5)
  else if 128≤g then dec r (at_+1) (n+g % 128 * 2 ^ (7 * at_))
  else if g=0∧0<at_ then (0,0,5)
  else (n+g % 128 * 2 ^ (7 * at_),at_+1,0)
def uK (r:Nat×Nat×Nat):V:=.tuple [.int .u64 (r.1:Nat),.int .i64 (r.2.1:Nat),.int .i64 (r.2.2:Nat)]
theorem akz {ao:List Nat} {k:Nat} (hk:k<ao.length):(e7 ao).drop (k * 1)=.int .u8 (ao[k]:Nat)::e7 (ao.drop (k+1)):=by
 rw [Nat.mul_one]
 unfold e7
 rw [←List.map_drop,List.drop_eq_getElem_cons hk]
 rfl
theorem number (ao:List Nat) (h:I) (ak:∀ b ∈ ao,b<256) (au:ao.length≤2 ^ 47) :
  Pure Tryz.prog 199 [.ai ao.length (e7 ao)] h (uK (dec ao 0 0)):=by
 refine ae.ax (c:=_) Tryz.func199 rfl (by kernel_rfl) (by simp) ?_
 simp only [af]
 refine aX.Av (α:=Nat×Nat) (l:=0) rfl (fun x f h'=>h'=h∧f 0=.ai ao.length (e7 ao)∧f 5=.int .u64 (x.2:Nat)∧f 6=.int .i64 (x.1:Nat)∧dec (ao.drop x.1) x.1 x.2=dec ao 0 0∧x.2<2 ^ (7 * x.1)∧x.1≤9∧x.1≤ao.length) (fun x=>10 - x.1) ?_ ?_ ?_
 ·rintro x f h1 _
  omega
 ·rintro ⟨at_,n⟩ f h1 ⟨rfl,f0,f5,f6,a7,aG,yE,nP⟩
  simp only at f5 f6 a7 aG yE nP
  refine am (by kernel_rfl) ?_
  by_cases uB:at_=ao.length
  ·have iK:((at_:Int)==(ao.length:Int))=true:=by simp [uB]
   simp only [af,Nat.reduceEqDiff,reduceCtorEq,rp,f0,f6,iK,zi,aU,Tryz.results199,sE]
   refine aF ⟨?_,rfl⟩
   rw [←a7,uB,List.drop_length]
   rfl
  ·have iK:((at_:Int)==(ao.length:Int))=false:=by simp;omega
   have aN:at_<ao.length:=by omega
   have zz:ao[at_]<256:=ak _ (List.getElem_mem aN)
   have DQ:ao.drop at_=ao[at_]::ao.drop (at_+1):=List.drop_eq_getElem_cons aN
   have gk:=Gj (P:=Tryz.prog) (t:=87) (k:=.i64) (i:=(at_:Int)) (n:=ao.length) (cs:=e7 ao) K5 (by omega) (by omega) (by rw [pB];omega)
   rw [Int.toNat_natCast,akz aN] at gk
   have jm:dec (ao.drop at_) at_ n=dec (ao[at_]::ao.drop (at_+1)) at_ n:=by rw [←DQ]
   generalize ao[at_]=g at zz gk jm
   clear DQ
   by_cases sO:at_=9∧1<g
   ·have ki:((at_:Int)==9)=true:=by simp [sO.1]
    have MT:decide ((1:Int)<(g:Int))=true:=by simp;omega
    simp only [af,Nat.reduceEqDiff,reduceCtorEq,rp,rq,f0,f6,iK,gk,ki,MT,zi,aU,Tryz.results199,sE]
    refine aF ⟨?_,rfl⟩
    rw [←a7,jm,dec,if_pos sO]
    rfl
   ·have DP:=W4 g at_ yE sO zz
    have tF:=W5 g n at_ aG yE DP
    have rW:=W6 g n at_ aG
    have w5:=W3 g at_ DP yE
    have w6:=QA g zz
    have dy:(0:Int)≤IntKind.i64.wrap (7 * (at_:Int)):=by
     rw [Go.IntWalk.i64_in _ (by omega)]
     omega
    have eO:IntKind.i64.wrap ((at_:Int)+1)=((at_+1:Nat):Int):=by rw [Go.IntWalk.i64_in _ (by omega)];rfl
    have lf:(((at_:Int)==9)=true∧decide ((1:Int)<(g:Int))=false)∨((at_:Int)==9)=false:=by
     by_cases gd:at_=9
     ·left;refine ⟨by simp [gd],by simp;omega⟩
     ·right;simp;omega
    by_cases HA:128≤g
    ·have vl:decide ((128:Int)≤(g:Int))=true:=by simp;omega
     have lx:at_≤8:=by
      rcases Nat.lt_or_ge at_ 9 with h | h
      ·omega
      ·exact absurd ⟨by omega,by omega⟩ sO
     have mn:dec (ao.drop (at_+1)) (at_+1) (n+g % 128 * 2 ^ (7 * at_))=dec ao 0 0:=by
      rw [←a7,jm,dec,if_neg sO,if_pos HA]
     rcases lf with ⟨bh,bD⟩ | bh
     ·exfalso
      simp at bh
      omega
     ·simp only [af,Nat.reduceEqDiff,reduceCtorEq,rp,rq,f0,f5,f6,iK,gk,bh,vl,lR mj mY,w6,Ak dy,w5,tF,eO,af8]
      exact aF ⟨(at_+1,_),⟨rfl,f0,rfl,rfl,mn,rW,by simp only;omega,by simp only;omega⟩,by simp;omega⟩
    ·have vl:decide ((128:Int)≤(g:Int))=false:=by simp;omega
     have aH:dec ao 0 0=if g=0∧0<at_ then (0,0,5) else (n+g % 128 * 2 ^ (7 * at_),at_+1,0):=by
      rw [←a7,jm,dec,if_neg sO,if_neg HA]
     have oK:((g:Int)==0)=false∨(((g:Int)==0)=true∧decide ((1:Int)<((at_+1:Nat):Int))=decide (0<at_)):=by
      by_cases h0:g=0
      ·right;exact ⟨by simp [h0],by rw [decide_eq_decide];omega⟩
      ·left;simp;omega
     rcases oK with c3 | ⟨c3,ew⟩
     ·have h0:¬(g=0∧0<at_):=by intro h;simp [h.1] at c3
      rw [if_neg h0] at aH
      rcases lf with ⟨bh,bD⟩ | bh
      ·simp only [af,Nat.reduceEqDiff,reduceCtorEq,rp,rq,f0,f5,f6,iK,gk,bh,bD,c3,vl,lR mj mY,w6,Ak dy,w5,tF,eO,zi,aU,Tryz.results199,sE]
       exact aF ⟨by rw [aH];rfl,rfl⟩
      ·simp only [af,Nat.reduceEqDiff,reduceCtorEq,rp,rq,f0,f5,f6,iK,gk,bh,c3,vl,lR mj mY,w6,Ak dy,w5,tF,eO,zi,aU,Tryz.results199,sE]
       exact aF ⟨by rw [aH];rfl,rfl⟩
     ·by_cases pt:0<at_
      ·have h0:(g=0∧0<at_):=⟨by simpa using c3,pt⟩
       rw [if_pos h0] at aH
       simp only [pt,decide_true] at ew
       rcases lf with ⟨bh,bD⟩ | bh
       ·simp only [af,Nat.reduceEqDiff,reduceCtorEq,rp,rq,f0,f5,f6,iK,gk,bh,bD,c3,ew,vl,lR mj mY,w6,Ak dy,w5,tF,eO,zi,aU,Tryz.results199,sE]
        exact aF ⟨by rw [aH];rfl,rfl⟩
       ·simp only [af,Nat.reduceEqDiff,reduceCtorEq,rp,rq,f0,f5,f6,iK,gk,bh,c3,ew,vl,lR mj mY,w6,Ak dy,w5,tF,eO,zi,aU,Tryz.results199,sE]
        exact aF ⟨by rw [aH];rfl,rfl⟩
      ·have h0:¬(g=0∧0<at_):=fun h=>pt h.2
       rw [if_neg h0] at aH
       simp only [pt,decide_false] at ew
       rcases lf with ⟨bh,bD⟩ | bh
       ·simp only [af,Nat.reduceEqDiff,reduceCtorEq,rp,rq,f0,f5,f6,iK,gk,bh,bD,c3,ew,vl,lR mj mY,w6,Ak dy,w5,tF,eO,zi,aU,Tryz.results199,sE]
        exact aF ⟨by rw [aH];rfl,rfl⟩
       ·simp only [af,Nat.reduceEqDiff,reduceCtorEq,rp,rq,f0,f5,f6,iK,gk,bh,c3,ew,vl,lR mj mY,w6,Ak dy,w5,tF,eO,zi,aU,Tryz.results199,sE]
        exact aF ⟨by rw [aH];rfl,rfl⟩
 ·intro step
  refine aX.seq (am (by kernel_rfl) ?_)
  simp only [af]
  refine aX.seq (am (by kernel_rfl) ?_)
  simp only [af]
  refine aX.seq (.label ?_)
  exact step (0,0) _ _ ⟨rfl,rfl,rfl,rfl,rfl,by decide,by decide,by omega⟩
theorem QB (l:List Nat):∀ k n,(dec l k n).2.2≠0→dec l k n=(0,0,(dec l k n).2.2):=by
 induction l with
 | nil=>intro k n _;rfl
 | cons g r ih=>
  intro k n h
  unfold dec at h⊢
  split
  ·rfl
  ·rename_i h1
   rw [if_neg h1] at h
   split
   ·rename_i aa
    rw [if_pos aa] at h
    exact ih _ _ h
   ·rename_i aa
    rw [if_neg aa] at h
    split
    ·rfl
    ·rename_i aC
     rw [if_neg aC] at h
     simp at h
theorem QC (l:List Nat):∀ k n,(dec l k n).2.1≤l.length+k:=by
 induction l with
 | nil=>intro k n;simp [dec]
 | cons g r ih=>
  intro k n
  unfold dec
  split
  ·simp
  ·split
   ·have:=ih (k+1) (n+g % 128 * 2 ^ (7 * k))
    simp;omega
   ·split
    ·simp
    ·simp;omega
theorem akA (a:Nat) (aO:a<2 ^ 64):q4 .u64 (a:Int) 0=(a:Int):=by
 show IntKind.u64.wrap ((BitVec.ofInt 64 (a:Int) ^^^ BitVec.ofInt 64 0).toNat:Int)=_
 have e:BitVec.ofInt 64 (0:Int)=BitVec.ofNat 64 0:=rfl
 have aw:(BitVec.ofNat 64 a ^^^ BitVec.ofNat 64 0).toNat=a:=by
  rw [BitVec.toNat_xor,BitVec.toNat_ofNat,BitVec.toNat_ofNat,Nat.zero_mod,Nat.xor_zero]
  exact Nat.mod_eq_of_lt aO
 rw [CF,e,aw,IntKind.wrap_u64]
 omega
theorem akB (a:Nat) (aO:a<2 ^ 64):q4 .u64 (a:Int) 18446744073709551615=((18446744073709551615 - a:Nat):Int):=by
 show IntKind.u64.wrap ((BitVec.ofInt 64 (a:Int) ^^^ BitVec.ofInt 64 18446744073709551615).toNat:Int)=_
 have e:BitVec.ofInt 64 (18446744073709551615:Int)=BitVec.allOnes 64:=by decide
 have aw:(BitVec.ofNat 64 a ^^^ BitVec.allOnes 64).toNat=18446744073709551615 - a:=by
  rw [BitVec.xor_allOnes,BitVec.toNat_not,BitVec.toNat_ofNat,Nat.mod_eq_of_lt aO]
 rw [CF,e,aw,IntKind.wrap_u64]
 omega
theorem W7 (n:Int) (h1:-2 ^ 63≤n) (aa:n<2 ^ 63):q4 .u64 (IntKind.u64.wrap (IntKind.u64.wrap n * 2 ^ min (Int.toNat 1) IntKind.u64.bits)) (IntKind.u64.wrap (n.fdiv (2 ^ min (Int.toNat 63) IntKind.i64.bits))) =
  ((if 0≤n then 2 * n.toNat else 2 * (-n).toNat - 1:Nat):Int):=by
 have aw:(2:Int) ^ min (Int.toNat 1) IntKind.u64.bits=2:=by decide
 have aW:(2:Int) ^ min (Int.toNat 63) IntKind.i64.bits=9223372036854775808:=by decide
 rw [aw,aW]
 have qn:-9223372036854775808≤n:=by simpa using h1
 have vd:n<9223372036854775808:=by simpa using aa
 by_cases h0:0≤n
 ·have cJ:n.fdiv 9223372036854775808=0:=by rw [Int.fdiv_eq_ediv_of_nonneg _ (by omega)];omega
  have km:IntKind.u64.wrap (IntKind.u64.wrap n * 2)=((2 * n.toNat:Nat):Int):=by rw [IntKind.wrap_u64,IntKind.wrap_u64];omega
  have nI:IntKind.u64.wrap 0=0:=by decide
  rw [cJ,km,nI,akA _ (by omega),if_pos h0]
 ·have cJ:n.fdiv 9223372036854775808=-1:=by rw [Int.fdiv_eq_ediv_of_nonneg _ (by omega)];omega
  have km:IntKind.u64.wrap (IntKind.u64.wrap n * 2)=((2 * n+18446744073709551616).toNat:Int):=by rw [IntKind.wrap_u64,IntKind.wrap_u64];omega
  have nI:IntKind.u64.wrap (-1)=18446744073709551615:=by decide
  rw [cJ,km,nI,akB _ (by omega),if_neg h0]
  omega
def jM (n:Int):Nat:=if 0≤n then 2 * n.toNat else 2 * (-n).toNat - 1
theorem m8 (n:Int) (h1:-2 ^ 63≤n) (aa:n<2 ^ 63):jM n<2 ^ 64:=by
 have qn:-9223372036854775808≤n:=by simpa using h1
 have vd:n<9223372036854775808:=by simpa using aa
 unfold jM
 split<;>omega
theorem du.al {h h':I} {p:V} {i:Nat} {cs:List Nat} {own:Nat→Prop} (aH:du h p i cs) (hk:J h h' own) (bO:¬own i):du h' p i cs :=
 ⟨aH.1,Nat.lt_of_lt_of_le aH.2.1 hk.n,(hk.get i aH.2.1 bO).trans aH.2.2⟩
theorem Lc (p:V) (i:Nat) (ao:List Nat) (h:I) (aH:du h p i ao) (ak:∀ b ∈ ao,b<256) (au:ao.length≤2 ^ 47) :
  ae Tryz.prog 158 [p] h (fun r h'=>r=.tuple [.int .u64 ((dec ao 0 0).1:Nat),.int .i64 ((dec ao 0 0).2.2:Nat)]∧du h' p i (ao.drop (dec ao 0 0).2.1)∧J h h' (·=i)):=by
 refine ae.ax (c:=_) Tryz.func158 rfl (by kernel_rfl) (by simp) ?_
 simp only [af,Nat.reduceEqDiff,reduceCtorEq]
 refine bU KT (rest h p i ao aH) ?_
 simp only [af,Nat.reduceEqDiff]
 refine bU V6 (number ao h ak au) ?_
 by_cases hQ:(dec ao 0 0).2.2=0
 ·have bO:((((dec ao 0 0).2.2:Nat):Int) !=0)=false:=by simp [hQ]
  have Ld:=QC ao 0 0
  obtain ⟨rfl,hi,av⟩:=aH
  have qi:iJ Tryz.prog 87 (.ai ao.length (e7 ao)) (some (.int .i64 ((dec ao 0 0).2.1:Nat))) none none=some (.ai (ao.drop (dec ao 0 0).2.1).length (e7 (ao.drop (dec ao 0 0).2.1))):=by
   rw [OW K5 (by omega) (by omega) (by rw [pB];omega)]
   rw [Int.toNat_natCast,Nat.mul_one]
   unfold e7
   rw [List.map_drop,List.length_drop]
  simp only [af,Nat.reduceEqDiff,reduceCtorEq,Hl,Hp,Qp,uK,bO,av,qi,aU,Tryz.results158,dn]
  exact aF ⟨by simp [hQ],⟨rfl,by rw [jt];exact hi,aP⟩,J.set _ _ _⟩
 ·have bO:((((dec ao 0 0).2.2:Nat):Int) !=0)=true:=by simp;omega
  have a7:=QB ao 0 0 hQ
  simp only [af,Nat.reduceEqDiff,uK,bO,aU,Tryz.results158,dn]
  refine aF ⟨?_,?_,J.refl _ _⟩
  ·rw [a7];rfl
  ·rw [a7];simpa using aH
theorem W8 (n:Int) (h:I) (h1:-2 ^ 63≤n) (aa:n<2 ^ 63):Pure Tryz.prog 180 [.int .i64 n] h (.int .u64 (jM n:Nat)):=by
 refine ae.ax (c:=_) Tryz.func180 rfl (by kernel_rfl) (by simp) ?_
 simp only [af,Nat.reduceEqDiff,reduceCtorEq,Ak (show (0:Int)≤1 by decide),F6 (show (0:Int)≤63 by decide),lR uH mY,aU,Tryz.results180,ac]
 exact aF ⟨by rw [W7 n h1 aa];rfl,rfl⟩
theorem HB (s:V) (cs:List Nat) (n:Int) (h:I) (rd:Rd h s cs) (au:cs.length≤2 ^ 46) (h1:-2 ^ 63≤n) (aa:n<2 ^ 63) :
  Pure Tryz.prog 126 [s,.int .i64 n] h (.ai (cs++enc (jM n)).length (e7 (cs++enc (jM n)))):=by
 refine Pure.of (bj.ai (AW _)) (ae.mono (R:=fun r h'=>Own h' 5 1 r (e7 (cs++enc (jM n)))∧J h h' none_∧∀ k,aV r=some k→h.n≤k) ?_ fun r h' ⟨o,k,d⟩=>?_)
 ·refine ae.ax (c:=_) Tryz.func126 rfl (by kernel_rfl) (by simp) ?_
  simp only [af,Nat.reduceEqDiff,reduceCtorEq]
  refine cy EZ (fresh s cs 10 h rd (by omega)) fun cg qn ⟨aw,js,bB⟩=>?_
  have d1:∀ k,aV cg=some k→h.n≤k:=fun k hk=>by subst aw;simp [aV] at hk;omega
  simp only [af,Nat.reduceEqDiff]
  refine bU V5 (W8 n qn h1 aa) ?_
  simp only [af,Nat.reduceEqDiff]
  refine cy Hj (Qy cg cs (jM n) qn js au (m8 n h1 aa)) fun cZ vd ⟨ei,k2,d2⟩=>?_
  simp only [af,Nat.reduceEqDiff,aU,Tryz.results126,ac]
  refine aF ⟨ei,bB.trans k2 fun k hk hi=>?_,fun k hk=>?_⟩
  ·have:=d1 k hi;omega
  ·rcases d2 with d2 | d2
   ·exact d1 k (d2 ▸ hk)
   ·exact Nat.le_trans bB.n (d2 k hk)
 ·obtain ⟨aa,c,k2⟩:=aM.own o (n:=(cs++enc (jM n)).length) (by simp [pB]) (by omega)
  exact ⟨aa,c,k.trans k2 fun j aS U=>by have:=d j U;omega⟩
theorem QD:∀ (ao:List Nat) (k acc m used:Nat),(∀ b ∈ ao,b<256)→dec ao k acc=(m,used,0)→k<used∧∃ x,m=acc+x * 2 ^ (7 * k)∧ao.take (used - k)=enc x∧(0<k→0<x)
 | [],k,acc,m,used,_,h=>by simp [dec] at h
 | g::r,k,acc,m,used,ak,h=>by
  have av:g<256:=ak g (by simp)
  unfold dec at h
  split at h
  ·simp at h
  ·split at h
   ·rename_i aa
    obtain ⟨hu,x,aC,bz,bY⟩:=QD r (k+1) _ m used (fun b ic=>ak b (by simp [ic])) h
    have ag:=bY (by omega)
    refine ⟨by omega,g % 128+128 * x,?_,?_,by omega⟩
    ·rw [aC,Nat.mul_add,Nat.pow_add,Nat.add_mul,Nat.add_assoc]
     congr 2
     have e:(2:Nat) ^ (7 * 1)=128:=by decide
     rw [e,Nat.mul_comm (2 ^ (7 * k)) 128,←Nat.mul_assoc,Nat.mul_comm x 128]
    ·rw [show used - k=(used - (k+1))+1 by omega,List.take_succ_cons,bz,Hy (n:=g % 128+128 * x) (by omega)]
     congr 1
     ·omega
     ·congr 1;omega
   ·split at h
    ·simp at h
    ·rename_i h1 aa aC
     simp only [Prod.mk.injEq,and_true] at h
     obtain ⟨rfl,rfl⟩:=h
     refine ⟨by omega,g,?_,?_,by omega⟩
     ·rw [Nat.mod_eq_of_lt (by omega)]
     ·rw [show k+1 - k=1 by omega,Fa (by omega)];rfl
theorem dec_lt:∀ (ao:List Nat) (k acc:Nat),k≤9→acc<2 ^ (7 * k)→(∀ b ∈ ao,b<256)→(dec ao k acc).1<2 ^ 64
 | [],k,acc,_,_,_=>by simp [dec]
 | g::r,k,acc,hk,aO,ak=>by
  have av:g<256:=ak g (by simp)
  unfold dec
  split
  ·simp
  ·rename_i h1
   have k7:=W4 g k hk h1 av
   have aG:=W6 g acc k aO
   split
   ·rename_i aa
    by_cases W9:k≤8
    ·exact dec_lt r (k+1) _ (by omega) aG fun b ic=>ak b (by simp [ic])
    ·exfalso
     omega
   ·split
    ·simp
    ·show acc+g % 128 * 2 ^ (7 * k)<2 ^ 64
     have e:(2:Nat) ^ 64=2 ^ (64 - 7 * k) * 2 ^ (7 * k):=by rw [←Nat.pow_add];congr 1;omega
     rw [e] at k7⊢
     have lx:g % 128<2 ^ (64 - 7 * k):=Nat.lt_of_mul_lt_mul_right k7
     calc acc+g % 128 * 2 ^ (7 * k)<2 ^ (7 * k)+g % 128 * 2 ^ (7 * k):=by omega
      _=(g % 128+1) * 2 ^ (7 * k):=by rw [Nat.add_mul];omega
      _≤_:=Nat.mul_le_mul_right _ lx
theorem x1:∀ (m n:Nat),n≤m→∀ b ∈ enc n,b<256
 | m,n,h,b,ak=>by
  by_cases aG:n<128
  ·rw [Fa aG] at ak;simp at ak;omega
  ·rw [Hy aG] at ak
   rcases List.mem_cons.1 ak with rfl | ak
   ·omega
   ·cases m with
    | zero=>omega
    | succ m=>exact x1 m (n / 128) (by omega) b ak
theorem Xa (r:List Nat):∀ (m x k acc:Nat),x≤m→k≤9→x * 2 ^ (7 * k)<2 ^ 64→(0<k→0<x)→dec (enc x++r) k acc=(acc+x * 2 ^ (7 * k),k+(enc x).length,0)
 | m,x,k,acc,hm,hk,ag,h0=>by
  by_cases U:x<128
  ·rw [Fa U,List.cons_append,dec,if_neg,if_neg (by omega),if_neg,Nat.mod_eq_of_lt U]
   ·rfl
   ·intro ab;have:=h0 ab.2;omega
   ·rintro ⟨rfl,h1⟩
    have aa:2 * 2 ^ (7 * 9)≤x * 2 ^ (7 * 9):=Nat.mul_le_mul_right _ h1
    have aC:2 * 2 ^ (7 * 9)=2 ^ 64:=by decide
    omega
  ·have W9:k≤8:=by
    rcases Nat.lt_or_ge k 9 with h | h
    ·omega
    ·have Xb:k=9:=by omega
     subst Xb
     have aa:128 * 2 ^ (7 * 9)≤x * 2 ^ (7 * 9):=Nat.mul_le_mul_right _ (by omega)
     have aC:2 ^ 64≤128 * 2 ^ (7 * 9):=by decide
     omega
   have x2:2 ^ (7 * (k+1))=128 * 2 ^ (7 * k):=by rw [Nat.mul_add,Nat.pow_add,Nat.mul_comm]
   rw [Hy U,List.cons_append,dec,if_neg (by omega),if_pos (by omega)]
   cases m with
   | zero=>omega
   | succ m=>
    rw [Xa r m (x / 128) (k+1) _ (by omega) (by omega) (by
     rw [x2,←Nat.mul_assoc]
     exact Nat.lt_of_le_of_lt (Nat.mul_le_mul_right _ (Nat.div_mul_le_self x 128)) ag) (by omega)]
    simp only [Prod.mk.injEq,List.length_cons,and_true]
    refine ⟨?_,by omega⟩
    rw [x2]
    have aw:(x % 128+128) % 128=x % 128:=by omega
    rw [aw,←Nat.mul_assoc,Nat.add_assoc,←Nat.add_mul,Nat.mul_comm (x / 128) 128,Nat.mod_add_div]
theorem x3 (x:Nat) (ag:x<2 ^ 64) (r:List Nat):dec (enc x++r) 0 0=(x,(enc x).length,0):=by
 rw [Xa r x x 0 0 (Nat.le_refl _) (by omega) (by simpa using ag) (by omega)]
 simp
theorem akC {l:List Int} {k:Nat} (hk:k<l.length):(aY l).drop (k * 1)=.int .i64 l[k]::aY (l.drop (k+1)):=by
 rw [Nat.mul_one]
 unfold aY
 rw [←List.map_drop,List.drop_eq_getElem_cons hk]
 rfl
theorem akD {l:List Int} {k:Nat} (hk:k<l.length) {t:TypeId} (U:ek Tryz.prog t=some 1):hA Tryz.prog t (.ai l.length (aY l)) (.int .i64 (k:Int))=some (.at (.int .i64 l[k]::aY (l.drop (k+1)))):=by
 rw [Gj U (by omega) (by omega) (by rw [pU];omega),Int.toNat_natCast,akC hk]
theorem HC {n:Nat} (h:n<2 ^ 64):IntKind.u64.wrap (n:Int)=(n:Int):=by rw [IntKind.wrap_u64];omega
def x4 (x:List Nat):List Nat:=enc x.length++x
def w7 (l:List Int):List Nat:=enc l.length++l.flatMap fun n=>enc (jM n)
theorem Xc (s:V) (cs:List Nat) (m:Nat) (h:I) (rd:Rd h s cs) (au:cs.length+m≤2 ^ 47) :
  ae Tryz.prog 157 [s,.int .i64 m] h (fun r h'=>Acc h h' 5 1 r (e7 cs)) :=
 (fresh s cs m h rd au).mono fun r h' ⟨e,o,k⟩=>⟨o,k,fun j aS=>by subst e;simp [aV] at aS;omega⟩
theorem QE {h0:I} (s:V) (cs:List Nat) (n:Nat) (h:I) (a:Acc h0 h 5 1 s (e7 cs)) (au:cs.length≤2 ^ 46) (aG:n<2 ^ 64) :
  ae Tryz.prog 179 [s,.int .u64 n] h (fun r h'=>Acc h0 h' 5 1 r (e7 (cs++enc n))) :=
 (Qy s cs n h a.own au aG).mono fun r h' ⟨o,k,d⟩=>a.step o k d
theorem ut {α β:Type} (l:List α) (f:α→List β) {i:Nat} (hi:i<l.length):(l.take (i+1)).flatMap f=(l.take i).flatMap f++f l[i]:=by
 rw [List.take_succ_eq_append_getElem hi,List.flatMap_append];simp
theorem Xd {l:List Int} (az:∀ n ∈ l,-2 ^ 63≤n∧n<2 ^ 63):(l.flatMap fun n=>enc (jM n)).length≤10 * l.length:=by
 induction l with
 | nil=>simp
 | cons n l ih=>
  have h1:=ih fun n aG=>az n (by simp [aG])
  have aa:=az n (by simp)
  have:=(pC (jM n) (m8 n aa.1 aa.2)).2
  simp only [List.flatMap_cons,List.length_append,List.length_cons]
  omega
def fQ (n:Nat):Int:=if n % 2=0 then ((n / 2:Nat):Int) else -((n / 2:Nat):Int) - 1
theorem akE (n:Nat) (aG:n<2 ^ 64):zb .u64 (n:Int) 1=((n % 2:Nat):Int):=by
 show IntKind.u64.wrap ((BitVec.ofInt 64 (n:Int) &&& BitVec.ofInt 64 1).toNat:Int)=_
 have e:BitVec.ofInt 64 (1:Int)=BitVec.ofNat 64 1:=rfl
 have aw:(BitVec.ofNat 64 n &&& BitVec.ofNat 64 1).toNat=n % 2:=by
  rw [BitVec.toNat_and,BitVec.toNat_ofNat,BitVec.toNat_ofNat,Nat.mod_eq_of_lt aG,Nat.mod_eq_of_lt (by decide),Nat.and_one_is_mod]
 rw [CF,e,aw,IntKind.wrap_u64]
 omega
theorem akF (a:Nat) (aO:a<2 ^ 63):q4 .i64 (a:Int) 0=(a:Int):=by
 show IntKind.i64.wrap ((BitVec.ofInt 64 (a:Int) ^^^ BitVec.ofInt 64 0).toNat:Int)=_
 have e:BitVec.ofInt 64 (0:Int)=BitVec.ofNat 64 0:=rfl
 have aw:(BitVec.ofNat 64 a ^^^ BitVec.ofNat 64 0).toNat=a:=by
  rw [BitVec.toNat_xor,BitVec.toNat_ofNat,BitVec.toNat_ofNat,Nat.zero_mod,Nat.xor_zero]
  exact Nat.mod_eq_of_lt (by omega)
 rw [CF,e,aw,IntKind.wrap_i64]
 omega
theorem akG (a:Nat) (aO:a<2 ^ 63):q4 .i64 (a:Int) (-1)=-(a:Int) - 1:=by
 show IntKind.i64.wrap ((BitVec.ofInt 64 (a:Int) ^^^ BitVec.ofInt 64 (-1)).toNat:Int)=_
 have e:BitVec.ofInt 64 (-1:Int)=BitVec.allOnes 64:=by decide
 have aw:(BitVec.ofNat 64 a ^^^ BitVec.allOnes 64).toNat=18446744073709551615 - a:=by
  rw [BitVec.xor_allOnes,BitVec.toNat_not,BitVec.toNat_ofNat,Nat.mod_eq_of_lt (by omega)]
 rw [CF,e,aw,IntKind.wrap_i64]
 omega
theorem akH (n:Nat) (aG:n<2 ^ 64):q4 .i64 (IntKind.i64.wrap ((n:Int).fdiv (2 ^ min (Int.toNat 1) IntKind.u64.bits))) (IntKind.i64.wrap (0 - IntKind.i64.wrap (zb .u64 (n:Int) 1)))=fQ n:=by
 have aw:(2:Int) ^ min (Int.toNat 1) IntKind.u64.bits=2:=by decide
 have aW:IntKind.i64.wrap ((n:Int).fdiv 2)=((n / 2:Nat):Int):=by
  rw [Int.fdiv_eq_ediv_of_nonneg _ (by omega),Go.IntWalk.i64_in _ (by omega)];omega
 rw [aw,aW,akE n aG,Go.IntWalk.i64_in ((n % 2:Nat):Int) (by omega),Go.IntWalk.i64_in _ (by omega)]
 unfold fQ
 by_cases h:n % 2=0
 ·rw [if_pos h,h];exact akF _ (by omega)
 ·have h1:n % 2=1:=by omega
  rw [if_neg h,h1]
  exact akG _ (by omega)
theorem Xe (n:Nat) (aG:n<2 ^ 64):-2 ^ 63≤fQ n∧fQ n<2 ^ 63:=by
 unfold fQ
 split<;>omega
theorem akI (n:Nat) (h:I) (aG:n<2 ^ 64):Pure Tryz.prog 200 [.int .u64 n] h (.int .i64 (fQ n)):=by
 refine ae.ax (c:=_) Tryz.func200 rfl (by kernel_rfl) (by simp) ?_
 simp only [af,Nat.reduceEqDiff,reduceCtorEq,F6 (show (0:Int)≤1 by decide),lR mY uH,aU,Tryz.results200,ac]
 exact aF ⟨by rw [akH n aG],rfl⟩
theorem CG (p:V) (i:Nat) (ao:List Nat) (h:I) (aH:du h p i ao) (ak:∀ b ∈ ao,b<256) (au:ao.length≤2 ^ 47) :
  ae Tryz.prog 159 [p] h (fun r h'=>r=.tuple [.int .i64 (fQ (dec ao 0 0).1),.int .i64 ((dec ao 0 0).2.2:Nat)]∧du h' p i (ao.drop (dec ao 0 0).2.1)∧J h h' (·=i)):=by
 refine ae.ax (c:=_) Tryz.func159 rfl (by kernel_rfl) (by simp) ?_
 simp only [af,Nat.reduceEqDiff,reduceCtorEq]
 refine cy KS (Lc p i ao h aH ak au) fun r h1 ⟨aw,cg,bB⟩=>?_
 subst aw
 have aN:=dec_lt ao 0 0 (by omega) (by decide) ak
 by_cases hQ:(dec ao 0 0).2.2=0
 ·have bO:((((dec ao 0 0).2.2:Nat):Int) !=0)=false:=by simp [hQ]
  simp only [af,Nat.reduceEqDiff,bO]
  refine bU ajc (akI _ h1 aN) ?_
  simp only [af,Nat.reduceEqDiff,aU,Tryz.results159,dn]
  exact aF ⟨by rw [hQ];rfl,cg,bB⟩
 ·have bO:((((dec ao 0 0).2.2:Nat):Int) !=0)=true:=by simp;omega
  have a7:=QB ao 0 0 hQ
  simp only [af,Nat.reduceEqDiff,bO,aU,Tryz.results159,dn]
  refine aF ⟨?_,cg,bB⟩
  rw [a7]
  have:fQ 0=0:=by decide
  simp only [this]
def hn (ao:List Nat):List Nat×List Nat×Nat :=
 if (dec ao 0 0).2.2≠0 then ([],ao,(dec ao 0 0).2.2)
 else if (ao.drop (dec ao 0 0).2.1).length<(dec ao 0 0).1 then ([],ao,4)
 else ((ao.drop (dec ao 0 0).2.1).take (dec ao 0 0).1,(ao.drop (dec ao 0 0).2.1).drop (dec ao 0 0).1,0)
theorem Xf (l:List Nat) (k:Nat) (hk:k≤l.length) {kk:IntKind}:iJ Tryz.prog 87 (.ai l.length (e7 l)) (some (.int kk (k:Nat))) none none=some (.ai (l.drop k).length (e7 (l.drop k))):=by
 rw [OW K5 (by omega) (by omega) (by rw [pB];omega)]
 rw [Int.toNat_natCast,Nat.mul_one]
 unfold e7
 rw [List.map_drop,List.length_drop]
theorem akJ (l:List Nat) (k:Nat) (hk:k≤l.length) {kk:IntKind}:iJ Tryz.prog 87 (.ai l.length (e7 l)) none (some (.int kk (k:Nat))) none=some (.ai (l.take k).length (e7 (l.take k))):=by
 rw [af2 K5 (by omega) (by omega) (by rw [pB];omega)]
 rw [Int.toNat_natCast,Nat.mul_one,List.length_take,Nat.min_eq_left hk]
 unfold e7
 rw [List.map_take]
theorem AX (h:I) (l:List V):aM (.tuple (.an::l)) h (.tuple (.ai 0 []::l)) h:=fun ρ B aK w cm hw aD=>by
 cases aD with
 | tuple U ag=>
  refine ⟨ρ,Ren.le.refl ρ,hw,.tuple U fun k v v' a b=>?_⟩
  match k with
  | 0=>
   simp at a
   subst a
   have:=ag 0 .an v' rfl b
   cases this
   exact .eU _ _ (by simp)
  | k+1=>exact ag (k+1) v v' (by simpa using a) b
theorem QF (n:Int):fQ (jM n)=n:=by
 unfold fQ jM
 by_cases h:0≤n
 ·rw [if_pos h,if_pos (by omega)];omega
 ·rw [if_neg h,if_neg (by omega)];omega
def p0:Nat→List Nat→List Int→List Int×List Nat×Nat
 | 0,rest,acc=>(acc,rest,0)
 | k+1,rest,acc=>
  if (dec rest 0 0).2.2≠0 then ([],[],(dec rest 0 0).2.2)
  else if fQ (dec rest 0 0).1 < -2147483648∨2147483647<fQ (dec rest 0 0).1 then ([],[],2)
  else p0 k (rest.drop (dec rest 0 0).2.1) (acc++[fQ (dec rest 0 0).1])
def jb (ao:List Nat) (most:Int):List Int×List Nat×Nat :=
 if (dec ao 0 0).2.2≠0 then ([],ao,(dec ao 0 0).2.2)
 else if most<0∨most<((dec ao 0 0).1:Nat) then ([],ao,2)
 else if (p0 (dec ao 0 0).1 (ao.drop (dec ao 0 0).2.1) []).2.2≠0 then ([],ao,(p0 (dec ao 0 0).1 (ao.drop (dec ao 0 0).2.1) []).2.2)
 else p0 (dec ao 0 0).1 (ao.drop (dec ao 0 0).2.1) []
theorem Xg {rest:List Nat} (ak:∀ b ∈ rest,b<256) (h:(dec rest 0 0).2.2=0):1≤(dec rest 0 0).2.1∧(dec rest 0 0).2.1≤rest.length:=by
 have h1:=(QD rest 0 0 (dec rest 0 0).1 (dec rest 0 0).2.1 ak (by
  have q:dec rest 0 0=((dec rest 0 0).1,(dec rest 0 0).2.1,(dec rest 0 0).2.2):=rfl
  rw [h] at q
  exact q)).1
 have aa:=QC rest 0 0
 omega
theorem akK (h:I) (a:Int):kI Tryz.prog 24 1 [(0,.int .i64 a)] h=some (.bc h.n 0 1 1,h.push (.cells [.int .i64 a] 3 none)):=by rw [qA uA];rfl
theorem Xh {P:Nat→Prop} {l:List Nat} (h:∀ b ∈ l,P b) (k:Nat):∀ b ∈ l.drop k,P b:=fun b ak=>h b (List.mem_of_mem_drop ak)
theorem akL (x r:List Nat) (ag:x.length<2 ^ 64):hn (x4 x++r)=(x,r,0):=by
 unfold hn x4
 rw [List.append_assoc,x3 _ ag]
 simp
theorem Xi (r:List Nat):∀ (l acc:List Int),(∀ n ∈ l,-2147483648≤n∧n≤2147483647)→p0 l.length ((l.flatMap fun n=>enc (jM n))++r) acc=(acc++l,r,0)
 | [],acc,_=>by simp [p0]
 | n::l,acc,h=>by
  have h1:=h n (by simp)
  have bK:jM n<2 ^ 64:=by unfold jM;split<;>omega
  rw [List.length_cons,p0,List.flatMap_cons,List.append_assoc,x3 _ bK]
  simp only [QF]
  rw [if_neg (by simp),if_neg (by omega),List.drop_left,Xi r l (acc++[n]) fun m hm=>h m (by simp [hm])]
  simp
end Go.Proofs.YtedkjhifbibpmaaGreatDoor.Pk
