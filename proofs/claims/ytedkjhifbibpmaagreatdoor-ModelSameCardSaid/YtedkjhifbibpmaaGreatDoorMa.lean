/-
  What functions of the program do, told of abstract states. Conditions: as each theorem says.
-/
import Derived.Test.YtedkjhifbibpmaaGreatDoorAbD
import Derived.Test.YtedkjhifbibpmaaGreatDoorProg
set_option linter.unusedVariables false
set_option linter.unusedSimpArgs false
set_option maxHeartbeats 2000000
set_option maxRecDepth 10000
namespace Go.Proofs.YtedkjhifbibpmaaGreatDoor.Pk
open Go Go.Proofs Go.Proofs.YtedkjhifbibpmaaGreatDoor.Ab
theorem CM:vD Tryz.prog 24=none:=by kernel_rfl
theorem EJ:vD Tryz.prog 283=some (17,1):=by kernel_rfl
theorem acu:vD Tryz.prog 339=some (11,4):=by kernel_rfl
theorem SF:vD Tryz.prog 35=none:=by kernel_rfl
theorem Sn:Rp Tryz.prog 4=true:=by kernel_rfl
theorem acv:bK Tryz.prog 103=true:=by kernel_rfl
theorem My:bK Tryz.prog 104=true:=by kernel_rfl
theorem Mz:bK Tryz.prog 105=true:=by kernel_rfl
theorem acw:bK Tryz.prog 106=true:=by kernel_rfl
theorem acx:bK Tryz.prog 107=true:=by kernel_rfl
theorem acy:bK Tryz.prog 108=true:=by kernel_rfl
theorem SG:bK Tryz.prog 109=true:=by kernel_rfl
theorem v6:bK Tryz.prog 110=true:=by kernel_rfl
theorem SH:bK Tryz.prog 111=true:=by kernel_rfl
theorem acz:bK Tryz.prog 112=true:=by kernel_rfl
theorem acA:bK Tryz.prog 113=true:=by kernel_rfl
theorem acB:bK Tryz.prog 114=true:=by kernel_rfl
theorem zV:bK Tryz.prog 115=true:=by kernel_rfl
theorem SI:bK Tryz.prog 116=true:=by kernel_rfl
theorem acC:bK Tryz.prog 117=true:=by kernel_rfl
theorem MA:bK Tryz.prog 118=true:=by kernel_rfl
theorem SJ:bK Tryz.prog 119=true:=by kernel_rfl
theorem MB:bK Tryz.prog 120=true:=by kernel_rfl
theorem SK:bK Tryz.prog 121=true:=by kernel_rfl
theorem EK:bK Tryz.prog 122=true:=by kernel_rfl
theorem MC:bK Tryz.prog 123=true:=by kernel_rfl
theorem Ia:bK Tryz.prog 124=true:=by kernel_rfl
theorem acD:bK Tryz.prog 125=true:=by kernel_rfl
theorem SL:bK Tryz.prog 126=true:=by kernel_rfl
theorem acE:bK Tryz.prog 127=true:=by kernel_rfl
theorem acF:bK Tryz.prog 128=true:=by kernel_rfl
theorem acG:bK Tryz.prog 129=true:=by kernel_rfl
theorem acH:bK Tryz.prog 130=true:=by kernel_rfl
theorem acI:bK Tryz.prog 131=true:=by kernel_rfl
theorem acJ:bK Tryz.prog 132=true:=by kernel_rfl
theorem acK:bK Tryz.prog 133=true:=by kernel_rfl
theorem acL:bK Tryz.prog 134=true:=by kernel_rfl
theorem acM:bK Tryz.prog 135=true:=by kernel_rfl
theorem Ib:bK Tryz.prog 137=true:=by kernel_rfl
theorem SM:bK Tryz.prog 156=true:=by kernel_rfl
theorem CN:bK Tryz.prog 157=true:=by kernel_rfl
theorem Ic:bK Tryz.prog 158=true:=by kernel_rfl
theorem MD:bK Tryz.prog 159=true:=by kernel_rfl
theorem Ie:bK Tryz.prog 160=true:=by kernel_rfl
theorem BG:bK Tryz.prog 161=true:=by kernel_rfl
theorem acN:bK Tryz.prog 162=true:=by kernel_rfl
theorem Zf:bK Tryz.prog 163=true:=by kernel_rfl
theorem ME:bK Tryz.prog 166=true:=by kernel_rfl
theorem acO:bK Tryz.prog 167=true:=by kernel_rfl
theorem MF:bK Tryz.prog 168=true:=by kernel_rfl
theorem zW:bK Tryz.prog 169=true:=by kernel_rfl
theorem SN:bK Tryz.prog 17=true:=by kernel_rfl
theorem Zg:bK Tryz.prog 171=true:=by kernel_rfl
theorem acP:bK Tryz.prog 172=true:=by kernel_rfl
theorem Qz:bK Tryz.prog 173=true:=by kernel_rfl
theorem Zh:bK Tryz.prog 174=true:=by kernel_rfl
theorem Ig:bK Tryz.prog 175=true:=by kernel_rfl
theorem SO:bK Tryz.prog 176=true:=by kernel_rfl
theorem SP:bK Tryz.prog 177=true:=by kernel_rfl
theorem acQ:bK Tryz.prog 178=true:=by kernel_rfl
theorem EL:bK Tryz.prog 179=true:=by kernel_rfl
theorem SQ:bK Tryz.prog 18=true:=by kernel_rfl
theorem SR:bK Tryz.prog 180=true:=by kernel_rfl
theorem MG:bK Tryz.prog 181=true:=by kernel_rfl
theorem acR:bK Tryz.prog 182=true:=by kernel_rfl
theorem acS:bK Tryz.prog 183=true:=by kernel_rfl
theorem acT:bK Tryz.prog 184=true:=by kernel_rfl
theorem EM:bK Tryz.prog 185=true:=by kernel_rfl
theorem SS:bK Tryz.prog 186=true:=by kernel_rfl
theorem MH:bK Tryz.prog 187=true:=by kernel_rfl
theorem acU:bK Tryz.prog 188=true:=by kernel_rfl
theorem acV:bK Tryz.prog 19=true:=by kernel_rfl
theorem acW:bK Tryz.prog 190=true:=by kernel_rfl
theorem acX:bK Tryz.prog 191=true:=by kernel_rfl
theorem acY:bK Tryz.prog 198=true:=by kernel_rfl
theorem SU:bK Tryz.prog 199=true:=by kernel_rfl
theorem asZ:bK Tryz.prog 20=true:=by kernel_rfl
theorem acZ:bK Tryz.prog 200=true:=by kernel_rfl
theorem ac0:bK Tryz.prog 201=true:=by kernel_rfl
theorem SV:bK Tryz.prog 202=true:=by kernel_rfl
theorem SX:bK Tryz.prog 204=true:=by kernel_rfl
theorem SY:bK Tryz.prog 205=true:=by kernel_rfl
theorem ac1:bK Tryz.prog 206=true:=by kernel_rfl
theorem ac2:bK Tryz.prog 207=true:=by kernel_rfl
theorem alQ:bK Tryz.prog 21=true:=by kernel_rfl
theorem Ih:bK Tryz.prog 210=true:=by kernel_rfl
theorem ac3:bK Tryz.prog 211=true:=by kernel_rfl
theorem ac4:bK Tryz.prog 212=true:=by kernel_rfl
theorem ac5:bK Tryz.prog 214=true:=by kernel_rfl
theorem ac6:bK Tryz.prog 215=true:=by kernel_rfl
theorem ac7:bK Tryz.prog 22=true:=by kernel_rfl
theorem ac8:bK Tryz.prog 226=true:=by kernel_rfl
theorem Qk:bK Tryz.prog 24=true:=by kernel_rfl
theorem ac9:bK Tryz.prog 243=true:=by kernel_rfl
theorem R4:bK Tryz.prog 25=true:=by kernel_rfl
theorem SZ:bK Tryz.prog 251=true:=by kernel_rfl
theorem ada:bK Tryz.prog 257=true:=by kernel_rfl
theorem CE:bK Tryz.prog 26=true:=by kernel_rfl
theorem xO:bK Tryz.prog 27=true:=by kernel_rfl
theorem S0:bK Tryz.prog 274=true:=by kernel_rfl
theorem acb:bK Tryz.prog 28=true:=by kernel_rfl
theorem Za:bK Tryz.prog 29=true:=by kernel_rfl
theorem adb:bK Tryz.prog 298=true:=by kernel_rfl
theorem ade:bK Tryz.prog 299=true:=by kernel_rfl
theorem NE:bK Tryz.prog 30=true:=by kernel_rfl
theorem S1:bK Tryz.prog 303=true:=by kernel_rfl
theorem akT:bK Tryz.prog 31=true:=by kernel_rfl
theorem Qp:bK Tryz.prog 32=true:=by kernel_rfl
theorem adf:bK Tryz.prog 33=true:=by kernel_rfl
theorem as0:bK Tryz.prog 44=true:=by kernel_rfl
theorem MI:bK Tryz.prog 53=true:=by kernel_rfl
theorem S2:bK Tryz.prog 54=true:=by kernel_rfl
theorem S3:bK Tryz.prog 55=true:=by kernel_rfl
theorem yv:bK Tryz.prog 56=true:=by kernel_rfl
theorem adg:bK Tryz.prog 57=true:=by kernel_rfl
theorem S4:bK Tryz.prog 58=true:=by kernel_rfl
theorem tz:bK Tryz.prog 59=true:=by kernel_rfl
theorem adh:bK Tryz.prog 61=true:=by kernel_rfl
theorem adi:bK Tryz.prog 62=true:=by kernel_rfl
theorem adj:bK Tryz.prog 63=true:=by kernel_rfl
theorem S5:bK Tryz.prog 64=true:=by kernel_rfl
theorem adk:bK Tryz.prog 65=true:=by kernel_rfl
theorem adl:bK Tryz.prog 66=true:=by kernel_rfl
theorem S6:bK Tryz.prog 67=true:=by kernel_rfl
theorem Kr:bK Tryz.prog 68=true:=by kernel_rfl
theorem S7:bK Tryz.prog 69=true:=by kernel_rfl
theorem adm:bK Tryz.prog 70=true:=by kernel_rfl
theorem Ks:bK Tryz.prog 71=true:=by kernel_rfl
theorem Zi:bK Tryz.prog 72=true:=by kernel_rfl
theorem zX:bK Tryz.prog 73=true:=by kernel_rfl
theorem CO:bK Tryz.prog 74=true:=by kernel_rfl
theorem Zj:bK Tryz.prog 75=true:=by kernel_rfl
theorem zY:bK Tryz.prog 76=true:=by kernel_rfl
theorem as1:bK Tryz.prog 77=true:=by kernel_rfl
theorem Zk:bK Tryz.prog 78=true:=by kernel_rfl
theorem as2:bK Tryz.prog 79=true:=by kernel_rfl
theorem as3:bK Tryz.prog 80=true:=by kernel_rfl
theorem as4:bK Tryz.prog 81=true:=by kernel_rfl
theorem adn:bK Tryz.prog 82=true:=by kernel_rfl
theorem acj:bK Tryz.prog 83=true:=by kernel_rfl
theorem Ii:Qg Tryz.prog 328=some .f64:=by kernel_rfl
theorem ado:ee Tryz.prog 124 0=some 0:=by kernel_rfl
theorem S8:ee Tryz.prog 124 1=some 3:=by kernel_rfl
theorem zm:ee Tryz.prog 124 2=some 4:=by kernel_rfl
theorem CP:ee Tryz.prog 146 0=some 0:=by kernel_rfl
theorem ul:ee Tryz.prog 146 1=some 2:=by kernel_rfl
theorem MJ:ee Tryz.prog 146 2=some 3:=by kernel_rfl
theorem xQ:ee Tryz.prog 146 3=some 4:=by kernel_rfl
theorem yw:ee Tryz.prog 146 4=some 5:=by kernel_rfl
theorem zZ:ee Tryz.prog 149 0=some 0:=by kernel_rfl
theorem yx:ee Tryz.prog 149 1=some 1:=by kernel_rfl
theorem S9:ee Tryz.prog 149 2=some 5:=by kernel_rfl
theorem pp:ee Tryz.prog 206 0=some 0:=by kernel_rfl
theorem Ta:ee Tryz.prog 206 1=some 1:=by kernel_rfl
theorem uD:ee Tryz.prog 231 0=some 0:=by kernel_rfl
theorem Tb:ee Tryz.prog 269 0=some 0:=by kernel_rfl
theorem sb:ee Tryz.prog 269 1=some 1:=by kernel_rfl
theorem Tc:ee Tryz.prog 272 0=some 0:=by kernel_rfl
theorem z1:ee Tryz.prog 272 1=some 1:=by kernel_rfl
theorem vh:ee Tryz.prog 272 2=some 2:=by kernel_rfl
theorem MK:ee Tryz.prog 275 0=some 0:=by kernel_rfl
theorem z6:ee Tryz.prog 275 1=some 1:=by kernel_rfl
theorem tg:ee Tryz.prog 275 2=some 2:=by kernel_rfl
theorem EN:ee Tryz.prog 278 0=some 0:=by kernel_rfl
theorem lT:ee Tryz.prog 27 0=some 0:=by kernel_rfl
theorem CQ:ee Tryz.prog 27 1=some 1:=by kernel_rfl
theorem nE:ee Tryz.prog 27 2=some 2:=by kernel_rfl
theorem Td:ee Tryz.prog 286 0=some 0:=by kernel_rfl
theorem Ij:ee Tryz.prog 286 1=some 1:=by kernel_rfl
theorem z7:ee Tryz.prog 292 0=some 0:=by kernel_rfl
theorem Te:ee Tryz.prog 292 1=some 1:=by kernel_rfl
theorem adp:ee Tryz.prog 292 2=some 2:=by kernel_rfl
theorem Ik:ee Tryz.prog 297 0=some 0:=by kernel_rfl
theorem Tf:ee Tryz.prog 297 1=some 1:=by kernel_rfl
theorem fL:ee Tryz.prog 29 0=some 0:=by kernel_rfl
theorem oU:ee Tryz.prog 29 1=some 1:=by kernel_rfl
theorem nF:ee Tryz.prog 29 2=some 2:=by kernel_rfl
theorem vM:ee Tryz.prog 29 3=some 5:=by kernel_rfl
theorem Tg:ee Tryz.prog 338 0=some 0:=by kernel_rfl
theorem adq:ee Tryz.prog 338 1=some 1:=by kernel_rfl
theorem Th:ee Tryz.prog 338 2=some 2:=by kernel_rfl
theorem adr:ee Tryz.prog 338 3=some 3:=by kernel_rfl
theorem tA:ee Tryz.prog 38 0=some 0:=by kernel_rfl
theorem EO:ee Tryz.prog 38 1=some 1:=by kernel_rfl
theorem qQ:ee Tryz.prog 38 2=some 2:=by kernel_rfl
theorem CR:ee Tryz.prog 40 0=some 0:=by kernel_rfl
theorem mw:ee Tryz.prog 40 1=some 1:=by kernel_rfl
theorem rB:ee Tryz.prog 40 2=some 2:=by kernel_rfl
theorem xb:ee Tryz.prog 40 3=some 3:=by kernel_rfl
theorem vN:ee Tryz.prog 40 4=some 4:=by kernel_rfl
theorem jH:ee Tryz.prog 56 0=some 0:=by kernel_rfl
theorem CS:ee Tryz.prog 56 1=some 1:=by kernel_rfl
theorem Kd:ee Tryz.prog 59 0=some 0:=by kernel_rfl
theorem Mq:ee Tryz.prog 59 1=some 1:=by kernel_rfl
theorem yp:ee Tryz.prog 67 0=some 0:=by kernel_rfl
theorem Kl:ee Tryz.prog 67 1=some 1:=by kernel_rfl
theorem H3:ee Tryz.prog 67 2=some 2:=by kernel_rfl
theorem DH:ee Tryz.prog 67 3=some 3:=by kernel_rfl
theorem Sp:ee Tryz.prog 79 0=some 0:=by kernel_rfl
theorem Ze:ee Tryz.prog 79 1=some 1:=by kernel_rfl
theorem asg:ee Tryz.prog 81 0=some 0:=by kernel_rfl
theorem ab7:ee Tryz.prog 81 2=some 4:=by kernel_rfl
theorem ads:DB Tryz.prog 194=some false:=by kernel_rfl
theorem adt:DB Tryz.prog 197=some false:=by kernel_rfl
theorem adu:DB Tryz.prog 200=some false:=by kernel_rfl
theorem adv:DB Tryz.prog 32=some false:=by kernel_rfl
theorem sx:nx Tryz.prog 2=some .i64:=by kernel_rfl
theorem ln:nx Tryz.prog 221=some .u64:=by kernel_rfl
theorem fb:nx Tryz.prog 3=some .i64:=by kernel_rfl
theorem EP:nx Tryz.prog 312=some .u64:=by kernel_rfl
theorem hD:nx Tryz.prog 5=some .u8:=by kernel_rfl
theorem io:eF Tryz.prog 140=some 0:=by kernel_rfl
theorem Kt:eF Tryz.prog 194=some 0:=by kernel_rfl
theorem adw:eF Tryz.prog 197=some 0:=by kernel_rfl
theorem BH:eF Tryz.prog 200=some 0:=by kernel_rfl
theorem adx:eF Tryz.prog 203=some 0:=by kernel_rfl
theorem ady:eF Tryz.prog 229=some 2:=by kernel_rfl
theorem mh:eF Tryz.prog 24=some 1:=by kernel_rfl
theorem tw:eF Tryz.prog 25=some 1:=by kernel_rfl
theorem d8:eF Tryz.prog 267=some 1:=by kernel_rfl
theorem Ti:eF Tryz.prog 270=some 2:=by kernel_rfl
theorem px:eF Tryz.prog 273=some 1:=by kernel_rfl
theorem ML:eF Tryz.prog 31=some 0:=by kernel_rfl
theorem pv:eF Tryz.prog 35=some 1:=by kernel_rfl
theorem Qt:eF Tryz.prog 49=some 1:=by kernel_rfl
theorem d9:eF Tryz.prog 54=some 1:=by kernel_rfl
theorem Mp:eF Tryz.prog 57=some 1:=by kernel_rfl
theorem zQ:eF Tryz.prog 61=some 0:=by kernel_rfl
theorem ls:eF Tryz.prog 64=some 1:=by kernel_rfl
theorem CG:eF Tryz.prog 65=some 1:=by kernel_rfl
theorem ab4:eF Tryz.prog 75=some 1:=by kernel_rfl
theorem py:eF Tryz.prog 87=some 1:=by kernel_rfl
theorem zn:loadT Tryz.prog 118=some none:=by kernel_rfl
theorem xR:loadT Tryz.prog 140=some none:=by kernel_rfl
theorem yy:loadT Tryz.prog 144=some none:=by kernel_rfl
theorem Tj:loadT Tryz.prog 147=some none:=by kernel_rfl
theorem aci:loadT Tryz.prog 159=some none:=by kernel_rfl
theorem ER:loadT Tryz.prog 194=some none:=by kernel_rfl
theorem br:loadT Tryz.prog 2=some none:=by kernel_rfl
theorem MM:loadT Tryz.prog 203=some none:=by kernel_rfl
theorem uE:loadT Tryz.prog 229=some none:=by kernel_rfl
theorem lb:loadT Tryz.prog 24=some none:=by kernel_rfl
theorem oV:loadT Tryz.prog 25=some none:=by kernel_rfl
theorem tT:loadT Tryz.prog 267=some none:=by kernel_rfl
theorem eG:loadT Tryz.prog 27=some (some 3):=by kernel_rfl
theorem vi:loadT Tryz.prog 270=some none:=by kernel_rfl
theorem wE:loadT Tryz.prog 273=some none:=by kernel_rfl
theorem zo:loadT Tryz.prog 286=some (some 2):=by kernel_rfl
theorem mi:loadT Tryz.prog 29=some (some 6):=by kernel_rfl
theorem Tk:loadT Tryz.prog 290=some none:=by kernel_rfl
theorem ia:loadT Tryz.prog 292=some (some 3):=by kernel_rfl
theorem Ku:loadT Tryz.prog 297=some (some 2):=by kernel_rfl
theorem a7:loadT Tryz.prog 3=some none:=by kernel_rfl
theorem H7:loadT Tryz.prog 32=some none:=by kernel_rfl
theorem adz:loadT Tryz.prog 338=some (some 4):=by kernel_rfl
theorem Il:loadT Tryz.prog 341=some (some 2):=by kernel_rfl
theorem H4:loadT Tryz.prog 35=some none:=by kernel_rfl
theorem dj:loadT Tryz.prog 38=some (some 3):=by kernel_rfl
theorem nc:loadT Tryz.prog 4=some none:=by kernel_rfl
theorem j0:loadT Tryz.prog 40=some (some 5):=by kernel_rfl
theorem acg:loadT Tryz.prog 49=some none:=by kernel_rfl
theorem pz:loadT Tryz.prog 5=some none:=by kernel_rfl
theorem ji:loadT Tryz.prog 54=some none:=by kernel_rfl
theorem kp:loadT Tryz.prog 56=some (some 2):=by kernel_rfl
theorem vO:loadT Tryz.prog 61=some none:=by kernel_rfl
theorem yq:loadT Tryz.prog 64=some none:=by kernel_rfl
theorem DI:loadT Tryz.prog 65=some none:=by kernel_rfl
theorem yn:loadT Tryz.prog 67=some (some 4):=by kernel_rfl
theorem adA:loadT Tryz.prog 79=some (some 4):=by kernel_rfl
theorem as5:loadT Tryz.prog 81=some (some 5):=by kernel_rfl
theorem ES:loadT Tryz.prog 87=some none:=by kernel_rfl
theorem DO:gR Tryz.prog 144=some (3,31,.int .i64):=by kernel_rfl
theorem Im:gR Tryz.prog 226=some (3,3,.int .i64):=by kernel_rfl
theorem CT:gR Tryz.prog 229=some (3,2,.int .i64):=by kernel_rfl
theorem adB:bK Tryz.prog 208=false:=by kernel_rfl
theorem adC:bK Tryz.prog 255=false:=by kernel_rfl
theorem adD:fI Tryz.prog 124=some (.inl [(0,3),(3,1),(4,1)]):=by kernel_rfl
theorem adE:fI Tryz.prog 146=some (.inl [(0,2),(2,1),(3,1),(4,1),(5,1)]):=by kernel_rfl
theorem adF:fI Tryz.prog 149=some (.inl [(0,1),(1,4),(5,1)]):=by kernel_rfl
theorem adG:fI Tryz.prog 206=some (.inl [(0,1),(1,1)]):=by kernel_rfl
theorem adH:fI Tryz.prog 231=some (.inl [(0,1)]):=by kernel_rfl
theorem adI:fI Tryz.prog 269=some (.inl [(0,1),(1,1)]):=by kernel_rfl
theorem tB:fI Tryz.prog 27=some (.inl [(0,1),(1,1),(2,1)]):=by kernel_rfl
theorem adJ:fI Tryz.prog 272=some (.inl [(0,1),(1,1),(2,1)]):=by kernel_rfl
theorem adK:fI Tryz.prog 275=some (.inl [(0,1),(1,1),(2,1)]):=by kernel_rfl
theorem Tl:fI Tryz.prog 278=some (.inl [(0,1)]):=by kernel_rfl
theorem Io:fI Tryz.prog 286=some (.inl [(0,1),(1,1)]):=by kernel_rfl
theorem xa:fI Tryz.prog 29=some (.inl [(0,1),(1,1),(2,3),(5,1)]):=by kernel_rfl
theorem adL:fI Tryz.prog 292=some (.inl [(0,1),(1,1),(2,1)]):=by kernel_rfl
theorem adM:fI Tryz.prog 297=some (.inl [(0,1),(1,1)]):=by kernel_rfl
theorem Ip:fI Tryz.prog 341=some (.inl [(0,1),(1,1)]):=by kernel_rfl
theorem CU:fI Tryz.prog 38=some (.inl [(0,1),(1,1),(2,1)]):=by kernel_rfl
theorem tU:fI Tryz.prog 40=some (.inl [(0,1),(1,1),(2,1),(3,1),(4,1)]):=by kernel_rfl
theorem wD:fI Tryz.prog 56=some (.inl [(0,1),(1,1)]):=by kernel_rfl
theorem Zl:fI Tryz.prog 67=some (.inl [(0,1),(1,1),(2,1),(3,1)]):=by kernel_rfl
theorem adN:fI Tryz.prog 79=some (.inl [(0,1),(1,3)]):=by kernel_rfl
theorem adO:fI Tryz.prog 81=some (.inl [(0,1),(1,3),(4,1)]):=by kernel_rfl
theorem adP:Qj Tryz.prog 79=some [([0],false),([0,0,0],true)]:=by kernel_rfl
theorem as6:Qj Tryz.prog 81=some [([0],false),([0,0,0],true),([0],false)]:=by kernel_rfl
theorem adQ:Es Tryz.prog 38=some [0,0,0]:=by kernel_rfl
theorem as7:Es Tryz.prog 40=some [0,0,0,0,1]:=by kernel_rfl
theorem tc:jq Tryz.prog 24=some ⟨3,[.int .i64 0],1,8⟩:=by kernel_rfl
theorem MN:jq Tryz.prog 25=some ⟨27,[.int .i64 0,.int .i64 0,.ah],3,40⟩:=by kernel_rfl
theorem uF:jq Tryz.prog 267=some ⟨297,[.int .i64 0,.int .i64 0],2,16⟩:=by kernel_rfl
theorem tC:jq Tryz.prog 273=some ⟨292,[.int .i64 0,.complex .f64 0 0,.int .i64 0],3,32⟩:=by kernel_rfl
theorem xS:jq Tryz.prog 35=some ⟨40,[.int .i64 0,.int .i64 0,.int .i64 0,.int .i64 0,.bool false],5,40⟩:=by kernel_rfl
theorem Qs:jq Tryz.prog 49=some ⟨38,[.int .i64 0,.int .i64 0,.int .i64 0],3,24⟩:=by kernel_rfl
theorem EG:jq Tryz.prog 54=some ⟨29,[.int .i64 0,.ah,.int .i64 0,.int .i64 0,.ah,.int .i64 0],6,80⟩:=by kernel_rfl
theorem Tm:jq Tryz.prog 64=some ⟨79,[.int .i64 0,.int .i64 0,.int .i64 0,.int .i64 0],4,32⟩:=by kernel_rfl
theorem Tn:jq Tryz.prog 65=some ⟨81,[.int .i64 0,.int .i64 0,.int .i64 0,.int .i64 0,.int .i64 0],5,40⟩:=by kernel_rfl
theorem alR:jq Tryz.prog 75=some ⟨67,[.ah,.ah,.ah,.ah],4,96⟩:=by kernel_rfl
theorem ET:jq Tryz.prog 87=some ⟨5,[.int .u8 0],1,1⟩:=by kernel_rfl
theorem kr:e5 Tryz.prog 24=some 1:=by kernel_rfl
theorem FS:e5 Tryz.prog 25=some 3:=by kernel_rfl
theorem d6:e5 Tryz.prog 267=some 2:=by kernel_rfl
theorem qR:e5 Tryz.prog 273=some 3:=by kernel_rfl
theorem EU:e5 Tryz.prog 283=none:=by kernel_rfl
theorem adR:e5 Tryz.prog 339=none:=by kernel_rfl
theorem EE:e5 Tryz.prog 35=some 5:=by kernel_rfl
theorem Sv:e5 Tryz.prog 49=some 3:=by kernel_rfl
theorem w8:e5 Tryz.prog 54=some 6:=by kernel_rfl
theorem as8:e5 Tryz.prog 57=some 10:=by kernel_rfl
theorem H5:e5 Tryz.prog 64=some 4:=by kernel_rfl
theorem Y5:e5 Tryz.prog 65=some 5:=by kernel_rfl
theorem akA:e5 Tryz.prog 75=some 4:=by kernel_rfl
theorem Iq:e5 Tryz.prog 87=some 1:=by kernel_rfl
theorem z8:qH Tryz.prog 2=some (.int .i64 0):=by kernel_rfl
theorem Hc:qH Tryz.prog 31=some (.pointer none):=by kernel_rfl
theorem adS:iA Tryz.prog 124=some [.int .i64 0,.int .i64 0,.ah,.int .i64 0,.nilIface]:=by kernel_rfl
theorem adT:iA Tryz.prog 146=some [.ah,.int .i64 0,.ah,.int .i64 0,.cZ,.oQ]:=by kernel_rfl
theorem adU:iA Tryz.prog 149=some [.cZ,.ah,.ah,.ah,.ah,.int .i64 0]:=by kernel_rfl
theorem ak8:iA Tryz.prog 159=some [.nilFunc]:=by kernel_rfl
theorem MO:iA Tryz.prog 2=some [.int .i64 0]:=by kernel_rfl
theorem adV:iA Tryz.prog 206=some [.cZ,.int .i64 0]:=by kernel_rfl
theorem adW:iA Tryz.prog 231=some [.oQ]:=by kernel_rfl
theorem Zc:iA Tryz.prog 24=some [.ah]:=by kernel_rfl
theorem adX:iA Tryz.prog 269=some [.int .i64 0,.ah]:=by kernel_rfl
theorem my:iA Tryz.prog 27=some [.int .i64 0,.int .i64 0,.ah]:=by kernel_rfl
theorem adY:iA Tryz.prog 272=some [.int .i64 0,.int .i64 0,.oQ]:=by kernel_rfl
theorem adZ:iA Tryz.prog 275=some [.int .i64 0,.int .i64 0,.ah]:=by kernel_rfl
theorem To:iA Tryz.prog 278=some [.ah]:=by kernel_rfl
theorem DP:iA Tryz.prog 286=some [.int .i64 0,.int .i64 0]:=by kernel_rfl
theorem nb:iA Tryz.prog 29=some [.int .i64 0,.ah,.int .i64 0,.int .i64 0,.ah,.int .i64 0]:=by kernel_rfl
theorem BI:iA Tryz.prog 292=some [.int .i64 0,.complex .f64 0 0,.int .i64 0]:=by kernel_rfl
theorem Zm:iA Tryz.prog 297=some [.int .i64 0,.int .i64 0]:=by kernel_rfl
theorem ad0:iA Tryz.prog 32=some [.int .i64 0]:=by kernel_rfl
theorem Ir:iA Tryz.prog 341=some [.int .i64 0,.int .i64 0]:=by kernel_rfl
theorem tS:iA Tryz.prog 38=some [.int .i64 0,.int .i64 0,.int .i64 0]:=by kernel_rfl
theorem ks:iA Tryz.prog 40=some [.int .i64 0,.int .i64 0,.int .i64 0,.int .i64 0,.bool false]:=by kernel_rfl
theorem ak9:iA Tryz.prog 49=some [.ah]:=by kernel_rfl
theorem r9:iA Tryz.prog 56=some [.ah,.int .i64 0]:=by kernel_rfl
theorem tR:iA Tryz.prog 67=some [.ah,.ah,.ah,.ah]:=by kernel_rfl
theorem ad1:iA Tryz.prog 79=some [.int .i64 0,.int .i64 0,.int .i64 0,.int .i64 0]:=by kernel_rfl
theorem ad2:iA Tryz.prog 81=some [.int .i64 0,.int .i64 0,.int .i64 0,.int .i64 0,.int .i64 0]:=by kernel_rfl
theorem ala:dQ Tryz.prog 159=some 1:=by kernel_rfl
theorem pA:dQ Tryz.prog 2=some 1:=by kernel_rfl
theorem ad3:dQ Tryz.prog 206=some 2:=by kernel_rfl
theorem Qu:dQ Tryz.prog 24=some 1:=by kernel_rfl
theorem Tp:dQ Tryz.prog 25=some 1:=by kernel_rfl
theorem Tq:dQ Tryz.prog 267=some 1:=by kernel_rfl
theorem lp:dQ Tryz.prog 27=some 3:=by kernel_rfl
theorem MP:dQ Tryz.prog 273=some 1:=by kernel_rfl
theorem ad4:dQ Tryz.prog 278=some 1:=by kernel_rfl
theorem Hd:dQ Tryz.prog 286=some 2:=by kernel_rfl
theorem oc:dQ Tryz.prog 29=some 6:=by kernel_rfl
theorem zp:dQ Tryz.prog 292=some 3:=by kernel_rfl
theorem QA:dQ Tryz.prog 297=some 2:=by kernel_rfl
theorem uz:dQ Tryz.prog 3=some 1:=by kernel_rfl
theorem MQ:dQ Tryz.prog 32=some 1:=by kernel_rfl
theorem Is:dQ Tryz.prog 341=some 2:=by kernel_rfl
theorem ad5:dQ Tryz.prog 35=some 1:=by kernel_rfl
theorem xP:dQ Tryz.prog 38=some 3:=by kernel_rfl
theorem mz:dQ Tryz.prog 40=some 5:=by kernel_rfl
theorem ak3:dQ Tryz.prog 49=some 1:=by kernel_rfl
theorem Qx:dQ Tryz.prog 54=some 1:=by kernel_rfl
theorem sa:dQ Tryz.prog 56=some 2:=by kernel_rfl
theorem ad6:dQ Tryz.prog 64=some 1:=by kernel_rfl
theorem ad7:dQ Tryz.prog 65=some 1:=by kernel_rfl
theorem ss:dQ Tryz.prog 67=some 4:=by kernel_rfl
theorem MR:dQ Tryz.prog 87=some 1:=by kernel_rfl
inductive bF where
 | mk (op n:Int) (ax:List bF)
def bF.op:bF→Int | .mk o _ _=>o
def bF.num:bF→Int | .mk _ n _=>n
def bF.ax:bF→List bF | .mk _ _ l=>l
mutual
def aq:bF→List V
 | .mk o n l=>[.int .i64 o,.int .i64 n,.ag l.length (pB l)]
def pB:List bF→List V
 | []=>[]
 | k::r=>aq k++pB r
end
theorem Tr:∀ l:List bF,pB l=l.flatMap aq
 | []=>by simp [pB]
 | k::r=>by rw [pB,Tr r];simp
theorem na (e:bF):(aq e).length=3:=by cases e;rfl
theorem EV (e:bF):(aq e).all (·.one)=true:=by cases e;rfl
theorem hT (o n:Int) (l:List bF):aq (.mk o n l)=[.int .i64 o,.int .i64 n,.ag l.length (l.flatMap aq)]:=by rw [aq,Tr]
mutual
theorem MS:(e:bF)→bl (aq e)
 | .mk o n l=>bl.cons (bh.int _ _) (bl.cons (bh.int _ _) (bl.cons (bh.ag (ut l)) bl.nil))
theorem ut:(l:List bF)→bl (pB l)
 | []=>by rw [pB];exact bl.nil
 | k::r=>by rw [pB];exact (MS k).append (ut r)
end
def cJ:List Int:=[0,0,0,0,0,0,2,2,2,2,2,2,2,3,1,2,2]
def eM:List V:=cJ.map (.int .i64)
def fc (h:J):Prop:=h.glob 1=some eM
def kj:bF→Bool
 | .mk o n l=>decide (1≤o∧o≤16)&&(decide ((l.length:Int)=cJ.getD o.toNat 0)&&(decide (n=0)||decide (o=1)))
theorem ad8 (e:bF) (h:J) (aB:fc h):Pure Tryz.prog 198 [.agg (aq e)] h (.bool (kj e)):=by
 refine Pure.val (bh.bool _) ?_
 obtain ⟨o,n,l⟩:=e
 refine ab.ao (c:=_) Tryz.func198 rfl (by kernel_rfl) (by simp) ?_
 have aF:(V.agg (aq (.mk o n l))).cells=some [.int .i64 o,.int .i64 n,.ag l.length (l.flatMap aq)]:=by rw [hT];rfl
 by_cases h1:o<1
 ·have bj:kj (.mk o n l)=false:=by simp [kj];omega
  simp only [aa,Nat.reduceEqDiff,Nat.reduceAdd,lT,a7,aF,h1,aI,Tryz.results198,ac]
  exact au ⟨by rw [bj],I.push _ _ _⟩
 by_cases ae:16<o
 ·have bj:kj (.mk o n l)=false:=by simp [kj];omega
  simp only [aa,Nat.reduceEqDiff,Nat.reduceAdd,lT,a7,aF,h1,ae,aI,Tryz.results198,ac]
  exact au ⟨by rw [bj],I.push _ _ _⟩
 simp only [aa,Nat.reduceEqDiff,Nat.reduceAdd,lT,a7,aF,h1,ae]
 refine aP.aY none_ [] (.q 0 (.q 1 (.q 2 (.q 3 (.q 4 (.q 5 (.q 6 (.q 7 (.q 8 (.q 9 (.q 10 (.q 11 (.q 12 (.q 13 (.q 14 (.q 15 (.q 16 (.q 17 (.q 18 .done))))))))))))))))))) (by kernel_rfl) (by kernel_rfl) (by kernel_rfl) ?_
 have uq:∀ (f:aE) (a:aV),aE.eval f (h.push a) (.global 1)=.at eM:=fun f a=>JN (by rw [DF];exact aB)
 obtain ⟨k,hk,ad9⟩:∃ k:Nat,o=(k:Int)∧k<17:=⟨o.toNat,by omega,by omega⟩
 subst hk
 have nG:∀ m,da (aV.cells [.int .i64 (k:Int),.int .i64 n,.ag l.length (l.flatMap aq)] 27 none) m=if m≤3 then some ([V.int .i64 (k:Int),.int .i64 n,.ag l.length (l.flatMap aq)].drop m) else none:=fun m=>rfl
 have fR:(if (0:Int)≤(k:Int)∧(k:Int)<((17:Nat):Int)∧((k:Int).toNat * 1)≤eM.length then some (V.at (eM.drop ((k:Int).toNat * 1))) else none)=some (.at (.int .i64 (cJ.getD k 0)::eM.drop (k+1))):=by
  rw [if_pos ⟨by omega,by omega,by simp [eM,cJ];omega⟩]
  have:eM.drop ((k:Int).toNat * 1)=.int .i64 (cJ.getD k 0)::eM.drop (k+1):=by
   rw [Int.toNat_natCast,Nat.mul_one,List.drop_eq_getElem_cons (by simp [eM,cJ];omega)]
   simp [eM,List.getD,List.getElem?_eq_getElem (show k<cJ.length by simp [cJ];omega)]
  rw [this]
 by_cases aA:((l.length:Nat):Int)=cJ.getD k 0
 ·have c3:(((l.length:Nat):Int)==cJ.getD k 0)=true:=by simpa using aA
  by_cases bk:n=0
  ·have dU:(n==0)=true:=by simpa using bk
   have bj:kj (.mk (k:Int) n l)=true:=by simp [kj,aA,bk];omega
   simp only [aa,bD,Nat.reduceEqDiff,Nat.reduceLeDiff,EJ,lT,CQ,nE,tw,br,oV,a7,EU,nG,uq,fR,c3,dU,aI,Tryz.results198,ac]
   exact au ⟨by rw [bj],I.push _ _ _⟩
  ·have dU:(n==0)=false:=by simpa using bk
   have bj:kj (.mk (k:Int) n l)=((k:Int)==1):=by rw [Bool.eq_iff_iff];simp [kj,aA,bk];omega
   simp only [aa,bD,Nat.reduceEqDiff,Nat.reduceLeDiff,EJ,lT,CQ,nE,tw,br,oV,a7,EU,nG,uq,fR,c3,dU,aI,Tryz.results198,ac]
   exact au ⟨by rw [bj],I.push _ _ _⟩
 ·have c3:(((l.length:Nat):Int)==cJ.getD k 0)=false:=by simpa using aA
  have bj:kj (.mk (k:Int) n l)=false:=by simp [kj] at aA⊢;omega
  simp only [aa,bD,Nat.reduceEqDiff,Nat.reduceLeDiff,EJ,lT,nE,tw,oV,a7,EU,nG,uq,fR,c3,aI,Tryz.results198,ac]
  exact au ⟨by rw [bj],I.push _ _ _⟩
def hV (f:Nat→bF→Option Nat) (room:Nat):Nat→List bF→Option Nat
 | m,[]=>some m
 | m,k::r=>match f (room - m) k with
  | some c=>hV f room (m+c) r
  | none=>none
def fM:Nat→Nat→bF→Option Nat
 | 0,_,_=>none
 | l+1,room,e=>if room=0∨kj e=false then none else hV (fM l) room 1 e.ax
theorem Ts {f:Nat→bF→Option Nat} {room:Nat} (aC:∀ q e c,f q e=some c→1≤c∧c≤q):∀ {m:Nat} {l:List bF} {c:Nat},1≤m→m≤room→hV f room m l=some c→1≤c∧c≤room
 | m,[],c,h1,ae,h=>by simp [hV] at h;omega
 | m,k::r,c,h1,ae,h=>by
  unfold hV at h
  split at h
  ·rename_i d bb
   have:=aC _ _ _ bb
   exact Ts aC (by omega) (by omega) h
  ·cases h
theorem Tt:∀ {l room:Nat} {e:bF} {c:Nat},fM l room e=some c→1≤c∧c≤room
 | 0,_,_,_,h=>by simp [fM] at h
 | l+1,room,e,c,h=>by
  unfold fM at h
  split at h
  ·cases h
  ·rename_i aU
   exact Ts (fun q e c=>Tt) (by omega) (by omega) h
def sy:Option Nat→V
 | some m=>.tuple [.int .i64 (m:Nat),.bool true]
 | none=>.tuple [.int .i64 0,.bool false]
theorem aea {o n:Int} {l:List bF} (h:kj (.mk o n l)=true):l.length≤3:=by
 simp only [kj,Bool.and_eq_true,Bool.or_eq_true,decide_eq_true_eq] at h
 obtain ⟨⟨h1,ae⟩,aA,_⟩:=h
 have:∀ k:Nat,cJ.getD k 0≤3:=fun k=>by
  by_cases hk:k<17
  ·revert hk;revert k;decide
  ·rw [List.getD,List.getElem?_eq_none (by simp [cJ];omega)];decide
 have:=this o.toNat
 omega
theorem DM {l:List bF} {k:Nat} (hk:k<l.length) {kk:IntKind}:ir Tryz.prog 25 (.ag l.length (l.flatMap aq)) (.int kk (k:Int))=some (.at (aq l[k]++(l.drop (k+1)).flatMap aq)):=oJ na hk FS
theorem Tu:∀ (l room:Nat) (e:bF) (h:J),fc h→l≤16→room≤64→Pure Tryz.prog 156 [.agg (aq e),.int .i64 (l:Nat),.int .i64 (room:Nat)] h (sy (fM l room e))
 | 0,room,e,h,aB,_,_=>by
  refine Pure.val (bh.tuple (bl.cons (bh.int _ _) (bl.cons (bh.bool _) bl.nil))) ?_
  refine ab.ao (c:=_) Tryz.func156 rfl (by kernel_rfl) (by simp) ?_
  have aF:(V.agg (aq e)).cells=some (aq e):=rfl
  have bd:(((0:Nat):Int)==0)=true:=rfl
  simp only [aa,Nat.reduceEqDiff,aF,bd,aI,Tryz.results156,cW]
  exact au ⟨rfl,I.push _ _ _⟩
 | l+1,room,e,h,aB,aM,aU=>by
  have sq:bh (sy (fM (l+1) room e)):=by
   cases fM (l+1) room e<;>exact bh.tuple (bl.cons (bh.int _ _) (bl.cons (bh.bool _) bl.nil))
  refine Pure.val sq ?_
  refine ab.ao (c:=_) Tryz.func156 rfl (by kernel_rfl) (by simp) ?_
  have aF:(V.agg (aq e)).cells=some (aq e):=rfl
  have bd:(((l+1:Nat):Int)==0)=false:=by simp only [beq_eq_false_iff_ne,ne_eq];omega
  by_cases h0:room=0
  ·have bH:(((room:Nat):Int)==0)=true:=by simp [h0]
   have bj:fM (l+1) room e=none:=by simp [fM,h0]
   simp only [aa,Nat.reduceEqDiff,aF,bd,bH,aI,Tryz.results156,cW]
   exact au ⟨by rw [bj];rfl,I.push _ _ _⟩
  have bH:(((room:Nat):Int)==0)=false:=by simp only [beq_eq_false_iff_ne,ne_eq];omega
  have nG:da (aV.cells (aq e) 27 none) 0=some (aq e):=by cases e;rfl
  have ig:cX (some (some 3)) (some (aq e))=some (.agg (aq e)):=by cases e;rfl
  have eO:∀ a,fc (h.push a):=fun a=>by unfold fc;rw [DF];exact aB
  simp only [aa,Nat.reduceEqDiff,eG,aF,bd,bH,nG,ig]
  refine bB acY (ad8 e _ (eO _)) ?_
  by_cases aC:kj e=false
  ·have bj:fM (l+1) room e=none:=by simp [fM,aC]
   simp only [aa,Nat.reduceEqDiff,aC,aI,Tryz.results156,cW]
   exact au ⟨by rw [bj];rfl,I.push _ _ _⟩
  have dp:kj e=true:=by simpa using aC
  obtain ⟨o,n,ax⟩:=e
  have vv:=aea dp
  have bj:fM (l+1) room (.mk o n ax)=hV (fM l) room 1 ax:=by simp [fM,h0,dp,bF.ax]
  have hS:da (aV.cells (aq (.mk o n ax)) 27 none) 2=some [.ag ax.length (ax.flatMap aq)]:=by rw [hT];rfl
  simp only [aa,Nat.reduceEqDiff,nE,tw,oV,dp,hS]
  refine aP.bG (α:=Nat×Nat) (fun x f h'=>f 1=.int .i64 ((l+1:Nat):Int)∧f 2=.int .i64 (room:Nat)∧f 25=.ag ax.length (ax.flatMap aq)∧f 26=.int .i64 ((ax.length:Nat):Int)∧f 27=.int .i64 (x.1:Nat)∧f 8=.int .i64 (x.2:Nat)∧x.1≤ax.length∧1≤x.2∧x.2≤room∧I h h' none_∧hV (fM l) room 1 ax=hV (fM l) room x.2 (ax.drop x.1))
   (fun x=>ax.length - x.1) (0,1) ⟨rfl,rfl,rfl,rfl,rfl,rfl,Nat.zero_le _,Nat.le_refl _,by omega,I.push _ _ _,rfl⟩ ?_
  rintro ⟨i,m⟩ f h' ⟨f1,f2,f25,f26,f27,f8,hi,A4,tK,hk,bC⟩
  simp only at f27 f8 hi A4 tK bC
  refine dw (by kernel_rfl) ?_
  by_cases aH:i<ax.length
  rotate_left
  ·have c3:decide ((i:Int)<((ax.length:Nat):Int))=false:=by simp only [decide_eq_false_iff_not];omega
   rw [List.drop_of_length_le (by omega)] at bC
   simp only [aa,Nat.reduceEqDiff,f26,f27,f8,c3,aI,Tryz.results156,cW]
   exact au ⟨by rw [bj,bC];rfl,hk⟩
  ·have c3:decide ((i:Int)<((ax.length:Nat):Int))=true:=by simp only [decide_eq_true_eq];omega
   rw [List.drop_eq_getElem_cons aH] at bC
   have eo:=DM (kk:=.i64) aH
   generalize ax[i]=A at *
   have ib:∀ (q:List V),cX (some (some 3)) (some (aq A++q))=some (.agg (aq A)):=fun q=>lC (na A)
   have b3:(V.agg (aq A)).cells=some (aq A):=rfl
   have cK:bM (some 3) (aV.cells [.int .i64 0,.int .i64 0,.ah] 27 none) 0 (aq A)=some (.cells (aq A) 27 none):=by
    rw [rl (n:=3) (na A) (EV A),if_pos (by decide)];cases A;rfl
   have EW:da (aV.cells (aq A) 27 none) 0=some (aq A):=by cases A;rfl
   have fN:cX (some (some 3)) (some (aq A))=some (.agg (aq A)):=by cases A;rfl
   have bg:IntKind.i64.wrap (((l+1:Nat):Int) - 1)=((l:Nat):Int):=by rw [Go.IntWalk.i64_in _ (by omega)];omega
   have c9:IntKind.i64.wrap (((room:Nat):Int) - ((m:Nat):Int))=((room - m:Nat):Int):=by rw [Go.IntWalk.i64_in _ (by omega)];omega
   have b0:IntKind.i64.wrap (((i:Nat):Int)+1)=((i+1:Nat):Int):=by rw [Go.IntWalk.i64_in _ (by omega)];omega
   have Tv:fc h':=by unfold fc;rw [hk.glob];exact aB
   have ih:=Tu l (room - m) A (h'.push (.cells (aq A) 27 none)) (by unfold fc;rw [DF];exact Tv) (by omega) (by omega)
   simp only [aa,Nat.reduceEqDiff,eG,my,lp,f1,f2,f25,f26,f27,f8,c3,eo,ib,b3,cK,EW,fN,bg,c9]
   refine bB SM ih ?_
   cases qq:fM l (room - m) A with
   | none=>
    have Tw:hV (fM l) room 1 ax=none:=by rw [bC];simp [hV,qq]
    simp only [aa,Nat.reduceEqDiff,sy,aI,Tryz.results156,cW]
    exact au ⟨by rw [bj,Tw];rfl,hk.a8 _⟩
   | some c=>
    have dk:=Tt qq
    have la:IntKind.i64.wrap (((m:Nat):Int)+((c:Nat):Int))=((m+c:Nat):Int):=by rw [Go.IntWalk.i64_in _ (by omega)];omega
    simp only [aa,Nat.reduceEqDiff,f27,f8,sy,b0,la]
    exact au ⟨(i+1,m+c),⟨f1,f2,f25,f26,rfl,rfl,by omega,by simp only;omega,by simp only;omega,hk.a8 _,by rw [bC];simp [hV,qq]⟩,by simp only;omega⟩
def cv (e:bF):Bool:=(fM 16 64 e).isSome
theorem Aa (e:bF) (h:J) (aB:fc h):Pure Tryz.prog 104 [.agg (aq e)] h (.bool (cv e)):=by
 refine Pure.val (bh.bool _) ?_
 refine ab.ao (c:=_) Tryz.func104 rfl (by kernel_rfl) (by simp) ?_
 have aF:(V.agg (aq e)).cells=some (aq e):=rfl
 have nG:da (aV.cells (aq e) 27 none) 0=some (aq e):=by cases e;rfl
 have ig:cX (some (some 3)) (some (aq e))=some (.agg (aq e)):=by cases e;rfl
 have eO:∀ a,fc (h.push a):=fun a=>by unfold fc;rw [DF];exact aB
 simp only [aa,Nat.reduceEqDiff,eG,aF,nG,ig]
 refine bB SM (Tu 16 64 e _ (eO _) (by omega) (by omega)) ?_
 cases qq:fM 16 64 e with
 | none=>
  simp only [aa,Nat.reduceEqDiff,sy,aI,Tryz.results104,ac]
  exact au ⟨by simp [cv,qq],I.push _ _ _⟩
 | some c=>
  simp only [aa,Nat.reduceEqDiff,sy,aI,Tryz.results104,ac]
  exact au ⟨by simp [cv,qq],I.push _ _ _⟩
def ns (P:Program) (f:FuncId) (args:List V) (h:J) (o:Option V):Prop:=di P f args h (fun r h'=>o=some r∧h'=h) (fun h'=>h'=h∧o=none)
theorem ns.pure {P:Program} {f:FuncId} {args:List V} {h:J} {v:V} (aF:ns P f args h (some v)):Pure P f args h v :=
 di.mono aF (fun r h' ⟨ar,aT⟩=>⟨(Option.some.inj ar).symm,aT⟩) fun h' ⟨_,e⟩=>by cases e
theorem Pure.e {P:Program} {f:FuncId} {args:List V} {h:J} {v:V} (aF:Pure P f args h v):ns P f args h (some v) :=
 di.mono aF (fun r h' ⟨ar,aT⟩=>⟨by rw [ar],aT⟩) fun h' e=>e.elim
theorem ns.of {P:Program} {f:FuncId} {args:List V} {h:J} (o:Option V) (aN:∀ v,o=some v→bh v) (aF:di P f args h (fun r h'=>o=some r∧I h h' none_) (fun h'=>I h h' none_∧o=none)):ns P f args h o:=by
 intro ρ B bg w args' hw a6
 refine (aF ρ B bg w args' hw a6).mono fun e w' U=>?_
 rcases U with ⟨ρ',r,dY,h',he,aU,cY,hle,ar,hk⟩ | ⟨ρ',nv,h',he,qh,cY,hle,hk,bC⟩
 ·exact .inl ⟨⟨ρ.ren,ρ'.frz,ρ.dfr⟩,r,dY,h,he,aN r ar _ _ _ aU fun _ _ h=>h,hw.forget cY hle hk,⟨fun _ _ h=>h,hle.frz,rfl⟩,ar,rfl⟩
 ·exact .inr ⟨⟨ρ.ren,ρ'.frz,ρ.dfr⟩,nv,h,he,qh,hw.forget cY hle hk,⟨fun _ _ h=>h,hle.frz,rfl⟩,rfl,bC⟩
def gV (o:Option Int):Option V:=o.map (.int .i64)
theorem aeb (o:Option Int):∀ v,gV o=some v→bh v:=fun v h=>by
 obtain ⟨n,_,rfl⟩:=Option.map_eq_some_iff.1 h
 exact bh.int _ _
theorem Tx (b:Bool) (h:J):Pure Tryz.prog 205 [.bool b] h (.int .i64 (if b then 1 else 0)):=by
 refine ab.ao (c:=_) Tryz.func205 rfl (by kernel_rfl) (by simp) ?_
 cases b <;>
 ·simp only [aa,Nat.reduceEqDiff,reduceCtorEq,aI,Tryz.results205,ac]
  exact au ⟨rfl,rfl⟩
theorem Ty (n:Int) (h:J):ns Tryz.prog 204 [.int .i64 n] h (if n=0 then none else some (.int .i64 n)):=by
 refine di.ao (c:=_) Tryz.func204 rfl (by kernel_rfl) (by simp) ?_
 by_cases h0:n=0
 ·have c:(n==0)=true:=by simp [h0]
  simp only [aa,Nat.reduceEqDiff,reduceCtorEq,adv,c,wk]
  exact au ⟨rfl,by rw [if_pos h0]⟩
 ·have c:(n==0)=false:=by simp [h0]
  simp only [aa,Nat.reduceEqDiff,reduceCtorEq,c,aI,Tryz.results204,ac]
  exact au ⟨by rw [if_neg h0],rfl⟩
def iU (n:Int):Int:=IntKind.i64.wrap n
def qS (op a b:Int):Option Int :=
 if op=6 then some (iU (a+b)) else if op=7 then some (iU (a - b)) else if op=8 then some (iU (a * b))
 else if op=9 then (if b=0 then none else some (iU (a.tdiv b))) else if op=10 then (if b=0 then none else some (a.tmod b))
 else if op=11 then some (if a<b then 1 else 0) else if op=12 then some (if a=b then 1 else 0) else if op=15 then some (min a b) else some (max a b)
theorem aec (op a b:Int) (h:J):ns Tryz.prog 167 [.int .i64 op,.int .i64 a,.int .i64 b] h (gV (qS op a b)):=by
 refine di.ao (c:=_) Tryz.func167 rfl (by kernel_rfl) (by simp) ?_
 by_cases dd:op=6
 ·have c:(op==6)=true:=by simp [dd]
  simp only [aa,Nat.reduceEqDiff,reduceCtorEq,c,aI,Tryz.results167,ac]
  exact au ⟨by simp [qS,dd,gV,iU],rfl⟩
 have hM:(op==6)=false:=by simp [dd]
 by_cases jG:op=7
 ·have c:(op==7)=true:=by simp [jG]
  simp only [aa,Nat.reduceEqDiff,reduceCtorEq,hM,c,aI,Tryz.results167,ac]
  exact au ⟨by simp [qS,jG,gV,iU],rfl⟩
 have lq:(op==7)=false:=by simp [jG]
 by_cases kC:op=8
 ·have c:(op==8)=true:=by simp [kC]
  simp only [aa,Nat.reduceEqDiff,reduceCtorEq,hM,lq,c,aI,Tryz.results167,ac]
  exact au ⟨by simp [qS,kC,gV,iU],rfl⟩
 have kD:(op==8)=false:=by simp [kC]
 by_cases e2:op=9
 ·have c:(op==9)=true:=by simp [e2]
  simp only [aa,Nat.reduceEqDiff,reduceCtorEq,hM,lq,kD,c]
  refine wj SX (Ty b h) (fun r h' ⟨ar,aT⟩=>?_) (fun h' ⟨ar,aT⟩=>?_)
  ·subst aT
   by_cases av:b=0
   ·rw [if_pos av] at ar;cases ar
   rw [if_neg av] at ar
   cases ar
   simp only [aa,Nat.reduceEqDiff,ajg av,aI,Tryz.results167,ac]
   exact au ⟨by simp [qS,e2,av,gV,iU],rfl⟩
  ·subst ar
   have av:b=0:=Classical.byContradiction fun av=>by rw [if_neg av] at aT;cases aT
   simp only [aa,wk]
   exact au ⟨rfl,by simp [qS,e2,av,gV]⟩
 have gn:(op==9)=false:=by simp [e2]
 by_cases pC:op=10
 ·have c:(op==10)=true:=by simp [pC]
  simp only [aa,Nat.reduceEqDiff,reduceCtorEq,hM,lq,kD,gn,c]
  refine wj SX (Ty b h) (fun r h' ⟨ar,aT⟩=>?_) (fun h' ⟨ar,aT⟩=>?_)
  ·subst aT
   by_cases av:b=0
   ·rw [if_pos av] at ar;cases ar
   rw [if_neg av] at ar
   cases ar
   simp only [aa,Nat.reduceEqDiff,L8 av,aI,Tryz.results167,ac]
   exact au ⟨by simp [qS,pC,av,gV],rfl⟩
  ·subst ar
   have av:b=0:=Classical.byContradiction fun av=>by rw [if_neg av] at aT;cases aT
   simp only [aa,wk]
   exact au ⟨rfl,by simp [qS,pC,av,gV]⟩
 have fw:(op==10)=false:=by simp [pC]
 by_cases BJ:op=11
 ·have c:(op==11)=true:=by simp [BJ]
  simp only [aa,Nat.reduceEqDiff,reduceCtorEq,hM,lq,kD,gn,fw,c]
  refine bB SY (Tx _ h) ?_
  simp only [aa,Nat.reduceEqDiff,aI,Tryz.results167,ac]
  exact au ⟨by simp [qS,BJ,gV],rfl⟩
 have EX:(op==11)=false:=by simp [BJ]
 by_cases x9:op=12
 ·have c:(op==12)=true:=by simp [x9]
  simp only [aa,Nat.reduceEqDiff,reduceCtorEq,hM,lq,kD,gn,fw,EX,c]
  refine bB SY (Tx _ h) ?_
  simp only [aa,Nat.reduceEqDiff,aI,Tryz.results167,ac]
  exact au ⟨by simp [qS,x9,gV],rfl⟩
 have Kv:(op==12)=false:=by simp [x9]
 by_cases BK:op=15
 ·have c:(op==15)=true:=by simp [BK]
  simp only [aa,Nat.reduceEqDiff,reduceCtorEq,hM,lq,kD,gn,fw,EX,Kv,c,aI,Tryz.results167,ac]
  exact au ⟨by simp [qS,BK,gV],rfl⟩
 have Tz:(op==15)=false:=by simp [BK]
 simp only [aa,Nat.reduceEqDiff,reduceCtorEq,hM,lq,kD,gn,fw,EX,Kv,Tz,aI,Tryz.results167,ac]
 exact au ⟨by simp [qS,dd,jG,kC,e2,pC,BJ,x9,BK,gV],rfl⟩
def b8 (bJ b5 rt acc:Int):Nat→bF→Option Int
 | 0,_=>none
 | d+1,.mk o n ax=>
  if o=1 then some n else if o=2 then some bJ else if o=3 then some b5 else if o=4 then some rt else if o=5 then some acc
  else if o=14 then ((ax[0]?).bind (b8 bJ b5 rt acc d)).map fun a=>iU (-a)
  else if o=13 then ((ax[0]?).bind (b8 bJ b5 rt acc d)).bind fun a=>if a=0 then (ax[2]?).bind (b8 bJ b5 rt acc d) else (ax[1]?).bind (b8 bJ b5 rt acc d)
  else ((ax[0]?).bind (b8 bJ b5 rt acc d)).bind fun a=>((ax[1]?).bind (b8 bJ b5 rt acc d)).bind fun b=>qS o a b
def rC (d:Nat) (e:bF):Prop:=∃ room c,fM d room e=some c
theorem TA {f:Nat→bF→Option Nat} {room:Nat}:∀ {m:Nat} {l:List bF} {c:Nat},hV f room m l=some c→∀ k ∈ l,∃ q c,f q k=some c
 | m,[],c,h,k,hk=>by simp at hk
 | m,a::r,c,h,k,hk=>by
  unfold hV at h
  split at h
  ·rename_i d bb
   rcases List.mem_cons.1 hk with rfl | hk
   ·exact ⟨_,_,bb⟩
   ·exact TA h k hk
  ·cases h
theorem rC.fits {d:Nat} {e:bF} (h:rC (d+1) e):kj e=true∧∀ k ∈ e.ax,rC d k:=by
 obtain ⟨room,c,h⟩:=h
 unfold fM at h
 split at h
 ·cases h
 ·rename_i aG
  refine ⟨?_,fun k hk=>TA h k hk⟩
  cases aC:kj e<;>simp_all
theorem rC.zero {e:bF} (h:rC 0 e):False:=by
 obtain ⟨room,c,h⟩:=h
 simp [fM] at h
theorem MT {ax:List bF} {k:Nat} {A:bF} (h:ax[k]?=some A):∃ r,ir Tryz.prog 25 (.ag ax.length (ax.flatMap aq)) (.int .i64 (k:Int))=some (.at (aq A++r)) :=
 J3 na rfl h FS
theorem MU {o n:Int} {ax:List bF} (h:kj (.mk o n ax)=true):(ax.length:Int)=cJ.getD o.toNat 0∧1≤o∧o≤16:=by
 simp only [kj,Bool.and_eq_true,Bool.or_eq_true,decide_eq_true_eq] at h
 exact ⟨h.2.1,h.1⟩
theorem Ac (bJ b5 rt acc:Int):∀ (d:Nat) (e:bF) (h:J),rC d e→ns Tryz.prog 115 [.agg (aq e),.agg [.int .i64 bJ,.int .i64 b5,.int .i64 rt],.int .i64 acc] h (gV (b8 bJ b5 rt acc d e))
 | 0,e,h,ba=>ba.zero.elim
 | d+1,.mk o n ax,h,ba=>by
  obtain ⟨hf,xc⟩:=ba.fits
  obtain ⟨hlen,v8,q4⟩:=MU hf
  refine ns.of _ (aeb _) ?_
  rw [hT]
  refine di.ao (c:=_) Tryz.func115 rfl (by kernel_rfl) (by simp) ?_
  have bO:∀ a b,I h ((h.push a).push b) none_:=fun a b=>(I.push _ _ _).a8 _
  by_cases h1:o=1
  ·have c:(o==1)=true:=by simp [h1]
   simp only [aa,Nat.reduceEqDiff,Nat.reduceAdd,Nat.reduceLeDiff,lT,CQ,br,a7,c,aI,Tryz.results115,ac]
   exact au ⟨by simp [b8,h1,gV],bO _ _⟩
  have bd:(o==1)=false:=by simp [h1]
  by_cases ae:o=2
  ·have c:(o==2)=true:=by simp [ae]
   simp only [aa,Nat.reduceEqDiff,Nat.reduceAdd,lT,tA,br,a7,bd,c,aI,Tryz.results115,ac]
   exact au ⟨by simp [b8,ae,gV],bO _ _⟩
  have bH:(o==2)=false:=by simp [ae]
  by_cases aA:o=3
  ·have c:(o==3)=true:=by simp [aA]
   simp only [aa,Nat.reduceEqDiff,Nat.reduceAdd,Nat.reduceLeDiff,lT,EO,br,a7,bd,bH,c,aI,Tryz.results115,ac]
   exact au ⟨by simp [b8,aA,gV],bO _ _⟩
  have c3:(o==3)=false:=by simp [aA]
  by_cases bk:o=4
  ·have c:(o==4)=true:=by simp [bk]
   simp only [aa,Nat.reduceEqDiff,Nat.reduceAdd,Nat.reduceLeDiff,lT,qQ,br,a7,bd,bH,c3,c,aI,Tryz.results115,ac]
   exact au ⟨by simp [b8,bk,gV],bO _ _⟩
  have dU:(o==4)=false:=by simp [bk]
  by_cases bN:o=5
  ·have c:(o==5)=true:=by simp [bN]
   simp only [aa,Nat.reduceEqDiff,Nat.reduceAdd,lT,a7,bd,bH,c3,dU,c,aI,Tryz.results115,ac]
   exact au ⟨by simp [b8,bN,gV],bO _ _⟩
  have c5:(o==5)=false:=by simp [bN]
  have ib:∀ (A:bF) (q:List V),cX (some (some 3)) (some (aq A++q))=some (.agg (aq A)):=fun A q=>lC (na A)
  have two:∀ {A:Type} {l:List A} {k:Nat},k<l.length→∃ x,l[k]?=some x:=fun hk=>⟨_,List.getElem?_eq_getElem hk⟩
  have lf:0<ax.length:=by
   have:(1:Int)≤cJ.getD o.toNat 0:=by
    have:o.toNat=6∨o.toNat=7∨o.toNat=8∨o.toNat=9∨o.toNat=10∨o.toNat=11∨o.toNat=12∨o.toNat=13∨o.toNat=14∨o.toNat=15∨o.toNat=16:=by omega
    rcases this with q | q | q | q | q | q | q | q | q | q | q<;>rw [q]<;>decide
   omega
  obtain ⟨A,gj⟩:=two lf
  obtain ⟨iN,Kw⟩:=MT gj
  have eo:ir Tryz.prog 25 (.ag ax.length (ax.flatMap aq)) (.int .i64 0)=some (.at (aq A++iN)):=Kw
  clear Kw
  have hA:=xc A (List.mem_of_getElem? gj)
  by_cases BL:o=14
  ·have c:(o==14)=true:=by simp [BL]
   have bj:b8 bJ b5 rt acc (d+1) (.mk o n ax)=(b8 bJ b5 rt acc d A).map fun a=>iU (-a):=by simp [b8,BL,gj]
   generalize ax.length=N at *
   generalize ax.flatMap aq=TB at *
   simp only [aa,Nat.reduceEqDiff,Nat.reduceAdd,lT,a7,bd,bH,c3,dU,c5,c]
   refine aP.pk [6] (by kernel_rfl) (by kernel_rfl) (by kernel_rfl) ?_
   simp only [aa,s4,s3,s5,s6,n9,Bool.or_true,Bool.or_false,List.contains_cons,List.contains_nil,Nat.reduceBEq,Nat.reduceEqDiff,Nat.reduceAdd,Nat.reduceLeDiff,nE,oV,eG,dj,eo,ib]
   refine wj zV (Ac bJ b5 rt acc d A _ hA) (fun r h' ⟨ar,aT⟩=>?_) (fun h' ⟨ar,aT⟩=>?_)
   ·subst aT
    obtain ⟨a,a6,rfl⟩:=Option.map_eq_some_iff.1 ar
    simp only [aa,zK,s4,s3,s5,s6,n9,Bool.or_false,List.contains_cons,List.contains_nil,Nat.reduceBEq,Nat.reduceEqDiff,Nat.reduceAdd,aI,Tryz.results115,ac]
    exact au ⟨by simp [bj,a6,gV,iU],bO _ _⟩
   ·subst ar
    simp only [aa,G5,Nat.reduceAdd,wk]
    have:b8 bJ b5 rt acc d A=none:=by simpa [gV] using aT
    exact au ⟨bO _ _,by simp [bj,this,gV]⟩
  have Kx:(o==14)=false:=by simp [BL]
  have jr:1<ax.length:=by
   have:(2:Int)≤cJ.getD o.toNat 0:=by
    have:o.toNat=6∨o.toNat=7∨o.toNat=8∨o.toNat=9∨o.toNat=10∨o.toNat=11∨o.toNat=12∨o.toNat=13∨o.toNat=15∨o.toNat=16:=by omega
    rcases this with q | q | q | q | q | q | q | q | q | q<;>rw [q]<;>decide
   omega
  obtain ⟨B,cp⟩:=two jr
  obtain ⟨cA,Ky⟩:=MT cp
  have bR:ir Tryz.prog 25 (.ag ax.length (ax.flatMap aq)) (.int .i64 1)=some (.at (aq B++cA)):=Ky
  clear Ky
  have okB:=xc B (List.mem_of_getElem? cp)
  by_cases yz:o=13
  ·have c:(o==13)=true:=by simp [yz]
   have uo:2<ax.length:=by
    rw [yz] at hlen
    have:(ax.length:Int)=3:=hlen
    omega
   obtain ⟨C,oW⟩:=two uo
   obtain ⟨eb,Kz⟩:=MT oW
   have dn:ir Tryz.prog 25 (.ag ax.length (ax.flatMap aq)) (.int .i64 2)=some (.at (aq C++eb)):=Kz
   clear Kz
   have TC:=xc C (List.mem_of_getElem? oW)
   have bj:b8 bJ b5 rt acc (d+1) (.mk o n ax)=(b8 bJ b5 rt acc d A).bind fun a=>if a=0 then b8 bJ b5 rt acc d C else b8 bJ b5 rt acc d B:=by simp [b8,yz,gj,cp,oW]
   generalize ax.length=N at *
   generalize ax.flatMap aq=TB at *
   simp only [aa,Nat.reduceEqDiff,Nat.reduceAdd,lT,a7,bd,bH,c3,dU,c5,Kx,c]
   refine aP.pk [6] (by kernel_rfl) (by kernel_rfl) (by kernel_rfl) ?_
   simp only [aa,s4,s3,s5,s6,n9,Bool.or_true,Bool.or_false,List.contains_cons,List.contains_nil,Nat.reduceBEq,Nat.reduceEqDiff,Nat.reduceAdd,Nat.reduceLeDiff,nE,oV,eG,dj,eo,ib]
   refine wj zV (Ac bJ b5 rt acc d A _ hA) (fun r h' ⟨ar,aT⟩=>?_) (fun h' ⟨ar,aT⟩=>?_)
   ·subst aT
    obtain ⟨a,a6,rfl⟩:=Option.map_eq_some_iff.1 ar
    by_cases wF:a=0
    ·have q:(a !=0)=false:=by simp [wF]
     simp only [aa,zK,s4,s3,s5,s6,n9,Bool.or_false,List.contains_cons,List.contains_nil,Nat.reduceBEq,Nat.reduceEqDiff,Nat.reduceAdd,q]
     refine aP.pk [6] (by kernel_rfl) (by kernel_rfl) (by kernel_rfl) ?_
     simp only [aa,s4,s3,s5,s6,n9,Bool.or_true,Bool.or_false,List.contains_cons,List.contains_nil,Nat.reduceBEq,Nat.reduceEqDiff,Nat.reduceAdd,Nat.reduceLeDiff,nE,oV,eG,dj,dn,ib]
     refine wj zV (Ac bJ b5 rt acc d C _ TC) (fun r h' ⟨ar,aT⟩=>?_) (fun h' ⟨ar,aT⟩=>?_)
     ·subst aT
      obtain ⟨b,av,rfl⟩:=Option.map_eq_some_iff.1 ar
      simp only [aa,zK,s4,s3,s5,s6,n9,Bool.or_false,List.contains_cons,List.contains_nil,Nat.reduceBEq,Nat.reduceEqDiff,Nat.reduceAdd,aI,Tryz.results115,ac]
      exact au ⟨by simp [bj,a6,wF,av,gV],bO _ _⟩
     ·subst ar
      simp only [aa,G5,Nat.reduceAdd,wk]
      have:b8 bJ b5 rt acc d C=none:=by simpa [gV] using aT
      exact au ⟨bO _ _,by simp [bj,a6,wF,this,gV]⟩
    ·have q:(a !=0)=true:=by simp [wF]
     simp only [aa,zK,s4,s3,s5,s6,n9,Bool.or_false,List.contains_cons,List.contains_nil,Nat.reduceBEq,Nat.reduceEqDiff,Nat.reduceAdd,q]
     refine aP.pk [6] (by kernel_rfl) (by kernel_rfl) (by kernel_rfl) ?_
     simp only [aa,s4,s3,s5,s6,n9,Bool.or_true,Bool.or_false,List.contains_cons,List.contains_nil,Nat.reduceBEq,Nat.reduceEqDiff,Nat.reduceAdd,Nat.reduceLeDiff,nE,oV,eG,dj,bR,ib]
     refine wj zV (Ac bJ b5 rt acc d B _ okB) (fun r h' ⟨ar,aT⟩=>?_) (fun h' ⟨ar,aT⟩=>?_)
     ·subst aT
      obtain ⟨b,av,rfl⟩:=Option.map_eq_some_iff.1 ar
      simp only [aa,zK,s4,s3,s5,s6,n9,Bool.or_false,List.contains_cons,List.contains_nil,Nat.reduceBEq,Nat.reduceEqDiff,Nat.reduceAdd,aI,Tryz.results115,ac]
      exact au ⟨by simp [bj,a6,wF,av,gV],bO _ _⟩
     ·subst ar
      simp only [aa,G5,Nat.reduceAdd,wk]
      have:b8 bJ b5 rt acc d B=none:=by simpa [gV] using aT
      exact au ⟨bO _ _,by simp [bj,a6,wF,this,gV]⟩
   ·subst ar
    simp only [aa,G5,Nat.reduceAdd,wk]
    have:b8 bJ b5 rt acc d A=none:=by simpa [gV] using aT
    exact au ⟨bO _ _,by simp [bj,this,gV]⟩
  have TD:(o==13)=false:=by simp [yz]
  have bj:b8 bJ b5 rt acc (d+1) (.mk o n ax)=(b8 bJ b5 rt acc d A).bind fun a=>(b8 bJ b5 rt acc d B).bind fun b=>qS o a b:=by simp [b8,h1,ae,aA,bk,bN,BL,yz,gj,cp]
  generalize ax.length=N at *
  generalize ax.flatMap aq=TB at *
  simp only [aa,Nat.reduceEqDiff,Nat.reduceAdd,lT,a7,bd,bH,c3,dU,c5,Kx,TD]
  refine aP.pk [6] (by kernel_rfl) (by kernel_rfl) (by kernel_rfl) ?_
  simp only [aa,s4,s3,s5,s6,n9,Bool.or_true,Bool.or_false,List.contains_cons,List.contains_nil,Nat.reduceBEq,Nat.reduceEqDiff,Nat.reduceAdd,Nat.reduceLeDiff,nE,oV,eG,dj,eo,ib]
  refine wj zV (Ac bJ b5 rt acc d A _ hA) (fun r h' ⟨ar,aT⟩=>?_) (fun h' ⟨ar,aT⟩=>?_)
  ·subst aT
   obtain ⟨a,a6,rfl⟩:=Option.map_eq_some_iff.1 ar
   simp only [aa,zK,s4,s3,s5,s6,n9,Bool.or_false,List.contains_cons,List.contains_nil,Nat.reduceBEq,Nat.reduceEqDiff,Nat.reduceAdd]
   refine aP.aY none_ [9,10] (.q 0 (.q 1 (.q 2 (.q 3 (.q 4 (.q 5 (.q 6 (.q 7 (.q 8 (.e 9 (.a 10 (.q 11 .done)) .stop)))))))))) (by kernel_rfl) (by kernel_rfl) (by kernel_rfl) ?_
   simp only [aa,bD,Nat.reduceEqDiff,Nat.reduceAdd,Nat.reduceLeDiff,lT,nE,oV,eG,a7,dj,bR,ib]
   refine wj zV (Ac bJ b5 rt acc d B _ okB) (fun r h' ⟨ar,aT⟩=>?_) (fun h' ⟨ar,aT⟩=>?_)
   ·subst aT
    obtain ⟨b,av,rfl⟩:=Option.map_eq_some_iff.1 ar
    simp only [aa,bD,Nat.reduceEqDiff]
    refine wj acO (aec o a b _) (fun r h' ⟨ar,aT⟩=>?_) (fun h' ⟨ar,aT⟩=>?_)
    ·subst aT
     obtain ⟨c,aF,rfl⟩:=Option.map_eq_some_iff.1 ar
     simp only [aa,bD,Nat.reduceEqDiff,aI,Tryz.results115,ac]
     exact au ⟨by simp [bj,a6,av,aF,gV],bO _ _⟩
    ·subst ar
     simp only [aa,bD,wk]
     have:qS o a b=none:=by simpa [gV] using aT
     exact fun _=>au ⟨bO _ _,by simp [bj,a6,av,this,gV]⟩
   ·subst ar
    simp only [aa,bD,wk]
    have:b8 bJ b5 rt acc d B=none:=by simpa [gV] using aT
    exact fun _=>au ⟨bO _ _,by simp [bj,a6,this,gV]⟩
  ·subst ar
   simp only [aa,G5,Nat.reduceAdd,wk]
   have:b8 bJ b5 rt acc d A=none:=by simpa [gV] using aT
   exact au ⟨bO _ _,by simp [bj,this,gV]⟩
theorem aed (p q:Value) (w:World):CallsD Tryz.prog 114 #[p,q] .returning w fun e wT w'=>e=.returned (.tuple #[])∧wT=.returning∧w'=w:=by
 refine callsD_of_wpS Tryz.func114 rfl fun c₀ cs hu=>?_
 apply wpS_seq
 apply wpS_region
 simp [wpOpsS,go_sem,recoverD,hu,Tryz.ntmps114,Exit.thenS]
 refine wpS_cond (t:=false) (by simp [Act.eval,Array.replicate]) ?_
 simp only [Bool.false_eq_true,if_false]
 refine wpS_of_wp (wp_skip ?_)
 cases c₀
 simp_all [bodyPostS,results,Tryz.results114]
theorem aee {h:J} {fQ hx:V} {R:J→Prop} (e1:R h):abv Tryz.prog 114 [fQ,hx] h R:=by
 intro ρ B bg w args' hw a6
 obtain ⟨p,t1,ar,aW,yi⟩:=a6.fh
 obtain ⟨q,t2,rfl,af,Bq⟩:=yi.fh
 have:=Bq.eq_nil
 subst this
 obtain rfl:args'=#[p,q]:=Array.ext' (by simpa using ar)
 exact (aed p q w).mono fun e wT w' ⟨h1,ae,aA⟩=>⟨h1,ae,ρ,h,aA ▸ hw,Ren.le.refl ρ,e1⟩
theorem aef {h:J} {i j:Nat} {a b:Int} (hi:h.get i=.cells [.int .i64 a] 2 none) (aX:h.get j=.cells [.int .i64 b] 32 none) (gP:i≠j) {R:J→Prop}
  (e1:R ((h.set i (.cells [.int .i64 0] 2 none)).set j (.cells [.int .i64 10] 32 none))):abw Tryz.prog 114 [.ptr i 0,.ptr j 0] h R:=by
 intro ρ B bg w args' abC bX hw a6
 obtain ⟨p,t1,ar,aW,yi⟩:=a6.fh
 obtain ⟨q,t2,rfl,af,Bq⟩:=yi.fh
 have:=Bq.eq_nil
 subst this
 obtain rfl:args'=#[p,q]:=Array.ext' (by simpa using ar)
 refine callsD_of_wpS Tryz.func114 rfl fun c₀ cs hu=>?_
 apply wpS_seq
 apply wpS_region
 simp [wpOpsS,go_sem,recoverD,hu,Tryz.ntmps114,Exit.thenS]
 refine wpS_cond (t:=true) (by simp [Act.eval,Array.replicate]) ?_
 simp only [if_true]
 refine wpS_of_wp ?_
 refine wp_mono (Q:=qF 4 B bg { ρ with dfr:=[] } (fun x f ae=>x=.normal∧ae=(h.set i (.cells [.int .i64 0] 2 none)).set j (.cells [.int .i64 10] 32 none)))
  ((show aP Tryz.prog 4 _ _ (fun k=>if k=0 then .ptr i 0 else if k=1 then .ptr j 0 else .top) h from dw (by kernel_rfl) ?_) { ρ with dfr:=[] } B bg _ w (hw.dfr []) ⟨fun k=>?_,rfl,rfl⟩) ?_
 ·have nZ:(h.set i (.cells [.int .i64 0] 2 none)).get j=.cells [.int .i64 b] 32 none:=by rw [jF (Ne.symm gP)];exact aX
  simp only [aa,reduceCtorEq,pA,MQ,hi,nZ]
 ·match k with
  | 0=>exact aW.dfr []
  | 1=>exact af.dfr []
  | n+2=>exact .top _
 ·rintro e mq w' ⟨ρ',z,f,ae,ak,cY,dp,aM,rfl,rfl⟩
  cases e<;>simp only [wg] at ak
  refine ⟨dp.defers.trans aM.dfr,_,rfl,.tuple #[],by simp [results,Tryz.results114],rfl,rfl,_,_,cY.dfr ρ.dfr,aM.ub,e1⟩
theorem TE (e:bF) (bJ b5 rt acc:Int) (h:J) (aB:fc h) :
  Pure Tryz.prog 59 [.agg (aq e),.agg [.int .i64 bJ,.int .i64 b5,.int .i64 rt],.int .i64 acc] h
   (if cv e then (match b8 bJ b5 rt acc 16 e with | some n=>.tuple [.int .i64 n,.int .i64 0] | none=>.tuple [.int .i64 0,.int .i64 10]) else .tuple [.int .i64 0,.int .i64 1]):=by
 refine Pure.val (by split<;>(try split)<;>exact bh.tuple (bl.cons (bh.int _ _) (bl.cons (bh.int _ _) bl.nil))) ?_
 have aF:(V.agg (aq e)).cells=some (aq e):=rfl
 have nG:da (aV.cells (aq e) 27 none) 0=some (aq e):=by cases e;rfl
 have ig:cX (some (some 3)) (some (aq e))=some (.agg (aq e)):=by cases e;rfl
 obtain ⟨H,hH⟩:∃ x,x=(((h.push (.cells (aq e) 27 none)).push (.cells [.int .i64 bJ,.int .i64 b5,.int .i64 rt] 38 none)).push (.cells [.int .i64 0] 2 none)).push (.cells [.int .i64 0] 32 none):=⟨_,rfl⟩
 have g3:H.get h.n=.cells (aq e) 27 none:=by rw [hH];simp [xK,eA];rw [if_neg (by omega),if_neg (by omega)]
 have g4:H.get (h.n+1)=.cells [.int .i64 bJ,.int .i64 b5,.int .i64 rt] 38 none:=by rw [hH];simp [xK,eA]
 have g6:H.get (h.n+1+1)=.cells [.int .i64 0] 2 none:=by rw [hH];simp [xK,eA]
 have g7:H.get (h.n+1+1+1)=.cells [.int .i64 0] 32 none:=by rw [hH];simp [xK,eA]
 have bq:I h H none_:=by rw [hH];exact (((I.push _ _ _).a8 _).a8 _).a8 _
 have hW:fc H:=by unfold fc;rw [bq.glob];exact aB
 have dV:∀ a b,I h ((H.set (h.n+1+1) a).set (h.n+1+1+1) b) none_:=fun a b=>by
  refine ⟨by rw [iw,iw];exact bq.n,fun i hi _=>?_,by rw [Yu,Yu];exact bq.glob⟩
  rw [jF (by omega),jF (by omega)]
  exact bq.get i hi (by simp [none_])
 have KA:∀ a,(H.set (h.n+1+1) a).get (h.n+1+1+1)=.cells [.int .i64 0] 32 none:=fun a=>by rw [jF (by omega)];exact g7
 have EY:∀ a b,((H.set (h.n+1+1) a).set (h.n+1+1+1) b).get (h.n+1+1)=a:=fun a b=>by rw [jF (by omega),aL]
 refine ab.J4 (A:=_) (A2:=_) (C:=_) (M:=fun f h'=>cv e=true∧f 2=.int .i64 acc∧f 3=.ptr h.n 0∧f 4=.ptr (h.n+1) 0∧f 6=.ptr (h.n+1+1) 0∧f 7=.ptr (h.n+1+1+1) 0∧h'=H)
  (KR:=fun fQ hx f h'=>∃ n,b8 bJ b5 rt acc 16 e=some n∧cv e=true∧f 6=.ptr (h.n+1+1) 0∧f 7=.ptr (h.n+1+1+1) 0∧h'=(H.set (h.n+1+1) (.cells [.int .i64 n] 2 none)).set (h.n+1+1+1) (.cells [.int .i64 0] 32 none))
  (KP:=fun fQ hx f h'=>b8 bJ b5 rt acc 16 e=none∧cv e=true∧fQ=.ptr (h.n+1+1) 0∧hx=.ptr (h.n+1+1+1) 0∧f 6=.ptr (h.n+1+1) 0∧f 7=.ptr (h.n+1+1+1) 0∧h'=H)
  Tryz.func59 rfl (by decide) acB (by simp) ?_ ?_ ?_ ?_
 ·refine dw (by kernel_rfl) ?_
  simp only [aa,Nat.reduceEqDiff,MO,ad0,aF]
  rw [←hH]
  refine dw (by kernel_rfl) ?_
  simp only [aa,Nat.reduceEqDiff,eG,g3,nG,ig]
  refine bB My (Aa e H hW) ?_
  cases hm:cv e with
  | false=>
   simp only [aa,Nat.reduceEqDiff,reduceCtorEq,br,H7,pA,MQ,g6,KA,Eu,Tryz.results59,fW,eI,fV,EY]
   exact .inl (dV _ _)
  | true=>
   simp only [aa,Nat.reduceEqDiff,reduceCtorEq]
   refine .inr ?_
   trivial
 ·rintro f h' ⟨hm,f2,f3,f4,f6,f7,rfl⟩
  refine dw (by kernel_rfl) ?_
  have ba:rC 16 e:=by
   unfold cv at hm
   obtain ⟨c,aF⟩:=Option.isSome_iff_exists.1 hm
   exact ⟨64,c,aF⟩
  simp only [aa,Nat.reduceEqDiff,Nat.reduceAdd,eG,dj,f2,f3,f4,g3,g4,nG,ig]
  refine wj zV (Ac bJ b5 rt acc 16 e h' ba) (fun r ae ⟨ar,aT⟩=>?_) (fun ae ⟨ar,aT⟩=>?_)
  ·subst aT
   obtain ⟨n,aG,rfl⟩:=Option.map_eq_some_iff.1 ar
   simp only [aa,Nat.reduceEqDiff,reduceCtorEq,pA,MQ,f6,f7,g6,KA]
   exact .inl ⟨.inl trivial,n,aG,hm,rfl⟩
  ·subst ar
   have:b8 bJ b5 rt acc 16 e=none:=by simpa [gV] using aT
   simp only [aa,Nat.reduceEqDiff,reduceCtorEq,f6,f7]
   exact .inr ⟨this,hm⟩
 ·rintro fQ hx f h' ⟨n,aG,hm,f6,f7,rfl⟩
  refine aee ?_
  simp only [aa,br,H7,Eu,Tryz.results59,fW,eI,fV,f6,f7,EY]
  exact ⟨by simp [hm,aG],dV _ _⟩
 ·rintro fQ hx f h' ⟨aG,hm,rfl,rfl,f6,f7,rfl⟩
  refine aef g6 g7 (by omega) ?_
  simp only [aa,br,H7,Eu,Tryz.results59,fW,eI,fV,f6,f7,EY]
  exact ⟨by simp [hm,aG],dV _ _⟩
theorem aK.agg {l eY:List V} {h ae:J} (a:az l h eY ae):aK (.agg l) h (.agg eY) ae:=fun ρ B bg w dY hw aN=>by
 cases aN with
 | agg ad ak=>
  rename_i xs
  obtain ⟨ρ1,ff,c9,v1⟩:=a ρ B bg w xs.toList hw ⟨by simpa using ad,by simpa using ak⟩
  exact ⟨ρ1,ff,c9,v1.nt.agg⟩
theorem aeg (o n:Int) (h:J):aK (.agg [.int .i64 o,.int .i64 n,.ah]) h (.agg (aq (.mk o n []))) h:=by
 rw [hT]
 exact Pk.aK.agg (az.skip (az.skip (az.last (aK.iR h))))
theorem TF {h:J} {v:V} {ax:List bF} (o n:Int) (bc:Own h 27 3 v (ax.flatMap aq)):∃ ae,aK (.agg [.int .i64 o,.int .i64 n,v]) h (.agg (aq (.mk o n ax))) ae∧I h ae (bn v):=by
 obtain ⟨ae,c,k⟩:=aK.own (n:=ax.length) bc (iS na ax) (by decide)
 refine ⟨ae,?_,k⟩
 rw [hT]
 exact Pk.aK.agg (az.cons (aK.refl _ _) (az.cons (aK.refl _ _) (az.cons c (az.refl _ _))))
theorem fc.aj {h h':J} {M:Nat→Prop} (aB:fc h) (hk:I h h' M):fc h':=by unfold fc;rw [hk.glob];exact aB
theorem fc.or {h ad h':J} {M:Nat→Prop} (aB:fc ad) (lV:fc h) (hk:I ad h' M∨h'=h):fc h':=by
 rcases hk with hk | rfl
 ·exact aB.aj hk
 ·exact lV
inductive fa:bF→Prop
 | mk (o n:Int) (l:List bF) (aM:l.length<2 ^ 47) (h:∀ k ∈ l,fa k) (bc:-2 ^ 63≤o∧o<2 ^ 63) (aG:-2 ^ 63≤n∧n<2 ^ 63):fa (.mk o n l)
theorem fa.len {e:bF} (h:fa e):e.ax.length<2 ^ 47:=by cases h;assumption
theorem fa.yA {e:bF} (h:fa e):∀ k ∈ e.ax,fa k:=by cases h;assumption
def BF (l:List V):Prop:=∃ e:bF,fa e∧l=aq e
theorem TG:∀ l,ko.il BF (.cat (.int .i64) (.cat (.int .i64) (.cat (.bp (.ext 3)) .unit))) l→BF l:=fun l h=>by
 obtain ⟨ff,_,rfl,⟨o,rfl,c9⟩,eY,_,rfl,⟨n,rfl,b0⟩,wX,_,rfl,⟨es,rfl,aG,oI⟩,rfl⟩:=h
 have:∃ ax:List bF,(∀ k ∈ ax,fa k)∧es.length=ax.length∧es.flatten=ax.flatMap aq:=by
  clear aG
  induction es with
  | nil=>exact ⟨[],by simp,rfl,rfl⟩
  | cons a r ih=>
   obtain ⟨ax,h1,ae,aA⟩:=ih fun e he=>oI e (by simp [he])
   obtain ⟨⟨k,hk,rfl⟩,_⟩:=oI a (by simp)
   refine ⟨k::ax,fun x ak=>?_,by simp [ae],by simp [aA]⟩
   rcases List.mem_cons.1 ak with rfl | ak
   ·exact hk
   ·exact h1 x ak
 obtain ⟨ax,h1,ae,aA⟩:=this
 refine ⟨.mk o n ax,.mk o n ax (by omega) h1 (wf_i64 c9) (wf_i64 b0),?_⟩
 rw [hT,ae,aA]
 rfl
mutual
def dF:bF→Nat
 | .mk _ _ l=>dO l+1
def dO:List bF→Nat
 | []=>0
 | k::r=>dF k+dO r
end
theorem TH {l:List bF} {i:Nat} (hi:i<l.length):dO (l.take (i+1))=dO (l.take i)+dF l[i]:=by
 induction l generalizing i with
 | nil=>simp at hi
 | cons a r ih=>
  cases i with
  | zero=>simp [dO]
  | succ i=>simp only [List.take_succ_cons,dO,List.getElem_cons_succ];rw [ih (by simpa using hi)];omega
theorem MV {e:bF}:∀ k ∈ e.ax,dF k<dF e:=by
 obtain ⟨o,n,l⟩:=e
 have:∀ (l:List bF) (k:bF),k ∈ l→dF k≤dO l:=fun l=>by
  induction l with
  | nil=>intro k hk;simp at hk
  | cons a r ih=>
   intro k hk
   rcases List.mem_cons.1 hk with rfl | hk
   ·simp [dO]
   ·have:=ih k hk;simp only [dO];omega
 intro k hk
 have:=this l k hk
 simp only [dF];omega
theorem wrap_add (a b:Int):IntKind.i64.wrap (IntKind.i64.wrap a+IntKind.i64.wrap b)=IntKind.i64.wrap (a+b):=by
 rw [IntKind.wrap_i64,IntKind.wrap_i64 a,IntKind.wrap_i64 b,IntKind.wrap_i64 (a+b)];omega
mutual
def sA (op:Int):bF→Bool
 | .mk o _ l=>o==op||pD op l
def pD (op:Int):List bF→Bool
 | []=>false
 | k::r=>sA op k||pD op r
end
def uG (o:Int):Int:=if o≤5 then 0 else if o=14 then 1 else if o=13 then 3 else 2
theorem MW {o:Int} (h1:1≤o) (ae:o≤16):cJ.getD o.toNat 0=uG o:=by
 obtain ⟨k,rfl⟩:∃ k:Nat,o=k:=⟨o.toNat,by omega⟩
 have hk:k<17:=by omega
 simp only [Int.toNat_natCast]
 have:∀ k:Nat,k<17→1≤k→cJ.getD k 0=uG (k:Int):=by decide
 exact this k hk (by omega)
def oX:Nat→bF→Bool
 | 0,_=>false
 | n+1,e=>kj e&&e.ax.all (oX n)
theorem aeh (e:bF):1≤dF e:=by cases e;simp [dF]
theorem It:∀ (l room:Nat) (e:bF),fM l room e=if oX l e=true∧dF e≤room then some (dF e) else none
 | 0,room,e=>by simp [fM,oX]
 | l+1,room,.mk o n ax=>by
  have gw:∀ (ax:List bF) (m:Nat),1≤m→hV (fM l) room m ax=if ax.all (oX l)=true∧m+dO ax≤room∨ax=[] then some (m+dO ax) else none:=by
   intro ax
   induction ax with
   | nil=>intro m hm;simp [hV,dO]
   | cons k r ih=>
    intro m hm
    have aW:=aeh k
    unfold hV
    rw [It l (room - m) k]
    by_cases bb:oX l k=true
    ·by_cases ad:dF k≤room - m
     ·rw [if_pos ⟨bb,ad⟩]
      simp only
      rw [ih _ (by omega)]
      cases r with
      | nil=>simp [dO,bb];omega
      | cons a r=>
       simp only [List.all_cons,bb,Bool.true_and,dO,reduceCtorEq,or_false]
       by_cases af:(oX l a&&r.all (oX l))=true∧m+dF k+(dF a+dO r)≤room
       ·rw [if_pos af,if_pos ⟨af.1,by omega⟩];congr 1;omega
       ·rw [if_neg af,if_neg (fun U=>af ⟨U.1,by omega⟩)]
     ·rw [if_neg (fun U=>ad U.2)]
      simp only [List.all_cons,dO,reduceCtorEq,or_false]
      rw [if_neg (fun U=>by omega)]
    ·rw [if_neg (fun U=>bb U.1)]
     simp only [List.all_cons,reduceCtorEq,or_false]
     rw [if_neg (fun U=>by simp [bb] at U)]
  have rD:oX (l+1) (.mk o n ax)=(kj (.mk o n ax)&&ax.all (oX l)):=rfl
  have bz:dF (.mk o n ax)=dO ax+1:=by simp [dF]
  have MX:fM (l+1) room (.mk o n ax)=if room=0∨kj (.mk o n ax)=false then none else hV (fM l) room 1 ax:=rfl
  rw [MX]
  by_cases h0:room=0
  ·rw [if_pos (.inl h0),if_neg (fun U=>by omega)]
  ·cases aC:kj (.mk o n ax) with
   | false=>rw [if_pos (.inr rfl),if_neg (fun U=>by rw [rD,aC] at U;simp at U)]
   | true=>
    rw [if_neg (by simp [h0]),gw ax 1 (Nat.le_refl _)]
    rw [aC,Bool.true_and] at rD
    cases ax with
    | nil=>rw [if_pos (.inr rfl),if_pos ⟨by rw [rD];rfl,by rw [bz];simp [dO];omega⟩,bz];rfl
    | cons a r=>
     by_cases af:(a::r).all (oX l)=true∧1+dO (a::r)≤room
     ·rw [if_pos (.inl af),if_pos ⟨by rw [rD];exact af.1,by rw [bz];omega⟩,bz];congr 1;omega
     ·rw [if_neg (by simp only [reduceCtorEq,or_false];exact af),if_neg (fun U=>af ⟨by rw [←rD];exact U.1,by rw [bz] at U;omega⟩)]
def ep (l:List Nat):List V:=l.map fun (n:Nat)=>V.int .u8 (n:Int)
theorem TI (l:List Nat):(ep l).all (·.one)=true:=by
 rw [List.all_eq_true];intro x ak
 obtain ⟨n,_,rfl⟩:=List.mem_map.1 ak
 rfl
theorem MY (a b:List Nat):ep (a++b)=ep a++ep b:=by simp [ep]
theorem nH (a:List Nat):(ep a).length=a.length:=by simp [ep]
theorem yB (a:List Nat):bl (ep a):=bl.map fun _ _=>bh.int _ _
def enc (n:Nat):List Nat:=if n<128 then [n] else (n % 128+128)::enc (n / 128)
termination_by n
theorem CV {n:Nat} (h:n<128):enc n=[n]:=by rw [enc,if_pos h]
theorem EZ {n:Nat} (h:¬n<128):enc n=(n % 128+128)::enc (n / 128):=by rw [enc,if_neg h]
theorem aei (k:Nat):∀ n,n<128 ^ (k+1)→1≤(enc n).length∧(enc n).length≤k+1:=by
 induction k with
 | zero=>intro n h;rw [CV (by simpa using h)];simp
 | succ k ih=>
  intro n h
  by_cases aG:n<128
  ·rw [CV aG];simp
  ·rw [EZ aG]
   have:=ih (n / 128) (by rw [Nat.pow_succ] at h;exact Nat.div_lt_of_lt_mul (by rw [Nat.mul_comm];exact h))
   simp;omega
theorem nI (n:Nat) (h:n<2 ^ 64):1≤(enc n).length∧(enc n).length≤10:=by
 have:(2:Nat) ^ 64<128 ^ 10:=by decide
 exact aei 9 n (by omega)
theorem aej (n:Nat):xA .u8 (IntKind.u8.wrap (n:Int)) 128=((n % 128+128:Nat):Int):=by
 rw [IntKind.wrap_u8]
 unfold xA
 rw [IntKind.wrap_u8]
 have ar:BitVec.ofInt IntKind.u8.bits ((n:Int) % 256)=BitVec.ofNat 8 (n % 256):=by
  apply BitVec.eq_of_toNat_eq
  simp [IntKind.bits]
  omega
 rw [ar]
 have h:∀ m:Fin 256,((BitVec.ofNat 8 m.val ||| BitVec.ofInt 8 128).toNat:Int) % 256=((m.val % 128+128:Nat):Int):=by decide +kernel
 have:=h ⟨n % 256,Nat.mod_lt _ (by decide)⟩
 have aT:((n % 256 % 128+128:Nat):Int)=((n % 128+128:Nat):Int):=by omega
 exact this.trans aT
theorem MZ (n:Nat):(n:Int).fdiv (2 ^ (min (Int.toNat 7) IntKind.u64.bits))=((n / 128:Nat):Int):=by
 have:(2 ^ (min (Int.toNat 7) IntKind.u64.bits):Int)=128:=by decide
 rw [this,Int.fdiv_eq_ediv_of_nonneg _ (by omega)]
 rfl
theorem aek (n:Nat) (h:n<128):IntKind.u8.wrap (n:Int)=(n:Int):=by rw [IntKind.wrap_u8];omega
theorem TJ (h:J) (a:Int):lk Tryz.prog 87 1 [(0,.int .u8 a)] h=some (.bp h.n 0 1 1,h.push (.cells [.int .u8 a] 5 none)):=by rw [p0 ET];rfl
theorem M0 (s:V) (cs:List Nat) (n:Nat) (h:J) (bc:Own h 5 1 s (ep cs)) (aF:cs.length≤2 ^ 46) (aG:n<2 ^ 64) :
  ab Tryz.prog 179 [s,.int .u64 n] h (fun r h'=>Own h' 5 1 r (ep (cs++enc n))∧I h h' (bn s)∧bQ h s r):=by
 refine ab.ao (c:=_) Tryz.func179 rfl (by kernel_rfl) (by simp) ?_
 simp only [aa]
 refine aP.bG (α:=V×List Nat×Nat) (fun x f h'=>f 0=x.1∧f 1=.int .u64 (x.2.2:Nat)∧Own h' 5 1 x.1 (ep x.2.1)∧I h h' (bn s)∧bQ h s x.1∧x.2.1++enc x.2.2=cs++enc n∧x.2.2<2 ^ 64) (fun x=>x.2.2) (s,cs,n)
  ⟨rfl,rfl,bc,I.refl _ _,.inl rfl,rfl,aG⟩ ?_
 rintro ⟨b7,cs',n'⟩ f h1 ⟨f0,f1,lW,hk,dE,dZ,qe⟩
 simp only at f0 f1 lW dE dZ qe
 refine dw (by kernel_rfl) ?_
 have hlen:cs'.length+1≤cs.length+10:=by
  have h1:=congrArg List.length dZ
  have ae:=nI n aG
  have aA:=nI n' qe
  simp at h1
  omega
 have next:∀ (v:V) (ae:J),I h1 ae (bn b7)→bQ h1 b7 v→I h ae (bn s)∧bQ h s v:=fun v ae k2 d2=>by
  refine ⟨hk.trans k2 fun k mn q5=>?_,?_⟩
  ·rcases dE with dE | dE
   ·unfold bn at q5⊢;rw [←dE];exact q5
   ·have:=dE k q5;omega
  ·rcases d2 with d2 | d2
   ·rcases dE with dE | dE
    ·exact .inl (d2.trans dE)
    ·exact .inr fun k mn=>dE k (by rw [←d2];exact mn)
   ·exact .inr fun k mn=>Nat.le_trans hk.n (d2 k mn)
 by_cases aH:128≤n'
 ·have bd:decide ((128:Int)≤(n':Int))=true:=by simp;omega
  obtain ⟨v,ae,cq,cP,ey,iD⟩:=Ma (P:=Tryz.prog) ET (by decide) lW (xs:=[.int .u8 ((n' % 128+128:Nat):Int)]) rfl rfl (by simp [nH,lim];omega) (by simp [nH,lim];omega)
  obtain ⟨k2,d2⟩:=next v ae ey iD
  simp only [aa,Nat.reduceEqDiff,reduceCtorEq,f0,f1,bd,iZ ln hD,aej,TJ,cq,G3 (show (0:Int)≤7 by decide),MZ]
  refine au ⟨(v,cs'++[n' % 128+128],n' / 128),⟨rfl,rfl,?_,k2,d2,?_,by simp only;omega⟩,by simp;omega⟩
  ·rw [MY];exact cP
  ·simp only
   rw [←dZ,EZ (n:=n') (by omega)]
   simp
 ·have bd:decide ((128:Int)≤(n':Int))=false:=by simp;omega
  obtain ⟨v,ae,cq,cP,ey,iD⟩:=Ma (P:=Tryz.prog) ET (by decide) lW (xs:=[.int .u8 (n':Int)]) rfl rfl (by simp [nH,lim];omega) (by simp [nH,lim];omega)
  obtain ⟨k2,d2⟩:=next v ae ey iD
  simp only [aa,Nat.reduceEqDiff,reduceCtorEq,f0,f1,bd,iZ ln hD,aek n' (by omega),TJ,cq,aI,Tryz.results179,ac]
  refine au ⟨?_,k2,d2⟩
  rw [←dZ,CV (by omega),MY]
  exact cP
structure Rd (h:J) (s:V) (cs:List Nat):Prop where
 len:∀ h',I h h' none_→fU Tryz.prog 87 s h'=some (.int .i64 cs.length)
 lenOf:Jz s=some cs.length
 first:∀ h',I h h' none_→Cu 1 cs.length s h'=some (ep cs)
 src:∀ h',I h h' none_→iC Tryz.prog 1 87 s h'=some (cs.length,ep cs)
theorem Rd.ah (h:J):Rd h .ah []:=⟨fun _ _=>Bf py,rfl,fun _ _=>rfl,fun _ _=>by
 obtain ⟨d,hu,bb⟩:=HP py
 cases d<;>simp [D9] at bb
 simp [iC,hu,ep]⟩
theorem Rd.ag (h:J) (cs:List Nat):Rd h (.ag cs.length (ep cs)) cs:=⟨fun _ _=>aa5 py,rfl,fun h' _=>by
 simp only [Cu,nH,Nat.mul_one,Nat.le_refl,and_self,if_true]
 rw [List.take_of_length_le (by rw [nH];exact Nat.le_refl _)],fun h' _=>ajn py (by rw [nH,Nat.mul_one]) (TI cs)⟩
theorem Rd.aj {h h':J} {s:V} {cs:List Nat} (rd:Rd h s cs) (k:I h h' none_):Rd h' s cs :=
 ⟨fun ae k2=>rd.len ae (k.trans' k2),rd.lenOf,fun ae k2=>rd.first ae (k.trans' k2),fun ae k2=>rd.src ae (k.trans' k2)⟩
theorem fresh (s:V) (cs:List Nat) (m:Nat) (h:J) (rd:Rd h s cs) (aF:cs.length+m≤2 ^ 47) :
  ab Tryz.prog 157 [s,.int .i64 m] h (fun r h'=>r=.bp h.n 0 cs.length (cs.length+m)∧Own h' 5 1 r (ep cs)∧I h h' none_):=by
 refine ab.ao (c:=_) Tryz.func157 rfl (by kernel_rfl) (by simp) ?_
 have hw:IntKind.i64.wrap ((cs.length:Int)+(m:Int))=((cs.length+m:Nat):Int):=by rw [Go.IntWalk.i64_in _ (by omega)];omega
 obtain ⟨h1,ae,cq,cP,ey,iD,tb⟩:=ajD (P:=Tryz.prog) (tx:=87) (k:=.i64) (k':=.i64) (h:=h) (c:=cs.length+m) ET rd.lenOf rd.first (TI cs) (by simp [nH]) (by omega) (by simp only;omega) (by omega)
 simp only [aa,Nat.reduceEqDiff,reduceCtorEq,rd.len h (I.refl _ _),hw,cq,cP,aI,Tryz.results157,ac]
 exact au ⟨rfl,ey,tb⟩
theorem M1 (s:V) (cs:List Nat) (n:Nat) (h:J) (rd:Rd h s cs) (aF:cs.length≤2 ^ 46) (aG:n<2 ^ 64) :
  ab Tryz.prog 124 [s,.int .u64 n] h (fun r h'=>Own h' 5 1 r (ep (cs++enc n))∧I h h' none_∧∀ k,aR r=some k→h.n≤k):=by
 refine ab.ao (c:=_) Tryz.func124 rfl (by kernel_rfl) (by simp) ?_
 simp only [aa,Nat.reduceEqDiff,reduceCtorEq]
 refine bU CN (fresh s cs 10 h rd (by omega)) fun cA h1 ⟨ar,lX,bo⟩=>?_
 have d1:∀ k,aR cA=some k→h.n≤k:=fun k hk=>by subst ar;simp [aR] at hk;omega
 simp only [aa,Nat.reduceEqDiff]
 refine bU EL (M0 cA cs n h1 lX aF aG) fun eb ae ⟨e4,k2,d2⟩=>?_
 simp only [aa,Nat.reduceEqDiff,aI,Tryz.results124,ac]
 refine au ⟨e4,bo.trans k2 fun k hk hi=>?_,fun k hk=>?_⟩
 ·have:=d1 k hi;omega
 ·rcases d2 with d2 | d2
  ·exact d1 k (d2 ▸ hk)
  ·exact Nat.le_trans bo.n (d2 k hk)
theorem Iu (s:V) (cs:List Nat) (n:Nat) (h:J) (rd:Rd h s cs) (aF:cs.length≤2 ^ 46) (aG:n<2 ^ 64) :
  Pure Tryz.prog 124 [s,.int .u64 n] h (.ag (cs++enc n).length (ep (cs++enc n))):=by
 refine Pure.of (bh.ag (yB _)) ((M1 s cs n h rd aF aG).mono fun r h' ⟨o,k,d⟩=>?_)
 obtain ⟨ae,c,k2⟩:=aK.own o (n:=(cs++enc n).length) (by simp [nH]) (by omega)
 exact ⟨ae,c,k.trans k2 fun j aX ad=>by have:=d j ad;omega⟩
theorem TK (s:V) (cs:List Nat) (m:Nat) (h:J) (rd:Rd h s cs) (aF:cs.length+m≤2 ^ 47) :
  Pure Tryz.prog 157 [s,.int .i64 m] h (.ag cs.length (ep cs)):=by
 refine Pure.of (bh.ag (yB _)) ((fresh s cs m h rd aF).mono fun r h' ⟨e,o,k⟩=>?_)
 obtain ⟨ae,c,k2⟩:=aK.own o (n:=cs.length) (by simp [nH]) (by omega)
 refine ⟨ae,c,k.trans k2 fun j aX ad=>?_⟩
 subst e
 simp [bn,aR] at ad
 omega
def cU (h:J) (p:V) (i:Nat) (cs:List Nat):Prop:=p=.ptr i 0∧i<h.n∧h.get i=.cells [.ag cs.length (ep cs)] 278 none
theorem E0 (s:V) (cs:List Nat) (h:J) (rd:Rd h s cs) (aF:cs.length≤2 ^ 47) :
  ab Tryz.prog 109 [s] h (fun r h'=>r=.ptr h.n 0∧cU h' r h.n cs∧I h h' none_):=by
 refine ab.ao (c:=_) Tryz.func109 rfl (by kernel_rfl) (by simp) ?_
 simp only [aa,Nat.reduceEqDiff,reduceCtorEq]
 refine bB CN (TK s cs 0 h rd (by omega)) ?_
 simp only [aa,Nat.reduceEqDiff,Tl,To,aI,Tryz.results109,ac]
 exact au ⟨rfl,⟨rfl,by rw [eA];omega,b6⟩,I.push _ _ _⟩
theorem rest (h:J) (p:V) (i:Nat) (cs:List Nat) (aU:cU h p i cs):Pure Tryz.prog 160 [p] h (.ag cs.length (ep cs)):=by
 obtain ⟨rfl,hi,aB⟩:=aU
 refine ab.ao (c:=_) Tryz.func160 rfl (by kernel_rfl) (by simp) ?_
 simp only [aa,Nat.reduceEqDiff,reduceCtorEq,EN,adx,ES,aB,aI,Tryz.results160,ac]
 exact au ⟨rfl,rfl⟩
theorem Left (h:J) (p:V) (i:Nat) (cs:List Nat) (aU:cU h p i cs):Pure Tryz.prog 111 [p] h (.int .i64 cs.length):=by
 refine ab.ao (c:=_) Tryz.func111 rfl (by kernel_rfl) (by simp) ?_
 simp only [aa,Nat.reduceEqDiff,reduceCtorEq]
 refine bB Ie (rest h p i cs aU) ?_
 simp only [aa,Nat.reduceEqDiff,py,aI,Tryz.results111,ac]
 exact au ⟨rfl,rfl⟩
theorem Ad (w n:Nat):BitVec.ofInt w (n:Int)=BitVec.ofNat w n:=by
 apply BitVec.eq_of_toNat_eq
 simp
theorem ael (a b k:Nat) (av:b<2 ^ k) (hk:k≤64) (a6:a * 2 ^ k<2 ^ 64):xA .u64 (b:Int) ((a * 2 ^ k:Nat):Int)=((a * 2 ^ k+b:Nat):Int):=by
 have aH:a * 2 ^ k+b<2 ^ 64:=by
  have e:(2:Nat) ^ 64=2 ^ (64 - k) * 2 ^ k:=by rw [←Nat.pow_add];congr 1;omega
  rw [e] at a6⊢
  have h1:a<2 ^ (64 - k):=Nat.lt_of_mul_lt_mul_right a6
  calc a * 2 ^ k+b<a * 2 ^ k+2 ^ k:=by omega
   _=(a+1) * 2 ^ k:=by rw [Nat.add_mul];simp
   _≤_:=Nat.mul_le_mul_right _ h1
 unfold xA
 rw [Ad,Ad]
 have ar:(BitVec.ofNat IntKind.u64.bits b ||| BitVec.ofNat IntKind.u64.bits (a * 2 ^ k)).toNat=a * 2 ^ k+b:=by
  rw [BitVec.toNat_or]
  simp only [BitVec.toNat_ofNat,IntKind.bits]
  rw [Nat.mod_eq_of_lt (by omega),Nat.mod_eq_of_lt a6]
  have:=Nat.shiftLeft_add_eq_or_of_lt av a
  rw [Nat.shiftLeft_eq] at this
  rw [this,Nat.or_comm]
 rw [ar,IntKind.wrap_u64]
 omega
theorem M3 (g:Nat) (aB:g<256):IntKind.u64.wrap (PZ .u8 (g:Int) 128)=((g % 128:Nat):Int):=by
 have h:∀ m:Fin 256,IntKind.u64.wrap (PZ .u8 (m.val:Int) 128)=((m.val % 128:Nat):Int):=by decide +kernel
 exact h ⟨g,aB⟩
theorem TL (g at_:Nat) (aB:g % 128 * 2 ^ (7 * at_)<2 ^ 64) (a6:at_≤9):IntKind.u64.wrap (((g % 128:Nat):Int) * 2 ^ (min (IntKind.i64.wrap (7 * (at_:Int))).toNat IntKind.u64.bits))=((g % 128 * 2 ^ (7 * at_):Nat):Int):=by
 have e:(min (IntKind.i64.wrap (7 * (at_:Int))).toNat IntKind.u64.bits)=7 * at_:=by
  rw [IntKind.wrap_i64]
  have h1:((7 * (at_:Int)+9223372036854775808) % 18446744073709551616 - 9223372036854775808)=((7 * at_:Nat):Int):=by omega
  rw [h1,Int.toNat_natCast]
  simp only [IntKind.bits]
  omega
 rw [e,IntKind.wrap_u64]
 have:(((g % 128:Nat):Int) * 2 ^ (7 * at_))=((g % 128 * 2 ^ (7 * at_):Nat):Int):=by push_cast;rfl
 rw [this]
 omega
theorem TM (g at_:Nat) (wG:at_≤9) (qT:¬(at_=9∧1<g)) (aB:g<256):g % 128 * 2 ^ (7 * at_)<2 ^ 64:=by
 by_cases kC:at_≤8
 ·have h1:(2:Nat) ^ (7 * at_)≤2 ^ 56:=Nat.pow_le_pow_right (by decide) (by omega)
  have ae:g % 128<128:=Nat.mod_lt _ (by decide)
  have aA:g % 128 * 2 ^ (7 * at_)≤127 * 2 ^ 56:=Nat.mul_le_mul (by omega) h1
  exact Nat.lt_of_le_of_lt aA (by decide)
 ·have:at_=9:=by omega
  subst this
  have:g % 128≤1:=by omega
  exact Nat.lt_of_le_of_lt (Nat.mul_le_mul_right _ this) (by decide)
theorem TN (g n at_:Nat) (aG:n<2 ^ (7 * at_)) (wG:at_≤9) (BM:g % 128 * 2 ^ (7 * at_)<2 ^ 64):xA .u64 (n:Int) ((g % 128 * 2 ^ (7 * at_):Nat):Int)=((n+g % 128 * 2 ^ (7 * at_):Nat):Int):=by
 rw [ael (g % 128) n (7 * at_) aG (by omega) BM,Nat.add_comm]
theorem TO (g n at_:Nat) (aG:n<2 ^ (7 * at_)):n+g % 128 * 2 ^ (7 * at_)<2 ^ (7 * (at_+1)):=by
 have e:(2:Nat) ^ (7 * (at_+1))=128 * 2 ^ (7 * at_):=by rw [Nat.mul_add,Nat.pow_add];omega
 rw [e]
 have ae:g % 128<128:=Nat.mod_lt _ (by decide)
 have aA:=Nat.mul_le_mul_right (2 ^ (7 * at_)) (show g % 128≤127 by omega)
 generalize 2 ^ (7 * at_)=p at *
 omega
def dec:List Nat→Nat→Nat→Nat×Nat×Nat
 | [],_,_=>(0,0,4)
 | g::r,at_,n=>
  if at_=9∧1<g then (0,0,5)
  else if 128≤g then dec r (at_+1) (n+g % 128 * 2 ^ (7 * at_))
  else if g=0∧0<at_ then (0,0,5)
  else (n+g % 128 * 2 ^ (7 * at_),at_+1,0)
def sB (r:Nat×Nat×Nat):V:=.tuple [.int .u64 (r.1:Nat),.int .i64 (r.2.1:Nat),.int .i64 (r.2.2:Nat)]
theorem aem {an:List Nat} {k:Nat} (hk:k<an.length):(ep an).drop (k * 1)=.int .u8 (an[k]:Nat)::ep (an.drop (k+1)):=by
 rw [Nat.mul_one]
 unfold ep
 rw [←List.map_drop,List.drop_eq_getElem_cons hk]
 rfl
theorem number (an:List Nat) (h:J) (av:∀ b ∈ an,b<256) (aF:an.length≤2 ^ 47) :
  Pure Tryz.prog 199 [.ag an.length (ep an)] h (sB (dec an 0 0)):=by
 refine ab.ao (c:=_) Tryz.func199 rfl (by kernel_rfl) (by simp) ?_
 simp only [aa]
 refine aP.Bk (α:=Nat×Nat) (l:=0) rfl (fun x f h'=>h'=h∧f 0=.ag an.length (ep an)∧f 5=.int .u64 (x.2:Nat)∧f 6=.int .i64 (x.1:Nat)∧dec (an.drop x.1) x.1 x.2=dec an 0 0∧x.2<2 ^ (7 * x.1)∧x.1≤9∧x.1≤an.length) (fun x=>10 - x.1) ?_ ?_ ?_
 ·rintro x f h1 _
  omega
 ·rintro ⟨at_,n⟩ f h1 ⟨rfl,f0,f5,f6,bb,aG,wG,l2⟩
  simp only at f5 f6 bb aG wG l2
  refine dw (by kernel_rfl) ?_
  by_cases uA:at_=an.length
  ·have hs:((at_:Int)==(an.length:Int))=true:=by simp [uA]
   simp only [aa,Nat.reduceEqDiff,reduceCtorEq,py,f0,f6,hs,xL,aI,Tryz.results199,r6]
   refine au ⟨?_,rfl⟩
   rw [←bb,uA,List.drop_length]
   rfl
  ·have hs:((at_:Int)==(an.length:Int))=false:=by simp;omega
   have aH:at_<an.length:=by omega
   have xd:an[at_]<256:=av _ (List.getElem_mem aH)
   have BN:an.drop at_=an[at_]::an.drop (at_+1):=List.drop_eq_getElem_cons aH
   have fR:=JW (P:=Tryz.prog) (t:=87) (k:=.i64) (i:=(at_:Int)) (n:=an.length) (cs:=ep an) Iq (by omega) (by omega) (by rw [nH];omega)
   rw [Int.toNat_natCast,aem aH] at fR
   have hS:dec (an.drop at_) at_ n=dec (an[at_]::an.drop (at_+1)) at_ n:=by rw [←BN]
   generalize an[at_]=g at xd fR hS
   clear BN
   by_cases qT:at_=9∧1<g
   ·have kU:((at_:Int)==9)=true:=by simp [qT.1]
    have KB:decide ((1:Int)<(g:Int))=true:=by simp;omega
    simp only [aa,Nat.reduceEqDiff,reduceCtorEq,py,pz,f0,f6,hs,fR,kU,KB,xL,aI,Tryz.results199,r6]
    refine au ⟨?_,rfl⟩
    rw [←bb,hS,dec,if_pos qT]
    rfl
   ·have BM:=TM g at_ wG qT xd
    have oK:=TN g n at_ aG wG BM
    have vm:=TO g n at_ aG
    have uH:=TL g at_ BM wG
    have uI:=M3 g xd
    have eH:(0:Int)≤IntKind.i64.wrap (7 * (at_:Int)):=by
     rw [Go.IntWalk.i64_in _ (by omega)]
     omega
    have gD:IntKind.i64.wrap ((at_:Int)+1)=((at_+1:Nat):Int):=by rw [Go.IntWalk.i64_in _ (by omega)];rfl
    have nq:(((at_:Int)==9)=true∧decide ((1:Int)<(g:Int))=false)∨((at_:Int)==9)=false:=by
     by_cases e2:at_=9
     ·left;refine ⟨by simp [e2],by simp;omega⟩
     ·right;simp;omega
    by_cases E1:128≤g
    ·have ti:decide ((128:Int)≤(g:Int))=true:=by simp;omega
     have kC:at_≤8:=by
      rcases Nat.lt_or_ge at_ 9 with h | h
      ·omega
      ·exact absurd ⟨by omega,by omega⟩ qT
     have jZ:dec (an.drop (at_+1)) (at_+1) (n+g % 128 * 2 ^ (7 * at_))=dec an 0 0:=by
      rw [←bb,hS,dec,if_neg qT,if_pos E1]
     rcases nq with ⟨bd,bH⟩ | bd
     ·exfalso
      simp at bd
      omega
     ·simp only [aa,Nat.reduceEqDiff,reduceCtorEq,py,pz,f0,f5,f6,hs,fR,bd,ti,iZ hD ln,uI,zg eH,uH,oK,gD,ajE]
      exact au ⟨(at_+1,_),⟨rfl,f0,rfl,rfl,jZ,vm,by simp only;omega,by simp only;omega⟩,by simp;omega⟩
    ·have ti:decide ((128:Int)≤(g:Int))=false:=by simp;omega
     have aU:dec an 0 0=if g=0∧0<at_ then (0,0,5) else (n+g % 128 * 2 ^ (7 * at_),at_+1,0):=by
      rw [←bb,hS,dec,if_neg qT,if_neg E1]
     have o9:((g:Int)==0)=false∨(((g:Int)==0)=true∧decide ((1:Int)<((at_+1:Nat):Int))=decide (0<at_)):=by
      by_cases h0:g=0
      ·right;exact ⟨by simp [h0],by rw [decide_eq_decide];omega⟩
      ·left;simp;omega
     rcases o9 with c3 | ⟨c3,dU⟩
     ·have h0:¬(g=0∧0<at_):=by intro h;simp [h.1] at c3
      rw [if_neg h0] at aU
      rcases nq with ⟨bd,bH⟩ | bd
      ·simp only [aa,Nat.reduceEqDiff,reduceCtorEq,py,pz,f0,f5,f6,hs,fR,bd,bH,c3,ti,iZ hD ln,uI,zg eH,uH,oK,gD,xL,aI,Tryz.results199,r6]
       exact au ⟨by rw [aU];rfl,rfl⟩
      ·simp only [aa,Nat.reduceEqDiff,reduceCtorEq,py,pz,f0,f5,f6,hs,fR,bd,c3,ti,iZ hD ln,uI,zg eH,uH,oK,gD,xL,aI,Tryz.results199,r6]
       exact au ⟨by rw [aU];rfl,rfl⟩
     ·by_cases sg:0<at_
      ·have h0:(g=0∧0<at_):=⟨by simpa using c3,sg⟩
       rw [if_pos h0] at aU
       simp only [sg,decide_true] at dU
       rcases nq with ⟨bd,bH⟩ | bd
       ·simp only [aa,Nat.reduceEqDiff,reduceCtorEq,py,pz,f0,f5,f6,hs,fR,bd,bH,c3,dU,ti,iZ hD ln,uI,zg eH,uH,oK,gD,xL,aI,Tryz.results199,r6]
        exact au ⟨by rw [aU];rfl,rfl⟩
       ·simp only [aa,Nat.reduceEqDiff,reduceCtorEq,py,pz,f0,f5,f6,hs,fR,bd,c3,dU,ti,iZ hD ln,uI,zg eH,uH,oK,gD,xL,aI,Tryz.results199,r6]
        exact au ⟨by rw [aU];rfl,rfl⟩
      ·have h0:¬(g=0∧0<at_):=fun h=>sg h.2
       rw [if_neg h0] at aU
       simp only [sg,decide_false] at dU
       rcases nq with ⟨bd,bH⟩ | bd
       ·simp only [aa,Nat.reduceEqDiff,reduceCtorEq,py,pz,f0,f5,f6,hs,fR,bd,bH,c3,dU,ti,iZ hD ln,uI,zg eH,uH,oK,gD,xL,aI,Tryz.results199,r6]
        exact au ⟨by rw [aU];rfl,rfl⟩
       ·simp only [aa,Nat.reduceEqDiff,reduceCtorEq,py,pz,f0,f5,f6,hs,fR,bd,c3,dU,ti,iZ hD ln,uI,zg eH,uH,oK,gD,xL,aI,Tryz.results199,r6]
        exact au ⟨by rw [aU];rfl,rfl⟩
 ·intro step
  refine aP.seq (dw (by kernel_rfl) ?_)
  simp only [aa]
  refine aP.seq (dw (by kernel_rfl) ?_)
  simp only [aa]
  refine aP.seq (.label ?_)
  exact step (0,0) _ _ ⟨rfl,rfl,rfl,rfl,rfl,by decide,by decide,by omega⟩
theorem M4 (l:List Nat):∀ k n,(dec l k n).2.2≠0→dec l k n=(0,0,(dec l k n).2.2):=by
 induction l with
 | nil=>intro k n _;rfl
 | cons g r ih=>
  intro k n h
  unfold dec at h⊢
  split
  ·rfl
  ·rename_i h1
   rw [if_neg h1] at h
   split
   ·rename_i ae
    rw [if_pos ae] at h
    exact ih _ _ h
   ·rename_i ae
    rw [if_neg ae] at h
    split
    ·rfl
    ·rename_i aA
     rw [if_neg aA] at h
     simp at h
theorem M5 (l:List Nat):∀ k n,(dec l k n).2.1≤l.length+k:=by
 induction l with
 | nil=>intro k n;simp [dec]
 | cons g r ih=>
  intro k n
  unfold dec
  split
  ·simp
  ·split
   ·have:=ih (k+1) (n+g % 128 * 2 ^ (7 * k))
    simp;omega
   ·split
    ·simp
    ·simp;omega
theorem y6 (a:Nat) (a6:a<2 ^ 64):rk .u64 (a:Int) 0=(a:Int):=by
 show IntKind.u64.wrap ((BitVec.ofInt 64 (a:Int) ^^^ BitVec.ofInt 64 0).toNat:Int)=_
 have e:BitVec.ofInt 64 (0:Int)=BitVec.ofNat 64 0:=rfl
 have ar:(BitVec.ofNat 64 a ^^^ BitVec.ofNat 64 0).toNat=a:=by
  rw [BitVec.toNat_xor,BitVec.toNat_ofNat,BitVec.toNat_ofNat,Nat.zero_mod,Nat.xor_zero]
  exact Nat.mod_eq_of_lt a6
 rw [Ad,e,ar,IntKind.wrap_u64]
 omega
theorem aen (a:Nat) (a6:a<2 ^ 64):rk .u64 (a:Int) 18446744073709551615=((18446744073709551615 - a:Nat):Int):=by
 show IntKind.u64.wrap ((BitVec.ofInt 64 (a:Int) ^^^ BitVec.ofInt 64 18446744073709551615).toNat:Int)=_
 have e:BitVec.ofInt 64 (18446744073709551615:Int)=BitVec.allOnes 64:=by decide
 have ar:(BitVec.ofNat 64 a ^^^ BitVec.allOnes 64).toNat=18446744073709551615 - a:=by
  rw [BitVec.xor_allOnes,BitVec.toNat_not,BitVec.toNat_ofNat,Nat.mod_eq_of_lt a6]
 rw [Ad,e,ar,IntKind.wrap_u64]
 omega
theorem TP (n:Int) (h1:-2 ^ 63≤n) (ae:n<2 ^ 63):rk .u64 (IntKind.u64.wrap (IntKind.u64.wrap n * 2 ^ min (Int.toNat 1) IntKind.u64.bits)) (IntKind.u64.wrap (n.fdiv (2 ^ min (Int.toNat 63) IntKind.i64.bits))) =
  ((if 0≤n then 2 * n.toNat else 2 * (-n).toNat - 1:Nat):Int):=by
 have ar:(2:Int) ^ min (Int.toNat 1) IntKind.u64.bits=2:=by decide
 have aT:(2:Int) ^ min (Int.toNat 63) IntKind.i64.bits=9223372036854775808:=by decide
 rw [ar,aT]
 have ri:-9223372036854775808≤n:=by simpa using h1
 have si:n<9223372036854775808:=by simpa using ae
 by_cases h0:0≤n
 ·have cg:n.fdiv 9223372036854775808=0:=by rw [Int.fdiv_eq_ediv_of_nonneg _ (by omega)];omega
  have h8:IntKind.u64.wrap (IntKind.u64.wrap n * 2)=((2 * n.toNat:Nat):Int):=by rw [IntKind.wrap_u64,IntKind.wrap_u64];omega
  have hQ:IntKind.u64.wrap 0=0:=by decide
  rw [cg,h8,hQ,y6 _ (by omega),if_pos h0]
 ·have cg:n.fdiv 9223372036854775808=-1:=by rw [Int.fdiv_eq_ediv_of_nonneg _ (by omega)];omega
  have h8:IntKind.u64.wrap (IntKind.u64.wrap n * 2)=((2 * n+18446744073709551616).toNat:Int):=by rw [IntKind.wrap_u64,IntKind.wrap_u64];omega
  have hQ:IntKind.u64.wrap (-1)=18446744073709551615:=by decide
  rw [cg,h8,hQ,aen _ (by omega),if_neg h0]
  omega
def hX (n:Int):Nat:=if 0≤n then 2 * n.toNat else 2 * (-n).toNat - 1
theorem xe (n:Int) (h1:-2 ^ 63≤n) (ae:n<2 ^ 63):hX n<2 ^ 64:=by
 have ri:-9223372036854775808≤n:=by simpa using h1
 have si:n<9223372036854775808:=by simpa using ae
 unfold hX
 split<;>omega
theorem cU.aj {h h':J} {p:V} {i:Nat} {cs:List Nat} {own:Nat→Prop} (aU:cU h p i cs) (hk:I h h' own) (bZ:¬own i):cU h' p i cs :=
 ⟨aU.1,Nat.lt_of_lt_of_le aU.2.1 hk.n,(hk.get i aU.2.1 bZ).trans aU.2.2⟩
theorem Iv (p:V) (i:Nat) (an:List Nat) (h:J) (aU:cU h p i an) (av:∀ b ∈ an,b<256) (aF:an.length≤2 ^ 47) :
  ab Tryz.prog 158 [p] h (fun r h'=>r=.tuple [.int .u64 ((dec an 0 0).1:Nat),.int .i64 ((dec an 0 0).2.2:Nat)]∧cU h' p i (an.drop (dec an 0 0).2.1)∧I h h' (·=i)):=by
 refine ab.ao (c:=_) Tryz.func158 rfl (by kernel_rfl) (by simp) ?_
 simp only [aa,Nat.reduceEqDiff,reduceCtorEq]
 refine bB Ie (rest h p i an aU) ?_
 simp only [aa,Nat.reduceEqDiff]
 refine bB SU (number an h av aF) ?_
 by_cases gp:(dec an 0 0).2.2=0
 ·have bZ:((((dec an 0 0).2.2:Nat):Int) !=0)=false:=by simp [gp]
  have Iw:=M5 an 0 0
  obtain ⟨rfl,hi,aB⟩:=aU
  have sc:kz Tryz.prog 87 (.ag an.length (ep an)) (some (.int .i64 ((dec an 0 0).2.1:Nat))) none none=some (.ag (an.drop (dec an 0 0).2.1).length (ep (an.drop (dec an 0 0).2.1))):=by
   rw [RA Iq (by omega) (by omega) (by rw [nH];omega)]
   rw [Int.toNat_natCast,Nat.mul_one]
   unfold ep
   rw [List.map_drop,List.length_drop]
  simp only [aa,Nat.reduceEqDiff,reduceCtorEq,EN,ES,MR,sB,bZ,aB,sc,aI,Tryz.results158,cW]
  exact au ⟨by simp [gp],⟨rfl,by rw [iw];exact hi,aL⟩,I.set _ _ _⟩
 ·have bZ:((((dec an 0 0).2.2:Nat):Int) !=0)=true:=by simp;omega
  have bb:=M4 an 0 0 gp
  simp only [aa,Nat.reduceEqDiff,sB,bZ,aI,Tryz.results158,cW]
  refine au ⟨?_,?_,I.refl _ _⟩
  ·rw [bb];rfl
  ·rw [bb];simpa using aU
theorem TQ (n:Int) (h:J) (h1:-2 ^ 63≤n) (ae:n<2 ^ 63):Pure Tryz.prog 180 [.int .i64 n] h (.int .u64 (hX n:Nat)):=by
 refine ab.ao (c:=_) Tryz.func180 rfl (by kernel_rfl) (by simp) ?_
 simp only [aa,Nat.reduceEqDiff,reduceCtorEq,zg (show (0:Int)≤1 by decide),G3 (show (0:Int)≤63 by decide),iZ sx ln,aI,Tryz.results180,ac]
 exact au ⟨by rw [TP n h1 ae];rfl,rfl⟩
theorem E2 (s:V) (cs:List Nat) (n:Int) (h:J) (rd:Rd h s cs) (aF:cs.length≤2 ^ 46) (h1:-2 ^ 63≤n) (ae:n<2 ^ 63) :
  Pure Tryz.prog 126 [s,.int .i64 n] h (.ag (cs++enc (hX n)).length (ep (cs++enc (hX n)))):=by
 refine Pure.of (bh.ag (yB _)) (ab.mono (R:=fun r h'=>Own h' 5 1 r (ep (cs++enc (hX n)))∧I h h' none_∧∀ k,aR r=some k→h.n≤k) ?_ fun r h' ⟨o,k,d⟩=>?_)
 ·refine ab.ao (c:=_) Tryz.func126 rfl (by kernel_rfl) (by simp) ?_
  simp only [aa,Nat.reduceEqDiff,reduceCtorEq]
  refine bU CN (fresh s cs 10 h rd (by omega)) fun cA ri ⟨ar,lX,bo⟩=>?_
  have d1:∀ k,aR cA=some k→h.n≤k:=fun k hk=>by subst ar;simp [aR] at hk;omega
  simp only [aa,Nat.reduceEqDiff]
  refine bB SR (TQ n ri h1 ae) ?_
  simp only [aa,Nat.reduceEqDiff]
  refine bU EL (M0 cA cs (hX n) ri lX aF (xe n h1 ae)) fun eb si ⟨e4,k2,d2⟩=>?_
  simp only [aa,Nat.reduceEqDiff,aI,Tryz.results126,ac]
  refine au ⟨e4,bo.trans k2 fun k hk hi=>?_,fun k hk=>?_⟩
  ·have:=d1 k hi;omega
  ·rcases d2 with d2 | d2
   ·exact d1 k (d2 ▸ hk)
   ·exact Nat.le_trans bo.n (d2 k hk)
 ·obtain ⟨ae,c,k2⟩:=aK.own o (n:=(cs++enc (hX n)).length) (by simp [nH]) (by omega)
  exact ⟨ae,c,k.trans k2 fun j aX ad=>by have:=d j ad;omega⟩
theorem M6:∀ (an:List Nat) (k acc m used:Nat),(∀ b ∈ an,b<256)→dec an k acc=(m,used,0)→k<used∧∃ x,m=acc+x * 2 ^ (7 * k)∧an.take (used - k)=enc x∧(0<k→0<x)
 | [],k,acc,m,used,_,h=>by simp [dec] at h
 | g::r,k,acc,m,used,av,h=>by
  have aB:g<256:=av g (by simp)
  unfold dec at h
  split at h
  ·simp at h
  ·split at h
   ·rename_i ae
    obtain ⟨hu,x,aA,bk,bN⟩:=M6 r (k+1) _ m used (fun b hP=>av b (by simp [hP])) h
    have ak:=bN (by omega)
    refine ⟨by omega,g % 128+128 * x,?_,?_,by omega⟩
    ·rw [aA,Nat.mul_add,Nat.pow_add,Nat.add_mul,Nat.add_assoc]
     congr 2
     have e:(2:Nat) ^ (7 * 1)=128:=by decide
     rw [e,Nat.mul_comm (2 ^ (7 * k)) 128,←Nat.mul_assoc,Nat.mul_comm x 128]
    ·rw [show used - k=(used - (k+1))+1 by omega,List.take_succ_cons,bk,EZ (n:=g % 128+128 * x) (by omega)]
     congr 1
     ·omega
     ·congr 1;omega
   ·split at h
    ·simp at h
    ·rename_i h1 ae aA
     simp only [Prod.mk.injEq,and_true] at h
     obtain ⟨rfl,rfl⟩:=h
     refine ⟨by omega,g,?_,?_,by omega⟩
     ·rw [Nat.mod_eq_of_lt (by omega)]
     ·rw [show k+1 - k=1 by omega,CV (by omega)];rfl
theorem dec_lt:∀ (an:List Nat) (k acc:Nat),k≤9→acc<2 ^ (7 * k)→(∀ b ∈ an,b<256)→(dec an k acc).1<2 ^ 64
 | [],k,acc,_,_,_=>by simp [dec]
 | g::r,k,acc,hk,a6,av=>by
  have aB:g<256:=av g (by simp)
  unfold dec
  split
  ·simp
  ·rename_i h1
   have jG:=TM g k hk h1 aB
   have aG:=TO g acc k a6
   split
   ·rename_i ae
    by_cases TR:k≤8
    ·exact dec_lt r (k+1) _ (by omega) aG fun b hP=>av b (by simp [hP])
    ·exfalso
     omega
   ·split
    ·simp
    ·show acc+g % 128 * 2 ^ (7 * k)<2 ^ 64
     have e:(2:Nat) ^ 64=2 ^ (64 - 7 * k) * 2 ^ (7 * k):=by rw [←Nat.pow_add];congr 1;omega
     rw [e] at jG⊢
     have kC:g % 128<2 ^ (64 - 7 * k):=Nat.lt_of_mul_lt_mul_right jG
     calc acc+g % 128 * 2 ^ (7 * k)<2 ^ (7 * k)+g % 128 * 2 ^ (7 * k):=by omega
      _=(g % 128+1) * 2 ^ (7 * k):=by rw [Nat.add_mul];omega
      _≤_:=Nat.mul_le_mul_right _ kC
theorem ip:∀ (m n:Nat),n≤m→∀ b ∈ enc n,b<256
 | m,n,h,b,av=>by
  by_cases aG:n<128
  ·rw [CV aG] at av;simp at av;omega
  ·rw [EZ aG] at av
   rcases List.mem_cons.1 av with rfl | av
   ·omega
   ·cases m with
    | zero=>omega
    | succ m=>exact ip m (n / 128) (by omega) b av
theorem TS (r:List Nat):∀ (m x k acc:Nat),x≤m→k≤9→x * 2 ^ (7 * k)<2 ^ 64→(0<k→0<x)→dec (enc x++r) k acc=(acc+x * 2 ^ (7 * k),k+(enc x).length,0)
 | m,x,k,acc,hm,hk,ak,h0=>by
  by_cases ad:x<128
  ·rw [CV ad,List.cons_append,dec,if_neg,if_neg (by omega),if_neg,Nat.mod_eq_of_lt ad]
   ·rfl
   ·intro U;have:=h0 U.2;omega
   ·rintro ⟨rfl,h1⟩
    have ae:2 * 2 ^ (7 * 9)≤x * 2 ^ (7 * 9):=Nat.mul_le_mul_right _ h1
    have aA:2 * 2 ^ (7 * 9)=2 ^ 64:=by decide
    omega
  ·have TR:k≤8:=by
    rcases Nat.lt_or_ge k 9 with h | h
    ·omega
    ·have TT:k=9:=by omega
     subst TT
     have ae:128 * 2 ^ (7 * 9)≤x * 2 ^ (7 * 9):=Nat.mul_le_mul_right _ (by omega)
     have aA:2 ^ 64≤128 * 2 ^ (7 * 9):=by decide
     omega
   have su:2 ^ (7 * (k+1))=128 * 2 ^ (7 * k):=by rw [Nat.mul_add,Nat.pow_add,Nat.mul_comm]
   rw [EZ ad,List.cons_append,dec,if_neg (by omega),if_pos (by omega)]
   cases m with
   | zero=>omega
   | succ m=>
    rw [TS r m (x / 128) (k+1) _ (by omega) (by omega) (by
     rw [su,←Nat.mul_assoc]
     exact Nat.lt_of_le_of_lt (Nat.mul_le_mul_right _ (Nat.div_mul_le_self x 128)) ak) (by omega)]
    simp only [Prod.mk.injEq,List.length_cons,and_true]
    refine ⟨?_,by omega⟩
    rw [su]
    have ar:(x % 128+128) % 128=x % 128:=by omega
    rw [ar,←Nat.mul_assoc,Nat.add_assoc,←Nat.add_mul,Nat.mul_comm (x / 128) 128,Nat.mod_add_div]
theorem vP (x:Nat) (ak:x<2 ^ 64) (r:List Nat):dec (enc x++r) 0 0=(x,(enc x).length,0):=by
 rw [TS r x x 0 0 (Nat.le_refl _) (by omega) (by simpa using ak) (by omega)]
 simp
theorem aeo {l:List Int} {k:Nat} (hk:k<l.length):(aO l).drop (k * 1)=.int .i64 l[k]::aO (l.drop (k+1)):=by
 rw [Nat.mul_one]
 unfold aO
 rw [←List.map_drop,List.drop_eq_getElem_cons hk]
 rfl
theorem aep {l:List Int} {k:Nat} (hk:k<l.length) {t:TypeId} (ad:e5 Tryz.prog t=some 1):ir Tryz.prog t (.ag l.length (aO l)) (.int .i64 (k:Int))=some (.at (.int .i64 l[k]::aO (l.drop (k+1)))):=by
 rw [JW ad (by omega) (by omega) (by rw [pb];omega),Int.toNat_natCast,aeo hk]
theorem E3 {n:Nat} (h:n<2 ^ 64):IntKind.u64.wrap (n:Int)=(n:Int):=by rw [IntKind.wrap_u64];omega
def vQ (x:List Nat):List Nat:=enc x.length++x
def uJ (l:List Int):List Nat:=enc l.length++l.flatMap fun n=>enc (hX n)
theorem TU (s:V) (cs:List Nat) (m:Nat) (h:J) (rd:Rd h s cs) (aF:cs.length+m≤2 ^ 47) :
  ab Tryz.prog 157 [s,.int .i64 m] h (fun r h'=>Acc h h' 5 1 r (ep cs)) :=
 (fresh s cs m h rd aF).mono fun r h' ⟨e,o,k⟩=>⟨o,k,fun j aX=>by subst e;simp [aR] at aX;omega⟩
theorem M7 {h0:J} (s:V) (cs:List Nat) (n:Nat) (h:J) (a:Acc h0 h 5 1 s (ep cs)) (aF:cs.length≤2 ^ 46) (aG:n<2 ^ 64) :
  ab Tryz.prog 179 [s,.int .u64 n] h (fun r h'=>Acc h0 h' 5 1 r (ep (cs++enc n))) :=
 (M0 s cs n h a.own aF aG).mono fun r h' ⟨o,k,d⟩=>a.step o k d
theorem TV {α β:Type} (l:List α) (f:α→List β) {i:Nat} (hi:i<l.length):(l.take (i+1)).flatMap f=(l.take i).flatMap f++f l[i]:=by
 rw [List.take_succ_eq_append_getElem hi,List.flatMap_append];simp
theorem TW {l:List Int} (aM:∀ n ∈ l,-2 ^ 63≤n∧n<2 ^ 63):(l.flatMap fun n=>enc (hX n)).length≤10 * l.length:=by
 induction l with
 | nil=>simp
 | cons n l ih=>
  have h1:=ih fun n aG=>aM n (by simp [aG])
  have ae:=aM n (by simp)
  have:=(nI (hX n) (xe n ae.1 ae.2)).2
  simp only [List.flatMap_cons,List.length_append,List.length_cons]
  omega
def eV (n:Nat):Int:=if n % 2=0 then ((n / 2:Nat):Int) else -((n / 2:Nat):Int) - 1
theorem aeq (n:Nat) (aG:n<2 ^ 64):Cx .u64 (n:Int) 1=((n % 2:Nat):Int):=by
 show IntKind.u64.wrap ((BitVec.ofInt 64 (n:Int) &&& BitVec.ofInt 64 1).toNat:Int)=_
 have e:BitVec.ofInt 64 (1:Int)=BitVec.ofNat 64 1:=rfl
 have ar:(BitVec.ofNat 64 n &&& BitVec.ofNat 64 1).toNat=n % 2:=by
  rw [BitVec.toNat_and,BitVec.toNat_ofNat,BitVec.toNat_ofNat,Nat.mod_eq_of_lt aG,Nat.mod_eq_of_lt (by decide),Nat.and_one_is_mod]
 rw [Ad,e,ar,IntKind.wrap_u64]
 omega
theorem aer (a:Nat) (a6:a<2 ^ 63):rk .i64 (a:Int) 0=(a:Int):=by
 show IntKind.i64.wrap ((BitVec.ofInt 64 (a:Int) ^^^ BitVec.ofInt 64 0).toNat:Int)=_
 have e:BitVec.ofInt 64 (0:Int)=BitVec.ofNat 64 0:=rfl
 have ar:(BitVec.ofNat 64 a ^^^ BitVec.ofNat 64 0).toNat=a:=by
  rw [BitVec.toNat_xor,BitVec.toNat_ofNat,BitVec.toNat_ofNat,Nat.zero_mod,Nat.xor_zero]
  exact Nat.mod_eq_of_lt (by omega)
 rw [Ad,e,ar,IntKind.wrap_i64]
 omega
theorem aes (a:Nat) (a6:a<2 ^ 63):rk .i64 (a:Int) (-1)=-(a:Int) - 1:=by
 show IntKind.i64.wrap ((BitVec.ofInt 64 (a:Int) ^^^ BitVec.ofInt 64 (-1)).toNat:Int)=_
 have e:BitVec.ofInt 64 (-1:Int)=BitVec.allOnes 64:=by decide
 have ar:(BitVec.ofNat 64 a ^^^ BitVec.allOnes 64).toNat=18446744073709551615 - a:=by
  rw [BitVec.xor_allOnes,BitVec.toNat_not,BitVec.toNat_ofNat,Nat.mod_eq_of_lt (by omega)]
 rw [Ad,e,ar,IntKind.wrap_i64]
 omega
theorem aet (n:Nat) (aG:n<2 ^ 64):rk .i64 (IntKind.i64.wrap ((n:Int).fdiv (2 ^ min (Int.toNat 1) IntKind.u64.bits))) (IntKind.i64.wrap (0 - IntKind.i64.wrap (Cx .u64 (n:Int) 1)))=eV n:=by
 have ar:(2:Int) ^ min (Int.toNat 1) IntKind.u64.bits=2:=by decide
 have aT:IntKind.i64.wrap ((n:Int).fdiv 2)=((n / 2:Nat):Int):=by
  rw [Int.fdiv_eq_ediv_of_nonneg _ (by omega),Go.IntWalk.i64_in _ (by omega)];omega
 rw [ar,aT,aeq n aG,Go.IntWalk.i64_in ((n % 2:Nat):Int) (by omega),Go.IntWalk.i64_in _ (by omega)]
 unfold eV
 by_cases h:n % 2=0
 ·rw [if_pos h,h];exact aer _ (by omega)
 ·have h1:n % 2=1:=by omega
  rw [if_neg h,h1]
  exact aes _ (by omega)
theorem TX (n:Nat) (aG:n<2 ^ 64):-2 ^ 63≤eV n∧eV n<2 ^ 63:=by
 unfold eV
 split<;>omega
theorem aeu (n:Nat) (h:J) (aG:n<2 ^ 64):Pure Tryz.prog 200 [.int .u64 n] h (.int .i64 (eV n)):=by
 refine ab.ao (c:=_) Tryz.func200 rfl (by kernel_rfl) (by simp) ?_
 simp only [aa,Nat.reduceEqDiff,reduceCtorEq,G3 (show (0:Int)≤1 by decide),iZ ln sx,aI,Tryz.results200,ac]
 exact au ⟨by rw [aet n aG],rfl⟩
theorem Ae (p:V) (i:Nat) (an:List Nat) (h:J) (aU:cU h p i an) (av:∀ b ∈ an,b<256) (aF:an.length≤2 ^ 47) :
  ab Tryz.prog 159 [p] h (fun r h'=>r=.tuple [.int .i64 (eV (dec an 0 0).1),.int .i64 ((dec an 0 0).2.2:Nat)]∧cU h' p i (an.drop (dec an 0 0).2.1)∧I h h' (·=i)):=by
 refine ab.ao (c:=_) Tryz.func159 rfl (by kernel_rfl) (by simp) ?_
 simp only [aa,Nat.reduceEqDiff,reduceCtorEq]
 refine bU Ic (Iv p i an h aU av aF) fun r h1 ⟨ar,cA,bo⟩=>?_
 subst ar
 have aH:=dec_lt an 0 0 (by omega) (by decide) av
 by_cases gp:(dec an 0 0).2.2=0
 ·have bZ:((((dec an 0 0).2.2:Nat):Int) !=0)=false:=by simp [gp]
  simp only [aa,Nat.reduceEqDiff,bZ]
  refine bB acZ (aeu _ h1 aH) ?_
  simp only [aa,Nat.reduceEqDiff,aI,Tryz.results159,cW]
  exact au ⟨by rw [gp];rfl,cA,bo⟩
 ·have bZ:((((dec an 0 0).2.2:Nat):Int) !=0)=true:=by simp;omega
  have bb:=M4 an 0 0 gp
  simp only [aa,Nat.reduceEqDiff,bZ,aI,Tryz.results159,cW]
  refine au ⟨?_,cA,bo⟩
  rw [bb]
  have:eV 0=0:=by decide
  simp only [this]
def fZ (an:List Nat):List Nat×List Nat×Nat :=
 if (dec an 0 0).2.2≠0 then ([],an,(dec an 0 0).2.2)
 else if (an.drop (dec an 0 0).2.1).length<(dec an 0 0).1 then ([],an,4)
 else ((an.drop (dec an 0 0).2.1).take (dec an 0 0).1,(an.drop (dec an 0 0).2.1).drop (dec an 0 0).1,0)
theorem TY (l:List Nat) (k:Nat) (hk:k≤l.length) {kk:IntKind}:kz Tryz.prog 87 (.ag l.length (ep l)) (some (.int kk (k:Nat))) none none=some (.ag (l.drop k).length (ep (l.drop k))):=by
 rw [RA Iq (by omega) (by omega) (by rw [nH];omega)]
 rw [Int.toNat_natCast,Nat.mul_one]
 unfold ep
 rw [List.map_drop,List.length_drop]
theorem aev (l:List Nat) (k:Nat) (hk:k≤l.length) {kk:IntKind}:kz Tryz.prog 87 (.ag l.length (ep l)) none (some (.int kk (k:Nat))) none=some (.ag (l.take k).length (ep (l.take k))):=by
 rw [ajz Iq (by omega) (by omega) (by rw [nH];omega)]
 rw [Int.toNat_natCast,Nat.mul_one,List.length_take,Nat.min_eq_left hk]
 unfold ep
 rw [List.map_take]
theorem yC (h:J) (l:List V):aK (.tuple (.ah::l)) h (.tuple (.ag 0 []::l)) h:=fun ρ B bg w dY hw aN=>by
 cases aN with
 | tuple ad ak=>
  refine ⟨ρ,Ren.le.refl ρ,hw,.tuple ad fun k v v' a b=>?_⟩
  match k with
  | 0=>
   simp at a
   subst a
   have:=ak 0 .ah v' rfl b
   cases this
   exact .jE _ _ (by simp)
  | k+1=>exact ak (k+1) v v' (by simpa using a) b
theorem M8 (n:Int):eV (hX n)=n:=by
 unfold eV hX
 by_cases h:0≤n
 ·rw [if_pos h,if_pos (by omega)];omega
 ·rw [if_neg h,if_neg (by omega)];omega
def od:Nat→List Nat→List Int→List Int×List Nat×Nat
 | 0,rest,acc=>(acc,rest,0)
 | k+1,rest,acc=>
  if (dec rest 0 0).2.2≠0 then ([],[],(dec rest 0 0).2.2)
  else if eV (dec rest 0 0).1 < -2147483648∨2147483647<eV (dec rest 0 0).1 then ([],[],2)
  else od k (rest.drop (dec rest 0 0).2.1) (acc++[eV (dec rest 0 0).1])
def hh (an:List Nat) (most:Int):List Int×List Nat×Nat :=
 if (dec an 0 0).2.2≠0 then ([],an,(dec an 0 0).2.2)
 else if most<0∨most<((dec an 0 0).1:Nat) then ([],an,2)
 else if (od (dec an 0 0).1 (an.drop (dec an 0 0).2.1) []).2.2≠0 then ([],an,(od (dec an 0 0).1 (an.drop (dec an 0 0).2.1) []).2.2)
 else od (dec an 0 0).1 (an.drop (dec an 0 0).2.1) []
theorem TZ {rest:List Nat} (av:∀ b ∈ rest,b<256) (h:(dec rest 0 0).2.2=0):1≤(dec rest 0 0).2.1∧(dec rest 0 0).2.1≤rest.length:=by
 have h1:=(M6 rest 0 0 (dec rest 0 0).1 (dec rest 0 0).2.1 av (by
  have q:dec rest 0 0=((dec rest 0 0).1,(dec rest 0 0).2.1,(dec rest 0 0).2.2):=rfl
  rw [h] at q
  exact q)).1
 have ae:=M5 rest 0 0
 omega
theorem aew (h:J) (a:Int):lk Tryz.prog 24 1 [(0,.int .i64 a)] h=some (.bp h.n 0 1 1,h.push (.cells [.int .i64 a] 3 none)):=by rw [p0 tc];rfl
theorem T1 {P:Nat→Prop} {l:List Nat} (h:∀ b ∈ l,P b) (k:Nat):∀ b ∈ l.drop k,P b:=fun b av=>h b (List.mem_of_mem_drop av)
theorem aex (x r:List Nat) (ak:x.length<2 ^ 64):fZ (vQ x++r)=(x,r,0):=by
 unfold fZ vQ
 rw [List.append_assoc,vP _ ak]
 simp
theorem T2 (r:List Nat):∀ (l acc:List Int),(∀ n ∈ l,-2147483648≤n∧n≤2147483647)→od l.length ((l.flatMap fun n=>enc (hX n))++r) acc=(acc++l,r,0)
 | [],acc,_=>by simp [od]
 | n::l,acc,h=>by
  have h1:=h n (by simp)
  have b4:hX n<2 ^ 64:=by unfold hX;split<;>omega
  rw [List.length_cons,od,List.flatMap_cons,List.append_assoc,vP _ b4]
  simp only [M8]
  rw [if_neg (by simp),if_neg (by omega),List.drop_left,T2 r l (acc++[n]) fun m hm=>h m (by simp [hm])]
  simp
end Go.Proofs.YtedkjhifbibpmaaGreatDoor.Pk
