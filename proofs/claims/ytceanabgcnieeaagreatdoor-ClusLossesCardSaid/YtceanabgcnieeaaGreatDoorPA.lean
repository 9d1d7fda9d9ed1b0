/-
  What functions of the program do, told of abstract states. Conditions: as each theorem says.
-/
import Derived.Test.YtceanabgcnieeaaGreatDoorAbC
import Derived.Test.YtceanabgcnieeaaGreatDoorAbB
import Derived.Test.YtceanabgcnieeaaGreatDoorProg
set_option linter.unusedVariables false
set_option linter.unusedSimpArgs false
set_option maxHeartbeats 4000000
set_option maxRecDepth 10000
namespace Go.Proofs.YtceanabgcnieeaaGreatDoor.Pk
open Go Go.Proofs Go.Proofs.YtceanabgcnieeaaGreatDoor.Ab
theorem afy:qV Tryz.prog 196=none:=by kernel_rfl
theorem afz:qV Tryz.prog 254=some (7,1):=by kernel_rfl
theorem Sn:qV Tryz.prog 262=some (5,1):=by kernel_rfl
theorem Sp:qV Tryz.prog 322=some (3,1):=by kernel_rfl
theorem ES:bP Tryz.prog 10=true:=by kernel_rfl
theorem Sq:bP Tryz.prog 100=true:=by kernel_rfl
theorem Sr:bP Tryz.prog 101=true:=by kernel_rfl
theorem afA:bP Tryz.prog 102=true:=by kernel_rfl
theorem afB:bP Tryz.prog 103=true:=by kernel_rfl
theorem afC:bP Tryz.prog 104=true:=by kernel_rfl
theorem IG:bP Tryz.prog 106=true:=by kernel_rfl
theorem afD:bP Tryz.prog 107=true:=by kernel_rfl
theorem ET:bP Tryz.prog 109=true:=by kernel_rfl
theorem MY:bP Tryz.prog 11=true:=by kernel_rfl
theorem afE:bP Tryz.prog 110=true:=by kernel_rfl
theorem afF:bP Tryz.prog 113=true:=by kernel_rfl
theorem MZ:bP Tryz.prog 114=true:=by kernel_rfl
theorem Ss:bP Tryz.prog 115=true:=by kernel_rfl
theorem afG:bP Tryz.prog 116=true:=by kernel_rfl
theorem afH:bP Tryz.prog 117=true:=by kernel_rfl
theorem afI:bP Tryz.prog 118=true:=by kernel_rfl
theorem Cn:bP Tryz.prog 119=true:=by kernel_rfl
theorem M0:bP Tryz.prog 12=true:=by kernel_rfl
theorem St:bP Tryz.prog 120=true:=by kernel_rfl
theorem Su:bP Tryz.prog 121=true:=by kernel_rfl
theorem afJ:bP Tryz.prog 123=true:=by kernel_rfl
theorem afK:bP Tryz.prog 124=true:=by kernel_rfl
theorem afL:bP Tryz.prog 125=true:=by kernel_rfl
theorem afM:bP Tryz.prog 126=true:=by kernel_rfl
theorem afN:bP Tryz.prog 127=true:=by kernel_rfl
theorem Sv:bP Tryz.prog 128=true:=by kernel_rfl
theorem afO:bP Tryz.prog 13=true:=by kernel_rfl
theorem afP:bP Tryz.prog 139=true:=by kernel_rfl
theorem afQ:bP Tryz.prog 14=true:=by kernel_rfl
theorem afR:bP Tryz.prog 142=true:=by kernel_rfl
theorem M1:bP Tryz.prog 143=true:=by kernel_rfl
theorem IH:bP Tryz.prog 144=true:=by kernel_rfl
theorem afS:bP Tryz.prog 145=true:=by kernel_rfl
theorem afT:bP Tryz.prog 146=true:=by kernel_rfl
theorem afU:bP Tryz.prog 149=true:=by kernel_rfl
theorem Sw:bP Tryz.prog 150=true:=by kernel_rfl
theorem afV:bP Tryz.prog 151=true:=by kernel_rfl
theorem afW:bP Tryz.prog 153=true:=by kernel_rfl
theorem afX:bP Tryz.prog 154=true:=by kernel_rfl
theorem Sx:bP Tryz.prog 155=true:=by kernel_rfl
theorem afY:bP Tryz.prog 156=true:=by kernel_rfl
theorem afZ:bP Tryz.prog 157=true:=by kernel_rfl
theorem af0:bP Tryz.prog 158=true:=by kernel_rfl
theorem af1:bP Tryz.prog 159=true:=by kernel_rfl
theorem af2:bP Tryz.prog 160=true:=by kernel_rfl
theorem Sy:bP Tryz.prog 161=true:=by kernel_rfl
theorem af3:bP Tryz.prog 163=true:=by kernel_rfl
theorem af4:bP Tryz.prog 164=true:=by kernel_rfl
theorem af5:bP Tryz.prog 174=true:=by kernel_rfl
theorem Sz:bP Tryz.prog 175=true:=by kernel_rfl
theorem af6:bP Tryz.prog 176=true:=by kernel_rfl
theorem af7:bP Tryz.prog 185=true:=by kernel_rfl
theorem af8:bP Tryz.prog 186=true:=by kernel_rfl
theorem af9:bP Tryz.prog 195=true:=by kernel_rfl
theorem SA:bP Tryz.prog 196=true:=by kernel_rfl
theorem M3:bP Tryz.prog 199=true:=by kernel_rfl
theorem aga:bP Tryz.prog 200=true:=by kernel_rfl
theorem agb:bP Tryz.prog 201=true:=by kernel_rfl
theorem agc:bP Tryz.prog 202=true:=by kernel_rfl
theorem agd:bP Tryz.prog 22=true:=by kernel_rfl
theorem age:bP Tryz.prog 23=true:=by kernel_rfl
theorem agf:bP Tryz.prog 230=true:=by kernel_rfl
theorem agh:bP Tryz.prog 233=true:=by kernel_rfl
theorem agi:bP Tryz.prog 235=true:=by kernel_rfl
theorem agj:bP Tryz.prog 237=true:=by kernel_rfl
theorem agk:bP Tryz.prog 24=true:=by kernel_rfl
theorem agl:bP Tryz.prog 25=true:=by kernel_rfl
theorem agm:bP Tryz.prog 259=true:=by kernel_rfl
theorem No:bP Tryz.prog 26=true:=by kernel_rfl
theorem agn:bP Tryz.prog 260=true:=by kernel_rfl
theorem ago:bP Tryz.prog 27=true:=by kernel_rfl
theorem agp:bP Tryz.prog 275=true:=by kernel_rfl
theorem agq:bP Tryz.prog 276=true:=by kernel_rfl
theorem Nm:bP Tryz.prog 28=true:=by kernel_rfl
theorem agr:bP Tryz.prog 29=true:=by kernel_rfl
theorem ags:bP Tryz.prog 30=true:=by kernel_rfl
theorem agt:bP Tryz.prog 31=true:=by kernel_rfl
theorem agu:bP Tryz.prog 32=true:=by kernel_rfl
theorem agv:bP Tryz.prog 33=true:=by kernel_rfl
theorem agw:bP Tryz.prog 379=true:=by kernel_rfl
theorem agx:bP Tryz.prog 38=true:=by kernel_rfl
theorem agy:bP Tryz.prog 380=true:=by kernel_rfl
theorem agz:bP Tryz.prog 381=true:=by kernel_rfl
theorem agA:bP Tryz.prog 39=true:=by kernel_rfl
theorem SB:bP Tryz.prog 45=true:=by kernel_rfl
theorem agB:bP Tryz.prog 49=true:=by kernel_rfl
theorem agC:bP Tryz.prog 50=true:=by kernel_rfl
theorem agD:bP Tryz.prog 51=true:=by kernel_rfl
theorem M4:bP Tryz.prog 52=true:=by kernel_rfl
theorem SC:bP Tryz.prog 54=true:=by kernel_rfl
theorem agE:bP Tryz.prog 58=true:=by kernel_rfl
theorem agF:bP Tryz.prog 59=true:=by kernel_rfl
theorem agG:bP Tryz.prog 65=true:=by kernel_rfl
theorem agH:bP Tryz.prog 66=true:=by kernel_rfl
theorem agI:bP Tryz.prog 67=true:=by kernel_rfl
theorem SD:bP Tryz.prog 68=true:=by kernel_rfl
theorem agJ:bP Tryz.prog 69=true:=by kernel_rfl
theorem M5:bP Tryz.prog 7=true:=by kernel_rfl
theorem agK:bP Tryz.prog 70=true:=by kernel_rfl
theorem Co:bP Tryz.prog 74=true:=by kernel_rfl
theorem zA:bP Tryz.prog 75=true:=by kernel_rfl
theorem SE:bP Tryz.prog 76=true:=by kernel_rfl
theorem M2:bP Tryz.prog 79=true:=by kernel_rfl
theorem M6:bP Tryz.prog 8=true:=by kernel_rfl
theorem SF:bP Tryz.prog 80=true:=by kernel_rfl
theorem agL:bP Tryz.prog 81=true:=by kernel_rfl
theorem agM:bP Tryz.prog 82=true:=by kernel_rfl
theorem agN:bP Tryz.prog 83=true:=by kernel_rfl
theorem SG:bP Tryz.prog 84=true:=by kernel_rfl
theorem II:bP Tryz.prog 87=true:=by kernel_rfl
theorem M7:bP Tryz.prog 9=true:=by kernel_rfl
theorem agO:bP Tryz.prog 92=true:=by kernel_rfl
theorem agP:bP Tryz.prog 93=true:=by kernel_rfl
theorem M8:bP Tryz.prog 99=true:=by kernel_rfl
theorem agQ:dO Tryz.prog 115 0=some 0:=by kernel_rfl
theorem Cp:dO Tryz.prog 115 1=some 1:=by kernel_rfl
theorem xK:dO Tryz.prog 115 2=some 2:=by kernel_rfl
theorem M9:dO Tryz.prog 115 3=some 3:=by kernel_rfl
theorem zB:dO Tryz.prog 115 4=some 4:=by kernel_rfl
theorem Na:dO Tryz.prog 134 0=some 0:=by kernel_rfl
theorem Nb:dO Tryz.prog 134 1=some 1:=by kernel_rfl
theorem sb:dO Tryz.prog 140 0=some 0:=by kernel_rfl
theorem EU:dO Tryz.prog 140 1=some 1:=by kernel_rfl
theorem vV:dO Tryz.prog 140 2=some 2:=by kernel_rfl
theorem zC:dO Tryz.prog 140 3=some 3:=by kernel_rfl
theorem Cq:dO Tryz.prog 140 4=some 4:=by kernel_rfl
theorem EV:dO Tryz.prog 140 5=some 5:=by kernel_rfl
theorem IJ:dO Tryz.prog 140 6=some 8:=by kernel_rfl
theorem EW:dO Tryz.prog 140 7=some 9:=by kernel_rfl
theorem EX:dO Tryz.prog 140 8=some 10:=by kernel_rfl
theorem SH:dO Tryz.prog 152 0=some 0:=by kernel_rfl
theorem zD:dO Tryz.prog 152 1=some 1:=by kernel_rfl
theorem SI:dO Tryz.prog 152 2=some 2:=by kernel_rfl
theorem IK:dO Tryz.prog 157 0=some 0:=by kernel_rfl
theorem tn:dO Tryz.prog 157 1=some 1:=by kernel_rfl
theorem EY:dO Tryz.prog 157 2=some 2:=by kernel_rfl
theorem zE:dO Tryz.prog 159 0=some 0:=by kernel_rfl
theorem tp:dO Tryz.prog 159 1=some 1:=by kernel_rfl
theorem zF:dO Tryz.prog 159 2=some 2:=by kernel_rfl
theorem IL:dO Tryz.prog 159 3=some 3:=by kernel_rfl
theorem EZ:dO Tryz.prog 165 0=some 0:=by kernel_rfl
theorem uv:dO Tryz.prog 198 0=some 0:=by kernel_rfl
theorem Cr:dO Tryz.prog 198 1=some 6:=by kernel_rfl
theorem Nc:dO Tryz.prog 214 0=some 0:=by kernel_rfl
theorem E0:dO Tryz.prog 214 1=some 1:=by kernel_rfl
theorem agR:dO Tryz.prog 214 2=some 2:=by kernel_rfl
theorem E1:dO Tryz.prog 218 0=some 0:=by kernel_rfl
theorem E2:dO Tryz.prog 224 0=some 0:=by kernel_rfl
theorem E3:dO Tryz.prog 224 1=some 1:=by kernel_rfl
theorem Cs:dO Tryz.prog 224 2=some 2:=by kernel_rfl
theorem agS:dO Tryz.prog 258 0=some 0:=by kernel_rfl
theorem SJ:dO Tryz.prog 306 0=some 0:=by kernel_rfl
theorem agT:dO Tryz.prog 306 1=some 1:=by kernel_rfl
theorem agU:dO Tryz.prog 30 0=some 0:=by kernel_rfl
theorem SK:dO Tryz.prog 30 1=some 1:=by kernel_rfl
theorem SL:dO Tryz.prog 331 2=some 0:=by kernel_rfl
theorem SM:dO Tryz.prog 37 0=some 0:=by kernel_rfl
theorem agV:dO Tryz.prog 37 1=some 1:=by kernel_rfl
theorem E4:dO Tryz.prog 37 2=some 2:=by kernel_rfl
theorem agW:dO Tryz.prog 39 0=some 0:=by kernel_rfl
theorem SN:dO Tryz.prog 39 1=some 1:=by kernel_rfl
theorem SO:dO Tryz.prog 39 6=some 6:=by kernel_rfl
theorem SP:dO Tryz.prog 39 7=some 9:=by kernel_rfl
theorem Nd:dO Tryz.prog 43 0=some 0:=by kernel_rfl
theorem SQ:dO Tryz.prog 46 0=some 0:=by kernel_rfl
theorem IM:dO Tryz.prog 46 1=some 1:=by kernel_rfl
theorem IP:dO Tryz.prog 46 2=some 2:=by kernel_rfl
theorem agX:dO Tryz.prog 52 0=some 0:=by kernel_rfl
theorem zG:dO Tryz.prog 52 1=some 1:=by kernel_rfl
theorem E5:dO Tryz.prog 52 2=some 2:=by kernel_rfl
theorem agY:dO Tryz.prog 52 3=some 3:=by kernel_rfl
theorem agZ:dO Tryz.prog 52 4=some 4:=by kernel_rfl
theorem ag0:dO Tryz.prog 52 5=some 5:=by kernel_rfl
theorem SR:dO Tryz.prog 74 0=some 0:=by kernel_rfl
theorem IQ:dO Tryz.prog 74 1=some 2:=by kernel_rfl
theorem ag1:dO Tryz.prog 74 2=some 3:=by kernel_rfl
theorem ag2:dO Tryz.prog 74 3=some 4:=by kernel_rfl
theorem ag3:dO Tryz.prog 82 0=some 0:=by kernel_rfl
theorem ag4:Df Tryz.prog 116=some false:=by kernel_rfl
theorem jS:l5 Tryz.prog 106=some .u64:=by kernel_rfl
theorem Nf:l5 Tryz.prog 125=some .u64:=by kernel_rfl
theorem Ng:l5 Tryz.prog 170=some .u32:=by kernel_rfl
theorem E6:l5 Tryz.prog 2=some .i64:=by kernel_rfl
theorem gG:l5 Tryz.prog 3=some .i64:=by kernel_rfl
theorem iq:l5 Tryz.prog 5=some .u8:=by kernel_rfl
theorem SS:gL Tryz.prog 112=some 1:=by kernel_rfl
theorem IU:gL Tryz.prog 113=some 1:=by kernel_rfl
theorem xL:gL Tryz.prog 116=some 0:=by kernel_rfl
theorem SU:gL Tryz.prog 119=some 0:=by kernel_rfl
theorem ag5:gL Tryz.prog 121=some 0:=by kernel_rfl
theorem Nh:gL Tryz.prog 153=some 0:=by kernel_rfl
theorem E7:gL Tryz.prog 196=some 1:=by kernel_rfl
theorem SV:gL Tryz.prog 212=some 0:=by kernel_rfl
theorem uw:gL Tryz.prog 22=some 1:=by kernel_rfl
theorem ag6:gL Tryz.prog 236=some 1:=by kernel_rfl
theorem Ni:gL Tryz.prog 24=some 0:=by kernel_rfl
theorem xM:gL Tryz.prog 240=some 1:=by kernel_rfl
theorem ag7:gL Tryz.prog 28=some 1:=by kernel_rfl
theorem xN:gL Tryz.prog 34=some 1:=by kernel_rfl
theorem IV:gL Tryz.prog 40=some 1:=by kernel_rfl
theorem Nj:gL Tryz.prog 41=some 1:=by kernel_rfl
theorem o4:gL Tryz.prog 50=some 1:=by kernel_rfl
theorem gH:gL Tryz.prog 56=some 1:=by kernel_rfl
theorem zH:gL Tryz.prog 67=some 0:=by kernel_rfl
theorem SX:gL Tryz.prog 88=some 1:=by kernel_rfl
theorem ag8:loadT Tryz.prog 111=some none:=by kernel_rfl
theorem E8:loadT Tryz.prog 112=some none:=by kernel_rfl
theorem xO:loadT Tryz.prog 113=some none:=by kernel_rfl
theorem Ct:loadT Tryz.prog 119=some none:=by kernel_rfl
theorem Nk:loadT Tryz.prog 131=some none:=by kernel_rfl
theorem Nl:loadT Tryz.prog 132=some none:=by kernel_rfl
theorem zI:loadT Tryz.prog 134=some (some 2):=by kernel_rfl
theorem mf:loadT Tryz.prog 140=some (some 11):=by kernel_rfl
theorem IW:loadT Tryz.prog 153=some none:=by kernel_rfl
theorem E9:loadT Tryz.prog 155=some none:=by kernel_rfl
theorem o5:loadT Tryz.prog 159=some (some 4):=by kernel_rfl
theorem Nn:loadT Tryz.prog 196=some none:=by kernel_rfl
theorem nj:loadT Tryz.prog 2=some none:=by kernel_rfl
theorem Np:loadT Tryz.prog 212=some none:=by kernel_rfl
theorem Fa:loadT Tryz.prog 216=some none:=by kernel_rfl
theorem Nq:loadT Tryz.prog 22=some none:=by kernel_rfl
theorem sc:loadT Tryz.prog 224=some (some 3):=by kernel_rfl
theorem SY:loadT Tryz.prog 236=some none:=by kernel_rfl
theorem ag9:loadT Tryz.prog 240=some none:=by kernel_rfl
theorem aha:loadT Tryz.prog 258=some (some 12):=by kernel_rfl
theorem ahb:loadT Tryz.prog 28=some none:=by kernel_rfl
theorem bz:loadT Tryz.prog 3=some none:=by kernel_rfl
theorem Fb:loadT Tryz.prog 30=some (some 2):=by kernel_rfl
theorem Fc:loadT Tryz.prog 34=some none:=by kernel_rfl
theorem ux:loadT Tryz.prog 37=some (some 3):=by kernel_rfl
theorem SZ:loadT Tryz.prog 378=some (some 4):=by kernel_rfl
theorem ahc:loadT Tryz.prog 39=some (some 10):=by kernel_rfl
theorem iN:loadT Tryz.prog 4=some none:=by kernel_rfl
theorem Nr:loadT Tryz.prog 40=some none:=by kernel_rfl
theorem Ns:loadT Tryz.prog 43=some (some 3):=by kernel_rfl
theorem y4:loadT Tryz.prog 46=some (some 3):=by kernel_rfl
theorem nk:loadT Tryz.prog 5=some none:=by kernel_rfl
theorem vW:loadT Tryz.prog 50=some none:=by kernel_rfl
theorem ahd:loadT Tryz.prog 52=some (some 6):=by kernel_rfl
theorem lB:loadT Tryz.prog 56=some none:=by kernel_rfl
theorem xP:loadT Tryz.prog 67=some none:=by kernel_rfl
theorem ahe:loadT Tryz.prog 72=some none:=by kernel_rfl
theorem Fe:eo Tryz.prog 155=some (3,224,.int .i64):=by kernel_rfl
theorem S0:eo Tryz.prog 85=some (3,83,.int .i64):=by kernel_rfl
theorem ahf:bP Tryz.prog 231=false:=by kernel_rfl
theorem ahg:bP Tryz.prog 232=false:=by kernel_rfl
theorem ahh:fz Tryz.prog 115=some (.inl [(0,1),(1,1),(2,1),(3,1),(4,1)]):=by kernel_rfl
theorem ahi:fz Tryz.prog 134=some (.inl [(0,1),(1,1)]):=by kernel_rfl
theorem tq:fz Tryz.prog 140=some (.inl [(0,1),(1,1),(2,1),(3,1),(4,1),(5,3),(8,1),(9,1),(10,1)]):=by kernel_rfl
theorem ahj:fz Tryz.prog 152=some (.inl [(0,1),(1,1),(2,1)]):=by kernel_rfl
theorem ahk:fz Tryz.prog 157=some (.inl [(0,1),(1,1),(2,1)]):=by kernel_rfl
theorem IX:fz Tryz.prog 159=some (.inl [(0,1),(1,1),(2,1),(3,1)]):=by kernel_rfl
theorem S1:fz Tryz.prog 165=some (.inl [(0,1)]):=by kernel_rfl
theorem ahl:fz Tryz.prog 198=some (.inl [(0,6),(6,1)]):=by kernel_rfl
theorem ahm:fz Tryz.prog 214=some (.inl [(0,1),(1,1),(2,1)]):=by kernel_rfl
theorem ahn:fz Tryz.prog 218=some (.inl [(0,1)]):=by kernel_rfl
theorem aho:fz Tryz.prog 224=some (.inl [(0,1),(1,1),(2,1)]):=by kernel_rfl
theorem ahp:fz Tryz.prog 258=some (.inl [(0,11),(11,1)]):=by kernel_rfl
theorem ahq:fz Tryz.prog 262=some (.inr 1):=by kernel_rfl
theorem ahr:fz Tryz.prog 306=some (.inl [(0,1),(1,1)]):=by kernel_rfl
theorem ahs:fz Tryz.prog 307=some (.inr 2):=by kernel_rfl
theorem Ff:fz Tryz.prog 37=some (.inl [(0,1),(1,1),(2,1)]):=by kernel_rfl
theorem Fg:fz Tryz.prog 39=some (.inl [(0,1),(1,1),(2,1),(3,1),(4,1),(5,1),(6,3),(9,1)]):=by kernel_rfl
theorem aht:fz Tryz.prog 43=some (.inl [(0,1),(1,1),(2,1)]):=by kernel_rfl
theorem S2:fz Tryz.prog 46=some (.inl [(0,1),(1,1),(2,1)]):=by kernel_rfl
theorem ahu:fz Tryz.prog 52=some (.inl [(0,1),(1,1),(2,1),(3,1),(4,1),(5,1)]):=by kernel_rfl
theorem ahv:fz Tryz.prog 74=some (.inl [(0,2),(2,1),(3,1),(4,1)]):=by kernel_rfl
theorem ahw:Mb Tryz.prog 46 1=some (1,none):=by kernel_rfl
theorem ahx:HT Tryz.prog 37=some [0,0,0]:=by kernel_rfl
theorem S3:fF Tryz.prog 111=some ⟨116,[.en],1,8⟩:=by kernel_rfl
theorem S4:fF Tryz.prog 112=some ⟨119,[.en],1,8⟩:=by kernel_rfl
theorem Cu:fF Tryz.prog 113=some ⟨56,[.ag],1,24⟩:=by kernel_rfl
theorem S5:fF Tryz.prog 196=some ⟨258,[.int .i64 0,.int .i64 0,.int .i64 0,.int .i64 0,.int .i64 0,.int .i64 0,.int .i64 0,.int .i64 0,.bool false,.ag,.ag,.int .i64 0],12,128⟩:=by kernel_rfl
theorem Fh:fF Tryz.prog 22=some ⟨37,[.int .i64 0,.int .i64 0,.int .i64 0],3,24⟩:=by kernel_rfl
theorem S6:fF Tryz.prog 236=some ⟨240,[.ag],1,24⟩:=by kernel_rfl
theorem Fi:fF Tryz.prog 240=some ⟨224,[.int .i64 0,.int .i64 0,.ag],3,40⟩:=by kernel_rfl
theorem Cv:fF Tryz.prog 34=some ⟨4,[.bool false],1,1⟩:=by kernel_rfl
theorem S7:fF Tryz.prog 40=some ⟨46,[.int .i64 0,.ag,.ag],3,56⟩:=by kernel_rfl
theorem S8:fF Tryz.prog 41=some ⟨52,[.int .i64 0,.int .i64 0,.int .i64 0,.ag,.ag,.int .i64 0],6,80⟩:=by kernel_rfl
theorem xQ:fF Tryz.prog 50=some ⟨3,[.int .i64 0],1,8⟩:=by kernel_rfl
theorem qv:fF Tryz.prog 56=some ⟨5,[.int .u8 0],1,1⟩:=by kernel_rfl
theorem S9:fF Tryz.prog 72=some ⟨75,[.dk],1,8⟩:=by kernel_rfl
theorem Ta:fF Tryz.prog 88=some ⟨140,[.int .i64 0,.int .i64 0,.int .i64 0,.int .i64 0,.int .i64 0,.int .i64 0,.int .i64 0,.int .i64 0,.bool false,.ag,.ag],11,120⟩:=by kernel_rfl
theorem Tb:ee Tryz.prog 112=some 1:=by kernel_rfl
theorem IY:ee Tryz.prog 113=some 1:=by kernel_rfl
theorem Nt:ee Tryz.prog 196=some 12:=by kernel_rfl
theorem Tc:ee Tryz.prog 22=some 3:=by kernel_rfl
theorem ahy:ee Tryz.prog 236=some 1:=by kernel_rfl
theorem Td:ee Tryz.prog 240=some 3:=by kernel_rfl
theorem ahz:ee Tryz.prog 254=none:=by kernel_rfl
theorem Te:ee Tryz.prog 262=none:=by kernel_rfl
theorem Tf:ee Tryz.prog 322=none:=by kernel_rfl
theorem Nu:ee Tryz.prog 34=some 1:=by kernel_rfl
theorem ahA:ee Tryz.prog 40=some 3:=by kernel_rfl
theorem Nv:ee Tryz.prog 50=some 1:=by kernel_rfl
theorem Cw:ee Tryz.prog 56=some 1:=by kernel_rfl
theorem ahB:ee Tryz.prog 88=some 11:=by kernel_rfl
theorem Nw:vG Tryz.prog 9=true:=by kernel_rfl
theorem ahC:gw Tryz.prog 115=some [.ag,.ag,.bool false,.int .i64 0,.ag]:=by kernel_rfl
theorem Tg:gw Tryz.prog 134=some [.dk,.dk]:=by kernel_rfl
theorem o6:gw Tryz.prog 140=some [.int .i64 0,.int .i64 0,.int .i64 0,.int .i64 0,.int .i64 0,.int .i64 0,.int .i64 0,.int .i64 0,.bool false,.ag,.ag]:=by kernel_rfl
theorem ahD:gw Tryz.prog 152=some [.int .i64 0,.ag,.int .i64 0]:=by kernel_rfl
theorem IT:gw Tryz.prog 157=some [.en,.int .i64 0,.dk]:=by kernel_rfl
theorem zJ:gw Tryz.prog 159=some [.int .i64 0,.int .i64 0,.int .i64 0,.ag]:=by kernel_rfl
theorem Th:gw Tryz.prog 165=some [.ag]:=by kernel_rfl
theorem IR:gw Tryz.prog 198=some [.int .i64 0,.int .i64 0,.int .i64 0,.ag,.ag,.int .i64 0,.ag]:=by kernel_rfl
theorem ahE:gw Tryz.prog 214=some [.en,.ag,.int .i64 0]:=by kernel_rfl
theorem ahF:gw Tryz.prog 218=some [.nilIface]:=by kernel_rfl
theorem rb:gw Tryz.prog 224=some [.int .i64 0,.int .i64 0,.ag]:=by kernel_rfl
theorem ahG:gw Tryz.prog 236=some [.ag]:=by kernel_rfl
theorem Ti:gw Tryz.prog 258=some [.int .i64 0,.int .i64 0,.int .i64 0,.int .i64 0,.int .i64 0,.int .i64 0,.int .i64 0,.int .i64 0,.bool false,.ag,.ag,.int .i64 0]:=by kernel_rfl
theorem Tj:gw Tryz.prog 262=some [.int .i64 0,.int .i64 0,.int .i64 0,.int .i64 0,.int .i64 0]:=by kernel_rfl
theorem ahH:gw Tryz.prog 30=some [.ag,.int .i64 0]:=by kernel_rfl
theorem Nx:gw Tryz.prog 306=some [.bool false,.int .i64 0]:=by kernel_rfl
theorem ahI:gw Tryz.prog 307=some [.bool false,.int .i64 0,.bool false,.int .i64 0,.bool false,.int .i64 0,.bool false,.int .i64 0,.bool false,.int .i64 0,.bool false,.int .i64 0,.bool false,.int .i64 0,.bool false,.int .i64 0]:=by kernel_rfl
theorem ahJ:gw Tryz.prog 322=some [.int .i64 0,.int .i64 0,.int .i64 0]:=by kernel_rfl
theorem Tk:gw Tryz.prog 331=some [.int .i64 0]:=by kernel_rfl
theorem xR:gw Tryz.prog 37=some [.int .i64 0,.int .i64 0,.int .i64 0]:=by kernel_rfl
theorem IZ:gw Tryz.prog 378=some [.int .u8 0,.int .u8 0,.int .u8 0,.int .u8 0]:=by kernel_rfl
theorem Fj:gw Tryz.prog 39=some [.int .i64 0,.int .i64 0,.int .i64 0,.int .i64 0,.int .i64 0,.int .i64 0,.int .i64 0,.int .i64 0,.int .i64 0,.ag]:=by kernel_rfl
theorem Fk:gw Tryz.prog 43=some [.ag,.ag,.int .i64 0]:=by kernel_rfl
theorem Tl:gw Tryz.prog 46=some [.int .i64 0,.ag,.ag]:=by kernel_rfl
theorem Tm:gw Tryz.prog 52=some [.int .i64 0,.int .i64 0,.int .i64 0,.ag,.ag,.int .i64 0]:=by kernel_rfl
theorem ahK:gw Tryz.prog 74=some [.ag,.int .i64 0,.en,.ag,.ag]:=by kernel_rfl
theorem ahL:ap Tryz.prog 111=some 1:=by kernel_rfl
theorem ahM:ap Tryz.prog 112=some 1:=by kernel_rfl
theorem I0:ap Tryz.prog 113=some 1:=by kernel_rfl
theorem Ny:ap Tryz.prog 134=some 2:=by kernel_rfl
theorem qw:ap Tryz.prog 140=some 11:=by kernel_rfl
theorem uy:ap Tryz.prog 159=some 4:=by kernel_rfl
theorem ahN:ap Tryz.prog 165=some 1:=by kernel_rfl
theorem I1:ap Tryz.prog 196=some 1:=by kernel_rfl
theorem Nz:ap Tryz.prog 2=some 1:=by kernel_rfl
theorem NA:ap Tryz.prog 22=some 1:=by kernel_rfl
theorem d8:ap Tryz.prog 224=some 3:=by kernel_rfl
theorem ahO:ap Tryz.prog 236=some 1:=by kernel_rfl
theorem ahP:ap Tryz.prog 258=some 12:=by kernel_rfl
theorem kH:ap Tryz.prog 3=some 1:=by kernel_rfl
theorem ahQ:ap Tryz.prog 30=some 2:=by kernel_rfl
theorem Tn:ap Tryz.prog 306=some 2:=by kernel_rfl
theorem NB:ap Tryz.prog 34=some 1:=by kernel_rfl
theorem I2:ap Tryz.prog 37=some 3:=by kernel_rfl
theorem To:ap Tryz.prog 378=some 4:=by kernel_rfl
theorem vX:ap Tryz.prog 4=some 1:=by kernel_rfl
theorem I3:ap Tryz.prog 43=some 3:=by kernel_rfl
theorem NC:ap Tryz.prog 46=some 3:=by kernel_rfl
theorem ND:ap Tryz.prog 5=some 1:=by kernel_rfl
theorem NF:ap Tryz.prog 50=some 1:=by kernel_rfl
theorem ahR:ap Tryz.prog 52=some 6:=by kernel_rfl
theorem vY:ap Tryz.prog 56=some 1:=by kernel_rfl
theorem LE:ap Tryz.prog 72=some 1:=by kernel_rfl
def bp (l:List Nat):List V:=l.map fun (n:Nat)=>V.int .u8 (n:Int)
theorem Cx (l:List Nat):(bp l).all (·.one)=true:=by
 rw [List.all_eq_true];intro x af
 obtain ⟨n,_,rfl⟩:=List.mem_map.1 af
 rfl
theorem Fl (a b:List Nat):bp (a++b)=bp a++bp b:=by simp [bp]
theorem am (a:List Nat):(bp a).length=a.length:=by simp [bp]
theorem re (a:List Nat):aO (bp a):=aO.map fun _ _=>bb.int _ _
def enc (n:Nat):List Nat:=if n<128 then [n] else (n % 128+128)::enc (n / 128)
termination_by n
theorem Cy {n:Nat} (h:n<128):enc n=[n]:=by rw [enc,if_pos h]
theorem Fm {n:Nat} (h:¬n<128):enc n=(n % 128+128)::enc (n / 128):=by rw [enc,if_neg h]
theorem ahS (k:Nat):∀ n,n<128 ^ (k+1)→1≤(enc n).length∧(enc n).length≤k+1:=by
 induction k with
 | zero=>intro n h;rw [Cy (by simpa using h)];simp
 | succ k ih=>
  intro n h
  by_cases aJ:n<128
  ·rw [Cy aJ];simp
  ·rw [Fm aJ]
   have:=ih (n / 128) (by rw [Nat.pow_succ] at h;exact Nat.div_lt_of_lt_mul (by rw [Nat.mul_comm];exact h))
   simp;omega
theorem hB (n:Nat) (h:n<2 ^ 64):1≤(enc n).length∧(enc n).length≤10:=by
 have:(2:Nat) ^ 64<128 ^ 10:=by decide
 exact ahS 9 n (by omega)
theorem ahT (n:Nat):qc .u8 (IntKind.u8.wrap (n:Int)) 128=((n % 128+128:Nat):Int):=by
 rw [IntKind.wrap_u8]
 unfold qc
 rw [IntKind.wrap_u8]
 have aK:BitVec.ofInt IntKind.u8.bits ((n:Int) % 256)=BitVec.ofNat 8 (n % 256):=by
  apply BitVec.eq_of_toNat_eq
  simp [IntKind.bits]
  omega
 rw [aK]
 have h:∀ m:Fin 256,((BitVec.ofNat 8 m.val ||| BitVec.ofInt 8 128).toNat:Int) % 256=((m.val % 128+128:Nat):Int):=by decide +kernel
 have:=h ⟨n % 256,Nat.mod_lt _ (by decide)⟩
 have a6:((n % 256 % 128+128:Nat):Int)=((n % 128+128:Nat):Int):=by omega
 exact this.trans a6
theorem NG (n:Nat):(n:Int).fdiv (2 ^ (min (Int.toNat 7) IntKind.u64.bits))=((n / 128:Nat):Int):=by
 have:(2 ^ (min (Int.toNat 7) IntKind.u64.bits):Int)=128:=by decide
 rw [this,Int.fdiv_eq_ediv_of_nonneg _ (by omega)]
 all_goals rfl
theorem ahU (n:Nat) (h:n<128):IntKind.u8.wrap (n:Int)=(n:Int):=by rw [IntKind.wrap_u8];omega
theorem Tp (h:I) (a:Int):iA Tryz.prog 56 1 [(0,.int .u8 a)] h=some (.aj h.n 0 1 1,h.push (.cells [.int .u8 a] 5 none)):=by rw [lN qv];rfl
theorem NH (s:V) (cs:List Nat) (n:Nat) (h:I) (av:Own h 5 1 s (bp cs)) (al:cs.length≤2 ^ 46) (aJ:n<2 ^ 64) :
  ah Tryz.prog 74 [s,.int .u64 n] h (fun r U=>Own U 5 1 r (bp (cs++enc n))∧aa h U (aW s)∧nP h s r):=by
 refine ah.aH (c:=_) Tryz.func74 rfl (by kernel_rfl) (by simp) ?_
 simp only [ao]
 refine aZ.cu (α:=V×List Nat×Nat) (fun x f U=>f 0=x.1∧f 1=.int .u64 (x.2.2:Nat)∧Own U 5 1 x.1 (bp x.2.1)∧aa h U (aW s)∧nP h s x.1∧x.2.1++enc x.2.2=cs++enc n∧x.2.2<2 ^ 64) (fun x=>x.2.2) (s,cs,n)
  ⟨rfl,rfl,av,aa.refl _ _,.inl rfl,rfl,aJ⟩ ?_
 rintro ⟨bF,cs',n'⟩ f h1 ⟨f0,f1,e9,hk,cO,dd,jh⟩
 simp only at f0 f1 e9 cO dd jh
 refine gn (by kernel_rfl) ?_
 have hlen:cs'.length+1≤cs.length+10:=by
  have h1:=congrArg List.length dd
  have ab:=hB n aJ
  have aI:=hB n' jh
  simp at h1
  omega
 have next:∀ (v:V) (ab:I),aa h1 ab (aW bF)→nP h1 bF v→aa h ab (aW s)∧nP h s v:=fun v ab k2 d2=>by
  refine ⟨hk.trans k2 fun k fy qd=>?_,?_⟩
  ·rcases cO with cO | cO
   ·unfold aW at qd⊢;rw [←cO];exact qd
   ·have:=cO k qd;omega
  ·rcases d2 with d2 | d2
   ·rcases cO with cO | cO
    ·exact .inl (d2.trans cO)
    ·exact .inr fun k fy=>cO k (by rw [←d2];exact fy)
   ·exact .inr fun k fy=>Nat.le_trans hk.n (d2 k fy)
 by_cases aT:128≤n'
 ·have bf:decide ((128:Int)≤(n':Int))=true:=by simp;omega
  obtain ⟨v,ab,c2,eE,jt,o7⟩:=HF (P:=Tryz.prog) qv (by decide) e9 (xs:=[.int .u8 ((n' % 128+128:Nat):Int)]) rfl rfl (by simp [am,lim];omega) (by simp [am,lim];omega)
  obtain ⟨k2,d2⟩:=next v ab jt o7
  simp only [ao,Nat.reduceEqDiff,reduceCtorEq,f0,f1,bf,js jS iq,ahT,Tp,c2,yX (show (0:Int)≤7 by decide),NG]
  refine aR ⟨(v,cs'++[n' % 128+128],n' / 128),⟨rfl,rfl,?_,k2,d2,?_,by simp only;omega⟩,by simp;omega⟩
  ·rw [Fl];exact eE
  ·simp only
   rw [←dd,Fm (n:=n') (by omega)]
   simp
 ·have bf:decide ((128:Int)≤(n':Int))=false:=by simp;omega
  obtain ⟨v,ab,c2,eE,jt,o7⟩:=HF (P:=Tryz.prog) qv (by decide) e9 (xs:=[.int .u8 (n':Int)]) rfl rfl (by simp [am,lim];omega) (by simp [am,lim];omega)
  obtain ⟨k2,d2⟩:=next v ab jt o7
  simp only [ao,Nat.reduceEqDiff,reduceCtorEq,f0,f1,bf,js jS iq,ahU n' (by omega),Tp,c2,bd,Tryz.results74,bT]
  refine aR ⟨?_,k2,d2⟩
  rw [←dd,Cy (by omega),Fl]
  exact eE
structure Rd (h:I) (s:V) (cs:List Nat):Prop where
 len:∀ U,aa h U none_→cE Tryz.prog 56 s U=some (.int .i64 cs.length)
 lenOf:vt s=some cs.length
 first:∀ U,aa h U none_→p6 1 cs.length s U=some (bp cs)
 src:∀ U,aa h U none_→e3 Tryz.prog 1 56 s U=some (cs.length,bp cs)
theorem Rd.ag (h:I):Rd h .ag []:=⟨fun _ _=>B2 gH,rfl,fun _ _=>rfl,fun _ _=>by
 obtain ⟨d,hu,a7⟩:=yY gH
 cases d<;>simp [sF] at a7
 simp [e3,hu,bp]⟩
theorem Rd.an (h:I) (cs:List Nat):Rd h (.an cs.length (bp cs)) cs:=⟨fun _ _=>Dt gH,rfl,fun U _=>by
 simp only [p6,am,Nat.mul_one,Nat.le_refl,and_self,if_true]
 rw [List.take_of_length_le (by rw [am];exact Nat.le_refl _)],fun U _=>yZ gH (by rw [am,Nat.mul_one]) (Cx cs)⟩
theorem Rd.au {h U:I} {s:V} {cs:List Nat} (rd:Rd h s cs) (k:aa h U none_):Rd U s cs :=
 ⟨fun ab k2=>rd.len ab (k.trans' k2),rd.lenOf,fun ab k2=>rd.first ab (k.trans' k2),fun ab k2=>rd.src ab (k.trans' k2)⟩
theorem fresh (s:V) (cs:List Nat) (m:Nat) (h:I) (rd:Rd h s cs) (al:cs.length+m≤2 ^ 47) :
  ah Tryz.prog 75 [s,.int .i64 m] h (fun r U=>r=.aj h.n 0 cs.length (cs.length+m)∧Own U 5 1 r (bp cs)∧aa h U none_):=by
 refine ah.aH (c:=_) Tryz.func75 rfl (by kernel_rfl) (by simp) ?_
 have hw:IntKind.i64.wrap ((cs.length:Int)+(m:Int))=((cs.length+m:Nat):Int):=by rw [Go.IntWalk.i64_in _ (by omega)];omega
 obtain ⟨h1,ab,c2,eE,jt,o7,xD⟩:=adS (P:=Tryz.prog) (tx:=56) (k:=.i64) (k':=.i64) (h:=h) (c:=cs.length+m) qv rd.lenOf rd.first (Cx cs) (by simp [am]) (by omega) (by simp only;omega) (by omega)
 simp only [ao,Nat.reduceEqDiff,reduceCtorEq,rd.len h (aa.refl _ _),hw,c2,eE,bd,Tryz.results75,bT]
 exact aR ⟨rfl,jt,xD⟩
theorem NI (s:V) (cs:List Nat) (n:Nat) (h:I) (rd:Rd h s cs) (al:cs.length≤2 ^ 46) (aJ:n<2 ^ 64) :
  ah Tryz.prog 45 [s,.int .u64 n] h (fun r U=>Own U 5 1 r (bp (cs++enc n))∧aa h U none_∧∀ k,aA r=some k→h.n≤k):=by
 refine ah.aH (c:=_) Tryz.func45 rfl (by kernel_rfl) (by simp) ?_
 simp only [ao,Nat.reduceEqDiff,reduceCtorEq]
 refine cC zA (fresh s cs 10 h rd (by omega)) fun cq h1 ⟨aK,c0,bj⟩=>?_
 have d1:∀ k,aA cq=some k→h.n≤k:=fun k hk=>by subst aK;simp [aA] at hk;omega
 simp only [ao,Nat.reduceEqDiff]
 refine cC Co (NH cq cs n h1 c0 al aJ) fun ck ab ⟨cw,k2,d2⟩=>?_
 simp only [ao,Nat.reduceEqDiff,bd,Tryz.results45,bT]
 refine aR ⟨cw,bj.trans k2 fun k hk hi=>?_,fun k hk=>?_⟩
 ·have:=d1 k hi;omega
 ·rcases d2 with d2 | d2
  ·exact d1 k (d2 ▸ hk)
  ·exact Nat.le_trans bj.n (d2 k hk)
theorem Fo (s:V) (cs:List Nat) (n:Nat) (h:I) (rd:Rd h s cs) (al:cs.length≤2 ^ 46) (aJ:n<2 ^ 64) :
  Pure Tryz.prog 45 [s,.int .u64 n] h (.an (cs++enc n).length (bp (cs++enc n))):=by
 refine Pure.of (bb.an (re _)) ((NI s cs n h rd al aJ).mono fun r U ⟨o,k,d⟩=>?_)
 obtain ⟨ab,c,k2⟩:=aV.own o (n:=(cs++enc n).length) (by simp [am]) (by omega)
 exact ⟨ab,c,k.trans k2 fun j aC J=>by have:=d j J;omega⟩
theorem Tq (s:V) (cs:List Nat) (m:Nat) (h:I) (rd:Rd h s cs) (al:cs.length+m≤2 ^ 47) :
  Pure Tryz.prog 75 [s,.int .i64 m] h (.an cs.length (bp cs)):=by
 refine Pure.of (bb.an (re _)) ((fresh s cs m h rd al).mono fun r U ⟨e,o,k⟩=>?_)
 obtain ⟨ab,c,k2⟩:=aV.own o (n:=cs.length) (by simp [am]) (by omega)
 refine ⟨ab,c,k.trans k2 fun j aC J=>?_⟩
 subst e
 simp [aW,aA] at J
 omega
def ef (h:I) (p:V) (i:Nat) (cs:List Nat):Prop:=p=.ptr i 0∧i<h.n∧h.get i=.cells [.an cs.length (bp cs)] 165 none
theorem zK (s:V) (cs:List Nat) (h:I) (rd:Rd h s cs) (al:cs.length≤2 ^ 47) :
  ah Tryz.prog 52 [s] h (fun r U=>r=.ptr h.n 0∧ef U r h.n cs∧aa h U none_):=by
 refine ah.aH (c:=_) Tryz.func52 rfl (by kernel_rfl) (by simp) ?_
 simp only [ao,Nat.reduceEqDiff,reduceCtorEq]
 refine cK zA (Tq s cs 0 h rd (by omega)) ?_
 simp only [ao,Nat.reduceEqDiff,S1,Th,bd,Tryz.results52,bT]
 exact aR ⟨rfl,⟨rfl,by rw [fR];omega,c4⟩,aa.push _ _ _⟩
theorem rest (h:I) (p:V) (i:Nat) (cs:List Nat) (aq:ef h p i cs):Pure Tryz.prog 87 [p] h (.an cs.length (bp cs)):=by
 obtain ⟨rfl,hi,aE⟩:=aq
 refine ah.aH (c:=_) Tryz.func87 rfl (by kernel_rfl) (by simp) ?_
 simp only [ao,Nat.reduceEqDiff,reduceCtorEq,EZ,ag5,lB,aE,bd,Tryz.results87,bT]
 exact aR ⟨rfl,rfl⟩
theorem Left (h:I) (p:V) (i:Nat) (cs:List Nat) (aq:ef h p i cs):Pure Tryz.prog 54 [p] h (.int .i64 cs.length):=by
 refine ah.aH (c:=_) Tryz.func54 rfl (by kernel_rfl) (by simp) ?_
 simp only [ao,Nat.reduceEqDiff,reduceCtorEq]
 refine cK II (rest h p i cs aq) ?_
 simp only [ao,Nat.reduceEqDiff,gH,bd,Tryz.results54,bT]
 exact aR ⟨rfl,rfl⟩
theorem zL (w n:Nat):BitVec.ofInt w (n:Int)=BitVec.ofNat w n:=by
 apply BitVec.eq_of_toNat_eq
 simp
theorem ahV (a b k:Nat) (ar:b<2 ^ k) (hk:k≤64) (aL:a * 2 ^ k<2 ^ 64):qc .u64 (b:Int) ((a * 2 ^ k:Nat):Int)=((a * 2 ^ k+b:Nat):Int):=by
 have aT:a * 2 ^ k+b<2 ^ 64:=by
  have e:(2:Nat) ^ 64=2 ^ (64 - k) * 2 ^ k:=by rw [←Nat.pow_add];congr 1;omega
  rw [e] at aL⊢
  have h1:a<2 ^ (64 - k):=Nat.lt_of_mul_lt_mul_right aL
  calc a * 2 ^ k+b<a * 2 ^ k+2 ^ k:=by omega
   _=(a+1) * 2 ^ k:=by rw [Nat.add_mul];simp
   _≤_:=Nat.mul_le_mul_right _ h1
 unfold qc
 rw [zL,zL]
 have aK:(BitVec.ofNat IntKind.u64.bits b ||| BitVec.ofNat IntKind.u64.bits (a * 2 ^ k)).toNat=a * 2 ^ k+b:=by
  rw [BitVec.toNat_or]
  simp only [BitVec.toNat_ofNat,IntKind.bits]
  rw [Nat.mod_eq_of_lt (by omega),Nat.mod_eq_of_lt aL]
  have:=Nat.shiftLeft_add_eq_or_of_lt ar a
  rw [Nat.shiftLeft_eq] at this
  rw [this,Nat.or_comm]
 rw [aK,IntKind.wrap_u64]
 omega
theorem NJ (g:Nat) (aE:g<256):IntKind.u64.wrap (BX .u8 (g:Int) 128)=((g % 128:Nat):Int):=by
 have h:∀ m:Fin 256,IntKind.u64.wrap (BX .u8 (m.val:Int) 128)=((m.val % 128:Nat):Int):=by decide +kernel
 exact h ⟨g,aE⟩
theorem Ts (g at_:Nat) (aE:g % 128 * 2 ^ (7 * at_)<2 ^ 64) (aL:at_≤9):IntKind.u64.wrap (((g % 128:Nat):Int) * 2 ^ (min (IntKind.i64.wrap (7 * (at_:Int))).toNat IntKind.u64.bits))=((g % 128 * 2 ^ (7 * at_):Nat):Int):=by
 have e:(min (IntKind.i64.wrap (7 * (at_:Int))).toNat IntKind.u64.bits)=7 * at_:=by
  rw [IntKind.wrap_i64]
  have h1:((7 * (at_:Int)+9223372036854775808) % 18446744073709551616 - 9223372036854775808)=((7 * at_:Nat):Int):=by omega
  rw [h1,Int.toNat_natCast]
  simp only [IntKind.bits]
  omega
 rw [e,IntKind.wrap_u64]
 have:(((g % 128:Nat):Int) * 2 ^ (7 * at_))=((g % 128 * 2 ^ (7 * at_):Nat):Int):=by push_cast;rfl
 rw [this]
 omega
theorem Tt (g at_:Nat) (u1:at_≤9) (mg:¬(at_=9∧1<g)) (aE:g<256):g % 128 * 2 ^ (7 * at_)<2 ^ 64:=by
 by_cases tr:at_≤8
 ·have h1:(2:Nat) ^ (7 * at_)≤2 ^ 56:=Nat.pow_le_pow_right (by decide) (by omega)
  have ab:g % 128<128:=Nat.mod_lt _ (by decide)
  have aI:g % 128 * 2 ^ (7 * at_)≤127 * 2 ^ 56:=Nat.mul_le_mul (by omega) h1
  exact Nat.lt_of_le_of_lt aI (by decide)
 ·have:at_=9:=by omega
  subst this
  have:g % 128≤1:=by omega
  exact Nat.lt_of_le_of_lt (Nat.mul_le_mul_right _ this) (by decide)
theorem Tu (g n at_:Nat) (aJ:n<2 ^ (7 * at_)) (u1:at_≤9) (Bd:g % 128 * 2 ^ (7 * at_)<2 ^ 64):qc .u64 (n:Int) ((g % 128 * 2 ^ (7 * at_):Nat):Int)=((n+g % 128 * 2 ^ (7 * at_):Nat):Int):=by
 rw [ahV (g % 128) n (7 * at_) aJ (by omega) Bd,Nat.add_comm]
theorem Tv (g n at_:Nat) (aJ:n<2 ^ (7 * at_)):n+g % 128 * 2 ^ (7 * at_)<2 ^ (7 * (at_+1)):=by
 have e:(2:Nat) ^ (7 * (at_+1))=128 * 2 ^ (7 * at_):=by rw [Nat.mul_add,Nat.pow_add];omega
 rw [e]
 have ab:g % 128<128:=Nat.mod_lt _ (by decide)
 have aI:=Nat.mul_le_mul_right (2 ^ (7 * at_)) (show g % 128≤127 by omega)
 generalize 2 ^ (7 * at_)=p at *
 omega
def dec:List Nat→Nat→Nat→Nat×Nat×Nat
 | [],_,_=>(0,0,4)
 | g::r,at_,n=>
  if at_=9∧1<g then (0,0,5)
  else if 128≤g then dec r (at_+1) (n+g % 128 * 2 ^ (7 * at_))
  else if g=0∧0<at_ then (0,0,5)
  else (n+g % 128 * 2 ^ (7 * at_),at_+1,0)
def rf (r:Nat×Nat×Nat):V:=.tuple [.int .u64 (r.1:Nat),.int .i64 (r.2.1:Nat),.int .i64 (r.2.2:Nat)]
theorem Tw {bs:List Nat} {k:Nat} (hk:k<bs.length):(bp bs).drop (k * 1)=.int .u8 (bs[k]:Nat)::bp (bs.drop (k+1)):=by
 rw [Nat.mul_one]
 unfold bp
 rw [←List.map_drop,List.drop_eq_getElem_cons hk]
 all_goals rfl
theorem number (bs:List Nat) (h:I) (ar:∀ b ∈ bs,b<256) (al:bs.length≤2 ^ 47) :
  Pure Tryz.prog 150 [.an bs.length (bp bs)] h (rf (dec bs 0 0)):=by
 refine ah.aH (c:=_) Tryz.func150 rfl (by kernel_rfl) (by simp) ?_
 simp only [ao]
 refine aZ.xw (α:=Nat×Nat) (l:=0) rfl (fun x f U=>U=h∧f 0=.an bs.length (bp bs)∧f 5=.int .u64 (x.2:Nat)∧f 6=.int .i64 (x.1:Nat)∧dec (bs.drop x.1) x.1 x.2=dec bs 0 0∧x.2<2 ^ (7 * x.1)∧x.1≤9∧x.1≤bs.length) (fun x=>10 - x.1) ?_ ?_ ?_
 ·rintro x f h1 _
  omega
 ·rintro ⟨at_,n⟩ f h1 ⟨rfl,f0,f5,f6,a7,aJ,u1,iX⟩
  simp only at f5 f6 a7 aJ u1 iX
  refine gn (by kernel_rfl) ?_
  by_cases rh:at_=bs.length
  ·have kU:((at_:Int)==(bs.length:Int))=true:=by simp [rh]
   simp only [ao,Nat.reduceEqDiff,reduceCtorEq,gH,f0,f6,kU,xv,bd,Tryz.results150,qU]
   refine aR ⟨?_,rfl⟩
   rw [←a7,rh,List.drop_length]
   all_goals rfl
  ·have kU:((at_:Int)==(bs.length:Int))=false:=by simp;omega
   have aT:at_<bs.length:=by omega
   have vZ:bs[at_]<256:=ar _ (List.getElem_mem aT)
   have Be:bs.drop at_=bs[at_]::bs.drop (at_+1):=List.drop_eq_getElem_cons aT
   have fD:=B4 (P:=Tryz.prog) (t:=56) (k:=.i64) (i:=(at_:Int)) (n:=bs.length) (cs:=bp bs) Cw (by omega) (by omega) (by rw [am];omega)
   rw [Int.toNat_natCast,Tw aT] at fD
   have qs:dec (bs.drop at_) at_ n=dec (bs[at_]::bs.drop (at_+1)) at_ n:=by rw [←Be]
   generalize bs[at_]=g at vZ fD qs
   clear Be
   by_cases mg:at_=9∧1<g
   ·have eC:((at_:Int)==9)=true:=by simp [mg.1]
    have Tx:decide ((1:Int)<(g:Int))=true:=by simp;omega
    simp only [ao,Nat.reduceEqDiff,reduceCtorEq,gH,nk,f0,f6,kU,fD,eC,Tx,xv,bd,Tryz.results150,qU]
    refine aR ⟨?_,rfl⟩
    rw [←a7,qs,dec,if_pos mg]
    all_goals rfl
   ·have Bd:=Tt g at_ u1 mg vZ
    have qx:=Tu g n at_ aJ u1 Bd
    have oR:=Tv g n at_ aJ
    have tt:=Ts g at_ Bd u1
    have tu:=NJ g vZ
    have dK:(0:Int)≤IntKind.i64.wrap (7 * (at_:Int)):=by
     rw [Go.IntWalk.i64_in _ (by omega)]
     omega
    have gj:IntKind.i64.wrap ((at_:Int)+1)=((at_+1:Nat):Int):=by rw [Go.IntWalk.i64_in _ (by omega)];rfl
    have hR:(((at_:Int)==9)=true∧decide ((1:Int)<(g:Int))=false)∨((at_:Int)==9)=false:=by
     by_cases NK:at_=9
     ·left;refine ⟨by simp [NK],by simp;omega⟩
     ·right;simp;omega
    by_cases ir:128≤g
    ·have lY:decide ((128:Int)≤(g:Int))=true:=by simp;omega
     have tr:at_≤8:=by
      rcases Nat.lt_or_ge at_ 9 with h | h
      ·omega
      ·exact absurd ⟨by omega,by omega⟩ mg
     have NL:dec (bs.drop (at_+1)) (at_+1) (n+g % 128 * 2 ^ (7 * at_))=dec bs 0 0:=by
      rw [←a7,qs,dec,if_neg mg,if_pos ir]
     rcases hR with ⟨bf,bx⟩ | bf
     ·exfalso
      simp at bf
      omega
     ·simp only [ao,Nat.reduceEqDiff,reduceCtorEq,gH,nk,f0,f5,f6,kU,fD,bf,lY,js iq jS,tu,xb dK,tt,qx,gj,adT]
      exact aR ⟨(at_+1,_),⟨rfl,f0,rfl,rfl,NL,oR,by simp only;omega,by simp only;omega⟩,by simp;omega⟩
    ·have lY:decide ((128:Int)≤(g:Int))=false:=by simp;omega
     have aq:dec bs 0 0=if g=0∧0<at_ then (0,0,5) else (n+g % 128 * 2 ^ (7 * at_),at_+1,0):=by
      rw [←a7,qs,dec,if_neg mg,if_neg ir]
     have Ty:((g:Int)==0)=false∨(((g:Int)==0)=true∧decide ((1:Int)<((at_+1:Nat):Int))=decide (0<at_)):=by
      by_cases ay:g=0
      ·right;exact ⟨by simp [ay],by rw [decide_eq_decide];omega⟩
      ·left;simp;omega
     rcases Ty with c3 | ⟨c3,kl⟩
     ·have ay:¬(g=0∧0<at_):=by intro h;simp [h.1] at c3
      rw [if_neg ay] at aq
      rcases hR with ⟨bf,bx⟩ | bf
      ·simp only [ao,Nat.reduceEqDiff,reduceCtorEq,gH,nk,f0,f5,f6,kU,fD,bf,bx,c3,lY,js iq jS,tu,xb dK,tt,qx,gj,xv,bd,Tryz.results150,qU]
       exact aR ⟨by rw [aq];rfl,rfl⟩
      ·simp only [ao,Nat.reduceEqDiff,reduceCtorEq,gH,nk,f0,f5,f6,kU,fD,bf,c3,lY,js iq jS,tu,xb dK,tt,qx,gj,xv,bd,Tryz.results150,qU]
       exact aR ⟨by rw [aq];rfl,rfl⟩
     ·by_cases nD:0<at_
      ·have ay:(g=0∧0<at_):=⟨by simpa using c3,nD⟩
       rw [if_pos ay] at aq
       simp only [nD,decide_true] at kl
       rcases hR with ⟨bf,bx⟩ | bf
       ·simp only [ao,Nat.reduceEqDiff,reduceCtorEq,gH,nk,f0,f5,f6,kU,fD,bf,bx,c3,kl,lY,js iq jS,tu,xb dK,tt,qx,gj,xv,bd,Tryz.results150,qU]
        exact aR ⟨by rw [aq];rfl,rfl⟩
       ·simp only [ao,Nat.reduceEqDiff,reduceCtorEq,gH,nk,f0,f5,f6,kU,fD,bf,c3,kl,lY,js iq jS,tu,xb dK,tt,qx,gj,xv,bd,Tryz.results150,qU]
        exact aR ⟨by rw [aq];rfl,rfl⟩
      ·have ay:¬(g=0∧0<at_):=fun h=>nD h.2
       rw [if_neg ay] at aq
       simp only [nD,decide_false] at kl
       rcases hR with ⟨bf,bx⟩ | bf
       ·simp only [ao,Nat.reduceEqDiff,reduceCtorEq,gH,nk,f0,f5,f6,kU,fD,bf,bx,c3,kl,lY,js iq jS,tu,xb dK,tt,qx,gj,xv,bd,Tryz.results150,qU]
        exact aR ⟨by rw [aq];rfl,rfl⟩
       ·simp only [ao,Nat.reduceEqDiff,reduceCtorEq,gH,nk,f0,f5,f6,kU,fD,bf,c3,kl,lY,js iq jS,tu,xb dK,tt,qx,gj,xv,bd,Tryz.results150,qU]
        exact aR ⟨by rw [aq];rfl,rfl⟩
 ·intro step
  refine aZ.seq (gn (by kernel_rfl) ?_)
  simp only [ao]
  refine aZ.seq (gn (by kernel_rfl) ?_)
  simp only [ao]
  refine aZ.seq (.label ?_)
  exact step (0,0) _ _ ⟨rfl,rfl,rfl,rfl,rfl,by decide,by decide,by omega⟩
theorem NM (l:List Nat):∀ k n,(dec l k n).2.2≠0→dec l k n=(0,0,(dec l k n).2.2):=by
 induction l with
 | nil=>intro k n _;rfl
 | cons g r ih=>
  intro k n h
  unfold dec at h⊢
  split
  ·rfl
  ·rename_i h1
   rw [if_neg h1] at h
   split
   ·rename_i ab
    rw [if_pos ab] at h
    exact ih _ _ h
   ·rename_i ab
    rw [if_neg ab] at h
    split
    ·rfl
    ·rename_i aI
     rw [if_neg aI] at h
     simp at h
theorem I4 (l:List Nat):∀ k n,(dec l k n).2.1≤l.length+k:=by
 induction l with
 | nil=>intro k n;simp [dec]
 | cons g r ih=>
  intro k n
  unfold dec
  split
  ·simp
  ·split
   ·have:=ih (k+1) (n+g % 128 * 2 ^ (7 * k))
    simp;omega
   ·split
    ·simp
    ·simp;omega
theorem ahW (a:Nat) (aL:a<2 ^ 64):jr .u64 (a:Int) 0=(a:Int):=by
 show IntKind.u64.wrap ((BitVec.ofInt 64 (a:Int) ^^^ BitVec.ofInt 64 0).toNat:Int)=_
 have e:BitVec.ofInt 64 (0:Int)=BitVec.ofNat 64 0:=rfl
 have aK:(BitVec.ofNat 64 a ^^^ BitVec.ofNat 64 0).toNat=a:=by
  rw [BitVec.toNat_xor,BitVec.toNat_ofNat,BitVec.toNat_ofNat,Nat.zero_mod,Nat.xor_zero]
  exact Nat.mod_eq_of_lt aL
 rw [zL,e,aK,IntKind.wrap_u64]
 omega
theorem ahX (a:Nat) (aL:a<2 ^ 64):jr .u64 (a:Int) 18446744073709551615=((18446744073709551615 - a:Nat):Int):=by
 show IntKind.u64.wrap ((BitVec.ofInt 64 (a:Int) ^^^ BitVec.ofInt 64 18446744073709551615).toNat:Int)=_
 have e:BitVec.ofInt 64 (18446744073709551615:Int)=BitVec.allOnes 64:=by decide
 have aK:(BitVec.ofNat 64 a ^^^ BitVec.allOnes 64).toNat=18446744073709551615 - a:=by
  rw [BitVec.xor_allOnes,BitVec.toNat_not,BitVec.toNat_ofNat,Nat.mod_eq_of_lt aL]
 rw [zL,e,aK,IntKind.wrap_u64]
 omega
theorem Tz (n:Int) (h1:-2 ^ 63≤n) (ab:n<2 ^ 63):jr .u64 (IntKind.u64.wrap (IntKind.u64.wrap n * 2 ^ min (Int.toNat 1) IntKind.u64.bits)) (IntKind.u64.wrap (n.fdiv (2 ^ min (Int.toNat 63) IntKind.i64.bits))) =
  ((if 0≤n then 2 * n.toNat else 2 * (-n).toNat - 1:Nat):Int):=by
 have aK:(2:Int) ^ min (Int.toNat 1) IntKind.u64.bits=2:=by decide
 have a6:(2:Int) ^ min (Int.toNat 63) IntKind.i64.bits=9223372036854775808:=by decide
 rw [aK,a6]
 have uO:-9223372036854775808≤n:=by simpa using h1
 have uS:n<9223372036854775808:=by simpa using ab
 by_cases ay:0≤n
 ·have dB:n.fdiv 9223372036854775808=0:=by rw [Int.fdiv_eq_ediv_of_nonneg _ (by omega)];omega
  have hj:IntKind.u64.wrap (IntKind.u64.wrap n * 2)=((2 * n.toNat:Nat):Int):=by rw [IntKind.wrap_u64,IntKind.wrap_u64];omega
  have j5:IntKind.u64.wrap 0=0:=by decide
  rw [dB,hj,j5,ahW _ (by omega),if_pos ay]
 ·have dB:n.fdiv 9223372036854775808=-1:=by rw [Int.fdiv_eq_ediv_of_nonneg _ (by omega)];omega
  have hj:IntKind.u64.wrap (IntKind.u64.wrap n * 2)=((2 * n+18446744073709551616).toNat:Int):=by rw [IntKind.wrap_u64,IntKind.wrap_u64];omega
  have j5:IntKind.u64.wrap (-1)=18446744073709551615:=by decide
  rw [dB,hj,j5,ahX _ (by omega),if_neg ay]
  omega
def iE (n:Int):Nat:=if 0≤n then 2 * n.toNat else 2 * (-n).toNat - 1
theorem zM (n:Int) (h1:-2 ^ 63≤n) (ab:n<2 ^ 63):iE n<2 ^ 64:=by
 have uO:-9223372036854775808≤n:=by simpa using h1
 have uS:n<9223372036854775808:=by simpa using ab
 unfold iE
 split<;>omega
theorem ef.au {h U:I} {p:V} {i:Nat} {cs:List Nat} {own:Nat→Prop} (aq:ef h p i cs) (hk:aa h U own) (bc:¬own i):ef U p i cs :=
 ⟨aq.1,Nat.lt_of_lt_of_le aq.2.1 hk.n,(hk.get i aq.2.1 bc).trans aq.2.2⟩
theorem Cz (p:V) (i:Nat) (bs:List Nat) (h:I) (aq:ef h p i bs) (ar:∀ b ∈ bs,b<256) (al:bs.length≤2 ^ 47) :
  ah Tryz.prog 119 [p] h (fun r U=>r=.tuple [.int .u64 ((dec bs 0 0).1:Nat),.int .i64 ((dec bs 0 0).2.2:Nat)]∧ef U p i (bs.drop (dec bs 0 0).2.1)∧aa h U (·=i)):=by
 refine ah.aH (c:=_) Tryz.func119 rfl (by kernel_rfl) (by simp) ?_
 simp only [ao,Nat.reduceEqDiff,reduceCtorEq]
 refine cK II (rest h p i bs aq) ?_
 simp only [ao,Nat.reduceEqDiff]
 refine cK Sw (number bs h ar al) ?_
 by_cases cN:(dec bs 0 0).2.2=0
 ·have bc:((((dec bs 0 0).2.2:Nat):Int) !=0)=false:=by simp [cN]
  have I5:=I4 bs 0 0
  obtain ⟨rfl,hi,aE⟩:=aq
  have iT:jL Tryz.prog 56 (.an bs.length (bp bs)) (some (.int .i64 ((dec bs 0 0).2.1:Nat))) none none=some (.an (bs.drop (dec bs 0 0).2.1).length (bp (bs.drop (dec bs 0 0).2.1))):=by
   rw [QV Cw (by omega) (by omega) (by rw [am];omega)]
   rw [Int.toNat_natCast,Nat.mul_one]
   unfold bp
   rw [List.map_drop,List.length_drop]
  simp only [ao,Nat.reduceEqDiff,reduceCtorEq,EZ,lB,vY,rf,bc,aE,iT,bd,Tryz.results119,ha]
  exact aR ⟨by simp [cN],⟨rfl,by rw [kE];exact hi,e4⟩,aa.set _ _ _⟩
 ·have bc:((((dec bs 0 0).2.2:Nat):Int) !=0)=true:=by simp;omega
  have a7:=NM bs 0 0 cN
  simp only [ao,Nat.reduceEqDiff,rf,bc,bd,Tryz.results119,ha]
  refine aR ⟨?_,?_,aa.refl _ _⟩
  ·rw [a7];rfl
  ·rw [a7];simpa using aq
theorem TA (n:Int) (h:I) (h1:-2 ^ 63≤n) (ab:n<2 ^ 63):Pure Tryz.prog 76 [.int .i64 n] h (.int .u64 (iE n:Nat)):=by
 refine ah.aH (c:=_) Tryz.func76 rfl (by kernel_rfl) (by simp) ?_
 simp only [ao,Nat.reduceEqDiff,reduceCtorEq,xb (show (0:Int)≤1 by decide),yX (show (0:Int)≤63 by decide),js E6 jS,bd,Tryz.results76,bT]
 exact aR ⟨by rw [Tz n h1 ab];rfl,rfl⟩
theorem zN (s:V) (cs:List Nat) (n:Int) (h:I) (rd:Rd h s cs) (al:cs.length≤2 ^ 46) (h1:-2 ^ 63≤n) (ab:n<2 ^ 63) :
  Pure Tryz.prog 47 [s,.int .i64 n] h (.an (cs++enc (iE n)).length (bp (cs++enc (iE n)))):=by
 refine Pure.of (bb.an (re _)) (ah.mono (R:=fun r U=>Own U 5 1 r (bp (cs++enc (iE n)))∧aa h U none_∧∀ k,aA r=some k→h.n≤k) ?_ fun r U ⟨o,k,d⟩=>?_)
 ·refine ah.aH (c:=_) Tryz.func47 rfl (by kernel_rfl) (by simp) ?_
  simp only [ao,Nat.reduceEqDiff,reduceCtorEq]
  refine cC zA (fresh s cs 10 h rd (by omega)) fun cq uO ⟨aK,c0,bj⟩=>?_
  have d1:∀ k,aA cq=some k→h.n≤k:=fun k hk=>by subst aK;simp [aA] at hk;omega
  simp only [ao,Nat.reduceEqDiff]
  refine cK SE (TA n uO h1 ab) ?_
  simp only [ao,Nat.reduceEqDiff]
  refine cC Co (NH cq cs (iE n) uO c0 al (zM n h1 ab)) fun ck uS ⟨cw,k2,d2⟩=>?_
  simp only [ao,Nat.reduceEqDiff,bd,Tryz.results47,bT]
  refine aR ⟨cw,bj.trans k2 fun k hk hi=>?_,fun k hk=>?_⟩
  ·have:=d1 k hi;omega
  ·rcases d2 with d2 | d2
   ·exact d1 k (d2 ▸ hk)
   ·exact Nat.le_trans bj.n (d2 k hk)
 ·obtain ⟨ab,c,k2⟩:=aV.own o (n:=(cs++enc (iE n)).length) (by simp [am]) (by omega)
  exact ⟨ab,c,k.trans k2 fun j aC J=>by have:=d j J;omega⟩
theorem NN:∀ (bs:List Nat) (k acc m used:Nat),(∀ b ∈ bs,b<256)→dec bs k acc=(m,used,0)→k<used∧∃ x,m=acc+x * 2 ^ (7 * k)∧bs.take (used - k)=enc x∧(0<k→0<x)
 | [],k,acc,m,used,_,h=>by simp [dec] at h
 | g::r,k,acc,m,used,ar,h=>by
  have aE:g<256:=ar g (by simp)
  unfold dec at h
  split at h
  ·simp at h
  ·split at h
   ·rename_i ab
    obtain ⟨hu,x,aI,h4,h5⟩:=NN r (k+1) _ m used (fun b h7=>ar b (by simp [h7])) h
    have af:=h5 (by omega)
    refine ⟨by omega,g % 128+128 * x,?_,?_,by omega⟩
    ·rw [aI,Nat.mul_add,Nat.pow_add,Nat.add_mul,Nat.add_assoc]
     congr 2
     have e:(2:Nat) ^ (7 * 1)=128:=by decide
     rw [e,Nat.mul_comm (2 ^ (7 * k)) 128,←Nat.mul_assoc,Nat.mul_comm x 128]
    ·rw [show used - k=(used - (k+1))+1 by omega,List.take_succ_cons,h4,Fm (n:=g % 128+128 * x) (by omega)]
     congr 1
     ·omega
     ·congr 1;omega
   ·split at h
    ·simp at h
    ·rename_i h1 ab aI
     simp only [Prod.mk.injEq,and_true] at h
     obtain ⟨rfl,rfl⟩:=h
     refine ⟨by omega,g,?_,?_,by omega⟩
     ·rw [Nat.mod_eq_of_lt (by omega)]
     ·rw [show k+1 - k=1 by omega,Cy (by omega)];rfl
theorem dec_lt:∀ (bs:List Nat) (k acc:Nat),k≤9→acc<2 ^ (7 * k)→(∀ b ∈ bs,b<256)→(dec bs k acc).1<2 ^ 64
 | [],k,acc,_,_,_=>by simp [dec]
 | g::r,k,acc,hk,aL,ar=>by
  have aE:g<256:=ar g (by simp)
  unfold dec
  split
  ·simp
  ·rename_i h1
   have lP:=Tt g k hk h1 aE
   have aJ:=Tv g acc k aL
   split
   ·rename_i ab
    by_cases TB:k≤8
    ·exact dec_lt r (k+1) _ (by omega) aJ fun b h7=>ar b (by simp [h7])
    ·exfalso
     omega
   ·split
    ·simp
    ·show acc+g % 128 * 2 ^ (7 * k)<2 ^ 64
     have e:(2:Nat) ^ 64=2 ^ (64 - 7 * k) * 2 ^ (7 * k):=by rw [←Nat.pow_add];congr 1;omega
     rw [e] at lP⊢
     have tr:g % 128<2 ^ (64 - 7 * k):=Nat.lt_of_mul_lt_mul_right lP
     calc acc+g % 128 * 2 ^ (7 * k)<2 ^ (7 * k)+g % 128 * 2 ^ (7 * k):=by omega
      _=(g % 128+1) * 2 ^ (7 * k):=by rw [Nat.add_mul];omega
      _≤_:=Nat.mul_le_mul_right _ tr
theorem v7:∀ (m n:Nat),n≤m→∀ b ∈ enc n,b<256
 | m,n,h,b,ar=>by
  by_cases aJ:n<128
  ·rw [Cy aJ] at ar;simp at ar;omega
  ·rw [Fm aJ] at ar
   rcases List.mem_cons.1 ar with rfl | ar
   ·omega
   ·cases m with
    | zero=>omega
    | succ m=>exact v7 m (n / 128) (by omega) b ar
theorem TC (r:List Nat):∀ (m x k acc:Nat),x≤m→k≤9→x * 2 ^ (7 * k)<2 ^ 64→(0<k→0<x)→dec (enc x++r) k acc=(acc+x * 2 ^ (7 * k),k+(enc x).length,0)
 | m,x,k,acc,hm,hk,af,ay=>by
  by_cases J:x<128
  ·rw [Cy J,List.cons_append,dec,if_neg,if_neg (by omega),if_neg,Nat.mod_eq_of_lt J]
   ·rfl
   ·intro ad;have:=ay ad.2;omega
   ·rintro ⟨rfl,h1⟩
    have ab:2 * 2 ^ (7 * 9)≤x * 2 ^ (7 * 9):=Nat.mul_le_mul_right _ h1
    have aI:2 * 2 ^ (7 * 9)=2 ^ 64:=by decide
    omega
  ·have TB:k≤8:=by
    rcases Nat.lt_or_ge k 9 with h | h
    ·omega
    ·have TD:k=9:=by omega
     subst TD
     have ab:128 * 2 ^ (7 * 9)≤x * 2 ^ (7 * 9):=Nat.mul_le_mul_right _ (by omega)
     have aI:2 ^ 64≤128 * 2 ^ (7 * 9):=by decide
     omega
   have CA:2 ^ (7 * (k+1))=128 * 2 ^ (7 * k):=by rw [Nat.mul_add,Nat.pow_add,Nat.mul_comm]
   rw [Fm J,List.cons_append,dec,if_neg (by omega),if_pos (by omega)]
   cases m with
   | zero=>omega
   | succ m=>
    rw [TC r m (x / 128) (k+1) _ (by omega) (by omega) (by
     rw [CA,←Nat.mul_assoc]
     exact Nat.lt_of_le_of_lt (Nat.mul_le_mul_right _ (Nat.div_mul_le_self x 128)) af) (by omega)]
    simp only [Prod.mk.injEq,List.length_cons,and_true]
    refine ⟨?_,by omega⟩
    rw [CA]
    have aK:(x % 128+128) % 128=x % 128:=by omega
    rw [aK,←Nat.mul_assoc,Nat.add_assoc,←Nat.add_mul,Nat.mul_comm (x / 128) 128,Nat.mod_add_div]
theorem CB (x:Nat) (af:x<2 ^ 64) (r:List Nat):dec (enc x++r) 0 0=(x,(enc x).length,0):=by
 rw [TC r x x 0 0 (Nat.le_refl _) (by omega) (by simpa using af) (by omega)]
 simp
theorem ahY {l:List Int} {k:Nat} (hk:k<l.length):(bl l).drop (k * 1)=.int .i64 l[k]::bl (l.drop (k+1)):=by
 rw [Nat.mul_one]
 unfold bl
 rw [←List.map_drop,List.drop_eq_getElem_cons hk]
 all_goals rfl
theorem ahZ {l:List Int} {k:Nat} (hk:k<l.length) {t:TypeId} (J:ee Tryz.prog t=some 1):ik Tryz.prog t (.an l.length (bl l)) (.int .i64 (k:Int))=some (.at (.int .i64 l[k]::bl (l.drop (k+1)))):=by
 rw [B4 J (by omega) (by omega) (by rw [l9];omega),Int.toNat_natCast,ahY hk]
theorem TE {n:Nat} (h:n<2 ^ 63):IntKind.i64.wrap (n:Int)=(n:Int):=Go.IntWalk.i64_in _ (by omega)
theorem zO {n:Nat} (h:n<2 ^ 64):IntKind.u64.wrap (n:Int)=(n:Int):=by rw [IntKind.wrap_u64];omega
def kI (x:List Nat):List Nat:=enc x.length++x
def nm (l:List Int):List Nat:=enc l.length++l.flatMap fun n=>enc (iE n)
theorem NO (s:V) (cs:List Nat) (m:Nat) (h:I) (rd:Rd h s cs) (al:cs.length+m≤2 ^ 47) :
  ah Tryz.prog 75 [s,.int .i64 m] h (fun r U=>Acc h U 5 1 r (bp cs)) :=
 (fresh s cs m h rd al).mono fun r U ⟨e,o,k⟩=>⟨o,k,fun j aC=>by subst e;simp [aA] at aC;omega⟩
theorem I6 {ay:I} (s:V) (cs:List Nat) (n:Nat) (h:I) (a:Acc ay h 5 1 s (bp cs)) (al:cs.length≤2 ^ 46) (aJ:n<2 ^ 64) :
  ah Tryz.prog 74 [s,.int .u64 n] h (fun r U=>Acc ay U 5 1 r (bp (cs++enc n))) :=
 (NH s cs n h a.own al aJ).mono fun r U ⟨o,k,d⟩=>a.step o k d
theorem ah0 (s x:V) (cs xs:List Nat) (h:I) (rd:Rd h s cs) (rx:Rd h x xs) (al:cs.length+xs.length≤2 ^ 45) :
  Pure Tryz.prog 49 [s,x] h (.an (cs++kI xs).length (bp (cs++kI xs))):=by
 refine Pure.acc (e:=5) (sz:=1) (re _) (by rw [am,Nat.mul_one]) (by omega) ?_
 refine ah.aH (c:=_) Tryz.func49 rfl (by kernel_rfl) (by simp) ?_
 have hw:IntKind.i64.wrap (10+(xs.length:Int))=((10+xs.length:Nat):Int):=by rw [Go.IntWalk.i64_in _ (by omega)];omega
 have hu:=zO (n:=xs.length) (by omega)
 simp only [ao,Nat.reduceEqDiff,reduceCtorEq,rx.len h (aa.refl _ _),hw]
 refine cC zA (NO s cs (10+xs.length) h rd (by omega)) fun cq h1 bC=>?_
 simp only [ao,Nat.reduceEqDiff,rx.len h1 bC.au,js gG jS,hu]
 refine cC Co (I6 cq cs xs.length h1 bC (by omega) (by omega)) fun ck ab a2=>?_
 have aw:=(hB xs.length (by omega)).2
 obtain ⟨v,aI,dB,a3⟩:=a2.app (P:=Tryz.prog) (tx:=56) qv (by decide) (rx.src ab a2.au) (by rw [am,Nat.mul_one]) (by simp only [am,List.length_append,lim];omega) (by simp only [am,List.length_append,lim];omega)
 simp only [ao,Nat.reduceEqDiff,dB,bd,Tryz.results49,bT]
 exact aR (a3.conv (by rw [←Fl,List.append_assoc];rfl))
theorem ah1 {α β:Type} (l:List α) (f:α→List β) {i:Nat} (hi:i<l.length):(l.take (i+1)).flatMap f=(l.take i).flatMap f++f l[i]:=by
 rw [List.take_succ_eq_append_getElem hi,List.flatMap_append];simp
theorem TF {l:List Int} (aw:∀ n ∈ l,-2 ^ 63≤n∧n<2 ^ 63):(l.flatMap fun n=>enc (iE n)).length≤10 * l.length:=by
 induction l with
 | nil=>simp
 | cons n l ih=>
  have h1:=ih fun n aJ=>aw n (by simp [aJ])
  have ab:=aw n (by simp)
  have:=(hB (iE n) (zM n ab.1 ab.2)).2
  simp only [List.flatMap_cons,List.length_append,List.length_cons]
  omega
theorem TG (s:V) (cs:List Nat) (l:List Int) (h:I) (rd:Rd h s cs) (aw:∀ n ∈ l,-2 ^ 63≤n∧n<2 ^ 63) (al:cs.length+10 * l.length≤2 ^ 45) :
  Pure Tryz.prog 46 [s,.an l.length (bl l)] h (.an (cs++nm l).length (bp (cs++nm l))):=by
 refine Pure.acc (e:=5) (sz:=1) (re _) (by rw [am,Nat.mul_one]) (by omega) ?_
 refine ah.aH (c:=_) Tryz.func46 rfl (by kernel_rfl) (by simp) ?_
 have hw:IntKind.i64.wrap (10+(l.length:Int))=((10+l.length:Nat):Int):=by rw [Go.IntWalk.i64_in _ (by omega)];omega
 have hu:=zO (n:=l.length) (by omega)
 simp only [ao,Nat.reduceEqDiff,reduceCtorEq,o4,hw]
 refine cC zA (NO s cs (10+l.length) h rd (by omega)) fun cq h1 bC=>?_
 simp only [ao,Nat.reduceEqDiff,o4,js gG jS,hu]
 refine cC Co (I6 cq cs l.length h1 bC (by omega) (by omega)) fun ck ab a2=>?_
 simp only [ao,Nat.reduceEqDiff,o4]
 refine aZ.cu (α:=V×Nat) (fun x f U=>f 5=x.1∧f 17=.an l.length (bl l)∧f 18=.int .i64 (l.length:Nat)∧f 19=.int .i64 (x.2:Nat)∧Acc h U 5 1 x.1 (bp (cs++enc l.length++(l.take x.2).flatMap fun n=>enc (iE n)))∧x.2≤l.length) (fun x=>l.length - x.2) (ck,0)
  ⟨rfl,rfl,rfl,rfl,by simpa using a2,Nat.zero_le _⟩ ?_
 rintro ⟨v,i⟩ f aI ⟨f5,f17,f18,f19,a3,hi⟩
 simp only at f5 f19 a3 hi
 refine gn (by kernel_rfl) ?_
 by_cases aT:i<l.length
 ·have bf:decide ((i:Int)<(l.length:Int))=true:=by simp;omega
  have hm:=aw _ (List.getElem_mem aT)
  have gj:IntKind.i64.wrap ((i:Int)+1)=((i+1:Nat):Int):=by rw [Go.IntWalk.i64_in _ (by omega)];rfl
  have hlen:(cs++enc l.length++(l.take i).flatMap fun n=>enc (iE n)).length≤2 ^ 46:=by
   have h1:=TF (l:=l.take i) fun n aJ=>aw n (List.mem_of_mem_take aJ)
   have ab:=(hB l.length (by omega)).2
   rw [List.length_take] at h1
   simp only [List.length_append]
   omega
  simp only [ao,Nat.reduceEqDiff,bz,f5,f17,f18,f19,bf,ahZ aT Nv]
  refine cK SE (TA _ aI hm.1 hm.2) ?_
  simp only [ao,Nat.reduceEqDiff]
  refine cC Co (I6 v _ _ aI a3 hlen (zM _ hm.1 hm.2)) fun EM h4 a4=>?_
  simp only [ao,Nat.reduceEqDiff,f19,gj]
  refine aR ⟨(EM,i+1),⟨rfl,f17,f18,rfl,?_,by simp only;omega⟩,by simp only;omega⟩
  refine a4.conv ?_
  rw [ah1 l _ aT,List.append_assoc]
 ·have bf:decide ((i:Int)<(l.length:Int))=false:=by simp;omega
  simp only [ao,Nat.reduceEqDiff,f5,f18,f19,bf,bd,Tryz.results46,bT]
  refine aR (a3.conv ?_)
  rw [List.take_of_length_le (by omega),List.append_assoc]
  all_goals rfl
def tv (l:List Nat):ByteArray:=strOfNums (l.map fun n:Nat=>(n:Int))
theorem ah2 (l:List Nat) (h:I):k8 Tryz.prog 56 9 (.an l.length (bp l)) h=some (.string (tv l)):=by
 have:=ac8 (P:=Tryz.prog) (s:=56) (d:=9) (h:=h) (n:=l.length) (ns:=l.map fun n:Nat=>(n:Int)) (by kernel_rfl) Nw (by simp)
 rw [List.map_map] at this
 exact this
def dZ (n:Nat):Int:=if n % 2=0 then ((n / 2:Nat):Int) else -((n / 2:Nat):Int) - 1
theorem ah3 (n:Nat) (aJ:n<2 ^ 64):og .u64 (n:Int) 1=((n % 2:Nat):Int):=by
 show IntKind.u64.wrap ((BitVec.ofInt 64 (n:Int) &&& BitVec.ofInt 64 1).toNat:Int)=_
 have e:BitVec.ofInt 64 (1:Int)=BitVec.ofNat 64 1:=rfl
 have aK:(BitVec.ofNat 64 n &&& BitVec.ofNat 64 1).toNat=n % 2:=by
  rw [BitVec.toNat_and,BitVec.toNat_ofNat,BitVec.toNat_ofNat,Nat.mod_eq_of_lt aJ,Nat.mod_eq_of_lt (by decide),Nat.and_one_is_mod]
 rw [zL,e,aK,IntKind.wrap_u64]
 omega
theorem ah4 (a:Nat) (aL:a<2 ^ 63):jr .i64 (a:Int) 0=(a:Int):=by
 show IntKind.i64.wrap ((BitVec.ofInt 64 (a:Int) ^^^ BitVec.ofInt 64 0).toNat:Int)=_
 have e:BitVec.ofInt 64 (0:Int)=BitVec.ofNat 64 0:=rfl
 have aK:(BitVec.ofNat 64 a ^^^ BitVec.ofNat 64 0).toNat=a:=by
  rw [BitVec.toNat_xor,BitVec.toNat_ofNat,BitVec.toNat_ofNat,Nat.zero_mod,Nat.xor_zero]
  exact Nat.mod_eq_of_lt (by omega)
 rw [zL,e,aK,IntKind.wrap_i64]
 omega
theorem ah5 (a:Nat) (aL:a<2 ^ 63):jr .i64 (a:Int) (-1)=-(a:Int) - 1:=by
 show IntKind.i64.wrap ((BitVec.ofInt 64 (a:Int) ^^^ BitVec.ofInt 64 (-1)).toNat:Int)=_
 have e:BitVec.ofInt 64 (-1:Int)=BitVec.allOnes 64:=by decide
 have aK:(BitVec.ofNat 64 a ^^^ BitVec.allOnes 64).toNat=18446744073709551615 - a:=by
  rw [BitVec.xor_allOnes,BitVec.toNat_not,BitVec.toNat_ofNat,Nat.mod_eq_of_lt (by omega)]
 rw [zL,e,aK,IntKind.wrap_i64]
 omega
theorem ah6 (n:Nat) (aJ:n<2 ^ 64):jr .i64 (IntKind.i64.wrap ((n:Int).fdiv (2 ^ min (Int.toNat 1) IntKind.u64.bits))) (IntKind.i64.wrap (0 - IntKind.i64.wrap (og .u64 (n:Int) 1)))=dZ n:=by
 have aK:(2:Int) ^ min (Int.toNat 1) IntKind.u64.bits=2:=by decide
 have a6:IntKind.i64.wrap ((n:Int).fdiv 2)=((n / 2:Nat):Int):=by
  rw [Int.fdiv_eq_ediv_of_nonneg _ (by omega),Go.IntWalk.i64_in _ (by omega)];omega
 rw [aK,a6,ah3 n aJ,Go.IntWalk.i64_in ((n % 2:Nat):Int) (by omega),Go.IntWalk.i64_in _ (by omega)]
 unfold dZ
 by_cases h:n % 2=0
 ·rw [if_pos h,h];exact ah4 _ (by omega)
 ·have h1:n % 2=1:=by omega
  rw [if_neg h,h1]
  exact ah5 _ (by omega)
theorem ah7 (n:Nat) (h:I) (aJ:n<2 ^ 64):Pure Tryz.prog 151 [.int .u64 n] h (.int .i64 (dZ n)):=by
 refine ah.aH (c:=_) Tryz.func151 rfl (by kernel_rfl) (by simp) ?_
 simp only [ao,Nat.reduceEqDiff,reduceCtorEq,yX (show (0:Int)≤1 by decide),js jS E6,bd,Tryz.results151,bT]
 exact aR ⟨by rw [ah6 n aJ],rfl⟩
theorem Fp (p:V) (i:Nat) (bs:List Nat) (h:I) (aq:ef h p i bs) (ar:∀ b ∈ bs,b<256) (al:bs.length≤2 ^ 47) :
  ah Tryz.prog 121 [p] h (fun r U=>r=.tuple [.int .i64 (dZ (dec bs 0 0).1),.int .i64 ((dec bs 0 0).2.2:Nat)]∧ef U p i (bs.drop (dec bs 0 0).2.1)∧aa h U (·=i)):=by
 refine ah.aH (c:=_) Tryz.func121 rfl (by kernel_rfl) (by simp) ?_
 simp only [ao,Nat.reduceEqDiff,reduceCtorEq]
 refine cC Cn (Cz p i bs h aq ar al) fun r h1 ⟨aK,cq,bj⟩=>?_
 subst aK
 have aT:=dec_lt bs 0 0 (by omega) (by decide) ar
 by_cases cN:(dec bs 0 0).2.2=0
 ·have bc:((((dec bs 0 0).2.2:Nat):Int) !=0)=false:=by simp [cN]
  simp only [ao,Nat.reduceEqDiff,bc]
  refine cK afV (ah7 _ h1 aT) ?_
  simp only [ao,Nat.reduceEqDiff,bd,Tryz.results121,ha]
  exact aR ⟨by rw [cN];rfl,cq,bj⟩
 ·have bc:((((dec bs 0 0).2.2:Nat):Int) !=0)=true:=by simp;omega
  have a7:=NM bs 0 0 cN
  simp only [ao,Nat.reduceEqDiff,bc,bd,Tryz.results121,ha]
  refine aR ⟨?_,cq,bj⟩
  rw [a7]
  have:dZ 0=0:=by decide
  simp only [this]
def mJ (bs:List Nat):List Nat×List Nat×Nat :=
 if (dec bs 0 0).2.2≠0 then ([],bs,(dec bs 0 0).2.2)
 else if (bs.drop (dec bs 0 0).2.1).length<(dec bs 0 0).1 then ([],bs,4)
 else ((bs.drop (dec bs 0 0).2.1).take (dec bs 0 0).1,(bs.drop (dec bs 0 0).2.1).drop (dec bs 0 0).1,0)
theorem I7 (l:List Nat) (k:Nat) (hk:k≤l.length) {kk:IntKind}:jL Tryz.prog 56 (.an l.length (bp l)) (some (.int kk (k:Nat))) none none=some (.an (l.drop k).length (bp (l.drop k))):=by
 rw [QV Cw (by omega) (by omega) (by rw [am];omega)]
 rw [Int.toNat_natCast,Nat.mul_one]
 unfold bp
 rw [List.map_drop,List.length_drop]
theorem TH (l:List Nat) (k:Nat) (hk:k≤l.length) {kk:IntKind}:jL Tryz.prog 56 (.an l.length (bp l)) none (some (.int kk (k:Nat))) none=some (.an (l.take k).length (bp (l.take k))):=by
 rw [ac5 Cw (by omega) (by omega) (by rw [am];omega)]
 rw [Int.toNat_natCast,Nat.mul_one,List.length_take,Nat.min_eq_left hk]
 unfold bp
 rw [List.map_take]
theorem em (h:I) (l:List V):aV (.tuple (.ag::l)) h (.tuple (.an 0 []::l)) h:=fun ρ B aG w r' hw aN=>by
 cases aN with
 | tuple J af=>
  refine ⟨ρ,Ren.le.refl ρ,hw,.tuple J fun k v v' a b=>?_⟩
  match k with
  | 0=>
   simp at a
   subst a
   have:=af 0 .ag v' rfl b
   cases this
   exact .fH _ _ (by simp)
  | k+1=>exact af (k+1) v v' (by simpa using a) b
theorem ah8 (p:V) (i:Nat) (bs:List Nat) (h:I) (aq:ef h p i bs) (ar:∀ b ∈ bs,b<256) (al:bs.length≤2 ^ 47) :
  ah Tryz.prog 116 [p] h (fun r U=>r=.tuple [.an (mJ bs).1.length (bp (mJ bs).1),.int .i64 ((mJ bs).2.2:Nat)]∧ef U p i (mJ bs).2.1∧aa h U (·=i)):=by
 refine ah.cast ?_
 refine ah.aH (c:=_) Tryz.func116 rfl (by kernel_rfl) (by simp) ?_
 simp only [ao,Nat.reduceEqDiff,reduceCtorEq]
 refine cK II (rest h p i bs aq) ?_
 simp only [ao,Nat.reduceEqDiff]
 refine cK Sw (number bs h ar (by omega)) ?_
 by_cases cN:(dec bs 0 0).2.2=0
 ·have bc:((((dec bs 0 0).2.2:Nat):Int) !=0)=false:=by simp [cN]
  have I5:=I4 bs 0 0
  have aT:=dec_lt bs 0 0 (by omega) (by decide) ar
  obtain ⟨rfl,hi,aE⟩:=aq
  have iT:=I7 bs (dec bs 0 0).2.1 (by omega) (kk:=.i64)
  have Kc:=zO (n:=(bs.drop (dec bs 0 0).2.1).length) (by rw [List.length_drop];omega)
  by_cases dU:(bs.drop (dec bs 0 0).2.1).length<(dec bs 0 0).1
  ·have bf:decide ((((bs.drop (dec bs 0 0).2.1).length:Nat):Int)<(((dec bs 0 0).1:Nat):Int))=true:=by simpa using dU
   have fk:mJ bs=([],bs,4):=by unfold mJ;rw [if_neg (by omega),if_pos dU]
   simp only [ao,Nat.reduceEqDiff,reduceCtorEq,EZ,gH,lB,rf,bc,aE,iT,js gG jS,Kc,bf,bd,Tryz.results116,ha]
   exact aR ⟨_,_,em _ _,by rw [fk];rfl,by rw [fk];exact ⟨rfl,hi,aE⟩,aa.refl _ _⟩
  ·have bf:decide ((((bs.drop (dec bs 0 0).2.1).length:Nat):Int)<(((dec bs 0 0).1:Nat):Int))=false:=by simp only [decide_eq_false_iff_not];omega
   have fk:mJ bs=((bs.drop (dec bs 0 0).2.1).take (dec bs 0 0).1,(bs.drop (dec bs 0 0).2.1).drop (dec bs 0 0).1,0):=by unfold mJ;rw [if_neg (by omega),if_neg dU]
   have jY:(bs.drop (dec bs 0 0).2.1).length≤2 ^ 47:=by rw [List.length_drop];omega
   have s1:=I7 (bs.drop (dec bs 0 0).2.1) (dec bs 0 0).1 (by omega) (kk:=.u64)
   have s2:=TH (bs.drop (dec bs 0 0).2.1) (dec bs 0 0).1 (by omega) (kk:=.u64)
   simp only [ao,Nat.reduceEqDiff,reduceCtorEq,EZ,gH,lB,vY,rf,bc,aE,iT,js gG jS,Kc,bf,s1,s2]
   refine cK zA (Tq _ _ 0 _ (Rd.an _ _) (by rw [List.length_take];omega)) ?_
   simp only [ao,Nat.reduceEqDiff,bd,Tryz.results116,ha]
   exact aR ⟨_,_,aV.refl _ _,by rw [fk];rfl,by rw [fk];exact ⟨rfl,by rw [kE];exact hi,e4⟩,aa.set _ _ _⟩
 ·have bc:((((dec bs 0 0).2.2:Nat):Int) !=0)=true:=by simp;omega
  have a7:=NM bs 0 0 cN
  have fk:mJ bs=([],bs,(dec bs 0 0).2.2):=by unfold mJ;rw [if_pos cN]
  simp only [ao,Nat.reduceEqDiff,rf,bc,bd,Tryz.results116,ha]
  exact aR ⟨_,_,em _ _,by rw [fk];rfl,by rw [fk];exact aq,aa.refl _ _⟩
theorem TI (n:Int):dZ (iE n)=n:=by
 unfold dZ iE
 by_cases h:0≤n
 ·rw [if_pos h,if_pos (by omega)];omega
 ·rw [if_neg h,if_neg (by omega)];omega
def zP (r:Int):Int:=if og .u32 r 1=0 then r.fdiv (2 ^ (min (Int.toNat 1) IntKind.u32.bits)) else jr .u32 (r.fdiv (2 ^ (min (Int.toNat 1) IntKind.u32.bits))) 2197175160
def jz (r:Int):Nat→Int
 | 0=>r
 | k+1=>zP (jz r k)
theorem entry (c:Int) (h:I):Pure Tryz.prog 275 [.int .u8 c] h (.int .u32 (jz (IntKind.u32.wrap c) 8)):=by
 refine ah.aH (c:=_) Tryz.func275 rfl (by kernel_rfl) (by simp) ?_
 simp only [ao,Nat.reduceEqDiff,reduceCtorEq,Ng,iq]
 refine aZ.cu (α:=Nat) (fun i f U=>U=h∧f 3=.int .u32 (jz (IntKind.u32.wrap c) i)∧f 7=.int .i64 (i:Nat)∧i≤8) (fun i=>8 - i) 0
  ⟨rfl,rfl,rfl,Nat.zero_le _⟩ ?_
 rintro i f U ⟨rfl,f3,f7,hi⟩
 refine gn (by kernel_rfl) ?_
 by_cases cb:i<8
 ·have d1:decide ((i:Int)<8)=true:=by simp;omega
  have hw:IntKind.i64.wrap ((i:Int)+1)=((i+1:Nat):Int):=by rw [Go.IntWalk.i64_in _ (by omega)];rfl
  by_cases bf:og .u32 (jz (IntKind.u32.wrap c) i) 1=0
  ·have jA:(og .u32 (jz (IntKind.u32.wrap c) i) 1 !=0)=false:=by simp [bf]
   simp only [ao,Nat.reduceEqDiff,f3,f7,d1,jA,hw,yX (show (0:Int)≤1 by decide)]
   have e:jz (IntKind.u32.wrap c) (i+1)=(jz (IntKind.u32.wrap c) i).fdiv (2 ^ (min (Int.toNat 1) IntKind.u32.bits)):=by rw [jz,zP,if_pos bf]
   exact aR ⟨i+1,⟨rfl,by rw [e];rfl,rfl,cb⟩,by omega⟩
  ·have jA:(og .u32 (jz (IntKind.u32.wrap c) i) 1 !=0)=true:=by simp [bf]
   simp only [ao,Nat.reduceEqDiff,f3,f7,d1,jA,hw,yX (show (0:Int)≤1 by decide)]
   have e:jz (IntKind.u32.wrap c) (i+1)=jr .u32 ((jz (IntKind.u32.wrap c) i).fdiv (2 ^ (min (Int.toNat 1) IntKind.u32.bits))) 2197175160:=by rw [jz,zP,if_neg bf]
   exact aR ⟨i+1,⟨rfl,by rw [e];rfl,rfl,cb⟩,by omega⟩
 ·have d1:decide ((i:Int)<8)=false:=by simp;omega
  have e:i=8:=by omega
  subst e
  simp only [ao,Nat.reduceEqDiff,f3,f7,d1,bd,Tryz.results275,bT]
  exact aR ⟨rfl,rfl⟩
def Fq (r c:Int):Int:=jr .u32 (r.fdiv (2 ^ (min (Int.toNat 8) IntKind.u32.bits))) (jz (IntKind.u32.wrap (jr .u8 (IntKind.u8.wrap r) c)) 8)
def pG (l:List Nat):Int:=l.foldl (fun (r:Int) (c:Nat)=>Fq r (c:Int)) 4294967295
def v8 (l:List Nat):Int:=jr .u32 (if IntKind.u32.signed=true then -1 else IntKind.u32.max) (pG l)
theorem EQ (l:List Nat) (h:I) (aw:l.length≤2 ^ 47):Pure Tryz.prog 259 [.an l.length (bp l)] h (.int .u32 (v8 l)):=by
 refine ah.aH (c:=_) Tryz.func259 rfl (by kernel_rfl) (by simp) ?_
 simp only [ao,Nat.reduceEqDiff,reduceCtorEq,gH]
 refine aZ.cu (α:=Nat) (fun i f U=>U=h∧f 3=.int .u32 (pG (l.take i))∧f 6=.an l.length (bp l)∧f 7=.int .i64 (l.length:Nat)∧f 8=.int .i64 (i:Nat)∧i≤l.length) (fun i=>l.length - i) 0
  ⟨rfl,rfl,rfl,rfl,rfl,Nat.zero_le _⟩ ?_
 rintro i f U ⟨rfl,f3,f6,f7,f8,hi⟩
 refine gn (by kernel_rfl) ?_
 by_cases cb:i<l.length
 ·have d1:decide ((i:Int)<((l.length:Nat):Int))=true:=by simp;omega
  have hw:IntKind.i64.wrap ((i:Int)+1)=((i+1:Nat):Int):=by rw [Go.IntWalk.i64_in _ (by omega)];rfl
  have af:ik Tryz.prog 56 (.an l.length (bp l)) (.int .i64 (i:Int))=some (.at (.int .u8 (l[i]:Nat)::bp (l.drop (i+1)))):=by
   have fD:=B4 (P:=Tryz.prog) (t:=56) (k:=.i64) (i:=(i:Int)) (n:=l.length) (cs:=bp l) Cw (by omega) (by omega) (by rw [am];omega)
   rw [Int.toNat_natCast,Tw cb] at fD
   exact fD
  have e:pG (l.take (i+1))=Fq (pG (l.take i)) (l[i]:Nat):=by
   rw [List.take_succ_eq_append_getElem cb]
   unfold pG
   rw [List.foldl_append]
   all_goals rfl
  simp only [ao,Nat.reduceEqDiff,nk,f3,f6,f7,f8,d1,af,yX (show (0:Int)≤8 by decide),js Ng iq]
  refine cK agp (entry _ U) ?_
  simp only [ao,Nat.reduceEqDiff,f8,hw]
  exact aR ⟨i+1,⟨rfl,by rw [e];rfl,f6,f7,rfl,cb⟩,by omega⟩
 ·have d1:decide ((i:Int)<((l.length:Nat):Int))=false:=by simp;omega
  have e:pG (l.take i)=pG l:=by rw [show i=l.length by omega,List.take_length]
  simp only [ao,Nat.reduceEqDiff,f3,f7,f8,d1]
  exact aR ⟨by rw [e];rfl,rfl⟩
def dC (l:List Nat) (i:Nat):Int:=IntKind.u8.wrap ((v8 l).fdiv (2 ^ (min (Int.toNat (8 * (i:Int))) IntKind.u32.bits)))
def tw (l:List Nat):V:=.agg [.int .u8 (dC l 0),.int .u8 (dC l 1),.int .u8 (dC l 2),.int .u8 (dC l 3)]
def lC (l:List Nat) (k:Nat):List V:=[.int .u8 (if 0<k then dC l 0 else 0),.int .u8 (if 1<k then dC l 1 else 0),.int .u8 (if 2<k then dC l 2 else 0),.int .u8 (if 3<k then dC l 3 else 0)]
theorem sumOf (l:List Nat) (h:I) (aw:l.length≤2 ^ 47):Pure Tryz.prog 230 [.an l.length (bp l)] h (tw l):=by
 refine Pure.val (bb.agg (aO.cons (bb.int _ _) (aO.cons (bb.int _ _) (aO.cons (bb.int _ _) (aO.cons (bb.int _ _) aO.nil))))) ?_
 refine ah.aH (c:=_) Tryz.func230 rfl (by kernel_rfl) (by simp) ?_
 simp only [ao,Nat.reduceEqDiff,reduceCtorEq,IZ]
 refine cK agm (EQ l _ aw) ?_
 simp only [ao,Nat.reduceEqDiff,IZ]
 refine aZ.cu (α:=Nat) (fun i f U=>f 2=.ptr h.n 0∧f 3=.int .u32 (v8 l)∧f 4=.ptr (h.n+1) 0∧f 8=.int .i64 (i:Nat)∧i≤4∧U.n=h.n+2∧U.get h.n=.cells (lC l 0) 378 none∧U.get (h.n+1)=.cells (lC l i) 378 none∧aa h U none_) (fun i=>4 - i) 0
  ⟨rfl,rfl,rfl,rfl,Nat.zero_le _,rfl,(jN (by rw [fR];omega)).trans c4,c4,(aa.push _ _ _).trans (aa.push _ _ _) (fun _ _ h=>h)⟩ ?_
 rintro i f U ⟨f2,f3,f4,f8,hi,aJ,g0,g1,hk⟩
 refine gn (by kernel_rfl) ?_
 have hmul:∀ j:Nat,j<4→IntKind.i64.wrap (8 * (j:Int))=8 * (j:Int):=fun j aC=>Go.IntWalk.i64_in _ (by omega)
 by_cases cb:i<4
 ·have d1:decide ((i:Int)<4)=true:=by simp;omega
  have hw:IntKind.i64.wrap ((i:Int)+1)=((i+1:Nat):Int):=by rw [Go.IntWalk.i64_in _ (by omega)];rfl
  have hm:=hmul i cb
  have af:ik Tryz.prog 378 (.ptr (h.n+1) 0) (.int .i64 (i:Int))=some (.ptr (h.n+1) i):=by
   have:i=0∨i=1∨i=2∨i=3:=by omega
   have z5:ap Tryz.prog 5=some 1:=by kernel_rfl
   rcases this with rfl | rfl | rfl | rfl<;>simp [ik,z5]
  have gz:i+1≤(lC l i).length:=by simp [lC];omega
  have j7:(lC l i).set i (.int .u8 (IntKind.u8.wrap ((v8 l).fdiv (2 ^ min (8 * (i:Int)).toNat IntKind.u32.bits))))=lC l (i+1):=by
   have:i=0∨i=1∨i=2∨i=3:=by omega
   rcases this with rfl | rfl | rfl | rfl<;>simp [lC,dC]
  simp only [ao,Nat.reduceEqDiff,ND,f3,f4,f8,d1,hw,hm,g1,af,yX (show (0:Int)≤8 * (i:Int) by omega),js Ng iq,gz,j7]
  exact aR ⟨i+1,⟨f2,f3,f4,rfl,cb,aJ,(nS (by omega)).trans g0,e4,hk.trans (aa.set _ _ _) (fun k hk hi=>by omega)⟩,by omega⟩
 ·have d1:decide ((i:Int)<4)=false:=by simp;omega
  have e:i=4:=by omega
  subst e
  have gr:lC l 0=[.int .u8 0,.int .u8 0,.int .u8 0,.int .u8 0]:=by simp [lC]
  have hj:lC l 4=[.int .u8 (dC l 0),.int .u8 (dC l 1),.int .u8 (dC l 2),.int .u8 (dC l 3)]:=by simp [lC]
  rw [hj] at g1
  rw [gr] at g0
  simp only [ao,Nat.reduceEqDiff,Nat.reduceAdd,SZ,To,f2,f4,f8,d1,g0,g1,bd,Tryz.results230,xm,jP]
  exact aR ⟨rfl,hk.trans (aa.set _ _ _) (fun k hk hi=>by omega)⟩
theorem NP {i n:Nat} (h:i<n) (aJ:n≤2 ^ 62):IntKind.i64.wrap ((i:Int)+1)=((i+1:Nat):Int):=by rw [Go.IntWalk.i64_in _ (by omega)];rfl
theorem ah9 {l:List Int} {k:Nat} (hk:k<l.length):(bl l).drop (k * 1)=.int .i64 l[k]::bl (l.drop (k+1)):=by
 rw [Nat.mul_one]
 unfold bl
 rw [←List.map_drop,List.drop_eq_getElem_cons hk]
 all_goals rfl
theorem aia {l:List Int} {k:Nat} (hk:k<l.length) {t:TypeId} (J:ee Tryz.prog t=some 1):ik Tryz.prog t (.an l.length (bl l)) (.int .i64 (k:Int))=some (.at (.int .i64 l[k]::bl (l.drop (k+1)))):=by
 rw [B4 J (by omega) (by omega) (by rw [l9];omega),Int.toNat_natCast,ah9 hk]
structure eP where
 k:Int
 v:Int
 t:Int
 deriving DecidableEq
structure bk where
 kind:Int
 task:Int
 aF:Int
 fV:Int
 log:Int
 r:eP
 del:Bool
 bA:List Int
 order:List Int
 deriving DecidableEq
def dh (r:eP):List V:=[.int .i64 r.k,.int .i64 r.v,.int .i64 r.t]
def aY (x:bk):List V:=[.int .i64 x.kind,.int .i64 x.task,.int .i64 x.aF,.int .i64 x.fV,.int .i64 x.log,.int .i64 x.r.k,.int .i64 x.r.v,.int .i64 x.r.t,.bool x.del,.an x.bA.length (bl x.bA),.an x.order.length (bl x.order)]
theorem aib (r:eP):(dh r).length=3:=rfl
theorem CC (r:bk):(aY r).length=11:=rfl
theorem aic (r:eP):aO (dh r):=aO.cons (bb.int _ _) (aO.cons (bb.int _ _) (aO.cons (bb.int _ _) aO.nil))
theorem aid (r:bk):aO (aY r):=aO.cons (bb.int _ _) (aO.cons (bb.int _ _) (aO.cons (bb.int _ _) (aO.cons (bb.int _ _) (aO.cons (bb.int _ _) (aO.cons (bb.int _ _) (aO.cons (bb.int _ _) (aO.cons (bb.int _ _) (aO.cons (bb.bool _) (aO.cons (bb.an (DG _)) (aO.cons (bb.an (DG _)) aO.nil))))))))))
def tz:eP:=⟨0,0,0⟩
def oy:bk:=⟨0,0,0,0,0,tz,false,[],[]⟩
def hJ (n:Int):Prop:=-2 ^ 63≤n∧n<2 ^ 63
def ia (r:eP):Prop:=hJ r.k∧hJ r.v∧hJ r.t
def fit (n:Int):Bool:=decide (0≤n)&&decide (n≤1048576)
def ri (t:Int):Bool:=decide (0≤t)&&decide (t≤1099511627776)
def tA (x:bk):Bool :=
 (decide (2≤x.kind∧x.kind≤5)||(x.task==0&&x.aF==0))&&(decide (2≤x.kind∧x.kind≤4)||x.fV==0)&&(decide (x.kind≤2)||(x.log==0&&decide (x.r=tz))) &&
  (decide (x.kind=2)||!x.del)&&(decide (x.kind=3)||(x.bA.length==0&&x.order.length==0))
def cy (x:bk):Bool :=
 decide (1≤x.kind)&&decide (x.kind≤6)&&fit x.task&&fit x.aF&&fit x.fV&&fit x.log&&ri x.r.t&&decide (x.bA.length≤8)&&x.bA.all fit&&decide (x.order.length≤256)&&x.order.all fit&&tA x
theorem nT (x:bk):cy x=true↔(1≤x.kind∧x.kind≤6)∧fit x.task=true∧fit x.aF=true∧fit x.fV=true∧fit x.log=true∧ri x.r.t=true∧x.bA.length≤8∧(∀ n ∈ x.bA,fit n=true)∧x.order.length≤256∧(∀ n ∈ x.order,fit n=true)∧tA x=true:=by
 simp only [cy,Bool.and_eq_true,decide_eq_true_eq,List.all_eq_true,and_assoc]
theorem rj (n:Int):fit n=true↔0≤n∧n≤1048576:=by simp [fit]
theorem aie:tb Tryz.prog 307=some (8,2,true):=by kernel_rfl
theorem TJ (l:List Int) (h:I) (aw:l.length≤2 ^ 47):Pure Tryz.prog 139 [.an l.length (bl l)] h (.bool (l.all fit)):=by
 refine ah.aH (c:=_) Tryz.func139 rfl (by kernel_rfl) (by simp) ?_
 simp only [ao,Nat.reduceEqDiff,reduceCtorEq,o4]
 refine aZ.cu (α:=Nat) (fun i f U=>U=h∧f 5=.an l.length (bl l)∧f 6=.int .i64 l.length∧f 7=.int .i64 (i:Nat)∧i≤l.length∧(l.take i).all fit=true) (fun i=>l.length - i) 0
  ⟨rfl,rfl,rfl,rfl,Nat.zero_le _,rfl⟩ ?_
 rintro i f U ⟨rfl,f5,f6,f7,hi,aL⟩
 refine gn (by kernel_rfl) ?_
 by_cases cb:i<l.length
 ·have d1:decide ((i:Int)<((l.length:Nat):Int))=true:=by simp;omega
  have af:=aia (l:=l) cb Nv
  have im:l.all fit=true→fit l[i]=true:=fun ad=>List.all_eq_true.1 ad _ (List.getElem_mem cb)
  by_cases bf:l[i]<0
  ·have fk:l.all fit=false:=by
    cases ad:l.all fit with
    | false=>rfl
    | true=>have:=(rj _).1 (im ad);omega
   simp only [ao,Nat.reduceEqDiff,bz,f5,f6,f7,d1,af,bf,bd,Tryz.results139,bT]
   exact aR ⟨by rw [fk],rfl⟩
  by_cases bx:1048576<l[i]
  ·have fk:l.all fit=false:=by
    cases ad:l.all fit with
    | false=>rfl
    | true=>have:=(rj _).1 (im ad);omega
   simp only [ao,Nat.reduceEqDiff,bz,f5,f6,f7,d1,af,bf,bx,bd,Tryz.results139,bT]
   exact aR ⟨by rw [fk],rfl⟩
  ·have aB:fit l[i]=true:=(rj _).2 (by omega)
   have hw:=NP cb (by omega)
   simp only [ao,Nat.reduceEqDiff,bz,f5,f6,f7,d1,af,bf,bx,hw]
   refine aR ⟨i+1,⟨rfl,f5,f6,rfl,cb,?_⟩,by omega⟩
   rw [List.take_succ_eq_append_getElem cb,List.all_append,aL]
   simp [aB]
 ·have d1:decide ((i:Int)<((l.length:Nat):Int))=false:=by simp;omega
  have fk:l.all fit=true:=by rw [show i=l.length by omega,List.take_length] at aL;exact aL
  simp only [ao,Nat.reduceEqDiff,f6,f7,d1,bd,Tryz.results139,bT]
  exact aR ⟨by rw [fk],rfl⟩
theorem aif (t:Int) (h:I):Pure Tryz.prog 140 [.int .i64 t] h (.bool (ri t)):=by
 refine ah.aH (c:=_) Tryz.func140 rfl (by kernel_rfl) (by simp) ?_
 by_cases h1:0≤t
 ·simp only [ao,Nat.reduceEqDiff,reduceCtorEq,h1,bd,Tryz.results140,bT]
  exact aR ⟨by simp [ri,h1],rfl⟩
 ·simp only [ao,Nat.reduceEqDiff,reduceCtorEq,h1,bd,Tryz.results140,bT]
  exact aR ⟨by simp [ri,h1],rfl⟩
def CD (l:List Bool):List (Bool×Int):=[(l.getD 0 false,1),(l.getD 1 false,2),(l.getD 2 false,4),(l.getD 3 false,8),(l.getD 4 false,16),(l.getD 5 false,32),(l.getD 6 false,64),(l.getD 7 false,128)]
def oz (l:List (Bool×Int)):Int:=l.foldl (fun a p=>if p.1 then qc .i64 a p.2 else a) 0
def NQ (l:List (Bool×Int)):List V:=l.flatMap fun p=>[.bool p.1,.int .i64 p.2]
def CE (x:bk):List Bool:=[decide (x.task≠0),decide (x.aF≠0),decide (x.fV≠0),decide (x.log≠0),decide (x.r≠tz),x.del,decide (0<x.bA.length),decide (0<x.order.length)]
def lf:List Int:=[0,24,63,199,7,3,0]
def jB:List V:=lf.map (.int .i64)
def qy (h:I):Prop:=h.glob 1=some jB
theorem aih (k v t:Int) {xo yo:Operand}:cl Tryz.prog .neq 37 xo yo (.agg [.int .i64 k,.int .i64 v,.int .i64 t]) (.agg [.int .i64 0,.int .i64 0,.int .i64 0])=some (.bool (decide ((⟨k,v,t⟩:eP)≠tz))):=by
 have h:gC [0,0,0] [.int .i64 k,.int .i64 v,.int .i64 t] [.int .i64 0,.int .i64 0,.int .i64 0]=some (decide ((⟨k,v,t⟩:eP)=tz)):=by
  simp only [gC,if_true,Option.map_some,Option.some.injEq]
  rw [Bool.eq_iff_iff]
  simp [tz]
 rw [adQ ahx h]
 simp
theorem aii (x:bk) (h:I):Pure Tryz.prog 141 [.agg (aY x)] h (.int .i64 (oz (CD (CE x)))):=by
 refine Pure.val (bb.int _ _) ?_
 refine ah.aH (c:=_) Tryz.func141 rfl (by kernel_rfl) (by simp) ?_
 have al:(V.agg (aY x)).cells=some (aY x):=rfl
 simp only [ao,al]
 obtain ⟨H,hH⟩:∃ y,y=h.push (.cells (aY x) 140 none):=⟨_,rfl⟩
 have aE:H.get h.n=.cells (aY x) 140 none:=by rw [hH];exact c4
 have c6:aa h H none_:=by rw [hH];exact aa.push _ _ _
 rw [←hH]
 refine aZ.b4 none_ [] (.q 0 (.q 1 (.q 2 (.q 3 (.q 4 (.q 5 (.q 6 (.q 7 (.q 8 (.q 9 (.q 10 (.q 11 (.q 12 (.q 13 (.q 14 (.q 15 (.q 16 (.q 17 (.q 18 (.q 19 (.q 20 (.q 21 (.q 22 (.q 23 (.q 24 (.q 25 (.q 26 (.q 27 (.q 28 (.q 29 (.q 30 (.q 31 (.q 32 (.q 33 (.q 34 (.q 35 .done)))))))))))))))))))))))))))))))))))) (by kernel_rfl) (by kernel_rfl) (by kernel_rfl) ?_
 have aK:∀ a:Int,(a !=0)=decide (a≠0):=fun a=>by rw [Bool.eq_iff_iff];simp
 have a6:∀ l:List Int,decide ((0:Int)<((l.length:Nat):Int))=decide (0<l.length):=fun l=>by rw [Bool.eq_iff_iff];simp
 simp only [ao,b6,Nat.reduceEqDiff,Nat.reduceAdd,Nat.reduceLeDiff,Nat.reduceMul,EU,vV,zC,Cq,EV,IJ,EW,EX,o4,bz,ux,iN,vW,ahr,ahs,Ff,Nx,ahI,xR,aE,aY,aih,aK,a6]
 refine aZ.cu (α:=Nat) (fun i f U=>aa H U none_∧f 40=.agg (NQ (CD (CE x)))∧f 41=.int .i64 (i:Nat)∧f 3=.int .i64 (oz ((CD (CE x)).take i))∧i≤8) (fun i=>8 - i) 0
  ⟨aa.refl _ _,rfl,rfl,rfl,Nat.zero_le _⟩ ?_
 rintro i f U ⟨hk,f40,f41,f3,hi⟩
 refine gn (by kernel_rfl) ?_
 generalize eM:CD (CE x)=F at f40 f3⊢
 have hlen:F.length=8:=by rw [←eM];rfl
 by_cases cb:i<8
 ·have d1:decide ((i:Int)<8)=true:=by simp;omega
  have gz:i<F.length:=by omega
  have hw:=NP cb (by omega)
  have fD:ua Tryz.prog 307 (.agg (NQ F)) (.int .i64 (i:Int))=some (.agg [.bool F[i].1,.int .i64 F[i].2]):=by
   rw [Rm aie]
   simp only [AR,Int.toNat_natCast,if_true]
   rw [if_pos ⟨by omega,by omega⟩,NQ,DQ (sz:=2) (fun _=>rfl),List.drop_eq_getElem_cons gz]
   all_goals rfl
  have J:oz (F.take (i+1))=if F[i].1 then qc .i64 (oz (F.take i)) F[i].2 else oz (F.take i):=by
   rw [List.take_succ_eq_append_getElem gz,oz,List.foldl_append]
   all_goals rfl
  generalize F[i]=p at fD J
  obtain ⟨b,n⟩:=p
  cases b
  ·simp only [ao,Nat.reduceEqDiff,Nat.reduceAdd,SJ,iN,Nx,Tn,f40,f41,d1,fD,hw]
   refine aR ⟨i+1,⟨hk.cB _,f40,rfl,?_,cb⟩,by omega⟩
   rw [J]
   exact f3
  ·simp only [ao,Nat.reduceEqDiff,Nat.reduceAdd,Nat.reduceLeDiff,SJ,agT,bz,iN,Nx,Tn,f40,f41,f3,d1,fD,hw]
   refine aR ⟨i+1,⟨hk.cB _,f40,rfl,?_,cb⟩,by omega⟩
   rw [J]
   all_goals rfl
 ·have d1:decide ((i:Int)<8)=false:=by simp;omega
  simp only [ao,Nat.reduceEqDiff,f41,f3,d1,bd,Tryz.results141,bT]
  refine aR ⟨?_,c6.trans' hk⟩
  rw [List.take_of_length_le (by omega)]
def TK:Nat→List Bool→Bool:=fun k l=>
 (decide (2≤k∧k≤5)||(!l.getD 0 false&&!l.getD 1 false))&&(decide (2≤k∧k≤4)||!l.getD 2 false)&&(decide (k≤2)||(!l.getD 3 false&&!l.getD 4 false)) &&
  (decide (k=2)||!l.getD 5 false)&&(decide (k=3)||(!l.getD 6 false&&!l.getD 7 false))
theorem aij:∀ k ∈ [1,2,3,4,5,6],∀ a b c d e f g i:Bool,(BX .i64 (oz (CD [a,b,c,d,e,f,g,i])) (lf.getD k 0)==0)=TK k [a,b,c,d,e,f,g,i]:=by
 decide +kernel
theorem aik (x:bk) {k:Nat} (hk:x.kind=(k:Int)) (h1:1≤k) (dT:k≤6):(BX .i64 (oz (CD (CE x))) (lf.getD k 0)==0)=tA x:=by
 rw [CE,aij k (by simp;omega)]
 have c9:∀ a:Int,(!decide (a≠0))=(a==0):=fun a=>by rw [Bool.eq_iff_iff];simp
 have fw:∀ l:List Int,(!decide (0<l.length))=(l.length==0):=fun l=>by rw [Bool.eq_iff_iff];simp
 have n3:(!decide (x.r≠tz))=decide (x.r=tz):=by rw [Bool.eq_iff_iff];simp
 have m1:decide (2≤(k:Int)∧(k:Int)≤5)=decide (2≤k∧k≤5):=decide_eq_decide.2 (by omega)
 have m2:decide (2≤(k:Int)∧(k:Int)≤4)=decide (2≤k∧k≤4):=decide_eq_decide.2 (by omega)
 have m3:decide ((k:Int)≤2)=decide (k≤2):=decide_eq_decide.2 (by omega)
 have m4:decide ((k:Int)=2)=decide (k=2):=decide_eq_decide.2 (by omega)
 have m5:decide ((k:Int)=3)=decide (k=3):=decide_eq_decide.2 (by omega)
 unfold TK tA
 rw [hk,m1,m2,m3,m4,m5]
 simp only [List.getD_cons_zero,List.getD_cons_succ,c9,fw,n3]
theorem ail (h:I) (a b c d:Int):iA Tryz.prog 50 4 [(0,.int .i64 a),(1,.int .i64 b),(2,.int .i64 c),(3,.int .i64 d)] h=some (.aj h.n 0 4 4,h.push (.cells (bl [a,b,c,d]) 3 none)):=by rw [lN xQ];rfl
theorem aim (j:Nat) (l:List Int) (h:I) (aw:l.length≤2 ^ 47) (aE:h.get j=.cells (bl l) 3 none) (aC:j<h.n):Pure Tryz.prog 139 [.aj j 0 l.length l.length] h (.bool (l.all fit)):=by
 have av:Own h 3 1 (.aj j 0 l.length l.length) (bl l):=.inr ⟨j,l.length,l.length,bl l,none,rfl,aC,aE,by rw [l9,Nat.mul_one],by rw [Nat.mul_one,List.take_of_length_le (by rw [l9];exact Nat.le_refl _)],.inl ⟨by unfold ai;omega,by rw [l9];omega,Nat.le_refl _⟩⟩
 refine ah.aH (c:=_) Tryz.func139 rfl (by kernel_rfl) (by simp) ?_
 simp only [ao,Nat.reduceEqDiff,reduceCtorEq,o4]
 refine aZ.cu (α:=Nat) (fun i f U=>U=h∧f 5=.aj j 0 l.length l.length∧f 6=.int .i64 l.length∧f 7=.int .i64 (i:Nat)∧i≤l.length∧(l.take i).all fit=true) (fun i=>l.length - i) 0
  ⟨rfl,rfl,rfl,rfl,Nat.zero_le _,rfl⟩ ?_
 rintro i f U ⟨rfl,f5,f6,f7,hi,aL⟩
 refine gn (by kernel_rfl) ?_
 by_cases cb:i<l.length
 ·have d1:decide ((i:Int)<((l.length:Nat):Int))=true:=by simp;omega
  obtain ⟨q,c2,eE,⟨r,jt⟩,_⟩:=y2 (P:=Tryz.prog) (kk:=.i64) Nv av (k:=i) (by rw [l9];exact cb)
  simp only [aA,Option.some.injEq] at eE
  subst eE
  have lU:(bl l)[i]'(by rw [l9];exact cb)=.int .i64 l[i]:=by simp [bl]
  rw [lU] at jt
  have im:l.all fit=true→fit l[i]=true:=fun ad=>List.all_eq_true.1 ad _ (List.getElem_mem cb)
  by_cases bf:l[i]<0
  ·have fk:l.all fit=false:=by
    cases ad:l.all fit with
    | false=>rfl
    | true=>have:=(rj _).1 (im ad);omega
   simp only [ao,Nat.reduceEqDiff,bz,f5,f6,f7,d1,c2,jt,bf,bd,Tryz.results139,bT]
   exact aR ⟨by rw [fk],rfl⟩
  by_cases bx:1048576<l[i]
  ·have fk:l.all fit=false:=by
    cases ad:l.all fit with
    | false=>rfl
    | true=>have:=(rj _).1 (im ad);omega
   simp only [ao,Nat.reduceEqDiff,bz,f5,f6,f7,d1,c2,jt,bf,bx,bd,Tryz.results139,bT]
   exact aR ⟨by rw [fk],rfl⟩
  ·have aB:fit l[i]=true:=(rj _).2 (by omega)
   have hw:=NP cb (by omega)
   simp only [ao,Nat.reduceEqDiff,bz,f5,f6,f7,d1,c2,jt,bf,bx,hw]
   refine aR ⟨i+1,⟨rfl,f5,f6,rfl,cb,?_⟩,by omega⟩
   rw [List.take_succ_eq_append_getElem cb,List.all_append,aL]
   simp [aB]
 ·have d1:decide ((i:Int)<((l.length:Nat):Int))=false:=by simp;omega
  have fk:l.all fit=true:=by rw [show i=l.length by omega,List.take_length] at aL;exact aL
  simp only [ao,Nat.reduceEqDiff,f6,f7,d1,bd,Tryz.results139,bT]
  exact aR ⟨by rw [fk],rfl⟩
def oA (x:bk):Prop:=x.bA.length≤2 ^ 47∧x.order.length≤2 ^ 47
theorem NR (x:bk) (h:I) (hu:qy h) (hlen:oA x):Pure Tryz.prog 99 [.agg (aY x)] h (.bool (cy x)):=by
 refine Pure.val (bb.bool _) ?_
 refine ah.aH (c:=_) Tryz.func99 rfl (by kernel_rfl) (by simp) ?_
 have al:(V.agg (aY x)).cells=some (aY x):=rfl
 by_cases bf:x.kind<1
 ·have fk:cy x=false:=by cases ad:cy x with | false=>rfl | true=>have:=((nT x).1 ad).1;omega
  simp only [ao,Nat.reduceEqDiff,Nat.reduceAdd,sb,bz,aY,bf,bd,Tryz.results99,bT]
  exact aR ⟨by rw [fk],aa.push _ _ _⟩
 by_cases bx:6<x.kind
 ·have fk:cy x=false:=by cases ad:cy x with | false=>rfl | true=>have:=((nT x).1 ad).1;omega
  simp only [ao,Nat.reduceEqDiff,Nat.reduceAdd,sb,bz,aY,bf,bx,bd,Tryz.results99,bT]
  exact aR ⟨by rw [fk],aa.push _ _ _⟩
 simp only [ao,Nat.reduceEqDiff,Nat.reduceAdd,sb,bz,aY,bf,bx]
 obtain ⟨H,hH⟩:∃ y,y=h.push (.cells (aY x) 140 none):=⟨_,rfl⟩
 have aE:H.get h.n=.cells [.int .i64 x.kind,.int .i64 x.task,.int .i64 x.aF,.int .i64 x.fV,.int .i64 x.log,.int .i64 x.r.k,.int .i64 x.r.v,.int .i64 x.r.t,.bool x.del,.an x.bA.length (bl x.bA),.an x.order.length (bl x.order)] 140 none:=by rw [hH];exact c4
 have c6:aa h H none_:=by rw [hH];exact aa.push _ _ _
 have Fs:H.glob 1=some jB:=by rw [c6.glob];exact hu
 have o8:H.n=h.n+1:=by rw [hH];rfl
 unfold aY at hH
 rw [←hH]
 clear hH
 obtain ⟨k,hk,fy,TL⟩:∃ k:Nat,x.kind=(k:Int)∧1≤k∧k≤6:=⟨x.kind.toNat,by omega,by omega,by omega⟩
 generalize aK:[x.task,x.aF,x.fV,x.log].all fit=hW
 generalize a6:ri x.r.t=cZ
 have fk:cy x=(hW&&cZ&&decide (x.bA.length≤8)&&x.bA.all fit&&decide (x.order.length≤256)&&x.order.all fit&&tA x):=by
  have g1:decide (1≤x.kind)=true:=decide_eq_true (by omega)
  have g2:decide (x.kind≤6)=true:=decide_eq_true (by omega)
  simp only [cy,g1,g2,←aK,←a6,List.all_cons,List.all_nil,Bool.true_and,Bool.and_true,Bool.and_assoc]
 have d3:decide (((x.bA.length:Nat):Int)≤8)=decide (x.bA.length≤8):=decide_eq_decide.2 (by omega)
 have d5:decide (((x.order.length:Nat):Int)≤256)=decide (x.order.length≤256):=decide_eq_decide.2 (by omega)
 rw [fk]
 have sS:∀ U:I,(U=H.push (.cells (bl [x.task,x.aF,x.fV,x.log]) 3 none))→Pure Tryz.prog 139 [.aj H.n 0 4 4] U (.bool hW):=fun U ad=>by
  rw [←aK,ad];exact aim H.n [x.task,x.aF,x.fV,x.log] _ (by simp) c4 (by rw [fR];omega)
 refine aZ.b4 none_ [8,9] (.q 0 (.q 1 (.q 2 (.q 3 (.q 4 (.q 5 (.q 6 (.q 7 (.e 8 (.a 9 (.q 10 (.q 11 (.q 12 (.q 13 (.c 14 (.q 15 (.q 16 (.q 17 (.q 18 (.q 19 (.q 20 (.q 21 (.q 22 (.q 23 (.q 24 (.c 25 (.q 26 (.q 27 (.q 28 (.q 29 (.q 30 (.q 31 (.q 32 (.q 33 (.q 34 (.q 35 (.c 36 (.q 37 (.q 38 (.q 39 (.c 40 (.q 41 (.q 42 (.q 43 (.q 44 (.q 45 (.q 46 (.q 47 (.q 48 .done)))))))))))))))))))))))))))))))))))))))) .stop))))))))) (by kernel_rfl) (by kernel_rfl) (by kernel_rfl) ?_
 have az:∀ o,(H.push o).get h.n=.cells [.int .i64 x.kind,.int .i64 x.task,.int .i64 x.aF,.int .i64 x.fV,.int .i64 x.log,.int .i64 x.r.k,.int .i64 x.r.v,.int .i64 x.r.t,.bool x.del,.an x.bA.length (bl x.bA),.an x.order.length (bl x.order)] 140 none:=fun o=>by rw [jN (by omega)];exact aE
 have kt:∀ (f:ak) (a:aD),ak.eval f (H.push a) (.global 1)=.at jB:=fun f a=>abk (by rw [acM];exact Fs)
 have gN:∀ o,aa h (H.push o) none_:=fun o=>c6.cB o
 simp only [ao,b6,Nat.reduceEqDiff,Nat.reduceAdd,Nat.reduceLeDiff,EU,vV,zC,Cq,bz,aE,ail]
 refine cK afP (sS _ rfl) ?_
 cases hW
 ·simp only [ao,b6,Nat.reduceEqDiff]
  refine na rfl rfl ?_
  simp only [ao,b6,Nat.reduceEqDiff]
  refine na rfl rfl ?_
  simp only [ao,b6,Nat.reduceEqDiff]
  refine na rfl rfl ?_
  simp only [ao,b6,Nat.reduceEqDiff]
  refine na rfl rfl ?_
  simp only [ao,b6,Nat.reduceEqDiff,bd,Tryz.results99,bT]
  exact aR ⟨rfl,gN _⟩
 simp only [ao,b6,Nat.reduceEqDiff,Nat.reduceAdd,Nat.reduceLeDiff,EV,E4,nj,az]
 refine jQ rfl rfl rfl (fun U _=>aif x.r.t U) ?_
 rw [a6]
 cases cZ
 ·simp only [ao,b6,Nat.reduceEqDiff]
  refine na rfl rfl ?_
  simp only [ao,b6,Nat.reduceEqDiff]
  refine na rfl rfl ?_
  simp only [ao,b6,Nat.reduceEqDiff]
  refine na rfl rfl ?_
  simp only [ao,b6,Nat.reduceEqDiff,bd,Tryz.results99,bT]
  exact aR ⟨rfl,gN _⟩
 by_cases aI:x.bA.length≤8
 rotate_left
 ·have d3:decide (((x.bA.length:Nat):Int)≤8)=false:=decide_eq_false (by omega)
  simp only [ao,b6,Nat.reduceEqDiff,Nat.reduceAdd,Nat.reduceLeDiff,EW,o4,vW,az,d3]
  refine na rfl rfl ?_
  simp only [ao,b6,Nat.reduceEqDiff]
  refine na rfl rfl ?_
  simp only [ao,b6,Nat.reduceEqDiff]
  refine na rfl rfl ?_
  simp only [ao,b6,Nat.reduceEqDiff,bd,Tryz.results99,bT]
  exact aR ⟨by simp [aI],gN _⟩
 have d3:decide (((x.bA.length:Nat):Int)≤8)=true:=decide_eq_true (by omega)
 simp only [ao,b6,Nat.reduceEqDiff,Nat.reduceAdd,Nat.reduceLeDiff,EW,o4,vW,az,d3]
 refine jQ rfl rfl rfl (fun U _=>TJ x.bA U hlen.1) ?_
 generalize x.bA.all fit=ain
 cases ain
 ·simp only [ao,b6,Nat.reduceEqDiff]
  refine na rfl rfl ?_
  simp only [ao,b6,Nat.reduceEqDiff]
  refine na rfl rfl ?_
  simp only [ao,b6,Nat.reduceEqDiff,bd,Tryz.results99,bT]
  exact aR ⟨by simp,gN _⟩
 by_cases h5:x.order.length≤256
 rotate_left
 ·have d5:decide (((x.order.length:Nat):Int)≤256)=false:=decide_eq_false (by omega)
  simp only [ao,b6,Nat.reduceEqDiff,Nat.reduceAdd,Nat.reduceLeDiff,EX,o4,vW,az,d5]
  refine na rfl rfl ?_
  simp only [ao,b6,Nat.reduceEqDiff]
  refine na rfl rfl ?_
  simp only [ao,b6,Nat.reduceEqDiff,bd,Tryz.results99,bT]
  exact aR ⟨by simp [h5],gN _⟩
 have d5:decide (((x.order.length:Nat):Int)≤256)=true:=decide_eq_true (by omega)
 simp only [ao,b6,Nat.reduceEqDiff,Nat.reduceAdd,Nat.reduceLeDiff,EX,o4,vW,az,d5]
 refine jQ rfl rfl rfl (fun U _=>TJ x.order U hlen.2) ?_
 generalize x.order.all fit=aio
 cases aio
 ·simp only [ao,b6,Nat.reduceEqDiff]
  refine na rfl rfl ?_
  simp only [ao,b6,Nat.reduceEqDiff,bd,Tryz.results99,bT]
  exact aR ⟨by simp,gN _⟩
 have fD:(if (0:Int)≤x.kind∧x.kind<((7:Nat):Int)∧(x.kind.toNat * 1)≤jB.length then some (V.at (jB.drop (x.kind.toNat * 1))) else none)=some (.at (.int .i64 (lf.getD k 0)::jB.drop (k+1))):=by
  rw [hk,if_pos ⟨by omega,by omega,by simp [jB,lf];omega⟩]
  have:jB.drop ((k:Int).toNat * 1)=.int .i64 (lf.getD k 0)::jB.drop (k+1):=by
   rw [Int.toNat_natCast,Nat.mul_one,List.drop_eq_getElem_cons (by simp [jB,lf];omega)]
   simp [jB,List.getD,List.getElem?_eq_getElem (show k<lf.length by simp [lf];omega)]
  rw [this]
 simp only [ao,b6,Nat.reduceEqDiff,Nat.reduceAdd,mf,az]
 refine jQ rfl rfl rfl (fun U _=>aii x U) ?_
 simp only [ao,b6,Nat.reduceEqDiff,Nat.reduceAdd,afz,sb,bz,ahz,az,kt,fD,aik x hk fy TL,bd,Tryz.results99,bT]
 exact aR ⟨by simp [aI,h5],gN _⟩
abbrev dn:=eP×Bool
def e6 (p:bk×Nat):List V:=aY p.1++[.int .i64 (p.2:Nat)]
theorem Ft (p:bk×Nat):(e6 p).length=12:=rfl
abbrev Tag:=Nat×Int×Nat
abbrev eT:=Nat→Option Tag
abbrev hK:=List (Nat×Int×Nat)
def fW (m:hK):List (Nat×V×V):=cx (V.int .i64) (fun b:Nat=>V.ptr b 0) m
def lg (h:I) (ow:eT) (b:Nat) (k:Int) (rs:List dn):Prop:=∃ rv dv,h.get b=.cells [.int .i64 k,rv,dv] 46 none ∧
 Own h 37 3 rv (rs.flatMap fun p=>dh p.1)∧Own h 4 1 dv (rs.map fun p=>V.bool p.2)∧ow b=some (0,k,0)∧(∀ j,aA rv=some j→ow j=some (0,k,1))∧(∀ j,aA dv=some j→ow j=some (0,k,2))
structure iu where
 ep:Int
 tx:Int
 bA:List Int
 ord:List Int
 opn:List (bk×Nat)
def Fu (v:V) (l:List Int):Prop:=(v=.ag∧l=[])∨v=.an l.length (bl l)
def jC (h:I) (ow:eT) (b:Nat) (t:Int) (j:iu):Prop:=∃ j6 fr pv,h.get b=.cells [.int .i64 t,.int .i64 j.ep,.int .i64 j.tx,j6,fr,.int .i64 0,pv] 198 none∧Fu j6 j.bA ∧
 Own h 3 1 fr (bl j.ord)∧Own h 258 12 pv (j.opn.flatMap e6)∧ow b=some (1,t,0)∧(∀ q,aA fr=some q→ow q=some (1,t,1))∧(∀ q,aA pv=some q→ow q=some (1,t,2))
theorem lg.on {h U:I} {ow ow':eT} {b:Nat} {k:Int} {rs:List dn} (a:lg h ow b k rs) {own:Nat→Prop} (eu:aa h U own) (aJ:∀ q,own q→∀ i,ow q≠some (0,k,i)) (av:∀ q a8,ow q=some a8→ow' q=some a8) (ar:∀ q a8,ow q=some a8→q<h.n):lg U ow' b k rs:=by
 obtain ⟨rv,dv,h1,ab,aI,h4,h5,dT⟩:=a
 exact ⟨rv,dv,(eu.get b (ar _ _ h4) (fun ad=>aJ _ ad _ h4)).trans h1,ab.au eu (fun j aC ad=>aJ _ ad _ (h5 j aC)),aI.au eu (fun j aC ad=>aJ _ ad _ (dT j aC)),av _ _ h4,fun j aC=>av _ _ (h5 j aC),fun j aC=>av _ _ (dT j aC)⟩
theorem jC.on {h U:I} {ow ow':eT} {b:Nat} {t:Int} {j:iu} (a:jC h ow b t j) {own:Nat→Prop} (eu:aa h U own) (aJ:∀ q,own q→∀ i,ow q≠some (1,t,i)) (av:∀ q a8,ow q=some a8→ow' q=some a8) (ar:∀ q a8,ow q=some a8→q<h.n):jC U ow' b t j:=by
 obtain ⟨j6,fr,pv,h1,ay,ab,aI,h4,h5,dT⟩:=a
 exact ⟨j6,fr,pv,(eu.get b (ar _ _ h4) (fun ad=>aJ _ ad _ h4)).trans h1,ay,ab.au eu (fun j aC ad=>aJ _ ad _ (h5 j aC)),aI.au eu (fun j aC ad=>aJ _ ad _ (dT j aC)),av _ _ h4,fun j aC=>av _ _ (h5 j aC),fun j aC=>av _ _ (dT j aC)⟩
structure hp (ay h:I) (lm bY:Nat) (logs:Int→List dn) (tasks:Int→Option iu) (L:hK) (lc:Nat) (T:hK) (c8:Nat) (ow:eT):Prop where
 au:aa ay h none_
 bt:∀ q a8,ow q=some a8→ay.n≤q∧q<h.n
 fG:ow lm=some (2,0,0)
 gk:ow bY=some (2,0,1)
 cJ:h.get lm=.map (fW L) lc
 gt:h.get bY=.map (fW T) c8
 j0:dw (fW L) lc
 j1:dw (fW T) c8
 ib:dJ L
 ic:dJ T
 has:∀ k b,bq L k=some b→lg h ow b k (logs k)∧logs k≠[]
 hL:∀ k,bq L k=none→logs k=[]
 hM:∀ t b,bq T t=some b→∃ j,tasks t=some j∧jC h ow b t j
 hN:∀ t,bq T t=none→tasks t=none
theorem aip (h:I) (ow:eT) (b:Nat) (t e:Int) (j:iu) (a:jC h ow b t j) (ar:∀ q a8,ow q=some a8→q<h.n) :
  ah Tryz.prog 102 [.ptr b 0,.int .i64 e] h (fun r U=>r=.tuple []∧aa h U (·=b)∧jC U ow b t (if j.ep<e then { j with ep:=e,opn:=[] } else j)):=by
 obtain ⟨j6,fr,pv,g,ay,ab,aI,h4,h5,dT⟩:=a
 refine ah.aH (c:=_) Tryz.func102 rfl (by kernel_rfl) (by simp) ?_
 by_cases aT:j.ep<e
 ·have bf:decide (j.ep<e)=true:=decide_eq_true aT
  rw [if_pos aT]
  simp only [ao,Nat.reduceEqDiff,Nat.reduceAdd,Nat.reduceLeDiff,reduceCtorEq,uv,Cr,zG,bz,I1,kH,g,bf,o0,Tryz.results102,lv]
  have hC:∀ o,aa h (h.set b o) (·=b):=fun o=>aa.set _ _ _
  refine aR ⟨rfl,hC _,j6,fr,.ag,e4,ay,ab.au (hC _) (fun q ae ad=>?_),Own.ag _ _ _,h4,h5,fun q ae=>by simp [aA] at ae⟩
  have:=h5 q ae
  rw [ad,h4] at this
  simp at this
 ·have bf:decide (j.ep<e)=false:=decide_eq_false aT
  rw [if_neg aT]
  simp only [ao,Nat.reduceEqDiff,Nat.reduceAdd,Nat.reduceLeDiff,reduceCtorEq,uv,zG,bz,g,bf,o0,Tryz.results102,lv]
  exact aR ⟨rfl,aa.refl _ _,j6,fr,pv,g,ay,ab,aI,h4,h5,dT⟩
theorem NS:∃ fZ,eo Tryz.prog 132=some (3,fZ,.int .i64)∧jg Tryz.prog fZ=some (.pointer none):=by
 have h:(eo Tryz.prog 132).map (fun q=>(q.1,q.2.1))=some (3,188):=by kernel_rfl
 have hu:Tryz.prog.underlying 3=some (.int .i64):=Tryz.underlying3
 cases hm:eo Tryz.prog 132 with
 | none=>rw [hm] at h;cases h
 | some q=>
  rw [hm] at h
  obtain ⟨a,b,d⟩:=q
  simp only [Option.map_some,Option.some.injEq,Prod.mk.injEq] at h
  obtain ⟨rfl,rfl⟩:=h
  have:=(uc hm).2
  rw [hu] at this
  cases this
  exact ⟨_,rfl,by kernel_rfl⟩
theorem NT:∃ fZ,eo Tryz.prog 131=some (3,fZ,.int .i64)∧jg Tryz.prog fZ=some (.pointer none):=by
 have h:(eo Tryz.prog 131).map (fun q=>(q.1,q.2.1))=some (3,192):=by kernel_rfl
 have hu:Tryz.prog.underlying 3=some (.int .i64):=Tryz.underlying3
 cases hm:eo Tryz.prog 131 with
 | none=>rw [hm] at h;cases h
 | some q=>
  rw [hm] at h
  obtain ⟨a,b,d⟩:=q
  simp only [Option.map_some,Option.some.injEq,Prod.mk.injEq] at h
  obtain ⟨rfl,rfl⟩:=h
  have:=(uc hm).2
  rw [hu] at this
  cases this
  exact ⟨_,rfl,by kernel_rfl⟩
theorem aiq {h:I} {i a1:Nat} (m:hK) (k:Int) (aE:h.get i=.map (fW m) a1):nM Tryz.prog 132 (.map i) (.int .i64 k) true h=some (match bq m k with | some b=>.tuple [.ptr b 0,.bool true] | none=>.tuple [.en,.bool false]):=by
 obtain ⟨fZ,hm,bB⟩:=NS
 have:=D4 (enc:=fun b:Nat=>V.ptr b 0) (ok:=true) (fT.ofInt hm) (k:=k) hm bB aE
 rw [this]
 cases bq m k<;>simp [eZ,eD]
theorem NU {h:I} {i a1:Nat} (m:hK) (k:Int) (b:Nat) (aE:h.get i=.map (fW m) a1):qS Tryz.prog 132 (.map i) (.int .i64 k) (.ptr b 0) h=some (h.set i (.map (fW (cm a1 m k b)) (e5 a1 m k))):=by
 obtain ⟨fZ,hm,_⟩:=NS
 exact HX (enc:=fun b:Nat=>V.ptr b 0) (fT.ofInt hm) (k:=k) hm aE rfl
theorem air {h:I} {i a1:Nat} (m:hK) (k:Int) (aE:h.get i=.map (fW m) a1):nM Tryz.prog 131 (.map i) (.int .i64 k) true h=some (match bq m k with | some b=>.tuple [.ptr b 0,.bool true] | none=>.tuple [.en,.bool false]):=by
 obtain ⟨fZ,hm,bB⟩:=NT
 have:=D4 (enc:=fun b:Nat=>V.ptr b 0) (ok:=true) (fT.ofInt hm) (k:=k) hm bB aE
 rw [this]
 cases bq m k<;>simp [eZ,eD]
theorem NV {h:I} {i a1:Nat} (m:hK) (k:Int) (b:Nat) (aE:h.get i=.map (fW m) a1):qS Tryz.prog 131 (.map i) (.int .i64 k) (.ptr b 0) h=some (h.set i (.map (fW (cm a1 m k b)) (e5 a1 m k))):=by
 obtain ⟨fZ,hm,_⟩:=NT
 exact HX (enc:=fun b:Nat=>V.ptr b 0) (fT.ofInt hm) (k:=k) hm aE rfl
theorem hp.on {ay h U:I} {lm bY lc c8:Nat} {logs:Int→List dn} {tasks:Int→Option iu} {L T:hK} {ow:eT} (w:hp ay h lm bY logs tasks L lc T c8 ow) (k:aa h U none_):hp ay U lm bY logs tasks L lc T c8 ow where
 au:=w.au.trans' k
 bt q a8 ae:=⟨(w.bt q a8 ae).1,Nat.lt_of_lt_of_le (w.bt q a8 ae).2 k.n⟩
 fG:=w.fG
 gk:=w.gk
 cJ:=(k.get lm (w.bt _ _ w.fG).2 (by simp [none_])).trans w.cJ
 gt:=(k.get bY (w.bt _ _ w.gk).2 (by simp [none_])).trans w.gt
 j0:=w.j0
 j1:=w.j1
 ib:=w.ib
 ic:=w.ic
 has q b ae:=⟨(w.has q b ae).1.on k (fun _ ad=>ad.elim) (fun _ _ ad=>ad) fun q a8 ad=>(w.bt q a8 ad).2,(w.has q b ae).2⟩
 hL:=w.hL
 hM t b ae:=by
  obtain ⟨j,h1,ab⟩:=w.hM t b ae
  exact ⟨j,h1,ab.on k (fun _ ad=>ad.elim) (fun _ _ ad=>ad) fun q a8 ad=>(w.bt q a8 ad).2⟩
 hN:=w.hN
def rT:iu:=⟨0,0,[],[],[]⟩
def named (tasks:Int→Option iu) (t:Int):Int→Option iu:=fun n=>if n=t then some ((tasks t).getD rT) else tasks n
theorem TM {ay h:I} {lm bY lc c8:Nat} {logs:Int→List dn} {tasks:Int→Option iu} {L T:hK} {ow:eT} (t:Int) (w:hp ay h lm bY logs tasks L lc T c8 ow) :
  ah Tryz.prog 101 [.agg [.map lm,.map bY],.int .i64 t] h (fun r U=>∃ b TN TO ow',r=.ptr b 0∧bq TN t=some b∧hp ay U lm bY logs (named tasks t) L lc TN TO ow'∧aa h U (fun q=>q=bY)∧(∀ q a8,ow' q=some a8→ow q=some a8∨h.n≤q)):=by
 refine ah.aH (c:=_) Tryz.func101 rfl (by kernel_rfl) (by simp) ?_
 obtain ⟨H,hH⟩:∃ y,y=h.push (.cells [.map lm,.map bY] 134 none):=⟨_,rfl⟩
 have c6:aa h H none_:=by rw [hH];exact aa.push _ _ _
 have pH:H.get h.n=.cells [.map lm,.map bY] 134 none:=by rw [hH];exact c4
 have o8:H.n=h.n+1:=by rw [hH];rfl
 have fA:=w.on c6
 have al:(V.agg [.map lm,.map bY]).cells=some [.map lm,.map bY]:=rfl
 have nI:=aiq T t fA.gt
 simp only [ao,Nat.reduceEqDiff,Nat.reduceAdd,Nat.reduceLeDiff,Nb,Nl,al]
 rw [←hH]
 clear hH
 cases hk:bq T t with
 | some b=>
  rw [hk] at nI
  obtain ⟨j,aC,_⟩:=w.hM t b hk
  have A7:named tasks t=tasks:=by
   funext n
   unfold named
   split
   ·rename_i ad;rw [ad,aC];rfl
   ·rfl
  simp only [ao,Nat.reduceEqDiff,nI,bd,Tryz.results101,bT]
  exact aR ⟨b,T,c8,ow,rfl,hk,by rw [A7];exact fA,c6.up,fun _ _ ad=>.inl ad⟩
 | none=>
  rw [hk] at nI
  have bM:=w.hN t hk
  obtain ⟨cA,eU⟩:∃ y,y=H.push (.cells [.int .i64 t,.int .i64 0,.int .i64 0,.ag,.ag,.int .i64 0,.ag] 198 none):=⟨_,rfl⟩
  have k2:aa H cA none_:=by rw [eU];exact aa.push _ _ _
  have yP:cA.get H.n=.cells [.int .i64 t,.int .i64 0,.int .i64 0,.ag,.ag,.int .i64 0,.ag] 198 none:=by rw [eU];exact c4
  have fw:cA.n=H.n+1:=by rw [eU];rfl
  have bV:=fA.on k2
  have xS:=(k2.get h.n (by omega) (by simp [none_])).trans pH
  have xT:=NU T t H.n bV.gt
  simp only [ao,Nat.reduceEqDiff,Nat.reduceAdd,Nat.reduceLeDiff,Nb,Nl,ahl,ahu,IR,Tm,nI]
  rw [←eU]
  clear eU
  simp only [ao,Nat.reduceEqDiff,Nat.reduceAdd,Nat.reduceLeDiff,xS,xT,bd,Tryz.results101,bT]
  have dY:aa cA (cA.set bY (.map (fW (cm c8 T t H.n)) (e5 c8 T t))) (·=bY):=aa.set _ _ _
  have JM:=w.bt _ _ w.gk
  have TP:=w.bt _ _ w.fG
  have iJ:ow H.n=none:=by
   cases ae:ow H.n with
   | none=>rfl
   | some a8=>have:=(w.bt _ _ ae).2;omega
  obtain ⟨ow',how⟩:∃ g:eT,g=fun q=>if q=H.n then some (1,t,0) else ow q:=⟨_,rfl⟩
  have cR:∀ q a8,ow q=some a8→ow' q=some a8:=fun q a8 ae=>by
   rw [how];simp only;rw [if_neg (fun ad=>by rw [ad,iJ] at ae;cases ae)];exact ae
  have iK:ow' H.n=some (1,t,0):=by rw [how];simp
  refine aR ⟨H.n,cm c8 T t H.n,e5 c8 T t,ow',rfl,by rw [tc,if_pos rfl],?_,((c6.trans' k2).up).trans dY fun q ae ad=>ad,fun q a8 ae=>by
   rw [how] at ae
   simp only at ae
   split at ae
   ·exact .inr (by omega)
   ·exact .inl ae⟩
  refine ⟨(w.au.trans' (c6.trans' k2)).trans dY fun q ae ad=>by omega,fun q a8 ae=>?_,cR _ _ w.fG,cR _ _ w.gk,?_,e4,w.j0,dw.cm w.j1 t H.n,w.ib,w.ic.set c8 t H.n,fun k b ae=>?_,w.hL,fun u b ae=>?_,fun u ae=>?_⟩
  ·rw [how] at ae
   simp only at ae
   split at ae
   ·have:=w.au.n;rw [kE];omega
   ·have:=w.bt q a8 ae;rw [kE];omega
  ·exact (dY.get lm (by omega) (fun ad=>by have h1:=w.fG;have ab:=w.gk;rw [ad,ab] at h1;simp at h1)).trans bV.cJ
  ·refine ⟨(bV.has k b ae).1.on dY (fun q ad i he=>?_) cR fun q a8 ad=>(bV.bt q a8 ad).2,(bV.has k b ae).2⟩
   rw [ad,w.gk] at he
   simp at he
  ·rw [tc] at ae
   by_cases hu:u=t
   ·rw [if_pos hu] at ae
    injection ae with ae
    subst ae
    subst hu
    refine ⟨rT,by unfold named;rw [if_pos rfl,bM];rfl,.ag,.ag,.ag,(dY.get H.n (by omega) (by omega)).trans yP,.inl ⟨rfl,rfl⟩,Own.ag _ _ _,Own.ag _ _ _,iK,fun q ad=>by simp [aA] at ad,fun q ad=>by simp [aA] at ad⟩
   ·rw [if_neg hu] at ae
    obtain ⟨j,h1,ab⟩:=bV.hM u b ae
    refine ⟨j,by unfold named;rw [if_neg hu];exact h1,ab.on dY (fun q ad i he=>?_) cR fun q a8 ad=>(bV.bt q a8 ad).2⟩
    rw [ad,w.gk] at he
    simp at he
  ·rw [tc] at ae
   by_cases hu:u=t
   ·rw [if_pos hu] at ae;cases ae
   ·rw [if_neg hu] at ae
    unfold named
    rw [if_neg hu]
    exact w.hN u ae
theorem hp.qz {ay h U:I} {lm bY lc c8:Nat} {logs:Int→List dn} {tasks:Int→Option iu} {L T:hK} {ow ow':eT} (w:hp ay h lm bY logs tasks L lc T c8 ow) {t:Int} {b:Nat} {j:iu} {own:Nat→Prop}
  (ar:bq T t=some b) (k:aa h U own) (gW:∀ q,own q→∃ i,ow q=some (1,t,i)) (cR:∀ q a8,ow q=some a8→ow' q=some a8) (hold:∀ q a8,ow' q=some a8→ow q=some a8∨(h.n≤q∧q<U.n)) (a:jC U ow' b t j) :
  hp ay U lm bY logs (fun n=>if n=t then some j else tasks n) L lc T c8 ow' where
 au:=w.au.trans k fun q ae ad=>by
  obtain ⟨i,hi⟩:=gW q ad
  have:=(w.bt _ _ hi).1
  omega
 bt q a8 ae:=by
  rcases hold q a8 ae with ad | ad
  ·have:=w.bt q a8 ad;have:=k.n;omega
  ·have:=w.au.n;omega
 fG:=cR _ _ w.fG
 gk:=cR _ _ w.gk
 cJ:=(k.get lm (w.bt _ _ w.fG).2 (fun ad=>by obtain ⟨i,hi⟩:=gW _ ad;rw [w.fG] at hi;simp at hi)).trans w.cJ
 gt:=(k.get bY (w.bt _ _ w.gk).2 (fun ad=>by obtain ⟨i,hi⟩:=gW _ ad;rw [w.gk] at hi;simp at hi)).trans w.gt
 j0:=w.j0
 j1:=w.j1
 ib:=w.ib
 ic:=w.ic
 has q c ae:=⟨(w.has q c ae).1.on k (fun p ad i he=>by obtain ⟨i2,hi⟩:=gW _ ad;rw [hi] at he;simp at he) cR fun q a8 ad=>(w.bt q a8 ad).2,(w.has q c ae).2⟩
 hL:=w.hL
 hM u c ae:=by
  by_cases hu:u=t
  ·subst hu
   rw [ar] at ae
   injection ae with ae
   subst ae
   exact ⟨j,by simp,a⟩
  ·obtain ⟨wa,h1,ab⟩:=w.hM u c ae
   exact ⟨wa,by simp [hu,h1],ab.on k (fun p ad i he=>by obtain ⟨i2,hi⟩:=gW _ ad;rw [hi] at he;simp at he;exact hu he.1.symm) cR fun q a8 ad=>(w.bt q a8 ad).2⟩
 hN u ae:=by
  by_cases hu:u=t
  ·subst hu;rw [ar] at ae;cases ae
  ·simp [hu,w.hN u ae]
def jD (j:iu) (e:Int):iu:=if j.ep<e then { j with ep:=e,opn:=[] } else j
theorem ais {ay h:I} {lm bY lc c8:Nat} {logs:Int→List dn} {tasks:Int→Option iu} {L T:hK} {ow:eT} (w:hp ay h lm bY logs tasks L lc T c8 ow) {t e:Int} {b:Nat} {j:iu} (ar:bq T t=some b) (aC:tasks t=some j) :
  ah Tryz.prog 102 [.ptr b 0,.int .i64 e] h (fun r U=>r=.tuple []∧hp ay U lm bY logs (fun n=>if n=t then some (jD j e) else tasks n) L lc T c8 ow∧aa h U (fun q=>∃ a8,ow q=some a8)):=by
 obtain ⟨wa,h1,a⟩:=w.hM t b ar
 rw [aC] at h1
 injection h1 with h1
 subst h1
 refine (aip h ow b t e j a fun q a8 ae=>(w.bt q a8 ae).2).mono fun r U ⟨aK,k,a2⟩=>?_
 obtain ⟨_,_,_,_,_,_,_,hw,_⟩:=a
 refine ⟨aK,?_,k.mono fun q ae=>⟨(1,t,0),ae ▸ hw⟩⟩
 exact w.qz ar k (fun q ae=>⟨0,by rw [ae];exact hw⟩) (fun _ _ ad=>ad) (fun _ _ ad=>.inl ad) a2
theorem ait (r:eP):(dh r).all (·.one)=true:=rfl
def dW (rs:List dn):List V:=rs.flatMap fun p=>dh p.1
theorem zQ (rs:List dn):(dW rs).length=rs.length * 3:=kF (enc:=fun p:dn=>dh p.1) (sz:=3) (fun _=>rfl) rs
theorem NW {h:I} {s:V} {rs:List dn} (o:Own h 37 3 s (dW rs)) (aw:rs.length≤2 ^ 40) (p:dn) :
  ∃ bF U,k6 Tryz.prog 22 22 s (.aj h.n 0 1 1) (h.push (.cells (dh p.1) 37 none))=some (bF,U)∧Own U 37 3 bF (dW (rs++[p]))∧aa h U (aW s)∧nP h s bF:=by
 have eu:aa h (h.push (.cells (dh p.1) 37 none)) none_:=aa.push _ _ _
 have fS:Own (h.push (.cells (dh p.1) 37 none)) 37 3 (.aj h.n 0 1 1) (dh p.1):=Own.qj (dh p.1) 1 rfl (by decide)
 have gS:=Ms (P:=Tryz.prog) (t:=22) uw fS (n:=1) rfl (by decide) (ait p.1)
 obtain ⟨bF,U,hF,ud,zR,lh⟩:=B9 (P:=Tryz.prog) (t:=22) (tx:=22) Fh (by decide) (o.cP eu) gS rfl (fun m hm=>by
  change m * 3=_ at hm
  rw [zQ] at hm
  change m * 3=_+3 at hm
  exact ⟨by simp only [lim];omega,by simp only [lim];omega⟩)
 refine ⟨bF,U,hF,?_,(eu.up).trans' zR,?_⟩
 ·unfold dW
  rw [List.flatMap_append]
  simpa [dW] using ud
 ·rcases lh with lh | lh
  ·exact .inl lh
  ·exact .inr fun q ae=>Nat.le_trans eu.n (lh q ae)
def eF (rs:List dn):List V:=rs.map fun p=>V.bool p.2
theorem NX {h:I} {s:V} {rs:List dn} (o:Own h 4 1 s (eF rs)) (aw:rs.length≤2 ^ 40) (p:dn) :
  ∃ bF U,k6 Tryz.prog 34 34 s (.aj h.n 0 1 1) (h.push (.cells [.bool p.2] 4 none))=some (bF,U)∧Own U 4 1 bF (eF (rs++[p]))∧aa h U (aW s)∧nP h s bF:=by
 have eu:aa h (h.push (.cells [V.bool p.2] 4 none)) none_:=aa.push _ _ _
 have fS:Own (h.push (.cells [V.bool p.2] 4 none)) 4 1 (.aj h.n 0 1 1) [V.bool p.2]:=Own.qj [V.bool p.2] 1 rfl (by decide)
 have gS:=Ms (P:=Tryz.prog) (t:=34) xN fS (n:=1) rfl (by decide) rfl
 obtain ⟨bF,U,hF,ud,zR,lh⟩:=B9 (P:=Tryz.prog) (t:=34) (tx:=34) Cv (by decide) (o.cP eu) gS rfl (fun m hm=>by
  change m * 1=_ at hm
  simp only [eF,List.length_map,List.length_cons,List.length_nil] at hm
  exact ⟨by simp only [lim];omega,by simp only [lim];omega⟩)
 refine ⟨bF,U,hF,?_,(eu.up).trans' zR,?_⟩
 ·simpa [eF] using ud
 ·rcases lh with lh | lh
  ·exact .inl lh
  ·exact .inr fun q ae=>Nat.le_trans eu.n (lh q ae)
theorem TQ (h:I) (r:eP):iA Tryz.prog 22 1 [(0,.agg [.int .i64 r.k,.int .i64 r.v,.int .i64 r.t])] h=some (.aj h.n 0 1 1,h.push (.cells (dh r) 37 none)):=by rw [lN Fh];rfl
theorem TR (h:I) (b:Bool):iA Tryz.prog 34 1 [(0,.bool b)] h=some (.aj h.n 0 1 1,h.push (.cells [.bool b] 4 none)):=by rw [lN Cv];rfl
theorem TS {h:I} {ow:eT} {b:Nat} {k:Int} {rs:List dn} {rv dv:V} (p:dn) (aw:rs.length≤2 ^ 40) (g:h.get b=.cells [.int .i64 k,rv,dv] 46 none) (c0:Own h 37 3 rv (dW rs)) (cw:Own h 4 1 dv (eF rs))
  (t0:ow b=some (0,k,0)) (t1:∀ j,aA rv=some j→ow j=some (0,k,1)) (t2:∀ j,aA dv=some j→ow j=some (0,k,2)) (hold:∀ q a8,ow q=some a8→q<h.n) :
  ∃ dz ab cX h4 ow',k6 Tryz.prog 22 22 rv (.aj h.n 0 1 1) (h.push (.cells (dh p.1) 37 none))=some (dz,ab)∧ab.get b=.cells [.int .i64 k,rv,dv] 46 none∧dz.one=true∧dz.cells=some [dz] ∧
   k6 Tryz.prog 34 34 dv (.aj ab.n 0 1 1) ((ab.set b (.cells [.int .i64 k,dz,dv] 46 none)).push (.cells [.bool p.2] 4 none))=some (cX,h4)∧h4.get b=.cells [.int .i64 k,dz,dv] 46 none∧cX.one=true∧cX.cells=some [cX] ∧
   aa h ab (fun q=>aW rv q)∧aa (ab.set b (.cells [.int .i64 k,dz,dv] 46 none)) h4 (fun q=>aW dv q)∧aa h ab (fun q=>∃ i,ow q=some (0,k,i))∧aa h h4 (fun q=>∃ i,ow q=some (0,k,i))∧aa h (h4.set b (.cells [.int .i64 k,dz,cX] 46 none)) (fun q=>∃ i,ow q=some (0,k,i)) ∧
   (∀ q a8,ow q=some a8→ow' q=some a8)∧(∀ q a8,ow' q=some a8→ow q=some a8∨(h.n≤q∧q<h4.n))∧lg (h4.set b (.cells [.int .i64 k,dz,cX] 46 none)) ow' b k (rs++[p]):=by
 obtain ⟨dz,ab,aK,Fv,k2,oB⟩:=NW c0 aw p
 have p2:=hold _ _ t0
 have nF:¬aW rv b:=fun ad=>by have:=t1 b ad;rw [t0] at this;simp at this
 have oC:¬aW dv b:=fun ad=>by have:=t2 b ad;rw [t0] at this;simp at this
 have g2:=(k2.get b p2 nF).trans g
 have fw:=k2.n
 have TT:Own ab 4 1 dv (eF rs):=cw.au k2 fun j aC ad=>by have h1:=t1 j ad;have ab:=t2 j aC;rw [h1] at ab;simp at ab
 obtain ⟨aI,uU⟩:∃ y,y=ab.set b (.cells [.int .i64 k,dz,dv] 46 none):=⟨_,rfl⟩
 have b2:aa ab aI (·=b):=by rw [uU];exact aa.set _ _ _
 have n3:aI.n=ab.n:=by rw [uU];rfl
 have g3:aI.get b=.cells [.int .i64 k,dz,dv] 46 none:=by rw [uU];exact e4
 have TU:=TT.au b2 fun j aC ad=>oC (by rw [←ad];exact aC)
 have xU:∀ j,aA dz=some j→j≠b∧(aA rv=some j∨h.n≤j):=fun j aC=>by
  rcases oB with e | e
  ·exact ⟨fun ad=>nF (by rw [←ad,aW,←e];exact aC),.inl (by rw [←e];exact aC)⟩
  ·have:=e j aC;exact ⟨by omega,.inr this⟩
 have Kd:=Fv.au b2 fun j aC ad=>(xU j aC).1 ad
 obtain ⟨cX,h4,hj,Bf,gM,TV⟩:=NX TU aw p
 have n4:=gM.n
 have g4:=(gM.get b (by omega) oC).trans g3
 have Ke:=Kd.au gM fun j aC ad=>by
  rcases (xU j aC).2 with h1 | h1
  ·have h1:=t1 j h1;have ab:=t2 j ad;rw [h1] at ab;simp at ab
  ·have:=hold _ _ (t2 j ad);omega
 have Fw:∀ j,aA cX=some j→j≠b∧(aA dv=some j∨aI.n≤j):=fun j aC=>by
  rcases TV with e | e
  ·exact ⟨fun ad=>oC (by rw [←ad,aW,←e];exact aC),.inl (by rw [←e];exact aC)⟩
  ·have:=e j aC;exact ⟨by omega,.inr this⟩
 have dY:aa h4 (h4.set b (.cells [.int .i64 k,dz,cX] 46 none)) (·=b):=aa.set _ _ _
 have mK:aa h ab (fun q=>∃ i,ow q=some (0,k,i)):=k2.mono fun q ae=>⟨1,t1 q ae⟩
 have qA:aa h aI (fun q=>∃ i,ow q=some (0,k,i)):=mK.trans b2 fun q ae ad=>⟨0,by rw [ad];exact t0⟩
 have tB:aa h h4 (fun q=>∃ i,ow q=some (0,k,i)):=qA.trans gM fun q ae ad=>⟨2,t2 q ad⟩
 have rU:=tB.trans dY fun q ae ad=>⟨0,by rw [ad];exact t0⟩
 have apart:∀ j,aA dz=some j→aA cX=some j→False:=fun j h1 ab=>by
  rcases (Fw j ab).2 with aI | aI
  ·rcases (xU j h1).2 with h4 | h4
   ·have a:=t1 j h4;have b:=t2 j aI;rw [a] at b;simp at b
   ·have:=hold _ _ (t2 j aI);omega
  ·have:=Kd.lt j h1;omega
 obtain ⟨ow',how⟩:∃ f:eT,f=fun q=>if q<h.n then ow q else if aA dz=some q then some (0,k,1) else if aA cX=some q then some (0,k,2) else ow q:=⟨_,rfl⟩
 have cR:∀ q a8,ow q=some a8→ow' q=some a8:=fun q a8 ae=>by rw [how];simp only;rw [if_pos (hold _ _ ae)];exact ae
 have TW:∀ j,aA dz=some j→j<h4.n:=fun j aC=>Ke.lt j aC
 have TX:∀ j,aA cX=some j→j<h4.n:=fun j aC=>Bf.lt j aC
 refine ⟨dz,ab,cX,h4,ow',aK,g2,?_,?_,by rw [←uU,←n3];exact hj,g4,?_,?_,k2,by rw [←uU];exact gM,mK,tB,rU,cR,fun q a8 ae=>?_,dz,cX,e4,Ke.au dY (fun j aC ad=>(xU j aC).1 ad),Bf.au dY (fun j aC ad=>(Fw j aC).1 ad),cR _ _ t0,fun j aC=>?_,fun j aC=>?_⟩
 ·rcases Fv with ⟨rfl | rfl,_⟩ | ⟨_,_,_,_,_,rfl,_⟩<;>rfl
 ·rcases Fv with ⟨rfl | rfl,_⟩ | ⟨_,_,_,_,_,rfl,_⟩<;>rfl
 ·rcases Bf with ⟨rfl | rfl,_⟩ | ⟨_,_,_,_,_,rfl,_⟩<;>rfl
 ·rcases Bf with ⟨rfl | rfl,_⟩ | ⟨_,_,_,_,_,rfl,_⟩<;>rfl
 ·rw [how] at ae
  simp only at ae
  split at ae
  ·exact .inl ae
  ·rename_i h1
   split at ae
   ·rename_i ab;exact .inr ⟨by omega,TW _ ab⟩
   ·split at ae
    ·rename_i aI;exact .inr ⟨by omega,TX _ aI⟩
    ·exact .inl ae
 ·rcases (xU j aC).2 with h1 | h1
  ·exact cR _ _ (t1 j h1)
  ·rw [how];simp only;rw [if_neg (by omega),if_pos aC]
 ·rcases (Fw j aC).2 with h1 | h1
  ·exact cR _ _ (t2 j h1)
  ·rw [how];simp only;rw [if_neg (by omega),if_neg (fun ad=>apart j ad aC),if_pos aC]
theorem hp.Fx {ay h U:I} {lm bY lc c8:Nat} {logs:Int→List dn} {tasks:Int→Option iu} {L T:hK} {ow ow':eT} (w:hp ay h lm bY logs tasks L lc T c8 ow) {k:Int} {b:Nat} {rs:List dn} {own:Nat→Prop}
  (ar:bq L k=some b) (eu:aa h U own) (gW:∀ q,own q→∃ i,ow q=some (0,k,i)) (cR:∀ q a8,ow q=some a8→ow' q=some a8) (hold:∀ q a8,ow' q=some a8→ow q=some a8∨(h.n≤q∧q<U.n)) (a:lg U ow' b k rs) (bc:rs≠[]) :
  hp ay U lm bY (fun n=>if n=k then rs else logs n) tasks L lc T c8 ow' where
 au:=w.au.trans eu fun q ae ad=>by
  obtain ⟨i,hi⟩:=gW q ad
  have:=(w.bt _ _ hi).1
  omega
 bt q a8 ae:=by
  rcases hold q a8 ae with ad | ad
  ·have:=w.bt q a8 ad;have:=eu.n;omega
  ·have:=w.au.n;omega
 fG:=cR _ _ w.fG
 gk:=cR _ _ w.gk
 cJ:=(eu.get lm (w.bt _ _ w.fG).2 (fun ad=>by obtain ⟨i,hi⟩:=gW _ ad;rw [w.fG] at hi;simp at hi)).trans w.cJ
 gt:=(eu.get bY (w.bt _ _ w.gk).2 (fun ad=>by obtain ⟨i,hi⟩:=gW _ ad;rw [w.gk] at hi;simp at hi)).trans w.gt
 j0:=w.j0
 j1:=w.j1
 ib:=w.ib
 ic:=w.ic
 has u c ae:=by
  by_cases hu:u=k
  ·subst hu
   rw [ar] at ae
   injection ae with ae
   subst ae
   simp only [if_true]
   exact ⟨a,bc⟩
  ·simp only [hu,if_false]
   exact ⟨(w.has u c ae).1.on eu (fun p ad i he=>by obtain ⟨i2,hi⟩:=gW _ ad;rw [hi] at he;simp at he;exact hu he.1.symm) cR fun q a8 ad=>(w.bt q a8 ad).2,(w.has u c ae).2⟩
 hL u ae:=by
  by_cases hu:u=k
  ·subst hu;rw [ar] at ae;cases ae
  ·simp only [hu,if_false];exact w.hL u ae
 hM u c ae:=by
  obtain ⟨wa,h1,ab⟩:=w.hM u c ae
  exact ⟨wa,h1,ab.on eu (fun p ad i he=>by obtain ⟨i2,hi⟩:=gW _ ad;rw [hi] at he;simp at he) cR fun q a8 ad=>(w.bt q a8 ad).2⟩
 hN:=w.hN
theorem hp.Fy {ay h U:I} {lm bY lc c8:Nat} {logs:Int→List dn} {tasks:Int→Option iu} {L T:hK} {ow ow':eT} (w:hp ay h lm bY logs tasks L lc T c8 ow) {k:Int} {b:Nat} {rs:List dn} {own:Nat→Prop}
  (ar:bq L k=none) (eu:aa h U own) (gW:∀ q,own q→q=lm∨h.n≤q) (TY:U.get lm=.map (fW (cm lc L k b)) (e5 lc L k)) (cR:∀ q a8,ow q=some a8→ow' q=some a8) (hold:∀ q a8,ow' q=some a8→ow q=some a8∨(h.n≤q∧q<U.n)) (a:lg U ow' b k rs) (bc:rs≠[]) :
  hp ay U lm bY (fun n=>if n=k then rs else logs n) tasks (cm lc L k b) (e5 lc L k) T c8 ow' where
 au:=w.au.trans eu fun q ae ad=>by
  have:=(w.bt _ _ w.fG).1
  have:=w.au.n
  rcases gW q ad with h1 | h1<;>omega
 bt q a8 ae:=by
  rcases hold q a8 ae with ad | ad
  ·have:=w.bt q a8 ad;have:=eu.n;omega
  ·have:=w.au.n;omega
 fG:=cR _ _ w.fG
 gk:=cR _ _ w.gk
 cJ:=TY
 gt:=(eu.get bY (w.bt _ _ w.gk).2 (fun ad=>by
  rcases gW _ ad with h1 | h1
  ·have ab:=w.fG;rw [←h1,w.gk] at ab;simp at ab
  ·have:=(w.bt _ _ w.gk).2;omega)).trans w.gt
 j0:=dw.cm w.j0 k b
 j1:=w.j1
 ib:=w.ib.set lc k b
 ic:=w.ic
 has u c ae:=by
  rw [tc] at ae
  by_cases hu:u=k
  ·subst hu
   rw [if_pos rfl] at ae
   injection ae with ae
   subst ae
   simp only [if_true]
   exact ⟨a,bc⟩
  ·rw [if_neg hu] at ae
   simp only [hu,if_false]
   exact ⟨(w.has u c ae).1.on eu (fun p ad i he=>by
    rcases gW _ ad with h1 | h1
    ·rw [h1,w.fG] at he;simp at he
    ·have:=(w.bt _ _ he).2;omega) cR fun q a8 ad=>(w.bt q a8 ad).2,(w.has u c ae).2⟩
 hL u ae:=by
  rw [tc] at ae
  by_cases hu:u=k
  ·rw [if_pos hu] at ae;cases ae
  ·rw [if_neg hu] at ae;simp only [hu,if_false];exact w.hL u ae
 hM u c ae:=by
  obtain ⟨wa,h1,ab⟩:=w.hM u c ae
  exact ⟨wa,h1,ab.on eu (fun p ad i he=>by
   rcases gW _ ad with h1 | h1
   ·rw [h1,w.fG] at he;simp at he
   ·have:=(w.bt _ _ he).2;omega) cR fun q a8 ad=>(w.bt q a8 ad).2⟩
 hN:=w.hN
def hO (logs:Int→List dn) (x:bk):Int→List dn:=fun n=>if n=x.log then logs x.log++[(x.r,x.del)] else logs n
theorem Fz {ay h:I} {lm bY lc c8:Nat} {logs:Int→List dn} {tasks:Int→Option iu} {L T:hK} {ow:eT} (x:bk) (w:hp ay h lm bY logs tasks L lc T c8 ow) (hlen:(logs x.log).length≤2 ^ 40) :
  ah Tryz.prog 100 [.agg [.map lm,.map bY],.agg (aY x)] h (fun r U=>r=.tuple []∧∃ L' tC ow',hp ay U lm bY (hO logs x) tasks L' tC T c8 ow'∧(∀ q a8,ow q=some a8→ow' q=some a8)∧aa h U (fun q=>q=lm∨∃ k i,ow q=some (0,k,i))∧(∀ q a8,ow' q=some a8→ow q=some a8∨h.n≤q)):=by
 refine ah.aH (c:=_) Tryz.func100 rfl (by kernel_rfl) (by simp) ?_
 obtain ⟨er,ie⟩:∃ y,y=h.push (.cells [.map lm,.map bY] 134 none):=⟨_,rfl⟩
 have xV:aa h er none_:=by rw [ie];exact aa.push _ _ _
 have FA:er.get h.n=.cells [.map lm,.map bY] 134 none:=by rw [ie];exact c4
 have u2:er.n=h.n+1:=by rw [ie];rfl
 obtain ⟨H,hH⟩:∃ y,y=er.push (.cells (aY x) 140 none):=⟨_,rfl⟩
 have tD:aa er H none_:=by rw [hH];exact aa.push _ _ _
 have c6:=xV.trans' tD
 have bR:H.get er.n=.cells (aY x) 140 none:=by rw [hH];exact c4
 have pH:=(tD.get h.n (by omega) (by simp [none_])).trans FA
 have o8:H.n=h.n+2:=by rw [hH,fR];omega
 have fA:=w.on c6
 have al:(V.agg [.map lm,.map bY]).cells=some [.map lm,.map bY]:=rfl
 have lZ:(V.agg (aY x)).cells=some (aY x):=rfl
 have nI:=air L x.log fA.cJ
 have d4:cW (aD.cells (aY x) 140 none) 4=some ((aY x).drop 4):=rfl
 simp only [ao,Nat.reduceEqDiff,Nat.reduceAdd,Na,Cq,Nk,bz,al,lZ]
 rw [←ie,←hH]
 clear ie hH
 cases hk:bq L x.log with
 | some b=>
  rw [hk] at nI
  obtain ⟨⟨rv,dv,g,c0,cw,t0,t1,t2⟩,bc⟩:=fA.has x.log b hk
  obtain ⟨dz,ab,cX,h4,ow',xW,g2,qQ,qB,xX,g4,wb,qC,qD,tE,mK,tB,rU,cR,hold,tk⟩:=TS (x.r,x.del) hlen g c0 cw t0 t1 t2 (fun q a8 ae=>(fA.bt q a8 ae).2)
  have fo:∀ q,h.n≤q→∀ a8,ow q≠some a8:=fun q ae a8 he=>by have:=(w.bt _ _ he).2;omega
  have xY:=(mK.get er.n (by omega) (fun ⟨i,ad⟩=>fo _ (by omega) _ ad)).trans bR
  have NY:=TQ H x.r
  have st1:ca (some 1) (aD.cells [V.int .i64 x.log,rv,dv] 46 none) 1 [dz]=some (.cells [.int .i64 x.log,dz,dv] 46 none):=by rw [nO qQ];rfl
  have st2:ca (some 1) (aD.cells [V.int .i64 x.log,dz,dv] 46 none) 2 [cX]=some (.cells [.int .i64 x.log,dz,cX] 46 none):=by rw [nO wb];rfl
  simp only at xW xX
  rw [u2] at bR xY
  have xS:=(mK.get h.n (by omega) (fun ⟨i,ad⟩=>fo _ (by omega) _ ad)).trans pH
  have NZ:=TR (ab.set b (.cells [.int .i64 x.log,dz,dv] 46 none)) x.del
  have TZ:h.n+1≠b:=fun ad=>fo (h.n+1) (by omega) _ (by rw [ad];exact t0)
  have Bg:(ab.set b (.cells [.int .i64 x.log,dz,dv] 46 none)).get (h.n+1)=.cells (aY x) 140 none:=((aa.set ab b _).get (h.n+1) (by have:=mK.n;omega) TZ).trans xY
  simp only [ao,Nat.reduceEqDiff,Nat.reduceAdd,Nat.reduceLeDiff,aY,nI]
  have f1:aW rv b=False:=eq_false fun ad=>by have:=t1 b ad;rw [t0] at this;simp at this
  have f2:aW rv (h.n+1)=False:=eq_false fun ad=>fo (h.n+1) (by omega) _ (t1 _ ad)
  have f3:aW dv b=False:=eq_false fun ad=>by have:=t2 b ad;rw [t0] at this;simp at this
  have f4:aW dv (h.n+1)=False:=eq_false fun ad=>fo (h.n+1) (by omega) _ (t2 _ ad)
  have Kf:aa H (H.push (.cells (dh x.r) 37 none)) (fun q=>aW rv q):=aa.push _ _ _
  have u3:aa (ab.set b (.cells [.int .i64 x.log,dz,dv] 46 none)) ((ab.set b (.cells [.int .i64 x.log,dz,dv] 46 none)).push (.cells [.bool x.del] 4 none)) (fun q=>aW dv q):=aa.push _ _ _
  refine aZ.b4 (fun q=>aW rv q) [7,8,11] (.q 0 (.q 1 (.q 2 (.q 3 (.q 4 (.q 5 (.q 6 (.e 7 (.e 8 (.q 9 (.q 10 (.a 11 .done))) .stop) .stop)))))))) (by kernel_rfl) (by kernel_rfl) (by kernel_rfl) ?_
  simp only [ao,b6,gV,Nat.reduceEqDiff,Nat.reduceAdd,Nat.reduceLeDiff,EV,IM,Nq,ux,NA,g,bR,aY,NY,xW,g2,st1,qB,f1,f2,Kf,qD]
  refine aZ.b4 (fun q=>aW dv q) [7,8,11] (.q 0 (.q 1 (.q 2 (.q 3 (.q 4 (.q 5 (.q 6 (.e 7 (.e 8 (.q 9 (.q 10 (.a 11 .done))) .stop) .stop)))))))) (by kernel_rfl) (by kernel_rfl) (by kernel_rfl) ?_
  simp only [ao,b6,gV,Nat.reduceEqDiff,Nat.reduceAdd,Nat.reduceLeDiff,IJ,IP,Fc,iN,NB,Bg,aY,NZ,xX,g4,st2,qC,f3,f4,u3,tE,o0,Tryz.results100,lv]
  refine aR ⟨rfl,L,lc,ow',fA.Fx hk rU (fun q ad=>ad) cR hold tk (by simp),cR,(c6.up).trans rU fun q ae ⟨i,ad⟩=>.inr ⟨_,i,ad⟩,fun q a8 ae=>by
   rcases hold q a8 ae with ad | ad
   ·exact .inl ad
   ·exact .inr (by omega)⟩
 | none=>
  rw [hk] at nI
  have N0:=w.hL x.log hk
  have fo:∀ q,h.n≤q→∀ a8,ow q≠some a8:=fun q ae a8 he=>by have:=(w.bt _ _ he).2;omega
  obtain ⟨cA,eU⟩:∃ y,y=H.push (.cells [V.int .i64 x.log,.ag,.ag] 46 none):=⟨_,rfl⟩
  have k2:aa H cA none_:=by rw [eU];exact aa.push _ _ _
  have fw:cA.n=H.n+1:=by rw [eU];rfl
  have Bh:cA.get H.n=.cells [V.int .i64 x.log,.ag,.ag] 46 none:=by rw [eU];exact c4
  have xS:=(k2.get h.n (by omega) (by simp [none_])).trans pH
  rw [u2] at bR
  have xY:=(k2.get (h.n+1) (by omega) (by simp [none_])).trans bR
  have xT:=NV L x.log H.n (fA.on k2).cJ
  obtain ⟨je,hb⟩:∃ y,y=cA.set lm (.map (fW (cm lc L x.log H.n)) (e5 lc L x.log)):=⟨_,rfl⟩
  have TP:=w.bt _ _ w.fG
  have b2:aa cA je (·=lm):=by rw [hb];exact aa.set _ _ _
  have n3:je.n=cA.n:=by rw [hb];rfl
  have FB:je.get lm=.map (fW (cm lc L x.log H.n)) (e5 lc L x.log):=by rw [hb];exact e4
  have Bi:=(b2.get H.n (by omega) (by omega)).trans Bh
  have Bg:=(b2.get (h.n+1) (by omega) (by omega)).trans xY
  have u4:=(b2.get h.n (by omega) (by omega)).trans xS
  obtain ⟨ea,zS⟩:∃ f:eT,f=fun q=>if q=H.n then some (0,x.log,0) else ow q:=⟨_,rfl⟩
  have uY:∀ q a8,ow q=some a8→ea q=some a8:=fun q a8 ae=>by rw [zS];simp only;rw [if_neg (fun ad=>fo q (by omega) a8 ae)];exact ae
  have kV:∀ q a8,ea q=some a8→ow q=some a8∨q=H.n:=fun q a8 ae=>by
   rw [zS] at ae
   simp only at ae
   split at ae
   ·rename_i ad;exact .inr ad
   ·exact .inl ae
  obtain ⟨dz,ab,cX,h4,ow',xW,g2,qQ,qB,xX,g4,wb,qC,qD,tE,mK,tB,rU,cR,hold,tk⟩:=TS (h:=je) (ow:=ea) (b:=H.n) (k:=x.log) (rs:=[]) (rv:=.ag) (dv:=.ag) (x.r,x.del) (by simp) Bi (Own.ag _ _ _) (Own.ag _ _ _) (by rw [zS];simp) (fun j aC=>by simp [aA] at aC) (fun j aC=>by simp [aA] at aC) (fun q a8 ae=>by
   rcases kV q a8 ae with ad | ad
   ·have:=(w.bt _ _ ad).2;omega
   ·omega)
  simp only at xW xX
  have dY:aa ab (ab.set H.n (.cells [.int .i64 x.log,dz,.ag] 46 none)) (·=H.n):=aa.set _ _ _
  have T0:aa h4 (h4.set H.n (.cells [.int .i64 x.log,dz,cX] 46 none)) (·=H.n):=aa.set _ _ _
  have ns:∀ q,¬aW .ag q:=fun q ad=>by simp [aW,aA] at ad
  have anm:=qD.n
  have T1:=(dY.get (h.n+1) (by omega) (by omega)).trans ((qD.get (h.n+1) (by omega) (ns _)).trans Bg)
  have tF:aa H (h4.set H.n (.cells [.int .i64 x.log,dz,cX] 46 none)) (fun q=>q=lm∨H.n≤q) :=
   (((((k2.up).trans b2 fun q ae ad=>.inl ad).trans qD fun q ae ad=>(ns _ ad).elim).trans dY fun q ae ad=>.inr (by omega)).trans tE fun q ae ad=>(ns _ ad).elim).trans T0 fun q ae ad=>.inr (by omega)
  have T2:(h4.set H.n (.cells [.int .i64 x.log,dz,cX] 46 none)).get lm=.map (fW (cm lc L x.log H.n)) (e5 lc L x.log) :=
   (T0.get lm (by have:=tE.n;have:(ab.set H.n (.cells [.int .i64 x.log,dz,.ag] 46 none)).n=ab.n:=rfl;omega) (by omega)).trans ((tE.get lm (by have:(ab.set H.n (.cells [.int .i64 x.log,dz,.ag] 46 none)).n=ab.n:=rfl;omega) (ns _)).trans ((dY.get lm (by omega) (by omega)).trans ((qD.get lm (by omega) (ns _)).trans FB)))
  have NY:=TQ je x.r
  have NZ:=TR (ab.set H.n (.cells [.int .i64 x.log,dz,.ag] 46 none)) x.del
  have st1:ca (some 1) (aD.cells [V.int .i64 x.log,.ag,.ag] 46 none) 1 [dz]=some (.cells [.int .i64 x.log,dz,.ag] 46 none):=by rw [nO qQ];rfl
  have st2:ca (some 1) (aD.cells [V.int .i64 x.log,dz,.ag] 46 none) 2 [cX]=some (.cells [.int .i64 x.log,dz,cX] 46 none):=by rw [nO wb];rfl
  have f1:∀ q,aW .ag q=False:=fun q=>eq_false (ns q)
  have Kf:aa je (je.push (.cells (dh x.r) 37 none)) (fun q=>aW .ag q):=aa.push _ _ _
  have u3:aa (ab.set H.n (.cells [.int .i64 x.log,dz,.ag] 46 none)) ((ab.set H.n (.cells [.int .i64 x.log,dz,.ag] 46 none)).push (.cells [.bool x.del] 4 none)) (fun q=>aW .ag q):=aa.push _ _ _
  simp only [ao,Nat.reduceEqDiff,Nat.reduceAdd,Nat.reduceLeDiff,Na,Cq,Nk,bz,S2,Tl,bR,aY,nI]
  rw [←eU]
  clear eU
  simp only [ao,Nat.reduceEqDiff,Nat.reduceAdd,Nat.reduceLeDiff,Cq,bz,xS,xY,aY,xT]
  rw [←hb]
  clear hb
  have T3:aa je ab none_:=qD.mono fun q ad=>(ns _ ad).elim
  have T4:aa (ab.set H.n (.cells [.int .i64 x.log,dz,.ag] 46 none)) h4 none_:=tE.mono fun q ad=>(ns _ ad).elim
  refine aZ.b4 none_ [7,8,11] (.q 0 (.q 1 (.q 2 (.q 3 (.q 4 (.q 5 (.q 6 (.e 7 (.e 8 (.q 9 (.q 10 (.a 11 .done))) .stop) .stop)))))))) (by kernel_rfl) (by kernel_rfl) (by kernel_rfl) ?_
  simp only [ao,b6,Nat.reduceEqDiff,Nat.reduceAdd,Nat.reduceLeDiff,EV,IM,Nq,ux,NA,Bi,Bg,aY,NY,xW,g2,st1,qB]
  refine ⟨T3,?_⟩
  refine aZ.b4 none_ [7,8,11] (.q 0 (.q 1 (.q 2 (.q 3 (.q 4 (.q 5 (.q 6 (.e 7 (.e 8 (.q 9 (.q 10 (.a 11 .done))) .stop) .stop)))))))) (by kernel_rfl) (by kernel_rfl) (by kernel_rfl) ?_
  simp only [ao,b6,Nat.reduceEqDiff,Nat.reduceAdd,Nat.reduceLeDiff,IJ,IP,Fc,iN,NB,T1,aY,NZ,xX,g4,st2,qC,o0,Tryz.results100,lv]
  refine ⟨T4,?_⟩
  have aiu:=fA.Fy (rs:=logs x.log++[(x.r,x.del)]) hk tF (fun q ad=>ad) T2 (fun q a8 ae=>cR _ _ (uY _ _ ae)) (fun q a8 ae=>by
   rcases hold q a8 ae with ad | ad
   ·rcases kV q a8 ad with h1 | h1
    ·exact .inl h1
    ·have:=tF.n;have:=tE.n;have:(h4.set H.n (.cells [.int .i64 x.log,dz,cX] 46 none)).n=h4.n:=rfl;have:(ab.set H.n (.cells [.int .i64 x.log,dz,.ag] 46 none)).n=ab.n:=rfl;exact .inr ⟨by omega,by omega⟩
   ·have:(h4.set H.n (.cells [.int .i64 x.log,dz,cX] 46 none)).n=h4.n:=rfl
    exact .inr ⟨by omega,by omega⟩) (by rw [N0];exact tk) (by simp)
  exact aR ⟨rfl,_,_,ow',aiu,fun q a8 ae=>cR _ _ (uY _ _ ae),(c6.up).trans tF fun q ae ad=>by
   rcases ad with ad | ad
   ·exact .inl ad
   ·omega,fun q a8 ae=>by
   rcases hold q a8 ae with ad | ad
   ·rcases kV q a8 ad with h1 | h1
    ·exact .inl h1
    ·exact .inr (by omega)
   ·exact .inr (by omega)⟩
def mh (l:List (bk×Nat)):List V:=l.flatMap e6
theorem N1 {h:I} {s:V} {l:List (bk×Nat)} (o:Own h 258 12 s (mh l)) (aw:l.length≤2 ^ 30) (p:bk×Nat) :
  ∃ bF U,k6 Tryz.prog 196 196 s (.aj h.n 0 1 1) (h.push (.cells (e6 p) 258 none))=some (bF,U)∧Own U 258 12 bF (mh (l++[p]))∧aa h U (aW s)∧nP h s bF:=by
 have eu:aa h (h.push (.cells (e6 p) 258 none)) none_:=aa.push _ _ _
 have fS:Own (h.push (.cells (e6 p) 258 none)) 258 12 (.aj h.n 0 1 1) (e6 p):=Own.qj (e6 p) 1 rfl (by decide)
 have gS:=Ms (P:=Tryz.prog) (t:=196) E7 fS (n:=1) rfl (by decide) rfl
 obtain ⟨bF,U,hF,ud,zR,lh⟩:=B9 (P:=Tryz.prog) (t:=196) (tx:=196) S5 (by decide) (o.cP eu) gS rfl (fun m hm=>by
  change m * 12=_ at hm
  have:(mh l).length=l.length * 12:=kF (enc:=e6) (sz:=12) Ft l
  have my:m * 12=l.length * 12+12:=by rw [this] at hm;exact hm
  have C8:m=l.length+1:=by omega
  subst C8
  refine ⟨?_,?_⟩
  ·exact Nat.le_trans (Nat.mul_le_mul_left (l.length+1) (show _≤1024 by decide)) (by simp only [lim];omega)
  ·simp only [lim];omega)
 refine ⟨bF,U,hF,?_,(eu.up).trans' zR,?_⟩
 ·unfold mh
  rw [List.flatMap_append]
  simpa [mh] using ud
 ·rcases lh with lh | lh
  ·exact .inl lh
  ·exact .inr fun q ae=>Nat.le_trans eu.n (lh q ae)
theorem aiv (h:I) (x:bk) (at_:Nat):iA Tryz.prog 196 1 [(0,.agg (e6 (x,at_)))] h=some (.aj h.n 0 1 1,h.push (.cells (e6 (x,at_)) 258 none)):=by rw [lN S5];rfl
theorem aiw {h:I} {ow:eT} {b:Nat} {t:Int} {j:iu} (x:bk) (at_:Nat) (aw:j.opn.length≤2 ^ 30) {j6 fr pv:V} (g:h.get b=.cells [.int .i64 t,.int .i64 j.ep,.int .i64 j.tx,j6,fr,.int .i64 0,pv] 198 none) (aB:Fu j6 j.bA) (c0:Own h 3 1 fr (bl j.ord)) (cw:Own h 258 12 pv (mh j.opn))
  (t0:ow b=some (1,t,0)) (t1:∀ q,aA fr=some q→ow q=some (1,t,1)) (t2:∀ q,aA pv=some q→ow q=some (1,t,2)) (hold:∀ q a8,ow q=some a8→q<h.n) :
  ∃ bS ab ow',k6 Tryz.prog 196 196 pv (.aj h.n 0 1 1) (h.push (.cells (e6 (x,at_)) 258 none))=some (bS,ab)∧ab.get b=.cells [.int .i64 t,.int .i64 j.ep,.int .i64 j.tx,j6,fr,.int .i64 0,pv] 198 none∧bS.one=true∧bS.cells=some [bS]∧aa h ab (fun q=>aW pv q) ∧
   aa h (ab.set b (.cells [.int .i64 t,.int .i64 j.ep,.int .i64 j.tx,j6,fr,.int .i64 0,bS] 198 none)) (fun q=>∃ i,ow q=some (1,t,i))∧(∀ q a8,ow q=some a8→ow' q=some a8)∧(∀ q a8,ow' q=some a8→ow q=some a8∨(h.n≤q∧q<ab.n)) ∧
   jC (ab.set b (.cells [.int .i64 t,.int .i64 j.ep,.int .i64 j.tx,j6,fr,.int .i64 0,bS] 198 none)) ow' b t { j with opn:=j.opn++[(x,at_)] }:=by
 obtain ⟨bS,ab,aK,Bj,k2,oB⟩:=N1 cw aw (x,at_)
 have p2:=hold _ _ t0
 have nF:¬aW pv b:=fun ad=>by have:=t2 b ad;rw [t0] at this;simp at this
 have oC:∀ q,aA fr=some q→q≠b:=fun q ae ad=>by have:=t1 q ae;rw [ad,t0] at this;simp at this
 have g2:=(k2.get b p2 nF).trans g
 have fw:=k2.n
 have FC:=c0.au k2 fun q ae ad=>by have h1:=t1 q ae;have ab:=t2 q ad;rw [h1] at ab;simp at ab
 have dY:aa ab (ab.set b (.cells [.int .i64 t,.int .i64 j.ep,.int .i64 j.tx,j6,fr,.int .i64 0,bS] 198 none)) (·=b):=aa.set _ _ _
 have xZ:∀ q,aA bS=some q→q≠b∧(aA pv=some q∨h.n≤q):=fun q ae=>by
  rcases oB with e | e
  ·exact ⟨fun ad=>nF (by rw [←ad,aW,←e];exact ae),.inl (by rw [←e];exact ae)⟩
  ·have:=e q ae;exact ⟨by omega,.inr this⟩
 obtain ⟨ow',how⟩:∃ f:eT,f=fun q=>if q<h.n then ow q else if aA bS=some q then some (1,t,2) else ow q:=⟨_,rfl⟩
 have cR:∀ q a8,ow q=some a8→ow' q=some a8:=fun q a8 ae=>by rw [how];simp only;rw [if_pos (hold _ _ ae)];exact ae
 refine ⟨bS,ab,ow',aK,g2,?_,?_,k2,(k2.mono (o':=fun q=>∃ i,ow q=some (1,t,i)) fun q ae=>⟨2,t2 q ae⟩).trans dY fun q ae ad=>⟨0,by rw [ad];exact t0⟩,cR,fun q a8 ae=>?_,j6,fr,bS,e4,aB,FC.au dY oC,Bj.au dY (fun q ae ad=>(xZ q ae).1 ad),cR _ _ t0,fun q ae=>cR _ _ (t1 q ae),fun q ae=>?_⟩
 ·rcases Bj with ⟨rfl | rfl,_⟩ | ⟨_,_,_,_,_,rfl,_⟩<;>rfl
 ·rcases Bj with ⟨rfl | rfl,_⟩ | ⟨_,_,_,_,_,rfl,_⟩<;>rfl
 ·rw [how] at ae
  simp only at ae
  split at ae
  ·exact .inl ae
  ·split at ae
   ·rename_i ab;exact .inr ⟨by omega,Bj.lt _ ab⟩
   ·exact .inl ae
 ·rcases (xZ q ae).2 with h1 | h1
  ·exact cR _ _ (t2 q h1)
  ·rw [how];simp only;rw [if_neg (by omega),if_pos ae]
def mi (logs:Int→List dn) (l:List (bk×Nat)):Int→List dn:=l.foldl (fun g p=>hO g p.1) logs
def nn (logs:Int→List dn) (j:iu) (x:bk):Int→List dn:=if x.aF≠j.ep∨x.fV≠j.tx then logs else if x.kind=3 then mi logs j.opn else logs
def kJ (j:iu) (x:bk) (at_:Nat):iu :=
 if x.aF≠j.ep∨x.fV≠j.tx then j
 else if x.kind=2 then { j with opn:=j.opn++[(x,at_)] }
 else if x.kind=3 then ⟨j.ep,j.tx+1,x.bA,j.ord++x.order,[]⟩
 else { j with tx:=j.tx+1,opn:=[] }
theorem aix {ay h:I} {lm bY lc c8:Nat} {logs:Int→List dn} {tasks:Int→Option iu} {L T:hK} {ow:eT} (x:bk) (at_:Nat) (w:hp ay h lm bY logs tasks L lc T c8 ow) {t:Int} {b:Nat} {j:iu} (ar:bq T t=some b) (aC:tasks t=some j) (br:j.opn.length≤2 ^ 30) (T5:-2 ^ 62≤j.tx∧j.tx<2 ^ 62) (hk:2≤x.kind∧x.kind≤4) (N2:x.kind=3→x.aF≠j.ep∨x.fV≠j.tx) :
  ah Tryz.prog 103 [.agg [.map lm,.map bY],.ptr b 0,.agg (aY x),.int .i64 (at_:Nat)] h (fun r U=>r=.tuple []∧∃ L' tC ow',hp ay U lm bY (nn logs j x) (fun n=>if n=t then some (kJ j x at_) else tasks n) L' tC T c8 ow'∧aa h U (fun q=>q=lm∨∃ a8,ow q=some a8)∧(∀ q a8,ow' q=some a8→ow q=some a8∨h.n≤q)):=by
 refine ah.aH (c:=_) Tryz.func103 rfl (by kernel_rfl) (by simp) ?_
 obtain ⟨er,ie⟩:∃ y,y=h.push (.cells [.map lm,.map bY] 134 none):=⟨_,rfl⟩
 have xV:aa h er none_:=by rw [ie];exact aa.push _ _ _
 have u2:er.n=h.n+1:=by rw [ie];rfl
 obtain ⟨H,hH⟩:∃ y,y=er.push (.cells (aY x) 140 none):=⟨_,rfl⟩
 have tD:aa er H none_:=by rw [hH];exact aa.push _ _ _
 have c6:=xV.trans' tD
 have bR:H.get (h.n+1)=.cells (aY x) 140 none:=by rw [←u2,hH];exact c4
 have o8:H.n=h.n+2:=by rw [hH,fR];omega
 have fA:=w.on c6
 have al:(V.agg [.map lm,.map bY]).cells=some [.map lm,.map bY]:=rfl
 have lZ:(V.agg (aY x)).cells=some (aY x):=rfl
 obtain ⟨wa,h1,j6,fr,pv,g,aB,c0,cw,t0,t1,t2⟩:=fA.hM t b ar
 rw [aC] at h1
 injection h1 with h1
 subst h1
 simp only [ao,Nat.reduceEqDiff,al,lZ]
 rw [←ie,←hH]
 clear ie hH
 refine aZ.b4 none_ [] (.q 0 (.q 1 (.q 2 (.q 3 (.q 4 (.q 5 (.q 6 (.q 7 (.q 8 (.q 9 (.q 10 (.q 11 (.q 12 (.q 13 (.q 14 (.q 15 (.q 16 (.q 17 .done)))))))))))))))))) (by kernel_rfl) (by kernel_rfl) (by kernel_rfl) ?_
 by_cases he:x.aF=j.ep
 rotate_left
 ·have bf:(x.aF !=j.ep)=true:=by simpa using he
  have aK:nn logs j x=logs:=by unfold nn;rw [if_pos (.inl he)]
  have a6:kJ j x at_=j:=by unfold kJ;rw [if_pos (.inl he)]
  have dB:(fun n=>if n=t then some j else tasks n)=tasks:=by funext n;split;rename_i ad;rw [ad,aC];rfl
  simp only [ao,b6,Nat.reduceEqDiff,Nat.reduceAdd,Nat.reduceLeDiff,vV,uv,zG,bz,bR,g,aY,bf,bd,Tryz.results103,lv]
  exact aR ⟨rfl,L,lc,ow,by rw [aK,a6,dB];exact fA,c6.up,fun _ _ ad=>.inl ad⟩
 have bf:(x.aF !=j.ep)=false:=by simpa using he
 by_cases af:x.fV=j.tx
 rotate_left
 ·have bx:(x.fV !=j.tx)=true:=by simpa using af
  have aK:nn logs j x=logs:=by unfold nn;rw [if_pos (.inr af)]
  have a6:kJ j x at_=j:=by unfold kJ;rw [if_pos (.inr af)]
  have dB:(fun n=>if n=t then some j else tasks n)=tasks:=by funext n;split;rename_i ad;rw [ad,aC];rfl
  simp only [ao,b6,Nat.reduceEqDiff,Nat.reduceAdd,Nat.reduceLeDiff,vV,zC,uv,zG,E5,bz,bR,g,aY,bf,bx,bd,Tryz.results103,lv]
  exact aR ⟨rfl,L,lc,ow,by rw [aK,a6,dB];exact fA,c6.up,fun _ _ ad=>.inl ad⟩
 have bx:(x.fV !=j.tx)=false:=by simpa using af
 have h6:¬(x.aF≠j.ep∨x.fV≠j.tx):=by omega
 have lD:x.kind≠3:=fun ad=>h6 (N2 ad)
 by_cases ab:x.kind=2
 ·have c3:(x.kind==2)=true:=by simpa using ab
  have aK:nn logs j x=logs:=by unfold nn;rw [if_neg h6,if_neg lD]
  have a6:kJ j x at_={ j with opn:=j.opn++[(x,at_)] }:=by unfold kJ;rw [if_neg h6,if_pos ab]
  obtain ⟨bS,ab,ow',hF,g2,one,cell,qD,hC,cR,hold,HS⟩:=aiw x at_ br g aB c0 cw t0 t1 t2 (fun q a8 ae=>(fA.bt q a8 ae).2)
  have fo:∀ q,h.n≤q→∀ a8,ow q≠some a8:=fun q ae a8 ad=>by have:=(w.bt _ _ ad).2;omega
  have f1:aW pv b=False:=eq_false fun ad=>by have:=t2 b ad;rw [t0] at this;simp at this
  have f2:aW pv (h.n+1)=False:=eq_false fun ad=>fo (h.n+1) (by omega) _ (t2 _ ad)
  have N3:iA Tryz.prog 196 1 [(0,.agg [.int .i64 x.kind,.int .i64 x.task,.int .i64 x.aF,.int .i64 x.fV,.int .i64 x.log,.int .i64 x.r.k,.int .i64 x.r.v,.int .i64 x.r.t,.bool x.del,.an x.bA.length (bl x.bA),.an x.order.length (bl x.order),.int .i64 (at_:Nat)])] H=some (.aj H.n 0 1 1,H.push (.cells (e6 (x,at_)) 258 none)):=aiv H x at_
  have st:ca (some 1) (aD.cells [V.int .i64 t,.int .i64 j.ep,.int .i64 j.tx,j6,fr,.int .i64 0,pv] 198 none) 6 [bS]=some (.cells [.int .i64 t,.int .i64 j.ep,.int .i64 j.tx,j6,fr,.int .i64 0,bS] 198 none):=by rw [nO one];rfl
  have eu:aa H (H.push (.cells (e6 (x,at_)) 258 none)) (fun q=>aW pv q):=aa.push _ _ _
  simp only [ao,b6,Nat.reduceEqDiff,Nat.reduceAdd,Nat.reduceLeDiff,sb,vV,zC,uv,zG,E5,bz,bR,g,aY,bf,bx,c3]
  refine aZ.b4 (fun q=>aW pv q) [8,9,12] (.q 0 (.q 1 (.q 2 (.q 3 (.q 4 (.q 5 (.q 6 (.q 7 (.e 8 (.e 9 (.q 10 (.q 11 (.a 12 .done))) .stop) .stop))))))))) (by kernel_rfl) (by kernel_rfl) (by kernel_rfl) ?_
  simp only [ao,b6,gV,Nat.reduceEqDiff,Nat.reduceAdd,Nat.reduceLeDiff,Cr,mf,Nn,ahp,Ti,I1,bR,g,aY,N3,hF,g2,st,cell,f1,f2,eu,qD,bd,Tryz.results103,lv]
  exact aR ⟨rfl,L,lc,ow',by rw [aK,a6];exact fA.qz ar hC (fun q ad=>ad) cR hold HS,(c6.up).trans hC fun q ae ⟨i,ad⟩=>.inr ⟨_,ad⟩,fun q a8 ae=>(hold q a8 ae).imp id fun ad=>by omega⟩
 ·have c3:(x.kind==2)=false:=by simpa using ab
  have kl:(x.kind==3)=false:=by simpa using lD
  have aK:nn logs j x=logs:=by unfold nn;rw [if_neg h6,if_neg lD]
  have a6:kJ j x at_={ j with tx:=j.tx+1,opn:=[] }:=by unfold kJ;rw [if_neg h6,if_neg ab,if_neg lD]
  have bK:IntKind.i64.wrap (j.tx+1)=j.tx+1:=Go.IntWalk.i64_in _ (by omega)
  simp only [ao,b6,Nat.reduceEqDiff,Nat.reduceAdd,Nat.reduceLeDiff,sb,vV,zC,uv,Cr,zG,E5,bz,I1,kH,bR,g,aY,bf,bx,c3,kl,bK,o0,Tryz.results103,lv]
  have dY:∀ o,aa H (H.set b o) (·=b):=fun o=>aa.set _ _ _
  have oC:∀ q,aA fr=some q→q≠b:=fun q ae ad=>by have:=t1 q ae;rw [ad,t0] at this;simp at this
  exact aR ⟨rfl,L,lc,ow,by rw [aK,a6];exact fA.qz ar (dY _) (fun q ad=>⟨0,by rw [ad];exact t0⟩) (fun _ _ ad=>ad) (fun _ _ ad=>.inl ad) ⟨j6,fr,.ag,e4,aB,c0.au (dY _) oC,Own.ag _ _ _,t0,t1,fun q ae=>by simp [aA] at ae⟩,(c6.up).trans (dY _) fun q ae ad=>.inr ⟨(1,t,0),ad ▸ t0⟩,fun _ _ ad=>.inl ad⟩
theorem T6 (h:I):iA Tryz.prog 50 0 [] h=some (.aj h.n 0 0 0,h.push (.cells [] 3 none)):=by rw [lN xQ];rfl
theorem T7 (h:I):Acc h (h.push (.cells [] 3 none)) 3 1 (.aj h.n 0 0 0) (bl []) :=
 ⟨.inr ⟨h.n,0,0,[],none,rfl,Nat.lt_succ_self _,c4,rfl,rfl,.inl ⟨by simp [ai],Nat.le_refl _,Nat.le_refl _⟩⟩,aa.push _ _ _,fun k hk=>by simp [aA] at hk;omega⟩
theorem aiy (l:List Int) (aw:l.length≤2 ^ 40) (h:I):Pure Tryz.prog 38 [.an l.length (bl l)] h (.an l.length (bl l)):=by
 refine Pure.of (bb.an (DG _)) ?_
 cases l with
 | nil=>
  refine ah.ou ?_ ?_
  ·refine ah.aH (c:=_) Tryz.func38 rfl (by kernel_rfl) (by simp) ?_
   have e:=Ia (xo:=.tmp 3) (yo:=.const (.slice none 0 0)) o4
   simp only [ao,Nat.reduceEqDiff,reduceCtorEq,e,bd,Tryz.results38,bT]
   exact aR ⟨h,aV.la h,aa.refl _ _⟩
  ·refine ah.aH (c:=_) Tryz.func38 rfl (by kernel_rfl) (by simp) ?_
   have e:∀ xo yo,cl Tryz.prog .eql 50 xo yo .gr .ag=some (.bool false):=fun xo yo=>H8 o4
   obtain ⟨v1,h1,aK,bC⟩:=Acc.oo (P:=Tryz.prog) (tx:=50) xQ (T7 h) (by decide) (Ib o4) rfl (fun m hm=>by
    change m * 1=_ at hm
    simp [bl] at hm
    subst hm;exact ⟨by decide,by decide⟩)
   have gx:=T6 h
   simp only [ao,Nat.reduceEqDiff,reduceCtorEq,e,gx,aK,bd,Tryz.results38,bT]
   obtain ⟨ab,bx,k2⟩:=bC.cast (n:=0) rfl (by decide)
   exact aR ⟨ab,bx,k2⟩
 | cons x l=>
  refine ah.aH (c:=_) Tryz.func38 rfl (by kernel_rfl) (by simp) ?_
  have e:∀ xo yo,cl Tryz.prog .eql 50 xo yo (.an (x::l).length (bl (x::l))) .ag=some (.bool false):=fun xo yo=>H9 o4 (by simp)
  obtain ⟨v1,h1,aK,bC⟩:=Acc.oo (P:=Tryz.prog) (tx:=50) xQ (T7 h) (by decide) (yZ o4 (by rw [l9,Nat.mul_one]) (Q7 (x::l))) (by rw [l9];exact (Nat.mul_one _).symm) (fun m hm=>by
   change m * 1=(bl []).length+(bl (x::l)).length at hm
   rw [l9,l9,List.length_nil] at hm
   exact ⟨by simp only [lim];omega,by simp only [lim];omega⟩)
  have gx:=T6 h
  generalize (x::l)=q at e aK bC aw⊢
  simp only [ao,Nat.reduceEqDiff,reduceCtorEq,e,gx,aK,bd,Tryz.results38,bT]
  obtain ⟨ab,bx,k2⟩:=bC.cast (n:=q.length) (by rw [show bl []=[] from rfl,List.nil_append,l9,Nat.mul_one]) (by decide)
  exact aR ⟨ab,bx,k2⟩
theorem aiz {h:I} {e t:TypeId} {v:V} {α:Type} {enc:α→List V} {sz:Nat} {l:List α} (l0:∀ a,(enc a).length=sz) (az:0<sz) (J:ee Tryz.prog t=some sz) (o:Own h e sz v (l.flatMap enc)) {k:Nat} (hk:k<l.length) {kk:IntKind} :
  ∃ i q,ik Tryz.prog t v (.int kk (k:Int))=some (.ptr i (0+k * sz))∧aA v=some i∧cW (h.get i) (0+k * sz)=some (enc l[k]++q):=by
 have ay:(l.flatMap enc).length=l.length * sz:=kF l0 l
 rcases o with ⟨_,al⟩ | ⟨i,len,cap,c,ex,rfl,hi,aE,hlen,cp,cQ⟩
 ·rw [al] at ay
  have:0<l.length * sz:=Nat.mul_pos (by omega) az
  simp at ay
  omega
 ·have hll:l.length=len:=Nat.eq_of_mul_eq_mul_right az (by rw [←ay,hlen])
  have mD:c=l.flatMap enc++c.drop (len * sz):=by rw [←cp,List.take_append_drop]
  have hle:k * sz≤l.length * sz:=Nat.mul_le_mul_right _ (by omega)
  have cr:l.length * sz≤c.length:=by rw [mD,List.length_append,ay];omega
  refine ⟨i,(l.drop (k+1)).flatMap enc++c.drop (len * sz),?_,rfl,?_⟩
  ·rw [B0,J,L2,if_pos ⟨by omega,by omega⟩,Int.toNat_natCast]
  ·rw [aE,L0,if_pos (by omega),Nat.zero_add]
   conv=>lhs;rw [mD]
   rw [List.drop_append_of_le_length (by rw [ay];exact hle),DQ l0,List.drop_eq_getElem_cons hk,List.flatMap_cons,List.append_assoc]
theorem aiA (logs:Int→List dn) (l:List (bk×Nat)) (p:bk×Nat):mi logs (l++[p])=hO (mi logs l) p.1:=by unfold mi;rw [List.foldl_append];rfl
theorem I8 (n:Int):∀ (l:List (bk×Nat)) (logs:Int→List dn) (N:Nat),(logs n).length≤N→(mi logs l n).length≤N+l.length
 | [],logs,N,h=>h
 | p::l,logs,N,h=>by
  have h1:(hO logs p.1 n).length≤N+1:=by
   unfold hO
   split
   ·rename_i ad;subst ad;simp;omega
   ·omega
  have:=I8 n l (hO logs p.1) (N+1) h1
  show (mi (hO logs p.1) l n).length≤_
  rw [List.length_cons]
  omega
theorem N4 {h:I} {s:V} {l:List Int} (o:Own h 3 1 s (bl l)) (r:List Int) (aw:l.length≤2 ^ 40) (aq:r.length≤2 ^ 40) :
  ∃ bF U,k6 Tryz.prog 50 50 s (.an r.length (bl r)) h=some (bF,U)∧Own U 3 1 bF (bl (l++r))∧aa h U (aW s)∧nP h s bF:=by
 obtain ⟨bF,U,hF,ud,zR,lh⟩:=B9 (P:=Tryz.prog) (t:=50) (tx:=50) xQ (by decide) o (yZ o4 (by rw [l9,Nat.mul_one]) (Q7 r)) (by rw [l9];exact (Nat.mul_one _).symm) (fun m hm=>by
  change m * 1=_ at hm
  rw [l9,l9] at hm
  exact ⟨by simp only [lim];omega,by simp only [lim];omega⟩)
 exact ⟨bF,U,hF,by rw [adk];exact ud,zR,lh⟩
theorem aiB {ay h:I} {lm bY lc c8:Nat} {logs:Int→List dn} {tasks:Int→Option iu} {L T:hK} {ow:eT} (x:bk) (at_:Nat) (w:hp ay h lm bY logs tasks L lc T c8 ow) {t:Int} {b:Nat} {j:iu} (ar:bq T t=some b) (aC:tasks t=some j) (br:j.opn.length≤2 ^ 30) (T8:∀ n,(logs n).length≤2 ^ 30) (T5:-2 ^ 62≤j.tx∧j.tx<2 ^ 62) (lD:x.kind=3) (ann:x.bA.length≤8) (iz:x.order.length≤2 ^ 30) (ma:j.ord.length≤2 ^ 40) (he:x.aF=j.ep) (af:x.fV=j.tx) :
  ah Tryz.prog 103 [.agg [.map lm,.map bY],.ptr b 0,.agg (aY x),.int .i64 (at_:Nat)] h (fun r U=>r=.tuple []∧∃ L' tC ow',hp ay U lm bY (nn logs j x) (fun n=>if n=t then some (kJ j x at_) else tasks n) L' tC T c8 ow'∧aa h U (fun q=>q=lm∨∃ a8,ow q=some a8)∧(∀ q a8,ow' q=some a8→ow q=some a8∨h.n≤q)):=by
 refine ah.aH (c:=_) Tryz.func103 rfl (by kernel_rfl) (by simp) ?_
 obtain ⟨er,ie⟩:∃ y,y=h.push (.cells [.map lm,.map bY] 134 none):=⟨_,rfl⟩
 have xV:aa h er none_:=by rw [ie];exact aa.push _ _ _
 have u2:er.n=h.n+1:=by rw [ie];rfl
 have FA:er.get h.n=.cells [.map lm,.map bY] 134 none:=by rw [ie];exact c4
 obtain ⟨H,hH⟩:∃ y,y=er.push (.cells (aY x) 140 none):=⟨_,rfl⟩
 have tD:aa er H none_:=by rw [hH];exact aa.push _ _ _
 have c6:=xV.trans' tD
 have bR:H.get (h.n+1)=.cells (aY x) 140 none:=by rw [←u2,hH];exact c4
 have pH:=(tD.get h.n (by omega) (by simp [none_])).trans FA
 have o8:H.n=h.n+2:=by rw [hH,fR];omega
 have fA:=w.on c6
 have al:(V.agg [.map lm,.map bY]).cells=some [.map lm,.map bY]:=rfl
 have lZ:(V.agg (aY x)).cells=some (aY x):=rfl
 obtain ⟨wa,h1,j6,fr,pv,g,aB,c0,cw,t0,t1,t2⟩:=fA.hM t b ar
 rw [aC] at h1
 injection h1 with h1
 subst h1
 have bf:(x.aF !=j.ep)=false:=by simpa using he
 have bx:(x.fV !=j.tx)=false:=by simpa using af
 have c3:(x.kind==2)=false:=by rw [lD];rfl
 have kl:(x.kind==3)=true:=by rw [lD];rfl
 have T9:cE Tryz.prog 196 pv H=some (.int .i64 (j.opn.length:Nat)):=by
  have bB:(j.opn.flatMap e6).length=j.opn.length * 12:=kF Ft _
  rcases cw with ⟨rfl | rfl,mD⟩ | ⟨i0,len,cap,mW,ex,rfl,_,_,oS,_,_⟩
  ·rw [mD] at bB
   have:j.opn.length=0:=by simp at bB;omega
   rw [this]
   exact B2 E7
  ·rw [mD] at bB
   have:j.opn.length=0:=by simp at bB;omega
   rw [this]
   exact Du E7
  ·rw [bB] at oS
   obtain rfl:len=j.opn.length:=by omega
   exact B1 E7
 have fo:∀ q,h.n≤q→∀ a8,ow q≠some a8:=fun q ae a8 ad=>by have:=(w.bt _ _ ad).2;omega
 simp only [ao,Nat.reduceEqDiff,al,lZ]
 rw [←ie,←hH]
 clear ie hH
 refine aZ.b4 none_ [] (.q 0 (.q 1 (.q 2 (.q 3 (.q 4 (.q 5 (.q 6 (.q 7 (.q 8 (.q 9 (.q 10 (.q 11 (.q 12 (.q 13 (.q 14 (.q 15 (.q 16 (.q 17 .done)))))))))))))))))) (by kernel_rfl) (by kernel_rfl) (by kernel_rfl) ?_
 simp only [ao,b6,Nat.reduceEqDiff,Nat.reduceAdd,Nat.reduceLeDiff,sb,vV,zC,uv,Cr,zG,E5,Nn,bz,bR,g,aY,bf,bx,c3,kl,T9]
 refine aZ.cu (α:=Nat×(hK×Nat×eT)) (fun y f U=>f 1=.ptr b 0∧f 4=.ptr h.n 0∧f 6=.ptr (h.n+1) 0∧f 49=pv∧f 50=.int .i64 (j.opn.length:Nat)∧f 51=.int .i64 (y.1:Nat)∧y.1≤j.opn.length ∧
   hp ay U lm bY (mi logs (j.opn.take y.1)) tasks y.2.1 y.2.2.1 T c8 y.2.2.2∧(∀ q a8,ow q=some a8→y.2.2.2 q=some a8)∧(∀ q a8,y.2.2.2 q=some a8→ow q=some a8∨H.n≤q) ∧
   Own U 258 12 pv (j.opn.flatMap e6)∧Own U 3 1 fr (bl j.ord)∧U.get b=.cells [.int .i64 t,.int .i64 j.ep,.int .i64 j.tx,j6,fr,.int .i64 0,pv] 198 none∧U.get h.n=.cells [.map lm,.map bY] 134 none∧U.get (h.n+1)=.cells (aY x) 140 none∧H.n≤U.n∧aa H U (fun q=>q=lm∨∃ a8,ow q=some a8))
   (fun y=>j.opn.length - y.1) (0,L,lc,ow)
  ⟨rfl,rfl,rfl,rfl,rfl,rfl,Nat.zero_le _,fA,fun _ _ ad=>ad,fun _ _ ad=>.inl ad,cw,c0,g,pH,bR,Nat.le_refl _,aa.refl _ _⟩ ?_
 rintro ⟨i,aiC,Ua,ow2⟩ f h1 ⟨f1,f4,f6,f49,f50,f51,hi,bK,eN,rk,op,Ub,yP,gs,ge,sS,Kg⟩
 simp only at f51 hi bK eN rk
 refine gn (by kernel_rfl) ?_
 by_cases aT:i<j.opn.length
 ·have d1:decide ((i:Int)<((j.opn.length:Nat):Int))=true:=decide_eq_true (by omega)
  have zT:IntKind.i64.wrap (((i:Nat):Int)+1)=((i+1:Nat):Int):=by rw [Go.IntWalk.i64_in _ (by omega)];omega
  obtain ⟨aiD,aiE,gm,_,Uc⟩:=aiz (kk:=.i64) Ft (by decide) Nt op aT
  rw [B0,Nt] at gm
  rw [Nat.zero_add] at gm Uc
  have gm:l6 (some 12) none pv (i:Int)=some (.ptr aiD (i * 12)):=gm
  have gY:j.opn.take (i+1)=j.opn.take i++[j.opn[i]]:=List.take_succ_eq_append_getElem aT
  generalize j.opn[i]=P at *
  obtain ⟨o9,pat⟩:=P
  have aiF:hI (some (some 12)) (some (e6 (o9,pat)++aiE))=some (.agg (e6 (o9,pat))):=HV (Ft _)
  have Ud:(V.agg (e6 (o9,pat))).cells=some (e6 (o9,pat)):=rfl
  have Ue:ca (some 12) (aD.cells [V.int .i64 0,.int .i64 0,.int .i64 0,.int .i64 0,.int .i64 0,.int .i64 0,.int .i64 0,.int .i64 0,.bool false,.ag,.ag,.int .i64 0] 258 none) 0 (e6 (o9,pat))=some (.cells (e6 (o9,pat)) 258 none):=rfl
  obtain ⟨cA,eU⟩:∃ y,y=h1.push (.cells (e6 (o9,pat)) 258 none):=⟨_,rfl⟩
  have k2:aa h1 cA none_:=by rw [eU];exact aa.push _ _ _
  have fw:cA.n=h1.n+1:=by rw [eU];rfl
  have nU:cA.get h1.n=.cells (e6 (o9,pat)) 258 none:=by rw [eU];exact c4
  have aiG:cW (aD.cells (e6 (o9,pat)) 258 none) 0=some (aY o9++[.int .i64 (pat:Nat)]):=rfl
  have N3:hI (some (some 11)) (some (aY o9++[V.int .i64 (pat:Nat)]))=some (.agg (aY o9)):=HV (CC o9)
  have Uf:=(k2.get h.n (by omega) (by simp [none_])).trans gs
  have wc:(mi logs (j.opn.take i) o9.log).length≤2 ^ 40:=by
   have h1:=I8 o9.log (j.opn.take i) logs (2 ^ 30) (T8 _)
   rw [List.length_take] at h1
   omega
  simp only [ao,Nat.reduceEqDiff,afy,zI,aha,Nt,Ti,ahP,f4,f49,f50,f51,d1,gm,Uc,aiF,Ud,Ue]
  rw [←eU]
  clear eU
  simp only [ao,Nat.reduceEqDiff,Nat.reduceAdd,agS,mf,Uf,nU,aiG,N3]
  refine cC Sq (Fz o9 (bK.on k2) wc) fun r aI ⟨nh,FD,x0,iY,jR,AV,b2,kW⟩=>?_
  subst nh
  have tag:∀ q,(q=lm∨∃ k i,ow2 q=some (0,k,i))→∀ u i,ow q≠some (1,u,i):=fun q ae u i ad=>by
   rcases ae with ae | ⟨k,i2,ae⟩
   ·rw [ae,w.fG] at ad;simp at ad
   ·rw [eN _ _ ad] at ae;simp at ae
  have mL:=(k2.up).trans' b2
  have Ee:=b2.n
  have nfree:∀ q,h.n≤q→q<H.n→¬(q=lm∨∃ k i,ow2 q=some (0,k,i)):=fun q h1 ab ae=>by
   rcases ae with ae | ⟨k,i2,ae⟩
   ·have:=(w.bt _ _ w.fG).2;omega
   ·rcases rk q _ ae with ad | ad
    ·exact fo q h1 _ ad
    ·omega
  have ano:=(fA.bt _ _ t0).2
  simp only [ao,Nat.reduceEqDiff,f51,zT]
  exact aR ⟨(i+1,FD,x0,iY),⟨f1,f4,f6,f49,f50,rfl,aT,by simp only [gY,aiA];exact jR,fun q a8 ae=>AV _ _ (eN _ _ ae),fun q a8 ae=>by
   rcases kW q a8 ae with ad | ad
   ·exact rk q a8 ad
   ·exact .inr (by omega),op.au mL (fun q ae ad=>tag q ad _ _ (t2 q ae)),Ub.au mL (fun q ae ad=>tag q ad _ _ (t1 q ae)),(mL.get b (by omega) (fun ad=>tag b ad _ _ t0)).trans yP,(mL.get h.n (by omega) (nfree _ (by omega) (by omega))).trans gs,(mL.get (h.n+1) (by omega) (nfree _ (by omega) (by omega))).trans ge,by omega,Kg.trans mL fun q ae ad=>by
   rcases ad with ad | ⟨k,i2,ad⟩
   ·exact .inl ad
   ·rcases rk q _ ad with ad | ad
    ·exact .inr ⟨_,ad⟩
    ·omega⟩,by simp only;omega⟩
 ·obtain rfl:i=j.opn.length:=by omega
  have d1:decide (((j.opn.length:Nat):Int)<((j.opn.length:Nat):Int))=false:=decide_eq_false (by omega)
  rw [List.take_length] at bK
  have Bk:=eN _ _ t0
  have Kh:∀ q,aA fr=some q→ow2 q=some (1,t,1):=fun q ae=>eN _ _ (t1 q ae)
  have p2:=(bK.bt _ _ Bk).2
  have Bl:¬aW fr b:=fun ad=>by have:=t1 b ad;rw [t0] at this;simp at this
  have Ki:¬aW fr (h.n+1):=fun ad=>fo (h.n+1) (by omega) _ (t1 _ ad)
  have C2:h.n+1≠b:=fun ad=>fo (h.n+1) (by omega) _ (by rw [ad];exact t0)
  obtain ⟨ab,ev⟩:∃ y,y=h1.set b (.cells [.int .i64 t,.int .i64 j.ep,.int .i64 j.tx,.an x.bA.length (bl x.bA),fr,.int .i64 0,pv] 198 none):=⟨_,rfl⟩
  have k2:aa h1 ab (·=b):=by rw [ev];exact aa.set _ _ _
  have fw:ab.n=h1.n:=by rw [ev];rfl
  have Bh:ab.get b=.cells [.int .i64 t,.int .i64 j.ep,.int .i64 j.tx,.an x.bA.length (bl x.bA),fr,.int .i64 0,pv] 198 none:=by rw [ev];exact e4
  have Kj:=(k2.get (h.n+1) (by omega) C2).trans ge
  have FC:=Ub.au k2 fun q ae ad=>Bl (by rw [←ad];exact ae)
  obtain ⟨qE,aI,hF,Bm,b2,eR⟩:=N4 FC x.order ma (by omega)
  have n3:=b2.n
  have Bi:=(b2.get b (by omega) Bl).trans Bh
  have anp:=(b2.get (h.n+1) (by omega) Ki).trans Kj
  have one:qE.one=true:=by rcases Bm with ⟨rfl | rfl,_⟩ | ⟨_,_,_,_,_,rfl,_⟩<;>rfl
  have cell:qE.cells=some [qE]:=by rcases Bm with ⟨rfl | rfl,_⟩ | ⟨_,_,_,_,_,rfl,_⟩<;>rfl
  have tG:ca (some 1) (aD.cells [V.int .i64 t,.int .i64 j.ep,.int .i64 j.tx,j6,fr,.int .i64 0,pv] 198 none) 3 [.an x.bA.length (bl x.bA)]=some (.cells [.int .i64 t,.int .i64 j.ep,.int .i64 j.tx,.an x.bA.length (bl x.bA),fr,.int .i64 0,pv] 198 none):=rfl
  have tH:ca (some 1) (aD.cells [V.int .i64 t,.int .i64 j.ep,.int .i64 j.tx,.an x.bA.length (bl x.bA),fr,.int .i64 0,pv] 198 none) 4 [qE]=some (.cells [.int .i64 t,.int .i64 j.ep,.int .i64 j.tx,.an x.bA.length (bl x.bA),qE,.int .i64 0,pv] 198 none):=by rw [nO one];rfl
  have Ug:aW fr b=False:=eq_false Bl
  have Uh:aW fr (h.n+1)=False:=eq_false Ki
  have Ui:IntKind.i64.wrap (j.tx+1)=j.tx+1:=Go.IntWalk.i64_in _ (by omega)
  have d9:cW (aD.cells (aY x) 140 none) 9=some [.an x.bA.length (bl x.bA),.an x.order.length (bl x.order)]:=rfl
  have d10:cW (aD.cells (aY x) 140 none) 10=some [.an x.order.length (bl x.order)]:=rfl
  have kv:aa ab aI (fun q=>aW fr q):=b2
  have xZ:∀ q,aA qE=some q→q≠b∧(aA fr=some q∨h1.n≤q):=fun q ae=>by
   rcases eR with e | e
   ·exact ⟨fun ad=>Bl (by rw [←ad,aW,←e];exact ae),.inl (by rw [←e];exact ae)⟩
   ·have:=e q ae;exact ⟨by omega,.inr (by omega)⟩
  have dY:∀ o,aa aI (aI.set b o) (·=b):=fun o=>aa.set _ _ _
  have hC:∀ o,aa h1 (aI.set b o) (fun q=>∃ i,ow2 q=some (1,t,i)):=fun o=>((k2.mono (o':=fun q=>∃ i,ow2 q=some (1,t,i)) fun q ad=>⟨0,by rw [ad];exact Bk⟩).trans b2 fun q ae ad=>⟨1,Kh q ad⟩).trans (dY o) fun q ae ad=>⟨0,by rw [ad];exact Bk⟩
  obtain ⟨ow',how⟩:∃ f:eT,f=fun q=>if q<h1.n then ow2 q else if aA qE=some q then some (1,t,1) else ow2 q:=⟨_,rfl⟩
  have cR:∀ q a8,ow2 q=some a8→ow' q=some a8:=fun q a8 ae=>by rw [how];simp only;rw [if_pos (bK.bt _ _ ae).2];exact ae
  have aK:nn logs j x=mi logs j.opn:=by unfold nn;rw [if_neg (by omega),if_pos lD]
  have a6:kJ j x at_=⟨j.ep,j.tx+1,x.bA,j.ord++x.order,[]⟩:=by unfold kJ;rw [if_neg (by omega),if_neg (by omega),if_pos lD]
  simp only [ao,Nat.reduceEqDiff,EW,vW,f1,f6,f50,f51,d1,ge,d9]
  refine cK agx (aiy x.bA (by omega) h1) ?_
  simp only [ao,Nat.reduceEqDiff,uv,agY,NF,yP,tG]
  rw [←ev]
  clear ev
  refine aZ.b4 (fun q=>aW fr q) [8,12] (.q 0 (.q 1 (.q 2 (.q 3 (.q 4 (.q 5 (.q 6 (.q 7 (.e 8 (.q 9 (.q 10 (.q 11 (.a 12 .done)))) .stop))))))))) (by kernel_rfl) (by kernel_rfl) (by kernel_rfl) ?_
  simp only [ao,b6,gV,Nat.reduceEqDiff,Nat.reduceAdd,Nat.reduceLeDiff,EX,uv,Cr,E5,agZ,bz,vW,I1,kH,NF,f1,f6,Bh,Kj,d10,hF,Bi,cell,tH,Ug,Uh,kv,Ui,o0,Tryz.results103,lv]
  have hold:∀ q a8,ow' q=some a8→ow2 q=some a8∨(h1.n≤q∧q<aI.n):=fun q a8 ae=>by
   rw [how] at ae
   simp only at ae
   split at ae
   ·exact .inl ae
   ·split at ae
    ·rename_i ab;exact .inr ⟨by omega,Bm.lt _ ab⟩
    ·exact .inl ae
  have aiH:∀ q,aA qE=some q→ow' q=some (1,t,1):=fun q ae=>by
   rcases (xZ q ae).2 with h1 | h1
   ·exact cR _ _ (Kh q h1)
   ·rw [how];simp only;rw [if_neg (by omega),if_pos ae]
  refine aR ⟨rfl,aiC,Ua,ow',?_,(c6.up).trans (Kg.trans (hC _) fun q ae ⟨i,ad⟩=>?_) fun q ae ad=>ad,fun q a8 ae=>?_⟩
  rotate_left
  ·rcases rk q _ ad with ad | ad
   ·exact .inr ⟨_,ad⟩
   ·omega
  ·rcases hold q a8 ae with ad | ad
   ·rcases rk q _ ad with ad | ad
    ·exact .inl ad
    ·exact .inr (by omega)
   ·exact .inr (by omega)
  rw [aK,a6]
  exact bK.qz ar (hC _) (fun q ad=>ad) cR hold ⟨_,qE,.ag,e4,.inr rfl,Bm.au (dY _) (fun q ae=>(xZ q ae).1),Own.ag _ _ _,cR _ _ Bk,aiH,fun q ae=>by simp [aA] at ae⟩
structure ky where
 logs:Int→List dn
 tasks:Int→Option iu
def Bn:ky:=⟨fun _=>[],fun _=>none⟩
def b8 (s:ky) (t:Int):iu:=(s.tasks t).getD rT
def jT (s:ky) (x:bk) (i:Nat):ky :=
 if cy x=false then s
 else if x.kind=1 then { s with logs:=hO s.logs x }
 else if x.kind=5 then { s with tasks:=fun n=>if n=x.task then some (jD (b8 s x.task) x.aF) else s.tasks n }
 else if x.kind=6 then s
 else ⟨nn s.logs (b8 s x.task) x,fun n=>if n=x.task then some (kJ (b8 s x.task) x i) else s.tasks n⟩
def oD:ky→Nat→List bk→ky
 | s,_,[]=>s
 | s,i,x::r=>oD (jT s x i) (i+1) r
theorem Uj:∀ (a b:List bk) (s:ky) (i:Nat),oD s i (a++b)=oD (oD s i a) (i+a.length) b
 | [],b,s,i=>rfl
 | x::a,b,s,i=>by
  rw [List.cons_append,oD,oD,Uj a b,List.length_cons,show i+1+a.length=i+(a.length+1) by omega]
def jf (l:List bk):ky:=oD Bn 0 l
theorem FE (l:List bk) (x:bk):jf (l++[x])=jT (jf l) x l.length:=by
 unfold jf
 rw [Uj,Nat.zero_add]
 all_goals rfl
structure x1 (N:Nat) (s:ky):Prop where
 np:∀ n,(s.logs n).length≤N * N
 op:∀ t j,s.tasks t=some j→j.opn.length≤N
 tx:∀ t j,s.tasks t=some j→0≤j.tx∧j.tx≤N
 ord:∀ t j,s.tasks t=some j→j.ord.length≤256 * N
theorem Uk {N:Nat} {s:ky} (b:x1 N s) (t:Int):(b8 s t).opn.length≤N∧(0≤(b8 s t).tx∧(b8 s t).tx≤N)∧(b8 s t).ord.length≤256 * N:=by
 unfold b8
 cases h:s.tasks t with
 | none=>exact ⟨Nat.zero_le _,⟨Int.le_refl _,by show (0:Int)≤N;omega⟩,Nat.zero_le _⟩
 | some j=>exact ⟨b.op t j h,b.tx t j h,b.ord t j h⟩
theorem aiI {N:Nat} {s:ky} (b:x1 N s) (x:bk) (i:Nat):x1 (N+1) (jT s x i):=by
 have jE:(N+1) * (N+1)=N * N+(N+N)+1:=by rw [Nat.add_mul,Nat.mul_add];omega
 obtain ⟨aoB,wa,aoC⟩:=Uk b x.task
 have same:x1 (N+1) s:=⟨fun n=>by have:=b.np n;omega,fun t j h=>by have:=b.op t j h;omega,fun t j h=>by have:=b.tx t j h;omega,fun t j h=>by have:=b.ord t j h;omega⟩
 unfold jT
 split
 ·exact same
 rename_i hm
 split
 ·refine ⟨fun n=>?_,same.op,same.tx,same.ord⟩
  show (hO s.logs x n).length≤_
  unfold hO
  split
  ·rw [List.length_append];have:=b.np x.log;simp;omega
  ·exact same.np n
 split
 ·refine ⟨same.np,fun t j h=>?_,fun t j h=>?_,fun t j h=>?_⟩<;>simp only at h<;>split at h
  ·injection h with h;subst h;unfold jD;split
   ·exact Nat.zero_le _
   ·omega
  ·exact same.op t j h
  ·injection h with h;subst h;unfold jD;split
   ·exact ⟨by show (0:Int)≤(b8 s x.task).tx;omega,by show (b8 s x.task).tx≤_;omega⟩
   ·omega
  ·exact same.tx t j h
  ·injection h with h;subst h;unfold jD;split
   ·show (b8 s x.task).ord.length≤_;omega
   ·omega
  ·exact same.ord t j h
 split
 ·exact same
 have fE:cy x=true:=by simpa using hm
 have av:=((nT x).1 fE).2.2.2.2.2.2.2.2.1
 refine ⟨fun n=>?_,fun t j h=>?_,fun t j h=>?_,fun t j h=>?_⟩
 ·show (nn s.logs _ x n).length≤_
  unfold nn
  split
  ·exact same.np n
  split
  ·have:=I8 n (b8 s x.task).opn s.logs (N * N) (b.np n)
   omega
  ·exact same.np n
 all_goals
  simp only at h
  split at h
 ·injection h with h;subst h;unfold kJ
  split
  ·omega
  split
  ·simp only [List.length_append,List.length_cons,List.length_nil];omega
  split<;>exact Nat.zero_le _
 ·exact same.op t j h
 ·injection h with h;subst h;unfold kJ
  split
  ·omega
  split
  ·simp only;omega
  split<;>simp only<;>omega
 ·exact same.tx t j h
 ·injection h with h;subst h;unfold kJ
  split
  ·omega
  split
  ·simp only;omega
  split
  ·simp only [List.length_append];omega
  ·simp only;omega
 ·exact same.ord t j h
theorem I9:∀ (n:Nat) (l:List bk),l.length=n→x1 n (jf l)
 | 0,l,h=>by
  rw [List.length_eq_zero_iff.1 h]
  exact ⟨fun _=>Nat.zero_le _,(by intro t j h;cases h),(by intro t j h;cases h),(by intro t j h;cases h)⟩
 | n+1,l,h=>by
  obtain ⟨a,x,rfl⟩:∃ a x,l=a++[x]:=by
   cases aw:l.reverse with
   | nil=>rw [List.reverse_eq_nil_iff] at aw;rw [aw] at h;simp at h
   | cons x a=>exact ⟨a.reverse,x,by rw [←List.reverse_reverse l,aw,List.reverse_cons]⟩
  rw [FE]
  exact aiI (I9 n a (by rw [List.length_append] at h;simp at h;exact h)) x _
end Go.Proofs.YtceanabgcnieeaaGreatDoor.Pk
