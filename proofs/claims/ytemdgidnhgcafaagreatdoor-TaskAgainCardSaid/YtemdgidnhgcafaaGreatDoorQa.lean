/-
  What functions of the program do, told of abstract states. Conditions: as each theorem says.
-/
import Derived.Test.YtemdgidnhgcafaaGreatDoorAdD
import Derived.Test.YtemdgidnhgcafaaGreatDoorProg
open Go.IntWalk renaming i64_in->kp
open Go.Proofs.YtemdgidnhgcafaaGreatDoor.Ab.V renaming int->kA,agg->kB
open Option renaming some->eL,none->eN
open Bool renaming true->e6,false->fr
open Go.IntKind renaming i64->gj
open Go.Proofs.Tryz renaming prog->mP,func142->aD9,func200->aEa,ntmps200->aEb,results200->aEc,func150->aEi,func232->aDg,func216->aEo
open And renaming intro->AS
open Nat renaming reduceEqDiff->ds,reduceAdd->AT,mul_one->axD,reduceLeDiff->By,zero_le->D8,le_refl->BY,reduceBEq->azS,mul_comm->aAI,mod_lt->aAX,le_trans->UN,pow_add->aAl,lt_of_mul_lt_mul_right->aEd,add_mul->ayC,mul_le_mul_right->ay6,mod_eq_of_lt->azF,shiftLeft_eq->aEe,lt_of_le_of_lt->aDe,add_comm->aAC,mul_add->aA9,lt_or_ge->aAi,zero_mod->aEf,xor_zero->aEg,lt_of_lt_of_le->IS,add_assoc->aAr,mul_assoc->aAT,min_eq_left->azb,sub_zero->aA2,sub_sub->aEh,zero_add->ayB,add_zero->aAa,mul_div_cancel->aBu,log2_lt->aBd,lt_succ_self->azK,mul_lt_mul_of_pos_right->aEq,two_pow_pos->aDj
open Int renaming toNat_natCast->ayw,toNat->ay4,fdiv_eq_ediv_of_nonneg->aAL,reduceBEq->azH,reduceNeg->Js,le_refl->az7,le_trans->aBe,min_eq_left->aDm
open List renaming drop_eq_getElem_cons->ay0,getD->ayX,getElem?_eq_getElem->Jt,drop_of_length_le->azg,mem_cons->IN,mem_of_getElem?->azc,contains_cons->azN,contains_nil->azR,take_succ_cons->aAS,all_cons->aAE,all_eq_true->ayy,length->azl,take_of_length_le->ajE,map_drop->aAx,getElem_mem->ayz,length_drop->azk,cons_append->aza,length_cons->axF,take_succ_eq_append_getElem->ayY,flatMap_append->ay3,flatMap_cons->ayW,length_append->D9,length_take->ajB,mem_of_mem_drop->azT,append_assoc->axC,drop_left->aAm,nil_append->aze,take_append_drop->azL,length_nil->ayx,take->ay5,mem_of_mem_take->aAM,append_nil->axA,eq_nil_of_length_eq_zero->azo,take_left->azO,drop_append->aCX,take_take->azz,take_append_of_le_length->aAG,drop_append_of_le_length->aDf,drop_take->aAJ,drop_zero->azw,take_left'->aAj,pairwise_cons->ayA,getElem?_eq_some_iff->axB,set_eq_take_append_cons_drop->aAY,Pairwise->azM,mem_append->axE,filter_cons_of_pos->az6,filter_cons_of_neg->azZ,filter_eq_self->aAn,drop_left'->aC4,mem_filter->ajA,getElem?_drop->azI,any_eq_false->aAo,any_eq_true->aAp,pairwise_append->aDk,filter_filter->aAh,filter_congr->azy,all_eq_false->aEr
open Bool renaming eq_iff_iff->ay2,and_eq_true->are,or_eq_true->azG,or_true->aA8,or_false->azx,true_and->azr,and_self->aAZ,not_false->aA7
open Option renaming map_eq_some_iff->azs,map_some->azi
open Array renaming replicate->azJ,ext'->azp
open Prod renaming mk->ay9,ext->aAz
open Go renaming IntKind->aPh,TypeId->aPg,FloatKind->aPr
set_option linter.unusedVariables false
set_option linter.unusedSimpArgs false
set_option maxHeartbeats 4000000
set_option maxRecDepth 20000
namespace Go.Proofs.YtemdgidnhgcafaaGreatDoor.Pk
open Go Go.Proofs Go.Proofs.YtemdgidnhgcafaaGreatDoor.Ab
theorem apN:me mP 152=true:=by kernel_rfl
theorem ab3:me mP 154=true:=by kernel_rfl
theorem apO:me mP 200=true:=by kernel_rfl
theorem GC:me mP 201=true:=by kernel_rfl
theorem apP:me mP 218=true:=by kernel_rfl
theorem ab4:me mP 238=true:=by kernel_rfl
theorem apQ:me mP 244=true:=by kernel_rfl
theorem We:me mP 88=true:=by kernel_rfl
theorem Q5:Mc mP 329=eL .f64:=by kernel_rfl
theorem ph:mE mP 131=eL .u64:=by kernel_rfl
theorem GD:mE mP 189=eL .u64:=by kernel_rfl
theorem xV:mE mP 2=eL gj:=by kernel_rfl
theorem hP:mE mP 3=eL gj:=by kernel_rfl
theorem lZ:mE mP 5=eL .u8:=by kernel_rfl
theorem Ml:eJ mP 123=eL 1:=by kernel_rfl
theorem apR:eJ mP 208=eL 2:=by kernel_rfl
theorem d6:eJ mP 22=eL 1:=by kernel_rfl
theorem r4:eJ mP 25=eL 1:=by kernel_rfl
theorem qH:eJ mP 26=eL 1:=by kernel_rfl
theorem u2:eJ mP 282=eL 1:=by kernel_rfl
theorem ab5:eJ mP 285=eL 2:=by kernel_rfl
theorem uh:eJ mP 288=eL 1:=by kernel_rfl
theorem ui:eJ mP 29=eL 1:=by kernel_rfl
theorem Q6:eJ mP 31=eL 1:=by kernel_rfl
theorem Q7:eJ mP 32=eL 1:=by kernel_rfl
theorem hI:eJ mP 46=eL 1:=by kernel_rfl
theorem rl:eJ mP 52=eL 1:=by kernel_rfl
theorem Ae:eJ mP 64=eL 1:=by kernel_rfl
theorem Dn:eJ mP 88=eL 1:=by kernel_rfl
theorem ab6:eJ mP 98=eL 1:=by kernel_rfl
theorem ab7:eJ mP 99=eL 1:=by kernel_rfl
theorem J4:eQ mP 148=eL (3,151,.int gj):=by kernel_rfl
theorem Q8:eQ mP 204=eL (3,3,.int gj):=by kernel_rfl
theorem J5:eQ mP 208=eL (3,2,.int gj):=by kernel_rfl
theorem apS:me mP 245=false:=by kernel_rfl
theorem apT:me mP 254=false:=by kernel_rfl
theorem apU:ED mP 110=eL [0,0,0,0,1]:=by kernel_rfl
theorem Wf:ED mP 45=eL [0,0,0]:=by kernel_rfl
theorem ab8:gM mP 123=eL ⟨186,[.int gj 0,.int gj 0,.int gj 0,.int gj 0,.int gj 0,.int gj 0,.int gj 0,.int gj 0,.bool fr,.ah,.ah,.int gj 0],12,128⟩:=by kernel_rfl
theorem Wg:gM mP 22=eL ⟨68,[.int gj 0,.ah,.int gj 0,.int gj 0,.ah,.int gj 0],6,80⟩:=by kernel_rfl
theorem EN:gM mP 25=eL ⟨45,[.int gj 0,.int gj 0,.int gj 0],3,24⟩:=by kernel_rfl
theorem Mm:gM mP 26=eL ⟨5,[.int .u8 0],1,1⟩:=by kernel_rfl
theorem Af:gM mP 282=eL ⟨350,[.int gj 0,.int gj 0],2,16⟩:=by kernel_rfl
theorem y8:gM mP 288=eL ⟨308,[.int gj 0,.complex .f64 0 0,.int gj 0],3,32⟩:=by kernel_rfl
theorem Dp:gM mP 29=eL ⟨48,[.int gj 0,.int gj 0,.int gj 0,.int gj 0,.int gj 0,.int gj 0,.int gj 0,.int gj 0,.bool fr,.ah,.ah],11,120⟩:=by kernel_rfl
theorem ab9:gM mP 31=eL ⟨90,[.int gj 0,.ah,.ah],3,56⟩:=by kernel_rfl
theorem aca:gM mP 32=eL ⟨57,[.int gj 0,.int gj 0,.int gj 0,.ah,.ah,.int gj 0],6,80⟩:=by kernel_rfl
theorem pR:gM mP 46=eL ⟨3,[.int gj 0],1,8⟩:=by kernel_rfl
theorem Ag:gM mP 52=eL ⟨110,[.int gj 0,.int gj 0,.int gj 0,.int gj 0,.bool fr],5,40⟩:=by kernel_rfl
theorem Wh:gM mP 64=eL ⟨66,[.int gj 0,.int gj 0,.ah],3,40⟩:=by kernel_rfl
theorem J6:gM mP 88=eL ⟨4,[.bool fr],1,1⟩:=by kernel_rfl
theorem acb:gM mP 98=eL ⟨173,[.int gj 0,.int gj 0,.int gj 0,.int gj 0],4,32⟩:=by kernel_rfl
theorem acd:gM mP 99=eL ⟨177,[.int gj 0,.int gj 0,.int gj 0,.int gj 0,.int gj 0],5,40⟩:=by kernel_rfl
theorem Wi:dU mP 123=eL 12:=by kernel_rfl
theorem EO:dU mP 22=eL 6:=by kernel_rfl
theorem Wj:dU mP 25=eL 3:=by kernel_rfl
theorem Mn:dU mP 26=eL 1:=by kernel_rfl
theorem u3:dU mP 282=eL 2:=by kernel_rfl
theorem vL:dU mP 288=eL 3:=by kernel_rfl
theorem EP:dU mP 29=eL 11:=by kernel_rfl
theorem apV:dU mP 31=eL 3:=by kernel_rfl
theorem apW:dU mP 32=eL 6:=by kernel_rfl
theorem kE:dU mP 46=eL 1:=by kernel_rfl
theorem J7:dU mP 52=eL 5:=by kernel_rfl
theorem ace:dU mP 64=eL 3:=by kernel_rfl
theorem Wk:dU mP 88=eL 1:=by kernel_rfl
theorem apX:dU mP 98=eL 4:=by kernel_rfl
theorem apY:dU mP 99=eL 5:=by kernel_rfl
theorem Mo:nh mP 151=eL (.pointer eN):=by kernel_rfl
theorem GF:nh mP 2=eL (.int gj 0):=by kernel_rfl
def Mp:=PLift.up (AS (AS (AS (AS (AS (AS (AS (AS @amj @amk) (AS @aml @an8)) (AS (AS @an9 @aoa) @an6)) (AS (AS (AS @an7 @an4) (AS @an5 @Tryz.results10)) (AS (AS @Tryz.results100 @Tryz.results101) @Tryz.results102))) (AS (AS (AS (AS @Tryz.results103 @Tryz.results104) (AS @Tryz.results105 @Tryz.results106)) (AS (AS @Tryz.results107 @Tryz.results108) @Tryz.results109)) (AS (AS (AS @Tryz.results11 @Tryz.results110) @Tryz.results111) (AS (AS @Tryz.results112 @Tryz.results113) @Tryz.results114)))) (AS (AS (AS (AS (AS @Tryz.results115 @Tryz.results116) (AS @Tryz.results117 @Tryz.results118)) (AS (AS @Tryz.results119 @Tryz.results12) @Tryz.results120)) (AS (AS (AS @Tryz.results121 @Tryz.results122) @Tryz.results123) (AS (AS @Tryz.results13 @Tryz.results132) @Tryz.results133))) (AS (AS (AS (AS @Tryz.results14 @Tryz.results141) (AS @Tryz.results142 @Tryz.results143)) (AS (AS @Tryz.results144 @Tryz.results145) @Tryz.results146)) (AS (AS (AS @Tryz.results147 @Tryz.results148) @Tryz.results149) (AS (AS @Tryz.results15 @Tryz.results150) @Tryz.results152))))) (AS (AS (AS (AS (AS (AS @Tryz.results153 @Tryz.results154) (AS @Tryz.results155 @Tryz.results156)) (AS (AS @Tryz.results157 @Tryz.results158) @Tryz.results16)) (AS (AS (AS @Tryz.results167 @Tryz.results168) @Tryz.results169) (AS (AS @Tryz.results17 @Tryz.results170) @Tryz.results172))) (AS (AS (AS (AS @Tryz.results173 @Tryz.results174) (AS @Tryz.results175 @Tryz.results176)) (AS (AS @Tryz.results177 @Tryz.results178) @Tryz.results179)) (AS (AS (AS @Tryz.results18 @Tryz.results180) @Tryz.results181) (AS (AS @Tryz.results182 @Tryz.results185) @Tryz.results19)))) (AS (AS (AS (AS (AS @Tryz.results195 @Tryz.results196) (AS @Tryz.results197 @Tryz.results198)) (AS (AS @Tryz.results199 @Tryz.results20) @Tryz.results201)) (AS (AS (AS @Tryz.results202 @Tryz.results203) @Tryz.results204) (AS (AS @Tryz.results205 @Tryz.results206) @Tryz.results21))) (AS (AS (AS (AS @Tryz.results210 @Tryz.results211) (AS @Tryz.results212 @Tryz.results213)) (AS (AS @Tryz.results214 @Tryz.results215) @Tryz.results216)) (AS (AS (AS @Tryz.results217 @Tryz.results218) @Tryz.results219) (AS (AS @Tryz.results227 @Tryz.results229) @Tryz.results23)))))) (AS (AS (AS (AS (AS (AS (AS @Tryz.results230 @Tryz.results231) (AS @Tryz.results232 @Tryz.results233)) (AS (AS @Tryz.results234 @Tryz.results235) @Tryz.results236)) (AS (AS (AS @Tryz.results237 @Tryz.results238) (AS @Tryz.results239 @Tryz.results24)) (AS (AS @Tryz.results243 @Tryz.results244) @Tryz.results247))) (AS (AS (AS (AS @Tryz.results248 @Tryz.results249) (AS @Tryz.results25 @Tryz.results252)) (AS (AS @Tryz.results253 @Tryz.results26) @Tryz.results27)) (AS (AS (AS @Tryz.results275 @Tryz.results277) @Tryz.results278) (AS (AS @Tryz.results279 @Tryz.results28) @Tryz.results280)))) (AS (AS (AS (AS (AS @Tryz.results282 @Tryz.results283) (AS @Tryz.results284 @Tryz.results286)) (AS (AS @Tryz.results29 @Tryz.results3) @Tryz.results30)) (AS (AS (AS @Tryz.results31 @Tryz.results32) @Tryz.results33) (AS (AS @Tryz.results34 @Tryz.results35) @Tryz.results36))) (AS (AS (AS (AS @Tryz.results37 @Tryz.results38) (AS @Tryz.results39 @Tryz.results40)) (AS (AS @Tryz.results41 @Tryz.results42) @Tryz.results43)) (AS (AS (AS @Tryz.results44 @Tryz.results45) @Tryz.results46) (AS (AS @Tryz.results47 @Tryz.results48) @Tryz.results49))))) (AS (AS (AS (AS (AS (AS @Tryz.results50 @Tryz.results51) (AS @Tryz.results52 @Tryz.results53)) (AS (AS @Tryz.results54 @Tryz.results55) @Tryz.results56)) (AS (AS (AS @Tryz.results57 @Tryz.results58) @Tryz.results59) (AS (AS @Tryz.results60 @Tryz.results61) @Tryz.results62))) (AS (AS (AS (AS @Tryz.results63 @Tryz.results64) (AS @Tryz.results65 @Tryz.results66)) (AS (AS @Tryz.results67 @Tryz.results68) @Tryz.results69)) (AS (AS (AS @Tryz.results7 @Tryz.results70) @Tryz.results71) (AS (AS @Tryz.results72 @Tryz.results73) @Tryz.results74)))) (AS (AS (AS (AS (AS @Tryz.results75 @Tryz.results76) (AS @Tryz.results77 @Tryz.results78)) (AS (AS @Tryz.results79 @Tryz.results8) @Tryz.results80)) (AS (AS (AS @Tryz.results81 @Tryz.results82) @Tryz.results83) (AS (AS @Tryz.results84 @Tryz.results85) @Tryz.results86))) (AS (AS (AS (AS @Tryz.results87 @Tryz.results89) (AS @Tryz.results9 @Tryz.results90)) (AS (AS @Tryz.results91 @Tryz.results92) @Tryz.results93)) (AS (AS (AS @Tryz.results94 @Tryz.results95) @Tryz.results96) (AS (AS @Tryz.results97 @Tryz.results98) @Tryz.results99)))))))
theorem aJ:type_of% Mp.down:=Mp.down
theorem al:(((((((((sy mP 108=eL (7,1)/\sy mP 123=eN)/\sy mP 246=eL (11,4))/\(sy mP 29=eN/\sy mP 292=eL (17,1)))/\((sy mP 46=eN/\sy mP 52=eN)/\(JO mP 4=e6/\dk mP 101 0=eL 0)))/\((((dk mP 101 1=eL 1/\dk mP 101 2=eL 2)/\dk mP 101 3=eL 3)/\(dk mP 110 0=eL 0/\dk mP 110 1=eL 1))/\((dk mP 110 2=eL 2/\dk mP 110 3=eL 3)/\(dk mP 110 4=eL 4/\dk mP 125 0=eL 0))))/\(((((dk mP 125 1=eL 6/\dk mP 150 0=eL 0)/\dk mP 150 1=eL 2)/\(dk mP 150 2=eL 3/\dk mP 150 3=eL 4))/\((dk mP 150 4=eL 5/\dk mP 163 0=eL 0)/\(dk mP 163 1=eL 1/\dk mP 163 2=eL 5)))/\(((dk mP 173 0=eL 0/\dk mP 173 1=eL 1)/\(dk mP 177 0=eL 0/\dk mP 177 1=eL 1))/\((dk mP 178 0=eL 0/\dk mP 178 1=eL 1)/\(dk mP 186 0=eL 0/\dk mP 198 0=eL 0)))))/\((((((dk mP 210 0=eL 0/\dk mP 218 0=eL 0)/\dk mP 218 1=eL 3)/\(dk mP 218 2=eL 4/\dk mP 245 0=eL 0))/\((dk mP 245 1=eL 1/\dk mP 245 2=eL 2)/\(dk mP 245 3=eL 3/\dk mP 24 0=eL 0)))/\(((dk mP 24 1=eL 1/\dk mP 266 0=eL 0)/\(dk mP 266 1=eL 1/\dk mP 284 0=eL 0))/\((dk mP 284 1=eL 1/\dk mP 287 0=eL 0)/\(dk mP 287 1=eL 1/\dk mP 287 2=eL 2))))/\(((((dk mP 290 0=eL 0/\dk mP 290 1=eL 1)/\dk mP 290 2=eL 2)/\(dk mP 302 0=eL 0/\dk mP 302 1=eL 1))/\((dk mP 308 0=eL 0/\dk mP 308 1=eL 1)/\(dk mP 308 2=eL 2/\dk mP 34 0=eL 0)))/\(((dk mP 34 1=eL 1/\dk mP 350 0=eL 0)/\(dk mP 350 1=eL 1/\dk mP 45 0=eL 0))/\((dk mP 45 1=eL 1/\dk mP 45 2=eL 2)/\(dk mP 48 0=eL 0/\dk mP 48 1=eL 1))))))/\(((((((dk mP 48 2=eL 2/\dk mP 48 3=eL 3)/\dk mP 48 4=eL 4)/\(dk mP 48 5=eL 5/\dk mP 48 6=eL 8))/\((dk mP 48 7=eL 9/\dk mP 48 8=eL 10)/\(dk mP 57 0=eL 0/\dk mP 57 1=eL 1)))/\((((dk mP 57 2=eL 2/\dk mP 57 3=eL 3)/\dk mP 57 4=eL 4)/\(dk mP 57 5=eL 5/\dk mP 66 0=eL 0))/\((dk mP 66 1=eL 1/\dk mP 66 2=eL 2)/\(dk mP 68 0=eL 0/\dk mP 68 1=eL 1))))/\(((((dk mP 68 2=eL 2/\dk mP 68 3=eL 5)/\dk mP 74 0=eL 0)/\(dk mP 74 1=eL 1/\dk mP 90 0=eL 0))/\((dk mP 90 1=eL 1/\dk mP 90 2=eL 2)/\(dk mP 95 0=eL 0/\dk mP 95 1=eL 2)))/\(((dk mP 95 2=eL 3/\dk mP 95 3=eL 4)/\(dk mP 95 4=eL 5/\dk mP 95 5=eL 6))/\((dk mP 95 6=eL 7/\dk mP 95 7=eL 8)/\(dk mP 95 8=eL 9/\dk mP 95 9=eL 10)))))/\((((((Em mP 256=eL fr/\Em mP 259=eL fr)/\Em mP 262=eL fr)/\(Em mP 37=eL fr/\eJ mP 136=eL 0))/\((eJ mP 145=eL 0/\eJ mP 151=eL 0)/\(eJ mP 256=eL 0/\eJ mP 259=eL 0)))/\(((eJ mP 262=eL 0/\eJ mP 36=eL 0)/\(eJ mP 85=eL 0/\loadT mP 101=eL (eL 4)))/\((loadT mP 110=eL (eL 5)/\loadT mP 123=eL eN)/\(loadT mP 136=eL eN/\loadT mP 145=eL eN))))/\(((((loadT mP 148=eL eN/\loadT mP 161=eL eN)/\loadT mP 173=eL (eL 4))/\(loadT mP 177=eL (eL 5)/\loadT mP 186=eL (eL 12)))/\((loadT mP 2=eL eN/\loadT mP 208=eL eN)/\(loadT mP 212=eL eN/\loadT mP 22=eL eN)))/\(((loadT mP 24=eL (eL 2)/\loadT mP 245=eL (eL 4))/\(loadT mP 248=eL (eL 2)/\loadT mP 25=eL eN))/\((loadT mP 256=eL eN/\loadT mP 26=eL eN)/\(loadT mP 282=eL eN/\loadT mP 285=eL eN)))))))/\((((((((loadT mP 288=eL eN/\loadT mP 29=eL eN)/\loadT mP 3=eL eN)/\(loadT mP 302=eL (eL 2)/\loadT mP 306=eL eN))/\((loadT mP 308=eL (eL 3)/\loadT mP 31=eL eN)/\(loadT mP 32=eL eN/\loadT mP 34=eL (eL 3))))/\((((loadT mP 350=eL (eL 2)/\loadT mP 36=eL eN)/\loadT mP 37=eL eN)/\(loadT mP 4=eL eN/\loadT mP 45=eL (eL 3)))/\((loadT mP 46=eL eN/\loadT mP 48=eL (eL 11))/\(loadT mP 5=eL eN/\loadT mP 52=eL eN))))/\(((((loadT mP 57=eL (eL 6)/\loadT mP 64=eL eN)/\loadT mP 66=eL (eL 3))/\(loadT mP 68=eL (eL 6)/\loadT mP 71=eL eN))/\((loadT mP 72=eL eN/\loadT mP 74=eL (eL 2))/\(loadT mP 85=eL eN/\loadT mP 88=eL eN)))/\(((loadT mP 90=eL (eL 3)/\loadT mP 98=eL eN)/\(loadT mP 99=eL eN/\fm mP 101=eL (.inl [(0,1),(1,1),(2,1),(3,1)])))/\((fm mP 110=eL (.inl [(0,1),(1,1),(2,1),(3,1),(4,1)])/\fm mP 125=eL (.inl [(0,6),(6,1)]))/\(fm mP 150=eL (.inl [(0,2),(2,1),(3,1),(4,1),(5,1)])/\fm mP 163=eL (.inl [(0,1),(1,4),(5,1)]))))))/\((((((fm mP 173=eL (.inl [(0,1),(1,3)])/\fm mP 177=eL (.inl [(0,1),(1,3),(4,1)]))/\fm mP 178=eL (.inl [(0,1),(1,1)]))/\(fm mP 179=eL (.inr 2)/\fm mP 186=eL (.inl [(0,11),(11,1)])))/\((fm mP 198=eL (.inl [(0,1)])/\fm mP 210=eL (.inl [(0,1)]))/\(fm mP 218=eL (.inl [(0,3),(3,1),(4,1)])/\fm mP 24=eL (.inl [(0,1),(1,1)]))))/\(((fm mP 248=eL (.inl [(0,1),(1,1)])/\fm mP 266=eL (.inl [(0,1),(1,1)]))/\(fm mP 284=eL (.inl [(0,1),(1,1)])/\fm mP 287=eL (.inl [(0,1),(1,1),(2,1)])))/\((fm mP 290=eL (.inl [(0,1),(1,1),(2,1)])/\fm mP 302=eL (.inl [(0,1),(1,1)]))/\(fm mP 308=eL (.inl [(0,1),(1,1),(2,1)])/\fm mP 34=eL (.inl [(0,1),(1,1),(2,1)])))))/\(((((fm mP 350=eL (.inl [(0,1),(1,1)])/\fm mP 45=eL (.inl [(0,1),(1,1),(2,1)]))/\fm mP 48=eL (.inl [(0,1),(1,1),(2,1),(3,1),(4,1),(5,3),(8,1),(9,1),(10,1)]))/\(fm mP 57=eL (.inl [(0,1),(1,1),(2,1),(3,1),(4,1),(5,1)])/\fm mP 66=eL (.inl [(0,1),(1,1),(2,1)])))/\((fm mP 68=eL (.inl [(0,1),(1,1),(2,3),(5,1)])/\fm mP 74=eL (.inl [(0,1),(1,1)]))/\(fm mP 90=eL (.inl [(0,1),(1,1),(2,1)])/\fm mP 95=eL (.inl [(0,2),(2,1),(3,1),(4,1),(5,1),(6,1),(7,1),(8,1),(9,1),(10,1)]))))/\(((Vy mP 90 1=eL (1,eN)/\dU mP 108=eN)/\(dU mP 246=eN/\dU mP 292=eN))/\((hA mP 101=eL [.ah,.ah,.ah,.ah]/\hA mP 110=eL [.int gj 0,.int gj 0,.int gj 0,.int gj 0,.bool fr])/\(hA mP 125=eL [.int gj 0,.int gj 0,.int gj 0,.ah,.ah,.int gj 0,.ah]/\hA mP 150=eL [.ah,.int gj 0,.ah,.int gj 0,.dA,.fK]))))))/\(((((((hA mP 163=eL [.dA,.ah,.ah,.ah,.ah,.int gj 0]/\hA mP 173=eL [.int gj 0,.int gj 0,.int gj 0,.int gj 0])/\hA mP 177=eL [.int gj 0,.int gj 0,.int gj 0,.int gj 0,.int gj 0])/\(hA mP 178=eL [.bool fr,.int gj 0]/\hA mP 179=eL [.bool fr,.int gj 0,.bool fr,.int gj 0,.bool fr,.int gj 0,.bool fr,.int gj 0,.bool fr,.int gj 0,.bool fr,.int gj 0,.bool fr,.int gj 0,.bool fr,.int gj 0]))/\((hA mP 186=eL [.int gj 0,.int gj 0,.int gj 0,.int gj 0,.int gj 0,.int gj 0,.int gj 0,.int gj 0,.bool fr,.ah,.ah,.int gj 0]/\hA mP 198=eL [.ah])/\(hA mP 2=eL [.int gj 0]/\hA mP 210=eL [.fK])))/\(((hA mP 218=eL [.int gj 0,.int gj 0,.ah,.int gj 0,.nilIface]/\hA mP 24=eL [.ah,.int gj 0])/\(hA mP 248=eL [.int gj 0,.int gj 0]/\hA mP 266=eL [.dA,.int gj 0]))/\((hA mP 284=eL [.int gj 0,.ah]/\hA mP 287=eL [.int gj 0,.int gj 0,.fK])/\(hA mP 290=eL [.int gj 0,.int gj 0,.ah]/\hA mP 3=eL [.int gj 0]))))/\(((((hA mP 302=eL [.int gj 0,.int gj 0]/\hA mP 308=eL [.int gj 0,.complex .f64 0 0,.int gj 0])/\hA mP 34=eL [.ah,.ah,.int gj 0])/\(hA mP 350=eL [.int gj 0,.int gj 0]/\hA mP 37=eL [.int gj 0]))/\((hA mP 45=eL [.int gj 0,.int gj 0,.int gj 0]/\hA mP 46=eL [.ah])/\(hA mP 48=eL [.int gj 0,.int gj 0,.int gj 0,.int gj 0,.int gj 0,.int gj 0,.int gj 0,.int gj 0,.bool fr,.ah,.ah]/\hA mP 57=eL [.int gj 0,.int gj 0,.int gj 0,.ah,.ah,.int gj 0])))/\(((hA mP 66=eL [.int gj 0,.int gj 0,.ah]/\hA mP 68=eL [.int gj 0,.ah,.int gj 0,.int gj 0,.ah,.int gj 0])/\(hA mP 74=eL [.fK,.fK]/\hA mP 90=eL [.int gj 0,.ah,.ah]))/\((hA mP 95=eL [.ah,.int gj 0,.int gj 0,.int gj 0,.dA,.ah,.int gj 0,.int gj 0,.ah,.ah,.ah]/\cO mP 101=eL 4)/\(cO mP 110=eL 5/\cO mP 123=eL 1)))))/\((((((cO mP 173=eL 4/\cO mP 177=eL 5)/\cO mP 178=eL 2)/\(cO mP 186=eL 12/\cO mP 198=eL 1))/\((cO mP 2=eL 1/\cO mP 22=eL 1)/\(cO mP 24=eL 2/\cO mP 248=eL 2)))/\(((cO mP 25=eL 1/\cO mP 26=eL 1)/\(cO mP 266=eL 2/\cO mP 282=eL 1))/\((cO mP 288=eL 1/\cO mP 29=eL 1)/\(cO mP 3=eL 1/\cO mP 302=eL 2))))/\(((((cO mP 308=eL 3/\cO mP 34=eL 3)/\cO mP 350=eL 2)/\(cO mP 37=eL 1/\cO mP 45=eL 3))/\((cO mP 46=eL 1/\cO mP 48=eL 11)/\(cO mP 52=eL 1/\cO mP 57=eL 6)))/\(((cO mP 64=eL 1/\cO mP 66=eL 3)/\(cO mP 68=eL 6/\cO mP 74=eL 2))/\((cO mP 88=eL 1/\cO mP 90=eL 3)/\(cO mP 98=eL 1/\cO mP 99=eL 1)))))))):=by and_intros<;>kernel_rfl
inductive cd where
 | mk (op n:Int) (aQ:List cd)
def cd.op:cd->Int | .mk o _ _=>o
def cd.num:cd->Int | .mk _ n _=>n
def cd.aQ:cd->List cd | .mk _ _ l=>l
mutual
def aN:cd->List V
 | .mk o n l=>[.int gj o,.int gj n,.ag l.length (uj l)]
def uj:List cd->List V
 | []=>[]
 | k::r=>aN k++uj r
end
theorem acf:∀l:List cd,uj l=l.flatMap aN
 | []=>by simp[uj]
 | k::r=>by rw[uj,acf r];simp
theorem r5(e:cd):(aN e).length=3:=by cases e;rfl
theorem Mq(e:cd):(aN e).all (·.one)=true:=by cases e;rfl
theorem l0(o n:Int)(l:List cd):aN (.mk o n l)=[.int gj o,.int gj n,.ag l.length (l.flatMap aN)]:=by rw[aN,acf]
mutual
theorem Wl:(e:cd)->bc (aN e)
 | .mk o n l=>bc.cons (bf.int _ _) (bc.cons (bf.int _ _) (bc.cons (bf.ag (acg l)) bc.nil))
theorem acg:(l:List cd)->bc (uj l)
 | []=>by rw[uj];exact bc.nil
 | k::r=>by rw[uj];exact(Wl k).append (acg r)
end
def ee:List Int:=[0,0,0,0,0,0,2,2,2,2,2,2,2,3,1,2,2]
def gP:List V:=ee.map (.int gj)
def h4(h:I):Prop:=h.glob 2=eL gP
def oe:cd->Bool
 | .mk o n l=>decide (1<=o/\o<=16)&&(decide ((l.length:Int)=ee.getD o.toNat 0)&&(decide (n=0)||decide (o=1)))
theorem apZ(e:cd)(h:I)(F:h4 h):Pure mP 168 [.agg (aN e)] h (.bool (oe e)):=by
 refine Pure.val (bf.bool _) ?_;obtain⟨o,n,l⟩:=e;refine a7 Tryz.func168 rfl ?_;have aw:(kB (aN (.mk o n l))).cells=eL [.int gj o,.int gj n,.ag l.length (l.flatMap aN)]:=by rw[l0];rfl
 by_cases z:o<1
 .have i:oe (.mk o n l)=false:=by simp[oe];omega
  simp only[ae,ds,AT,al,aw,z,aJ];exact ar ⟨by rw[i],J.push _ _ _⟩
 by_cases E:16<o
 .have i:oe (.mk o n l)=false:=by simp[oe];omega
  simp only[ae,ds,AT,al,aw,z,E,aJ];exact ar ⟨by rw[i],J.push _ _ _⟩
 simp only[ae,ds,AT,al,aw,z,E];refine aT.cL kR [] (.q 0 (.q 1 (.q 2 (.q 3 (.q 4 (.q 5 (.q 6 (.q 7 (.q 8 (.q 9 (.q 10 (.q 11 (.q 12 (.q 13 (.q 14 (.q 15 (.q 16 (.q 17 (.q 18 .done))))))))))))))))))) ?_;have A:∀(f:aj) (a:aP),aj.eval f (h.push a) (.global 2)=.at gP:=λf a=>Lj (by rw[Gp];exact F);obtain⟨k,G,H⟩:∃k:Nat,o=(k:Int)/\k<17:=⟨o.toNat,by omega,by omega⟩;subst G;have B:∀m,cI (aP.cells [.int gj (k:Int),.int gj n,.ag l.length (l.flatMap aN)] 66 eN) m=if m<=3 then eL ([kA gj (k:Int),.int gj n,.ag l.length (l.flatMap aN)].drop m)else none:=λm=>rfl
 have C:(if(0:Int)<=(k:Int)/\(k:Int)<((17:Nat):Int)/\((k:Int).toNat*1)<=gP.length then eL (V.at (gP.drop ((k:Int).toNat*1)))else eN)=eL (.at (.int gj (ee.getD k 0)::gP.drop (k+1))):=by
  rw[gr ⟨by omega,by omega,by simp[gP,ee];omega⟩];have:gP.drop ((k:Int).toNat*1)=.int gj (ee.getD k 0)::gP.drop (k+1):=by
   rw[ayw,axD,ay0 (by simp[gP,ee];omega)];simp[gP,ayX,Jt (show k<ee.length by simp[ee];omega)]
  rw[this]
 by_cases j:(l.length:Int)=ee.getD k 0
 .have s:((l.length:Int)==ee.getD k 0)=true:=by simpa using j
  by_cases u:n=0
  .have D:(n==0)=true:=(by simpa using u);have i:oe (.mk (k:Int) n l)=true:=(by simp[oe,j,u];omega);simp only[ae,bw,ds,By,al,Ae,B,A,C,s,D,aJ];exact ar ⟨by rw[i],J.push _ _ _⟩
  .have D:(n==0)=false:=(by simpa using u);have i:oe (.mk (k:Int) n l)=((k:Int)==1):=(by rw[ay2];simp[oe,j,u];omega);simp only[ae,bw,ds,By,al,Ae,B,A,C,s,D,aJ];exact ar ⟨by rw[i],J.push _ _ _⟩
 .have s:((l.length:Int)==ee.getD k 0)=false:=by simpa using j
  have i:oe (.mk (k:Int) n l)=false:=by simp[oe]at j⊢;omega
  simp only[ae,bw,ds,By,al,Ae,B,A,C,s,aJ];exact ar ⟨by rw[i],J.push _ _ _⟩
def lf(f:Nat->cd->Option Nat)(a:Nat):Nat->List cd->Option Nat
 | m,[]=>eL m
 | m,k::r=>match f (a-m) k with
  | some c=>lf f a (m+c) r
  | none=>eN
def iN:Nat->Nat->cd->Option Nat
 | 0,_,_=>eN
 | l+1,a,e=>if a=0\/oe e=fr then eN else lf (iN l) a 1 e.aQ
theorem ach{f:Nat->cd->Option Nat}{a:Nat}(i:∀q e c,f q e=eL c->1<=c/\c<=q):∀{m:Nat} {l:List cd} {c:Nat},1<=m->m<=a->lf f a m l=eL c->1<=c/\c<=a
 | m,[],c,j,s,h=>by simp[lf]at h;omega
 | m,k::r,c,j,s,h=>by
  unfold lf at h;split at h
  .rename_i d u;have:=i _ _ _ u;exact ach i (by omega) (by omega) h
  .cases h
theorem aci:∀{l a:Nat} {e:cd} {c:Nat},iN l a e=eL c->1<=c/\c<=a
 | 0,_,_,_,h=>by simp[iN]at h
 | l+1,a,e,c,h=>by
  unfold iN at h;split at h
  .cases h
  .rename_i i;exact ach (λq e c=>aci) (by omega) (by omega) h
def xW:Option Nat->V
 | some m=>.tuple [.int gj (m:Nat),.bool e6]
 | none=>.tuple [.int gj 0,.bool fr]
theorem ap1{o n:Int}{l:List cd}(h:oe (.mk o n l)=e6):l.length<=3:=by
 simp only[oe,are,azG,ig]at h;obtain⟨⟨i,j⟩,m,_⟩:=h;have:∀k:Nat,ee.getD k 0<=3:=λk=>by
  by_cases a:k<17
  .revert a;revert k;decide
  .rw[ayX,List.getElem?_eq_none (by simp[ee];omega)];decide
 have:=this o.toNat;omega
theorem Mr{l:List cd}{k:Nat}(a:k<l.length){kk:aPh}:hC mP 64 (.ag l.length (l.flatMap aN)) (.int kk (k:Int))=eL (.at (aN l[k]++(l.drop (k+1)).flatMap aN)):=r0 r5 a ace
theorem acj:∀(l j:Nat) (e:cd) (h:I),h4 h->l<=16->j<=64->Pure mP 142 [.agg (aN e),.int gj (l:Nat),.int gj (j:Nat)] h (xW (iN l j e))
 | 0,j,e,h,H,_,_=>by
  refine Pure.val (bf.tuple (bc.cons (bf.int _ _) (bc.cons (bf.bool _) bc.nil))) ?_;refine a7 aD9 rfl ?_;have aw:(kB (aN e)).cells=eL (aN e):=rfl;have E:(((0:Nat):Int)==0)=true:=rfl;simp only[ae,ds,aw,E,aJ];exact ar ⟨rfl,J.push _ _ _⟩
 | l+1,j,e,h,H,aB,aH=>by
  have Z:bf (xW (iN (l+1) j e)):=by
   cases iN (l+1) j e<;>exact bf.tuple (bc.cons (bf.int _ _) (bc.cons (bf.bool _) bc.nil))
  refine Pure.val Z ?_;refine a7 aD9 rfl ?_;have aw:(kB (aN e)).cells=eL (aN e):=rfl;have E:(((l+1:Nat):Int)==0)=false:=by simp only[beq_eq_false_iff_ne,ne_eq];omega
  by_cases L:j=0
  .have M:((j:Int)==0)=true:=(by simp[L]);have B:iN (l+1) j e=none:=(by simp[iN,L]);simp only[ae,ds,aw,E,M,aJ];exact ar ⟨by rw[B];rfl,J.push _ _ _⟩
  have M:((j:Int)==0)=false:=by simp only[beq_eq_false_iff_ne,ne_eq];omega
  have r6:cI (aP.cells (aN e) 66 eN) 0=eL (aN e):=by cases e;rfl
  have mX:cw (eL (eL 3)) (eL (aN e))=eL (.agg (aN e)):=by cases e;rfl
  have gk:∀a,h4 (h.push a):=λa=>by unfold h4;rw[Gp];exact H
  simp only[ae,ds,al,aw,E,M,r6,mX];refine bE (apZ e _ (gk _)) ?_;by_cases N:oe e=fr
  .have B:iN (l+1) j e=none:=(by simp[iN,N]);simp only[ae,ds,N,aJ];exact ar ⟨by rw[B];rfl,J.push _ _ _⟩
  have O:oe e=true:=by simpa using N
  obtain⟨o,n,s⟩:=e;have mY:=ap1 O;have B:iN (l+1) j (.mk o n s)=lf (iN l) j 1 s:=by simp[iN,L,O,cd.aQ]
  have kT:cI (aP.cells (aN (.mk o n s)) 66 eN) 2=eL [.ag s.length (s.flatMap aN)]:=by rw[l0];rfl
  simp only[ae,ds,al,Ae,O,kT];refine aT.bG (α:=Nat×Nat) (λx f h'=>f 1=.int gj ((l+1:Nat):Int)/\f 2=.int gj (j:Nat)/\f 25=.ag s.length (s.flatMap aN)/\f 26=.int gj (s.length:Int)/\f 27=.int gj (x.1:Nat)/\f 8=.int gj (x.2:Nat)/\x.1<=s.length/\1<=x.2/\x.2<=j/\J h h' kR/\lf (iN l) j 1 s=lf (iN l) j x.2 (s.drop x.1))
   (λx=>s.length-x.1) (0,1) ⟨rfl,rfl,rfl,rfl,rfl,rfl,D8 _,BY _,by omega,J.push _ _ _,rfl⟩ ?_
  rintro⟨i,m⟩ f h' ⟨W,X,D,z,u,F,hi,yl,px,G,C⟩
  simp only at u F hi yl px C;refine wpS ?_;by_cases Y:i<s.length;rotate_left
  .have Q:=dY i s.length;rw[azg (by omega)]at C;simp only[ae,ds,z,u,F,Q,aJ];exact ar ⟨by rw[B,C];rfl,G⟩
  .have Q:=dK i s.length;rw[ay0 Y]at C;have eg:=Mr (kk:=.i64) Y;generalize s[i]=A at *;have iO:∀(q:List V),cw (eL (eL 3)) (eL (aN A++q))=eL (.agg (aN A)):=λq=>j1 (r5 A);have ch:(kB (aN A)).cells=eL (aN A):=rfl;have dI:bD (eL 3) (aP.cells [.int gj 0,.int gj 0,.ah] 66 eN) 0 (aN A)=eL (.cells (aN A) 66 eN):=by
    rw[u0 (n:=3) (r5 A) (Mq A),gr (by decide)];cases A;rfl
   have Ms:cI (aP.cells (aN A) 66 eN) 0=eL (aN A):=(by cases A;rfl);have iP:cw (eL (eL 3)) (eL (aN A))=eL (.agg (aN A)):=(by cases A;rfl);have aZ:aPh.i64.wrap (((l+1:Nat):Int)-1)=(l:Int):=(by rw[kp _ (by omega)];omega);have cH:aPh.i64.wrap ((j:Int)-(m:Int))=((j-m:Nat):Int):=(by rw[kp _ (by omega)];omega);have bY:=iM i;have R:h4 h':=by unfold h4;rw[G.glob];exact H
   have ih:=acj l (j-m) A (h'.push (.cells (aN A) 66 eN)) (by unfold h4;rw[Gp];exact R) (by omega) (by omega);simp only[ae,ds,al,W,X,D,z,u,F,Q,eg,iO,ch,dI,Ms,iP,aZ,cH];refine bE ih ?_;cases S:iN l (j-m) A with
   | none=>
    have T:lf (iN l) j 1 s=none:=(by rw[C];simp[lf,S]);simp only[ae,ds,xW,aJ];exact ar ⟨by rw[B,T];rfl,G.bp _⟩
   | some c=>
    have c9:=aci S;have jn:aPh.i64.wrap ((m:Int)+(c:Int))=((m+c:Nat):Int):=by rw[kp _ (by omega)];omega
    simp only[ae,ds,u,F,xW,bY,jn];exact ar ⟨(i+1,m+c),⟨W,X,D,z,rfl,rfl,by omega,by simp only;omega,by simp only;omega,G.bp _,by rw[C];simp[lf,S]⟩,by simp only;omega⟩
def dB(e:cd):Bool:=(iN 16 64 e).isSome
theorem GG(e:cd)(h:I)(j:h4 h):Pure mP 104 [.agg (aN e)] h (.bool (dB e)):=by
 refine Pure.val (bf.bool _) ?_;refine a7 Tryz.func104 rfl ?_;have aw:(kB (aN e)).cells=eL (aN e):=rfl;have m:cI (aP.cells (aN e) 66 eN) 0=eL (aN e):=by cases e;rfl
 have q:cw (eL (eL 3)) (eL (aN e))=eL (.agg (aN e)):=by cases e;rfl
 have s:∀a,h4 (h.push a):=λa=>by unfold h4;rw[Gp];exact j
 simp only[ae,ds,al,aw,m,q];refine bE (acj 16 64 e _ (s _) (by omega) (by omega)) ?_;cases i:iN 16 64 e with
 | none=>
  simp only[ae,ds,xW,aJ];exact ar ⟨by simp[dB,i],J.push _ _ _⟩
 | some c=>
  simp only[ae,ds,xW,aJ];exact ar ⟨by simp[dB,i],J.push _ _ _⟩
def uX(P:Program)(f:FuncId)(args:List V)(h:I)(o:Option V):Prop:=cn P f args h (λr h'=>o=eL r/\h'=h) (λh'=>h'=h/\o=eN)
theorem uX.of{P:Program}{f:FuncId}{args:List V}{h:I}(o:Option V)(C:∀v,o=eL v->bf v)(aw:cn P f args h (λr h'=>o=eL r/\J h h' kR) (λh'=>J h h' kR/\o=eN)):uX P f args h o:=by
 intro ρ B D w j s aW;refine(aw ρ B D w j s aW).mono λe w' U=>?_;rcases U with⟨ρ',r,E,h',u,F,z,i,az,A⟩|⟨ρ',G,h',u,H,z,i,A,L⟩
 .exact .inl ⟨⟨ρ.ren,ρ'.frz,ρ.dfr⟩,r,E,h,u,C r az _ _ _ F λ_ _ h=>h,s.forget z i A,⟨λ_ _ h=>h,i.frz,rfl⟩,az,rfl⟩
 .exact .inr ⟨⟨ρ.ren,ρ'.frz,ρ.dfr⟩,G,h,u,H,s.forget z i A,⟨λ_ _ h=>h,i.frz,rfl⟩,rfl,L⟩
def ks(o:Option Int):Option V:=o.map (.int gj)
theorem ap2(o:Option Int):∀v,ks o=eL v->bf v:=λv h=>by
 obtain⟨n,_,rfl⟩:=azs.1 h;exact bf.int _ _
theorem acn(b:Bool)(h:I):Pure mP 239 [.bool b] h (.int gj (if b then 1 else 0)):=by
 refine a7 Tryz.func239 rfl ?_;cases b <;>
 .simp only[ae,ds,reduceCtorEq,aJ];exact ar ⟨rfl,rfl⟩
theorem aco(n:Int)(h:I):uX mP 238 [.int gj n] h (if n=0 then eN else eL (.int gj n)):=by
 refine cn.tQ (c:=_) Tryz.func238 rfl (by kernel_rfl) (by simp) ?_;by_cases a:n=0
 .have c:(n==0)=true:=by simp[a]
  simp only[ae,ds,reduceCtorEq,al,c,BD];exact ar ⟨rfl,by rw[gr a]⟩
 .have c:(n==0)=false:=by simp[a]
  simp only[ae,ds,reduceCtorEq,c,aJ];exact ar ⟨by rw[gQ a],rfl⟩
def mZ(n:Int):Int:=aPh.i64.wrap n
def vM(op a b:Int):Option Int :=
 if op=6 then eL (mZ (a+b))else if op=7 then eL (mZ (a-b))else if op=8 then eL (mZ (a*b))
 else if op=9 then(if b=0 then eN else eL (mZ (a.tdiv b)))else if op=10 then(if b=0 then eN else eL (a.tmod b))
 else if op=11 then eL (if a<b then 1 else 0)else if op=12 then eL (if a=b then 1 else 0)else if op=15 then eL (min a b)else eL (max a b)
theorem ap3(op a b:Int)(h:I):uX mP 218 [.int gj op,.int gj a,.int gj b] h (ks (vM op a b)):=by
 refine cn.tQ (c:=_) Tryz.func218 rfl (by kernel_rfl) (by simp) ?_;by_cases z:op=6
 .have c:(op==6)=true:=by simp[z]
  simp only[ae,ds,reduceCtorEq,c,aJ];exact ar ⟨by simp[vM,z,ks,mZ],rfl⟩
 have i:(op==6)=false:=by simp[z]
 by_cases A:op=7
 .have c:(op==7)=true:=by simp[A]
  simp only[ae,ds,reduceCtorEq,i,c,aJ];exact ar ⟨by simp[vM,A,ks,mZ],rfl⟩
 have j:(op==7)=false:=by simp[A]
 by_cases B:op=8
 .have c:(op==8)=true:=by simp[B]
  simp only[ae,ds,reduceCtorEq,i,j,c,aJ];exact ar ⟨by simp[vM,B,ks,mZ],rfl⟩
 have m:(op==8)=false:=by simp[B]
 by_cases q:op=9
 .have c:(op==9)=true:=by simp[q]
  simp only[ae,ds,reduceCtorEq,i,j,m,c];refine BC ab4 (aco b h) (λr h' ⟨az,bd⟩=>?_) (λh' ⟨az,bd⟩=>?_)
  .subst bd;by_cases an:b=0
   .rw[gr an]at az;cases az
   rw[gQ an]at az;cases az;simp only[ae,ds,aaJ an,aJ];exact ar ⟨by simp[vM,q,an,ks,mZ],rfl⟩
  .subst az;have an:b=0:=Classical.byContradiction λan=>by rw[gQ an]at bd;cases bd
   simp only[ae,BD];exact ar ⟨rfl,by simp[vM,q,an,ks]⟩
 have s:(op==9)=false:=by simp[q]
 by_cases u:op=10
 .have c:(op==10)=true:=by simp[u]
  simp only[ae,ds,reduceCtorEq,i,j,m,s,c];refine BC ab4 (aco b h) (λr h' ⟨az,bd⟩=>?_) (λh' ⟨az,bd⟩=>?_)
  .subst bd;by_cases an:b=0
   .rw[gr an]at az;cases az
   rw[gQ an]at az;cases az;simp only[ae,ds,BE an,aJ];exact ar ⟨by simp[vM,u,an,ks],rfl⟩
  .subst az;have an:b=0:=Classical.byContradiction λan=>by rw[gQ an]at bd;cases bd
   simp only[ae,BD];exact ar ⟨rfl,by simp[vM,u,an,ks]⟩
 have C:(op==10)=false:=by simp[u]
 by_cases D:op=11
 .have c:(op==11)=true:=by simp[D]
  simp only[ae,ds,reduceCtorEq,i,j,m,s,C,c];refine bE (acn _ h) ?_;simp only[ae,ds,aJ];exact ar ⟨by simp[vM,D,ks],rfl⟩
 have G:(op==11)=false:=by simp[D]
 by_cases E:op=12
 .have c:(op==12)=true:=by simp[E]
  simp only[ae,ds,reduceCtorEq,i,j,m,s,C,G,c];refine bE (acn _ h) ?_;simp only[ae,ds,aJ];exact ar ⟨by simp[vM,E,ks],rfl⟩
 have L:(op==12)=false:=by simp[E]
 by_cases F:op=15
 .have c:(op==15)=true:=by simp[F]
  simp only[ae,ds,reduceCtorEq,i,j,m,s,C,G,L,c,aJ];exact ar ⟨by simp[vM,F,ks],rfl⟩
 have H:(op==15)=false:=by simp[F]
 simp only[ae,ds,reduceCtorEq,i,j,m,s,C,G,L,H,aJ];exact ar ⟨by simp[vM,z,A,B,q,u,D,E,F,ks],rfl⟩
def c7(j m q i:Int):Nat->cd->Option Int
 | 0,_=>eN
 | d+1,.mk o n s=>
  if o=1 then eL n else if o=2 then eL j else if o=3 then eL m else if o=4 then eL q else if o=5 then eL i
  else if o=14 then((s[0]?).bind (c7 j m q i d)).map λa=>mZ (-a)
  else if o=13 then((s[0]?).bind (c7 j m q i d)).bind λa=>if a=0 then(s[2]?).bind (c7 j m q i d)else(s[1]?).bind (c7 j m q i d)
  else((s[0]?).bind (c7 j m q i d)).bind λa=>((s[1]?).bind (c7 j m q i d)).bind λb=>vM o a b
def wU(d:Nat)(e:cd):Prop:=∃a c,iN d a e=eL c
theorem acq{f:Nat->cd->Option Nat}{i:Nat}:∀{m:Nat} {l:List cd} {c:Nat},lf f i m l=eL c->∀k∈l,∃q c,f q k=eL c
 | m,[],c,h,k,j=>by simp at j
 | m,a::r,c,h,k,j=>by
  unfold lf at h;split at h
  .rename_i d s;rcases IN.1 j with rfl|j
   .exact⟨_,_,s⟩
   .exact acq h k j
  .cases h
theorem wU.fits{d:Nat}{e:cd}(h:wU (d+1) e):oe e=e6/\∀k∈e.aQ,wU d k:=by
 obtain⟨room,c,h⟩:=h;unfold iN at h;split at h
 .cases h
 .rename_i j;refine⟨?_,λk i=>acq h k i⟩;cases s:oe e<;>simp_all
theorem wU.zero{e:cd}(h:wU 0 e):False:=by
 obtain⟨room,c,h⟩:=h;simp[iN]at h
theorem Wm{a:List cd}{k:Nat}{A:cd}(h:a[k]?=eL A):∃r,hC mP 64 (.ag a.length (a.flatMap aN)) (.int gj (k:Int))=eL (.at (aN A++r)) :=
 QV r5 rfl h ace
theorem Wn{o n:Int}{a:List cd}(h:oe (.mk o n a)=e6):(a.length:Int)=ee.getD o.toNat 0/\1<=o/\o<=16:=by
 simp only[oe,are,azG,ig]at h;exact⟨h.2.1,h.1⟩
theorem GH(j m s i:Int):∀(d:Nat) (e:cd) (h:I),wU d e->uX mP 201 [.agg (aN e),.agg [.int gj j,.int gj m,.int gj s],.int gj i] h (ks (c7 j m s i d e))
 | 0,e,h,a1=>a1.zero.elim
 | d+1,.mk o n u,h,a1=>by
  obtain⟨ga,Dq⟩:=a1.fits;obtain⟨E,oh,k4⟩:=Wn ga;refine uX.of _ (ap2 _) ?_;rw[l0];refine cn.tQ (c:=_) Tryz.func201 rfl (by kernel_rfl) (by simp) ?_;have z:∀a b,J h ((h.push a).push b) kR:=λa b=>(J.push _ _ _).bp _;by_cases W:o=1
  .have c:(o==1)=true:=(by simp[W]);simp only[ae,ds,AT,By,al,c,aJ];exact ar ⟨by simp[c7,W,ks],z _ _⟩
  have F:(o==1)=false:=by simp[W]
  by_cases X:o=2
  .have c:(o==2)=true:=(by simp[X]);simp only[ae,ds,AT,al,F,c,aJ];exact ar ⟨by simp[c7,X,ks],z _ _⟩
  have H:(o==2)=false:=by simp[X]
  by_cases Y:o=3
  .have c:(o==3)=true:=(by simp[Y]);simp only[ae,ds,AT,By,al,F,H,c,aJ];exact ar ⟨by simp[c7,Y,ks],z _ _⟩
  have O:(o==3)=false:=by simp[Y]
  by_cases Z:o=4
  .have c:(o==4)=true:=(by simp[Z]);simp only[ae,ds,AT,By,al,F,H,O,c,aJ];exact ar ⟨by simp[c7,Z,ks],z _ _⟩
  have eb:(o==4)=false:=by simp[Z]
  by_cases bV:o=5
  .have c:(o==5)=true:=(by simp[bV]);simp only[ae,ds,AT,al,F,H,O,eb,c,aJ];exact ar ⟨by simp[c7,bV,ks],z _ _⟩
  have c5:(o==5)=false:=by simp[bV]
  have L:∀(A:cd) (q:List V),cw (eL (eL 3)) (eL (aN A++q))=eL (.agg (aN A)):=λA q=>j1 (r5 A);have G:∀{A:Type} {l:List A} {k:Nat},k<l.length->∃x,l[k]?=eL x:=λhk=>⟨_,Jt hk⟩;have ie:0<u.length:=by
   have:(1:Int)<=ee.getD o.toNat 0:=by
    have:o.toNat=6\/o.toNat=7\/o.toNat=8\/o.toNat=9\/o.toNat=10\/o.toNat=11\/o.toNat=12\/o.toNat=13\/o.toNat=14\/o.toNat=15\/o.toNat=16:=by omega
    rcases this with q|q|q|q|q|q|q|q|q|q|q<;>rw[q]<;>decide
   omega
  obtain⟨A,Q⟩:=G ie;obtain⟨pk,Tb⟩:=Wm Q;have eg:hC mP 64 (.ag u.length (u.flatMap aN)) (.int gj 0)=eL (.at (aN A++pk)):=Tb;clear Tb;have kU:=Dq A (azc Q);by_cases Ih:o=14
  .have c:(o==14)=true:=(by simp[Ih]);have D:c7 j m s i (d+1) (.mk o n u)=(c7 j m s i d A).map λa=>mZ (-a):=(by simp[c7,Ih,Q]);generalize u.length=N at *;generalize u.flatMap aN=R at *;simp only[ae,ds,AT,al,F,H,O,eb,c5,c];refine aT.tY [6] (by kernel_rfl) (by kernel_rfl) (by kernel_rfl) ?_;simp only[ae,zS,zR,zT,zU,pQ,aA8,azx,azN,azR,azS,ds,AT,By,al,eg,L];refine BC GC (GH j m s i d A _ kU) (λr h' ⟨az,bd⟩=>?_) (λh' ⟨az,bd⟩=>?_)
   .subst bd;obtain⟨a,aW,rfl⟩:=azs.1 az;simp only[ae,JV,zS,zR,zT,zU,pQ,azx,azN,azR,azS,ds,AT,aJ];exact ar ⟨by simp[D,aW,ks,mZ],z _ _⟩
   .subst az;simp only[ae,Lv,AT,BD];have:c7 j m s i d A=none:=by simpa [ks]using bd
    exact ar ⟨z _ _,by simp[D,this,ks]⟩
  have Tc:(o==14)=false:=by simp[Ih]
  have iK:1<u.length:=by
   have:(2:Int)<=ee.getD o.toNat 0:=by
    have:o.toNat=6\/o.toNat=7\/o.toNat=8\/o.toNat=9\/o.toNat=10\/o.toNat=11\/o.toNat=12\/o.toNat=13\/o.toNat=15\/o.toNat=16:=by omega
    rcases this with q|q|q|q|q|q|q|q|q|q<;>rw[q]<;>decide
   omega
  obtain⟨B,b4⟩:=G iK;obtain⟨db,Td⟩:=Wm b4;have b0:hC mP 64 (.ag u.length (u.flatMap aN)) (.int gj 1)=eL (.at (aN B++db)):=Td;clear Td;have S:=Dq B (azc b4);by_cases T:o=13
  .have c:(o==13)=true:=(by simp[T]);have pA:2<u.length:=by
    rw[T]at E;have:(u.length:Int)=3:=E;omega
   obtain⟨C,oB⟩:=G pA;obtain⟨ea,Te⟩:=Wm oB;have eU:hC mP 64 (.ag u.length (u.flatMap aN)) (.int gj 2)=eL (.at (aN C++ea)):=Te;clear Te;have aa:=Dq C (azc oB);have D:c7 j m s i (d+1) (.mk o n u)=(c7 j m s i d A).bind λa=>if a=0 then c7 j m s i d C else c7 j m s i d B:=by simp[c7,T,Q,b4,oB]
   generalize u.length=N at *;generalize u.flatMap aN=R at *;simp only[ae,ds,AT,al,F,H,O,eb,c5,Tc,c];refine aT.tY [6] (by kernel_rfl) (by kernel_rfl) (by kernel_rfl) ?_;simp only[ae,zS,zR,zT,zU,pQ,aA8,azx,azN,azR,azS,ds,AT,By,al,eg,L];refine BC GC (GH j m s i d A _ kU) (λr h' ⟨az,bd⟩=>?_) (λh' ⟨az,bd⟩=>?_)
   .subst bd;obtain⟨a,aW,rfl⟩:=azs.1 az;by_cases M:a=0
    .have q:(a !=0)=false:=(by simp[M]);simp only[ae,JV,zS,zR,zT,zU,pQ,azx,azN,azR,azS,ds,AT,q];refine aT.tY [6] (by kernel_rfl) (by kernel_rfl) (by kernel_rfl) ?_;simp only[ae,zS,zR,zT,zU,pQ,aA8,azx,azN,azR,azS,ds,AT,By,al,eU,L];refine BC GC (GH j m s i d C _ aa) (λr h' ⟨az,bd⟩=>?_) (λh' ⟨az,bd⟩=>?_)
     .subst bd;obtain⟨b,an,rfl⟩:=azs.1 az;simp only[ae,JV,zS,zR,zT,zU,pQ,azx,azN,azR,azS,ds,AT,aJ];exact ar ⟨by simp[D,aW,M,an,ks],z _ _⟩
     .subst az;simp only[ae,Lv,AT,BD];have:c7 j m s i d C=none:=by simpa [ks]using bd
      exact ar ⟨z _ _,by simp[D,aW,M,this,ks]⟩
    .have q:(a !=0)=true:=(by simp[M]);simp only[ae,JV,zS,zR,zT,zU,pQ,azx,azN,azR,azS,ds,AT,q];refine aT.tY [6] (by kernel_rfl) (by kernel_rfl) (by kernel_rfl) ?_;simp only[ae,zS,zR,zT,zU,pQ,aA8,azx,azN,azR,azS,ds,AT,By,al,b0,L];refine BC GC (GH j m s i d B _ S) (λr h' ⟨az,bd⟩=>?_) (λh' ⟨az,bd⟩=>?_)
     .subst bd;obtain⟨b,an,rfl⟩:=azs.1 az;simp only[ae,JV,zS,zR,zT,zU,pQ,azx,azN,azR,azS,ds,AT,aJ];exact ar ⟨by simp[D,aW,M,an,ks],z _ _⟩
     .subst az;simp only[ae,Lv,AT,BD];have:c7 j m s i d B=none:=by simpa [ks]using bd
      exact ar ⟨z _ _,by simp[D,aW,M,this,ks]⟩
   .subst az;simp only[ae,Lv,AT,BD];have:c7 j m s i d A=none:=by simpa [ks]using bd
    exact ar ⟨z _ _,by simp[D,this,ks]⟩
  have ab:(o==13)=false:=by simp[T]
  have D:c7 j m s i (d+1) (.mk o n u)=(c7 j m s i d A).bind λa=>(c7 j m s i d B).bind λb=>vM o a b:=by simp[c7,W,X,Y,Z,bV,Ih,T,Q,b4]
  generalize u.length=N at *;generalize u.flatMap aN=R at *;simp only[ae,ds,AT,al,F,H,O,eb,c5,Tc,ab];refine aT.tY [6] (by kernel_rfl) (by kernel_rfl) (by kernel_rfl) ?_;simp only[ae,zS,zR,zT,zU,pQ,aA8,azx,azN,azR,azS,ds,AT,By,al,eg,L];refine BC GC (GH j m s i d A _ kU) (λr h' ⟨az,bd⟩=>?_) (λh' ⟨az,bd⟩=>?_)
  .subst bd;obtain⟨a,aW,rfl⟩:=azs.1 az;simp only[ae,JV,zS,zR,zT,zU,pQ,azx,azN,azR,azS,ds,AT];refine aT.cL kR [9,10] (.q 0 (.q 1 (.q 2 (.q 3 (.q 4 (.q 5 (.q 6 (.q 7 (.q 8 (.e 9 (.a 10 (.q 11 .done)) .stop)))))))))) ?_;simp only[ae,bw,ds,AT,By,al,b0,L];refine BC GC (GH j m s i d B _ S) (λr h' ⟨az,bd⟩=>?_) (λh' ⟨az,bd⟩=>?_)
   .subst bd;obtain⟨b,an,rfl⟩:=azs.1 az;simp only[ae,bw,ds];refine BC apP (ap3 o a b _) (λr h' ⟨az,bd⟩=>?_) (λh' ⟨az,bd⟩=>?_)
    .subst bd;obtain⟨c,aw,rfl⟩:=azs.1 az;simp only[ae,bw,ds,aJ];exact ar ⟨by simp[D,aW,an,aw,ks],z _ _⟩
    .subst az;simp only[ae,bw,BD];have:vM o a b=none:=by simpa [ks]using bd
     exact λ_=>ar ⟨z _ _,by simp[D,aW,an,this,ks]⟩
   .subst az;simp only[ae,bw,BD];have:c7 j m s i d B=none:=by simpa [ks]using bd
    exact λ_=>ar ⟨z _ _,by simp[D,aW,this,ks]⟩
  .subst az;simp only[ae,Lv,AT,BD];have:c7 j m s i d A=none:=by simpa [ks]using bd
   exact ar ⟨z _ _,by simp[D,this,ks]⟩
theorem ap4(p q:Value)(w:World):CallsD mP 200 #[p,q] .returning w λe a w'=>e=.returned (.tuple #[])/\a=.returning/\w'=w:=by
 refine callsD_of_wpS aEa rfl λi m j=>?_;apply wpS_seq;apply wpS_region;simp[wpOpsS,go_sem,recoverD,j,aEb,Exit.thenS];refine wpS_cond (t:=fr) (by simp[Act.eval,azJ]) ?_;simp only[Bool.false_eq_true,iC];refine wpS_of_wp (wp_skip ?_);cases i
 simp_all[bodyPostS,results,aEc]
theorem ap5{h:I}{i j:V}{R:I->Prop}(m:R h):abm mP 200 [i,j] h R:=by
 intro ρ B E w a s aW;obtain⟨p,F,az,G,u⟩:=aW.eM;obtain⟨q,H,rfl,L,z⟩:=u.eM;have:=z.eq_nil;subst this;obtain rfl:a=#[p,q]:=azp (by simpa using az);exact(ap4 p q w).mono λe M w' ⟨A,C,D⟩=>⟨A,C,ρ,h,D▸s,Ren.le.refl ρ,m⟩
theorem ap6{h:I}{i j:Nat}{a b:Int}(hi:h.get i=.cells [.int gj a] 2 eN)(D:h.get j=.cells [.int gj b] 37 eN)(E:i≠j){R:I->Prop}
  (F:R ((h.set i (.cells [.int gj 0] 2 eN)).set j (.cells [.int gj 10] 37 eN))):abn mP 200 [.ptr i 0,.ptr j 0] h R:=by
 intro ρ B u w m Y Z G aW;obtain⟨p,t1,az,H,L⟩:=aW.eM;obtain⟨q,t2,rfl,M,N⟩:=L.eM;have:=N.eq_nil;subst this;obtain rfl:m=#[p,q]:=azp (by simpa using az);refine callsD_of_wpS aEa rfl λc₀ cs O=>?_;apply wpS_seq;apply wpS_region;simp[wpOpsS,go_sem,recoverD,O,aEb,Exit.thenS];refine wpS_cond (t:=e6) (by simp[Act.eval,azJ]) ?_;simp only[jS];refine wpS_of_wp ?_;refine wp_mono (Q:=oR 4 B u { ρ with dfr:=[] } (λx f A=>x=.normal/\A=(h.set i (.cells [.int gj 0] 2 eN)).set j (.cells [.int gj 10] 37 eN)))
  ((show aT mP 4 _ _ (λk=>if k=0 then .ptr i 0 else if k=1 then .ptr j 0 else .top) h from jp (by kernel_rfl) ?_) { ρ with dfr:=[] } B u _ w (G.dfr []) ⟨λk=>?_,rfl,rfl⟩) ?_
 .have S:(h.set i (.cells [.int gj 0] 2 eN)).get j=.cells [.int gj b] 37 none:=by rw[nk (Ne.symm E)];exact D
  simp only[ae,reduceCtorEq,al,hi,S]
 .match k with
  | 0=>exact H.dfr []
  | 1=>exact M.dfr []
  | n+2=>exact .top _
 .rintro e jK w' ⟨ρ',z,f,A,T,W,X,C,rfl,rfl⟩
  cases e<;>simp only[tq]at T;refine⟨X.defers.trans C.dfr,_,rfl,.tuple #[],by simp[results,aEc],rfl,rfl,_,_,W.dfr ρ.dfr,C.sv,F⟩
theorem Nm(e:cd)(q s u j:Int)(h:I)(X:h4 h) :
  Pure mP 175 [.agg (aN e),.agg [.int gj q,.int gj s,.int gj u],.int gj j] h
   (if dB e then(match c7 q s u j 16 e with|some n=>.tuple [.int gj n,.int gj 0]|none=>.tuple [.int gj 0,.int gj 10])else .tuple [.int gj 0,.int gj 1]):=by
 refine Pure.val (by split<;>(try split)<;>exact bf.tuple (bc.cons (bf.int _ _) (bc.cons (bf.int _ _) bc.nil))) ?_;have aw:(kB (aN e)).cells=eL (aN e):=rfl;have Q:cI (aP.cells (aN e) 66 eN) 0=eL (aN e):=by cases e;rfl
 have R:cw (eL (eL 3)) (eL (aN e))=eL (.agg (aN e)):=by cases e;rfl
 obtain⟨H,hH⟩:∃x,x=(((h.push (.cells (aN e) 66 eN)).push (.cells [.int gj q,.int gj s,.int gj u] 45 eN)).push (.cells [.int gj 0] 2 eN)).push (.cells [.int gj 0] 37 eN):=⟨_,rfl⟩;have S:H.get h.n=.cells (aN e) 66 none:=by rw[hH];simp[BF,dn];rw[gQ (by omega),gQ (by omega)]
 have Y:H.get (h.n+1)=.cells [.int gj q,.int gj s,.int gj u] 45 none:=by rw[hH];simp[BF,dn]
 have L:H.get (h.n+1+1)=.cells [.int gj 0] 2 none:=by rw[hH];simp[BF,dn]
 have T:H.get (h.n+1+1+1)=.cells [.int gj 0] 37 none:=by rw[hH];simp[BF,dn]
 have E:J h H kR:=by rw[hH];exact(((J.push _ _ _).bp _).bp _).bp _
 have Z:h4 H:=by unfold h4;rw[E.glob];exact X
 have N:∀a b,J h ((H.set (h.n+1+1) a).set (h.n+1+1+1) b) kR:=λa b=>by
  refine⟨by rw[jM,jM];exact E.n,λi hi _=>?_,by rw[aaW,aaW];exact E.glob⟩;rw[nk (by omega),nk (by omega)];exact E.get i hi (by simp[kR])
 have W:∀a,(H.set (h.n+1+1) a).get (h.n+1+1+1)=.cells [.int gj 0] 37 none:=λa=>by rw[nk (by omega)];exact T
 have O:∀a b,((H.set (h.n+1+1) a).set (h.n+1+1+1) b).get (h.n+1+1)=a:=λa b=>by rw[nk (by omega),aM]
 refine au.LR (A:=_) (A2:=_) (C:=_) (M:=λf h'=>dB e=e6/\f 2=.int gj j/\f 3=.ptr h.n 0/\f 4=.ptr (h.n+1) 0/\f 6=.ptr (h.n+1+1) 0/\f 7=.ptr (h.n+1+1+1) 0/\h'=H)
  (KR:=λF G f h'=>∃n,c7 q s u j 16 e=eL n/\dB e=e6/\f 6=.ptr (h.n+1+1) 0/\f 7=.ptr (h.n+1+1+1) 0/\h'=(H.set (h.n+1+1) (.cells [.int gj n] 2 eN)).set (h.n+1+1+1) (.cells [.int gj 0] 37 eN))
  (KP:=λF G f h'=>c7 q s u j 16 e=eN/\dB e=e6/\F=.ptr (h.n+1+1) 0/\G=.ptr (h.n+1+1+1) 0/\f 6=.ptr (h.n+1+1) 0/\f 7=.ptr (h.n+1+1+1) 0/\h'=H)
  Tryz.func175 rfl (by decide) apO (by simp) ?_ ?_ ?_ ?_
 .refine wpS ?_;simp only[ae,ds,al,aw];rw[<-hH];refine wpS ?_;simp only[ae,ds,al,S,Q,R];refine bE (GG e H Z) ?_;cases m:dB e with
  | false=>
   simp only[ae,ds,reduceCtorEq,al,L,W,EE,aJ,O];exact .inl (N _ _)
  | true=>
   simp only[ae,ds,reduceCtorEq];refine .inr ?_
   trivial
 .rintro f h' ⟨m,f2,f3,f4,z,B,rfl⟩
  refine wpS ?_;have a1:wU 16 e:=by
   unfold dB at m;obtain⟨c,aw⟩:=Option.isSome_iff_exists.1 m;exact⟨64,c,aw⟩
  simp only[ae,ds,AT,al,f2,f3,f4,S,Y,Q,R];refine BC GC (GH q s u j 16 e h' a1) (λr ad ⟨az,bd⟩=>?_) (λad ⟨az,bd⟩=>?_)
  .subst bd;obtain⟨n,D,rfl⟩:=azs.1 az;simp only[ae,ds,reduceCtorEq,al,z,B,L,W];exact .inl ⟨.inl trivial,n,D,m,rfl⟩
  .subst az;have:c7 q s u j 16 e=none:=by simpa [ks]using bd
   simp only[ae,ds,reduceCtorEq,z,B];exact .inr ⟨this,m⟩
 .rintro F G f h' ⟨n,D,m,z,B,rfl⟩
  refine ap5 ?_;simp only[ae,al,EE,aJ,z,B,O];exact⟨by simp[m,D],N _ _⟩
 .rintro F G f h' ⟨D,m,rfl,rfl,z,B,rfl⟩
  refine ap6 L T (by omega) ?_;simp only[ae,al,EE,aJ,z,B,O];exact⟨by simp[m,D],N _ _⟩
theorem aK.agg{l i:List V}{h j:I}(a:aE l h i j):aK (.agg l) h (.agg i) j:=fun ρ B s w G u z=>by
 cases z with
 | agg A C=>
  rename_i xs;obtain⟨ρ1,D,E,F⟩:=a ρ B s w xs.toList u ⟨by simpa using A,by simpa using C⟩;exact⟨ρ1,D,E,F.lW.agg⟩
theorem ap7(o n:Int)(h:I):aK (.agg [.int gj o,.int gj n,.ah]) h (.agg (aN (.mk o n []))) h:=by
 rw[l0];exact Pk.aK.agg (aE.skip (aE.skip (aE.last (aK.h3 h))))
theorem acv{h:I}{v:V}{a:List cd}(o n:Int)(j:Own h 66 3 v (a.flatMap aN)):∃i,aK (.agg [.int gj o,.int gj n,v]) h (.agg (aN (.mk o n a))) i/\J h i (bb v):=by
 obtain⟨i,c,k⟩:=aK.own (n:=a.length) j (ft r5 a) (by decide);refine⟨i,?_,k⟩;rw[l0];exact Pk.aK.agg (aE.cons (aK.refl _ _) (aE.cons (aK.refl _ _) (aE.cons c (aE.refl _ _))))
theorem h4.ai{h h':I}{M:Nat->Prop}(i:h4 h)(j:J h h' M):h4 h':=by unfold h4;rw[j.glob];exact i
theorem h4.or{h j h':I}{M:Nat->Prop}(s:h4 j)(u:h4 h)(i:J j h' M\/h'=h):h4 h':=by
 rcases i with i|rfl
 .exact s.ai i
 .exact u
inductive ik:cd->Prop
 | mk (o n:Int) (l:List cd) (aB:l.length<2^47) (h:∀k∈l,ik k) (aU:-2^63<=o/\o<2^63) (aF:-2^63<=n/\n<2^63):ik (.mk o n l)
theorem ik.len{e:cd}(h:ik e):e.aQ.length<2^47:=by cases h;assumption
theorem ik.ES{e:cd}(h:ik e):∀k∈e.aQ,ik k:=by cases h;assumption
def GI(l:List V):Prop:=∃e:cd,ik e/\l=aN e
theorem Wo:∀l,gO.fa GI (.cat (.int gj) (.cat (.int gj) (.cat (.bh (.ext 3)) .unit))) l->GI l:=λl h=>by
 obtain⟨F,_,rfl,⟨o,rfl,A⟩,G,_,rfl,⟨n,rfl,B⟩,H,_,rfl,⟨j,rfl,C,z⟩,rfl⟩:=h;have:∃i:List cd,(∀k∈i,ik k)/\j.length=i.length/\j.flatten=i.flatMap aN:=by
  clear C
  induction j with
  | nil=>exact⟨[],by simp,rfl,rfl⟩
  | cons a r ih=>
   obtain⟨i,m,q,s⟩:=ih λe D=>z e (by simp[D]);obtain⟨⟨k,E,rfl⟩,_⟩:=z a (by simp);refine⟨k::i,λx u=>?_,by simp[q],by simp[s]⟩;rcases IN.1 u with rfl|u
   .exact E
   .exact m x u
 obtain⟨i,m,q,s⟩:=this;refine⟨.mk o n i,.mk o n i (by omega) m (wf_i64 A) (wf_i64 B),?_⟩;rw[l0,q,s];rfl
mutual
def fs:cd->Nat
 | .mk _ _ l=>fH l+1
def fH:List cd->Nat
 | []=>0
 | k::r=>fs k+fH r
end
theorem acw{l:List cd}{i:Nat}(hi:i<l.length):fH (l.take (i+1))=fH (l.take i)+fs l[i]:=by
 induction l generalizing i with
 | nil=>simp at hi
 | cons a r ih=>
  cases i with
  | zero=>simp[fH]
  | succ i=>simp only[aAS,fH,List.getElem_cons_succ];rw[ih (by simpa using hi)];omega
theorem Wp{e:cd}:∀k∈e.aQ,fs k<fs e:=by
 obtain⟨o,n,l⟩:=e;have:∀(l:List cd) (k:cd),k∈l->fs k<=fH l:=λl=>by
  induction l with
  | nil=>intro k i;simp at i
  | cons a r ih=>
   intro k i;rcases IN.1 i with rfl|i
   .simp[fH]
   .have:=ih k i;simp only[fH];omega
 intro k i;have:=this l k i;simp only[fs];omega
theorem wrap_add(a b:Int):aPh.i64.wrap (aPh.i64.wrap a+aPh.i64.wrap b)=aPh.i64.wrap (a+b):=by
 rw[aPh.wrap_i64,aPh.wrap_i64 a,aPh.wrap_i64 b,aPh.wrap_i64 (a+b)];omega
mutual
def uk(op:Int):cd->Bool
 | .mk o _ l=>o==op||um op l
def um(op:Int):List cd->Bool
 | []=>fr
 | k::r=>uk op k||um op r
end
def Ah(o:Int):Int:=if o<=5 then 0 else if o=14 then 1 else if o=13 then 3 else 2
theorem Wq{o:Int}(i:1<=o)(j:o<=16):ee.getD o.toNat 0=Ah o:=by
 obtain⟨k,rfl⟩:∃k:Nat,o=k:=⟨o.toNat,by omega⟩;have a:k<17:=by omega
 simp only[ayw];have:∀k:Nat,k<17->1<=k->ee.getD k 0=Ah (k:Int):=by decide
 exact this k a (by omega)
def tw:Nat->cd->Bool
 | 0,_=>fr
 | n+1,e=>oe e&&e.aQ.all (tw n)
theorem ap8(e:cd):1<=fs e:=by cases e;simp[fs]
theorem Q9:∀(l i:Nat) (e:cd),iN l i e=if tw l e=e6/\fs e<=i then eL (fs e)else eN
 | 0,i,e=>by simp[iN,tw]
 | l+1,i,.mk o n j=>by
  have C:∀(j:List cd) (m:Nat),1<=m->lf (iN l) i m j=if j.all (tw l)=e6/\m+fH j<=i\/j=[]then eL (m+fH j)else none:=by
   intro j
   induction j with
   | nil=>intro m D;simp[lf,fH]
   | cons k r ih=>
    intro m D;have F:=ap8 k;unfold lf;rw[Q9 l (i-m) k];by_cases s:tw l k=e6
    .by_cases z:fs k<=i-m
     .rw[gr ⟨s,z⟩];simp only;rw[ih _ (by omega)];cases r with
      | nil=>simp[fH,s];omega
      | cons a r=>
       simp only[aAE,s,azr,fH,reduceCtorEq,or_false];by_cases q:(tw l a&&r.all (tw l))=e6/\m+fs k+(fs a+fH r)<=i
       .rw[gr q,gr ⟨q.1,by omega⟩];congr 1;omega
       .rw[gQ q,gQ (λU=>q ⟨U.1,by omega⟩)]
     .rw[gQ (λU=>z U.2)];simp only[aAE,fH,reduceCtorEq,or_false];rw[gQ (λU=>by omega)]
    .rw[gQ (λU=>s U.1)];simp only[aAE,reduceCtorEq,or_false];rw[gQ (λU=>by simp[s]at U)]
  have u:tw (l+1) (.mk o n j)=(oe (.mk o n j)&&j.all (tw l)):=rfl;have bq:fs (.mk o n j)=fH j+1:=by simp[fs]
  have E:iN (l+1) i (.mk o n j)=if i=0\/oe (.mk o n j)=fr then eN else lf (iN l) i 1 j:=rfl
  rw[E];by_cases A:i=0
  .rw[gr (.inl A),gQ (λU=>by omega)]
  .cases B:oe (.mk o n j)with
   | false=>rw[gr (.inr rfl),gQ (λU=>by rw[u,B]at U;simp at U)]
   | true=>
    rw[gQ (by simp[A]),C j 1 (BY _)];rw[B,azr]at u;cases j with
    | nil=>rw[gr (.inr rfl),gr ⟨by rw[u];rfl,by rw[bq];simp[fH];omega⟩,bq];rfl
    | cons a r=>
     by_cases q:(a::r).all (tw l)=e6/\1+fH (a::r)<=i
     .rw[gr (.inl q),gr ⟨by rw[u];exact q.1,by rw[bq];omega⟩,bq];congr 1;omega
     .rw[gQ (by simp only[reduceCtorEq,or_false];exact q),gQ (λU=>q ⟨by rw[<-u];exact U.1,by rw[bq]at U;omega⟩)]
def fN(l:List Nat):List V:=l.map λ(n:Nat)=>kA .u8 (n:Int)
theorem acx(l:List Nat):(fN l).all (·.one)=true:=by
 rw[ayy];intro x a;obtain⟨n,_,rfl⟩:=List.mem_map.1 a;rfl
theorem Ws(a b:List Nat):fN (a++b)=fN a++fN b:=by simp[fN]
theorem r7(a:List Nat):(fN a).length=a.length:=by simp[fN]
theorem ET(a:List Nat):bc (fN a):=bc.map λ_ _=>bf.int _ _
def enc(n:Nat):List Nat:=if n<128 then [n]else(n % 128+128)::enc (n / 128)
termination_by n
theorem J8{n:Nat}(h:n<128):enc n=[n]:=by rw[enc,gr h]
theorem pm{n:Nat}(h:¬n<128):enc n=(n % 128+128)::enc (n / 128):=by rw[enc,gQ h]
theorem ap9(k:Nat):∀n,n<128^(k+1)->1<=(enc n).length/\(enc n).length<=k+1:=by
 induction k with
 | zero=>intro n h;rw[J8 (by simpa using h)];simp
 | succ k ih=>
  intro n h;by_cases a:n<128
  .rw[J8 a];simp
  .rw[pm a];have:=ih (n / 128) (by rw[Nat.pow_succ]at h;exact Nat.div_lt_of_lt_mul (by rw[aAI];exact h));simp;omega
theorem r8(n:Nat)(h:n<2^64):1<=(enc n).length/\(enc n).length<=10:=by
 have:(2:Nat)^64<128^10:=by decide
 exact ap9 9 n (by omega)
theorem aqa(n:Nat):wJ .u8 (aPh.u8.wrap (n:Int)) 128=((n % 128+128:Nat):Int):=by
 rw[aPh.wrap_u8];unfold wJ;rw[aPh.wrap_u8];have az:BitVec.ofInt aPh.u8.bits ((n:Int) % 256)=BitVec.ofNat 8 (n % 256):=by
  apply BitVec.eq_of_toNat_eq;simp[aPh.bits];omega
 rw[az];have h:∀m:Fin 256,((BitVec.ofNat 8 m.val ||| BitVec.ofInt 8 128).toNat:Int) % 256=((m.val % 128+128:Nat):Int):=by decide +kernel
 have:=h ⟨n % 256,aAX _ (by decide)⟩;have bd:((n % 256 % 128+128:Nat):Int)=((n % 128+128:Nat):Int):=by omega
 exact this.trans bd
theorem Wt(n:Nat):(n:Int).fdiv (2^(min (ay4 7) aPh.u64.bits))=((n / 128:Nat):Int):=by
 have:(2^(min (ay4 7) aPh.u64.bits):Int)=128:=by decide
 rw[this,aAL _ (by omega)];rfl
theorem aqb(n:Nat)(h:n<128):aPh.u8.wrap (n:Int)=(n:Int):=by rw[aPh.wrap_u8];omega
theorem acy(h:I)(a:Int):am mP 26 1 [(0,.int .u8 a)] h=eL (.bh h.n 0 1 1,h.push (.cells [.int .u8 a] 5 eN)):=by rw[nm Mm];rfl
theorem Wu(s:V)(q:List Nat)(n:Nat)(h:I)(W:Own h 5 1 s (fN q))(aw:q.length<=2^46)(O:n<2^64) :
  au mP 101 [s,.int .u64 n] h (λr h'=>Own h' 5 1 r (fN (q++enc n))/\J h h' (bb s)/\b6 h s r):=by
 refine a7 Tryz.func101 rfl ?_;simp only[ae];refine aT.bG (α:=V×List Nat×Nat) (λx f h'=>f 0=x.1/\f 1=.int .u64 (x.2.2:Nat)/\Own h' 5 1 x.1 (fN x.2.1)/\J h h' (bb s)/\b6 h s x.1/\x.2.1++enc x.2.2=q++enc n/\x.2.2<2^64) (λx=>x.2.2) (s,q,n)
  ⟨rfl,rfl,W,J.refl _ _,.inl rfl,rfl,O⟩ ?_
 rintro⟨Q,cs',i⟩ f z ⟨C,D,E,R,a,A,S⟩
 simp only at C D E a A S;refine wpS ?_;have T:cs'.length+1<=q.length+10:=by
  have z:=iy azl A;have m:=r8 n O;have X:=r8 i S;simp at z;omega
 have next:∀(v:V) (m:I),J z m (bb Q)->b6 z Q v->J h m (bb s)/\b6 h s v:=λv m u j=>by
  refine⟨R.trans u λk B F=>?_,?_⟩
  .rcases a with a|a
   .unfold bb at F⊢;rw[<-a];exact F
   .have:=a k F;omega
  .rcases j with j|j
   .rcases a with a|a
    .exact .inl (j.trans a)
    .exact .inr λk B=>a k (by rw[<-j];exact B)
   .exact .inr λk B=>UN R.n (j k B)
 by_cases Y:128<=i
 .have G:decide ((128:Int)<=(i:Int))=true:=by simp;omega
  obtain⟨v,m,H,L,M,N⟩:=QG (P:=mP) Mm (by decide) E (xs:=[.int .u8 ((i % 128+128:Nat):Int)]) rfl rfl (by simp[r7,lim];omega) (by simp[r7,lim];omega);obtain⟨u,j⟩:=next v m M N;simp only[ae,ds,reduceCtorEq,C,D,G,mF ph lZ,aqa,acy,H,Ll (show(0:Int)<=7 by decide),Wt];refine ar ⟨(v,cs'++[i % 128+128],i / 128),⟨rfl,rfl,?_,u,j,?_,by simp only;omega⟩,by simp;omega⟩
  .rw[Ws];exact L
  .simp only;rw[<-A,pm (n:=i) (by omega)];simp
 .have G:decide ((128:Int)<=(i:Int))=false:=by simp;omega
  obtain⟨v,m,H,L,M,N⟩:=QG (P:=mP) Mm (by decide) E (xs:=[.int .u8 (i:Int)]) rfl rfl (by simp[r7,lim];omega) (by simp[r7,lim];omega);obtain⟨u,j⟩:=next v m M N;simp only[ae,ds,reduceCtorEq,C,D,G,mF ph lZ,aqb i (by omega),acy,H,aJ];refine ar ⟨?_,u,j⟩;rw[<-A,J8 (by omega),Ws];exact L
structure Rd(h:I)(s:V)(cs:List Nat):Prop where
 len:∀h',J h h' kR->dX mP 26 s h'=eL (.int gj cs.length)
 lenOf:zC s=eL cs.length
 first:∀h',J h h' kR->vy 1 cs.length s h'=eL (fN cs)
 src:∀h',J h h' kR->gS mP 1 26 s h'=eL (cs.length,fN cs)
theorem Rd.ah(h:I):Rd h .ah []:=⟨λ_ _=>yY qH,rfl,λ_ _=>rfl,λ_ _=>by
 obtain⟨d,i,j⟩:=Er qH;cases d<;>simp[yV]at j;simp[gS,i,fN]⟩
theorem Rd.ag(h:I)(i:List Nat):Rd h (.ag i.length (fN i)) i:=⟨λ_ _=>aaQ qH,rfl,λh' _=>by
 simp only[vy,r7,axD,BY,and_self,jS];rw[ajE (by rw[r7];exact BY _)],λh' _=>JQ qH (by rw[r7,axD]) (acx i)⟩
theorem Rd.ai{h h':I}{s:V}{u:List Nat}(rd:Rd h s u)(k:J h h' kR):Rd h' s u :=
 ⟨λi j=>rd.len i (k.trans' j),rd.lenOf,λi j=>rd.first i (k.trans' j),λi j=>rd.src i (k.trans' j)⟩
theorem fresh(s:V)(a:List Nat)(m:Nat)(h:I)(rd:Rd h s a)(aw:a.length+m<=2^47) :
  au mP 102 [s,.int gj m] h (λr h'=>r=.bh h.n 0 a.length (a.length+m)/\Own h' 5 1 r (fN a)/\J h h' kR):=by
 refine a7 Tryz.func102 rfl ?_;have i:aPh.i64.wrap ((a.length:Int)+(m:Int))=((a.length+m:Nat):Int):=by rw[kp _ (by omega)];omega
 obtain⟨A,B,j,q,u,C,z⟩:=anZ (P:=mP) (tx:=26) (k:=.i64) (k':=.i64) (h:=h) (c:=a.length+m) Mm rd.lenOf rd.first (acx a) (by simp[r7]) (by omega) (by simp only;omega) (by omega)
 simp only[ae,ds,reduceCtorEq,rd.len h (J.refl _ _),i,j,q,aJ];exact ar ⟨rfl,u,z⟩
theorem Wv(s:V)(a:List Nat)(n:Nat)(h:I)(rd:Rd h s a)(aw:a.length<=2^46)(u:n<2^64) :
  au mP 60 [s,.int .u64 n] h (λr h'=>Own h' 5 1 r (fN (a++enc n))/\J h h' kR/\∀k,aS r=eL k->h.n<=k):=by
 refine a7 Tryz.func60 rfl ?_;simp only[ae,ds,reduceCtorEq];refine cp (fresh s a 10 h rd (by omega)) λdb z ⟨az,A,m⟩=>?_;have q:∀k,aS db=eL k->h.n<=k:=λk i=>by subst az;simp[aS]at i;omega
 simp only[ae,ds];refine cp (Wu db a n z A aw u) λea D ⟨B,C,j⟩=>?_;simp only[ae,ds,aJ];refine ar ⟨B,m.trans C λk i hi=>?_,λk i=>?_⟩
 .have:=q k hi;omega
 .rcases j with j|j
  .exact q k (j▸i)
  .exact UN m.n (j k i)
theorem Ra(s:V)(a:List Nat)(n:Nat)(h:I)(rd:Rd h s a)(aw:a.length<=2^46)(i:n<2^64) :
  Pure mP 60 [s,.int .u64 n] h (.ag (a++enc n).length (fN (a++enc n))):=by
 refine Pure.of (bf.ag (ET _)) ((Wv s a n h rd aw i).mono λr h' ⟨o,k,d⟩=>?_);obtain⟨m,c,q⟩:=aK.own o (n:=(a++enc n).length) (by simp[r7]) (by omega);exact⟨m,c,k.trans q λj z u=>by have:=d j u;omega⟩
theorem acz(s:V)(a:List Nat)(m:Nat)(h:I)(rd:Rd h s a)(aw:a.length+m<=2^47) :
  Pure mP 102 [s,.int gj m] h (.ag a.length (fN a)):=by
 refine Pure.of (bf.ag (ET _)) ((fresh s a m h rd aw).mono λr h' ⟨e,o,k⟩=>?_);obtain⟨i,c,q⟩:=aK.own o (n:=a.length) (by simp[r7]) (by omega);refine⟨i,c,k.trans q λj z u=>?_⟩;subst e;simp[bb,aS]at u;omega
def ei(h:I)(p:V)(i:Nat)(a:List Nat):Prop:=p=.ptr i 0/\i<h.n/\h.get i=.cells [.ag a.length (fN a)] 198 eN
theorem Mv(s:V)(a:List Nat)(h:I)(rd:Rd h s a)(aw:a.length<=2^47) :
  au mP 65 [s] h (λr h'=>r=.ptr h.n 0/\ei h' r h.n a/\J h h' kR):=by
 refine a7 Tryz.func65 rfl ?_;simp only[ae,ds,reduceCtorEq];refine bE (acz s a 0 h rd (by omega)) ?_;simp only[ae,ds,al,aJ];exact ar ⟨rfl,⟨rfl,by rw[dn];omega,ac⟩,J.push _ _ _⟩
theorem rest(h:I)(p:V)(i:Nat)(a:List Nat)(j:ei h p i a):Pure mP 108 [p] h (.ag a.length (fN a)):=by
 obtain⟨rfl,q,m⟩:=j;refine a7 Tryz.func108 rfl ?_;simp only[ae,ds,reduceCtorEq,al,m,aJ];exact ar ⟨rfl,rfl⟩
theorem Left(h:I)(p:V)(i:Nat)(a:List Nat)(j:ei h p i a):Pure mP 67 [p] h (.int gj a.length):=by
 refine a7 Tryz.func67 rfl ?_;simp only[ae,ds,reduceCtorEq];refine bE (rest h p i a j) ?_;simp only[ae,ds,qH,aJ];exact ar ⟨rfl,rfl⟩
theorem GJ(w n:Nat):BitVec.ofInt w (n:Int)=BitVec.ofNat w n:=by
 apply BitVec.eq_of_toNat_eq;simp
theorem aqc(a b k:Nat)(an:b<2^k)(j:k<=64)(aW:a*2^k<2^64):wJ .u64 (b:Int) ((a*2^k:Nat):Int)=((a*2^k+b:Nat):Int):=by
 have m:a*2^k+b<2^64:=by
  have e:(2:Nat)^64=2^(64-k)*2^k:=by rw[<-aAl];congr 1;omega
  rw[e]at aW⊢;have i:a<2^(64-k):=aEd aW
  calc a*2^k+b<a*2^k+2^k:=by omega
   _=(a+1)*2^k:=by rw[ayC];simp
   _<=_:=ay6 _ i
 unfold wJ;rw[GJ,GJ];have az:(BitVec.ofNat aPh.u64.bits b ||| BitVec.ofNat aPh.u64.bits (a*2^k)).toNat=a*2^k+b:=by
  rw[BitVec.toNat_or];simp only[BitVec.toNat_ofNat,aPh.bits];rw[azF (by omega),azF aW];have:=Nat.shiftLeft_add_eq_or_of_lt an a;rw[aEe]at this;rw[this,Nat.or_comm]
 rw[az,aPh.wrap_u64];omega
theorem Ww(g:Nat)(a:g<256):aPh.u64.wrap (JN .u8 (g:Int) 128)=((g % 128:Nat):Int):=by
 have h:∀m:Fin 256,aPh.u64.wrap (JN .u8 (m.val:Int) 128)=((m.val % 128:Nat):Int):=by decide +kernel
 exact h ⟨g,a⟩
theorem acA(g a:Nat)(j:g % 128*2^(7*a)<2^64)(aW:a<=9):aPh.u64.wrap (((g % 128:Nat):Int)*2^(min (aPh.i64.wrap (7*(a:Int))).toNat aPh.u64.bits))=((g % 128*2^(7*a):Nat):Int):=by
 have e:(min (aPh.i64.wrap (7*(a:Int))).toNat aPh.u64.bits)=7*a:=by
  rw[aPh.wrap_i64];have i:((7*(a:Int)+9223372036854775808) % 18446744073709551616-9223372036854775808)=((7*a:Nat):Int):=by omega
  rw[i,ayw];simp only[aPh.bits];omega
 rw[e,aPh.wrap_u64];have:(((g % 128:Nat):Int)*2^(7*a))=((g % 128*2^(7*a):Nat):Int):=by push_cast;rfl
 rw[this];omega
theorem NE(g a:Nat)(m:a<=9)(q:¬(a=9/\1<g))(s:g<256):g % 128*2^(7*a)<2^64:=by
 by_cases u:a<=8
 .have i:(2:Nat)^(7*a)<=2^56:=Nat.pow_le_pow_right (by decide) (by omega);have z:g % 128<128:=aAX _ (by decide);have j:g % 128*2^(7*a)<=127*2^56:=Nat.mul_le_mul (by omega) i;exact aDe j (by decide)
 .have:a=9:=by omega
  subst this;have:g % 128<=1:=by omega
  exact aDe (ay6 _ this) (by decide)
theorem acB(g n a:Nat)(i:n<2^(7*a))(m:a<=9)(j:g % 128*2^(7*a)<2^64):wJ .u64 (n:Int) ((g % 128*2^(7*a):Nat):Int)=((n+g % 128*2^(7*a):Nat):Int):=by
 rw[aqc (g % 128) n (7*a) i (by omega) j,aAC]
theorem acC(g n a:Nat)(i:n<2^(7*a)):n+g % 128*2^(7*a)<2^(7*(a+1)):=by
 have e:(2:Nat)^(7*(a+1))=128*2^(7*a):=by rw[aA9,aAl];omega
 rw[e];have j:g % 128<128:=aAX _ (by decide);have m:=ay6 (2^(7*a)) (show g % 128<=127 by omega);generalize 2^(7*a)=p at *;omega
def dec:List Nat->Nat->Nat->Nat×Nat×Nat
 | [],_,_=>(0,0,4)
 | g::r,a,n=>
  if a=9/\1<g then(0,0,5)
  else if 128<=g then dec r (a+1) (n+g % 128*2^(7*a))
  else if g=0/\0<a then(0,0,5)
  else(n+g % 128*2^(7*a),a+1,0)
def xX(r:Nat×Nat×Nat):V:=.tuple [.int .u64 (r.1:Nat),.int gj (r.2.1:Nat),.int gj (r.2.2:Nat)]
theorem aqd{a:List Nat}{k:Nat}(i:k<a.length):(fN a).drop (k*1)=.int .u8 (a[k]:Nat)::fN (a.drop (k+1)):=by
 rw[axD];unfold fN;rw[<-aAx,ay0 i];rfl
theorem number(j:List Nat)(h:I)(an:∀b∈j,b<256)(aw:j.length<=2^47) :
  Pure mP 169 [.ag j.length (fN j)] h (xX (dec j 0 0)):=by
 refine a7 Tryz.func169 rfl ?_;simp only[ae];refine aT.EA (α:=Nat×Nat) (l:=0) rfl (λx f h'=>h'=h/\f 0=.ag j.length (fN j)/\f 5=.int .u64 (x.2:Nat)/\f 6=.int gj (x.1:Nat)/\dec (j.drop x.1) x.1 x.2=dec j 0 0/\x.2<2^(7*x.1)/\x.1<=9/\x.1<=j.length) (λx=>10-x.1) ?_ ?_ ?_
 .rintro x f h1 _
  omega
 .rintro⟨a,n⟩ f h1 ⟨rfl,q,C,s,R,Y,S,jx⟩
  simp only at C s R Y S jx;refine wpS ?_;by_cases Dr:a=j.length
  .have u:((a:Int)==(j.length:Int))=true:=(by simp[Dr]);simp only[ae,ds,reduceCtorEq,qH,q,s,u,Dg,aJ];refine ar ⟨?_,rfl⟩;rw[<-R,Dr,List.drop_length];rfl
  .have u:((a:Int)==(j.length:Int))=false:=(by simp;omega);have Z:a<j.length:=(by omega);have Ds:j[a]<256:=an _ (ayz Z);have Ij:j.drop a=j[a]::j.drop (a+1):=ay0 Z;have z:=JW (P:=mP) (t:=26) (k:=.i64) (i:=(a:Int)) (n:=j.length) (cs:=fN j) Mn (by omega) (by omega) (by rw[r7];omega);rw[ayw,aqd Z]at z;have T:dec (j.drop a) a n=dec (j[a]::j.drop (a+1)) a n:=by rw[<-Ij]
   generalize j[a]=g at Ds z T;clear Ij;by_cases N:a=9/\1<g
   .have mb:((a:Int)==9)=true:=(by simp[N.1]);have Tg:decide ((1:Int)<(g:Int))=true:=(by simp;omega);simp only[ae,ds,reduceCtorEq,qH,al,q,s,u,z,mb,Tg,Dg,aJ];refine ar ⟨?_,rfl⟩;rw[<-R,T,dec,gr N];rfl
   .have Ii:=NE g a S N Ds;have E:=acB g n a Y S Ii;have uT:=acC g n a Y;have F:=acA g a Ii S;have G:=Ww g Ds;have H:(0:Int)<=aPh.i64.wrap (7*(a:Int)):=by
     rw[kp _ (by omega)];omega
    have L:aPh.i64.wrap ((a:Int)+1)=((a+1:Nat):Int):=(by rw[kp _ (by omega)];rfl);have W:(((a:Int)==9)=e6/\decide ((1:Int)<(g:Int))=fr)\/((a:Int)==9)=false:=by
     by_cases hv:a=9
     .left;refine⟨by simp[hv],by simp;omega⟩
     .right;simp;omega
    by_cases Mw:128<=g
    .have D:decide ((128:Int)<=(g:Int))=true:=(by simp;omega);have kt:a<=8:=by
      rcases aAi a 9 with h|h
      .omega
      .exact absurd ⟨by omega,by omega⟩ N
     have mJ:dec (j.drop (a+1)) (a+1) (n+g % 128*2^(7*a))=dec j 0 0:=by
      rw[<-R,T,dec,gQ N,gr Mw]
     rcases W with⟨m,O⟩|m
     .exfalso;simp at m;omega
     .simp only[ae,ds,reduceCtorEq,qH,al,q,C,s,u,z,m,D,mF lZ ph,G,i5 H,F,E,L,an1];exact ar ⟨(a+1,_),⟨rfl,q,rfl,rfl,mJ,uT,by simp only;omega,by simp only;omega⟩,by simp;omega⟩
    .have D:decide ((128:Int)<=(g:Int))=false:=(by simp;omega);have A:dec j 0 0=if g=0/\0<a then(0,0,5)else(n+g % 128*2^(7*a),a+1,0):=by
      rw[<-R,T,dec,gQ N,gQ Mw]
     have ue:((g:Int)==0)=fr\/(((g:Int)==0)=e6/\decide ((1:Int)<((a+1:Nat):Int))=decide (0<a)):=by
      by_cases M:g=0
      .right;exact⟨by simp[M],by rw[decide_eq_decide];omega⟩
      .left;simp;omega
     rcases ue with B|⟨B,Q⟩
     .have M:¬(g=0/\0<a):=(by intro h;simp[h.1]at B);rw[gQ M]at A;rcases W with⟨m,O⟩|m
      .simp only[ae,ds,reduceCtorEq,qH,al,q,C,s,u,z,m,O,B,D,mF lZ ph,G,i5 H,F,E,L,Dg,aJ];exact ar ⟨by rw[A];rfl,rfl⟩
      .simp only[ae,ds,reduceCtorEq,qH,al,q,C,s,u,z,m,B,D,mF lZ ph,G,i5 H,F,E,L,Dg,aJ];exact ar ⟨by rw[A];rfl,rfl⟩
     .by_cases X:0<a
      .have M:(g=0/\0<a):=⟨by simpa using B,X⟩;rw[gr M]at A;simp only[X,decide_true]at Q;rcases W with⟨m,O⟩|m
       .simp only[ae,ds,reduceCtorEq,qH,al,q,C,s,u,z,m,O,B,Q,D,mF lZ ph,G,i5 H,F,E,L,Dg,aJ];exact ar ⟨by rw[A];rfl,rfl⟩
       .simp only[ae,ds,reduceCtorEq,qH,al,q,C,s,u,z,m,B,Q,D,mF lZ ph,G,i5 H,F,E,L,Dg,aJ];exact ar ⟨by rw[A];rfl,rfl⟩
      .have M:¬(g=0/\0<a):=λh=>X h.2;rw[gQ M]at A;simp only[X,decide_false]at Q;rcases W with⟨m,O⟩|m
       .simp only[ae,ds,reduceCtorEq,qH,al,q,C,s,u,z,m,O,B,Q,D,mF lZ ph,G,i5 H,F,E,L,Dg,aJ];exact ar ⟨by rw[A];rfl,rfl⟩
       .simp only[ae,ds,reduceCtorEq,qH,al,q,C,s,u,z,m,B,Q,D,mF lZ ph,G,i5 H,F,E,L,Dg,aJ];exact ar ⟨by rw[A];rfl,rfl⟩
 .intro step;refine aT.seq (jp (by kernel_rfl) ?_);simp only[ae];refine aT.seq (jp (by kernel_rfl) ?_);simp only[ae];refine aT.seq (.label ?_);exact step (0,0) _ _ ⟨rfl,rfl,rfl,rfl,rfl,by decide,by decide,by omega⟩
theorem Wx(l:List Nat):∀k n,(dec l k n).2.2≠0->dec l k n=(0,0,(dec l k n).2.2):=by
 induction l with
 | nil=>intro k n _;rfl
 | cons g r ih=>
  intro k n h;unfold dec at h⊢;split
  .rfl
  .rename_i i;rw[gQ i]at h;split
   .rename_i a;rw[gr a]at h;exact ih _ _ h
   .rename_i a;rw[gQ a]at h;split
    .rfl
    .rename_i j;rw[gQ j]at h;simp at h
theorem Wy(l:List Nat):∀k n,(dec l k n).2.1<=l.length+k:=by
 induction l with
 | nil=>intro k n;simp[dec]
 | cons g r ih=>
  intro k n;unfold dec;split
  .simp
  .split
   .have:=ih (k+1) (n+g % 128*2^(7*k));simp;omega
   .split
    .simp
    .simp;omega
theorem aqe(a:Nat)(aW:a<2^64):tV .u64 (a:Int) 0=(a:Int):=by
 show aPh.u64.wrap ((BitVec.ofInt 64 (a:Int) ^^^ BitVec.ofInt 64 0).toNat:Int)=_;have e:BitVec.ofInt 64 (0:Int)=BitVec.ofNat 64 0:=rfl;have az:(BitVec.ofNat 64 a ^^^ BitVec.ofNat 64 0).toNat=a:=by
  rw[BitVec.toNat_xor,BitVec.toNat_ofNat,BitVec.toNat_ofNat,aEf,aEg];exact azF aW
 rw[GJ,e,az,aPh.wrap_u64];omega
theorem aqf(a:Nat)(aW:a<2^64):tV .u64 (a:Int) 18446744073709551615=((18446744073709551615-a:Nat):Int):=by
 show aPh.u64.wrap ((BitVec.ofInt 64 (a:Int) ^^^ BitVec.ofInt 64 18446744073709551615).toNat:Int)=_;have e:BitVec.ofInt 64 (18446744073709551615:Int)=BitVec.allOnes 64:=by decide
 have az:(BitVec.ofNat 64 a ^^^ BitVec.allOnes 64).toNat=18446744073709551615-a:=by
  rw[BitVec.xor_allOnes,BitVec.toNat_not,BitVec.toNat_ofNat,azF aW]
 rw[GJ,e,az,aPh.wrap_u64];omega
theorem acD(n:Int)(q:-2^63<=n)(s:n<2^63):tV .u64 (aPh.u64.wrap (aPh.u64.wrap n*2^min (ay4 1) aPh.u64.bits)) (aPh.u64.wrap (n.fdiv (2^min (ay4 63) aPh.i64.bits))) =
  ((if 0<=n then 2*n.toNat else 2*(-n).toNat-1:Nat):Int):=by
 have az:(2:Int)^min (ay4 1) aPh.u64.bits=2:=by decide
 have bd:(2:Int)^min (ay4 63) aPh.i64.bits=9223372036854775808:=by decide
 rw[az,bd];have u:-9223372036854775808<=n:=by simpa using q
 have z:n<9223372036854775808:=by simpa using s
 by_cases m:0<=n
 .have a:n.fdiv 9223372036854775808=0:=by rw[aAL _ (by omega)];omega
  have i:aPh.u64.wrap (aPh.u64.wrap n*2)=((2*n.toNat:Nat):Int):=by rw[aPh.wrap_u64,aPh.wrap_u64];omega
  have j:aPh.u64.wrap 0=0:=by decide
  rw[a,i,j,aqe _ (by omega),gr m]
 .have a:n.fdiv 9223372036854775808=-1:=by rw[aAL _ (by omega)];omega
  have i:aPh.u64.wrap (aPh.u64.wrap n*2)=((2*n+18446744073709551616).toNat:Int):=by rw[aPh.wrap_u64,aPh.wrap_u64];omega
  have j:aPh.u64.wrap (-1)=18446744073709551615:=by decide
  rw[a,i,j,aqf _ (by omega),gQ m];omega
def lg(n:Int):Nat:=if 0<=n then 2*n.toNat else 2*(-n).toNat-1
theorem Dt(n:Int)(a:-2^63<=n)(i:n<2^63):lg n<2^64:=by
 have j:-9223372036854775808<=n:=by simpa using a
 have m:n<9223372036854775808:=by simpa using i
 unfold lg;split<;>omega
theorem ei.ai{h h':I}{p:V}{i:Nat}{s:List Nat}{own:Nat->Prop}(j:ei h p i s)(u:J h h' own)(z:¬own i):ei h' p i s :=
 ⟨j.1,IS j.2.1 u.n,(u.get i j.2.1 z).trans j.2.2⟩
theorem Rb(p:V)(i:Nat)(a:List Nat)(h:I)(j:ei h p i a)(an:∀b∈a,b<256)(aw:a.length<=2^47) :
  au mP 143 [p] h (λr h'=>r=.tuple [.int .u64 ((dec a 0 0).1:Nat),.int gj ((dec a 0 0).2.2:Nat)]/\ei h' p i (a.drop (dec a 0 0).2.1)/\J h h' (·=i)):=by
 refine a7 Tryz.func143 rfl ?_;simp only[ae,ds,reduceCtorEq];refine bE (rest h p i a j) ?_;simp only[ae,ds];refine bE (number a h an aw) ?_;by_cases m:(dec a 0 0).2.2=0
 .have q:((((dec a 0 0).2.2:Nat):Int) !=0)=false:=by simp[m]
  have A:=Wy a 0 0;obtain⟨rfl,hi,u⟩:=j;have z:kX mP 26 (.ag a.length (fN a)) (eL (.int gj ((dec a 0 0).2.1:Nat))) eN eN=eL (.ag (a.drop (dec a 0 0).2.1).length (fN (a.drop (dec a 0 0).2.1))):=by
   rw[aa5 Mn (by omega) (by omega) (by rw[r7];omega)];rw[ayw,axD];unfold fN;rw[aAx,azk]
  simp only[ae,ds,reduceCtorEq,al,xX,q,u,z,aJ];exact ar ⟨by simp[m],⟨rfl,by rw[jM];exact hi,aM⟩,J.set _ _ _⟩
 .have q:((((dec a 0 0).2.2:Nat):Int) !=0)=true:=by simp;omega
  have s:=Wx a 0 0 m;simp only[ae,ds,xX,q,aJ];refine ar ⟨?_,?_,J.refl _ _⟩
  .rw[s];rfl
  .rw[s];simpa using j
theorem acE(n:Int)(h:I)(a:-2^63<=n)(i:n<2^63):Pure mP 103 [.int gj n] h (.int .u64 (lg n:Nat)):=by
 refine a7 Tryz.func103 rfl ?_;simp only[ae,ds,reduceCtorEq,i5 (show(0:Int)<=1 by decide),Ll (show(0:Int)<=63 by decide),mF xV ph,aJ];exact ar ⟨by rw[acD n a i];rfl,rfl⟩
theorem Mx(s:V)(a:List Nat)(n:Int)(h:I)(rd:Rd h s a)(aw:a.length<=2^46)(z:-2^63<=n)(q:n<2^63) :
  Pure mP 62 [s,.int gj n] h (.ag (a++enc (lg n)).length (fN (a++enc (lg n)))):=by
 refine Pure.of (bf.ag (ET _)) (au.mono (R:=λr h'=>Own h' 5 1 r (fN (a++enc (lg n)))/\J h h' kR/\∀k,aS r=eL k->h.n<=k) ?_ λr h' ⟨o,k,d⟩=>?_)
 .refine a7 Tryz.func62 rfl ?_;simp only[ae,ds,reduceCtorEq];refine cp (fresh s a 10 h rd (by omega)) λdb A ⟨az,D,B⟩=>?_;have C:∀k,aS db=eL k->h.n<=k:=λk i=>by subst az;simp[aS]at i;omega
  simp only[ae,ds];refine bE (acE n A z q) ?_;simp only[ae,ds];refine cp (Wu db a (lg n) A D aw (Dt n z q)) λea G ⟨E,u,m⟩=>?_;simp only[ae,ds,aJ];refine ar ⟨E,B.trans u λk i hi=>?_,λk i=>?_⟩
  .have:=C k hi;omega
  .rcases m with m|m
   .exact C k (m▸i)
   .exact UN B.n (m k i)
 .obtain⟨q,c,u⟩:=aK.own o (n:=(a++enc (lg n)).length) (by simp[r7]) (by omega);exact⟨q,c,k.trans u λj H F=>by have:=d j F;omega⟩
theorem Wz:∀(j:List Nat) (k i m a:Nat),(∀b∈j,b<256)->dec j k i=(m,a,0)->k<a/\∃x,m=i+x*2^(7*k)/\j.take (a-k)=enc x/\(0<k->0<x)
 | [],k,i,m,a,_,h=>by simp[dec]at h
 | g::r,k,i,m,a,an,h=>by
  have B:g<256:=an g (by simp);unfold dec at h;split at h
  .simp at h
  .split at h
   .rename_i s;obtain⟨C,x,q,u,z⟩:=Wz r (k+1) _ m a (λb A=>an b (by simp[A])) h;have D:=z (by omega);refine⟨by omega,g % 128+128*x,?_,?_,by omega⟩
    .rw[q,aA9,aAl,ayC,aAr]
     congr 2
     have e:(2:Nat)^(7*1)=128:=(by decide);rw[e,aAI (2^(7*k)) 128,<-aAT,aAI x 128]
    .rw[show a-k=(a-(k+1))+1 by omega,aAS,u,pm (n:=g % 128+128*x) (by omega)]
     congr 1
     .omega
     .congr 1;omega
   .split at h
    .simp at h
    .rename_i E s q;simp only[ay9.injEq,and_true]at h;obtain⟨rfl,rfl⟩:=h;refine⟨by omega,g,?_,?_,by omega⟩
     .rw[azF (by omega)]
     .rw[show k+1-k=1 by omega,J8 (by omega)];rfl
theorem dec_lt:∀(i:List Nat) (k a:Nat),k<=9->a<2^(7*k)->(∀b∈i,b<256)->(dec i k a).1<2^64
 | [],k,a,_,_,_=>by simp[dec]
 | g::r,k,a,m,aW,an=>by
  have q:g<256:=an g (by simp);unfold dec;split
  .simp
  .rename_i s;have j:=NE g k m s q;have u:=acC g a k aW;split
   .rename_i C;by_cases z:k<=8
    .exact dec_lt r (k+1) _ (by omega) u λb A=>an b (by simp[A])
    .exfalso;omega
   .split
    .simp
    .show a+g % 128*2^(7*k)<2^64;have e:(2:Nat)^64=2^(64-7*k)*2^(7*k):=by rw[<-aAl];congr 1;omega
     rw[e]at j⊢;have B:g % 128<2^(64-7*k):=aEd j
     calc a+g % 128*2^(7*k)<2^(7*k)+g % 128*2^(7*k):=by omega
      _=(g % 128+1)*2^(7*k):=by rw[ayC];omega
      _<=_:=ay6 _ B
theorem BL:∀(m n:Nat),n<=m->∀b∈enc n,b<256
 | m,n,h,b,an=>by
  by_cases a:n<128
  .rw[J8 a]at an;simp at an;omega
  .rw[pm a]at an;rcases IN.1 an with rfl|an
   .omega
   .cases m with
    | zero=>omega
    | succ m=>exact BL m (n / 128) (by omega) b an
theorem acG(r:List Nat):∀(m x k a:Nat),x<=m->k<=9->x*2^(7*k)<2^64->(0<k->0<x)->dec (enc x++r) k a=(a+x*2^(7*k),k+(enc x).length,0)
 | m,x,k,a,D,E,s,u=>by
  by_cases i:x<128
  .rw[J8 i,aza,dec,gQ,gQ (by omega),gQ,azF i]
   .rfl
   .intro U;have:=u U.2;omega
   .rintro⟨rfl,z⟩
    have A:2*2^(7*9)<=x*2^(7*9):=ay6 _ z;have B:2*2^(7*9)=2^64:=by decide
    omega
  .have C:k<=8:=by
    rcases aAi k 9 with h|h
    .omega
    .have j:k=9:=(by omega);subst j;have A:128*2^(7*9)<=x*2^(7*9):=ay6 _ (by omega);have B:2^64<=128*2^(7*9):=(by decide);omega
   have q:2^(7*(k+1))=128*2^(7*k):=(by rw[aA9,aAl,aAI]);rw[pm i,aza,dec,gQ (by omega),gr (by omega)];cases m with
   | zero=>omega
   | succ m=>
    rw[acG r m (x / 128) (k+1) _ (by omega) (by omega) (by
     rw[q,<-aAT];exact aDe (ay6 _ (Nat.div_mul_le_self x 128)) s) (by omega)]
    simp only[ay9.injEq,axF,and_true];refine⟨?_,by omega⟩;rw[q];have az:(x % 128+128) % 128=x % 128:=by omega
    rw[az,<-aAT,aAr,<-ayC,aAI (x / 128) 128,Nat.mod_add_div]
theorem BM(x:Nat)(a:x<2^64)(r:List Nat):dec (enc x++r) 0 0=(x,(enc x).length,0):=by
 rw[acG r x x 0 0 (BY _) (by omega) (by simpa using a) (by omega)];simp
theorem aqg{l:List Int}{k:Nat}(a:k<l.length):(ax l).drop (k*1)=.int gj l[k]::ax (l.drop (k+1)):=by
 rw[axD];unfold ax;rw[<-aAx,ay0 a];rfl
theorem My{l:List Int}{k:Nat}(a:k<l.length){t:aPg}(i:dU mP t=eL 1):hC mP t (.ag l.length (ax l)) (.int gj (k:Int))=eL (.at (.int gj l[k]::ax (l.drop (k+1)))):=by
 rw[JW i (by omega) (by omega) (by rw[ht];omega),ayw,aqg a]
theorem Mz{n:Nat}(h:n<2^64):aPh.u64.wrap (n:Int)=(n:Int):=by rw[aPh.wrap_u64];omega
def BN(x:List Nat):List Nat:=enc x.length++x
def Ak(l:List Int):List Nat:=enc l.length++l.flatMap λn=>enc (lg n)
theorem acI(s:V)(a:List Nat)(m:Nat)(h:I)(rd:Rd h s a)(aw:a.length+m<=2^47) :
  au mP 102 [s,.int gj m] h (λr h'=>Acc h h' 5 1 r (fN a)) :=
 (fresh s a m h rd aw).mono λr h' ⟨e,o,k⟩=>⟨o,k,λj i=>by subst e;simp[aS]at i;omega⟩
theorem ul{j:I}(s:V)(i:List Nat)(n:Nat)(h:I)(a:Acc j h 5 1 s (fN i))(aw:i.length<=2^46)(m:n<2^64) :
  au mP 101 [s,.int .u64 n] h (λr h'=>Acc j h' 5 1 r (fN (i++enc n))) :=
 (Wu s i n h a.own aw m).mono λr h' ⟨o,k,d⟩=>a.step o k d
theorem acJ{α β:Type}(l:List α)(f:α->List β){i:Nat}(a:i<l.length):(l.take (i+1)).flatMap f=(l.take i).flatMap f++f l[i]:=by
 rw[ayY a,ay3];simp
theorem acK{l:List Int}(a:∀n∈l,-2^63<=n/\n<2^63):(l.flatMap λn=>enc (lg n)).length<=10*l.length:=by
 induction l with
 | nil=>simp
 | cons n l ih=>
  have m:=ih λn j=>a n (by simp[j]);have i:=a n (by simp);have:=(r8 (lg n) (Dt n i.1 i.2)).2;simp only[ayW,D9,axF];omega
def hh(n:Nat):Int:=if n % 2=0 then((n / 2:Nat):Int)else -((n / 2:Nat):Int)-1
theorem aqh(n:Nat)(a:n<2^64):Dc .u64 (n:Int) 1=((n % 2:Nat):Int):=by
 show aPh.u64.wrap ((BitVec.ofInt 64 (n:Int) &&& BitVec.ofInt 64 1).toNat:Int)=_;have e:BitVec.ofInt 64 (1:Int)=BitVec.ofNat 64 1:=rfl;have az:(BitVec.ofNat 64 n &&& BitVec.ofNat 64 1).toNat=n % 2:=by
  rw[BitVec.toNat_and,BitVec.toNat_ofNat,BitVec.toNat_ofNat,azF a,azF (by decide),Nat.and_one_is_mod]
 rw[GJ,e,az,aPh.wrap_u64];omega
theorem aqi(a:Nat)(aW:a<2^63):tV gj (a:Int) 0=(a:Int):=by
 show aPh.i64.wrap ((BitVec.ofInt 64 (a:Int) ^^^ BitVec.ofInt 64 0).toNat:Int)=_;have e:BitVec.ofInt 64 (0:Int)=BitVec.ofNat 64 0:=rfl;have az:(BitVec.ofNat 64 a ^^^ BitVec.ofNat 64 0).toNat=a:=by
  rw[BitVec.toNat_xor,BitVec.toNat_ofNat,BitVec.toNat_ofNat,aEf,aEg];exact azF (by omega)
 rw[GJ,e,az,aPh.wrap_i64];omega
theorem aqj(a:Nat)(aW:a<2^63):tV gj (a:Int) (-1)=-(a:Int)-1:=by
 show aPh.i64.wrap ((BitVec.ofInt 64 (a:Int) ^^^ BitVec.ofInt 64 (-1)).toNat:Int)=_;have e:BitVec.ofInt 64 (-1:Int)=BitVec.allOnes 64:=by decide
 have az:(BitVec.ofNat 64 a ^^^ BitVec.allOnes 64).toNat=18446744073709551615-a:=by
  rw[BitVec.xor_allOnes,BitVec.toNat_not,BitVec.toNat_ofNat,azF (by omega)]
 rw[GJ,e,az,aPh.wrap_i64];omega
theorem aqk(n:Nat)(a:n<2^64):tV gj (aPh.i64.wrap ((n:Int).fdiv (2^min (ay4 1) aPh.u64.bits))) (aPh.i64.wrap (0-aPh.i64.wrap (Dc .u64 (n:Int) 1)))=hh n:=by
 have az:(2:Int)^min (ay4 1) aPh.u64.bits=2:=by decide
 have bd:aPh.i64.wrap ((n:Int).fdiv 2)=((n / 2:Nat):Int):=by
  rw[aAL _ (by omega),kp _ (by omega)];omega
 rw[az,bd,aqh n a,kp ((n % 2:Nat):Int) (by omega),kp _ (by omega)];unfold hh;by_cases h:n % 2=0
 .rw[gr h,h];exact aqi _ (by omega)
 .have i:n % 2=1:=by omega
  rw[gQ h,i];exact aqj _ (by omega)
theorem acL(n:Nat)(a:n<2^64):-2^63<=hh n/\hh n<2^63:=by
 unfold hh;split<;>omega
theorem aql(n:Nat)(h:I)(a:n<2^64):Pure mP 170 [.int .u64 n] h (.int gj (hh n)):=by
 refine a7 Tryz.func170 rfl ?_;simp only[ae,ds,reduceCtorEq,Ll (show(0:Int)<=1 by decide),mF ph xV,aJ];exact ar ⟨by rw[aqk n a],rfl⟩
theorem GK(p:V)(i:Nat)(a:List Nat)(h:I)(s:ei h p i a)(an:∀b∈a,b<256)(aw:a.length<=2^47) :
  au mP 145 [p] h (λr h'=>r=.tuple [.int gj (hh (dec a 0 0).1),.int gj ((dec a 0 0).2.2:Nat)]/\ei h' p i (a.drop (dec a 0 0).2.1)/\J h h' (·=i)):=by
 refine a7 Tryz.func145 rfl ?_;simp only[ae,ds,reduceCtorEq];refine cp (Rb p i a h s an aw) λr u ⟨az,db,q⟩=>?_;subst az;have z:=dec_lt a 0 0 (by omega) (by decide) an;by_cases j:(dec a 0 0).2.2=0
 .have m:((((dec a 0 0).2.2:Nat):Int) !=0)=false:=by simp[j]
  simp only[ae,ds,m];refine bE (aql _ u z) ?_;simp only[ae,ds,aJ];exact ar ⟨by rw[j];rfl,db,q⟩
 .have m:((((dec a 0 0).2.2:Nat):Int) !=0)=true:=by simp;omega
  have A:=Wx a 0 0 j;simp only[ae,ds,m,aJ];refine ar ⟨?_,db,q⟩;rw[A];have:hh 0=0:=by decide
  simp only[this]
def jb(a:List Nat):List Nat×List Nat×Nat :=
 if(dec a 0 0).2.2≠0 then([],a,(dec a 0 0).2.2)
 else if(a.drop (dec a 0 0).2.1).length<(dec a 0 0).1 then([],a,4)
 else((a.drop (dec a 0 0).2.1).take (dec a 0 0).1,(a.drop (dec a 0 0).2.1).drop (dec a 0 0).1,0)
theorem acM(l:List Nat)(k:Nat)(i:k<=l.length){a:aPh}:kX mP 26 (.ag l.length (fN l)) (eL (.int a (k:Nat))) eN eN=eL (.ag (l.drop k).length (fN (l.drop k))):=by
 rw[aa5 Mn (by omega) (by omega) (by rw[r7];omega)];rw[ayw,axD];unfold fN;rw[aAx,azk]
theorem aqm(l:List Nat)(k:Nat)(a:k<=l.length){i:aPh}:kX mP 26 (.ag l.length (fN l)) eN (eL (.int i (k:Nat))) eN=eL (.ag (l.take k).length (fN (l.take k))):=by
 rw[anW Mn (by omega) (by omega) (by rw[r7];omega)];rw[ayw,axD,ajB,azb a];unfold fN;rw[List.map_take]
theorem y9(h:I)(l:List V):aK (.tuple (.ah::l)) h (.tuple (.ag 0 []::l)) h:=fun ρ B u w z m q=>by
 cases q with
 | tuple s i=>
  refine⟨ρ,Ren.le.refl ρ,m,.tuple s λk v j a b=>?_⟩
  match k with
  | 0=>
   simp at a;subst a;have:=i 0 .ah j rfl b;cases this;exact .kC _ _ (by simp)
  | k+1=>exact i (k+1) v j (by simpa using a) b
theorem WA(n:Int):hh (lg n)=n:=by
 unfold hh lg;by_cases h:0<=n
 .rw[gr h,gr (by omega)];omega
 .rw[gQ h,gQ (by omega)];omega
def sH:Nat->List Nat->List Int->List Int×List Nat×Nat
 | 0,rest,a=>(a,rest,0)
 | k+1,rest,a=>
  if(dec rest 0 0).2.2≠0 then([],[],(dec rest 0 0).2.2)
  else if hh (dec rest 0 0).1 < -2147483648\/2147483647<hh (dec rest 0 0).1 then([],[],2)
  else sH k (rest.drop (dec rest 0 0).2.1) (a++[hh (dec rest 0 0).1])
def kF(a:List Nat)(i:Int):List Int×List Nat×Nat :=
 if(dec a 0 0).2.2≠0 then([],a,(dec a 0 0).2.2)
 else if i<0\/i<((dec a 0 0).1:Nat)then([],a,2)
 else if(sH (dec a 0 0).1 (a.drop (dec a 0 0).2.1) []).2.2≠0 then([],a,(sH (dec a 0 0).1 (a.drop (dec a 0 0).2.1) []).2.2)
 else sH (dec a 0 0).1 (a.drop (dec a 0 0).2.1) []
theorem acN{rest:List Nat}(an:∀b∈rest,b<256)(h:(dec rest 0 0).2.2=0):1<=(dec rest 0 0).2.1/\(dec rest 0 0).2.1<=rest.length:=by
 have a:=(Wz rest 0 0 (dec rest 0 0).1 (dec rest 0 0).2.1 an (by
  have q:dec rest 0 0=((dec rest 0 0).1,(dec rest 0 0).2.1,(dec rest 0 0).2.2):=rfl;rw[h]at q;exact q)).1
 have i:=Wy rest 0 0;omega
theorem aqn(h:I)(a:Int):am mP 46 1 [(0,.int gj a)] h=eL (.bh h.n 0 1 1,h.push (.cells [.int gj a] 3 eN)):=by rw[nm pR];rfl
theorem acO{P:Nat->Prop}{l:List Nat}(h:∀b∈l,P b)(k:Nat):∀b∈l.drop k,P b:=λb an=>h b (azT an)
theorem aqo(x r:List Nat)(a:x.length<2^64):jb (BN x++r)=(x,r,0):=by
 unfold jb BN;rw[axC,BM _ a];simp
theorem acP(r:List Nat):∀(l a:List Int),(∀n∈l,-2147483648<=n/\n<=2147483647)->sH l.length ((l.flatMap λn=>enc (lg n))++r) a=(a++l,r,0)
 | [],a,_=>by simp[sH]
 | n::l,a,h=>by
  have q:=h n (by simp);have i:lg n<2^64:=by unfold lg;split<;>omega
  rw[axF,sH,ayW,axC,BM _ i];simp only[WA];rw[gQ (by simp),gQ (by omega),aAm,acP r l (a++[n]) λm j=>h m (by simp[j])];simp
mutual
def dj:cd->List Nat
 | .mk o n l=>enc o.toNat++(if o=1 then enc (lg n)else [])++EU l
def EU:List cd->List Nat
 | []=>[]
 | k::r=>dj k++EU r
end
theorem acQ:∀l:List cd,EU l=l.flatMap dj
 | []=>by rw[EU];rfl
 | k::r=>by rw[EU,acQ r];rfl
theorem J9(o n:Int)(l:List cd):dj (.mk o n l)=enc o.toNat++(if o=1 then enc (lg n)else [])++l.flatMap dj:=by rw[dj,acQ]
theorem ut:∀a b:List cd,fH (a++b)=fH a+fH b
 | [],b=>by rw[aze,fH];omega
 | k::a,b=>by rw[aza,fH,fH,ut a b];omega
theorem acR{l:List cd}{i:Nat}(a:i<l.length):fH (l.take i)+fs l[i]<=fH l:=by
 have m:=acw a;have j:=ut (l.take (i+1)) (l.drop (i+1));rw[azL]at j;omega
theorem Re:∀l:List cd,(∀k∈l,(dj k).length<=20*fs k)->(l.flatMap dj).length<=20*fH l
 | [],_=>D8 _
 | k::r,h=>by
  have i:=h k (by simp);have j:=Re r λx a=>h x (by simp[a]);rw[ayW,D9,fH];omega
theorem WB:∀(s:Nat) (e:cd),fs e=s->ik e->(dj e).length<=20*fs e:=by
 intro s
 induction s using Nat.strongRecOn with
 | _ s ih=>
 intro e m i;have a:∀k∈e.aQ,(dj k).length<=20*fs k:=λk a=>ih (fs k) (by have:=Wp k a;omega) k rfl (i.ES k a);cases i with
 | mk o n l q U u j=>
  have z:=r8 o.toNat (by omega);have A:=r8 (lg n) (Dt n j.1 j.2);have B:=Re l a;rw[J9,D9,D9,fs];split
  .omega
  .simp only[ayx];omega
theorem fd(e:cd):(kB (aN e)).cells=eL (aN e):=rfl
theorem EV(e:cd):bD (eL 3) (aP.cells [kA gj 0,kA gj 0,V.ah] 66 eN) 0 (aN e)=eL (.cells (aN e) 66 eN):=by cases e;rfl
theorem Ka(e:cd):(if 3<=(aN e).length then eL (kB (ay5 3 (aN e)))else eN)=eL (.agg (aN e)):=by cases e;rfl
theorem aqp(o n:Int)(a:List cd):cI (aP.cells (aN (.mk o n a)) 66 eN) 0=eL [.int gj o,.int gj n,.ag a.length (a.flatMap aN)]:=by rw[l0];rfl
theorem aqq(o n:Int)(a:List cd):cI (aP.cells (aN (.mk o n a)) 66 eN) 1=eL [.int gj n,.ag a.length (a.flatMap aN)]:=by rw[l0];rfl
theorem aqr(o n:Int)(a:List cd):cI (aP.cells (aN (.mk o n a)) 66 eN) 2=eL [.ag a.length (a.flatMap aN)]:=by rw[l0];rfl
theorem WC(A:cd)(q:List V):cw (eL (eL 3)) (eL (aN A++q))=eL (.agg (aN A)):=j1 (r5 A)
theorem WD:∀(d:Nat) (e:cd) (h:I) (x:V) (s:List Nat),wU d e->ik e->Rd h x s->s.length+20*fs e<=2^40->Pure mP 105 [x,.agg (aN e)] h (.ag (s++dj e).length (fN (s++dj e)))
 | 0,e,h,x,s,T,_,_,_=>T.zero.elim
 | d+1,e,h,x,s,T,W,rd,an=>by
  obtain⟨aA,X⟩:=T.fits;have Q:=W.ES;have Y:∀k∈e.aQ,(dj k).length<=20*fs k:=λk G=>WB _ k rfl (Q k G);obtain⟨o,n,a⟩:=e;obtain⟨_,oh,k4⟩:=Wn aA;have R:-2^63<=n/\n<2^63:=by cases W;assumption
  have L:=W.len;simp only[cd.aQ]at X Q L Y;obtain⟨k,rfl⟩:∃k:Nat,o=k:=⟨o.toNat,by omega⟩;have bP:=r8 (lg n) (Dt n R.1 R.2);have aa:=r8 k (by omega);rw[fs]at an;refine Pure.val (bf.ag (ET _)) ?_;obtain⟨u,S⟩:∃m,m=s++enc k++(if(k:Int)=1 then enc (lg n)else []):=⟨_,rfl⟩;have mJ:s++dj (.mk k n a)=u++a.flatMap dj:=by rw[S,J9];simp
  have gB:u.length<=s.length+20:=by
   rw[S,D9,D9];split
   .omega
   .simp only[ayx];omega
  rw[mJ];refine a7 Tryz.func105 rfl ?_;have aw:=fd (.mk k n a);have Z:=aqp k n a;have hj:=aqq k n a;have kT:=aqr k n a;have xZ:aPh.u64.wrap (k:Int)=(k:Int):=VD (by omega);obtain⟨H,hH,bl,j2,_⟩:=bU h (.cells (aN (.mk k n a)) 66 eN);simp only[ae,ds,reduceCtorEq,al,aw,Z,mF hP ph,xZ];rw[<-hH];clear hH;refine bE (Ra x s k H (rd.ai bl) (by omega) (by omega)) ?_;by_cases F:(k:Int)=1
  .have ba:((k:Int)==1)=true:=(by simpa using F);have m1:s++enc k++enc (lg n)=u:=(by rw[S,gr F]);simp only[ae,ds,reduceCtorEq,al,j2,Z,hj,ba];refine bE (Mx _ (s++enc k) n H (Rd.ag _ _) (by rw[D9];omega) R.1 R.2) ?_;rw[m1];simp only[ae,ds,reduceCtorEq,al,Ae,j2,kT];refine aT.bG (α:=Nat) (λi f h'=>f 0=.ag (u++(a.take i).flatMap dj).length (fN (u++(a.take i).flatMap dj))/\f 20=.ag a.length (a.flatMap aN)/\f 21=.int gj (a.length:Int)/\f 22=.int gj (i:Nat)/\i<=a.length/\J h h' kR) (λi=>a.length-i) 0
    ⟨(show V.ag _ _=_ by simp),rfl,rfl,rfl,D8 _,bl⟩ ?_
   rintro i f F ⟨C,z,j,q,hi,M⟩
   refine wpS ?_;by_cases B:i<a.length
   .have D:=dK i a.length;have hw:=iM i;have N:=Mr (kk:=.i64) B;have bq:=acR B;have lN:=Re (a.take i) λk G=>Y k (aAM G);have O:(a.take (i+1)).flatMap dj=(a.take i).flatMap dj++dj a[i]:=by rw[ayY B,ay3];simp
    have E:a[i]∈a:=ayz B;generalize a[i]=A at N bq O E;have MA:=X A E;have o1:=Q A E;have iO:=WC A;have tz:=fd A;have st:=EV A;have il:=Ka A;have dT:(u++(a.take i).flatMap dj).length=u.length+((a.take i).flatMap dj).length:=D9;simp only[ae,ds,reduceCtorEq,al,C,z,j,q,D,N,iO,tz,st,il];refine bE (WD d A _ _ _ MA o1 (Rd.ag _ _) (by omega)) ?_;rw[axC,<-O];simp only[ae,ds,reduceCtorEq,q,hw];exact ar ⟨i+1,⟨rfl,z,j,rfl,B,M.bp _⟩,by omega⟩
   .have D:=dY i a.length;rw[ajE (by omega)]at C;simp only[ae,ds,reduceCtorEq,C,j,q,D,aJ];exact ar ⟨rfl,M⟩
  .have ba:((k:Int)==1)=false:=(by simpa using F);have m1:s++enc k=u:=(by rw[S,gQ F,axA]);rw[m1];simp only[ae,ds,reduceCtorEq,al,Ae,j2,Z,kT,ba];refine aT.bG (α:=Nat) (λi f h'=>f 0=.ag (u++(a.take i).flatMap dj).length (fN (u++(a.take i).flatMap dj))/\f 20=.ag a.length (a.flatMap aN)/\f 21=.int gj (a.length:Int)/\f 22=.int gj (i:Nat)/\i<=a.length/\J h h' kR) (λi=>a.length-i) 0
    ⟨(show V.ag _ _=_ by simp),rfl,rfl,rfl,D8 _,bl⟩ ?_
   rintro i f F ⟨C,z,j,q,hi,M⟩
   refine wpS ?_;by_cases B:i<a.length
   .have D:=dK i a.length;have hw:=iM i;have N:=Mr (kk:=.i64) B;have bq:=acR B;have lN:=Re (a.take i) λk G=>Y k (aAM G);have O:(a.take (i+1)).flatMap dj=(a.take i).flatMap dj++dj a[i]:=by rw[ayY B,ay3];simp
    have E:a[i]∈a:=ayz B;generalize a[i]=A at N bq O E;have MA:=X A E;have o1:=Q A E;have iO:=WC A;have tz:=fd A;have st:=EV A;have il:=Ka A;have dT:(u++(a.take i).flatMap dj).length=u.length+((a.take i).flatMap dj).length:=D9;simp only[ae,ds,reduceCtorEq,al,C,z,j,q,D,N,iO,tz,st,il];refine bE (WD d A _ _ _ MA o1 (Rd.ag _ _) (by omega)) ?_;rw[axC,<-O];simp only[ae,ds,reduceCtorEq,q,hw];exact ar ⟨i+1,⟨rfl,z,j,rfl,B,M.bp _⟩,by omega⟩
   .have D:=dY i a.length;rw[ajE (by omega)]at C;simp only[ae,ds,reduceCtorEq,C,j,q,D,aJ];exact ar ⟨rfl,M⟩
theorem aqs{e:cd}(a:dB e=e6):wU 16 e:=by
 unfold dB at a;cases aw:iN 16 64 e with
 | none=>rw[aw]at a;cases a
 | some c=>exact⟨64,c,aw⟩
def kG(e:cd):List Nat:=if dB e=e6 then dj e else []
def uo(e:cd):V:=.tuple [.ag (kG e).length (fN (kG e)),.int gj (if dB e=e6 then 0 else 1)]
theorem aqt(e:cd):bf (uo e):=bf.tuple (bc.cons (bf.ag (ET _)) (bc.cons (bf.int _ _) bc.nil))
theorem WE{e:cd}(h:dB e=e6):fs e<=64:=by
 unfold dB at h;rw[Q9]at h;split at h
 .rename_i U;exact U.2
 .cases h
theorem WG(e:cd)(q:ik e)(h:I)(s:h4 h):Pure mP 63 [.agg (aN e)] h (uo e):=by
 refine Pure.of (aqt e) ?_;refine a7 Tryz.func63 rfl ?_;have aw:=fd e;have z:=Ka e;have i:cI (aP.cells (aN e) 66 eN) 0=eL (aN e):=by cases e;rfl
 have j:cw (eL (eL 3)) (eL (aN e))=eL (.agg (aN e)):=by cases e;rfl
 have u:∀a,h4 (h.push a):=λa=>by unfold h4;rw[Gp];exact s
 simp only[ae,ds,al,aw,i,j];refine bE (GG e _ (u _)) ?_;unfold uo kG;cases m:dB e
 .simp only[ae,ds,aJ];exact ar ⟨_,aK.tuple (aE.cons (aK.lI _) (aE.refl _ _)),J.push _ _ _⟩
 .have bq:=WE m;simp only[ae,ds,al,i,j];refine bE (WD 16 e _ .ah [] (aqs m) q (Rd.ah _) (by simp only[ayx];omega)) ?_;simp only[ae,ds,aJ];exact ar ⟨_,aK.refl _ _,J.push _ _ _⟩
abbrev Kb:=Except Nat (cd×List Nat×Nat)
def d8(f:Nat->List Nat->Kb):Nat->Nat->List Nat->Except Nat (List cd×List Nat×Nat)
 | 0,left,a=>.ok ([],a,left)
 | m+1,left,a=>match f left a with
  | .error e=>.error e
  | .ok (k,i,j)=>match d8 f m j i with
   | .error e=>.error e
   | .ok (q,r)=>.ok (k::q,r)
def ew:Nat->Nat->List Nat->Kb
 | 0,_,_=>.error 11
 | d+1,left,a=>
  if left=0 then .error 11
  else if(dec a 0 0).2.2≠0 then .error (dec a 0 0).2.2
  else if(dec a 0 0).1<1\/16<(dec a 0 0).1 then .error 5
  else if(dec a 0 0).1=1 then
   if(dec (a.drop (dec a 0 0).2.1) 0 0).2.2≠0 then .error (dec (a.drop (dec a 0 0).2.1) 0 0).2.2
   else .ok (.mk 1 (hh (dec (a.drop (dec a 0 0).2.1) 0 0).1) [],(a.drop (dec a 0 0).2.1).drop (dec (a.drop (dec a 0 0).2.1) 0 0).2.1,left-1)
  else match d8 (ew d) (Ah (dec a 0 0).1).toNat (left-1) (a.drop (dec a 0 0).2.1)with
   | .error e=>.error e
   | .ok (i,r)=>.ok (.mk (dec a 0 0).1 0 i,r)
theorem WH(n:Nat)(a:n<2^64):lg (hh n)=n:=by
 unfold lg hh;split<;>split<;>omega
theorem Am{a:List Nat}(an:∀b∈a,b<256)(h:(dec a 0 0).2.2=0):a=enc (dec a 0 0).1++a.drop (dec a 0 0).2.1/\(dec a 0 0).1<2^64:=by
 refine⟨?_,dec_lt a 0 0 (by omega) (by decide) an⟩;obtain⟨q,x,j,i,_⟩:=Wz a 0 0 (dec a 0 0).1 (dec a 0 0).2.1 an (aAz rfl (aAz rfl h));have m:x=(dec a 0 0).1:=by rw[j];simp
 rw[m,aA2]at i;rw[<-i,azL]
structure Th(d left:Nat)(av:List Nat)(e:cd)(iQ:List Nat)(js:Nat):Prop where
 wW:av=dj e++iQ
 sz:js+fs e=left
 deep:tw d e=e6
 ok:ik e
theorem acS{d:Nat}{f:Nat->List Nat->Kb}(A:∀left a,(∀b∈a,b<256)->∀e j q,f left a=.ok (e,j,q)->Th d left a e j q) :
  ∀(m left:Nat) (a:List Nat),(∀b∈a,b<256)->∀i j q,d8 f m left a=.ok (i,j,q)->i.length=m/\a=i.flatMap dj++j/\q+fH i=left/\(∀k∈i,tw d k=e6)/\∀k∈i,ik k
 | 0,left,a,an,i,j,q,h=>by
  simp only[d8,Except.ok.injEq,ay9.injEq]at h;obtain⟨rfl,rfl,rfl⟩:=h;exact⟨rfl,rfl,by simp[fH],by simp,by simp⟩
 | m+1,left,a,an,i,j,q,h=>by
  unfold d8 at h;split at h
  .cases h
  .rename_i k u B C;have g:=A left a an k u B C;have D:∀b∈u,b<256:=λb E=>an b (by rw[g.wW];simp[E]);split at h
   .cases h
   .rename_i z r F;obtain⟨G,H⟩:=r;simp only[Except.ok.injEq,ay9.injEq]at h;obtain⟨rfl,rfl,rfl⟩:=h;obtain⟨L,M,Q,N,O⟩:=acS A m B u D z G H F;refine⟨by simp[L],?_,?_,?_,?_⟩
    .rw[g.wW,M];simp
    .rw[fH];have:=g.sz;omega
    .intro x s;rcases IN.1 s with rfl|s
     .exact g.deep
     .exact N x s
    .intro x s;rcases IN.1 s with rfl|s
     .exact g.ok
     .exact O x s
theorem Rf(o:Int):0<=Ah o/\Ah o<=3:=by unfold Ah;split<;>(try split)<;>(try split)<;>omega
theorem Rg:∀(d left:Nat) (a:List Nat),(∀b∈a,b<256)->∀e i j,ew d left a=.ok (e,i,j)->Th d left a e i j
 | 0,left,a,an,e,i,j,h=>by simp[ew]at h
 | d+1,left,a,an,e,i,j,h=>by
  unfold ew at h;split at h
  .cases h
  rename_i S;split at h
  .cases h
  rename_i A;split at h
  .cases h
  rename_i T;obtain⟨m,W⟩:=Am an (by simpa using A);have q:∀b∈a.drop (dec a 0 0).2.1,b<256:=λb B=>an b (azT B);generalize(dec a 0 0).1=o at *;generalize a.drop (dec a 0 0).2.1=X at *;split at h
  .rename_i s;split at h
   .cases h
   rename_i C;obtain⟨D,u⟩:=Am q (by simpa using C);simp only[Except.ok.injEq,ay9.injEq]at h;obtain⟨rfl,rfl,rfl⟩:=h;have E:=acL _ u;refine⟨?_,by simp only[fs,fH];omega,?_,.mk _ _ _ (by simp) (by simp) (by omega) E⟩
   .rw[J9,gr rfl,WH _ u]
    conv=>lhs;rw[m,D,s]
    simp
   .simp[tw,oe,ee,cd.aQ]
  .rename_i s;split at h
   .cases h
   rename_i z r F;obtain⟨G,H⟩:=r;simp only[Except.ok.injEq,ay9.injEq]at h;obtain⟨rfl,rfl,rfl⟩:=h;obtain⟨Y,L,Z,M,N⟩:=acS (Rg d) _ _ _ q z G H F;have O:=Rf (o:Int);have Q:=Wq (o:=(o:Int)) (by omega) (by omega);refine⟨?_,by rw[fs];omega,?_,.mk _ _ _ (by omega) N (by omega) (by omega)⟩
   .rw[J9,gQ (by omega)]
    conv=>lhs;rw[m,L]
    simp
   .have R:oe (.mk (o:Int) 0 z)=true:=by
     simp only[oe,are,azG,ig];exact⟨⟨by omega,by omega⟩,by rw[Q];omega,by simp⟩
    rw[tw,R,azr,ayy];exact M
theorem acU{d:Nat}{f:Nat->List Nat->Kb}(r:List Nat):∀(a:List cd) (left:Nat),(∀k∈a,∀left r,fs k<=left->f left (dj k++r)=.ok (k,r,left-fs k))->fH a<=left->d8 f a.length left (a.flatMap dj++r)=.ok (a,r,left-fH a)
 | [],left,_,_=>by simp[d8,fH]
 | k::a,left,i,j=>by
  rw[fH]at j;rw[axF,d8,ayW,axC,i k (by simp) left _ (by omega)];simp only;rw[acU (d:=d) r a (left-fs k) (λx m=>i x (by simp[m])) (by omega)];simp only[fH,aEh]
theorem acV:∀(d left:Nat) (e:cd) (r:List Nat),tw d e=e6->ik e->fs e<=left->ew d left (dj e++r)=.ok (e,r,left-fs e)
 | 0,left,e,r,i,_,_=>by simp[tw]at i
 | d+1,left,e,r,i,m,D=>by
  have q:=m.ES;rw[tw,are,ayy]at i;obtain⟨s,u⟩:=i;obtain⟨o,n,a⟩:=e;obtain⟨z,L,M⟩:=Wn s;have A:-2^63<=n/\n<2^63:=by cases m;assumption
  obtain⟨o,rfl⟩:∃k:Nat,o=k:=⟨o.toNat,by omega⟩;have E:=Wq (o:=(o:Int)) (by omega) (by omega);simp only[cd.aQ]at u q;rw[fs]at D⊢;have N:n=0\/o=1:=by
   simp only[oe,are,azG,ig]at s;omega
  rw[J9,ayw];unfold ew;rw[gQ (by omega)];by_cases B:o=1
  .subst B;have F:a=[]:=by
    have:ee.getD (((1:Nat):Int)).toNat 0=0:=by decide
    rw[this]at z;exact azo (by omega)
   subst F;have az:enc 1++(if(((1:Nat):Int))=1 then enc (lg n)else [])++([]:List cd).flatMap dj++r=enc 1++(enc (lg n)++r):=by simp
   rw[az,BM 1 (by decide)];simp only[aAm,ne_eq,not_true,iC];rw[gQ (by omega),BM (lg n) (Dt n A.1 A.2)];simp[WA,fH]
  .have G:n=0:=(by omega);subst G;have az:enc o++(if(o:Int)=1 then enc (lg 0)else [])++a.flatMap dj++r=enc o++(a.flatMap dj++r):=by rw[gQ (by omega)];simp
   rw[az,BM o (by omega)];simp only[aAm,ne_eq,not_true,iC];rw[gQ (by omega),gQ B];have H:(Ah (o:Int)).toNat=a.length:=(by rw[<-E,<-z];simp);rw[H,acU (d:=d) r a (left-1) (λk C left r j=>acV d left k r (u k C) (q k C) j) (by omega)];simp only[aEh];rw[aAC]
theorem acW{f:Nat->List Nat->Kb}(i:∀l b c,f l b=.error c->c≠0):∀(m l:Nat) (b:List Nat) (c:Nat),d8 f m l b=.error c->c≠0
 | 0,l,b,c,h=>by simp[d8]at h
 | m+1,l,b,c,h=>by
  unfold d8 at h;split at h
  .rename_i e a;cases h;exact i _ _ _ a
  .split at h
   .rename_i e a;cases h;exact acW i _ _ _ _ a
   .cases h
theorem MB:∀(d l:Nat) (b:List Nat) (c:Nat),ew d l b=.error c->c≠0
 | 0,l,b,c,h=>by simp[ew]at h;omega
 | d+1,l,b,c,h=>by
  unfold ew at h;split at h
  .cases h;omega
  split at h
  .cases h;assumption
  split at h
  .cases h;omega
  split at h
  .split at h
   .cases h;assumption
   .cases h
  .split at h
   .rename_i e a;cases h;exact acW (MB d) _ _ _ _ a
   .cases h
def gx(h:I)(i a:Nat)(j:List Nat)(begun:Nat):Prop:=i<h.n/\h.get i=.cells [.ptr a 0,.int gj (begun:Nat)] 266 eN/\ei h (.ptr a 0) a j/\i≠a
theorem gx.ai{h h':I}{i j:Nat}{av:List Nat}{begun:Nat}{own:Nat->Prop}(w:gx h i j av begun)(k:J h h' own)(s:¬own i)(u:¬own j):gx h' i j av begun :=
 ⟨IS w.1 k.n,(k.get i w.1 s).trans w.2.1,ei.ai w.2.2.1 k u,w.2.2.2⟩
def pn(a i:Nat):Nat->Prop:=λq=>q=a\/q=i
def vQ:Kb->V
 | .error c=>.tuple [.agg (aN (.mk 0 0 [])),.int gj (c:Nat)]
 | .ok (e,_,_)=>.tuple [.agg (aN e),.int gj 0]
theorem rn(h:I)(c:Nat):aK (.tuple [.agg [.int gj 0,.int gj 0,.ah],.int gj (c:Nat)]) h (.tuple [.agg (aN (.mk 0 0 [])),.int gj (c:Nat)]) h:=aK.tuple (aE.cons (ap7 0 0 h) (aE.refl _ _))
theorem acX(h:I)(e:cd):am mP 64 1 [(0,.agg (aN e))] h=eL (.bh h.n 0 1 1,h.push (.cells (aN e) 66 eN)):=by cases e;rw[nm Wh];rfl
theorem acY{h:I}{s:V}{j:List cd}(o:Own h 66 3 s (j.flatMap aN))(G:j.length<=2^40)(c:cd) :
  ∃a h',kd mP 64 64 s (.bh h.n 0 1 1) (h.push (.cells (aN c) 66 eN))=eL (a,h')/\Own h' 66 3 a ((j++[c]).flatMap aN)/\J h h' (bb s)/\b6 h s a:=by
 have u:J h (h.push (.cells (aN c) 66 eN)) kR:=J.push _ _ _;have A:Own (h.push (.cells (aN c) 66 eN)) 66 3 (.bh h.n 0 1 1) (aN c):=Own.fz (aN c) 1 (r5 c) (by decide);have B:=uc (P:=mP) (t:=64) Ae A (n:=1) (r5 c) (by decide) (Mq c);obtain⟨a,h',C,D,E,i⟩:=be (P:=mP) (t:=64) (tx:=64) Wh (by decide) (o.aY u) B (r5 c) (λm z=>by
  change m*3=_ at z;rw[ft r5,r5]at z;exact⟨by simp only[lim];omega,by simp only[lim];omega⟩)
 refine⟨a,h',C,?_,(u.up).trans' E,?_⟩
 .rw[ay3];simpa using D
 .rcases i with i|i
  .exact .inl i
  .exact .inr λq F=>UN u.n (i q F)
theorem WI:∀(d left:Nat) (u:List Nat) (h:I) (B z:Nat),d<=16->left<=64->h4 h->gx h B z u (64-left)->(∀b∈u,b<256)->u.length<=2^47 ->
  au mP 150 [.ptr B 0,.int gj ((17-d:Nat):Int)] h (λr h'=>r=vQ (ew d left u)/\J h h' (pn B z)/\∀e Y D,ew d left u=.ok (e,Y,D)->gx h' B z Y (64-D))
 | 0,left,u,h,B,z,_,aB,ay,T,an,r2=>by
  refine au.cast ?_;refine a7 aEi rfl ?_;have ba:decide ((16:Int)<((17-0:Nat):Int))=true:=by decide
  simp only[ae,ds,AT,Nat.reduceSub,al,ba,aJ];exact ar ⟨_,_,rn _ 11,rfl,(J.push _ _ _),λe Y D U=>by cases U⟩
 | d+1,left,u,h,B,z,aH,aB,ay,T,an,r2=>by
  refine au.cast ?_;refine a7 aEi rfl ?_;have ba:decide ((16:Int)<((17-(d+1):Nat):Int))=false:=hK (by omega);obtain⟨np,jh,eW,g0,nq⟩:=bU h (.cells [.int gj 0,.int gj 0,.ah] 66 eN);have EW:=gx.ai T eW (by simp[kR]) (by simp[kR]);have aa:=EW.2.1;have td:=T.1;have kg:=T.2.2.1.2.1;have bO:=T.2.2.2;have Tj:(h.push (.cells [.int gj 0,.int gj 0,.ah] 66 eN)).get B=.cells [.ptr z 0,.int gj ((64-left:Nat):Int)] 266 none:=by rw[<-jh];exact aa
  by_cases dT:left=0
  .have bt:(((64-left:Nat):Int)==64)=true:=(by simp;omega);have G:ew (d+1) left u=.error 11:=(by rw[ew,gr dT]);simp only[ae,ds,AT,By,reduceCtorEq,al,ba,Tj,bt,aJ];exact ar ⟨_,_,rn _ 11,by rw[G];rfl,(J.push _ _ _),λe Y D U=>by rw[G]at U;cases U⟩
  have bt:(((64-left:Nat):Int)==64)=false:=by simp;omega
  have hw:aPh.i64.wrap (((64-left:Nat):Int)+1)=((64-(left-1):Nat):Int):=by rw[kp _ (by omega)];omega
  obtain⟨H1,eX⟩:∃y,y=np.set B (.cells [.ptr z 0,.int gj ((64-(left-1):Nat):Int)] 266 eN):=⟨_,rfl⟩;have bx:J np H1 (λq=>q=B):=by rw[eX];exact J.set _ _ _
  have eh:H1.n=np.n:=by rw[eX];rfl
  have af:H1.get B=.cells [.ptr z 0,.int gj ((64-(left-1):Nat):Int)] 266 none:=by rw[eX];exact aM
  have g1:=(bx.get h.n (by omega) (by omega)).trans g0;have db:ei H1 (.ptr z 0) z u:=ei.ai EW.2.2.1 bx (by omega);have pB:J h H1 (pn B z):=(eW.up).trans bx λq M U=>.inl U;simp only[ae,ds,AT,By,reduceCtorEq,al,ba,Tj,bt,hw];rw[<-jh,<-eX];clear jh eX;refine cp (Rb (.ptr z 0) z u H1 db an (by omega)) λr ad ⟨bd,ea,k2⟩=>?_;subst bd;have c6:=k2.n;have MC:=(k2.get B (by omega) (by omega)).trans af;have g2:=(k2.get h.n (by omega) (by omega)).trans g1;have c4:J h ad (pn B z):=pB.trans k2 λq M U=>.inr U;by_cases jz:(dec u 0 0).2.2=0;rotate_left
  .have c3:((((dec u 0 0).2.2:Nat):Int) !=0)=true:=(by simp;omega);have G:ew (d+1) left u=.error (dec u 0 0).2.2:=(by rw[ew,gQ dT,gr jz]);simp only[ae,ds,AT,al,c3,g2,aJ];exact ar ⟨_,_,rn _ _,by rw[G];rfl,c4.trans (J.set _ h.n _) λq M U=>by omega,λe Y D U=>by rw[G]at U;cases U⟩
  have c3:((((dec u 0 0).2.2:Nat):Int) !=0)=false:=by simp;omega
  obtain⟨S0,aI⟩:=Am an jz;have vf:ew (d+1) left u=(if(dec u 0 0).1<1\/16<(dec u 0 0).1 then .error 5
   else if(dec u 0 0).1=1 then
    if(dec (u.drop (dec u 0 0).2.1) 0 0).2.2≠0 then .error (dec (u.drop (dec u 0 0).2.1) 0 0).2.2
    else .ok (.mk 1 (hh (dec (u.drop (dec u 0 0).2.1) 0 0).1) [],(u.drop (dec u 0 0).2.1).drop (dec (u.drop (dec u 0 0).2.1) 0 0).2.1,left-1)
   else match d8 (ew d) (Ah (dec u 0 0).1).toNat (left-1) (u.drop (dec u 0 0).2.1)with
    | .error e=>.error e
    | .ok (aQ,r)=>.ok (.mk (dec u 0 0).1 0 aQ,r)):=by
   conv=>lhs;unfold ew
   rw[gQ dT,gQ (by simpa using jz)]
   all_goals rfl
  have kf:∀y∈u.drop (dec u 0 0).2.1,y<256:=λy bg=>an y (azT bg);have ie:(u.drop (dec u 0 0).2.1).length<=2^47:=by rw[azk];omega
  simp only[ae,ds,c3];clear c3 jz S0;generalize u.drop (dec u 0 0).2.1=H at *;generalize(dec u 0 0).1=k at *;by_cases hg:k<1
  .have eb:decide ((k:Int)<1)=true:=hO (by omega);have G:ew (d+1) left u=.error 5:=(by rw[vf,gr (.inl hg)]);simp only[ae,ds,AT,al,eb,g2,aJ];exact ar ⟨_,_,rn _ 5,by rw[G];rfl,c4.trans (J.set _ h.n _) λq M U=>by omega,λe Y D U=>by rw[G]at U;cases U⟩
  have eb:decide ((k:Int)<1)=false:=hK (by omega);by_cases p4:16<k
  .have c5:decide ((16:Int)<(k:Int))=true:=hO (by omega);have G:ew (d+1) left u=.error 5:=(by rw[vf,gr (.inr p4)]);simp only[ae,ds,AT,al,eb,c5,g2,aJ];exact ar ⟨_,_,rn _ 5,by rw[G];rfl,c4.trans (J.set _ h.n _) λq M U=>by omega,λe Y D U=>by rw[G]at U;cases U⟩
  have c5:decide ((16:Int)<(k:Int))=false:=hK (by omega);rw[gQ (by omega)]at vf;have xZ:aPh.i64.wrap (k:Int)=(k:Int):=kp _ (by omega);have aA:bD (eL 3) (aP.cells [kA gj 0,kA gj 0,V.ah] 66 eN) 0 [kA gj (k:Int),kA gj 0,V.ah]=eL (.cells [kA gj (k:Int),kA gj 0,V.ah] 66 eN):=rfl;obtain⟨C,MD⟩:∃y,y=ad.n:=⟨_,rfl⟩;have ME:h.n<C:=by omega
  obtain⟨hb,gW,k3,_,n3⟩:=bU ad (.cells [kA gj (k:Int),kA gj 0,V.ah] 66 eN);have EX:hb.get C=.cells [kA gj (k:Int),kA gj 0,V.ah] 66 none:=by rw[gW,MD];exact ac
  have Tk:=(k3.get h.n (by omega) (by simp[kR])).trans g2;have MF:=(k3.get B (by omega) (by simp[kR])).trans MC;have jI:ei hb (.ptr z 0) z H:=ei.ai ea k3 (by simp[kR]);have ez:J h hb (pn B z):=c4.trans' k3.up;have Cl:k<17:=by omega
  have gA:(if(0:Int)<=(k:Int)/\(k:Int)<((17:Nat):Int)/\((k:Int).toNat*1)<=gP.length then eL (V.at (gP.drop ((k:Int).toNat*1)))else eN)=eL (.at (.int gj (ee.getD k 0)::gP.drop (k+1))):=by
   rw[gr ⟨by omega,by omega,by simp[gP,ee];omega⟩];have:gP.drop ((k:Int).toNat*1)=.int gj (ee.getD k 0)::gP.drop (k+1):=by
    rw[ayw,axD,ay0 (by simp[gP,ee];omega)];simp[gP,ayX,Jt (show k<ee.length by simp[ee];omega)]
   rw[this]
  have hD:=Wq (o:=(k:Int)) (by omega) (by omega);rw[ayw]at hD;simp only[ae,ds,AT,By,al,eb,c5,mF ph hP,xZ,aA];rw[<-MD,<-gW];clear gW;by_cases mY:k=1
  .have jy:((k:Int)==1)=true:=(by simp;omega);simp only[ae,ds,AT,reduceCtorEq,al,jy,MF];refine cp (GK (.ptr z 0) z H hb jI kf (by omega)) λr br ⟨hE,Du,cg⟩=>?_;subst hE;have n4:=cg.n;have EY:=(cg.get C (by omega) (by omega)).trans EX;have MG:=(cg.get h.n (by omega) (by omega)).trans Tk;have uq:=(cg.get B (by omega) (by omega)).trans MF;have lR:J h br (pn B z):=ez.trans cg λq M U=>.inr U;have vg:J hb br (λq=>q=z):=cg;obtain⟨hV,im⟩:∃y,y=br.set C (.cells [kA gj (k:Int),kA gj (hh (dec H 0 0).1),V.ah] 66 eN):=⟨_,rfl⟩;have dN:J br hV (λq=>q=C):=by rw[im];exact J.set _ _ _
   have u5:hV.n=br.n:=(by rw[im];rfl);have Ik:hV.get C=.cells [kA gj (k:Int),kA gj (hh (dec H 0 0).1),V.ah] 66 none:=(by rw[im];exact aM);have Il:=(dN.get h.n (by omega) (by omega)).trans MG;have aC:=(dN.get B (by omega) (by omega)).trans uq;have Kc:ei hV (.ptr z 0) z _:=ei.ai Du dN (by omega);have lh:J h hV (pn B z):=lR.trans dN λq M U=>by omega
   simp only[ae,e4,ds,AT,By,al,EY];rw[<-im];clear im;by_cases qW:(dec H 0 0).2.2=0;rotate_left
   .have pj:((((dec H 0 0).2.2:Nat):Int) !=0)=true:=(by simp;omega);have G:ew (d+1) left u=.error (dec H 0 0).2.2:=(by rw[vf,gr mY,gr qW]);simp only[ae,ds,AT,al,pj,Il,aJ];exact ar ⟨_,_,rn _ _,by rw[G];rfl,lh.trans (J.set _ h.n _) λq M U=>by omega,λe Y D U=>by rw[G]at U;cases U⟩
   have pj:((((dec H 0 0).2.2:Nat):Int) !=0)=false:=(by simp;omega);have qQ:=(Am kf qW).2;have mb:∀y∈H.drop (dec H 0 0).2.1,y<256:=λy bg=>kf y (azT bg);have iK:(H.drop (dec H 0 0).2.1).length<=2^47:=by rw[azk];omega
   rw[gr mY,gQ (by simpa using qW)]at vf;generalize H.drop (dec H 0 0).2.1=wX at *;generalize hh (dec H 0 0).1=n at *;have Tl:Ah (k:Int)=0:=by rw[mY];decide
   obtain⟨m,hm⟩:∃m:Nat,m=(Ah (k:Int)).toNat:=⟨_,rfl⟩;have MH:m=0:=by rw[hm,Tl];rfl
   have G:ew (d+1) left u=(match d8 (ew d) m (left-1) wX with | .error e=>.error e | .ok (aQ,r)=>.ok (.mk (k:Int) n aQ,r)):=(by rw[vf,MH,mY,d8];rfl);have MI:ee.getD k 0=(m:Int):=(by rw[hD,Tl,MH];rfl);have MJ:gx hV B z wX (64-(left-1)):=⟨by omega,aC,Kc,bO⟩;have GL:∀(f:aj),aj.eval f hV (.global 2)=.at gP:=λf=>Lj (ay.ai lh);have Tm:=Ik;have GM:C<hV.n:=by omega
   simp only[ae,ds,al,pj];have s6:=Rf (k:Int);simp only[ae,ds,AT,al,Tm,GL,gA,MI];refine aT.bG (α:=Nat×V×List cd×List Nat×Nat) (λx f h'=>f 0=.ptr B 0/\f 1=.int gj ((17-(d+1):Nat):Int)/\f 4=.ptr h.n 0/\f 8=.ptr C 0/\f 69=.int gj (m:Nat)/\f 70=.int gj (x.1:Nat)/\x.1<=m/\h'.get h.n=.cells [.int gj 0,.int gj 0,.ah] 66 eN/\h'.get C=.cells [.int gj (k:Int),.int gj n,x.2.1] 66 eN /\
     Own h' 66 3 x.2.1 (x.2.2.1.flatMap aN)/\(∀j,aS x.2.1=eL j->h.n<=j/\j≠h.n/\j≠C)/\x.2.2.1.length=x.1/\gx h' B z x.2.2.2.1 (64-x.2.2.2.2)/\x.2.2.2.2<=64/\(∀y∈x.2.2.2.1,y<256)/\x.2.2.2.1.length<=2^47/\J h h' (pn B z)/\C<h'.n /\
     d8 (ew d) m (left-1) wX=(match d8 (ew d) (m-x.1) x.2.2.2.2 x.2.2.2.1 with | .error e=>.error e | .ok (aQ,r)=>.ok (x.2.2.1++aQ,r))) (λx=>m-x.1) (0,.ah,[],wX,left-1)
    ⟨rfl,rfl,rfl,rfl,rfl,rfl,D8 _,Il,Ik,Own.ah _ _ _,by simp[aS],rfl,MJ,by simp only;omega,mb,iK,lh,GM,by simp only[aA2];cases d8 (ew d) m (left-1) wX<;>rfl⟩ ?_
   rintro⟨i,s,Z,b,l⟩ f cX ⟨f0,f1,f4,f8,Q,L,hi,g4,g8,os,a,ko,dc,An,wY,r2,kk,MK,E⟩
   simp only at L hi g8 os a ko dc An wY r2 E;refine wpS ?_;by_cases ML:i<m
   .have az:=dK i m;have MM:=iM i;have EM:aPh.i64.wrap (((17-(d+1):Nat):Int)+1)=((17-d:Nat):Int):=by rw[kp _ (by omega)];omega
    obtain⟨jA,EZ⟩:∃jA,m-i=jA+1:=⟨m-i-1,by omega⟩;rw[EZ,d8]at E;simp only[ae,ds,reduceCtorEq,f0,f1,Q,L,az,EM];refine cp (WI d l b cX B z (by omega) An (ay.ai kk) dc wY r2) λr kr ⟨u4,j3,d7⟩=>?_;subst u4;have td:=dc.1;have kg:=dc.2.2.1.2.1;have GN:B<h.n:=T.1;have GO:z<h.n:=T.2.2.1.2.1;have WJ:h.n<C:=ME;have E0:=(j3.get h.n (by omega) (by rintro(U|U)<;>omega)).trans g4;have MN:=(j3.get C MK (by rintro(U|U)<;>omega)).trans g8;have MO:=os.ai j3 λj F U=>by
     have:=(a j F).1;rcases U with U|U<;>omega
    have te:J h kr (pn B z):=kk.trans' j3;have n7:=j3.n;cases W:ew d l b with
    | error c=>
     rw[W]at E;have u9:=MB d l b c W;have ba:((c:Int) !=0)=true:=by simp;omega
     rw[W]at d7;simp only at E;have p9:ew (d+1) left u=.error c:=by rw[G,E]
     simp only[vQ];have tz:=fd (.mk 0 0 []);have tf:=EV (.mk 0 0 []);have wZ:J kr (kr.push (.cells (aN (.mk 0 0 [])) 66 eN)) kR:=J.push _ _ _;have MP:=(wZ.get h.n (by omega) (by simp[kR])).trans E0;simp only[ae,ds,AT,al,f4,tz,tf,ba,MP,aJ];refine ar ⟨_,_,rn _ c,by rw[p9];rfl,?_,λe Y D U=>by rw[p9]at U;cases U⟩;exact((te.trans' wZ.up).trans (J.set _ h.n _) λq M U=>by omega)
    | ok r=>
     obtain⟨A,R,D⟩:=r;rw[W]at E;simp only at E;have gt:=Rg d l b wY A R D W;have MQ:=d7 A R D W;have GP:∀y∈R,y<256:=λy bg=>wY y (by rw[gt.wW];simp[bg]);have WK:R.length<=b.length:=(by rw[gt.wW];simp);have bq:=gt.sz;simp only[vQ];have tz:=fd A;have tf:=EV A;have aD:=Ka A;obtain⟨MR,ur,jO,g9,n8⟩:=bU kr (.cells (aN A) 66 eN);have E1:=(jO.get C (by omega) (by simp[kR])).trans MN;have EY:=(jO.get h.n (by omega) (by simp[kR])).trans E0;have MS:cI (aP.cells (aN A) 66 eN) 0=eL (aN A):=(by cases A;rfl);have w0:cw (eL (eL 3)) (eL (aN A))=eL (.agg (aN A)):=(by cases A;rfl);obtain⟨N,X,dr,Dv,O,Ao⟩:=acY (MO.aY jO) (by omega) A;have eY:=acX MR A;have E2:∀j,aS s=eL j->j<cX.n:=λj F=>os.lt j F;have MT:=(O.get C (by omega) (λU=>(a C U).2.2 rfl)).trans E1;have MU:=(O.get h.n (by omega) (λU=>(a h.n U).2.1 rfl)).trans EY;have nH:N.one=true:=by
      rcases Dv with⟨rfl|rfl,_⟩|⟨_,_,_,_,_,rfl,_⟩<;>rfl
     have uu:N.cells=eL [N]:=by
      rcases Dv with⟨rfl|rfl,_⟩|⟨_,_,_,_,_,rfl,_⟩<;>rfl
     have dI:bD (eL 1) (aP.cells [kA gj (k:Int),kA gj n,s] 66 eN) 2 [N]=eL (.cells [.int gj (k:Int),.int gj n,N] 66 eN):=(by rw[rb nH];rfl);have z0:((0:Int) !=0)=false:=rfl;simp only[ae,ds,al,f8,tz,tf];rw[<-ur];clear ur;simp only[ae,ds,AT,By,al,f8,L,E1,g9,MS,w0,eY,dr,MT,uu,dI,MM];have S:J X (X.set C (.cells [kA gj (k:Int),kA gj n,N] 66 eN)) (λq=>q=C):=J.set _ _ _;have uv:∀j,aS N=eL j->h.n<=j/\j≠h.n/\j≠C:=λj F=>by
      rcases Ao with Ao|Ao
      .exact a j (by rw[<-Ao];exact F)
      .have:=Ao j F;omega
     have MV:J h X (pn B z):=(te.trans' jO.up).trans O λq M U=>by have:=(a q U).1;omega
     have MW:gx X B z R (64-D):=gx.ai MQ (jO.up.trans' O) (λU=>by have:=(a B U).1;omega) (λU=>by have:=(a z U).1;omega);have aG:=O.n;refine ar ⟨(i+1,N,Z++[A],R,D),⟨f0,f1,f4,f8,Q,rfl,ML,(nk (by omega)).trans MU,aM,Dv.ai S (λj F U=>(uv j F).2.2 U),uv,by simp[ko],gx.ai MW S (by omega) (by omega),by simp only;omega,GP,by simp only;omega,MV.trans S λq M U=>by omega,by rw[jM];omega,?_⟩,by simp only;omega⟩;rw[E,show m-(i+1)=jA by omega];cases d8 (ew d) jA D R with
     | error e=>rfl
     | ok r=>obtain⟨aQ,r⟩:=r;simp
   .have az:=dY i m;rw[show m-i=0 by omega,d8]at E;simp only[axA]at E;have p9:ew (d+1) left u=.ok (.mk k n Z,b,l):=by rw[G,E]
    have nH:s.one=true:=by
     rcases os with⟨rfl|rfl,_⟩|⟨_,_,_,_,_,rfl,_⟩<;>rfl
    have E3:bD (eL 3) (aP.cells [kA gj 0,kA gj 0,V.ah] 66 eN) 0 [.int gj (k:Int),.int gj n,s]=eL (.cells [.int gj (k:Int),.int gj n,s] 66 eN):=by
     exact(u0 (n:=3) (vs:=[kA gj (k:Int),kA gj n,s]) rfl (by simp only[all_cons,all_nil,QE,nH,aAZ])).trans rfl
    have S:J cX (cX.set h.n (.cells [kA gj (k:Int),kA gj n,s] 66 eN)) (λq=>q=h.n):=J.set _ _ _;have E4:=os.ai S λj F U=>(a j F).2.1 U;obtain⟨X,ja,O⟩:=acv (k:Int) n E4;simp only[ae,ds,AT,al,f4,f8,Q,L,az,g8,g4,E3,aJ];have GN:B<h.n:=T.1;have GO:z<h.n:=T.2.2.1.2.1;refine ar ⟨_,X,aK.tuple (aE.cons ja (aE.refl _ _)),by rw[p9];rfl,(kk.trans S λq M U=>by omega).trans O λq M U=>by have:=(a q U).1;omega,λe Y D U=>?_⟩;rw[p9]at U;cases U;exact gx.ai (gx.ai dc S (by omega) (by omega)) O (λU=>by have:=(a B U).1;omega) (λU=>by have:=(a z U).1;omega)
  .have jy:((k:Int)==1)=false:=(by simp;omega);rw[gQ mY]at vf;obtain⟨m,hm⟩:∃m:Nat,m=(Ah (k:Int)).toNat:=⟨_,rfl⟩;rw[<-hm]at vf;have qQ:=Rf (k:Int);obtain⟨n,aF⟩:∃n:Int,n=0:=⟨0,rfl⟩;rw[<-aF]at vf EX;have G:=vf;have MI:ee.getD k 0=(m:Int):=by rw[hD,hm];omega
   have MJ:gx hb B z H (64-(left-1)):=⟨by omega,MF,jI,bO⟩;have GL:∀(f:aj),aj.eval f hb (.global 2)=.at gP:=λf=>Lj (ay.ai ez);have Tm:=EX;have Il:=Tk;have Ik:=EX;have lh:=ez;have GM:C<hb.n:=by omega
   have mb:=kf;have iK:=ie;simp only[ae,ds,AT,al,EX,jy];have s6:=Rf (k:Int);simp only[ae,ds,al,GL,gA,MI];refine aT.bG (α:=Nat×V×List cd×List Nat×Nat) (λx f h'=>f 0=.ptr B 0/\f 1=.int gj ((17-(d+1):Nat):Int)/\f 4=.ptr h.n 0/\f 8=.ptr C 0/\f 69=.int gj (m:Nat)/\f 70=.int gj (x.1:Nat)/\x.1<=m/\h'.get h.n=.cells [.int gj 0,.int gj 0,.ah] 66 eN/\h'.get C=.cells [.int gj (k:Int),.int gj n,x.2.1] 66 eN /\
     Own h' 66 3 x.2.1 (x.2.2.1.flatMap aN)/\(∀j,aS x.2.1=eL j->h.n<=j/\j≠h.n/\j≠C)/\x.2.2.1.length=x.1/\gx h' B z x.2.2.2.1 (64-x.2.2.2.2)/\x.2.2.2.2<=64/\(∀y∈x.2.2.2.1,y<256)/\x.2.2.2.1.length<=2^47/\J h h' (pn B z)/\C<h'.n /\
     d8 (ew d) m (left-1) H=(match d8 (ew d) (m-x.1) x.2.2.2.2 x.2.2.2.1 with | .error e=>.error e | .ok (aQ,r)=>.ok (x.2.2.1++aQ,r))) (λx=>m-x.1) (0,.ah,[],H,left-1)
    ⟨rfl,rfl,rfl,rfl,rfl,rfl,D8 _,Il,Ik,Own.ah _ _ _,by simp[aS],rfl,MJ,by simp only;omega,mb,iK,lh,GM,by simp only[aA2];cases d8 (ew d) m (left-1) H<;>rfl⟩ ?_
   rintro⟨i,s,Z,b,l⟩ f cX ⟨f0,f1,f4,f8,Q,L,hi,g4,g8,os,a,ko,dc,An,wY,r2,kk,MK,E⟩
   simp only at L hi g8 os a ko dc An wY r2 E;refine wpS ?_;by_cases ML:i<m
   .have az:=dK i m;have MM:=iM i;have EM:aPh.i64.wrap (((17-(d+1):Nat):Int)+1)=((17-d:Nat):Int):=by rw[kp _ (by omega)];omega
    obtain⟨jA,EZ⟩:∃jA,m-i=jA+1:=⟨m-i-1,by omega⟩;rw[EZ,d8]at E;simp only[ae,ds,reduceCtorEq,f0,f1,Q,L,az,EM];refine cp (WI d l b cX B z (by omega) An (ay.ai kk) dc wY r2) λr kr ⟨u4,j3,d7⟩=>?_;subst u4;have td:=dc.1;have kg:=dc.2.2.1.2.1;have GN:B<h.n:=T.1;have GO:z<h.n:=T.2.2.1.2.1;have WJ:h.n<C:=ME;have E0:=(j3.get h.n (by omega) (by rintro(U|U)<;>omega)).trans g4;have MN:=(j3.get C MK (by rintro(U|U)<;>omega)).trans g8;have MO:=os.ai j3 λj F U=>by
     have:=(a j F).1;rcases U with U|U<;>omega
    have te:J h kr (pn B z):=kk.trans' j3;have n7:=j3.n;cases W:ew d l b with
    | error c=>
     rw[W]at E;have u9:=MB d l b c W;have ba:((c:Int) !=0)=true:=by simp;omega
     rw[W]at d7;simp only at E;have p9:ew (d+1) left u=.error c:=by rw[G,E]
     simp only[vQ];have tz:=fd (.mk 0 0 []);have tf:=EV (.mk 0 0 []);have wZ:J kr (kr.push (.cells (aN (.mk 0 0 [])) 66 eN)) kR:=J.push _ _ _;have MP:=(wZ.get h.n (by omega) (by simp[kR])).trans E0;simp only[ae,ds,AT,al,f4,tz,tf,ba,MP,aJ];refine ar ⟨_,_,rn _ c,by rw[p9];rfl,?_,λe Y D U=>by rw[p9]at U;cases U⟩;exact((te.trans' wZ.up).trans (J.set _ h.n _) λq M U=>by omega)
    | ok r=>
     obtain⟨A,R,D⟩:=r;rw[W]at E;simp only at E;have gt:=Rg d l b wY A R D W;have MQ:=d7 A R D W;have GP:∀y∈R,y<256:=λy bg=>wY y (by rw[gt.wW];simp[bg]);have WK:R.length<=b.length:=(by rw[gt.wW];simp);have bq:=gt.sz;simp only[vQ];have tz:=fd A;have tf:=EV A;have aD:=Ka A;obtain⟨MR,ur,jO,g9,n8⟩:=bU kr (.cells (aN A) 66 eN);have E1:=(jO.get C (by omega) (by simp[kR])).trans MN;have EY:=(jO.get h.n (by omega) (by simp[kR])).trans E0;have MS:cI (aP.cells (aN A) 66 eN) 0=eL (aN A):=(by cases A;rfl);have w0:cw (eL (eL 3)) (eL (aN A))=eL (.agg (aN A)):=(by cases A;rfl);obtain⟨N,X,dr,Dv,O,Ao⟩:=acY (MO.aY jO) (by omega) A;have eY:=acX MR A;have E2:∀j,aS s=eL j->j<cX.n:=λj F=>os.lt j F;have MT:=(O.get C (by omega) (λU=>(a C U).2.2 rfl)).trans E1;have MU:=(O.get h.n (by omega) (λU=>(a h.n U).2.1 rfl)).trans EY;have nH:N.one=true:=by
      rcases Dv with⟨rfl|rfl,_⟩|⟨_,_,_,_,_,rfl,_⟩<;>rfl
     have uu:N.cells=eL [N]:=by
      rcases Dv with⟨rfl|rfl,_⟩|⟨_,_,_,_,_,rfl,_⟩<;>rfl
     have dI:bD (eL 1) (aP.cells [kA gj (k:Int),kA gj n,s] 66 eN) 2 [N]=eL (.cells [.int gj (k:Int),.int gj n,N] 66 eN):=(by rw[rb nH];rfl);have z0:((0:Int) !=0)=false:=rfl;simp only[ae,ds,al,f8,tz,tf];rw[<-ur];clear ur;simp only[ae,ds,AT,By,al,f8,L,E1,g9,MS,w0,eY,dr,MT,uu,dI,MM];have S:J X (X.set C (.cells [kA gj (k:Int),kA gj n,N] 66 eN)) (λq=>q=C):=J.set _ _ _;have uv:∀j,aS N=eL j->h.n<=j/\j≠h.n/\j≠C:=λj F=>by
      rcases Ao with Ao|Ao
      .exact a j (by rw[<-Ao];exact F)
      .have:=Ao j F;omega
     have MV:J h X (pn B z):=(te.trans' jO.up).trans O λq M U=>by have:=(a q U).1;omega
     have MW:gx X B z R (64-D):=gx.ai MQ (jO.up.trans' O) (λU=>by have:=(a B U).1;omega) (λU=>by have:=(a z U).1;omega);have aG:=O.n;refine ar ⟨(i+1,N,Z++[A],R,D),⟨f0,f1,f4,f8,Q,rfl,ML,(nk (by omega)).trans MU,aM,Dv.ai S (λj F U=>(uv j F).2.2 U),uv,by simp[ko],gx.ai MW S (by omega) (by omega),by simp only;omega,GP,by simp only;omega,MV.trans S λq M U=>by omega,by rw[jM];omega,?_⟩,by simp only;omega⟩;rw[E,show m-(i+1)=jA by omega];cases d8 (ew d) jA D R with
     | error e=>rfl
     | ok r=>obtain⟨aQ,r⟩:=r;simp
   .have az:=dY i m;rw[show m-i=0 by omega,d8]at E;simp only[axA]at E;have p9:ew (d+1) left u=.ok (.mk k n Z,b,l):=by rw[G,E]
    have nH:s.one=true:=by
     rcases os with⟨rfl|rfl,_⟩|⟨_,_,_,_,_,rfl,_⟩<;>rfl
    have E3:bD (eL 3) (aP.cells [kA gj 0,kA gj 0,V.ah] 66 eN) 0 [.int gj (k:Int),.int gj n,s]=eL (.cells [.int gj (k:Int),.int gj n,s] 66 eN):=by
     exact(u0 (n:=3) (vs:=[kA gj (k:Int),kA gj n,s]) rfl (by simp only[all_cons,all_nil,QE,nH,aAZ])).trans rfl
    have S:J cX (cX.set h.n (.cells [kA gj (k:Int),kA gj n,s] 66 eN)) (λq=>q=h.n):=J.set _ _ _;have E4:=os.ai S λj F U=>(a j F).2.1 U;obtain⟨X,ja,O⟩:=acv (k:Int) n E4;simp only[ae,ds,AT,al,f4,f8,Q,L,az,g8,g4,E3,aJ];have GN:B<h.n:=T.1;have GO:z<h.n:=T.2.2.1.2.1;refine ar ⟨_,X,aK.tuple (aE.cons ja (aE.refl _ _)),by rw[p9];rfl,(kk.trans S λq M U=>by omega).trans O λq M U=>by have:=(a q U).1;omega,λe Y D U=>?_⟩;rw[p9]at U;cases U;exact gx.ai (gx.ai dc S (by omega) (by omega)) O (λU=>by have:=(a B U).1;omega) (λU=>by have:=(a z U).1;omega)
def pD(a:List Nat):Except Nat cd:=match ew 16 64 a with
 | .error c=>.error c
 | .ok (e,r,_)=>if r.length=0 then .ok e else .error 5
def qa(a:List Nat):cd:=match pD a with
 | .error _=>.mk 0 0 []
 | .ok e=>e
def pE(a:List Nat):Nat:=match pD a with
 | .error c=>c
 | .ok _=>0
def uw(a:List Nat):V:=.tuple [.agg (aN (qa a)),.int gj (pE a:Nat)]
theorem aqw(a:List Nat):bf (uw a):=bf.tuple (bc.cons (bf.agg (Wl _)) (bc.cons (bf.int _ _) bc.nil))
theorem aqx{a:List Nat}{c:Nat}(h:pD a=.error c):c≠0:=by
 unfold pD at h;split at h
 .rename_i e i;cases h;exact MB _ _ _ _ i
 .split at h
  .cases h
  .cases h;omega
theorem aqy{a:List Nat}(an:∀b∈a,b<256){e:cd}(h:pD a=.ok e):a=dj e/\dB e=e6/\ik e:=by
 unfold pD at h;split at h
 .cases h
 .rename_i q r l i;split at h
  .rename_i j;cases h;have g:=Rg 16 64 a an _ _ _ i;have m:r=[]:=azo j;refine⟨by rw[g.wW,m,axA],?_,g.ok⟩;have s:=g.sz;unfold dB;rw[Q9,gr ⟨g.deep,by omega⟩];rfl
  .cases h
theorem ac4{e:cd}(a:dB e=e6)(j:ik e):pD (dj e)=.ok e:=by
 have i:tw 16 e=e6/\fs e<=64:=by
  unfold dB at a;rw[Q9]at a;split at a
  .assumption
  .cases a
 have:=acV 16 64 e [] i.1 j i.2;rw[axA]at this;unfold pD;rw[this];rfl
theorem Tn(x:V)(a:List Nat)(h:I)(ay:h4 h)(rd:Rd h x a)(an:∀b∈a,b<256)(aB:a.length<=2^47):Pure mP 114 [x] h (uw a):=by
 refine Pure.of (aqw a) ?_;refine a7 Tryz.func114 rfl ?_;obtain⟨i,Q,R,g0,nq⟩:=bU h (.cells [.int gj 0,.int gj 0,.ah] 66 eN);simp only[ae,ds,reduceCtorEq,al];rw[<-Q];clear Q;refine cp (Mv x a i (rd.ai R) (by omega)) λr A ⟨az,db,S⟩=>?_;subst az;have eh:i.n+1<=A.n:=db.2.1;have g1:=(S.get h.n (by omega) (by simp[kR])).trans g0;have F:bD (eL 2) (aP.cells [V.dA,kA gj 0] 266 eN) 0 [V.ptr i.n 0,kA gj 0]=eL (.cells [V.ptr i.n 0,kA gj 0] 266 eN):=rfl;obtain⟨G,T,H,MC,c6⟩:=bU A (.cells [V.ptr i.n 0,kA gj 0] 266 eN);have g2:=(H.get h.n (by omega) (by simp[kR])).trans g1;have dc:gx G A.n i.n a (64-64):=⟨by omega,MC,ei.ai db H (by simp[kR]),by omega⟩;have W:J h G kR:=(R.trans' S).trans' H;simp only[ae,ds,AT,By,al,F];rw[<-T];clear T;refine cp (WI 16 64 a G A.n i.n (by decide) (by decide) (ay.ai W) dc an aB) λr B ⟨c2,L,d3⟩=>?_;subst c2;have n3:=L.n;have X:=(L.get h.n (by omega) (by rintro(U|U)<;>omega)).trans g2;have Y:J h B kR:=W.trans L λq M U=>by rcases U with U|U<;>omega
 cases j:ew 16 64 a with
 | error c=>
  have u9:=MB _ _ _ _ j;have m:((c:Int) !=0)=true:=by simp;omega
  have s:pD a=.error c:=by unfold pD;rw[j]
  have u:uw a=.tuple [.agg (aN (.mk 0 0 [])),.int gj (c:Nat)]:=by unfold uw qa pE;rw[s]
  rw[u];have C:=fd (.mk 0 0 []);have D:=EV (.mk 0 0 []);have Z:J B (B.push (.cells (aN (.mk 0 0 [])) 66 eN)) kR:=J.push _ _ _;have E:=(Z.get h.n (by omega) (by simp[kR])).trans X;simp only[vQ];simp only[ae,ds,AT,al,C,D,m,E,aJ];exact ar ⟨_,rn _ c,(Y.trans' Z).trans (J.set _ h.n _) λq M U=>by omega⟩
 | ok r=>
  obtain⟨e,z,b8⟩:=r;have N:=d3 e z b8 j;have z0:((0:Int) !=0)=false:=rfl;have C:=fd e;have D:=EV e;obtain⟨lJ,jU,O,MG,_⟩:=bU B (.cells (aN e) 66 eN);have E:=(O.get h.n (by omega) (by simp[kR])).trans X;have To:=gx.ai N O (by simp[kR]) (by simp[kR]);have uq:=To.2.1;have lR:=Y.trans' O;simp only[vQ];simp only[ae,ds,al,C,D];rw[<-jU];clear jU;simp only[ae,ds,AT,uq];refine bE (Left lJ _ _ z To.2.2.1) ?_;by_cases Tp:z.length=0
  .have m:decide ((0:Int)<(z.length:Int))=false:=hK (by omega);have s:pD a=.ok e:=(by unfold pD;rw[j];simp only;rw[gr Tp]);have u:uw a=.tuple [.agg (aN e),.int gj 0]:=(by unfold uw qa pE;rw[s];rfl);rw[u];have MS:cI (aP.cells (aN e) 66 eN) 0=eL (aN e):=by cases e;rfl
   have w0:cw (eL (eL 3)) (eL (aN e))=eL (.agg (aN e)):=(by cases e;rfl);have il:=Ka e;simp only[ae,ds,al,m,MG,E,MS,w0,C,D,aJ];exact ar ⟨_,aK.refl _ _,lR.trans (J.set _ h.n _) λq M U=>by omega⟩
  .have m:decide ((0:Int)<(z.length:Int))=true:=hO (by omega);have s:pD a=.error 5:=(by unfold pD;rw[j];simp only;rw[gQ Tp]);have u:uw a=.tuple [.agg (aN (.mk 0 0 [])),.int gj (5:Nat)]:=(by unfold uw qa pE;rw[s]);rw[u];simp only[ae,ds,AT,al,m,E,aJ];exact ar ⟨_,rn _ 5,lR.trans (J.set _ h.n _) λq M U=>by omega⟩
def qb:Option Int->V
 | some n=>.tuple [.int gj n,.int gj 0]
 | none=>.tuple [.int gj 0,.int gj 10]
theorem aqz(e:cd)(i j m a:Int)(o:Option Int)(q:dB e=e6)(s:c7 i j m a 16 e=o)(h:I)(u:h4 h) :
  Pure mP 175 [.agg (aN e),.agg [.int gj i,.int gj j,.int gj m],.int gj a] h (qb o):=by
 have:=Nm e i j m a h u;rw[q,s]at this;cases o<;>exact this
theorem aqA(n:Nat)(g:FuncId)(cap:List V)(p:Nat->Bool)(h:I)(O:n<2^61)(B:me mP g=e6)(C:∀i,i<n->Pure mP g (.int gj (i:Nat)::cap) h (.bool (p i)))
  (r:Nat) (D:r<=n) (E:∀t,t<r->p t=fr) (F:∀t,r<=t->t<n->p t=e6):Pure mP 243 [.int gj (n:Nat),.func (.func g) [] cap] h (.int gj (r:Nat)):=by
 refine a7 Tryz.func243 rfl ?_;simp only[ae,ds,reduceCtorEq];refine aT.bG (α:=Nat×Nat) (λx f h'=>h'=h/\f 1=.func (.func g) [] cap/\f 5=.int gj (x.1:Nat)/\f 6=.int gj (x.2:Nat)/\x.1<=r/\r<=x.2/\x.2<=n) (λx=>x.2-x.1) (0,n)
  ⟨rfl,rfl,rfl,rfl,D8 _,D,BY _⟩ ?_
 rintro⟨lo,hi⟩ f h' ⟨rfl,m,a,j,s,u,z⟩
 simp only at a j s u z;refine wpS ?_;by_cases Q:lo<hi
 .have q:decide ((lo:Int)<(hi:Int))=true:=hO (by omega);have G:aPh.i64.wrap ((lo:Int)+(hi:Int))=((lo+hi:Nat):Int):=by rw[kp _ (by omega)];omega
  have H:=VD (n:=lo+hi) (by omega);have L:(((lo+hi:Nat):Int)).fdiv (2^(min (ay4 1) aPh.u64.bits))=(((lo+hi) / 2:Nat):Int):=by
   rw[show(2:Int)^(min (ay4 1) aPh.u64.bits)=2 from rfl,aAL _ (by omega)];omega
  have M:=abb (n:=(lo+hi) / 2) (by omega);have N:=km (i:=(lo+hi) / 2) (n:=n) (by omega) (by omega);simp only[ae,ds,m,a,j,q,G,mF hP GD,H,Ll (show(0:Int)<=1 by decide),L,mF GD hP,M];refine Vf B (C _ (by omega)) ?_;cases A:p ((lo+hi) / 2)
  .have:¬r<=(lo+hi) / 2:=λU=>by have:=F _ U (by omega);rw[A]at this;cases this
   simp only[ae,ds,N];exact ar ⟨((lo+hi) / 2+1,hi),⟨rfl,m,rfl,j,by simp only;omega,u,z⟩,by simp only;omega⟩
  .have:¬(lo+hi) / 2<r:=λU=>by have:=E _ U;rw[A]at this;cases this
   simp only[ae,ds];exact ar ⟨(lo,(lo+hi) / 2),⟨rfl,m,a,rfl,s,by simp only;omega,by simp only;omega⟩,by simp only;omega⟩
 .have q:decide ((lo:Int)<(hi:Int))=false:=hK (by omega);obtain rfl:lo=r:=by omega
  simp only[ae,ds,a,j,q,aJ];exact ar ⟨rfl,rfl⟩
theorem WL{α:Type}(A M X:List α){a:Nat}(aW:A.length=a):lay (A++M) a X=A++X++M.drop X.length:=by
 unfold lay;rw[<-aW,azO,show A.length+X.length=A.length+X.length from rfl,aCX];simp
theorem aqB{α:Type}(A M X B:List α){a x b:Nat}(aW:A.length=a)(i:X.length=x)(an:B.length=b)(j:M.length=x+b):lay (lay (A++M) a X) (a+x) B=A++X++B:=by
 rw[WL A M X aW,WL (A++X) _ B (by simp[aW,i])];rw[azg (l:=M.drop X.length) (by simp;omega)];simp
theorem aqC{α:Type}(c A B X:List α){a x b:Nat}(j:c.take (a+b)=A++B)(aW:A.length=a)(an:B.length=b)(m:X.length=x)(s:a+x+b<=c.length) :
  ∃R,lay (lay c (a+x) B) a X=A++X++(B++R)/\(lay (lay c (a+x) B) a X).length=c.length:=by
 have q:c.take a=A:=by
  have:=iy (ay5 a) j;rw[azz,azb (by omega),<-aW,azO]at this;rw[<-aW];exact this
 have i:(lay c (a+x) B).length=c.length:=q9 _ _ _ (by omega);refine⟨c.drop (a+x+b),?_,by rw[q9 _ _ _ (by omega),i]⟩;have az:(lay c (a+x) B).take a=A:=by
  unfold lay;rw[axC,aAG (by rw[ajB];omega),azz,azb (by omega),q]
 have bd:(lay c (a+x) B).drop (a+x)=B++c.drop (a+x+b):=by
  unfold lay;rw[axC,aDf (by rw[ajB];omega),azg (by rw[ajB];omega),an];simp
 generalize lay c (a+x) B=d at az bd i;unfold lay;rw[az,m,bd]
theorem ac7:xL mP 245:=⟨_,Tryz.func245,by kernel_rfl,by kernel_rfl,by kernel_rfl,by kernel_rfl,282,350,2,4,by kernel_rfl,by kernel_rfl,Tryz.underlying282,by kernel_rfl⟩
theorem aqD(i len cap k j:Nat)(c s xs:List V)(F:Option Nat)(h:I)(o:sF h 350 2 i len cap c F s)(aB:len<2^40)(hk:k<=len)(Q:h.get j=.cells xs 350 eN)(jQ:j<h.n)(iD:j≠i)
  (A:xs.length=2) (Z:xs.all (·.one)=e6) (j4:s.all (·.one)=e6):au mP 232 [.bh i 0 len cap,.int gj (k:Nat),.bh j 0 1 1] h
   (λr h'=>Own h' 350 2 r (s.take (k*2)++xs++s.drop (k*2))/\J h h' (λq=>q=i)/\b6 h (.bh i 0 len cap) r):=by
 refine a7 aDg rfl ?_;have hQ:=o;obtain⟨hi,L,M,b1,B,fU,mc⟩:=hQ;have ba:((1:Nat):Int)=1:=rfl;have s1:=BK (P:=mP) (t:=282) (i:=i) (o:=0) (len:=len) (cap:=cap) (k:=.i64) u3 B hk mc;have mU:Own h 350 2 (.bh j 0 1 1) xs:=.inr ⟨j,1,1,xs,eN,rfl,jQ,Q,by rw[A],by rw[ajE (by omega)],.inl ⟨by unfold b9;omega,by omega,BY _⟩⟩;have di:=uc (P:=mP) (t:=282) u2 mU (n:=1) (by rw[A]) (by decide) Z;by_cases qQ:k=len
 .subst qQ;have d1:((k:Int)==(k:Int))=true:=by simp
  obtain⟨v',h',dr,gn,kH,fE⟩:=be (P:=mP) (t:=282) (tx:=282) Af (by decide) o.own di (by rw[A];rfl) (λm hm=>by
   change m*2=_ at hm;rw[M,A]at hm;exact⟨by simp only[lim];omega,by simp only[lim];omega⟩)
  simp only[ae,azH,ds,reduceCtorEq,u2,s1,ba,dr,aJ];refine ar ⟨?_,kH.mono λq N=>(Option.some.inj N).symm,fE⟩;rw[ajE (by omega),azg (by omega),axA];exact gn
 have qQ:k<len:=by omega
 have d1:((k:Int)==(len:Int))=false:=by simp;omega
 have cH:=km (i:=len) (n:=len+1) (by omega) (by omega);have xZ:=km (i:=k) (n:=len) (by omega) (by omega);have aw:=abw (P:=mP) (t:=282) (i:=i) (o:=0) (len:=len) Af B;have D:(s.take (k*2)).length=k*2:=by rw[ajB];omega
 have G:(s.drop (k*2)).length=(len-k)*2:=by rw[azk];omega
 have b4:(c.drop (k*2)).take ((len-k)*2)=s.drop (k*2):=by rw[<-b1,aAJ];congr 1;omega
 have w1:((c.drop (k*2)).take ((len-k)*2)).all (·.one)=true:=by
  rw[b4,ayy];exact λv aI=>ayy.1 j4 v (azT aI)
 have T:(xs.drop 0).take (1*2)=xs:=by rw[azw,ajE (by omega)]
 by_cases fD:cap<len+1
 .have d2:decide ((cap:Int)<((len+1:Nat):Int))=true:=hO (by omega);have s2:=J1 (P:=mP) (t:=282) (i:=i) (o:=0) (len:=len) (cap:=cap) (k:=.i64) (m:=k) u3 B (by omega);have bY:aPh.i64.wrap (((len+1:Nat):Int)-(k:Int))=((len+1-k:Nat):Int):=by rw[kp _ (by omega)];omega
  have az:=abx (P:=mP) (t:=282) (kq:=.i64) (o:=0) (len:=k) (cap:=cap) (n:=len+1-k) (kn:=.i64) (tn:=3) Af (by kernel_rfl) (by decide) L (by omega) B (by omega) (by simp only[lim];omega) (by simp only[lim];omega) (by simp only[];omega);simp only[azw]at az;have kY:k+(len+1-k)=len+1:=by omega
  rw[kY]at az;obtain⟨z,u⟩:∃y,y=h.push (.cells (c.take (k*2)++made [kA gj 0,kA gj 0] (len+1-k)) 350 (eL 2)):=⟨_,rfl⟩;rw[<-u]at az;have g1:z.get h.n=.cells (c.take (k*2)++made [kA gj 0,kA gj 0] (len+1-k)) 350 (eL 2):=by rw[u];exact ac
  have BO:z.get j=.cells xs 350 none:=by rw[u,iZ jQ];exact Q
  have ns:z.get i=.cells c 350 F:=by rw[u,iZ hi];exact L
  have eh:z.n=h.n+1:=by rw[u];rfl
  have bx:J h z kR:=by rw[u];exact J.push _ _ _
  have E:kX mP 282 (.bh h.n 0 (len+1) b9) (eL (.int gj (k:Int))) eN eN=eL (.bh h.n (0+k*2) (len+1-k) (b9+0+k)):=pu (a:=0) u3 (by omega);have H:kX mP 282 (.bh h.n 0 (len+1) b9) (eL (.int gj ((k+1:Nat):Int))) eN eN=eL (.bh h.n (0+(k+1)*2) (len+1-(k+1)) (b9+0+(k+1))):=pu (a:=0) u3 (by omega);rw[ayB,aAa]at E H;have W:c.take (k*2)=s.take (k*2):=by rw[<-b1,azz,azb (by omega)]
  have X:(made [kA gj 0,kA gj 0] (len+1-k)).length=(len+1-k)*2:=C3 _ _;have bd:=EG (P:=mP) (t:=282) (tx:=282) (o:=k*2) (dl:=len+1-k) (dc:=b9+k) (p:=0) (n:=1) (d:=1) (m:=1) Af g1 BO (by show min 1 (len+1-k)=1;omega) (by decide) (by simp only[];omega) (by rw[D9,X,W,D];simp only[];omega) (by rw[T];exact Z);rw[T]at bd;obtain⟨bZ,O⟩:∃y,y=z.set h.n (.cells (lay (c.take (k*2)++made [kA gj 0,kA gj 0] (len+1-k)) (k*2) xs) 350 (eL 2)):=⟨_,rfl⟩;rw[<-O]at bd;have g2:bZ.get h.n=.cells (lay (c.take (k*2)++made [kA gj 0,kA gj 0] (len+1-k)) (k*2) xs) 350 (eL 2):=by rw[O];exact aM
  have yC:bZ.get i=.cells c 350 F:=by rw[O,nk (by omega)];exact ns
  have gI:(lay (c.take (k*2)++made [kA gj 0,kA gj 0] (len+1-k)) (k*2) xs).length=(len+1)*2:=by rw[q9 _ _ _ (by rw[D9,X,W,D,A];omega),D9,X,W,D];omega
  have k2:J h bZ kR:=by rw[O];exact bx.trans (J.set _ _ _) λq N U=>by omega
  have GQ:=BK (P:=mP) (t:=282) (i:=i) (o:=0) (len:=len) (cap:=cap) (k:=.i64) (l:=k) u3 B hk mc;rw[gQ (by omega),ayB]at GQ;have C:=EG (P:=mP) (t:=282) (tx:=282) (o:=(k+1)*2) (dl:=len+1-(k+1)) (dc:=b9+(k+1)) (p:=k*2) (n:=len-k) (d:=cap-k) (m:=len-k) Af g2 yC (by show min (len-k) (len+1-(k+1))=len-k;omega) (by omega) (by simp only[];omega) (by rw[gI];simp only[];omega) w1;simp only at C;rw[b4]at C;rw[show(k+1)*2=k*2+2 by omega]at H C;rw[W,aqB (s.take (k*2)) (made [kA gj 0,kA gj 0] (len+1-k)) xs (s.drop (k*2)) D A G (by rw[X];omega)]at C;simp only[ae,azH,ds,reduceCtorEq,u2,s1,ba,d1,cH,aw,d2,s2,bY,az,E,bd];refine aT.cL kR [8] (.q 0 (.q 1 (.q 2 (.q 3 (.q 4 (.q 5 (.q 6 (.q 7 (.a 8 .done))))))))) ?_;simp only[ae,bw,ds,reduceCtorEq,xZ,H,GQ,C,aJ];refine ar ⟨?_,?_,.inr λq N=>?_⟩
  .refine Own.grown (by rw[jM,O,jM,eh];omega) aM ?_;simp only[D9,D,G,A];omega
  .exact(k2.trans (J.set _ _ _) λq N U=>by omega).up
  .simp only[aS,Option.some.injEq]at N;omega
 .have d2:decide ((cap:Int)<((len+1:Nat):Int))=false:=hK (by omega);have Y:len+1<=cap:=by omega
  have s2:=J1 (P:=mP) (t:=282) (i:=i) (o:=0) (len:=len) (cap:=cap) (k:=.i64) (m:=len+1) u3 B Y;have E:=BK (P:=mP) (t:=282) (i:=i) (o:=0) (len:=len+1) (cap:=cap) (k:=.i64) (l:=k+1) u3 B (by omega) Y;rw[gQ (by omega),ayB]at E;have H:=BK (P:=mP) (t:=282) (i:=i) (o:=0) (len:=len+1) (cap:=cap) (k:=.i64) (l:=k) u3 B (by omega) Y;rw[gQ (by omega),ayB]at H;have Ap:wF h [.bh j 0 1 1,.bh i ((k+1)*2) (len+1-(k+1)) (cap-(k+1))]=eL (.bool fr):=by
   cases c with
   | nil=>simp at fU;omega
   | cons mC vR=>simp[wF,Q,L,iD]
  have c9:len*2+2<=c.length:=by omega
  have bd:=EG (P:=mP) (t:=282) (tx:=282) (o:=(k+1)*2) (dl:=len+1-(k+1)) (dc:=cap-(k+1)) (p:=k*2) (n:=len+1-k) (d:=cap-k) (m:=len-k) Af L L (by show min (len+1-k) (len+1-(k+1))=len-k;omega) (by omega) (by simp only[];omega) (by simp only[];omega) w1;simp only at bd;rw[b4]at bd;obtain⟨R,e8,Ct⟩:=aqC c (s.take (k*2)) (s.drop (k*2)) xs (a:=k*2) (x:=2) (b:=(len-k)*2) (by rw[azL,show k*2+(len-k)*2=len*2 by omega];exact b1) D G A (by omega);rw[show(k+1)*2=k*2+2 by omega]at E Ap bd;obtain⟨z,u⟩:∃y,y=h.set i (.cells (lay c (k*2+2) (s.drop (k*2))) 350 F):=⟨_,rfl⟩;rw[<-u]at bd;have g1:z.get i=.cells (lay c (k*2+2) (s.drop (k*2))) 350 F:=by rw[u];exact aM
  have BO:z.get j=.cells xs 350 none:=by rw[u,nk iD];exact Q
  have bx:J h z (λq=>q=i):=by rw[u];exact J.set _ _ _
  have eh:z.n=h.n:=by rw[u];rfl
  have gp:(lay c (k*2+2) (s.drop (k*2))).length=c.length:=q9 _ _ _ (by rw[G];omega);have C:=EG (P:=mP) (t:=282) (tx:=282) (o:=k*2) (dl:=len+1-k) (dc:=cap-k) (p:=0) (n:=1) (d:=1) (m:=1) Af g1 BO (by show min 1 (len+1-k)=1;omega) (by decide) (by simp only[];omega) (by rw[gp];simp only[];omega) (by rw[T];exact Z);simp only at C;rw[T]at C;simp only[ae,azH,ds,reduceCtorEq,u2,s1,ba,d1,cH,aw,d2,s2,xZ,E];refine AC apS ac7 Ap ?_;simp only[ae,ds,reduceCtorEq];refine aT.cL kR [8] (.q 0 (.q 1 (.q 2 (.q 3 (.q 4 (.q 5 (.q 6 (.q 7 (.a 8 .done))))))))) ?_;simp only[ae,bw,ds,reduceCtorEq,xZ,E,H,bd,C,aJ];refine ar ⟨.inr ⟨i,len+1,cap,_,F,rfl,by rw[jM,eh];exact hi,aM,?_,?_,.inl ⟨B,by rw[Ct];exact fU,Y⟩⟩,bx.trans' (J.set _ _ _),.inl rfl⟩
  .simp only[D9,D,G,A];omega
  .rw[e8,<-axC];exact aAj (by simp only[D9,D,G,A];omega)
theorem insertC(v:V)(k j:Nat)(a xs:List V)(h:I)(o:Own h 350 2 v a)(aB:a.length<2^40)(X:k*2<=a.length)(G:h.get j=.cells xs 350 eN)(H:j<h.n)(Y:aS v≠eL j)
  (s:xs.length=2) (L:xs.all (·.one)=e6) (Z:a.all (·.one)=e6):au mP 232 [v,.int gj (k:Nat),.bh j 0 1 1] h
   (λr h'=>Own h' 350 2 r (a.take (k*2)++xs++a.drop (k*2))/\J h h' (bb v)/\b6 h v r):=by
 refine au.Dm o (by decide) (λA aw=>?_) λi B cap c ex ad A ok dF kk aF=>?_
 .subst aw;obtain rfl:k=0:=by simp at X;omega
  have mU:Own h 350 2 (.bh j 0 1 1) xs:=.inr ⟨j,1,1,xs,eN,rfl,H,G,by rw[s],by rw[ajE (by omega)],.inl ⟨by unfold b9;omega,by omega,BY _⟩⟩;have di:=uc (P:=mP) (t:=282) u2 mU (n:=1) (by rw[s]) (by decide) L;obtain⟨M,h',N,gn,kH,fE⟩:=be (P:=mP) (t:=282) (tx:=282) Af (by decide) o di (by rw[s];rfl) (λm C=>by
   change m*2=_ at C;rw[s]at C;simp only[ayx]at C;exact⟨by simp only[lim];omega,by simp only[lim];omega⟩)
  obtain⟨e,O,Q⟩:=BH (P:=mP) u3;have R:((1:Nat):Int)=1:=rfl;have S:((0:Nat):Int)=0:=rfl;have u:Own h' 350 2 M (([]:List V).take (0*2)++xs++([]:List V).drop (0*2))/\J h h' (bb v)/\b6 h v M:=⟨by simpa using gn,kH,fE⟩;rcases A with rfl|rfl
  .have D:kX mP 282 .ah (eL (.int gj 0)) eN eN=eL .ah:=(by unfold kX;rw[O];simp only[Q];rfl);refine a7 aDg rfl ?_;simp only[ae,azH,ds,reduceCtorEq,u2,S,D,R,N,aJ];exact ar u
  .have D:kX mP 282 .z0 (eL (.int gj 0)) eN eN=eL .z0:=(by unfold kX;rw[O];simp only[Q];rfl);refine a7 aDg rfl ?_;simp only[ae,azH,ds,reduceCtorEq,u2,S,D,R,N,aJ];exact ar u
 .have E:aS v=eL i:=by rcases A with rfl|rfl<;>rfl
  have T:j≠i:=λU=>Y (by rw[E,U]);have W:=ok.2.2.1;refine(aqD i B cap k j c a xs ex ad ok (by omega) (by omega) ((kk.get j H T).trans G) (by omega) T s L Z).mono λr h' ⟨o',k',z⟩=>⟨o',(kk.trans' k').mono λq F=>by subst F;exact E,?_⟩;rcases z with z|z
  .exact .inl (by rw[z,E];rfl)
  .exact .inr λq F=>by have:=z q F;omega
theorem aqE(i len cap k:Nat)(c j:List V)(s:Option Nat)(h:I)(o:sF h 350 2 i len cap c s j)(aB:len<2^40)(hk:k<len)(X:j.all (·.one)=e6) :
  au mP 279 [.bh i 0 len cap,.int gj (k:Nat),.int gj ((k+1:Nat):Int)] h
   (λr h'=>Own h' 350 2 r (j.take (k*2)++j.drop ((k+1)*2))/\J h h' (λq=>q=i)/\aS r=eL i):=by
 refine a7 Tryz.func279 rfl ?_;have Y:=o;obtain⟨hi,A,N,O,u,Q,F⟩:=Y;obtain⟨gJ,Z⟩:=abz (P:=mP) (t:=282) (i:=i) (o:=0) (len:=len) (cap:=cap) (k:=.i64) (k2:=.i64) (k3:=.i64) (l:=k) (m:=k+1) (n:=len) u3 u (by omega) (by omega) F;have d1:((k:Int)==((k+1:Nat):Int))=false:=by simp;omega
 have s1:=J1 (P:=mP) (t:=282) (i:=i) (o:=0) (len:=len) (cap:=cap) (k:=.i64) (m:=k) u3 u (by omega);have s2:=BK (P:=mP) (t:=282) (i:=i) (o:=0) (len:=len) (cap:=cap) (k:=.i64) (l:=k+1) u3 u (by omega) F;have G:(j.take (k*2)).length=k*2:=by rw[ajB];omega
 have B:(j.drop ((k+1)*2)).length=(len-(k+1))*2:=by rw[azk];omega
 have b4:(c.drop ((k+1)*2)).take ((len-(k+1))*2)=j.drop ((k+1)*2):=by rw[<-O,aAJ];congr 1;omega
 have c9:len*2<=c.length:=by omega
 have Dw:∃b,kX mP 282 (.bh i 0 len cap) (eL (.int gj ((k+1:Nat):Int))) eN eN=eL b/\gS mP 2 282 b h=eL (len-(k+1),j.drop ((k+1)*2)):=by
  refine⟨_,s2,?_⟩;obtain⟨e,hZ,C⟩:=BH (P:=mP) u3;have ch:(j.drop ((k+1)*2)).all (·.one)=true:=ayy.2 λv aI=>ayy.1 X v (azT aI);unfold gS;simp only[hZ];by_cases R:cap=k+1
  .rw[gr R];have D:len-(k+1)=0:=by omega
   simp only[A,D,Nat.zero_mul,List.take_zero];rw[gr ⟨by omega,rfl⟩,azg (by omega)]
  .rw[gQ R,ayB];simp only[A];rw[b4,gr ⟨by omega,ch⟩]
 obtain⟨b,an,di⟩:=Dw;have kU:sF h 350 2 i k cap c s (j.take (k*2)):=⟨hi,A,G,by rw[<-O,azz,azb (by omega)],u,Q,by omega⟩;obtain⟨z,S,H,zH⟩:∃z,kd mP 282 282 (.bh i 0 k cap) b h=eL (.bh i 0 (len-1) cap,h.set i (.cells z 350 s))/\z.length=c.length/\z.take ((len-1)*2)=j.take (k*2)++j.drop ((k+1)*2):=by
  obtain⟨L,C,bq,T,fG,_⟩:=tr (P:=mP) Af;unfold kd;simp only[L,C,bq,T,di,axF,ayx,jS,ayB,AT];by_cases D:len-(k+1)=0
  .refine⟨c,?_,rfl,?_⟩
   .rw[gr D,show len-1=k by omega,QH A]
   .rw[show len-1=k by omega,kU.2.2.2.1,azg (by omega),axA]
  .refine⟨lay c (k*2) (j.drop ((k+1)*2)),?_,q9 _ _ _ (by rw[B];omega),?_⟩
   .rw[gQ D,gr ⟨by simp only[lim];omega,by simp only[lim];omega⟩];simp only[A];rw[gr u,gr (by omega),gr (by omega),show k+(len-(k+1))=len-1 by omega]
   .rw[Ql _ _ _ _ (by rw[B];omega) (by omega)];have:c.take ((len-1)*2)=j.take (k*2)++(c.drop (k*2)).take ((len-1-k)*2):=by
     rw[<-kU.2.2.2.1,show(len-1)*2=k*2+(len-1-k)*2 by omega,List.take_add]
    rw[this,WL _ _ _ G,azg (l:=(c.drop (k*2)).take ((len-1-k)*2)) (by rw[ajB,azk,B];omega),axA]
 obtain⟨M,E⟩:∃y,y=h.set i (.cells z 350 s):=⟨_,rfl⟩;rw[<-E]at S;have g1:M.get i=.cells z 350 s:=by rw[E];exact aM
 have W:=aby (P:=mP) (t:=282) (i:=i) (o:=0) (len:=len-1) (cap:=cap) (k:=.i64) (k2:=.i64) (l:=len-1) (m:=len) u3 u (by omega) F;rw[gQ (by omega),ayB]at W;have MX:BA mP 282 (.bh i ((len-1)*2) (len-(len-1)) (cap-(len-1))) M=eL (M.set i (.cells (lay z ((len-1)*2) (made [kA gj 0,kA gj 0] 1)) 350 s)):=by
  obtain⟨L,C,bq,T,fG,_⟩:=tr (P:=mP) Af;unfold BA;simp only[L,C,g1];rw[show len-(len-1)=1 by omega,gQ (by decide),gr ⟨rfl,by rw[C3,H];simp only[axF,ayx];omega⟩]
 simp only[ae,ds,reduceCtorEq,u2,Z,d1];refine aT.cL kR [6] (.q 0 (.q 1 (.q 2 (.q 3 (.q 4 (.q 5 (.a 6 (.q 7 .done)))))))) ?_;simp only[ae,bw,ds,reduceCtorEq,u2,s1,an,S,W,MX,aJ];refine ar ⟨.inr ⟨i,len-1,cap,_,s,rfl,by rw[jM,E,jM];exact hi,aM,?_,?_,.inl ⟨u,?_,by omega⟩⟩,?_,rfl⟩
 .rw[D9,G,B];omega
 .have hm:(made [kA gj 0,kA gj 0] 1).length=2:=rfl;unfold lay;rw[axC,aAG (by rw[ajB];omega),azz,Nat.min_self,zH]
 .rw[q9 _ _ _ (by rw[C3,H];simp only[axF,ayx];omega),H];exact Q
 .rw[E];exact(J.set _ _ _).trans' (J.set _ _ _)
theorem aqF(v:V)(k:Nat)(a:List V)(h:I)(o:Own h 350 2 v a)(H:a.length<2^40)(z:(k+1)*2<=a.length)(A:a.all (·.one)=e6) :
  au mP 279 [v,.int gj (k:Nat),.int gj ((k+1:Nat):Int)] h
   (λr h'=>Own h' 350 2 r (a.take (k*2)++a.drop ((k+1)*2))/\J h h' (bb v)/\b6 h v r):=by
 refine au.Dm o (by decide) (λm aw=>?_) λi j cap c B C m ok L kk M=>?_
 .subst aw;simp at z
 .have s:aS v=eL i:=by rcases m with rfl|rfl<;>rfl
  have u:=ok.2.2.1;refine(aqE i j cap k c a B C ok (by omega) (by omega) A).mono λr h' ⟨D,E,F⟩=>⟨D,(kk.trans' E).mono λq G=>by subst G;exact s,.inl (by rw[F,s])⟩
abbrev dM:=Int×Int
def jB(l:List dM):Prop:=l.Pairwise λa b=>a.1<b.1
def look:List dM->Int->Option Int
 | [],_=>eN
 | p::r,k=>if p.1=k then eL p.2 else look r k
def put:List dM->Int->Int->List dM
 | [],k,v=>[(k,v)]
 | p::r,k,v=>if p.1<k then p::put r k v else if p.1=k then(k,v)::r else(k,v)::p::r
def rm:List dM->Int->List dM
 | [],_=>[]
 | p::r,k=>if p.1=k then r else p::rm r k
def pos:List dM->Int->Nat
 | [],_=>0
 | p::r,k=>if p.1<k then pos r k+1 else 0
def has(l:List dM)(k:Int):Bool:=(look l k).isSome
theorem GR:∀(l:List dM) (k:Int),pos l k<=l.length
 | [],_=>BY _
 | p::r,k=>by
  unfold pos;split
  .have:=GR r k;simp only[axF];omega
  .exact D8 _
theorem ac8:∀(l:List dM) (k:Int) (t:Nat) (p:dM),t<pos l k->l[t]?=eL p->p.1<k
 | [],_,t,p,h,_=>by simp[pos]at h
 | q::r,k,t,p,h,a=>by
  unfold pos at h;split at h
  .cases t with
   | zero=>simp at a;subst a;assumption
   | succ t=>exact ac8 r k t p (by omega) (by simpa using a)
  .omega
theorem ac9:∀{l:List dM},jB l->∀(k:Int) (t:Nat) (p:dM),pos l k<=t->l[t]?=eL p->k<=p.1
 | [],_,_,t,p,_,a=>by simp at a
 | q::r,j,k,t,p,h,a=>by
  have i:=ayA.1 j;unfold pos at h;split at h
  .cases t with
   | zero=>omega
   | succ t=>exact ac9 i.2 k t p (by omega) (by simpa using a)
  .cases t with
   | zero=>simp at a;subst a;omega
   | succ t=>
    have:=i.1 p (azc (by simpa using a));omega
theorem GS:∀{l:List dM} {k:Int},(∀p∈l,k<p.1)->look l k=eN
 | [],_,_=>rfl
 | q::r,k,h=>by
  unfold look;rw[gQ (by have:=h q (by simp);omega)];exact GS λp a=>h p (by simp[a])
theorem iR:∀{l:List dM},jB l->∀(k:Int),(has l k=e6/\∃p,l[pos l k]?=eL p/\p.1=k/\look l k=eL p.2)\/(has l k=fr/\look l k=eN/\∀p,l[pos l k]?=eL p->k<p.1)
 | [],_,k=>.inr ⟨rfl,rfl,by simp⟩
 | q::r,s,k=>by
  have j:=ayA.1 s;unfold has pos;by_cases m:q.1<k
  .rw[gr m];have:look (q::r) k=look r k:=by rw[look,gQ (by omega)]
   rw[this];simpa [has]using iR j.2 k
  .rw[gQ m];by_cases i:q.1=k
   .exact .inl ⟨by simp[look,i],q,by simp,i,by simp[look,i]⟩
   .have:look (q::r) k=none:=GS λp a=>by
     rcases IN.1 a with rfl|a
     .omega
     .have:=j.1 p a;omega
    exact .inr ⟨by rw[this];rfl,this,λp a=>by simp at a;subst a;omega⟩
theorem Rh:∀{l:List dM},jB l->∀(k v:Int),has l k=e6->put l k v=l.set (pos l k) (k,v)
 | [],_,k,v,h=>by simp[has,look]at h
 | q::r,m,k,v,h=>by
  have j:=ayA.1 m;unfold put pos;by_cases a:q.1<k
  .rw[gr a,gr a,List.set_cons_succ,Rh j.2 k v];have:look (q::r) k=look r k:=by rw[look,gQ (by omega)]
   rw[has,this]at h;exact h
  .rw[gQ a,gQ a];by_cases s:q.1=k
   .rw[gr s];rfl
   .exfalso;have:look (q::r) k=none:=GS λp i=>by
     rcases IN.1 i with rfl|i
     .omega
     .have:=j.1 p i;omega
    rw[has,this]at h;cases h
theorem WM:∀{l:List dM},jB l->∀(k v:Int),has l k=fr->put l k v=l.take (pos l k)++[(k,v)]++l.drop (pos l k)
 | [],_,k,v,h=>rfl
 | q::r,j,k,v,h=>by
  have m:=ayA.1 j;unfold put pos;by_cases a:q.1<k
  .rw[gr a,gr a,WM m.2 k v]
   .simp
   .have:look (q::r) k=look r k:=by rw[look,gQ (by omega)]
    rw[has,this]at h;exact h
  .rw[gQ a,gQ a];by_cases i:q.1=k
   .simp[has,look,i]at h
   .rw[gQ i];simp
theorem WN:∀{l:List dM},jB l->∀(k:Int),has l k=e6->rm l k=l.take (pos l k)++l.drop (pos l k+1)
 | [],_,k,h=>by simp[has,look]at h
 | q::r,m,k,h=>by
  have i:=ayA.1 m;unfold rm pos;by_cases j:q.1<k
  .rw[gQ (by omega),gr j,WN i.2 k]
   .simp
   .have:look (q::r) k=look r k:=by rw[look,gQ (by omega)]
    rw[has,this]at h;exact h
  .rw[gQ j];by_cases s:q.1=k
   .rw[gr s];simp
   .exfalso;have:look (q::r) k=none:=GS λp a=>by
     rcases IN.1 a with rfl|a
     .omega
     .have:=i.1 p a;omega
    rw[has,this]at h;cases h
theorem ada:∀{l:List dM} {k v:Int} {p:dM},p∈put l k v->p=(k,v)\/p∈l
 | [],k,v,p,h=>by simp[put]at h;exact .inl h
 | q::r,k,v,p,h=>by
  unfold put at h;split at h
  .rcases IN.1 h with rfl|h
   .exact .inr (by simp)
   .rcases ada h with h|h
    .exact .inl h
    .exact .inr (by simp[h])
  .split at h
   .rcases IN.1 h with rfl|h
    .exact .inl rfl
    .exact .inr (by simp[h])
   .rcases IN.1 h with rfl|h
    .exact .inl rfl
    .exact .inr h
theorem adb:∀{l:List dM} {k:Int} {p:dM},p∈rm l k->p∈l
 | [],k,p,h=>by simp[rm]at h
 | q::r,k,p,h=>by
  unfold rm at h;split at h
  .simp[h]
  .rcases IN.1 h with rfl|h
   .simp
   .simp[adb h]
theorem MY:∀{l:List dM},jB l->∀(k v:Int),jB (put l k v)
 | [],_,k,v=>by simp[put,jB]
 | q::r,j,k,v=>by
  have i:=ayA.1 j;unfold put;split
  .refine ayA.2 ⟨λp a=>?_,MY i.2 k v⟩;rcases ada a with rfl|a
   .assumption
   .exact i.1 p a
  .split
   .rename_i m s;exact ayA.2 ⟨λp a=>by have:=i.1 p a;simp only;omega,i.2⟩
   .refine ayA.2 ⟨λp a=>?_,j⟩;rcases IN.1 a with rfl|a
    .simp only;omega
    .have:=i.1 p a;simp only;omega
theorem MZ:∀{l:List dM},jB l->∀(k:Int),jB (rm l k)
 | [],_,k=>by simp[rm,jB]
 | q::r,i,k=>by
  have a:=ayA.1 i;unfold rm;split
  .exact a.2
  .exact ayA.2 ⟨λp j=>a.1 p (adb j),MZ a.2 k⟩
theorem Ri:∀(l:List dM) (k v x:Int),jB l->look (put l k v) x=if x=k then eL v else look l x
 | [],k,v,x,_=>by simp only[put,look];by_cases h:k=x<;>simp[h,eq_comm]
 | q::r,k,v,x,m=>by
  have s:=ayA.1 m;unfold put;by_cases j:q.1<k
  .rw[gr j,look,look,Ri r k v x s.2];by_cases a:q.1=x
   .rw[gr a,gQ (by omega),gr a]
   .rw[gQ a,gQ a]
  .rw[gQ j];by_cases a:q.1=k
   .rw[gr a,look,look];by_cases i:x=k
    .simp[i]
    .rw[gQ (by simp only;omega),gQ i,gQ (by omega)]
   .rw[gQ a,look];by_cases i:x=k
    .simp[i]
    .rw[gQ (by simp only;omega),gQ i]
theorem Rj:∀(l:List dM) (k x:Int),jB l->look (rm l k) x=if x=k then eN else look l x
 | [],k,x,_=>by simp[rm,look]
 | q::r,k,x,m=>by
  have i:=ayA.1 m;unfold rm;by_cases j:q.1=k
  .rw[gr j];by_cases a:x=k
   .rw[gr a];exact GS λp s=>by have:=i.1 p s;omega
   .rw[gQ a,look,gQ (by omega)]
  .rw[gQ j,look,look,Rj r k x i.2];by_cases a:q.1=x
   .rw[gr a,gQ (by omega),gr a]
   .rw[gQ a,gQ a]
theorem Rk:∀{l:List dM},jB l->∀{p:dM},p∈l->look l p.1=eL p.2
 | [],_,p,h=>by cases h
 | q::r,i,p,h=>by
  have a:=ayA.1 i;rcases IN.1 h with rfl|h
  .simp[look]
  .rw[look,gQ (by have:=a.1 p h;omega)];exact Rk a.2 h
theorem Rl:∀{l:List dM} {k v:Int},look l k=eL v->(k,v)∈l
 | [],_,_,h=>by cases h
 | q::r,k,v,h=>by
  unfold look at h;split at h
  .rename_i a;have:=Option.some.inj h;subst this;subst a;simp
  .simp[Rl h]
theorem ade:∀{a b:List dM},jB a->jB b->(∀k,look a k=look b k)->a=b
 | [],[],_,_,_=>rfl
 | [],q::r,_,an,h=>by have:=h q.1;simp[look]at this
 | q::r,[],aW,_,h=>by have:=h q.1;simp[look]at this
 | p::r,q::s,aW,an,h=>by
  have m:=ayA.1 aW;have u:=ayA.1 an;have i:=Rl (l:=q::s) (by rw[<-h p.1];exact Rk aW (p:=p) (by simp));have j:=Rl (l:=p::r) (by rw[h q.1];exact Rk an (p:=q) (by simp));have B:p=q:=by
   rcases IN.1 i with i|i
   .exact i
   .rcases IN.1 j with j|j
    .exact j.symm
    .have:=u.1 _ i;have:=m.1 _ j;simp only at *;omega
  subst B
  congr 1
  refine ade m.2 u.2 λk=>?_;by_cases A:p.1=k
  .rw[GS λx z=>by have:=m.1 x z;omega,GS λx z=>by have:=u.1 x z;omega]
  .have:=h k;rw[look,look,gQ A,gQ A]at this;exact this
theorem aqG:∀{l:List dM},jB l->∀(k v:Int),(put l k v).length=if has l k=e6 then l.length else l.length+1:=by
 intro l a k v;cases h:has l k
 .rw[WM a k v h];have:=GR l k;simp;omega
 .rw[Rh a k v h];simp
theorem aqH{l:List dM}(a:jB l)(k:Int)(h:has l k=e6):(rm l k).length+1=l.length:=by
 rw[WN a k h];rcases iR a k with⟨_,p,i,_⟩|⟨h',_⟩
 .have:=(axB.1 i).1;simp;omega
 .rw[h]at h';cases h'
theorem aqI{l:List dM}(a:jB l)(k:Int)(h:has l k=fr):rm l k=l:=by
 refine ade (MZ a k) a λx=>?_;rw[Rj l k x a];split
 .rename_i i;subst i;unfold has at h;cases j:look l x with
  | none=>rfl
  | some y=>rw[j]at h;cases h
 .rfl
structure ak where
 key:Int
 aO:Int
 to:Int
 val:Int
 del:Bool
 deriving DecidableEq
def aq(c:ak):List V:=[.int gj c.key,.int gj c.aO,.int gj c.to,.int gj c.val,.bool c.del]
theorem jo(r:ak):(aq r).length=5:=rfl
theorem WO(r:ak):(aq r).all (·.one)=true:=rfl
theorem za(r:ak):bc (aq r):=bc.cons (bf.int _ _) (bc.cons (bf.int _ _) (bc.cons (bf.int _ _) (bc.cons (bf.int _ _) (bc.cons (bf.bool _) bc.nil))))
theorem WQ(a b:ak){i j:Operand}:cB mP .neq 110 i j (.agg (aq a)) (.agg (aq b))=eL (.bool (decide (a≠b))):=by
 have h:gl [0,0,0,0,1] (aq a) (aq b)=eL (decide (a=b)):=by
  simp only[aq,gl,jS,azi,Option.some.injEq];rw[ay2];simp only[are,beq_iff_eq,ig,Bool.and_true]
  constructor
  .rintro⟨m,q,s,u,z⟩;cases a;cases b;simp_all
  .rintro rfl;simp
 rw[m7 apU h];simp
theorem M0{l:List ak}{k:Nat}(a:k<l.length){kk:aPh}:hC mP 52 (.ag l.length (l.flatMap aq)) (.int kk (k:Int))=eL (.at (aq l[k]++(l.drop (k+1)).flatMap aq)):=r0 jo a J7
theorem aqJ(a b:List ak)(h:I)(aW:a.length<=2^61):Pure mP 18 [.ag a.length (a.flatMap aq),.ag b.length (b.flatMap aq)] h (.bool (decide (a=b))):=by
 refine Pure.val (bf.bool _) ?_;refine a7 Tryz.func18 rfl ?_;by_cases O:a.length=b.length;rotate_left
 .have D:((a.length:Int) !=(b.length:Int))=true:=by simp;omega
  have E:decide (a=b)=false:=by simp only[hS];rintro rfl;exact O rfl
  simp only[ae,ds,reduceCtorEq,rl,D,aJ];exact ar ⟨by rw[E],J.refl _ _⟩
 have D:((a.length:Int) !=(b.length:Int))=false:=by simp[O]
 simp only[ae,ds,reduceCtorEq,rl,D];refine aT.bG (α:=Nat) (λi f h'=>f 0=.ag a.length (a.flatMap aq)/\f 1=.ag b.length (b.flatMap aq)/\f 5=.int gj (i:Nat)/\J h h' kR/\i<=a.length/\a.take i=b.take i) (λi=>a.length-i) 0
  ⟨rfl,rfl,rfl,J.refl _ _,D8 _,rfl⟩ ?_
 rintro i f X ⟨m,F,s,G,hi,H⟩
 refine wpS ?_;by_cases L:i<a.length;rotate_left
 .have C:=dY i a.length;rw[ajE (by omega),ajE (by omega)]at H;simp only[ae,ds,reduceCtorEq,rl,m,s,C,aJ];exact ar ⟨by rw[H];simp,G⟩
 .have C:=dK i a.length;have Q:i<b.length:=by omega
  have W:aPh.i64.wrap ((i:Int)+1)=((i+1:Nat):Int):=km L (by omega);have R:=M0 (kk:=.i64) L;have S:=M0 (kk:=.i64) Q;have T:∀(x:ak) (q:List V),cw (eL (eL 5)) (eL (aq x++q))=eL (.agg (aq x)):=λx q=>j1 (jo x);by_cases j:a[i]=b[i]
  .have M:a.take (i+1)=b.take (i+1):=(by rw[ayY L,ayY Q,H,j]);simp only[ae,ds,reduceCtorEq,rl,m,s,C];generalize a[i]=A at *;generalize b[i]=B at *;subst j;have N:∀u z,cB mP .neq 110 u z (.agg (aq A)) (.agg (aq A))=eL (.bool fr):=λu z=>by rw[WQ];simp
   refine aT.cL kR [] (.q 0 (.q 1 (.q 2 (.q 3 (.q 4 (.q 5 (.q 6 (.q 7 (.q 8 .done))))))))) ?_;simp only[ae,bw,ds,reduceCtorEq,al,m,F,s,R,S,N,T,W];exact ar ⟨i+1,⟨m,F,rfl,G,by omega,M⟩,by omega⟩
  .have E:decide (a=b)=false:=(by simp only[hS];rintro rfl;exact j rfl);simp only[ae,ds,reduceCtorEq,rl,m,s,C];generalize a[i]=A at *;generalize b[i]=B at *;have N:∀u z,cB mP .neq 110 u z (.agg (aq A)) (.agg (aq B))=eL (.bool e6):=λu z=>by rw[WQ];simp[j]
   refine aT.cL kR [] (.q 0 (.q 1 (.q 2 (.q 3 (.q 4 (.q 5 (.q 6 (.q 7 (.q 8 .done))))))))) ?_;simp only[ae,bw,ds,reduceCtorEq,al,m,F,s,R,S,N,T,aJ];exact ar ⟨by rw[E],G⟩
def fQ(p:dM):List V:=[.int gj p.1,.int gj p.2]
theorem Ar(p:dM):(fQ p).length=2:=rfl
theorem WR(p:dM):(fQ p).all (·.one)=true:=rfl
theorem aqK(l:List dM)(k:Nat)(p:dM)(a:k<l.length):lay (l.flatMap fQ) (k*2) (fQ p)=(l.set k p).flatMap fQ:=by
 unfold lay;rw[Di Ar,show k*2+(fQ p).length=(k+1)*2 by rw[Ar];omega,xR Ar,aAY,gr a];simp
structure fc(h:I)(i:Nat)(v:V)(room:Int)(l:List dM):Prop where
 lt:i<h.n
 get:h.get i=.cells [.int gj room,v] 284 eN
 own:Own h 350 2 v (l.flatMap fQ)
 ne:aS v≠eL i
 jC:jB l
 len:(l.length:Int)<=room
 room:room<=1024
theorem fc.w3{h:I}{i:Nat}{v:V}{room:Int}{l:List dM}(k:fc h i v room l):l.length<=1024:=by have:=k.len;have:=k.room;omega
theorem fc.rows{h:I}{i:Nat}{v:V}{room:Int}{l:List dM}(k:fc h i v room l):(l.flatMap fQ).length=l.length*2:=ft Ar l
theorem fc.ai{h h':I}{i:Nat}{v:V}{room:Int}{l:List dM}{own:Nat->Prop}(k:fc h i v room l)(s:J h h' own)(u:¬own i)(z:∀j,aS v=eL j->¬own j):fc h' i v room l :=
 ⟨IS k.lt s.n,(s.get i k.lt u).trans k.get,k.own.ai s z,k.ne,k.jC,k.len,k.room⟩
theorem fc.aY{h h':I}{i:Nat}{v:V}{room:Int}{l:List dM}(k:fc h i v room l)(j:J h h' kR):fc h' i v room l:=k.ai j (by simp[kR]) (by simp[kR])
theorem fc.rq{h h':I}{i:Nat}{v:V}{room:Int}{l:List dM}(k:fc h i v room l):dX mP 282 v h'=eL (.int gj (l.length:Nat)):=by
 have:=k.own.length (by decide) mP u2;rw[k.rows,aBu _ (by decide)]at this;rw[<-this];rcases k.own with⟨rfl|rfl,_⟩|⟨j,n,c,_,_,rfl,_⟩
 .rw[yY u2,yY u2]
 .rw[zN u2,zN u2]
 .rw[zM u2,zM u2]
theorem fc.row{h:I}{i:Nat}{v:V}{room:Int}{l:List dM}(k:fc h i v room l){t:Nat}{p:dM}(u:l[t]?=eL p) :
  ∃j s db,(∀kk,hC mP 282 v (.int kk (t:Int))=eL (.ptr j (t*2)))/\aS v=eL j/\j<h.n/\cI (h.get j) (t*2)=eL (.int gj p.1::.int gj p.2::s)/\cI (h.get j) (t*2+1)=eL (.int gj p.2::db) /\
   ∀q:dM,∃ob,bD (eL 2) (h.get j) (t*2) (fQ q)=eL ob/\Own (h.set j ob) 350 2 v ((l.set t q).flatMap fQ)/\J h (h.set j ob) (bb v):=by
 have z:=(axB.1 u).1;have G:((l.flatMap fQ).drop (t*2)).take 2=fQ p:=by
  rw[xR Ar,show 2=1*2 from rfl,Di Ar,ay0 z,(axB.1 u).2];simp
 obtain⟨j,Q,A,H,B,L⟩:=VV (P:=mP) (t:=282) (kk:=.i64) u3 (by decide) k.own (k:=t) (by rw[k.rows];omega);obtain⟨s,C⟩:=B h 0 rfl (by decide);obtain⟨db,D⟩:=B h 1 rfl (by decide);rw[G]at C D;refine⟨j,s,db,λkk=>?_,A,H,C,D,λq=>?_⟩
 .obtain⟨iz,M,E,_⟩:=VV (P:=mP) (t:=282) (kk:=kk) u3 (by decide) k.own (k:=t) (by rw[k.rows];omega);rw[A]at E;cases E;exact M
 .obtain⟨ob,N,F,O⟩:=L (fQ q) (Ar q) (WR q);rw[aqK l t q z]at F;exact⟨ob,N,F,O⟩
theorem aqL(h:I)(i a b t:Nat)(v:V)(m key:Int)(l:List dM)(p:dM)(k:fc h i v m l)(aW:h.get a=.cells [.ptr i 0] 256 eN)(an:h.get b=.cells [.int gj key] 2 eN)(u:l[t]?=eL p) :
  Pure mP 244 [.int gj (t:Nat),.ptr a 0,.ptr b 0] h (.bool (decide (key<=p.1))):=by
 refine a7 Tryz.func244 rfl ?_;obtain⟨j,B,db,s,_,_,z,_⟩:=k.row u;have A:=k.get;have s:=s gj;simp only[ae];refine aT.cL kR [] (.q 0 (.q 1 (.q 2 (.q 3 (.q 4 (.q 5 (.q 6 (.q 7 (.q 8 (.q 9 (.q 10 .done))))))))))) ?_;simp only[ae,bw,ds,AT,By,reduceCtorEq,al,aW,an,A,s,z,aJ];exact ar ⟨rfl,rfl⟩
theorem WS(h:I)(i:Nat)(v:V)(m key:Int)(l:List dM)(k:fc h i v m l) :
  Pure mP 229 [.ptr i 0,.int gj key] h (.tuple [.int gj (pos l key:Nat),.bool (has l key)]):=by
 refine Pure.val (bf.tuple (bc.cons (bf.int _ _) (bc.cons (bf.bool _) bc.nil))) ?_;refine a7 Tryz.func229 rfl ?_;obtain⟨H,hH⟩:∃y,y=(h.push (.cells [.ptr i 0] 256 eN)).push (.cells [.int gj key] 2 eN):=⟨_,rfl⟩;have z:H.get h.n=.cells [.ptr i 0] 256 none:=by rw[hH];exact yZ
 have D:H.get (h.n+1)=.cells [.int gj key] 2 none:=by rw[hH];exact zO
 have A:J h H kR:=by rw[hH];exact(J.push _ _ _).bp _
 have kk:=k.aY A;have B:=kk.get;simp only[ae,ds,al];rw[<-hH];clear hH;have C:=kk.rq (h':=H);simp only[ae,ds,AT,By,B,C];refine bE (aqA l.length _ _ (λt=>match l[t]? with|some p=>decide (key<=p.1)|none=>e6) H (by have:=k.w3;omega) apQ (λt E=>?_) (pos l key) (GR l key) (λt E=>?_) (λt N Q=>?_)) ?_
 .have a:l[t]?=eL l[t]:=Jt E;rw[a];exact aqL H i h.n (h.n+1) t v m key l l[t] kk z D a
 .cases a:l[t]? with
  | none=>have:=GR l key;rw[List.getElem?_eq_none_iff]at a;omega
  | some p=>have:=ac8 l key t p E a;simp only[hS];omega
 .cases a:l[t]? with
  | none=>rfl
  | some p=>have:=ac9 k.jC key t p N a;simp only[ig];exact this
 have R:=GR l key;rcases iR k.jC key with⟨az,p,bd,F,S⟩|⟨az,bd,F⟩
 .obtain⟨j,O,db,s,_,_,G,_⟩:=kk.row bd;have s:=s gj;have M:=(axB.1 bd).1;have u:decide (((pos l key:Nat):Int)<(l.length:Int))=true:=hO (by omega);have L:(p.1==key)=true:=by simp[F]
  simp only[ae,ds];refine aT.cL kR [] (.q 0 (.q 1 (.q 2 (.q 3 (.q 4 (.q 5 (.q 6 (.q 7 (.q 8 (.q 9 (.q 10 (.q 11 (.q 12 (.q 13 (.q 14 (.q 15 (.q 16 (.q 17 (.q 18 (.q 19 (.q 20 (.q 21 .done)))))))))))))))))))))) ?_;simp only[ae,bw,ds,AT,By,al,z,D,B,C,u,s,G,L,aJ];exact ar ⟨by rw[az],A⟩
 .by_cases M:pos l key<l.length
  .have a:l[pos l key]?=eL l[pos l key]:=Jt M;obtain⟨j,O,db,s,_,_,G,_⟩:=kk.row a;have s:=s gj;have u:decide (((pos l key:Nat):Int)<(l.length:Int))=true:=hO (by omega);have L:(l[pos l key].1==key)=false:=by have:=F _ a;simp;omega
   simp only[ae,ds];refine aT.cL kR [] (.q 0 (.q 1 (.q 2 (.q 3 (.q 4 (.q 5 (.q 6 (.q 7 (.q 8 (.q 9 (.q 10 (.q 11 (.q 12 (.q 13 (.q 14 (.q 15 (.q 16 (.q 17 (.q 18 (.q 19 (.q 20 (.q 21 .done)))))))))))))))))))))) ?_;simp only[ae,bw,ds,AT,By,al,z,D,B,C,u,s,G,L,aJ];exact ar ⟨by rw[az],A⟩
  .have u:decide (((pos l key:Nat):Int)<(l.length:Int))=false:=hK (by omega);simp only[ae,ds];refine aT.cL kR [] (.q 0 (.q 1 (.q 2 (.q 3 (.q 4 (.q 5 (.q 6 (.q 7 (.q 8 (.q 9 (.q 10 (.q 11 (.q 12 (.q 13 (.q 14 (.q 15 (.q 16 (.q 17 (.q 18 (.q 19 (.q 20 (.q 21 .done)))))))))))))))))))))) ?_;simp only[ae,bw,ds,AT,By,al,z,B,C,u,aJ];exact ar ⟨by rw[az],A⟩
theorem WT(p:dM)(h:I):Pure mP 233 [.agg (fQ p)] h (.agg (aq ⟨p.1,0,0,p.2,fr⟩)):=by
 refine Pure.val (bf.agg (za _)) ?_;refine a7 Tryz.func233 rfl ?_;have aw:(kB (fQ p)).cells=eL [.int gj p.1,.int gj p.2]:=rfl;simp only[ae,ds,AT,By,al,aw,aJ];exact ar ⟨rfl,(J.push _ _ _).bp _⟩
def Rm:ak:=⟨0,0,0,0,fr⟩
def full(a:Int)(l:List dM)(k:Int):Bool:=!has l k&&decide (a<=(l.length:Int))
def ll(a:Int)(l:List dM)(k v:Int):List dM:=if full a l k then l else put l k v
def ln(a:Int)(l:List dM)(k v:Int):ak:=if full a l k then Rm else⟨k,0,0,v,fr⟩
def oC(a:Int)(l:List dM)(k:Int):Int:=if full a l k then 3 else 0
theorem aqM{room:Int}{l:List dM}{k:Int}(h:has l k=e6):full room l k=false:=by simp[full,h]
theorem aqN{room:Int}{l:List dM}{k:Int}(h:has l k=fr):full room l k=decide (room<=(l.length:Int)):=by simp[full,h]
def vi(i:Nat)(v:V):Nat->Prop:=λq=>q=i\/bb v q
theorem aqO(h:I)(p:dM):am mP 282 1 [(0,.agg (fQ p))] h=eL (.bh h.n 0 1 1,h.push (.cells (fQ p) 350 eN)):=QF Af rfl rfl (by decide)
theorem adg(h:I)(i:Nat)(v:V)(m key val:Int)(l:List dM)(k:fc h i v m l) :
  au mP 215 [.ptr i 0,.int gj key,.int gj val] h (λr h'=>∃v',r=.tuple [.agg (aq (ln m l key val)),.int gj (oC m l key)]/\fc h' i v' m (ll m l key val)/\J h h' (vi i v)/\b6 h v v'):=by
 refine a7 Tryz.func215 rfl ?_;obtain⟨H,hH⟩:∃y,y=(h.push (.cells [.int gj 0,.int gj 0,.int gj 0,.int gj 0,.bool fr] 110 eN)).push (.cells [.int gj key,.int gj val] 350 eN):=⟨_,rfl⟩;have Y:H.get h.n=.cells [.int gj 0,.int gj 0,.int gj 0,.int gj 0,.bool fr] 110 none:=by rw[hH];exact yZ
 have O:H.get (h.n+1)=.cells [.int gj key,.int gj val] 350 none:=by rw[hH];exact zO
 have Q:J h H kR:=by rw[hH];exact(J.push _ _ _).bp _
 have hx:H.n=h.n+2:=by rw[hH];rfl
 have kk:=k.aY Q;have C:=kk.get;have b7:=k.lt;simp only[ae,ds,AT,By,reduceCtorEq,al];rw[<-hH];clear hH;refine bE (WS H i v m key l kk) ?_;have aB:=kk.rq (h':=H);rcases iR k.jC key with⟨az,p,bd,c2,hE⟩|⟨az,bd,c2⟩
 .have z:=aqM (room:=m) az;have D:ln m l key val=⟨key,0,0,val,fr⟩:=by simp[ln,z]
  have E:oC m l key=0:=by simp[oC,z]
  have F:ll m l key val=l.set (pos l key) (key,val):=by rw[ll,z];exact Rh k.jC key val az
  rw[D,E,F];obtain⟨j,pk,db,Z,R,zb,_,_,x0⟩:=kk.row bd;have Z:=Z gj;obtain⟨G,BP,WU,y3⟩:=x0 (key,val);unfold fQ at BP;have iD:j≠i:=λU=>kk.ne (by rw[R,U]);have af:j<h.n:=k.own.lt j R;have z0:(H.set j G).get h.n=_:=(nk (by omega)).trans Y;have Rn:(H.set j G).get (h.n+1)=_:=(nk (by omega)).trans O;simp only[ae,ds,az];refine aT.cL kR [7] (.q 0 (.q 1 (.q 2 (.q 3 (.q 4 (.q 5 (.q 6 (.a 7 .done)))))))) ?_;simp only[ae,bw,ds,AT,By,reduceCtorEq,al,O,C,Z,BP,Rn];refine bE (WT (key,val) _) ?_;have fU:(kB (aq ⟨key,0,0,val,fr⟩)).cells=eL [.int gj key,.int gj 0,.int gj 0,.int gj val,.bool fr]:=rfl;simp only[ae,ds,AT,al,z0,fU,aJ];have A:J (H.set j G) ((H.set j G).set h.n (.cells [.int gj key,.int gj 0,.int gj 0,.int gj val,.bool fr] 110 eN)) (λq=>q=h.n):=J.set _ _ _;have kw:J H (H.set j G) (λq=>q=j):=J.set _ _ _;refine ar ⟨v,rfl,⟨by rw[jM,jM];exact kk.lt,?_,WU.ai A λq s=>by rw[R]at s;cases s;omega,k.ne,?_,by rw[List.length_set];exact k.len,k.room⟩,?_,.inl rfl⟩
  .rw[nk (by omega),nk (by omega)];exact C
  .rw[<-Rh k.jC key val az];exact MY k.jC _ _
  .refine((Q.up (o:=vi i v)).trans kw λq s U=>.inr ?_).trans A λq s U=>by omega
   subst U;exact R
 .have z:=aqN (room:=m) az;by_cases S:m<=(l.length:Int)
  .have z:full m l key=true:=(by rw[z];exact hO S);have D:ln m l key val=Rm:=(by simp[ln,z]);have E:oC m l key=3:=(by simp[oC,z]);have F:ll m l key val=l:=(by simp[ll,z]);rw[D,E,F];have d1:decide (m<=(l.length:Int))=true:=hO S;simp only[ae,ds,az];refine aT.cL kR [] (.q 0 (.q 1 (.q 2 (.q 3 (.q 4 (.q 5 (.q 6 (.q 7 (.q 8 (.q 9 (.q 10 (.q 11 (.q 12 (.q 13 (.q 14 .done))))))))))))))) ?_;simp only[ae,bw,ds,AT,By,reduceCtorEq,al,Y,C,aB,d1,aJ];have A:J H (H.set h.n (.cells [.int gj 0,.int gj 0,.int gj 0,.int gj 0,.bool fr] 110 eN)) (λq=>q=h.n):=J.set _ _ _;refine ar ⟨v,rfl,kk.ai A (by omega) λq s=>by have:=k.own.lt q s;omega,?_,.inl rfl⟩;exact(Q.up (o:=vi i v)).trans A λq s U=>by omega
  .have z:full m l key=false:=(by rw[z];exact hK S);have D:ln m l key val=⟨key,0,0,val,fr⟩:=(by simp[ln,z]);have E:oC m l key=0:=(by simp[oC,z]);have F:ll m l key val=put l key val:=(by simp[ll,z]);rw[D,E,F];have d1:decide (m<=(l.length:Int))=false:=hK S;simp only[ae,ds,az];refine aT.cL kR [] (.q 0 (.q 1 (.q 2 (.q 3 (.q 4 (.q 5 (.q 6 (.q 7 (.q 8 (.q 9 (.q 10 (.q 11 (.q 12 (.q 13 (.q 14 .done))))))))))))))) ?_;simp only[ae,bw,ds,AT,By,reduceCtorEq,al,C,aB,d1];have f1:bb v i=False:=eq_false λU=>k.ne U;have f2:bb v (h.n+1)=False:=eq_false λU=>by have:=k.own.lt _ U;omega
   obtain⟨bZ,bN,L,dD,c6⟩:=bU H (.cells (fQ (key,val)) 350 eN);have c4:=kk.aY L;have eY:=aqO H (key,val);rw[<-bN]at eY;unfold fQ at eY;refine aT.cL (λx=>bb v x) [7,8,11] (.q 0 (.q 1 (.q 2 (.q 3 (.q 4 (.q 5 (.q 6 (.e 7 (.e 8 (.q 9 (.q 10 (.a 11 .done))) .stop) .stop)))))))) ?_;simp only[ae,bw,e4,ds,AT,By,reduceCtorEq,al,O,C,f1,f2,eY];refine⟨L.up,?_⟩;refine cp (insertC v (pos l key) H.n (l.flatMap fQ) (fQ (key,val)) bZ c4.own (by rw[k.rows];have:=k.w3;omega) (by rw[k.rows];have:=GR l key;omega) dD (by omega) (λU=>by have:=k.own.lt _ U;omega) rfl rfl (LN WR l)) λr T ⟨W,M,u⟩=>?_;have mI:(l.flatMap fQ).take (pos l key*2)++fQ (key,val)++(l.flatMap fQ).drop (pos l key*2)=(put l key val).flatMap fQ:=by
    rw[Di Ar,xR Ar,WM k.jC key val az];simp
   rw[mI]at W;have vj:=(M.get i (by omega) (by rw[f1];exact id)).trans c4.get;have E5:=(M.get h.n (by omega) (λU=>by have:=k.own.lt _ U;omega)).trans ((L.get h.n (by omega) (by simp[kR])).trans Y);have aa:=(M.get (h.n+1) (by omega) (by rw[f2];exact id)).trans ((L.get (h.n+1) (by omega) (by simp[kR])).trans O);have j5:r.one=true:=by
    rcases W with⟨rfl|rfl,_⟩|⟨_,_,_,_,_,rfl,_⟩<;>rfl
   have h5:r.cells=eL [r]:=by
    rcases W with⟨rfl|rfl,_⟩|⟨_,_,_,_,_,rfl,_⟩<;>rfl
   have dI:bD (eL 1) (aP.cells [kA gj m,v] 284 eN) 1 [r]=eL (.cells [.int gj m,r] 284 eN):=(by rw[rb j5];rfl);have E6:J H T (λx=>bb v x):=(L.up).trans' M;have n3:=M.n;simp only[ae,bw,e4,ds,al,vj,h5,dI,E6];obtain⟨B,N⟩:∃y,y=T.set i (.cells [kA gj m,r] 284 eN):=⟨_,rfl⟩;have X:J T B (λq=>q=i):=by rw[N];exact J.set _ _ _
   have z0:B.get h.n=_:=(X.get h.n (by omega) (by omega)).trans E5;have Rn:B.get (h.n+1)=_:=(X.get (h.n+1) (by omega) (by omega)).trans aa;have ad:B.get i=.cells [.int gj m,r] 284 none:=(by rw[N];exact aM);have n4:B.n=T.n:=(by rw[N];rfl);have kg:aS r≠eL i:=λU=>by
    rcases u with u|u
    .rw[u]at U;exact k.ne U
    .have:=u i U;omega
   have mK:Own B 350 2 r ((put l key val).flatMap fQ):=W.ai X λq s U=>kg (by rw[s,U]);rw[<-N];clear N;simp only[ae,ds,AT,Rn];refine bE (WT (key,val) _) ?_;have fU:(kB (aq ⟨key,0,0,val,fr⟩)).cells=eL [.int gj key,.int gj 0,.int gj 0,.int gj val,.bool fr]:=rfl;simp only[ae,ds,AT,al,z0,fU,aJ];have A:J B (B.set h.n (.cells [.int gj key,.int gj 0,.int gj 0,.int gj val,.bool fr] 110 eN)) (λq=>q=h.n):=J.set _ _ _;have nx:∀q,aS r=eL q->q≠h.n:=λq s U=>by
    rcases u with u|u
    .rw[u]at s;have:=k.own.lt q s;omega
    .have:=u q s;omega
   refine ar ⟨r,rfl,⟨by rw[jM];omega,?_,mK.ai A λq s=>nx q s,kg,MY k.jC _ _,?_,k.room⟩,?_,?_⟩
   .rw[nk (by omega)];exact ad
   .rw[aqG k.jC,gQ (by rw[az];simp)];omega
   .refine(((Q.up (o:=vi i v)).trans E6 λq s U=>.inr U).trans X λq s U=>.inl U).trans A λq s U=>by omega
   .rcases u with u|u
    .exact .inl u
    .exact .inr λq s=>by have:=u q s;omega
def As(l:List dM)(k:Int):ak:=if has l k then⟨k,0,0,0,e6⟩else Rm
def vT(l:List dM)(k:Int):Int:=if has l k then 0 else 6
theorem aqQ(h:I)(i:Nat)(v:V)(a key:Int)(l:List dM)(k:fc h i v a l) :
  au mP 278 [.ptr i 0,.int gj key] h (λr h'=>∃E,r=.tuple [.agg (aq (As l key)),.int gj (vT l key)]/\fc h' i E a (rm l key)/\J h h' (vi i v)/\b6 h v E):=by
 refine a7 Tryz.func278 rfl ?_;obtain⟨H,hH,B,F,hx⟩:=bU h (.cells [.int gj 0,.int gj 0,.int gj 0,.int gj 0,.bool fr] 110 eN);have kk:=k.aY B;have G:=kk.get;have b7:=k.lt;simp only[ae,ds,reduceCtorEq,al];rw[<-hH];clear hH;refine bE (WS H i v a key l kk) ?_;rcases iR k.jC key with⟨az,p,bd,N,hE⟩|⟨az,bd,N⟩;rotate_left
 .have C:As l key=Rm:=by simp[As,az]
  have D:vT l key=6:=by simp[vT,az]
  rw[C,D,aqI k.jC key az];simp only[ae,ds,AT,al,az,F,aJ];have s:J H (H.set h.n (.cells [.int gj 0,.int gj 0,.int gj 0,.int gj 0,.bool fr] 110 eN)) (λq=>q=h.n):=J.set _ _ _;refine ar ⟨v,rfl,kk.ai s (by omega) λq j=>by have:=k.own.lt q j;omega,?_,.inl rfl⟩;exact(B.up (o:=vi i v)).trans s λq j U=>by omega
 have C:As l key=⟨key,0,0,0,e6⟩:=by simp[As,az]
 have D:vT l key=0:=by simp[vT,az]
 rw[C,D];have O:=(axB.1 bd).1;have Q:=km O (by have:=k.w3;omega);simp only[ae,ds,AT,By,reduceCtorEq,al,az,G,Q];have GU:=GR l key;refine cp (aqF v (pos l key) (l.flatMap fQ) H kk.own (by rw[k.rows];have:=k.w3;omega) (by rw[k.rows];omega) (LN WR l)) λr u ⟨z,A,m⟩=>?_;have R:(l.flatMap fQ).take (pos l key*2)++(l.flatMap fQ).drop ((pos l key+1)*2)=(rm l key).flatMap fQ:=by
  rw[Di Ar,xR Ar,WN k.jC key az];simp
 rw[R]at z;have S:=(A.get i (by omega) (λU=>k.ne U)).trans G;have T:=(A.get h.n (by omega) (λU=>by have:=k.own.lt _ U;omega)).trans F;have W:r.one=true:=by
  rcases z with⟨rfl|rfl,_⟩|⟨_,_,_,_,_,rfl,_⟩<;>rfl
 have X:r.cells=eL [r]:=by
  rcases z with⟨rfl|rfl,_⟩|⟨_,_,_,_,_,rfl,_⟩<;>rfl
 have Y:bD (eL 1) (aP.cells [kA gj a,v] 284 eN) 1 [r]=eL (.cells [.int gj a,r] 284 eN):=by rw[rb W];rfl
 have n3:=A.n;have Z:(u.set i (.cells [kA gj a,r] 284 eN)).get h.n=_:=(nk (by omega)).trans T;simp only[ae,ds,AT,By,al,S,X,Y,Z,aJ];have L:aS r≠eL i:=λU=>by
  rcases m with m|m
  .rw[m]at U;exact k.ne U
  .have:=m i U;omega
 have nx:∀q,aS r=eL q->q≠h.n:=λq j U=>by
  rcases m with m|m
  .rw[m]at j;have:=k.own.lt q j;omega
  .have:=m q j;omega
 have M:J u (u.set i (.cells [kA gj a,r] 284 eN)) (λq=>q=i):=J.set _ _ _;have s:J (u.set i (.cells [kA gj a,r] 284 eN)) ((u.set i (.cells [kA gj a,r] 284 eN)).set h.n (.cells [.int gj key,.int gj 0,.int gj 0,.int gj 0,.bool e6] 110 eN)) (λq=>q=h.n):=J.set _ _ _;refine ar ⟨r,rfl,⟨by rw[jM,jM];omega,?_,(z.ai M λq j U=>L (by rw[j,U])).ai s λq j=>nx q j,L,MZ k.jC _,?_,k.room⟩,?_,?_⟩
 .rw[nk (by omega),aM]
 .have:=aqH k.jC key az;have:=k.len;omega
 .exact(((B.up (o:=vi i v)).trans A λq j U=>.inr U).trans M λq j U=>.inl U).trans s λq j U=>by omega
 .rcases m with m|m
  .exact .inl m
  .exact .inr λq j=>by have:=m q j;omega
theorem adh(h:I)(i:Nat)(v:V)(a key:Int)(l:List dM)(k:fc h i v a l) :
  Pure mP 212 [.ptr i 0,.int gj key] h (.tuple [.int gj ((look l key).getD 0),.bool (has l key)]):=by
 refine a7 Tryz.func212 rfl ?_;have q:=k.get;simp only[ae,ds,reduceCtorEq];refine bE (WS h i v a key l k) ?_;rcases iR k.jC key with⟨az,p,bd,s,u⟩|⟨az,bd,s⟩
 .obtain⟨j,A,db,m,_,_,_,z,_⟩:=k.row bd;have m:=m gj;simp only[ae,ds,AT,By,reduceCtorEq,al,az,q,m,z,aJ];exact ar ⟨by rw[u,az];rfl,rfl⟩
 .simp only[ae,ds,az,aJ];exact ar ⟨by rw[bd,az];rfl,rfl⟩
def Ro(p:dM):ak:=⟨p.1,0,0,p.2,fr⟩
def Kd(l:List dM):List ak:=l.map Ro
theorem Rp(h:I)(c:ak):am mP 52 1 [(0,.agg (aq c))] h=eL (.bh h.n 0 1 1,h.push (.cells (aq c) 110 eN)):=QF Ag rfl rfl (by decide)
theorem aqR(h:I)(i:Nat)(v:V)(B:Int)(l:List dM)(k:fc h i v B l):Pure mP 277 [.ptr i 0] h (.ag (Kd l).length ((Kd l).flatMap aq)):=by
 refine Pure.acc (xS za _) (ft jo _) (by decide) (e:=110) (sz:=5) ?_;refine a7 Tryz.func277 rfl ?_;have O:=k.get;have Q:=k.rq (h':=h);have Im:=k.w3;simp only[ae,ds,AT,By,reduceCtorEq,al,O,Q];refine aT.bG (α:=Nat×V) (λx f h'=>f 3=x.2/\f 11=v/\f 12=.int gj (l.length:Nat)/\f 13=.int gj (x.1:Nat)/\x.1<=l.length/\Acc h h' 110 5 x.2 ((Kd (l.take x.1)).flatMap aq)) (λx=>l.length-x.1) (0,.ah)
  ⟨rfl,rfl,rfl,rfl,D8 _,Acc.nil (J.refl _ _)⟩ ?_
 rintro⟨t,s⟩ f M ⟨E,C,A,z,R,u⟩
 simp only at E z R u;refine wpS ?_;by_cases D:t<l.length
 .have F:=dK t l.length;have S:=km D (by omega);have T:=k.aY u.ai;obtain⟨j,pk,db,G,zb,x0,W,_,_⟩:=T.row (Jt D);have G:=G gj;have X:∀(a b:Int) (q:List V),cw (eL (eL 2)) (eL (kA gj a::kA gj b::q))=eL (.agg (fQ (a,b))):=λa b q=>rfl;have Y:∀p:dM,(kB (fQ p)).cells=eL (fQ p):=λ_=>rfl;have Z:∀p:dM,(if 2<=(fQ p).length then eL (kB (ay5 2 (fQ p)))else eN)=eL (.agg (fQ p)):=λ_=>rfl;have st:∀p:dM,bD (eL 2) (aP.cells [kA gj 0,kA gj 0] 350 eN) 0 (fQ p)=eL (.cells (fQ p) 350 eN):=λ_=>rfl;have GV:=u.on (J.push M (.cells (fQ (l[t].1,l[t].2)) 350 eN) kR);obtain⟨b3,ad,H,a2⟩:=GV.uV Ag (by decide) (xs:=aq (Ro l[t])) rfl rfl (λm L=>by
   change m*5=_+5 at L;rw[ft jo]at L;simp only[Kd,List.length_map,ajB]at L;exact⟨by simp only[lim];omega,by simp only[lim];omega⟩)
  simp only[ae,ds,al,E,C,A,z,F,G,W,X,Y,st,Z];refine bE (WT (l[t].1,l[t].2) _) ?_;have N:=Rp (M.push (.cells (fQ (l[t].1,l[t].2)) 350 eN)) (Ro l[t]);unfold Ro at N H;rw[dn]at H;simp only[ae,ds,z,N,H,S];refine ar ⟨(t+1,b3),⟨rfl,C,A,rfl,D,a2.conv ?_⟩,by simp only;omega⟩;rw[ayY D,Kd,Kd,List.map_append,ay3];simp
 .have F:=dY t l.length;rw[ajE (by omega)]at u;simp only[ae,ds,E,A,z,F,aJ];exact ar u
def nJ(c:ak):Bool:=c.aO !=0||c.to !=0||(c.del&&c.val !=0)
def vl(a:Int)(l:List dM)(c:ak):List dM:=if nJ c then l else if c.del then rm l c.key else ll a l c.key c.val
def Au(a:Int)(l:List dM)(c:ak):Int:=if nJ c then 5 else if c.del then vT l c.key else oC a l c.key
theorem b6.later{h H:I}{v i:V}(d:b6 H v i)(j:h.n<=H.n):b6 h v i:=by
 rcases d with d|d
 .exact .inl d
 .exact .inr λq s=>UN j (d q s)
theorem WV(h:I)(i:Nat)(v:V)(a:Int)(c:ak)(l:List dM)(k:fc h i v a l) :
  au mP 275 [.ptr i 0,.agg (aq c)] h (λr h'=>∃A,r=.int gj (Au a l c)/\fc h' i A a (vl a l c)/\J h h' (vi i v)/\b6 h v A):=by
 refine a7 Tryz.func275 rfl ?_;obtain⟨j,q,s,m,u⟩:=c;have C:(kB (aq ⟨j,q,s,m,u⟩)).cells=eL [.int gj j,.int gj q,.int gj s,.int gj m,.bool u]:=rfl;have D:J h (h.push (.cells [.int gj j,.int gj q,.int gj s,.int gj m,.bool u] 110 eN)) kR:=J.push _ _ _;have kk:=k.aY D;have M:h.n<=(h.push (.cells [.int gj j,.int gj q,.int gj s,.int gj m,.bool u] 110 eN)).n:=D.n;have F:nJ ⟨j,q,s,m,u⟩=e6->∃A,(kA gj 5)=.int gj (Au a l ⟨j,q,s,m,u⟩)/\fc (h.push (.cells [.int gj j,.int gj q,.int gj s,.int gj m,.bool u] 110 eN)) i A a (vl a l ⟨j,q,s,m,u⟩)/\J h (h.push (.cells [.int gj j,.int gj q,.int gj s,.int gj m,.bool u] 110 eN)) (vi i v)/\b6 h v A:=λan=>
  ⟨v,by rw[Au,an];rfl,by rw[vl,an];exact kk,D.up,.inl rfl⟩
 cases z:(q !=0);rotate_left
 .simp only[ae,ds,AT,By,al,C,z,aJ];exact ar (F (by simp[nJ,z]))
 cases B:(s !=0);rotate_left
 .simp only[ae,ds,AT,By,al,C,z,B,aJ];exact ar (F (by simp[nJ,z,B]))
 cases u
 .have an:nJ ⟨j,q,s,m,fr⟩=false:=by simp[nJ,z,B]
  simp only[ae,ds,AT,By,reduceCtorEq,al,C,z,B];refine cp (adg _ i v a j m l kk) λr N ⟨A,bd,G,H,L⟩=>?_;subst bd;simp only[ae,ds,aJ];refine ar ⟨A,by rw[Au,an];rfl,by rw[vl,an];exact G,(D.up).trans' H,b6.later L M⟩
 cases E:(m !=0);rotate_left
 .simp only[ae,ds,AT,By,al,C,z,B,E,aJ];exact ar (F (by simp[nJ,z,B,E]))
 have an:nJ ⟨j,q,s,m,e6⟩=false:=by simp[nJ,z,B,E]
 simp only[ae,ds,AT,By,reduceCtorEq,al,C,z,B,E];refine cp (aqQ _ i v a j l kk) λr N ⟨A,bd,G,H,L⟩=>?_;subst bd;simp only[ae,ds,aJ];refine ar ⟨A,by rw[Au,an];rfl,by rw[vl,an];exact G,(D.up).trans' H,b6.later L M⟩
theorem aqS(h:I)(a:Int)(q:1<=a)(i:a<=1024):au mP 147 [.int gj a] h (λr h'=>r=.tuple [.ptr h.n 0,.int gj 0]/\fc h' h.n .ah a []/\J h h' kR):=by
 refine a7 Tryz.func147 rfl ?_;have j:decide (a<1)=false:=hK (by omega);have m:decide (1024<a)=false:=hK (by omega);simp only[ae,ds,AT,By,reduceCtorEq,al,j,m,aJ];exact ar ⟨rfl,⟨by rw[dn];omega,ac,.inl ⟨.inl rfl,rfl⟩,by simp[aS],azM.nil,by simp;omega,i⟩,J.push _ _ _⟩
structure Rec where
 k:Int
 v:Int
 t:Int
 deriving DecidableEq
def aR(r:Rec):List V:=[.int gj r.k,.int gj r.v,.int gj r.t]
theorem Av(r:Rec):(aR r).length=3:=rfl
theorem aqT(r:Rec):(aR r).all (·.one)=true:=rfl
theorem M1(r:Rec):bc (aR r):=bc.cons (bf.int _ _) (bc.cons (bf.int _ _) (bc.cons (bf.int _ _) bc.nil))
structure bC where
 kind:Int
 bn:List Int
 e:cd
 n:Int
def ao(v:bC):List V:=[.int gj v.kind,.ag v.bn.length (ax v.bn)]++aN v.e++[.int gj v.n]
theorem lp(v:bC):(ao v).length=6:=by simp[ao,r5]
theorem aqU(v:bC):bc (ao v) :=
 ((bc.cons (bf.int _ _) (bc.cons (bf.ag (y1 _)) bc.nil)).append (Wl v.e)).append (bc.cons (bf.int _ _) bc.nil)
structure aqV(h:I)(a:Nat)(i:Nat)(v:V)(e:cd)(n:Int)(l:List dM):Prop where
 lt:a<h.n
 get:h.get a=.cells (aN e++[.int gj n,.iface 256 (.ptr i 0)]) 218 eN
 lk:fc h i v 1024 l
 ne:a≠i
 axU:aS v≠eL a
theorem aqW(x:bC)(a:x.kind=6)(h:I):au mP 113 [.agg (ao x)] h (λr h'=>∃i,r=.tuple [.iface 256 (.ptr i 0),.int gj 0]/\h.n<=i/\fc h' i .ah 1024 []/\J h h' kR):=by
 refine a7 Tryz.func113 rfl ?_;obtain⟨s,j,⟨o,m,q⟩,n⟩:=x;have a:s=6:=a;subst a;have a:ao ⟨6,j,.mk o m q,n⟩=[.int gj 6,.ag j.length (ax j),.int gj o,.int gj m,.ag q.length (q.flatMap aN),.int gj n]:=by simp[ao,l0]
 rw[a];have u:J h (h.push (.cells [.int gj 6,.ag j.length (ax j),.int gj o,.int gj m,.ag q.length (q.flatMap aN),.int gj n] 68 eN)) kR:=J.push _ _ _;simp only[ae,ds,AT,al];refine cp (aqS _ 1024 (by decide) (by decide)) λr B ⟨az,z,A⟩=>?_;subst az;simp only[ae,ds,al,aJ];exact ar ⟨_,rfl,by omega,z,u.trans' A⟩
mutual
theorem WW:(e:cd)->∀b∈dj e,b<256
 | .mk o n l=>λb an=>by
  rw[dj]at an;simp only[axE]at an;rcases an with(an|an)|an
  .exact BL _ _ (BY _) b an
  .split at an
   .exact BL _ _ (BY _) b an
   .cases an
  .exact adi l b an
theorem adi:(l:List cd)->∀b∈EU l,b<256
 | []=>λb an=>by rw[EU]at an;cases an
 | k::r=>λb an=>by
  rw[EU]at an;rcases axE.1 an with an|an
  .exact WW k b an
  .exact adi r b an
end
theorem GX(i:Nat):jJ mP (.iface 256 (.ptr i 0)) 256 e6=eL (.tuple [.ptr i 0,.bool e6]):=by
 unfold jJ;rw[Tryz.underlying256];rfl
theorem adj(t:Int)(h:I):Pure mP 196 [.int gj t] h (.bool (decide (0<=t/\t<=1099511627776))):=by
 refine a7 Tryz.func196 rfl ?_;by_cases a:0<=t
 .have i:decide (0<=t)=true:=hO a;by_cases j:t<=1099511627776
  .have m:decide (t<=1099511627776)=true:=hO j;simp only[ae,ds,reduceCtorEq,i,m,aJ];exact ar ⟨by rw[hO (⟨a,j⟩:0<=t/\t<=1099511627776)],rfl⟩
  .have m:decide (t<=1099511627776)=false:=hK j;simp only[ae,ds,reduceCtorEq,i,m,aJ];exact ar ⟨by rw[hK (λq:0<=t/\t<=1099511627776=>j q.2)],rfl⟩
 .have i:decide (0<=t)=false:=hK a;simp only[ae,ds,reduceCtorEq,i,aJ];exact ar ⟨by rw[hK (λq:0<=t/\t<=1099511627776=>a q.1)],rfl⟩
theorem aqX{h:I}{i:Nat}{v:V}{a:Int}{l:List dM}(k:fc h i v a l)(r:Rec):Pure mP 198 [.iface 256 (.ptr i 0),.agg (aR r)] h (.int gj ((look l r.k).getD 0)):=by
 refine Pure.val (bf.int _ _) ?_;obtain⟨j,q,s⟩:=r;refine a7 Tryz.func198 rfl ?_;unfold aR;have m:J h (h.push (.cells [.int gj j,.int gj q,.int gj s] 45 eN)) kR:=J.push _ _ _;simp only[ae,ds,AT,reduceCtorEq,al,GX];refine bE (adh _ i v a j l (k.aY m)) ?_;simp only[ae,ds,aJ];exact ar ⟨rfl,m⟩
theorem aqY{h:I}{i:Nat}{v:V}{a:Int}{l:List dM}(k:fc h i v a l)(key:Int):Pure mP 202 [.iface 256 (.ptr i 0),.int gj key] h (.int gj ((look l key).getD 0)):=by
 refine a7 Tryz.func202 rfl ?_;simp only[ae,ds,reduceCtorEq,GX];refine bE (adh _ i v a key l k) ?_;simp only[ae,ds,aJ];exact ar ⟨rfl,rfl⟩
theorem Ke(h:I)(c:ak):am mP 52 1 [(0,.agg (aq c))] h=eL (.bh h.n 0 1 1,h.push (.cells (aq c) 110 eN)):=by rw[nm Ag];rfl
theorem aqZ{h:I}{i:Nat}{v:V}{a:Int}{l:List dM}(k:fc h i v a l)(r:Rec)(n:Int) :
  au mP 199 [.iface 256 (.ptr i 0),.agg (aR r),.int gj n] h (λq h'=>∃z j,q=.tuple [.bh j 0 1 1,.int gj r.t,.int gj (oC a l r.k)]/\fc h' i z a (ll a l r.k n)/\J h h' (vi i v)/\b6 h v z /\
   Own h' 110 5 (.bh j 0 1 1) (aq (ln a l r.k n))/\h.n<=j/\j≠i/\aS z≠eL j):=by
 obtain⟨m,G,L⟩:=r;refine a7 Tryz.func199 rfl ?_;unfold aR;obtain⟨H,hH,B,M,nq⟩:=bU h (.cells [.int gj m,.int gj G,.int gj L] 45 eN);simp only[ae,ds,AT,reduceCtorEq,al,GX];rw[<-hH];clear hH;refine cp (adg H i v a m n l (k.aY B)) λq N ⟨O,az,D,s,Q⟩=>?_;subst az;have aC:=k.lt;have R:=(s.get h.n (by omega) (by
  rintro(U|U)
  .omega
  .have:=k.own.lt _ U;omega)).trans M
 have cc:∀c:ak,(kB (aq c)).cells=eL (aq c):=λ_=>rfl;have S:∀c:ak,bD (eL 5) (aP.cells [kA gj 0,kA gj 0,kA gj 0,kA gj 0,V.bool fr] 110 eN) 0 (aq c)=eL (.cells (aq c) 110 eN):=λ_=>rfl;obtain⟨u,E,A,T,c6⟩:=bU N (.cells (aq (ln a l m n)) 110 eN);have W:=(A.get h.n (by have:=s.n;omega) (by simp[kR])).trans R;simp only[ae,ds,al,cc,S];rw[<-E];clear E;have X:=Ke u (ln a l m n);have Y:cw (eL (eL 5)) (eL (aq (ln a l m n)))=eL (.agg (aq (ln a l m n))):=rfl;have Z:cI (.cells (aq (ln a l m n)) 110 eN) 0=eL (aq (ln a l m n)):=rfl;generalize oB:aq (ln a l m n)=C at *;refine aT.cL kR [1] (.q 0 (.q 2 (.q 3 (.q 4 (.e 1 (.q 5 (.q 6 (.q 7 .done))) .stop))))) ?_;simp only[ae,bw,ds,AT,By,al,T,W,X,Y,Z,aJ];have F:J u (u.push (.cells C 110 eN)) kR:=J.push _ _ _;have wK:=s.n;have M3:C.length=5:=by rw[<-oB];rfl
 refine ar ⟨O,u.n,rfl,(D.aY A).aY F,?_,b6.later Q (by omega),Own.fz _ 1 M3 (by decide),by omega,by omega,λU=>?_⟩
 .exact((B.up).trans' s).trans' ((A.trans' F).up)
 .have:=D.own.lt _ U;omega
def kx(t:Int):Bool:=decide (0<=t/\t<=1099511627776)
def sJ(c:Int):V:=.tuple [.agg [.int gj 0,.int gj 0,.int gj 0],.ah,.int gj c]
def kU(k n t:Int)(c:V):V:=.tuple [.agg [.int gj k,.int gj n,.int gj t],c,.int gj 0]
structure Aw(h:I)(a:Nat)(T:aPg)(i:Nat)(e:cd)(n:Int):Prop where
 lt:a<h.n
 get:h.get a=.cells (aN e++[.int gj n,.iface T (.ptr i 0)]) 218 eN
theorem Aw.ai{h h':I}{a i:Nat}{T:aPg}{e:cd}{n:Int}{own:Nat->Prop}(s:Aw h a T i e n)(j:J h h' own)(u:¬own a):Aw h' a T i e n :=
 ⟨IS s.lt j.n,(j.get a s.lt u).trans s.get⟩
theorem Kf{h:I}{a i:Nat}{T:aPg}{e:cd}{n:Int}(s:Aw h a T i e n):Pure mP 120 [.ptr a 0] h (.bool fr):=by
 obtain⟨o,m,j⟩:=e;have g:=s.get;rw[l0]at g;refine a7 Tryz.func120 rfl ?_;simp only[aza,aze]at g;simp only[ae,ds,AT,By,reduceCtorEq,al,g];exact ar ⟨rfl,rfl⟩
theorem aq0{h:I}{a i:Nat}{T:aPg}{e:cd}{n:Int}(s:Aw h a T i e n)(hm:dB e=e6)(ay:h4 h)(r:Rec)(j:Int)(M:Nat->Prop)(Y:¬M a)(Z:∀q,h.n<=q->¬M q)
  (Q:I->I->Int->V->Int->Int->Prop)
  (Io:∀h',J h h' kR->kx r.t=e6->Pure mP 198 [.iface T (.ptr i 0),.agg (aR r)] h' (.int gj j))
  (rh:∀h' N,J h h' kR->kx r.t=e6->c7 r.k r.v r.t j 16 e=eL N->au mP 199 [.iface T (.ptr i 0),.agg (aR r),.int gj N] h' (λq A=>∃c t u,q=.tuple [c,.int gj t,.int gj u]/\J h' A M/\Q h' A N c t u)) :
  au mP 174 [.ptr a 0,.agg (aR r)] h (λq U=>∃D A,J h D kR/\D.n=h.n+2/\J A U (λq=>q=h.n+1) /\
   if kx r.t=fr then A=D/\q=sJ 2 else match c7 r.k r.v r.t j 16 e with
   | none=>A=D/\q=sJ 10
   | some N=>∃c t u,J D A M/\Q D A N c t u/\q=if u=0 then kU r.k N t c else sJ u):=by
 obtain⟨E,F,z⟩:=r;obtain⟨o,m,C⟩:=e;have bM:aN (.mk o m C)=[.int gj o,.int gj m,.ag C.length (C.flatMap aN)]:=l0 _ _ _;refine a7 Tryz.func174 rfl ?_;unfold aR at *;obtain⟨H,hH⟩:∃y,y=(h.push (.cells [.int gj E,.int gj F,.int gj z] 45 eN)).push (.cells [.int gj 0,.int gj 0,.int gj 0] 45 eN):=⟨_,rfl⟩;have B:J h H kR:=by rw[hH];exact(J.push _ _ _).bp _
 have O:H.get h.n=.cells [.int gj E,.int gj F,.int gj z] 45 none:=by rw[hH];exact yZ
 have g1:H.get (h.n+1)=.cells [.int gj 0,.int gj 0,.int gj 0] 45 none:=by rw[hH];exact zO
 have R:H.n=h.n+2:=by rw[hH];rfl
 have vS:=s.ai B (by simp[kR]);have S:=vS.get;rw[bM]at S;simp only[aza,aze]at S;have aa:=s.lt;have M5:∀h',h4 h'->Pure mP 175 [.agg [.int gj o,.int gj m,.ag C.length (C.flatMap aN)],.agg [.int gj E,.int gj F,.int gj z],.int gj j] h' (qb (c7 E F z j 16 (.mk o m C))):=λh' M6=>by
  have:=aqz (.mk o m C) E F z j _ hm rfl h' M6;rw[bM]at this;exact this
 simp only at Io rh;simp only[ae,ds,reduceCtorEq,al];rw[<-hH];clear hH;refine bE (Kf vS) ?_;simp only[ae,ds,AT,By,al,O];refine bE (adj z H) ?_;cases W:kx z with
 | false=>
  rw[show decide (0<=z/\z<=1099511627776)=fr from W];simp only[ae,ds,AT,al,g1,aJ];exact ar ⟨H,H,B,R,J.set _ _ _,by rw[gr rfl];exact⟨rfl,rfl⟩⟩
 | true=>
  rw[show decide (0<=z/\z<=1099511627776)=e6 from W];simp only[ae,ds];refine aT.cL kR [] (.q 0 (.q 1 (.q 2 (.q 3 (.q 4 (.q 5 (.q 6 (.q 7 (.q 8 (.q 9 (.c 10 (.c 11 (.q 12 (.q 13 (.q 14 (.q 15 (.q 16 .done))))))))))))))))) ?_;simp only[ae,bw,ds,AT,By,reduceCtorEq,al,S,O];refine gh rfl rfl rfl (λh' G=>Io h' (by rcases G with G|rfl;exact B.trans' G;exact B) W) ?_;simp only[bw];refine gh rfl rfl rfl (λh' G=>M5 h' ((ay.ai B).or (ay.ai B) G)) ?_;cases aI:c7 E F z j 16 (.mk o m C)with
  | none=>
   simp only[ae,bw,Int.reduceBNe,ds,AT,al,qb,g1,aJ];exact ar ⟨H,H,B,R,J.set _ _ _,by rw[gQ (by decide)];exact⟨rfl,rfl⟩⟩
  | some N=>
   simp only[ae,bw,ds,qb];refine aT.cL (λx=>M x) [6] (.q 0 (.q 1 (.q 2 (.q 3 (.q 4 (.q 5 (.a 6 (.q 7 (.q 8 (.q 9 (.q 10 (.q 11 (.q 12 (.q 13 .done)))))))))))))) ?_;have f1:M a=False:=eq_false Y;have f2:M h.n=False:=eq_false (Z _ (BY _));simp only[ae,bw,e4,ds,AT,By,reduceCtorEq,al,S,O,f1,f2];refine cp (rh H N B W aI) λq A ⟨c,t,u,bd,L,dW⟩=>?_;subst bd;have WX:=L.n;have gc:=L.get (h.n+1) (by omega) (Z _ (by omega));have sw:=L.get h.n (by omega) (Z _ (by omega));rw[O]at sw;rw[g1]at gc;simp only[ae,bw,e4,ds];by_cases X:u=0
   .have ab:(u !=0)=false:=(by simp[X]);simp only[ae,e4,ds,AT,By,al,gc,sw,ab,aJ];exact ar ⟨H,A,B,R,J.set _ _ _,by rw[gQ (by decide)];exact⟨c,t,u,L,dW,by rw[gr X];rfl⟩⟩
   .have ab:(u !=0)=true:=(by simp[X]);simp only[ae,e4,ds,AT,al,gc,ab,aJ];exact ar ⟨H,A,B,R,J.set _ _ _,by rw[gQ (by decide)];exact⟨c,t,u,L,dW,by rw[gQ X];rfl⟩⟩
theorem aq1(x:bC)(W:dB x.e=e6)(B:ik x.e)(h:I)(F:h4 h)(T:aPg)(G:I->I->Nat->Prop)
  (X:∀H,J h H kR->au mP 113 [.agg (ao x)] H (λr h'=>∃i,r=.tuple [.iface T (.ptr i 0),.int gj 0]/\J H h' kR/\G H h' i)) :
  au mP 75 [.agg (ao x)] h (λr h'=>∃a i H q,r=.tuple [.ptr a 0,.int gj 0]/\J h H kR/\G H q i/\J q h' kR/\J h h' kR/\h.n<=a/\q.n<=a/\Aw h' a T i x.e x.n):=by
 refine a7 Tryz.func75 rfl ?_;obtain⟨C,s,⟨o,m,j⟩,n⟩:=x;have L:ao ⟨C,s,.mk o m j,n⟩=[.int gj C,.ag s.length (ax s),.int gj o,.int gj m,.ag j.length (j.flatMap aN),.int gj n]:=by simp[ao,l0]
 have D:aN (.mk o m j)=[.int gj o,.int gj m,.ag j.length (j.flatMap aN)]:=l0 _ _ _;obtain⟨H,hH,u,M,nq⟩:=bU h (.cells [.int gj C,.ag s.length (ax s),.int gj o,.int gj m,.ag j.length (j.flatMap aN),.int gj n] 68 eN);have Y:Pure mP 63 [.agg [.int gj o,.int gj m,.ag j.length (j.flatMap aN)]] H (uo (.mk o m j)):=by rw[<-D];exact WG _ B H (F.ai u)
 have z:dB (.mk o m j)=true:=W;rw[L];simp only[ae,ds,AT,By,al];rw[<-hH];clear hH;refine bE Y ?_;unfold uo kG;rw[gr z,gr z];simp only[ae,ds,AT,al,M];have N:=X H u;rw[L]at N;refine cp N λr q ⟨i,az,A,Z⟩=>?_;subst az;have g1:=(A.get h.n (by omega) (by simp[kR])).trans M;simp only[ae,ds];have O:=Tn (.ag (dj (.mk o m j)).length (fN (dj (.mk o m j)))) (dj (.mk o m j)) q ((F.ai u).ai A) (Rd.ag _ _) (WW _) (by have:=WB _ (.mk o m j) rfl B;have:=WE z;omega);have Ap:uw (dj (.mk o m j))=.tuple [.agg (aN (.mk o m j)),.int gj 0]:=by unfold uw qa pE;rw[ac4 z B];rfl
 rw[Ap,D]at O;refine bE O ?_;have eh:=A.n;obtain⟨Q,R,E,g3,c6⟩:=bU q (.cells [.int gj o,.int gj m,.ag j.length (j.flatMap aN)] 66 eN);have g2:=(E.get h.n (by omega) (by simp[kR])).trans g1;simp only[ae,ds,AT,al];rw[<-R];clear R;simp only[ae,ds,AT,By,al,g2,aJ];have S:J Q (Q.push (.cells [.int gj o,.int gj m,.ag j.length (j.flatMap aN),.int gj n,.iface T (.ptr i 0)] 218 eN)) kR:=J.push _ _ _;refine ar ⟨_,i,H,q,rfl,u,Z,E.trans' S,(u.trans' A).trans' (E.trans' S),by omega,by omega,⟨by rw[dn];omega,?_⟩⟩;rw[D];exact ac
def BQ(k f:Int):V:=.agg [.int gj k,.int gj f]
theorem aq2:ED mP 302=eL [0,0]:=by kernel_rfl
theorem aq3(e:Bool)(a b:Int):yW mP e 302 (BQ a b)=true:=by
 cases e<;>kernel_rfl
theorem Dx:∃d,eQ mP 285=eL (302,2,d)/\wD d=false:=by
 have h:(eQ mP 285).map (λq=>(q.1,q.2.1,wD q.2.2))=eL (302,2,fr):=by kernel_rfl
 cases i:eQ mP 285 with
 | none=>rw[i]at h;cases h
 | some q=>
  rw[i]at h;obtain⟨a,b,d⟩:=q;simp only[azi,Option.some.injEq,ay9.injEq]at h;obtain⟨rfl,rfl,h⟩:=h;exact⟨d,rfl,h⟩
theorem aq4{d:TypeDesc}(m:wD d=fr)(a b c e:Int):wE mP 302 d (BQ a b) (BQ c e)=eL (a==c&&b==e):=by
 have h:gl [0,0] [.int gj a,.int gj b] [.int gj c,.int gj e]=eL (a==c&&b==e):=by simp[gl]
 obtain⟨s,u,i,j⟩:=LM h;obtain⟨q,_⟩:=QU aq2 h i j;unfold wE BQ;simp only[pd,i,j,azi,m,q];rfl
theorem adl{time size:Int}(a:0<=time)(i:1<=size):0<=time.tmod size/\time.tmod size<size/\time.tmod size<=time:=by
 rw[Int.tmod_eq_emod_of_nonneg a];exact⟨Int.emod_nonneg _ (by omega),Int.emod_lt_of_pos _ (by omega),by
  have j:=Int.emod_add_mul_ediv time size;have m:0<=size*(time / size):=Int.mul_nonneg (by omega) (Int.ediv_nonneg a (by omega));omega⟩
structure dx(h:I)(i m:Nat)(room size:Int)(es:List (Nat×V×V))(cl:Nat):Prop where
 get:h.get i=.cells [.int gj room,.int gj size,.map m] 287 eN
 map:h.get m=.map es cl
 ne:i≠m
 lt:i<h.n
 qJ:m<h.n
 s1:1<=size
 s2:size<=1048576
theorem dx.aY{h h':I}{i m cl:Nat}{room size:Int}{es:List (Nat×V×V)}(k:dx h i m room size es cl)(j:J h h' kR):dx h' i m room size es cl :=
 ⟨(j.get i k.lt (by simp[kR])).trans k.get,(j.get m k.qJ (by simp[kR])).trans k.map,k.ne,IS k.lt j.n,IS k.qJ j.n,k.s1,k.s2⟩
theorem aq5(h:I)(a size:Int)(z:1<=a)(A:a<=1024)(i:1<=size)(j:size<=1048576) :
  au mP 148 [.int gj a,.int gj size] h (λr h'=>r=.tuple [.ptr (h.n+1) 0,.int gj 0]/\dx h' (h.n+1) h.n a size [] 0/\J h h' kR):=by
 refine a7 Tryz.func148 rfl ?_;have m:decide (a<1)=false:=hK (by omega);have q:decide (1024<a)=false:=hK (by omega);have s:decide (size<1)=false:=hK (by omega);have u:decide (1048576<size)=false:=hK (by omega);simp only[ae,ds,AT,By,reduceCtorEq,al,m,q,s,u,aJ];refine ar ⟨rfl,⟨ac,(iZ (by simp only[dn];omega)).trans ac,by omega,by simp only[dn];omega,by simp only[dn];omega,i,j⟩,(J.push _ _ _).bp _⟩
theorem GZ(h:I)(i m j:Nat)(a size:Int)(q:List (Nat×V×V))(k:dx h i m a size q j):Pure mP 177 [.ptr i 0] h (.bool fr):=by
 refine Pure.val (bf.bool _) ?_;refine a7 Tryz.func177 rfl ?_;have s:=k.get;have u:(size==0)=false:=by have:=k.s1;simp;omega
 simp only[ae,ds,AT,By,reduceCtorEq,al,s,u,aJ];exact ar ⟨rfl,J.refl _ _⟩
def Kg(size time:Int):Int:=if time<0\/1099511627776<time then -1 else time-time.tmod size
theorem M7(h:I)(i m z:Nat)(a size time:Int)(A:List (Nat×V×V))(k:dx h i m a size A z):Pure mP 211 [.ptr i 0,.int gj time] h (.int gj (Kg size time)):=by
 refine Pure.val (bf.int _ _) ?_;refine a7 Tryz.func211 rfl ?_;have D:=k.get;simp only[ae,Js,ds,reduceCtorEq];refine bE (GZ h i m z a size A k) ?_;by_cases q:time<0
 .have j:decide (time<0)=true:=hO q;simp only[ae,Js,ds,j,aJ];exact ar ⟨by rw[Kg,gr (.inl q)],J.refl _ _⟩
 have j:decide (time<0)=false:=hK q;by_cases s:1099511627776<time
 .have u:decide (1099511627776<time)=true:=hO s;simp only[ae,Js,ds,j,u,aJ];exact ar ⟨by rw[Kg,gr (.inr s)],J.refl _ _⟩
 have u:decide (1099511627776<time)=false:=hK s;have E:∀B C,cB mP .rem 2 B C (.int gj time) (.int gj size)=eL (.int gj (time.tmod size)):=λB C=>BE (by have:=k.s1;omega);obtain⟨G,H,L⟩:=adl (time:=time) (size:=size) (by omega) k.s1;have F:aPh.i64.wrap (time-time.tmod size)=time-time.tmod size:=kp _ (by omega);simp only[ae,Js,ds,AT,By,reduceCtorEq,al,j,u,D,E,F,aJ];exact ar ⟨by rw[Kg,gQ (by omega)],J.refl _ _⟩
theorem adm(k f:Int):(BQ k f).cells=eL [.int gj k,.int gj f]:=rfl
theorem adn(h:I)(i m u:Nat)(j size key s val:Int)(z:List (Nat×V×V))(k:dx h i m j size z u)(G:0<=s)(H:s<=2^41):Pure mP 234 [.ptr i 0,BQ key s,.int gj val] h (.agg (aq ⟨key,s,s+size,val,fr⟩)):=by
 refine Pure.val (bf.agg (za _)) ?_;refine a7 Tryz.func234 rfl ?_;have C:=k.get;have D:=k.lt;have E:∀A B,((h.push A).push B).get i=.cells [.int gj j,.int gj size,.map m] 287 none:=λA B=>(iZ (by simp only[dn];omega)).trans ((iZ D).trans C);have F:aPh.i64.wrap (s+size)=s+size:=kp _ (by have:=k.s1;have:=k.s2;omega);simp only[ae,al,adm];refine aT.cL kR [13] (.q 0 (.q 1 (.q 2 (.q 3 (.q 4 (.q 5 (.q 6 (.q 7 (.q 8 (.q 9 (.q 10 (.q 11 (.q 12 (.a 13 .done)))))))))))))) ?_;simp only[ae,bw,ds,AT,By,reduceCtorEq,al,E,F,aJ];exact ar ⟨rfl,(J.push _ _ _).bp _⟩
def er(size time:Int):Int:=time-time.tmod size
theorem li{size time:Int}(a:0<=time)(i:time<=1099511627776):Kg size time=er size time:=by rw[Kg,gQ (by omega)];rfl
theorem E7{size time:Int}(i:0<=time)(j:1<=size):0<=er size time/\er size time<=time/\time<er size time+size:=by
 obtain⟨a,b,c⟩:=adl i j;unfold er;omega
theorem ado:∃q,eQ mP 285=eL q:=by
 obtain⟨d,a,_⟩:=Dx;exact⟨_,a⟩
def vm(p:Int×Int):V:=BQ p.1 p.2
abbrev eO:=List (Nat×(Int×Int)×Int)
def hW(l:eO):List (Nat×V×V):=dH vm (kA gj) l
theorem WY{d:TypeDesc}(i:wD d=fr):iL mP 302 d vm where
 eq a b:=by
  rw[show vm a=BQ a.1 a.2 from rfl,show vm b=BQ b.1 b.2 from rfl,aq4 i];rw[Option.some.injEq,ay2];simp only[are,beq_iff_eq,ig];exact⟨λh=>aAz h.1 h.2,λh=>⟨iy Prod.fst h,iy Prod.snd h⟩⟩
 ok b a:=aq3 b a.1 a.2
 bits a:=by
  refine⟨_,rfl,?_⟩;simp[Instr.sameBits]
theorem lookW{h:I}{i j:Nat}(l:eO)(a b:Int)(m:h.get i=.map (hW l) j):ni mP 285 (.map i) (.agg [.int gj a,.int gj b]) e6 h=eL (.tuple [.int gj ((bR l (a,b)).getD 0),.bool (bR l (a,b)).isSome]):=by
 obtain⟨d,q,s⟩:=Dx;have:=L1 (enc:=kA gj) (ok:=e6) (WY s) (k:=(a,b)) q GF m;rw[show(kB [.int gj a,.int gj b])=vm (a,b)from rfl,this];cases bR l (a,b)<;>simp[fY,gR]
theorem WZ{h:I}{i j:Nat}(l:eO)(a b v:Int)(m:h.get i=.map (hW l) j):vB mP 285 (.map i) (.agg [.int gj a,.int gj b]) (.int gj v) h=eL (h.set i (.map (hW (cC j l (a,b) v)) (fb j l (a,b)))):=by
 obtain⟨d,q,s⟩:=Dx;exact L2 (enc:=kA gj) (WY s) (k:=(a,b)) q m rfl
theorem M8{h:I}{i j:Nat}(l:eO)(a b:Int)(m:h.get i=.map (hW l) j):C8 mP 285 (.map i) (.agg [.int gj a,.int gj b]) h=eL (h.set i (.map (hW (gT l (a,b))) j)):=by
 obtain⟨d,q,s⟩:=Dx;exact apk (enc:=kA gj) (WY s) (k:=(a,b)) q m
theorem M9(l:eO):(hW l).length=l.length:=by simp[hW,dH]
theorem adp(h:I)(i m u:Nat)(j size key time val:Int)(l:eO)(k:dx h i m j size (hW l) u)(A:(bR l (key,er size time)).isSome=e6\/(l.length:Int)<j)(N:0<=time)(Y:time<=1099511627776) :
  au mP 216 [.ptr i 0,.int gj key,.int gj time,.int gj val] h (λr h'=>r=.tuple [.agg (aq ⟨key,er size time,er size time+size,val,fr⟩),.int gj 0]/\dx h' i m j size (hW (cC u l (key,er size time) val)) (fb u l (key,er size time))/\J h h' (λq=>q=m)):=by
 refine a7 aEo rfl ?_;have Kh:=k.lt;have qJ:=k.qJ;obtain⟨O,Z,f2⟩:=E7 N k.s1;have Ax:=li (size:=size) N Y;simp only[ae,ds,reduceCtorEq,al];have Q:=k.aY (J.push h (.cells [.int gj 0,.int gj 0,.int gj 0,.int gj 0,.bool fr] 110 eN) kR);refine bE (GZ _ i m u j size _ Q) ?_;simp only[ae,ds,reduceCtorEq];refine bE (M7 _ i m u j size time _ Q) ?_;rw[Ax];generalize er size time=s at O Z f2 A⊢;have d1:decide (s<0)=false:=hK (by omega);have Ay:∀a b:Int,(kB [.int gj a,.int gj b]).cells=eL [.int gj a,.int gj b]:=λ_ _=>rfl;simp only[ae,ds,AT,By,al,d1,Ay];generalize hH:(h.push (.cells [.int gj 0,.int gj 0,.int gj 0,.int gj 0,.bool fr] 110 eN)).push (.cells [.int gj key,.int gj s] 302 eN)=H;have R:J h H kR:=by rw[<-hH];exact(J.push _ _ _).bp _
 have kk:dx H i m j size (hW l) u:=k.aY R;have B:=kk.get;have D:=kk.map;have g0:H.get h.n=.cells [.int gj 0,.int gj 0,.int gj 0,.int gj 0,.bool fr] 110 none:=by rw[<-hH];exact(iZ (by simp only[dn];omega)).trans ac
 have E:H.get (h.n+1)=.cells [.int gj key,.int gj s] 302 none:=by rw[<-hH];exact ac
 have hx:H.n=h.n+2:=by rw[<-hH];rfl
 have S:ni mP 285 (.map m) (.agg [.int gj key,.int gj s]) e6 H=eL (.tuple [.int gj ((bR l (key,s)).getD 0),.bool (bR l (key,s)).isSome]):=lookW l key s D;have r9:vB mP 285 (.map m) (.agg [.int gj key,.int gj s]) (.int gj val) H=eL (H.set m (.map (hW (cC u l (key,s) val)) (fb u l (key,s)))):=WZ l key s val D;have qO:dX mP 285 (.map m) H=eL (.int gj (l.length:Nat)):=by rw[Vj ab5 D,M9]
 have F:cw (eL (eL 2)) (eL [.int gj key,.int gj s])=eL (.agg [.int gj key,.int gj s]):=rfl;refine aT.cL kR [] (.q 0 (.q 1 (.q 2 (.q 3 (.q 4 (.q 5 (.q 6 (.q 7 (.q 8 (.q 9 (.q 10 .done))))))))))) ?_;simp only[ae,bw,ds,AT,By,reduceCtorEq,al,B,E,F,S];generalize bR l (key,s)=o at A S;have aw:(o.isSome=e6)\/(o.isSome=fr/\decide (j<=(l.length:Int))=fr):=by
  cases aU:o.isSome
  .rw[aU]at A;exact .inr ⟨rfl,hK (by simp at A;omega)⟩
  .exact .inl rfl
 generalize o.isSome=ob at aw;refine aT.cL kR [] (.q 0 (.q 1 (.q 2 (.q 3 (.q 4 (.q 5 (.q 6 (.q 7 (.q 8 (.q 9 (.q 10 (.q 11 (.q 12 (.q 13 .done)))))))))))))) ?_;rcases aw with q|⟨q,dD⟩
 all_goals first|simp only[ae,bw,ds,AT,By,reduceCtorEq,al,B,qO,q,dD]|simp only[ae,bw,ds,q]
 all_goals
  refine aT.cL kR [6] (.q 0 (.q 1 (.q 2 (.q 3 (.q 4 (.q 5 (.a 6 .done))))))) ?_;simp only[ae,bw,ds,AT,By,reduceCtorEq,al,B,E,F,r9];generalize G:H.set m (.map (hW (cC u l (key,s) val)) (fb u l (key,s)))=z;have C:J H z (λq=>q=m):=by rw[<-G];exact J.set _ _ _
  have aa:z.n=H.n:=by rw[<-G];rfl
  have T:=(C.get i kk.lt (by exact k.ne)).trans B;have W:z.get m=.map (hW (cC u l (key,s) val)) (fb u l (key,s)):=by rw[<-G];exact aM
  have Na:=(C.get h.n (by omega) (by omega)).trans g0;have L:=(C.get (h.n+1) (by omega) (by omega)).trans E;have c4:dx z i m j size (hW (cC u l (key,s) val)) (fb u l (key,s)):=⟨T,W,k.ne,by omega,by omega,k.s1,k.s2⟩;simp only[ae,ds,AT,L,F];refine bE (adn z i m _ j size key s val _ c4 O (by omega)) ?_;have cc:∀c:ak,(kB (aq c)).cells=eL (aq c):=λ_=>rfl;have st:∀c:ak,bD (eL 5) (aP.cells [.int gj 0,.int gj 0,.int gj 0,.int gj 0,.bool fr] 110 eN) 0 (aq c)=eL (.cells (aq c) 110 eN):=λ_=>rfl;have M:∀c:ak,(if 5<=(aq c).length then eL (kB (ay5 5 (aq c)))else eN)=eL (.agg (aq c)):=λ_=>rfl;simp only[ae,ds,al,Na,cc,st,M,aJ];have X:J z (z.set h.n (.cells (aq ⟨key,s,s+size,val,fr⟩) 110 eN)) (λq=>q=h.n):=J.set _ _ _;refine ar ⟨rfl,⟨(X.get i (by omega) (by omega)).trans T,(X.get m (by omega) (by omega)).trans W,k.ne,by show i<z.n;omega,by show m<z.n;omega,k.s1,k.s2⟩,?_⟩;exact((R.up).trans' C).kj (BY _) _
theorem aq7(h:I)(i m u:Nat)(j size key time val:Int)(l:eO)(k:dx h i m j size (hW l) u)(z:(bR l (key,er size time)).isSome=fr)(L:j<=(l.length:Int))(A:0<=time)(M:time<=1099511627776) :
  au mP 216 [.ptr i 0,.int gj key,.int gj time,.int gj val] h (λr h'=>r=.tuple [.agg (aq ⟨0,0,0,0,fr⟩),.int gj 3]/\J h h' kR):=by
 refine a7 aEo rfl ?_;have Kh:=k.lt;have qJ:=k.qJ;obtain⟨N,O,Q⟩:=E7 A k.s1;have R:=li (size:=size) A M;simp only[ae,ds,reduceCtorEq,al];have B:=k.aY (J.push h (.cells [.int gj 0,.int gj 0,.int gj 0,.int gj 0,.bool fr] 110 eN) kR);refine bE (GZ _ i m u j size _ B) ?_;simp only[ae,ds,reduceCtorEq];refine bE (M7 _ i m u j size time _ B) ?_;rw[R];generalize er size time=s at N O Q z⊢;have S:decide (s<0)=false:=hK (by omega);have T:∀a b:Int,(kB [.int gj a,.int gj b]).cells=eL [.int gj a,.int gj b]:=λ_ _=>rfl;simp only[ae,ds,AT,By,al,S,T];generalize hH:(h.push (.cells [.int gj 0,.int gj 0,.int gj 0,.int gj 0,.bool fr] 110 eN)).push (.cells [.int gj key,.int gj s] 302 eN)=H;have C:J h H kR:=by rw[<-hH];exact(J.push _ _ _).bp _
 have D:dx H i m j size (hW l) u:=k.aY C;have E:=D.get;have F:=D.map;have W:H.get h.n=.cells [.int gj 0,.int gj 0,.int gj 0,.int gj 0,.bool fr] 110 none:=by rw[<-hH];exact(iZ (by simp only[dn];omega)).trans ac
 have X:H.get (h.n+1)=.cells [.int gj key,.int gj s] 302 none:=by rw[<-hH];exact ac
 have hx:H.n=h.n+2:=by rw[<-hH];rfl
 have G:ni mP 285 (.map m) (.agg [.int gj key,.int gj s]) e6 H=eL (.tuple [.int gj ((bR l (key,s)).getD 0),.bool (bR l (key,s)).isSome]):=lookW l key s F;have Y:dX mP 285 (.map m) H=eL (.int gj (l.length:Nat)):=by rw[Vj ab5 F,M9]
 have Z:cw (eL (eL 2)) (eL [.int gj key,.int gj s])=eL (.agg [.int gj key,.int gj s]):=rfl;refine aT.cL kR [] (.q 0 (.q 1 (.q 2 (.q 3 (.q 4 (.q 5 (.q 6 (.q 7 (.q 8 (.q 9 (.q 10 .done))))))))))) ?_;simp only[ae,bw,ds,AT,By,reduceCtorEq,al,E,X,Z,G];generalize bR l (key,s)=o at z G;generalize o.isSome=ob at z;subst z;have d2:decide (j<=(l.length:Int))=true:=hO L;have st:∀c:ak,bD (eL 5) (aP.cells [.int gj 0,.int gj 0,.int gj 0,.int gj 0,.bool fr] 110 eN) 0 (aq c)=eL (.cells (aq c) 110 eN):=λ_=>rfl;refine aT.cL kR [] (.q 0 (.q 1 (.q 2 (.q 3 (.q 4 (.q 5 (.q 6 (.q 7 (.q 8 (.q 9 (.q 10 (.q 11 (.q 12 (.q 13 .done)))))))))))))) ?_;simp only[ae,bw,ds,AT,By,reduceCtorEq,al,E,Y,d2,W,aJ];refine ar ⟨rfl,C.kj (BY _) _⟩
theorem aq8(h:I)(i m j:Nat)(a size key time:Int)(l:eO)(k:dx h i m a size (hW l) j)(q:0<=time)(s:time<=1099511627776) :
  Pure mP 213 [.ptr i 0,.int gj key,.int gj time] h (.tuple [.int gj ((bR l (key,er size time)).getD 0),.bool (bR l (key,er size time)).isSome]):=by
 refine Pure.val (bf.tuple (bc.cons (bf.int _ _) (bc.cons (bf.bool _) bc.nil))) ?_;refine a7 Tryz.func213 rfl ?_;have u:=k.get;obtain⟨C,D,E⟩:=E7 q k.s1;have z:=li (size:=size) q s;simp only[ae,ds,reduceCtorEq];refine bE (M7 _ i m j a size time _ k) ?_;rw[z];have A:decide (er size time<0)=false:=hK (by omega);have B:=lookW l key (er size time) k.map;simp only[ae,ds,AT,By,reduceCtorEq,al,A,u,B,aJ];exact ar ⟨rfl,J.refl _ _⟩
def f64(n:Int):Nat:=aPr.nearest .f64 n
theorem aq9(neg:Bool)(n:Nat):Ieee.Toward.even.cut neg n 0=n:=by
 have h:(1:Nat) <<< min 0 (n.log2+2)=1:=by rw[Nat.zero_min];rfl
 unfold Ieee.Toward.cut;simp only[h,Nat.div_one,Nat.mod_one,Nat.mul_zero];rfl
theorem ara(n:Nat)(a:n≠0)(h:n<2^53):f64 n=(n.log2+1022)*2^52+n*2^(52-n.log2):=by
 have s:n.log2<53:=(aBd a).2 h;have i:n<2^(n.log2+1):=(aBd a).1 (azK _);have u:n*2^(52-n.log2)<2^53:=by
  have:=aEq i (aDj (52-n.log2));rwa[<-aAl,show n.log2+1+(52-n.log2)=53 by omega]at this
 have az:decide ((n:Int)<0)=false:=hK (by omega);unfold f64 aPr.nearest aPr.encode aPr.format Ieee.Format.write Ieee.Format.nearest;rw[az];simp only[Int.natAbs_natCast,gQ a];have bd:max (0+(n.log2:Int)-(Ieee.double.fractionBits:Int)) Ieee.double.leastPlace=(n.log2:Int)-52:=by
  show max (0+(n.log2:Int)-((52:Nat):Int)) (-1074)=_;omega
 rw[bd];have j:((0:Int)-((n.log2:Int)-52)).toNat=52-n.log2:=by omega
 have m:((n.log2:Int)-52-0).toNat=0:=by omega
 have q:((n.log2:Int)-52-Ieee.double.leastPlace).toNat=n.log2+1022:=by
  show((n.log2:Int)-52-(-1074)).toNat=_;omega
 rw[j,m,q,aq9,aEe];show Ieee.double.word fr (min ((n.log2+1022)*2^52+n*2^(52-n.log2)) (2047*2^52))=_;rw[azb (by omega)];rfl
theorem arb(n:Nat)(h:n<2^53):((aPr.f64).decode (f64 n)).toInt .zero=eL (n:Int):=by
 by_cases j:n=0
 .subst j;decide
 have O:n.log2<53:=(aBd j).2 h;have q:n<2^(n.log2+1):=(aBd j).1 (azK _);have u:2^n.log2<=n:=Nat.log2_self_le j;have z:n*2^(52-n.log2)<2^53:=by
  have:=aEq q (aDj (52-n.log2));rwa[<-aAl,show n.log2+1+(52-n.log2)=53 by omega]at this
 have A:2^52<=n*2^(52-n.log2):=by
  have:=ay6 (2^(52-n.log2)) u;rwa[<-aAl,show n.log2+(52-n.log2)=52 by omega]at this
 have B:=ara n j h;have m:n*2^(52-n.log2) / 2^(52-n.log2)=n:=aBu _ (aDj _);have C:n*2^(52-n.log2) % 2^(52-n.log2)=0:=Nat.mul_mod_left _ _;have D:(n*2^(52-n.log2)).log2=52:=by
  refine Nat.le_antisymm ?_ ?_
  .exact Nat.le_of_lt_succ ((aBd (by omega)).2 z)
  .exact(Nat.le_log2 (by omega)).2 A
 generalize n*2^(52-n.log2)=a at *;rw[B];have e:(aPr.f64).decode ((n.log2+1022)*2^52+a)=.number fr a ((n.log2:Int)-52):=by
  unfold aPr.decode aPr.format Ieee.Format.read;have s:Ieee.double.signWeight=2^63:=rfl;have b:Ieee.double.binade=2^52:=rfl;have i:Ieee.double.infRung=2047*2^52:=rfl;have E:Ieee.double.leastPlace=-1074:=rfl;simp only[s,b,i,E];have F:((n.log2+1022)*2^52+a) / 2^63=0:=by omega
  have G:((n.log2+1022)*2^52+a) % 2^63=(n.log2+1022)*2^52+a:=by omega
  have H:((n.log2+1022)*2^52+a) / 2^52=n.log2+1023:=by omega
  have L:((n.log2+1022)*2^52+a) % 2^52=a-2^52:=by omega
  rw[F,G,H,L,gQ (by omega),gr (by omega),show 2^52+(a-2^52)=a by omega,show(-1074:Int)+((n.log2+1023-1:Nat):Int)=(n.log2:Int)-52 by omega];rfl
 rw[e];unfold Ieee.Datum.toInt Ieee.Datum.integral Ieee.Toward.cut;have M:((n.log2:Int)-52).toNat=0:=by omega
 have N:(-((n.log2:Int)-52)).toNat=52-n.log2:=by omega
 simp only[M,N,Nat.shiftLeft_zero,D];rw[azb (by omega),Nat.one_shiftLeft,m];simp[Ieee.signed]
theorem ard(n:Int)(a:0<=n)(h:n<=2^40):((aPr.f64).decode (f64 n)).toInt .zero=eL n:=by
 obtain⟨k,rfl⟩:∃k:Nat,n=k:=⟨n.toNat,by omega⟩;exact arb k (by omega)
def eZ(a b:ak):Prop:=a.key<b.key\/a.key=b.key/\(a.aO<b.aO\/a.aO=b.aO/\a.to<b.to)
instance (a b:ak):Decidable (eZ a b):=by unfold eZ;infer_instance
def gE(a b:ak):Bool:=decide (a.key=b.key/\a.aO=b.aO/\a.to=b.to)
theorem nt{a b:ak}:gE a b=e6↔a.key=b.key/\a.aO=b.aO/\a.to=b.to:=by simp[gE]
theorem arf{a b:ak}:gE a b=fr↔¬(a.key=b.key/\a.aO=b.aO/\a.to=b.to):=by simp[gE]
theorem E8{a b:ak}(h:gE a b=e6):¬eZ a b:=by have:=nt.1 h;unfold eZ;omega
theorem adr{a b c:ak}(h:eZ a b)(k:eZ b c):eZ a c:=by unfold eZ at *;omega
theorem arh{a b:ak}(h:eZ a b):¬eZ b a:=by unfold eZ at *;omega
theorem ads{a b:ak}(h:¬eZ a b)(k:¬eZ b a):gE a b=true:=by rw[nt];unfold eZ at *;omega
abbrev fF(l:List ak):Prop:=l.Pairwise eZ
def low(l:List ak)(x:ak):List ak:=l.filter λy=>decide (eZ y x)
def high(l:List ak)(x:ak):List ak:=l.filter λy=>!decide (eZ y x)
def du(l:List ak)(x:ak):Nat:=(low l x).length
def df(l:List ak)(x:ak):Bool:=l.any λy=>gE y x
def fI(l:List ak)(x:ak):List ak:=l.filter λy=>!gE y x
def lq(l:List ak)(x:ak):List ak:=low l x++x::high l x
theorem fF.split:∀{l:List ak},fF l->∀x,low l x++high l x=l
 | [],_,x=>rfl
 | a::l,s,x=>by
  have i:=ayA.1 s;have ih:=fF.split i.2 x;unfold low high at ih⊢;by_cases h:eZ a x
  .rw[az6 (by simpa using h),azZ (by simpa using h),aza,ih]
  .have j:∀b∈l,¬eZ b x:=λb an u=>h (adr (i.1 b an) u);rw[azZ (by simpa using h),az6 (by simpa using h),List.filter_eq_nil_iff.2 (by simpa using j),aAn.2 (by simpa using j)];rfl
theorem fF.take{l:List ak}(h:fF l)(x:ak):l.take (du l x)=low l x:=by
 have:=iy (ay5 (low l x).length) (h.split x);rw[aAj rfl]at this;exact this.symm
theorem fF.drop{l:List ak}(h:fF l)(x:ak):l.drop (du l x)=high l x:=by
 have:=iy (List.drop (low l x).length) (h.split x);rw[aC4 rfl]at this;exact this.symm
theorem adt(l:List ak)(x:ak):du l x<=l.length:=List.length_filter_le ..
theorem fF.Nb{l:List ak}(h:fF l){x:ak}{t:Nat}{p:ak}(j:t<du l x)(s:l[t]?=eL p):eZ p x:=by
 have:p∈l.take (du l x):=azc (i:=t) (by rw[List.getElem?_take,gr j];exact s);rw[h.take]at this;simpa using(ajA.1 this).2
theorem fF.Az{l:List ak}(h:fF l){x:ak}{t:Nat}{p:ak}(s:du l x<=t)(j:l[t]?=eL p):¬eZ p x:=by
 have:p∈l.drop (du l x):=azc (i:=t-du l x) (by rw[azI,show du l x+(t-du l x)=t by omega];exact j);rw[h.drop]at this;simpa using(ajA.1 this).2
theorem fF.filter{l:List ak}(h:fF l)(p:ak->Bool):fF (l.filter p):=azM.filter p h
theorem fF.uniq{l:List ak}(h:fF l){a b:ak}(aW:a∈l)(an:b∈l)(j:gE a b=e6):a=b:=by
 induction l with
 | nil=>cases aW
 | cons c l ih=>
  have h':=ayA.1 h;rcases IN.1 aW with e|aW
  .rcases IN.1 an with bd|an
   .rw[e,bd]
   .have i:=h'.1 b an;rw[<-e]at i;exact absurd i (E8 j)
  .rcases IN.1 an with e|an
   .have i:=h'.1 a aW;rw[<-e]at i;exact absurd i (E8 (by rw[nt]at *;omega))
   .exact ih h'.2 aW an
theorem fF.iR{l:List ak}(h:fF l)(x:ak):(df l x=e6/\∃p,l[du l x]?=eL p/\gE p x=e6/\p∈l)\/(df l x=fr/\∀p,l[du l x]?=eL p->¬eZ p x/\gE p x=fr):=by
 cases U:df l x
 .refine .inr ⟨rfl,λp i=>⟨h.Az (BY _) i,?_⟩⟩;have:=aAo.1 U p (azc i);simpa using this
 .refine .inl ⟨rfl,?_⟩;obtain⟨q,B,s⟩:=aAp.1 U;have j:q∈high l x:=ajA.2 ⟨B,by simpa using E8 s⟩;rw[<-h.drop]at j;cases u:l.drop (du l x)with
  | nil=>rw[u]at j;cases j
  | cons p r=>
   have i:l[du l x]?=eL p:=by
    have:=iy (λz=>z[0]?) u;simpa [azI]using this
   refine⟨p,i,?_,azc i⟩;have A:fF (l.drop (du l x)):=azM.sublist (List.drop_sublist ..) h;rw[u]at j A;rcases IN.1 j with rfl|C
   .exact s
   .have E:=(ayA.1 A).1 q C;have D:=h.Az (BY _) i;exact absurd (show eZ p x by have:=nt.1 s;unfold eZ at *;omega) D
theorem adu{l:List ak}{x:ak}(h:x∈l):df l x=true:=aAp.2 ⟨x,h,nt.2 ⟨rfl,rfl,rfl⟩⟩
theorem ari{l:List ak}{x:ak}(h:df l x=fr):fI l x=l:=aAn.2 λy a=>by have:=aAo.1 h y a;simpa using this
theorem fF.rm{l:List ak}(h:fF l){x:ak}(A:df l x=e6):fI l x=l.take (du l x)++l.drop (du l x+1):=by
 rcases h.iR x with⟨_,p,j,B,C⟩|⟨h',_⟩;rotate_left
 .rw[A]at h';cases h'
 have D:=(axB.1 j).1;have e:l=l.take (du l x)++p::l.drop (du l x+1):=by
  have:=azL (du l x) l;rw[ay0 D,(axB.1 j).2]at this;exact this.symm
 have E:∀y,y∈l->gE y x=e6->y=p:=λy i s=>h.uniq i C (by rw[nt]at *;omega);unfold fI
 conv=>lhs;rw[e]
 have u:=h;rw[e]at u;have z:=aDk.1 u;rw[List.filter_append,azZ (by simp[B]),aAn.2,aAn.2]
 .intro y i;cases s:gE y x
  .rfl
  .have:=(ayA.1 z.2.1).1 y i;exact absurd this (E8 (by rw[nt]at *;omega))
 .intro y i;cases s:gE y x
  .rfl
  .have:=z.2.2 y i p (by simp);exact absurd this (E8 (by rw[nt]at *;omega))
theorem fF.ins{l:List ak}(h:fF l)(x:ak):lq l x=l.take (du l x)++[x]++l.drop (du l x):=by rw[h.take,h.drop];simp[lq]
theorem Nc{l:List ak}{x y:ak}:y∈lq l x↔y=x\/y∈l:=by
 unfold lq low high;rw[axE,IN,ajA,ajA];by_cases h:eZ y x<;>simp[h,or_comm]
theorem fF.Cu{l:List ak}(h:fF l)(x:ak):(lq l x).length=l.length+1:=by
 have:=iy azl (h.split x);unfold lq;simp at this⊢;omega
theorem fF.AA{l:List ak}(h:fF l){x:ak}(u:df l x=fr):fF (lq l x):=by
 refine aDk.2 ⟨h.filter _,ayA.2 ⟨λy C=>?_,h.filter _⟩,λa aW b an=>?_⟩
 .have z:=ajA.1 C;have j:=aAo.1 u y z.1;have s:¬eZ y x:=by simpa using z.2
  by_cases i:eZ x y
  .exact i
  .exact absurd (ads s i) j
 .have A:eZ a x:=by simpa using(ajA.1 aW).2
  rcases IN.1 an with rfl|an
  .exact A
  .have B:=ajA.1 an;have j:=aAo.1 u b B.1;have s:¬eZ b x:=by simpa using B.2
   by_cases i:eZ x b
   .exact adr A i
   .exact absurd (ads s i) j
theorem Rr(l:List ak)(x:ak):df (fI l x) x=false:=by
 refine aAo.2 λy a=>?_;have:=(ajA.1 a).2;simpa using this
theorem fF.Nd{l:List ak}(h:fF l){x:ak}(u:df l x=e6):l.set (du l x) x=lq (fI l x) x:=by
 rcases h.iR x with⟨_,p,z,D,E⟩|⟨h',_⟩;rotate_left
 .rw[u]at h';cases h'
 have A:=(axB.1 z).1;have j:fF (fI l x):=h.filter _;have B:low (fI l x) x=low l x:=by
  unfold low fI;rw[aAh];refine azy λy _=>?_;by_cases s:eZ y x
  .have:gE y x=false:=by
                   cases e:gE y x;· rfl
                   .exact absurd s (E8 e)
   simp[s,this]
  .simp[s]
 have C:du (fI l x) x=du l x:=by unfold du;rw[B]
 have i:(l.take (du l x)).length=du l x:=by rw[ajB];omega
 rw[aAY,gr A,j.ins,C,h.rm u,aAj i,aC4 i];simp
theorem adw{l:List ak}(h:fF l){x:ak}(a:df l x=e6):(fI l x).length+1=l.length:=by
 rcases h.iR x with⟨_,p,i,j,m⟩|⟨h',_⟩
 .rw[h.rm a];have q:=(axB.1 i).1;simp;omega
 .rw[a]at h';cases h'
def hl(l a:List ak):List ak:=l.filter λy=>a.all λx=>!gE y x
theorem wd(l:List ak):hl l []=l:=aAn.2 λ_ _=>rfl
theorem arj(l a:List ak)(x:ak):hl l (a++[x])=fI (hl l a) x:=by
 unfold hl fI;rw[aAh];refine azy λy _=>?_;rw[List.all_append];simp[Bool.and_comm]
theorem adx{l:List ak}(h:fF l)(p:ak->Bool):hl l (l.filter p)=l.filter λy=>!p y:=by
 refine azy λy i=>?_;cases j:p y
 .refine ayy.2 λx m=>?_;have a:=ajA.1 m;cases e:gE y x
  .rfl
  .have:=h.uniq i a.1 e;subst this;rw[j]at a;cases a.2
 .refine aEr.2 ⟨y,ajA.2 ⟨i,j⟩,?_⟩;simp[nt.2 (show y.key=y.key/\y.aO=y.aO/\y.to=y.to from⟨rfl,rfl,rfl⟩)]
theorem ark{l a:List ak}(h:fF l){x:ak}(i:x∈l)(m:x∉a)(q:∀y∈a,y∈l):x∈hl l a:=by
 refine ajA.2 ⟨i,ayy.2 λy j=>?_⟩;cases e:gE x y
 .rfl
 .exact absurd (h.uniq i (q y j) e▸j) m
theorem fF.hl{l:List ak}(h:fF l)(i:List ak):fF (hl l i):=h.filter _
structure kW(c:ak):Prop where
 lo:0<=c.aO
 le:c.aO<=c.to
 hi:c.to<=2^40
 del:c.del=fr
def rr(g k t:Int)(x:ak):Bool:=decide (x.key=k/\x.aO-g<=t/\t<=x.to+g)
theorem G0{g k t:Int}{x:ak}:rr g k t x=e6↔x.key=k/\x.aO-g<=t/\t<=x.to+g:=by simp[rr]
theorem W0{g k t:Int}{x y:ak}(h:gE x y=e6):rr g k t x=rr g k t y:=by
 obtain⟨a,i,j⟩:=nt.1 h;unfold rr;rw[a,i,j]
def found(g:Int)(l:List ak)(k t:Int):List ak:=l.filter (rr g k t)
def BR(g:Int)(l:List ak)(k t:Int):List ak:=l.filter λx=>!rr g k t x
def pG(t:Int)(i:List ak):Int:=i.foldl (λa c=>min a c.aO) t
def qe(t:Int)(i:List ak):Int:=i.foldl (λa c=>max a c.to) t
theorem arl(t:Int)(a:List ak)(c:ak):pG t (a++[c])=min (pG t a) c.aO:=by simp[pG]
theorem arn(t:Int)(a:List ak)(c:ak):qe t (a++[c])=max (qe t a) c.to:=by simp[qe]
theorem W1:∀(a:List ak) (t:Int),pG t a<=t/\∀x∈a,pG t a<=x.aO
 | [],t=>⟨az7 _,by simp⟩
 | c::a,t=>by
  obtain⟨j,m⟩:=W1 a (min t c.aO);refine⟨aBe j (by omega),λx i=>?_⟩;rcases IN.1 i with rfl|i
  .exact aBe j (by omega)
  .exact m x i
theorem ady:∀(a:List ak) (t:Int),pG t a=t\/∃x∈a,pG t a=x.aO
 | [],t=>.inl rfl
 | c::a,t=>by
  rcases ady a (min t c.aO)with h|⟨x,j,h⟩
  .by_cases i:t<=c.aO
   .left;rw[aDm i]at h;show pG (min t c.aO) a=t;rw[aDm i];exact h
   .right;refine⟨c,by simp,?_⟩;show pG (min t c.aO) a=c.aO;rw[h];omega
  .exact .inr ⟨x,by simp[j],h⟩
theorem W2:∀(a:List ak) (t:Int),t<=qe t a/\∀x∈a,x.to<=qe t a
 | [],t=>⟨az7 _,by simp⟩
 | c::a,t=>by
  obtain⟨j,m⟩:=W2 a (max t c.to);refine⟨aBe (by omega) j,λx i=>?_⟩;rcases IN.1 i with rfl|i
  .exact aBe (by omega) j
  .exact m x i
theorem adz:∀(a:List ak) (t:Int),qe t a=t\/∃x∈a,qe t a=x.to
 | [],t=>.inl rfl
 | c::a,t=>by
  rcases adz a (max t c.to)with h|⟨x,i,h⟩
  .by_cases j:c.to<=t
   .left;show qe (max t c.to) a=t;rw[h];omega
   .right;refine⟨c,by simp,?_⟩;show qe (max t c.to) a=c.to;rw[h];omega
  .exact .inr ⟨x,by simp[i],h⟩
def gX(g:Int)(l:List ak)(k t v:Int):ak:=⟨k,pG t (found g l k t),qe t (found g l k t),v,fr⟩
def G1(g:Int)(l:List ak)(k t v:Int):List ak:=lq (BR g l k t) (gX g l k t v)
def jd(x:ak):ak:=⟨x.key,x.aO,x.to,0,e6⟩
def nK(c x:ak):Bool:=decide (x.aO≠c.aO)||decide (x.to≠c.to)
def jD(g:Int)(l:List ak)(k t v:Int):List ak:=((found g l k t).filter (nK (gX g l k t v))).map jd++[gX g l k t v]
theorem adA{g:Int}(a:0<=g)(l:List ak)(k t v:Int):rr g k t (gX g l k t v)=true:=by
 rw[G0];have i:=(W1 (found g l k t) t).1;have j:=(W2 (found g l k t) t).1;exact⟨rfl,by show pG _ _-g<=t;omega,by show t<=qe _ _+g;omega⟩
theorem aro{g:Int}(i:0<=g)(l:List ak)(k t v:Int):df (BR g l k t) (gX g l k t v)=false:=by
 refine aAo.2 λy j m=>?_;have a:=(ajA.1 j).2;rw[W0 m,adA i]at a;cases a
theorem Rs{g:Int}{l:List ak}(h:∀x∈l,kW x){k t:Int}(v:Int)(j:0<=t)(m:t<=2^40):kW (gX g l k t v):=by
 have i:∀x∈found g l k t,kW x:=λx a=>h x (ajA.1 a).1;refine⟨?_,?_,?_,rfl⟩
 .rcases ady (found g l k t) t with e|⟨x,a,e⟩
  .show 0<=pG _ _;omega
  .have:=(i x a).lo;show 0<=pG _ _;omega
 .exact aBe (W1 _ _).1 (W2 _ _).1
 .rcases adz (found g l k t) t with e|⟨x,a,e⟩
  .show qe _ _<=_;omega
  .have:=(i x a).hi;show qe _ _<=_;omega
theorem arp(g:Int)(l:List ak)(k t:Int):(found g l k t).length+(BR g l k t).length=l.length:=by
 unfold found BR
 induction l with
 | nil=>rfl
 | cons a l ih=>cases h:rr g k t a<;>simp[h]<;>omega
theorem arq{g:Int}(j:0<=g){l:List ak}(h:fF l)(k t v:Int):fI (hl l ((found g l k t).filter (nK (gX g l k t v)))) (gX g l k t v)=BR g l k t:=by
 unfold fI hl BR;rw[aAh];refine azy λy m=>?_;cases a:rr g k t y
 .have q:gE y (gX g l k t v)=false:=by
   cases e:gE y (gX g l k t v)
   .rfl
   .rw[W0 e,adA j]at a;cases a
  rw[q];simp only[aA7,azr];refine ayy.2 λx s=>?_;have u:=ajA.1 (ajA.1 s).1;cases e:gE y x
  .rfl
  .rw[W0 e,u.2]at a;cases a
 .cases e:gE y (gX g l k t v)
  .simp only[aA7,Bool.not_true,azr];refine aEr.2 ⟨y,ajA.2 ⟨ajA.2 ⟨m,a⟩,?_⟩,by simp[gE]⟩;have z:=(G0.1 a).1;have A:=arf.1 e;unfold nK;by_cases i:y.aO=(gX g l k t v).aO
   .have:y.to≠(gX g l k t v).to:=λB=>A ⟨z,i,B⟩;simp[this]
   .simp[i]
  .simp
structure Good(g:Int)(l:List ak)(P:List (Int×Int)):Prop where
 kJ:fF l
 ok:∀x∈l,kW x
 sep:∀x∈l,∀y∈l,x.key=y.key->gE x y=fr->x.to+g<y.aO\/y.to+g<x.aO
 aO:∀x∈l,(x.key,x.aO)∈P
 to:∀x∈l,(x.key,x.to)∈P
 axV:∀k t,(k,t)∈P->∃x∈l,x.key=k/\x.aO<=t/\t<=x.to
 axW:∀x∈l,∀t,x.aO<t->t<=x.to->∃p,(x.key,p)∈P/\t-g<=p/\p<t
theorem fF.uy:∀{a b:List ak},fF a->fF b->(∀x,x∈a↔x∈b)->a=b
 | [],[],_,_,_=>rfl
 | [],q::r,_,_,h=>by have:=(h q).2 (by simp);cases this
 | q::r,[],_,_,h=>by have:=(h q).1 (by simp);cases this
 | p::r,q::s,aW,an,h=>by
  have j:=ayA.1 aW;have u:=ayA.1 an;have B:∀x:ak,¬eZ x x:=λx=>E8 (nt.2 ⟨rfl,rfl,rfl⟩);have C:p=q:=by
   rcases IN.1 ((h p).1 (by simp))with z|z
   .exact z
   .rcases IN.1 ((h q).2 (by simp))with A|A
    .exact A.symm
    .exact absurd (u.1 p z) (arh (j.1 q A))
  subst C
  congr 1
  refine fF.uy j.2 u.2 λx=>⟨λi=>?_,λi=>?_⟩
  .rcases IN.1 ((h x).1 (by simp[i]))with e|e
   .subst e;exact absurd (j.1 x i) (B x)
   .exact e
  .rcases IN.1 ((h x).2 (by simp[i]))with e|e
   .subst e;exact absurd (u.1 x i) (B x)
   .exact e
def bL(c:ak):List V:=[.int gj c.key,.complex .f64 (f64 c.aO) (f64 c.to),.int gj c.val]
theorem vV(c:ak):(bL c).length=3:=rfl
theorem Rt(c:ak):(bL c).all (·.one)=true:=rfl
theorem IR(c:ak):bc (bL c):=bc.cons (bf.int _ _) (bc.cons (bf.complex _ _ _) (bc.cons (bf.int _ _) bc.nil))
theorem BS(c:ak):(kB (bL c)).cells=eL [.int gj c.key,.complex .f64 (f64 c.aO) (f64 c.to),.int gj c.val]:=rfl
theorem ars(c:ak):(kB (aq c)).cells=eL [.int gj c.key,.int gj c.aO,.int gj c.to,.int gj c.val,.bool c.del]:=rfl
theorem adB(n:Int)(a:0<=n)(i:n<=2^40)(h:I):oc mP 329 2 (.float .f64 (f64 n)) h=eL (.int gj n) :=
 apA Q5 xV (ard n a i) (by show -9223372036854775808<=n;omega) (by show n<=9223372036854775807;omega)
theorem G2(c:ak)(aw:kW c)(h:I):Pure mP 206 [.agg (bL c)] h (.int gj c.aO):=by
 refine Pure.val (bf.int _ _) ?_;refine a7 Tryz.func206 rfl ?_;have cc:=BS c;have a:=adB c.aO aw.lo (by have:=aw.le;have:=aw.hi;omega);simp only[ae,ds,AT,By,apv,apy,al,cc,a,aJ];exact ar ⟨rfl,(J.push _ _ _)⟩
theorem G3(c:ak)(aw:kW c)(h:I):Pure mP 181 [.agg (bL c)] h (.int gj c.to):=by
 refine Pure.val (bf.int _ _) ?_;refine a7 Tryz.func181 rfl ?_;have cc:=BS c;have a:=adB c.to (by have:=aw.lo;have:=aw.le;omega) aw.hi;simp only[ae,ds,AT,By,apw,apz,al,cc,a,aJ];exact ar ⟨rfl,(J.push _ _ _)⟩
theorem Nf(c:ak)(aw:kW c)(h:I):Pure mP 231 [.agg (bL c)] h (.agg (aq c)):=by
 refine Pure.val (bf.agg (za _)) ?_;refine a7 Tryz.func231 rfl ?_;have cc:=BS c;simp only[ae,al,cc];refine aT.cL kR [9] (.q 0 (.q 1 (.q 2 (.c 3 (.q 4 (.c 5 (.q 6 (.q 7 (.q 8 (.a 9 .done)))))))))) ?_;simp only[ae,bw,ds,AT,al];refine gh rfl rfl rfl (λh' _=>G2 c aw h') ?_;simp only[ae,bw,ds,AT,al];refine gh rfl rfl rfl (λh' _=>G3 c aw h') ?_;simp only[ae,bw,ds,AT,By,al,aJ];have i:=aw.del;exact ar ⟨by unfold aq;rw[i],(J.push _ _ _).bp _⟩
theorem W4(c:ak)(aw:kW c)(h:I):Pure mP 182 [.agg (bL c)] h (.agg (aq (jd c))):=by
 refine Pure.val (bf.agg (za _)) ?_;refine a7 Tryz.func182 rfl ?_;have cc:=BS c;simp only[ae,al,cc];refine aT.cL kR [7] (.q 0 (.q 1 (.q 2 (.c 3 (.q 4 (.c 5 (.q 6 (.a 7 .done)))))))) ?_;simp only[ae,bw,ds,AT,al];refine gh rfl rfl rfl (λh' _=>G2 c aw h') ?_;simp only[ae,bw,ds,AT,al];refine gh rfl rfl rfl (λh' _=>G3 c aw h') ?_;simp only[ae,bw,ds,AT,By,al,aJ];exact ar ⟨rfl,(J.push _ _ _).bp _⟩
theorem Ru(c:ak)(h:I):Pure mP 235 [.agg (aq c)] h (.agg (bL c)):=by
 refine Pure.val (bf.agg (IR _)) ?_;refine a7 Tryz.func235 rfl ?_;have cc:=ars c;have a:oc mP 2 329 (.int gj c.aO)=λ_=>eL (.float .f64 (f64 c.aO)):=funext λh=>V5 xV Q5;have i:oc mP 2 329 (.int gj c.to)=λ_=>eL (.float .f64 (f64 c.to)):=funext λh=>V5 xV Q5;simp only[ae,ds,AT,By,apu,apx,V5,apB,apC,Q5,al,xV,cc,aJ];exact ar ⟨rfl,(J.push _ _ _).bp _⟩
def kK(t:Int):Bool:=decide (0<=t)&&decide (t<=1099511627776)
theorem Ki{t:Int}:kK t=e6↔0<=t/\t<=2^40:=by simp[kK]
theorem G4(t:Int)(h:I):Pure mP 230 [.int gj t] h (.bool (kK t)):=by
 refine Pure.val (bf.bool _) ?_;refine a7 Tryz.func230 rfl ?_;cases a:decide (0<=t)
 .simp only[ae,ds,reduceCtorEq,a,aJ];exact ar ⟨by rw[kK,a];rfl,J.refl _ _⟩
 .simp only[ae,ds,reduceCtorEq,a,aJ];exact ar ⟨by rw[kK,a];rfl,J.refl _ _⟩
theorem W5{α:Type}(A M X:List α){a:Nat}(aW:A.length=a):lay (A++M) a X=A++X++M.drop X.length:=by
 unfold lay;rw[<-aW,azO,show A.length+X.length=A.length+X.length from rfl,aCX];simp
theorem art{α:Type}(A M X B:List α){a x b:Nat}(aW:A.length=a)(i:X.length=x)(an:B.length=b)(j:M.length=x+b):lay (lay (A++M) a X) (a+x) B=A++X++B:=by
 rw[W5 A M X aW,W5 (A++X) _ B (by simp[aW,i])];rw[azg (l:=M.drop X.length) (by simp;omega)];simp
theorem aru{α:Type}(c A B X:List α){a x b:Nat}(j:c.take (a+b)=A++B)(aW:A.length=a)(an:B.length=b)(m:X.length=x)(s:a+x+b<=c.length) :
  ∃R,lay (lay c (a+x) B) a X=A++X++(B++R)/\(lay (lay c (a+x) B) a X).length=c.length:=by
 have q:c.take a=A:=by
  have:=iy (ay5 a) j;rw[azz,azb (by omega),<-aW,azO]at this;rw[<-aW];exact this
 have i:(lay c (a+x) B).length=c.length:=q9 _ _ _ (by omega);refine⟨c.drop (a+x+b),?_,by rw[q9 _ _ _ (by omega),i]⟩;have az:(lay c (a+x) B).take a=A:=by
  unfold lay;rw[axC,aAG (by rw[ajB];omega),azz,azb (by omega),q]
 have bd:(lay c (a+x) B).drop (a+x)=B++c.drop (a+x+b):=by
  unfold lay;rw[axC,aDf (by rw[ajB];omega),azg (by rw[ajB];omega),an];simp
 generalize lay c (a+x) B=d at az bd i;unfold lay;rw[az,m,bd]
theorem W6:xL mP 254:=⟨_,Tryz.func254,by kernel_rfl,by kernel_rfl,by kernel_rfl,by kernel_rfl,288,308,3,4,by kernel_rfl,by kernel_rfl,Tryz.underlying288,by kernel_rfl⟩
theorem arv(i len cap k j:Nat)(c s xs:List V)(F:Option Nat)(h:I)(o:sF h 308 3 i len cap c F s)(aB:len<2^40)(hk:k<=len)(Q:h.get j=.cells xs 308 eN)(jQ:j<h.n)(iD:j≠i)
  (A:xs.length=3) (Z:xs.all (·.one)=e6) (j4:s.all (·.one)=e6):au mP 249 [.bh i 0 len cap,.int gj (k:Nat),.bh j 0 1 1] h
   (λr h'=>Own h' 308 3 r (s.take (k*3)++xs++s.drop (k*3))/\J h h' (λq=>q=i)/\b6 h (.bh i 0 len cap) r):=by
 refine a7 Tryz.func249 rfl ?_;have hQ:=o;obtain⟨hi,L,M,b1,B,fU,mc⟩:=hQ;have ba:((1:Nat):Int)=1:=rfl;have s1:=BK (P:=mP) (t:=288) (i:=i) (o:=0) (len:=len) (cap:=cap) (k:=.i64) vL B hk mc;have mU:Own h 308 3 (.bh j 0 1 1) xs:=.inr ⟨j,1,1,xs,eN,rfl,jQ,Q,by rw[A],by rw[ajE (by omega)],.inl ⟨by unfold b9;omega,by omega,BY _⟩⟩;have di:=uc (P:=mP) (t:=288) uh mU (n:=1) (by rw[A]) (by decide) Z;by_cases qQ:k=len
 .subst qQ;have d1:((k:Int)==(k:Int))=true:=by simp
  obtain⟨v',h',dr,gn,kH,fE⟩:=be (P:=mP) (t:=288) (tx:=288) y8 (by decide) o.own di (by rw[A];rfl) (λm hm=>by
   change m*3=_ at hm;rw[M,A]at hm;exact⟨by simp only[lim];omega,by simp only[lim];omega⟩)
  simp only[ae,azH,ds,reduceCtorEq,uh,s1,ba,dr,aJ];refine ar ⟨?_,kH.mono λq N=>(Option.some.inj N).symm,fE⟩;rw[ajE (by omega),azg (by omega),axA];exact gn
 have qQ:k<len:=by omega
 have d1:((k:Int)==(len:Int))=false:=by simp;omega
 have cH:=km (i:=len) (n:=len+1) (by omega) (by omega);have xZ:=km (i:=k) (n:=len) (by omega) (by omega);have aw:=abw (P:=mP) (t:=288) (i:=i) (o:=0) (len:=len) y8 B;have D:(s.take (k*3)).length=k*3:=by rw[ajB];omega
 have G:(s.drop (k*3)).length=(len-k)*3:=by rw[azk];omega
 have b4:(c.drop (k*3)).take ((len-k)*3)=s.drop (k*3):=by rw[<-b1,aAJ];congr 1;omega
 have w1:((c.drop (k*3)).take ((len-k)*3)).all (·.one)=true:=by
  rw[b4,ayy];exact λv aI=>ayy.1 j4 v (azT aI)
 have T:(xs.drop 0).take (1*3)=xs:=by rw[azw,ajE (by omega)]
 by_cases fD:cap<len+1
 .have d2:decide ((cap:Int)<((len+1:Nat):Int))=true:=hO (by omega);have s2:=J1 (P:=mP) (t:=288) (i:=i) (o:=0) (len:=len) (cap:=cap) (k:=.i64) (m:=k) vL B (by omega);have bY:aPh.i64.wrap (((len+1:Nat):Int)-(k:Int))=((len+1-k:Nat):Int):=by rw[kp _ (by omega)];omega
  have az:=abx (P:=mP) (t:=288) (kq:=.i64) (o:=0) (len:=k) (cap:=cap) (n:=len+1-k) (kn:=.i64) (tn:=3) y8 (by kernel_rfl) (by decide) L (by omega) B (by omega) (by simp only[lim];omega) (by simp only[lim];omega) (by simp only[];omega);simp only[azw]at az;have kY:k+(len+1-k)=len+1:=by omega
  rw[kY]at az;obtain⟨z,u⟩:∃y,y=h.push (.cells (c.take (k*3)++made [kA gj 0,V.complex .f64 0 0,kA gj 0] (len+1-k)) 308 (eL 3)):=⟨_,rfl⟩;rw[<-u]at az;have g1:z.get h.n=.cells (c.take (k*3)++made [kA gj 0,V.complex .f64 0 0,kA gj 0] (len+1-k)) 308 (eL 3):=by rw[u];exact ac
  have BO:z.get j=.cells xs 308 none:=by rw[u,iZ jQ];exact Q
  have ns:z.get i=.cells c 308 F:=by rw[u,iZ hi];exact L
  have eh:z.n=h.n+1:=by rw[u];rfl
  have bx:J h z kR:=by rw[u];exact J.push _ _ _
  have E:kX mP 288 (.bh h.n 0 (len+1) b9) (eL (.int gj (k:Int))) eN eN=eL (.bh h.n (0+k*3) (len+1-k) (b9+0+k)):=pu (a:=0) vL (by omega);have H:kX mP 288 (.bh h.n 0 (len+1) b9) (eL (.int gj ((k+1:Nat):Int))) eN eN=eL (.bh h.n (0+(k+1)*3) (len+1-(k+1)) (b9+0+(k+1))):=pu (a:=0) vL (by omega);rw[ayB,aAa]at E H;have W:c.take (k*3)=s.take (k*3):=by rw[<-b1,azz,azb (by omega)]
  have X:(made [kA gj 0,V.complex .f64 0 0,kA gj 0] (len+1-k)).length=(len+1-k)*3:=C3 _ _;have bd:=EG (P:=mP) (t:=288) (tx:=288) (o:=k*3) (dl:=len+1-k) (dc:=b9+k) (p:=0) (n:=1) (d:=1) (m:=1) y8 g1 BO (by show min 1 (len+1-k)=1;omega) (by decide) (by simp only[];omega) (by rw[D9,X,W,D];simp only[];omega) (by rw[T];exact Z);rw[T]at bd;obtain⟨bZ,O⟩:∃y,y=z.set h.n (.cells (lay (c.take (k*3)++made [kA gj 0,V.complex .f64 0 0,kA gj 0] (len+1-k)) (k*3) xs) 308 (eL 3)):=⟨_,rfl⟩;rw[<-O]at bd;have g2:bZ.get h.n=.cells (lay (c.take (k*3)++made [kA gj 0,V.complex .f64 0 0,kA gj 0] (len+1-k)) (k*3) xs) 308 (eL 3):=by rw[O];exact aM
  have yC:bZ.get i=.cells c 308 F:=by rw[O,nk (by omega)];exact ns
  have gI:(lay (c.take (k*3)++made [kA gj 0,V.complex .f64 0 0,kA gj 0] (len+1-k)) (k*3) xs).length=(len+1)*3:=by rw[q9 _ _ _ (by rw[D9,X,W,D,A];omega),D9,X,W,D];omega
  have k2:J h bZ kR:=by rw[O];exact bx.trans (J.set _ _ _) λq N U=>by omega
  have GQ:=BK (P:=mP) (t:=288) (i:=i) (o:=0) (len:=len) (cap:=cap) (k:=.i64) (l:=k) vL B hk mc;rw[gQ (by omega),ayB]at GQ;have C:=EG (P:=mP) (t:=288) (tx:=288) (o:=(k+1)*3) (dl:=len+1-(k+1)) (dc:=b9+(k+1)) (p:=k*3) (n:=len-k) (d:=cap-k) (m:=len-k) y8 g2 yC (by show min (len-k) (len+1-(k+1))=len-k;omega) (by omega) (by simp only[];omega) (by rw[gI];simp only[];omega) w1;simp only at C;rw[b4]at C;rw[show(k+1)*3=k*3+3 by omega]at H C;rw[W,art (s.take (k*3)) (made [kA gj 0,V.complex .f64 0 0,kA gj 0] (len+1-k)) xs (s.drop (k*3)) D A G (by rw[X];omega)]at C;simp only[ae,azH,ds,reduceCtorEq,uh,s1,ba,d1,cH,aw,d2,s2,bY,az,E,bd];refine aT.cL kR [8] (.q 0 (.q 1 (.q 2 (.q 3 (.q 4 (.q 5 (.q 6 (.q 7 (.a 8 .done))))))))) ?_;simp only[ae,bw,ds,reduceCtorEq,xZ,H,GQ,C,aJ];refine ar ⟨?_,?_,.inr λq N=>?_⟩
  .refine Own.grown (by rw[jM,O,jM,eh];omega) aM ?_;simp only[D9,D,G,A];omega
  .exact(k2.trans (J.set _ _ _) λq N U=>by omega).up
  .simp only[aS,Option.some.injEq]at N;omega
 .have d2:decide ((cap:Int)<((len+1:Nat):Int))=false:=hK (by omega);have Y:len+1<=cap:=by omega
  have s2:=J1 (P:=mP) (t:=288) (i:=i) (o:=0) (len:=len) (cap:=cap) (k:=.i64) (m:=len+1) vL B Y;have E:=BK (P:=mP) (t:=288) (i:=i) (o:=0) (len:=len+1) (cap:=cap) (k:=.i64) (l:=k+1) vL B (by omega) Y;rw[gQ (by omega),ayB]at E;have H:=BK (P:=mP) (t:=288) (i:=i) (o:=0) (len:=len+1) (cap:=cap) (k:=.i64) (l:=k) vL B (by omega) Y;rw[gQ (by omega),ayB]at H;have Ap:wF h [.bh j 0 1 1,.bh i ((k+1)*3) (len+1-(k+1)) (cap-(k+1))]=eL (.bool fr):=by
   cases c with
   | nil=>simp at fU;omega
   | cons mC vR=>simp[wF,Q,L,iD]
  have c9:len*3+3<=c.length:=by omega
  have bd:=EG (P:=mP) (t:=288) (tx:=288) (o:=(k+1)*3) (dl:=len+1-(k+1)) (dc:=cap-(k+1)) (p:=k*3) (n:=len+1-k) (d:=cap-k) (m:=len-k) y8 L L (by show min (len+1-k) (len+1-(k+1))=len-k;omega) (by omega) (by simp only[];omega) (by simp only[];omega) w1;simp only at bd;rw[b4]at bd;obtain⟨R,e8,Ct⟩:=aru c (s.take (k*3)) (s.drop (k*3)) xs (a:=k*3) (x:=3) (b:=(len-k)*3) (by rw[azL,show k*3+(len-k)*3=len*3 by omega];exact b1) D G A (by omega);rw[show(k+1)*3=k*3+3 by omega]at E Ap bd;obtain⟨z,u⟩:∃y,y=h.set i (.cells (lay c (k*3+3) (s.drop (k*3))) 308 F):=⟨_,rfl⟩;rw[<-u]at bd;have g1:z.get i=.cells (lay c (k*3+3) (s.drop (k*3))) 308 F:=by rw[u];exact aM
  have BO:z.get j=.cells xs 308 none:=by rw[u,nk iD];exact Q
  have bx:J h z (λq=>q=i):=by rw[u];exact J.set _ _ _
  have eh:z.n=h.n:=by rw[u];rfl
  have gp:(lay c (k*3+3) (s.drop (k*3))).length=c.length:=q9 _ _ _ (by rw[G];omega);have C:=EG (P:=mP) (t:=288) (tx:=288) (o:=k*3) (dl:=len+1-k) (dc:=cap-k) (p:=0) (n:=1) (d:=1) (m:=1) y8 g1 BO (by show min 1 (len+1-k)=1;omega) (by decide) (by simp only[];omega) (by rw[gp];simp only[];omega) (by rw[T];exact Z);simp only at C;rw[T]at C;simp only[ae,azH,ds,reduceCtorEq,uh,s1,ba,d1,cH,aw,d2,s2,xZ,E];refine AC apT W6 Ap ?_;simp only[ae,ds,reduceCtorEq];refine aT.cL kR [8] (.q 0 (.q 1 (.q 2 (.q 3 (.q 4 (.q 5 (.q 6 (.q 7 (.a 8 .done))))))))) ?_;simp only[ae,bw,ds,reduceCtorEq,xZ,E,H,bd,C,aJ];refine ar ⟨.inr ⟨i,len+1,cap,_,F,rfl,by rw[jM,eh];exact hi,aM,?_,?_,.inl ⟨B,by rw[Ct];exact fU,Y⟩⟩,bx.trans' (J.set _ _ _),.inl rfl⟩
  .simp only[D9,D,G,A];omega
  .rw[e8,<-axC];exact aAj (by simp only[D9,D,G,A];omega)
end Go.Proofs.YtemdgidnhgcafaaGreatDoor.Pk
