/-
  What functions of the program do, told of abstract states. Conditions: as each theorem says.
-/
import Derived.Test.YtemdgidnhgcafaaGreatDoorAbD
import Derived.Shelf.Sort.Plain
import Derived.Shelf.Slices.In.SortNone
import Derived.Test.YtemdgidnhgcafaaGreatDoorProg
import Derived.Test.YtemdgidnhgcafaaGreatDoorMd
import Derived.Test.YtemdgidnhgcafaaGreatDoorMb
import Derived.Test.YtemdgidnhgcafaaGreatDoorMa
import Derived.Test.YtemdgidnhgcafaaGreatDoorMc
open Go.Proofs.Tryz renaming prog->ds,results69->aBA,results26->az0,results68->aBC,results111->aBD,results195->awY,results172->avN
open List renaming mem_cons->IN,pairwise_cons->avf,Pairwise->avV,length_map->VY,mem_map->MF,mem_filter->afP,range->VT,getD->ava,getElem?_set->awJ,drop_of_length_le->avZ,getElem?_eq_getElem->ME,getElem_mem->avb,drop_eq_getElem_cons->avk,length_range->ax3,getElem?_range->axe,replicate->avr,length_replicate->axv,append_nil->avq,length_append->IS,take_succ_eq_append_getElem->avt,take_of_length_le->are,flatMap_append->avH,flatMap_cons->avj,length_cons->ave,length_nil->avi,length_filter_le->awv
open Nat renaming mul_one->VU,reduceEqDiff->vt,le_refl->BY,lt_of_lt_of_le->MC,zero_le->Dc,sub_self->ax4,reduceAdd->AS,reduceLeDiff->By,le_trans->OF
open Int renaming tmod_lt_of_pos->aBB,reduceNeg->MD,toNat->avn,reduceBNe->awh
set_option linter.unusedVariables false
set_option linter.unusedSimpArgs false
set_option maxHeartbeats 4000000
set_option maxRecDepth 10000
namespace Go.Proofs.YtemdgidnhgcafaaGreatDoor.Pk
open Go.Shelf
def ap4:Go.Shelf.Ren:=⟨fun | 189=>151 | 125=>97 | 257=>171 | 128=>131 | 129=>132 | 294=>186 | 295=>187 | 296=>188 | 297=>189 | 298=>190 | 299=>191 | 216=>192 | 300=>193 | 301=>194 | 328=>207 | 329=>160 | 330=>161 | 331=>208 | 332=>209 | 215=>98 | 343=>228 | n=>n,fun | 28=>46 | 3=>3 | 46=>189 | 0=>0 | 51=>236 | 53=>131 | 4=>4 | 183=>229 | 182=>228 | 131=>233 | 5=>5 | 9=>9 | 218=>270 | 222=>274 | 228=>310 | 229=>82 | n=>n,fun | n=>n⟩
theorem abC:Go.Proofs.Lays.n189 ds ap4:={
 mixed:=by kernel_rfl
 f125:=Tryz.func97.trans (congrArg some (by kernel_rfl))
 f128:=Tryz.func131.trans (congrArg some (by kernel_rfl))
 f129:=Tryz.func132.trans (congrArg some (by kernel_rfl))
 f189:=Tryz.func151.trans (congrArg some (by kernel_rfl))
 f215:=Tryz.func98.trans (congrArg some (by kernel_rfl))
 f216:=Tryz.func192.trans (congrArg some (by kernel_rfl))
 f257:=Tryz.func171.trans (congrArg some (by kernel_rfl))
 f294:=Tryz.func186.trans (congrArg some (by kernel_rfl))
 f295:=Tryz.func187.trans (congrArg some (by kernel_rfl))
 f296:=Tryz.func188.trans (congrArg some (by kernel_rfl))
 f297:=Tryz.func189.trans (congrArg some (by kernel_rfl))
 f298:=Tryz.func190.trans (congrArg some (by kernel_rfl))
 f299:=Tryz.func191.trans (congrArg some (by kernel_rfl))
 f300:=Tryz.func193.trans (congrArg some (by kernel_rfl))
 f301:=Tryz.func194.trans (congrArg some (by kernel_rfl))
 f328:=Tryz.func207.trans (congrArg some (by kernel_rfl))
 f329:=Tryz.func160.trans (congrArg some (by kernel_rfl))
 f330:=Tryz.func161.trans (congrArg some (by kernel_rfl))
 f331:=Tryz.func208.trans (congrArg some (by kernel_rfl))
 f332:=Tryz.func209.trans (congrArg some (by kernel_rfl))
 f343:=Tryz.func228.trans (congrArg some (by kernel_rfl))
 t0:=Tryz.underlying0
 a0:=Tryz.isAgg0
 z0:=Tryz.sizeOf0
 v0:=Tryz.zeroValue0
 t3:=Tryz.underlying3
 a3:=Tryz.isAgg3
 z3:=Tryz.sizeOf3
 v3:=Tryz.zeroValue3
 t4:=Tryz.underlying4
 a4:=Tryz.isAgg4
 z4:=Tryz.sizeOf4
 v4:=Tryz.zeroValue4
 t5:=Tryz.underlying5
 a5:=Tryz.isAgg5
 z5:=Tryz.sizeOf5
 v5:=Tryz.zeroValue5
 t9:=Tryz.underlying9
 a9:=Tryz.isAgg9
 z9:=Tryz.sizeOf9
 v9:=Tryz.zeroValue9
 t28:=Tryz.underlying46
 a28:=Tryz.isAgg46
 z28:=Tryz.sizeOf46
 v28:=Tryz.zeroValue46
 t46:=Tryz.underlying189
 a46:=Tryz.isAgg189
 z46:=Tryz.sizeOf189
 v46:=Tryz.zeroValue189
 t51:=Tryz.underlying236
 a51:=Tryz.isAgg236
 z51:=Tryz.sizeOf236
 v51:=Tryz.zeroValue236
 t53:=Tryz.underlying131
 a53:=Tryz.isAgg131
 z53:=Tryz.sizeOf131
 v53:=Tryz.zeroValue131
 t131:=Tryz.underlying233
 a131:=Tryz.isAgg233
 z131:=Tryz.sizeOf233
 v131:=Tryz.zeroValue233
 t182:=Tryz.underlying228
 a182:=Tryz.isAgg228
 z182:=Tryz.sizeOf228
 v182:=Tryz.zeroValue228
 t183:=Tryz.underlying229
 a183:=Tryz.isAgg229
 z183:=Tryz.sizeOf229
 v183:=Tryz.zeroValue229
 t218:=Tryz.underlying270
 a218:=Tryz.isAgg270
 z218:=Tryz.sizeOf270
 v218:=Tryz.zeroValue270
 t222:=Tryz.underlying274
 a222:=Tryz.isAgg274
 z222:=Tryz.sizeOf274
 v222:=Tryz.zeroValue274
 t228:=Tryz.underlying310
 a228:=Tryz.isAgg310
 z228:=Tryz.sizeOf310
 v228:=Tryz.zeroValue310
 t229:=Tryz.underlying82
 a229:=Tryz.isAgg82
 z229:=Tryz.sizeOf82
 v229:=Tryz.zeroValue82 }
open Go.Sort Go.RowKit in
theorem slices_Sort_int (hs off cap:Nat) (zs:List Int) (w:World) (hH:Holds (Value.int .i64) w hs off zs.toArray) (hblk:hs<w.heap.size) (bo:zs.length<4611686018427387904) :
  Calls ds 151 #[.slice (some ⟨hs,off,none⟩) zs.length cap] w fun e w'=>
   e=.returned (.tuple #[])∧∃ n os,w'=grow (putRow (Value.int .i64) (Sort.ahead w n) hs off (zs.mergeSort fun x y=>decide (x≤y)).toArray) os:=Any.slices_Sort_int abC hs off cap zs w hH hblk bo
open Go.Sort Go.RowKit in
theorem slices_Sort_int_none (p:Option Addr) (cap:Nat) (w:World) :
  Calls ds 151 #[.slice p 0 cap] w fun e w'=>e=.returned (.tuple #[])∧w'=w:=Any.slices_Sort_int_none abC p cap w
open Go Go.Proofs Go.Proofs.YtemdgidnhgcafaaGreatDoor.Ab
theorem ap5 {h:I} {v:V} {l:List Int} (aN:Own h 3 1 v (ar l)) (aw:l.length<4611686018427387904) :
  af ds 151 [v] h (fun r h'=>r=.tuple []∧Own h' 3 1 v (ar (l.mergeSort fun x y=>decide (x≤y)))∧J h h' (a6 v)) :=
 akA (fun hs off cap zs w hH al aa=>slices_Sort_int hs off cap zs w hH al aa) (fun p cap w=>slices_Sort_int_none p cap w) aN aw
theorem abD:∀ {b a:List Int},a.Perm b→a.Pairwise (·≤·)→b.Pairwise (·<·)→a=b
 | [],a,aU,_,_=>aU.eq_nil
 | y::ao,[],aU,_,_=>by have:=aU.length_eq;simp at this
 | y::ao,x::xs,aU,aP,al=>by
  have aj:x ∈ y::ao:=aU.subset (by simp)
  have bp:y ∈ x::xs:=aU.symm.subset (by simp)
  have h1:x≤y:=by
   rcases IN.1 bp with h | h
   ·omega
   ·exact (avf.1 aP).1 y h
  have ad:y≤x:=by
   rcases IN.1 aj with h | h
   ·omega
   ·have:=(avf.1 al).1 x h;omega
  obtain rfl:x=y:=by omega
  rw [abD (List.perm_cons x |>.1 aU) (avf.1 aP).2 (avf.1 al).2]
theorem Uk:∀ {zs:List Int} {lo:Int},p7 lo zs→zs.Pairwise (·<·)∧∀ x ∈ zs,lo<x
 | [],lo,_=>⟨avV.nil,by simp⟩
 | z::zs,lo,h=>by
  obtain ⟨h1,ad⟩:=h;obtain ⟨i1,i2⟩:=Uk ad;refine ⟨avf.2 ⟨fun x aj=>i2 x aj,i1⟩,fun x aj=>?_⟩;rcases IN.1 aj with rfl | aj
  ·exact h1
  ·have:=i2 x aj;omega
theorem ap6 {zs aQ:List Int} {lo:Int} (aP:p7 lo zs) (aU:aQ.Perm zs):(aQ.mergeSort fun x y=>decide (x≤y))=zs:=by
 refine abD ((List.mergeSort_perm _ _).trans aU) ?_ (Uk aP).1;have:=List.pairwise_mergeSort (le:=fun x y:Int=>decide (x≤y)) (by intro a b c h1 ad;simp at *;omega) (by intro a b;simp;omega) aQ
 exact this.imp fun h=>by simpa using h
theorem ap7 (h:I) (p:V) (l:Seen) (i j cl:Nat) (hm:d8 h p l i j cl) (zs:List Int) (bR:l.map (·.2.1)=zs) (aP:p7 (-1) zs) (aw:zs.length≤24) :
  Pure ds 115 [p] h (.ah zs.length (ar zs)):=by
 obtain ⟨rfl,hi,aV,j9,oE,mZ,aa⟩:=hm;have c2:=aa;refine Pure.acc (e:=3) (sz:=1) (wV _) (by rw [gi,VU]) (by omega) ?_
 refine af.au (c:=_) Tryz.func115 rfl (by kernel_rfl) (by simp) ?_
 have mY:=M7 (P:=ds) Js mZ;simp only [ae,vt,reduceCtorEq,AF,B8,AL,oE,mY];refine aZ.bQ (α:=V×List (Nat×Int×Int)) (fun x f h'=>h'.get h.n=.iter j cl (x.2.map (·.1)) cl∧h'.get j=.map (mapOf .i64 ny l) cl∧h.n<h'.n∧f 11=.ptr h.n 0∧f 3=x.1∧Acc h h' 3 1 x.1 (ar (x.2.map (·.2.1)))∧a8 x.1≠some h.n∧(∀ e ∈ x.2,e ∈ l)∧x.2.Nodup)
  (fun x=>(nk (mapOf .i64 ny l) (x.2.map (·.1))).length) (.ag,[]) ⟨ck,by rw [lx aV];exact mZ,by rw [dq];omega,rfl,rfl,Acc.nil (J.push _ _ _),by simp [a8],by simp,List.nodup_nil⟩ ?_
 rintro ⟨v,cR⟩ f h' ⟨g1,g2,aG,f11,f3,cb,aH,oi,uT⟩
 simp only at g1 f3 cb aH oi uT;refine ee (by kernel_rfl) ?_
 have Fv:cR.length≤l.length:=uT.length_le_of_subset oi;have wo:l.length=zs.length:=by rw [←bR,VY]
 simp only [ae,f11];refine M4 g1 g2 aa (fun j3=>?_) fun e he=>?_
 ·have dr:∀ e ∈ l,e ∈ cR:=fun e he=>by
   apply Classical.byContradiction;intro l6;have Ul:e.1 ∉ cR.map (·.1):=fun hm=>by
    obtain ⟨ed,gG,rO⟩:=MF.1 hm;have:ed=e:=Ug c2.2 (oi ed gG) he rO;exact l6 (this ▸ gG)
   have:(e.1,V.int .i64 e.2.1,ny e.2.2) ∈ nk (mapOf .i64 ny l) (cR.map (·.1)):=by
    unfold nk;exact afP.2 ⟨MF.2 ⟨e,he,rfl⟩,by simpa using Ul⟩
   rw [j3] at this;simp at this
  have xm:l.Nodup:=by
   have:=c2.2;unfold mapOf at this;rw [List.map_map] at this;exact avV.of_map _ (fun a b ky heq=>ky (by rw [heq])) this
  have aU:cR.Perm l:=(List.perm_ext_iff_of_nodup uT xm).2 fun e=>⟨oi e,dr e⟩;have abE:(cR.map (·.2.1)).Perm zs:=by rw [←bR];exact aU.map _
  simp only [ae,vt,f3];refine cB Sz (ap5 cb.own (by rw [VY];omega)) fun r ad ⟨aC,dZ,ba⟩=>?_
  subst aC;rw [ap6 aP abE] at dZ;simp only [ae,vt,f3,aS,Tryz.results115,ac];exact ax (cb.step dZ ba (.inl rfl))
 ·have rI:=(afP.1 he).1;have KH:=(afP.1 he).2;obtain ⟨e6,wx,rfl⟩:=MF.1 rI;have l6:e6.1 ∉ cR.map (·.1):=by simpa using KH
  have Ba:=M5 (h:=h'.set h.n (.iter j cl (cR.map (·.1)++[e6.1]) cl)) (r:=h.n) (e:=(e6.1,V.int .i64 e6.2.1,ny e6.2.2)) aT (by rw [np (by omega)];exact g2) aa rI
  have cY:J h (h'.set h.n (.iter j cl (cR.map (·.1)++[e6.1]) cl)) none_:=cb.ai.mO (BY _) _;have w4:Acc h (h'.set h.n (.iter j cl (cR.map (·.1)++[e6.1]) cl)) 3 1 v (ar (cR.map (·.2.1))):=⟨cb.own.ai (J.set _ _ _) fun k hk uo=>aH (uo ▸ hk),cY,cb.new⟩;obtain ⟨v2,ad,cX,dZ,ba,d2⟩:=Np (P:=ds) (t:=46) (T:=⟨3,[.int .i64 0],1,8⟩) oU (by decide) w4.own (xs:=[.int .i64 e6.2.1]) rfl rfl (fun m hm=>by
   have gF:m * 1=(ar (cR.map (·.2.1))).length+1:=hm;rw [gi,VY] at gF;show m * 8≤lim∧m≤lim;unfold lim;omega)
  have abF:∀ h,ie ds 46 1 [(0,.int .i64 e6.2.1)] h=some (.bj h.n 0 1 1,h.push (.cells [.int .i64 e6.2.1] 3 none)):=fun h=>by rw [lY oU];rfl
  have abG:(h'.set h.n (.iter j cl (cR.map (·.1)++[e6.1]) cl)).get h.n=.iter j cl (cR.map (·.1)++[e6.1]) cl:=aT;have abH:(h'.set h.n (.iter j cl (cR.map (·.1)++[e6.1]) cl)).get j=.map (mapOf .i64 ny l) cl:=by rw [np (by omega)];exact g2
  have Qo:h.n<(h'.set h.n (.iter j cl (cR.map (·.1)++[e6.1]) cl)).n:=aG;generalize h'.set h.n (.iter j cl (cR.map (·.1)++[e6.1]) cl)=gI at *;have fv:¬a6 v h.n:=fun U=>aH U;have dy:¬a6 v j:=fun U=>by have:=cb.new j U;omega
  simp only [ae,vt,f11,Ba,ny,f3,abF,cX];refine ax ⟨(v2,cR++[e6]),⟨?_,?_,?_,f11,rfl,?_,?_,?_,?_⟩,?_⟩
  ·rw [ba.get h.n Qo fv,abG];simp
  ·rw [ba.get j (by omega) dy,abH]
  ·exact MC Qo ba.n
  ·exact (w4.step dZ ba d2).conv (by simp [ar])
  ·intro U;rcases d2 with d | d
   ·exact aH (d ▸ U)
   ·have:=d h.n U;omega
  ·intro e rO;rcases List.mem_append.1 rO with h1 | h1
   ·exact oi e h1
   ·simp at h1;subst h1;exact wx
  ·rw [List.nodup_append];refine ⟨uT,by simp,fun a aP b al ky=>?_⟩
   simp at al;subst al;subst ky;exact l6 (MF.2 ⟨a,aP,rfl⟩)
  ·simpa using M6 he
def nL (l:List bD) (L:List Nat) (v:Nat):List Int→Option (List Nat)
 | []=>none
 | f::r=>if gA l f≠5∧L.getD v 0≠L.getD f.toNat 0 then some ((L.set v (min (L.getD v 0) (L.getD f.toNat 0))).set f.toNat (min (L.getD v 0) (L.getD f.toNat 0))) else nL l L v r
def nM (l:List bD) (L:List Nat):Nat→List bD→Option (List Nat)
 | _,[]=>none
 | v,x::r=>match nL l L v x.bc with
  | some jw=>some jw
  | none=>nM l L (v+1) r
def pe (l:List bD):Nat→List Nat→List Nat
 | 0,L=>L
 | k+1,L=>match nM l L 0 l with
  | some jw=>pe l k jw
  | none=>L
def nN (l:List bD):List Nat:=pe l 600 (VT l.length)
def Bb (es:List (Nat×Int×Int)) (L:List Nat):Prop:=∀ k,k<L.length→bZ es (k:Int)=some ((L.getD k 0:Nat):Int)
def zj (es:List (Nat×Int×Int)):List (Nat×V×V):=ec (V.int .i64) (V.int .i64) es
theorem FS {h:I} {i cl:Nat} {es:List (Nat×Int×Int)} {L:List Nat} (hm:Bb es L) {k:Nat} (hk:k<L.length) (az:h.get i=.map (zj es) cl):nj ds 204 (.map i) (.int .i64 (k:Int)) false h=some (.int .i64 ((L.getD k 0:Nat):Int)):=by
 have:=Nv (enc:=V.int .i64) (ok:=false) (iN.ofInt NU) (k:=(k:Int)) NU Ks az;rw [this,hm k hk];rfl
theorem Es {h:I} {i cl:Nat} (es:List (Nat×Int×Int)) (k x:Int) (az:h.get i=.map (zj es) cl):vB ds 204 (.map i) (.int .i64 k) (.int .i64 x) h=some (h.set i (.map (zj (cW cl es k x)) (gj cl es k))) :=
 Nw (enc:=V.int .i64) (iN.ofInt NU) (k:=k) NU az rfl
theorem Bb.set {es:List (Nat×Int×Int)} {L:List Nat} (a:Bb es L) (cl k x:Nat):Bb (cW cl es (k:Int) (x:Int)) (L.set k x):=fun j aV=>by
 rw [List.length_set] at aV;rw [wX];by_cases he:j=k
 ·subst he;rw [if_pos rfl,ava,awJ];simp [aV]
 ·rw [if_neg (by omega),a j aV,ava,ava,awJ,if_neg (by omega)]
theorem abI {l:List bD} {L:List Nat} {v:Nat}:∀ {r:List Int} {jw:List Nat},nL l L v r=some jw→∃ f ∈ r,L.getD v 0≠L.getD f.toNat 0∧jw=(L.set v (min (L.getD v 0) (L.getD f.toNat 0))).set f.toNat (min (L.getD v 0) (L.getD f.toNat 0))
 | [],_,h=>by cases h
 | f::r,jw,h=>by
  unfold nL at h;split at h
  ·rename_i ay;exact ⟨f,by simp,ay.2,(Option.some.inj h).symm⟩
  ·obtain ⟨g,az,h1,ad⟩:=abI h;exact ⟨g,List.mem_cons_of_mem _ az,h1,ad⟩
theorem Um:∀ {L:List Nat} {k:Nat} (x:Nat),k<L.length→(L.set k x).sum+L.getD k 0=L.sum+x
 | [],k,x,h=>by simp at h
 | a::r,0,x,_=>by simp;omega
 | a::r,k+1,x,h=>by
  have:=Um (L:=r) (k:=k) x (by simpa using h)
  simp only [List.set_cons_succ,List.sum_cons,List.getD_cons_succ];omega
theorem abJ {L:List Nat} {v f:Nat} (aH:v<L.length) (av:f<L.length) (bI:v≠f) (bf:L.getD v 0≠L.getD f 0):((L.set v (min (L.getD v 0) (L.getD f 0))).set f (min (L.getD v 0) (L.getD f 0))).sum<L.sum:=by
 have h1:=Um (L:=L) (min (L.getD v 0) (L.getD f 0)) aH;have ad:=Um (L:=L.set v (min (L.getD v 0) (L.getD f 0))) (k:=f) (min (L.getD v 0) (L.getD f 0)) (by simpa using av)
 have aD:(L.set v (min (L.getD v 0) (L.getD f 0))).getD f 0=L.getD f 0:=by
  rw [ava,awJ,if_neg bI,←ava]
 omega
theorem Un {l:List bD} {L:List Nat}:∀ {r:List bD} {v:Nat} {jw:List Nat},nM l L v r=some jw→∃ k x,r[k]?=some x∧nL l L (v+k) x.bc=some jw
 | [],_,_,h=>by cases h
 | x::r,v,jw,h=>by
  unfold nM at h;split at h
  ·rename_i q;exact ⟨0,x,rfl,by rw [Nat.add_zero,q];exact h⟩
  ·obtain ⟨k,y,h1,ad⟩:=Un h;exact ⟨k+1,y,by simpa using h1,by rw [show v+(k+1)=v+1+k by omega];exact ad⟩
theorem ap8 (l:List bD) (h:I) (tW:l.length≤24) (aL:∀ (v:Nat) (x:bD),l[v]?=some x→∀ f ∈ x.bc,0≤f∧f<(v:Int)) (lj:∀ x ∈ l,x.bc.length<2 ^ 47) :
  af ds 110 [.ah l.length (l.flatMap an)] h (fun r h'=>∃ m es cl,r=.map m∧h.n≤m∧m<h'.n∧h'.get m=.map (zj es) cl∧Bb es (nN l)∧(nN l).length=l.length∧J h h' none_):=by
 refine af.au (c:=_) Tryz.func110 rfl (by kernel_rfl) (by simp) ?_
 simp only [ae];refine aZ.BP (α:=Unit) (l:=0) rfl (fun _ f h'=>f 0=.ah l.length (l.flatMap an)∧f 3=.map h.n∧J h h' none_∧h.n<h'.n∧∃ es cl,h'.get h.n=.map (zj es) cl∧Bb es (VT l.length)) (fun _=>0) ?_ ?_ ?_
 ·intro _ f h1 _;omega
 ·rintro _ f h1 ⟨f0,f3,bJ,fv,es,cl,hh,kf⟩
  refine ee (by kernel_rfl) ?_
  simp only [ae];refine aZ.bQ (α:=List Nat×List (Nat×Int×Int)×Nat×Nat) (fun x f h'=>f 0=.ah l.length (l.flatMap an)∧f 3=.map h.n∧J h h' none_∧h.n<h'.n∧h'.get h.n=.map (zj x.2.1) x.2.2.1∧Bb x.2.1 x.1∧x.1.length=l.length∧x.1.sum<x.2.2.2∧pe l x.2.2.2 x.1=nN l) (fun x=>x.1.sum) (VT l.length,es,cl,600) ⟨f0,f3,bJ,fv,hh,kf,by simp,?_,rfl⟩ ?_
  ·show (VT l.length).sum<600;have:∀ n:Nat,n≤24→(VT n).sum<600:=by decide
   exact this _ tW
  rintro ⟨L,es,cl,k⟩ f ad ⟨f0,f3,ba,dy,hh,kf,gH,hk,eC⟩
  simp only at hh kf gH hk eC;refine ee (by kernel_rfl) ?_
  simp only [ae,rn,f0];refine aZ.bQ (α:=Nat) (fun v f h'=>f 0=.ah l.length (l.flatMap an)∧f 3=.map h.n∧f 20=.ah l.length (l.flatMap an)∧f 21=.int .i64 ((l.length:Nat):Int)∧f 22=.int .i64 (v:Nat)∧v≤l.length∧J h h' none_∧h.n<h'.n∧h'.get h.n=.map (zj es) cl∧nM l L 0 l=nM l L v (l.drop v)) (fun v=>l.length - v) 0 ⟨f0,f3,rfl,rfl,rfl,Dc _,ba,dy,hh,rfl⟩ ?_
  rintro v g aD ⟨g0,g3,g20,g21,g22,aH,b2,n3,zP,bL⟩
  refine ee (by kernel_rfl) ?_
  by_cases aM:v<l.length;rotate_left
  ·have bb:decide ((v:Int)<((l.length:Nat):Int))=false:=by simp only [decide_eq_false_iff_not];omega
   rw [avZ (by omega)] at bL
   have tS:pe l k L=L:=by
    obtain ⟨k',rfl⟩:∃ k',k=k'+1:=⟨k - 1,by omega⟩
    unfold pe;rw [bL];rfl
   simp only [ae,vt,g3,g21,g22,bb,Ax,aS,Tryz.results110,ac];exact ax ⟨h.n,es,cl,rfl,BY _,n3,zP,by rw [←eC,tS];exact kf,by rw [←eC,tS];exact gH,b2⟩
  have bb:decide ((v:Int)<((l.length:Nat):Int))=true:=by simp only [decide_eq_true_eq];omega
  have ft:=sX (kk:=.i64) (P:=ds) ki aM DY;have Qp:=aL v l[v] (ME aM);have xy:=lj l[v] (avb aM);rw [avk aM] at bL
  replace bL:nM l L 0 l=match nL l L v l[v].bc with | some jw=>some jw | none=>nM l L (v+1) (l.drop (v+1)):=bL
  have bS:IntKind.i64.wrap (((v:Nat):Int)+1)=((v+1:Nat):Int):=by rw [Go.IntWalk.i64_in _ (by omega)];omega
  generalize l[v]=A at ft Qp xy bL;have kg:∀ (q:List V),cO (some (some 6)) (some (an A++q))=some (.agg (an A)):=fun q=>lz (ki A);have cm:(V.agg (an A)).cells=some (an A):=rfl;have dV:bF (some 6) (aO.cells [.int .i64 0,.ag,.int .i64 0,.int .i64 0,.ag,.int .i64 0] 68 none) 0 (an A)=some (.cells (an A) 68 none):=by
   rw [sR (n:=6) (ki A) (A5 A),if_pos (by decide),qB];rfl
  have ga:cP (aO.cells (an A) 68 none) 1=some [.ah A.bc.length (ar A.bc),.int .i64 A.e.op,.int .i64 A.e.num,.ah A.e.aQ.length (A.e.aQ.flatMap aE),.int .i64 A.n]:=by rw [qB];rfl
  obtain ⟨hY,iq⟩:∃ x,x=aD.push (.cells (an A) 68 none):=⟨_,rfl⟩;have KB:hY.get aD.n=.cells (an A) 68 none:=by rw [iq];exact ck
  have Fw:hY.get h.n=.map (zj es) cl:=by rw [iq];exact (lx (by omega)).trans zP
  have db:J h hY none_:=by rw [iq];exact b2.bH _
  have n4:hY.n=aD.n+1:=by rw [iq];rfl
  simp only [ae,vt,rl,gy,hz,om,pZ,p0,g20,g21,g22,bb,ft,kg,cm,dV,←iq,KB,ga];refine aZ.bQ (α:=Nat) (fun j f h'=>f 0=.ah l.length (l.flatMap an)∧f 3=.map h.n∧f 20=.ah l.length (l.flatMap an)∧f 21=.int .i64 ((l.length:Nat):Int)∧f 22=.int .i64 (v:Nat)∧f 5=.int .i64 (v:Nat)∧f 28=.ah A.bc.length (ar A.bc)∧f 29=.int .i64 ((A.bc.length:Nat):Int)∧f 30=.int .i64 (j:Nat)∧j≤A.bc.length∧h'=hY∧nL l L v A.bc=nL l L v (A.bc.drop j)) (fun j=>A.bc.length - j) 0 ⟨g0,g3,g20,g21,g22,rfl,rfl,rfl,rfl,Dc _,rfl,rfl⟩ ?_
  rintro j p bN ⟨vD,yp,KI,KJ,Fx,Ha,CD,zQ,Fy,aV,rfl,hW⟩
  refine ee (by kernel_rfl) ?_
  by_cases KK:j<A.bc.length;rotate_left
  ·have bt:decide ((j:Int)<((A.bc.length:Nat):Int))=false:=by simp only [decide_eq_false_iff_not];omega
   rw [avZ (by omega)] at hW
   have abK:nL l L v A.bc=none:=hW;rw [abK] at bL;simp only [ae,vt,yp,Fx,zQ,Fy,bt,bS];exact ax ⟨v+1,⟨vD,yp,KI,KJ,rfl,by omega,db,by omega,Fw,bL⟩,by omega⟩
  have bt:decide ((j:Int)<((A.bc.length:Nat):Int))=true:=by simp only [decide_eq_true_eq];omega
  have cy:=tH (P:=ds) (kk:=.i64) KK jI;have j7:IntKind.i64.wrap (((j:Nat):Int)+1)=((j+1:Nat):Int):=by rw [Go.IntWalk.i64_in _ (by omega)];omega
  have cU:A.bc[j] ∈ A.bc:=avb KK;rw [avk KK] at hW;generalize A.bc[j]=B at cy cU hW;obtain ⟨pr,sS⟩:=Qp B cU;obtain ⟨q,rfl⟩:∃ q:Nat,B=(q:Int):=⟨B.toNat,by omega⟩
  obtain ⟨eN,ir,jv⟩:=CA (l:=l) (q:=q) (by omega)
  have Bc:=FS kf (k:=v) (by omega) Fw
  have OA:=FS kf (k:=q) (by omega) Fw
  replace hW:nL l L v A.bc=if gA l (q:Int)≠5∧L.getD v 0≠L.getD q 0 then some ((L.set v (min (L.getD v 0) (L.getD q 0))).set q (min (L.getD v 0) (L.getD q 0))) else nL l L v (A.bc.drop (j+1)):=hW
  by_cases Fz:gA l (q:Int)=5
  ·have c3:(gA l (q:Int) !=5)=false:=by simp [Fz]
   rw [if_neg (by simp [Fz])] at hW
   simp only [ae,vt,reduceCtorEq,hd,aW,vD,CD,zQ,Fy,bt,cy,eN,ir,c3,j7];exact ax ⟨j+1,⟨vD,yp,KI,KJ,Fx,Ha,CD,zQ,rfl,by omega,rfl,hW⟩,by omega⟩
  have c3:(gA l (q:Int) !=5)=true:=by simp [Fz]
  by_cases heq:L.getD v 0=L.getD q 0
  ·have eP:(((L.getD v 0:Nat):Int) !=((L.getD q 0:Nat):Int))=false:=by rw [heq];simp
   rw [if_neg (fun U=>U.2 heq)] at hW;simp only [ae,vt,reduceCtorEq,hd,aW,vD,yp,Ha,CD,zQ,Fy,bt,cy,eN,ir,c3,Bc,OA,eP,j7];exact ax ⟨j+1,⟨vD,yp,KI,KJ,Fx,Ha,CD,zQ,rfl,by omega,rfl,hW⟩,by omega⟩
  have eP:(((L.getD v 0:Nat):Int) !=((L.getD q 0:Nat):Int))=true:=by rw [bne_iff_ne];omega
  rw [if_pos ⟨Fz,heq⟩] at hW;rw [hW] at bL;have Uo:=abJ (L:=L) (v:=v) (f:=q) (by omega) (by omega) (by omega) heq
  generalize Et:min (L.getD v 0) (L.getD q 0)=low at hW bL Uo;have DC:min ((L.getD v 0:Nat):Int) ((L.getD q 0:Nat):Int)=((low:Nat):Int):=by rw [←Et,Nat.min_def,Int.min_def];split<;>split<;>omega
  have yl:=Es es (v:Int) (low:Int) Fw;have T5:=Es (h:=bN.set h.n (.map (zj (cW cl es (v:Int) (low:Int))) (gj cl es (v:Int)))) (cW cl es (v:Int) (low:Int)) (q:Int) (low:Int) aT;simp only [ae,vt,reduceCtorEq,hd,aW,vD,yp,Fx,Ha,CD,zQ,Fy,bt,cy,eN,ir,c3,Bc,OA,eP,DC,yl,T5];obtain ⟨k',rfl⟩:∃ k',k=k'+1:=⟨k - 1,by omega⟩
  have abL:pe l k' ((L.set v low).set q low)=nN l:=by
   rw [←eC];show _=match nM l L 0 l with | some jw=>pe l k' jw | none=>L
   rw [bL]
  refine ax ⟨((L.set v low).set q low,cW (gj cl es (v:Int)) (cW cl es (v:Int) (low:Int)) (q:Int) (low:Int),gj (gj cl es (v:Int)) (cW cl es (v:Int) (low:Int)) (q:Int),k'),⟨vD,yp,db.mO (BY _) _,by show h.n<bN.n;omega,aT,(kf.set cl v low).set _ q low,by simp [gH],by simp only;omega,abL⟩,by simp only;omega⟩
 ·intro step;refine aZ.seq (ee (by kernel_rfl) ?_)
  simp only [ae,vt];refine aZ.seq (ee (by kernel_rfl) ?_)
  simp only [ae,vt,reduceCtorEq,rn];refine aZ.bQ (α:=Nat×List (Nat×Int×Int)×Nat) (fun x f h'=>f 0=.ah l.length (l.flatMap an)∧f 3=.map h.n∧f 12=.int .i64 ((l.length:Nat):Int)∧f 13=.int .i64 (x.1:Nat)∧x.1≤l.length∧J h h' none_∧h.n<h'.n∧h'.get h.n=.map (zj x.2.1) x.2.2∧Bb x.2.1 (VT x.1)) (fun x=>l.length - x.1) (0,[],0) ⟨rfl,rfl,rfl,rfl,Dc _,J.push _ _ _,Nat.lt_succ_self _,ck,fun k hk=>by simp at hk⟩ ?_
  rintro ⟨i,es,cl⟩ f h1 ⟨f0,f3,f12,f13,hi,bJ,fv,hh,kf⟩
  simp only at f13 hi hh kf;refine ee (by kernel_rfl) ?_
  by_cases aM:i<l.length
  ·have bb:decide ((i:Int)<((l.length:Nat):Int))=true:=by simp only [decide_eq_true_eq];omega
   have bS:IntKind.i64.wrap (((i:Nat):Int)+1)=((i+1:Nat):Int):=by rw [Go.IntWalk.i64_in _ (by omega)];omega
   have yl:=Es es (i:Int) (i:Int) hh;have FA:Bb (cW cl es (i:Int) (i:Int)) (VT (i+1)):=fun k hk=>by
    rw [ax3] at hk;rw [wX];have az:(VT (i+1)).getD k 0=k:=by rw [ava,axe hk];rfl
    rw [az];by_cases o0:k=i
    ·rw [o0,if_pos rfl]
    ·rw [if_neg (by omega),kf k (by rw [ax3];omega),ava,axe (by omega)]
     rfl
   simp only [ae,vt,f3,f12,f13,bb,yl,bS];exact ax ⟨(i+1,cW cl es (i:Int) (i:Int),gj cl es (i:Int)),⟨f0,f3,f12,rfl,by simp only;omega,bJ.mO (BY _) _,fv,aT,FA⟩,by simp only;omega⟩
  ·have bb:decide ((i:Int)<((l.length:Nat):Int))=false:=by simp only [decide_eq_false_iff_not];omega
   have sl:i=l.length:=by omega
   rw [sl] at kf;simp only [ae,f12,f13,bb];refine aZ.seq (.label ?_);exact step () _ _ ⟨f0,f3,bJ,fv,es,cl,hh,kf⟩
theorem OB {L:List Nat} {k j x:Nat}:(L.set k x).getD j 0=if k=j∧j<L.length then x else L.getD j 0:=by
 rw [ava,awJ];by_cases h:k=j
 ·subst h;by_cases aw:k<L.length
  ·simp [aw]
  ·simp [aw,ava]
 ·simp [h,ava]
theorem abM {l:List bD}:∀ (k:Nat) (L:List Nat),(∀ j,L.getD j 0≤j)→∀ j,(pe l k L).getD j 0≤j
 | 0,L,h,j=>h j
 | k+1,L,h,j=>by
  unfold pe;cases ab:nM l L 0 l with
  | none=>exact h j
  | some jw=>
   refine abM k jw (fun j=>?_) j;obtain ⟨v,x,h1,ad⟩:=Un ab;obtain ⟨f,_,_,e⟩:=abI ad;rw [e,OB,OB];have a:=h (0+v);have b:=h f.toNat;split
   ·rename_i U;rw [←U.1];omega
   ·split
    ·rename_i U;rw [←U.1];omega
    ·exact h j
theorem abN (l:List bD):∀ j,(nN l).getD j 0≤j:=abM _ _ fun j=>by
 rw [ava];by_cases h:j<l.length
 ·rw [axe h];exact BY _
 ·rw [List.getElem?_eq_none (by simp;omega)];exact Dc _
theorem Own.at' {h:I} {e:TypeId} {v:V} {cs:List V} {i:Nat} (aN:Own h e 1 v cs) (hi:a8 v=some i) {k:Nat} (hk:k<cs.length) {kk:IntKind} {t:TypeId} (aa:dF ds t=some 1) :
  hG ds t v (.int kk (k:Int))=some (.ptr i k)∧(∃ r,cP (h.get i) k=some (cs[k]::r))∧∀ x,x.one=true→∃ ob,bF (some 1) (h.get i) k [x]=some ob∧Own (h.set i ob) e 1 v (cs.set k x):=by
 obtain ⟨j,cX,dT,e8,jt⟩:=Nb (P:=ds) (kk:=kk) aa aN hk;rw [hi] at dT;obtain rfl:i=j:=by simpa using dT
 exact ⟨cX,e8,fun x aj=>by obtain ⟨ob,a,b,_⟩:=jt x aj;exact ⟨ob,a,b⟩⟩
def ek (R:List Nat):Nat→List Int×Nat
 | 0=>([],0)
 | i+1=>if R.getD i 0=i then ((ek R i).1++[((ek R i).2:Int)],(ek R i).2+1) else ((ek R i).1++[(ek R i).1.getD (R.getD i 0) 0],(ek R i).2)
theorem yq (R:List Nat):∀ i,(ek R i).1.length=i
 | 0=>rfl
 | i+1=>by unfold ek;split<;>simp [yq R i]
theorem Up (R:List Nat):∀ i,(ek R i).2≤i
 | 0=>BY _
 | i+1=>by have:=Up R i;unfold ek;split<;>simp only<;>omega
def fC (p:Int) (l:List bD):List Int:=if (ch p l).2=0 then (ek (nN l) l.length).1 else []
theorem abO {P:List Int} {i n:Nat} (lV:P.length=i) (hi:i<n) (x:Int):(P++avr (n - i) 0).set i x=(P++[x])++avr (n - (i+1)) 0:=by
 subst lV;rw [List.set_append_right _ _ (BY _),ax4,show n - P.length=(n - (P.length+1))+1 by omega,List.replicate_succ,List.set_cons_zero]
 simp
theorem OC (l:List bD) (p:Int) (aY:k7 l) (h:I) (az:jf h):Pure ds 69 [.agg (cT l p)] h (.tuple [.ah (fC p l).length (ar (fC p l)),.int .i64 (ch p l).2]):=by
 refine Pure.of (a7.tuple (a1.cons (a7.ah (wV _)) (a1.cons (a7.int _ _) a1.nil))) ?_;have ay:(V.agg (cT l p)).cells=some [.ah l.length (l.flatMap an),.int .i64 p]:=rfl;obtain ⟨H,hH⟩:∃ x,x=h.push (.cells [.ah l.length (l.flatMap an),.int .i64 p] 24 none):=⟨_,rfl⟩;have gt:H.get h.n=.cells [.ah l.length (l.flatMap an),.int .i64 p] 24 none:=by rw [hH];exact ck
 have bw:J h H none_:=by rw [hH];exact J.push _ _ _
 have ju:H.n=h.n+1:=by rw [hH];rfl
 have jO:=az.ai bw;refine af.au (c:=_) Tryz.func69 rfl (by kernel_rfl) (by simp) ?_
 simp only [ae,vt,AS,js,ay,←hH,gt];refine bW NG (Ov l p aY H jO) ?_;by_cases aK:(ch p l).2=0;rotate_left
 ·have bt:((ch p l).2 !=0)=true:=by simp [aK]
  have bk:fC p l=[]:=if_neg aK;simp only [ae,vt,qC,bt,aS,aBA,c9];exact ax ⟨_,by rw [bk];exact aA.tuple (aq.cons (aA.kI _) (aq.refl _ _)),bw⟩
 have bt:((ch p l).2 !=0)=false:=by simp [aK]
 obtain ⟨_,_,hc,uZ,_,dr⟩:=A9 aK;have bk:fC p l=(ek (nN l) l.length).1:=if_pos aK;simp only [ae,vt,AS,lZ,mw,qC,bt,gt];refine cB alw (ap8 l H uZ (fun v x aj f av=>(T3 (dr v x aj)).2.1 f av) (fun x aj=>(aY.2 x aj).2.1)) fun r h1 ⟨m,es,cl,ia,m1,m2,hh,kf,Fj,bJ⟩=>?_;subst ia;have KL:=abN l;generalize nN l=R at kf Fj KL bk;have Qq:=(bJ.get h.n (by omega) (by simp [none_])).trans gt
 have s9:yR ds 46 (.int .i64 ((l.length:Nat):Int)) (.int .i64 ((l.length:Nat):Int)) h1=some (.bj h1.n 0 l.length l.length,h1.push (.cells (ar (avr l.length 0)) 3 none)):=by
  rw [Na oU (BY _) (by simp only;omega) (by omega),afZ]
  simp [ar]
 have a0:Own (h1.push (.cells (ar (avr l.length 0)) 3 none)) 3 1 (.bj h1.n 0 l.length l.length) (ar (avr l.length 0)):=Own.eZ _ l.length (by rw [gi,axv,VU]) (by unfold cj;omega)
 obtain ⟨bK,bs⟩:∃ x,x=h1.push (.cells (ar (avr l.length 0)) 3 none):=⟨_,rfl⟩;have ba:J h1 bK none_:=by rw [bs];exact J.push _ _ _
 have dy:bK.n=h1.n+1:=by rw [bs];rfl
 rw [←bs] at a0;have p8:=(ba.get h.n (by have:=bJ.n;omega) (by simp [none_])).trans Qq
 have zR:=(ba.get m m2 (by simp [none_])).trans hh
 simp only [ae,vt,AS,lZ,rn,mw,Qq,s9,←bs,p8];have TI:=bJ.n;refine aZ.bQ (α:=Nat) (fun i f h'=>f 6=.map m∧f 7=.bj h1.n 0 l.length l.length∧f 8=.int .i64 (((ek R i).2:Nat):Int)∧f 27=.int .i64 ((l.length:Nat):Int)∧f 28=.int .i64 (i:Nat)∧i≤l.length∧J bK h' (fun q=>q=h1.n)∧Own h' 3 1 (.bj h1.n 0 l.length l.length) (ar ((ek R i).1++avr (l.length - i) 0))) (fun i=>l.length - i) 0 ⟨rfl,rfl,rfl,rfl,rfl,Dc _,J.refl _ _,a0⟩ ?_
 rintro i f aD ⟨f6,f7,f8,f27,f28,hi,b2,pA⟩
 have zP:=(b2.get m (by omega) (by omega)).trans zR
 refine ee (by kernel_rfl) ?_
 by_cases aM:i<l.length;rotate_left
 ·have c3:decide ((i:Int)<((l.length:Nat):Int))=false:=by simp only [decide_eq_false_iff_not];omega
  have sl:i=l.length:=by omega
  subst sl;rw [ax4,List.replicate_zero,avq] at pA;obtain ⟨bn,eP,db⟩:=aA.own pA (n:=l.length) (by rw [gi,yq,VU]) (by decide)
  have u0:J h bn none_:=(((bw.trans' bJ).trans' ba).trans b2 fun q ab e=>by omega).trans db fun q ab e=>by simp [a6,a8] at e;omega
  simp only [ae,vt,f7,f27,f28,c3,aS,aBA,c9];refine ax ⟨bn,?_,u0⟩;rw [bk,yq,aK];exact aA.tuple (aq.cons eP (aq.refl _ _))
 have c3:decide ((i:Int)<((l.length:Nat):Int))=true:=by simp only [decide_eq_true_eq];omega
 have bS:IntKind.i64.wrap (((i:Nat):Int)+1)=((i+1:Nat):Int):=by rw [Go.IntWalk.i64_in _ (by omega)];omega
 have jv:=FS kf (k:=i) (by omega) zP
 have hlen:(ar ((ek R i).1++avr (l.length - i) 0)).length=l.length:=by rw [gi,IS,yq,axv];omega
 obtain ⟨cX,_,e8⟩:=Pk.Own.at' (kk:=.i64) pA (i:=h1.n) rfl (k:=i) (by rw [hlen];exact aM) jI
 have hle:=Up R i;by_cases he:R.getD i 0=i
 ·have eP:(((R.getD i 0:Nat):Int)==((i:Nat):Int))=true:=by rw [he];simp
  have j7:IntKind.i64.wrap ((((ek R i).2:Nat):Int)+1)=(((ek R i).2+1:Nat):Int):=by rw [Go.IntWalk.i64_in _ (by omega)];omega
  obtain ⟨ob,dK,b7⟩:=e8 (.int .i64 (((ek R i).2:Nat):Int)) rfl;rw [Nh,abO (yq R i) aM] at b7;have aU:ek R (i+1)=((ek R i).1++[((ek R i).2:Int)],(ek R i).2+1):=if_pos he;simp only [ae,vt,oo,f6,f7,f8,f27,f28,c3,jv,eP,cX,dK,bS,j7];exact ax ⟨i+1,⟨f6,f7,by rw [aU];rfl,f27,rfl,by omega,b2.trans' (J.set _ _ _),by rw [aU];exact b7⟩,by omega⟩
 ·have eP:(((R.getD i 0:Nat):Int)==((i:Nat):Int))=false:=by simp only [beq_eq_false_iff_ne,ne_eq];omega
  have auj:=KL i;have aV:R.getD i 0<i:=by omega
  generalize ri:R.getD i 0=y8 at *;obtain ⟨pr,sS,_⟩:=Pk.Own.at' (kk:=.i64) pA (i:=h1.n) rfl (k:=y8) (by rw [hlen];omega) jI
  have mZ:(ar ((ek R i).1++avr (l.length - i) 0))[y8]'(by rw [hlen];omega)=.int .i64 ((ek R i).1.getD y8 0):=by
   simp only [ar,List.getElem_map];rw [List.getElem_append_left (by rw [yq];exact aV),ava,ME (by rw [yq];exact aV)]
   rfl
  obtain ⟨kV,sS⟩:=sS;rw [mZ] at sS;obtain ⟨ob,dK,b7⟩:=e8 (.int .i64 ((ek R i).1.getD y8 0)) rfl;rw [Nh,abO (yq R i) aM] at b7;have aU:ek R (i+1)=((ek R i).1++[(ek R i).1.getD y8 0],(ek R i).2):=by
   show (if R.getD i 0=i then _ else _)=_
   rw [ri,if_neg (by omega)]
  simp only [ae,vt,aW,oo,f6,f7,f27,f28,c3,jv,eP,pr,sS,cX,dK,bS];exact ax ⟨i+1,⟨f6,f7,by rw [aU];exact f8,f27,rfl,by omega,b2.trans' (J.set _ _ _),by rw [aU];exact b7⟩,by omega⟩
theorem abP (l:List bD) (p:Int) (aY:k7 l) (h:I) (az:jf h):Pure ds 49 [.agg (cT l p)] h (.bool ((ch p l).2==0)):=by
 refine Pure.val (a7.bool _) ?_;have ay:(V.agg (cT l p)).cells=some [.ah l.length (l.flatMap an),.int .i64 p]:=rfl;obtain ⟨H,hH⟩:∃ x,x=h.push (.cells [.ah l.length (l.flatMap an),.int .i64 p] 24 none):=⟨_,rfl⟩;have gt:H.get h.n=.cells [.ah l.length (l.flatMap an),.int .i64 p] 24 none:=by rw [hH];exact ck
 have bw:J h H none_:=by rw [hH];exact J.push _ _ _
 refine af.au (c:=_) Tryz.func49 rfl (by kernel_rfl) (by simp) ?_
 simp only [ae,vt,AS,js,ay,←hH,gt];refine bW NG (Ov l p aY H (az.ai bw)) ?_;simp only [ae,vt,qC,aS,Tryz.results49,ac];exact ax ⟨rfl,bw⟩
def Eu (p:Int) (l:List bD) (key:Int):Int:=if (ch p l).2=0 then (if key.tmod p<0 then key.tmod p+p else key.tmod p) else -1
theorem ap9 {a p:Int} (h1:1≤p):-p<a.tmod p∧a.tmod p<p:=by
 have e:=aBB a (show (0:Int)<p by omega)
 have bd:=aBB (-a) (show (0:Int)<p by omega)
 rw [Int.neg_tmod] at bd;omega
theorem aqa (l:List bD) (p key:Int) (aY:k7 l) (h:I) (az:jf h):Pure ds 26 [.agg (cT l p),.int .i64 key] h (.int .i64 (Eu p l key)):=by
 refine Pure.val (a7.int _ _) ?_;have ay:(V.agg (cT l p)).cells=some [.ah l.length (l.flatMap an),.int .i64 p]:=rfl;obtain ⟨H,hH⟩:∃ x,x=h.push (.cells [.ah l.length (l.flatMap an),.int .i64 p] 24 none):=⟨_,rfl⟩;have gt:H.get h.n=.cells [.ah l.length (l.flatMap an),.int .i64 p] 24 none:=by rw [hH];exact ck
 have bw:J h H none_:=by rw [hH];exact J.push _ _ _
 refine af.au (c:=_) Tryz.func26 rfl (by kernel_rfl) (by simp) ?_
 simp only [ae,MD,vt,AS,js,ay,←hH,gt];refine bW Yh (abP l p aY H (az.ai bw)) ?_;by_cases aK:(ch p l).2=0;rotate_left
 ·have bt:((ch p l).2==0)=false:=by simp [aK]
  simp only [ae,MD,vt,bt,aS,az0,ac];exact ax ⟨by rw [Eu,if_neg aK],bw⟩
 have bt:((ch p l).2==0)=true:=by simp [aK]
 obtain ⟨_,aU,_⟩:=A9 aK;obtain ⟨t1,t2⟩:=ap9 (a:=key) aU.1;by_cases aG:key.tmod p<0
 ·have c3:decide (key.tmod p<0)=true:=by simpa using aG
  have cV:IntKind.i64.wrap (key.tmod p+p)=key.tmod p+p:=Go.IntWalk.i64_in _ (by omega)
  simp only [ae,MD,vt,AS,By,fd,aW,bt,gt,BH (show p≠0 by omega),c3,cV,aS,az0,ac]
  exact ax ⟨by rw [Eu,if_pos aK,if_pos aG],bw⟩
 ·have c3:decide (key.tmod p<0)=false:=by simpa using aG
  simp only [ae,MD,vt,AS,By,fd,aW,bt,gt,BH (show p≠0 by omega),c3,aS,az0,ac]
  exact ax ⟨by rw [Eu,if_pos aK,if_neg aG],bw⟩
def mx:Int→List Int→Int
 | a,[]=>a
 | a,b::r=>mx (max a b) r
theorem Uq (b:Int):∀ (a:Int) (r:List Int),mx a (r++[b])=max (mx a r) b
 | a,[]=>rfl
 | a,c::r=>Uq b (max a c) r
theorem Ur (L:List Int) (a:Int) (r:List Int) (gH:L=a::r) (aw:L.length<2 ^ 40) (h:I):Pure ds 109 [.ah L.length (ar L)] h (.int .i64 (mx a r)):=by
 refine Pure.val (a7.int _ _) ?_;have dg:0<L.length:=by rw [gH];simp
 have aG:L.length=r.length+1:=by rw [gH];rfl
 refine af.au (c:=_) Tryz.func109 rfl (by kernel_rfl) (by simp) ?_
 have mm:decide (((L.length:Nat):Int)<1)=false:=by simp only [decide_eq_false_iff_not];omega
 have ft:(if (0:Int)<((L.length:Nat):Int)∧avn 0 * 1≤(ar L).length then some (V.at (List.drop (avn 0 * 1) (ar L))) else none)=some (V.at (.int .i64 a::ar r)):=by
  rw [if_pos ⟨by omega,by simp⟩,gH];rfl
 simp only [ae,Int.reduceLE,vt,reduceCtorEq,DM,gy,aW,jI,mm,ft];refine aZ.bQ (α:=Nat) (fun i f h'=>f 0=.ah L.length (ar L)∧f 3=.int .i64 (mx a (r.take i))∧f 4=.int .i64 ((i+1:Nat):Int)∧i≤r.length∧h'=h) (fun i=>r.length - i) 0 ⟨rfl,rfl,rfl,Dc _,rfl⟩ ?_
 rintro i f h1 ⟨f0,f3,f4,hi,rfl⟩
 refine ee (by kernel_rfl) ?_
 by_cases aM:i<r.length
 ·have bb:decide (((i+1:Nat):Int)<((L.length:Nat):Int))=true:=by simp only [decide_eq_true_eq];omega
  have cy:=tH (P:=ds) (kk:=.i64) (l:=L) (k:=i+1) (by omega) jI
  have az:L[i+1]'(by omega)=r[i]:=by subst gH;rfl
  have fr:r.take (i+1)=r.take i++[r[i]]:=avt aM;rw [az] at cy;generalize r[i]=B at cy fr;have bS:IntKind.i64.wrap (((i+1:Nat):Int)+1)=((i+1+1:Nat):Int):=by rw [Go.IntWalk.i64_in _ (by omega)];omega
  simp only [ae,vt,reduceCtorEq,gy,aW,f0,f3,f4,bb,cy,bS];exact ax ⟨i+1,⟨f0,by rw [fr,Uq];rfl,rfl,by omega,rfl⟩,by omega⟩
 ·have bb:decide (((i+1:Nat):Int)<((L.length:Nat):Int))=false:=by simp only [decide_eq_false_iff_not];omega
  rw [are (by omega)] at f3
  simp only [ae,vt,reduceCtorEq,gy,f0,f3,f4,bb,aS,Tryz.results109,ac];exact ax ⟨rfl,J.refl _ _⟩
def w5 (p:Int) (l:List bD):Int:=if (ch p l).2=0 then IntKind.i64.wrap (IntKind.i64.wrap (mx ((fC p l).headD 0) (fC p l).tail+1) * p) else 0
theorem Ev {p:Int} {l:List bD} (aK:(ch p l).2=0):(fC p l).length=l.length:=by
 unfold fC;rw [if_pos aK,yq]
theorem NE (l:List bD) (p:Int) (aY:k7 l) (h:I) (az:jf h):Pure ds 68 [.agg (cT l p)] h (.int .i64 (w5 p l)):=by
 refine Pure.val (a7.int _ _) ?_;have ay:(V.agg (cT l p)).cells=some [.ah l.length (l.flatMap an),.int .i64 p]:=rfl;obtain ⟨H,hH⟩:∃ x,x=h.push (.cells [.ah l.length (l.flatMap an),.int .i64 p] 24 none):=⟨_,rfl⟩;have gt:H.get h.n=.cells [.ah l.length (l.flatMap an),.int .i64 p] 24 none:=by rw [hH];exact ck
 have bw:J h H none_:=by rw [hH];exact J.push _ _ _
 refine af.au (c:=_) Tryz.func68 rfl (by kernel_rfl) (by simp) ?_
 simp only [ae,vt,AS,js,ay,←hH,gt];refine bW NI (OC l p aY H (az.ai bw)) ?_;by_cases aK:(ch p l).2=0;rotate_left
 ·have bt:((ch p l).2 !=0)=true:=by simp [aK]
  simp only [ae,vt,bt,aS,aBC,ac];exact ax ⟨by rw [w5,if_neg aK],bw⟩
 have bt:((ch p l).2 !=0)=false:=by simp [aK]
 obtain ⟨_,_,hc,uZ,_⟩:=A9 aK;have ll:=Ev aK;have cd:w5 p l=IntKind.i64.wrap (IntKind.i64.wrap (mx ((fC p l).headD 0) (fC p l).tail+1) * p):=if_pos aK;obtain ⟨a,r,gH⟩:∃ a r,fC p l=a::r:=by
  cases ab:fC p l with
  | nil=>rw [ab] at ll;simp at ll;omega
  | cons a r=>exact ⟨a,r,rfl⟩
 rw [gH] at cd;generalize fC p l=L at ll gH;simp only [ae,vt,bt];refine aZ.bB none_ [] (.q 0 (.c 1 (.q 2 (.q 3 (.q 4 (.q 5 (.q 6 .done))))))) (by kernel_rfl) (by kernel_rfl) (by kernel_rfl) ?_
 simp only [ae,bM,vt];refine j6 rfl rfl rfl (fun h' hk=>Ur L a r gH (by omega) h') ?_
 simp only [ae,bM,vt,AS,By,fd,aW,gt,aS,aBC,ac];exact ax ⟨by rw [cd];rfl,bw⟩
theorem Us (u:Nat) (a b:Nat) (P:List Int) (part:Int) (hu:u<P.length) (h:I) (mM:h.get a=.cells [.ah P.length (ar P)] 46 none) (qk:h.get b=.cells [.int .i64 part] 3 none) :
  Pure ds 72 [.int .i64 (u:Int),.ptr a 0,.ptr b 0] h (.bool (P.getD u 0==part)):=by
 refine Pure.val (a7.bool _) ?_;have ft:=tH (P:=ds) (kk:=.i64) hu jI;have az:P.getD u 0=P[u]:=by rw [ava,ME hu];rfl
 refine af.au (c:=_) Tryz.func72 rfl (by kernel_rfl) (by simp) ?_
 simp only [ae];refine aZ.bB none_ [] (.q 0 (.q 1 (.q 2 (.q 3 (.q 4 (.q 5 (.q 6 .done))))))) (by kernel_rfl) (by kernel_rfl) (by kernel_rfl) ?_
 simp only [ae,bM,vt,reduceCtorEq,aW,hz,mM,qk,ft,aS,Tryz.results72,ac];exact ax ⟨by rw [az],J.refl _ _⟩
theorem aqb (qJ:List Int) (a b:Nat) (P:List Int) (part:Int) (vZ:∀ u ∈ qJ,0≤u∧u<P.length) (aw:qJ.length<2 ^ 40) (h:I) (mM:h.get a=.cells [.ah P.length (ar P)] 46 none) (qk:h.get b=.cells [.int .i64 part] 3 none) :
  Pure ds 70 [.ah qJ.length (ar qJ),.func (.func 72) [] [.ptr a 0,.ptr b 0]] h (.bool (qJ.any fun u=>P.getD u.toNat 0==part)):=by
 have fq:af ds 111 [.ah qJ.length (ar qJ),.func (.func 72) [] [.ptr a 0,.ptr b 0]] h (fun r h'=>(∃ k:Int,r=.int .i64 k∧(decide (0≤k))=qJ.any fun u=>P.getD u.toNat 0==part)∧h'=h):=by
  refine af.au (c:=_) Tryz.func111 rfl (by kernel_rfl) (by simp) ?_
  simp only [ae,MD,vt,reduceCtorEq,gy];refine aZ.bQ (α:=Nat) (fun j f h'=>f 0=.ah qJ.length (ar qJ)∧f 1=.func (.func 72) [] [.ptr a 0,.ptr b 0]∧f 7=.int .i64 ((qJ.length:Nat):Int)∧f 8=.int .i64 (j:Nat)∧j≤qJ.length∧h'=h∧(qJ.any fun u=>P.getD u.toNat 0==part)=((qJ.drop j).any fun u=>P.getD u.toNat 0==part)) (fun j=>qJ.length - j) 0 ⟨rfl,rfl,rfl,rfl,Dc _,rfl,rfl⟩ ?_
  rintro j f h1 ⟨f0,f1,f7,f8,aV,rfl,bL⟩
  refine ee (by kernel_rfl) ?_
  by_cases aM:j<qJ.length
  ·have c5:decide ((j:Int)<((qJ.length:Nat):Int))=true:=by simp only [decide_eq_true_eq];omega
   rw [avk aM,List.any_cons] at bL;have cy:=tH (P:=ds) (kk:=.i64) aM jI;have cU:=vZ _ (avb aM);generalize qJ[j]=A at *;obtain ⟨q,rfl⟩:∃ q:Nat,A=(q:Int):=⟨A.toNat,by omega⟩
   have bS:IntKind.i64.wrap (((j:Nat):Int)+1)=((j+1:Nat):Int):=by rw [Go.IntWalk.i64_in _ (by omega)];omega
   simp only [ae,vt,reduceCtorEq,aW,f0,f1,f7,f8,c5,cy];refine bW amm (Us q a b P part (by omega) h1 mM qk) ?_
   rw [Int.toNat_natCast] at bL;cases h6:(P.getD q 0==part)
   ·simp only [ae,MD,vt,f8,bS];rw [h6,Bool.false_or] at bL;exact ax ⟨j+1,⟨f0,f1,f7,rfl,by omega,rfl,bL⟩,by omega⟩
   ·simp only [ae,MD,vt,aS,aBD,ac];rw [h6,Bool.true_or] at bL;exact ax ⟨⟨_,rfl,by rw [bL];simp⟩,rfl⟩
  ·have c5:decide ((j:Int)<((qJ.length:Nat):Int))=false:=by simp only [decide_eq_false_iff_not];omega
   rw [avZ (by omega)] at bL
   simp only [ae,MD,vt,f7,f8,c5,aS,aBD,ac];exact ax ⟨⟨_,rfl,by rw [bL];rfl⟩,rfl⟩
 refine af.au (c:=_) Tryz.func70 rfl (by kernel_rfl) (by simp) ?_
 simp only [ae,vt,reduceCtorEq];refine cB alx fq fun r h1 ⟨⟨k,aC,bd⟩,ev⟩=>?_;subst aC ev;simp only [ae,vt,aS,Tryz.results70,ac];exact ax ⟨by rw [bd],rfl⟩
def tY (l:List bD) (P:List Int) (part:Int) (v:Nat):Bool:=(gA l (v:Int)==1&&P.getD v 0==part)||(gA l (v:Int)==5&&(ha (v:Int) 0 l).any fun u=>P.getD u.toNat 0==part)
def lI (l:List bD) (P:List Int) (part:Int):Nat→List Int
 | 0=>[]
 | i+1=>lI l P part i++(if tY l P part i then [(i:Int)] else [])
theorem OD (l:List bD) (P:List Int) (part:Int):∀ i,(lI l P part i).length≤i
 | 0=>BY _
 | i+1=>by
  have:=OD l P part i;unfold lI;rw [IS];split<;>simp<;>omega
def ru (p:Int) (l:List bD) (part:Int):List Int:=lI l (fC p l) part (fC p l).length
theorem abQ (l:List bD) (p part:Int) (aY:k7 l) (h:I) (az:jf h):Pure ds 33 [.agg (cT l p),.int .i64 part] h (.ah (ru p l part).length (ar (ru p l part))):=by
 have Ut:(fC p l).length≤24∧((fC p l).length=0∨((fC p l).length=l.length∧l.length≤24)):=by
  by_cases aK:(ch p l).2=0
  ·obtain ⟨_,_,_,uZ,_⟩:=A9 aK;rw [Ev aK];exact ⟨uZ,.inr ⟨rfl,uZ⟩⟩
  ·unfold fC;rw [if_neg aK];exact ⟨by simp,.inl rfl⟩
 have sl:=OD l (fC p l) part (fC p l).length;refine Pure.acc (e:=3) (sz:=1) (wV _) (by rw [gi,VU]) (by decide) ?_
 have ay:(V.agg (cT l p)).cells=some [.ah l.length (l.flatMap an),.int .i64 p]:=rfl;obtain ⟨H,hH⟩:∃ x,x=(h.push (.cells [.ah l.length (l.flatMap an),.int .i64 p] 24 none)).push (.cells [.int .i64 part] 3 none):=⟨_,rfl⟩;have gt:H.get h.n=.cells [.ah l.length (l.flatMap an),.int .i64 p] 24 none:=by rw [hH];exact xD
 have mW:H.get (h.n+1)=.cells [.int .i64 part] 3 none:=by rw [hH];exact y5
 have bw:J h H none_:=by rw [hH];exact (J.push _ _ _).bH _
 have ju:H.n=h.n+2:=by rw [hH];rfl
 have abR:∀ x:Int,(V.int .i64 x).cells=some [.int .i64 x]:=fun _=>rfl;have qY:∀ (n:Nat) (x:List V),(V.ah n x).cells=some [.ah n x]:=fun _ _=>rfl;refine af.au (c:=_) Tryz.func33 rfl (by kernel_rfl) (by simp) ?_
 simp only [ae,vt,AS,js,ay,abR,←hH,gt];refine bW NI (OC l p aY H (az.ai bw)) ?_;unfold ru;generalize fC p l=P at Ut sl;obtain ⟨bK,bs⟩:∃ x,x=H.push (.cells [.ah P.length (ar P)] 46 none):=⟨_,rfl⟩;have Bd:bK.get H.n=.cells [.ah P.length (ar P)] 46 none:=by rw [bs];exact ck
 have ba:J H bK none_:=by rw [bs];exact J.push _ _ _
 have dy:bK.n=H.n+1:=by rw [bs];rfl
 have p8:=(ba.get h.n (by omega) (by simp [none_])).trans gt
 have abS:=(ba.get (h.n+1) (by omega) (by simp [none_])).trans mW
 simp only [ae,vt,gy,hz,ant,Cc,qY,←bs,Bd];refine aZ.bQ (α:=V×Nat) (fun x f h'=>f 2=.ptr h.n 0∧f 3=.ptr (h.n+1) 0∧f 5=.ptr H.n 0∧f 7=x.1∧f 15=.ah P.length (ar P)∧f 16=.int .i64 ((P.length:Nat):Int)∧f 17=.int .i64 (x.2:Nat)∧x.2≤P.length∧Acc bK h' 3 1 x.1 (ar (lI l P part x.2))) (fun x=>P.length - x.2) (.ag,0) ⟨rfl,rfl,rfl,rfl,rfl,rfl,rfl,Dc _,Acc.nil (J.refl _ _)⟩ ?_
 rintro ⟨u,i⟩ f h1 ⟨f2,f3,f5,f7,f15,f16,f17,hi,cb⟩
 simp only at f7 f17 hi cb;have nO:=(cb.ai.get h.n (by omega) (by simp [none_])).trans p8
 have KM:=(cb.ai.get (h.n+1) (by omega) (by simp [none_])).trans abS
 have abT:=(cb.ai.get H.n (by omega) (by simp [none_])).trans Bd
 refine ee (by kernel_rfl) ?_
 by_cases aM:i<P.length;rotate_left
 ·have c5:decide ((i:Int)<((P.length:Nat):Int))=false:=by simp only [decide_eq_false_iff_not];omega
  have abU:i=P.length:=by omega
  rw [abU] at cb;simp only [ae,vt,f7,f16,f17,c5,aS,Tryz.results33,ac];exact ax ⟨cb.own,(bw.trans' ba).trans' cb.ai,fun k hk=>by have:=cb.new k hk;omega⟩
 have c5:decide ((i:Int)<((P.length:Nat):Int))=true:=by simp only [decide_eq_true_eq];omega
 have Uu:i<l.length:=by omega
 have cy:=tH (P:=ds) (kk:=.i64) aM jI;have abV:P.getD i 0=P[i]:=by rw [ava,ME aM];rfl
 rw [←abV] at cy;obtain ⟨eN,ir,jv⟩:=CA Uu;have bS:IntKind.i64.wrap (((i:Nat):Int)+1)=((i+1:Nat):Int):=by rw [Go.IntWalk.i64_in _ (by omega)];omega
 have hlen:=OD l P part i;have Qr:lI l P part (i+1)=lI l P part i++(if tY l P part i then [(i:Int)] else []):=rfl
 obtain ⟨v2,aD,cX,a2⟩:=cb.elem (P:=ds) oU (by decide) (xs:=[.int .i64 (i:Nat)]) rfl rfl (by simp [gi,lim];omega) (by simp [gi,lim];omega)
 have yes:tY l P part i=true→Acc bK aD 3 1 v2 (ar (lI l P part (i+1))):=fun U=>by rw [Qr,U,if_pos rfl,RO];exact a2
 have no:tY l P part i=false→Acc bK h1 3 1 u (ar (lI l P part (i+1))):=fun U=>by rw [Qr,U,if_neg (by simp),avq];exact cb
 have nz:tY l P part i=((gA l (i:Int)==1&&P.getD i 0==part)||(gA l (i:Int)==5&&(ha (i:Int) 0 l).any fun u=>P.getD u.toNat 0==part)):=rfl;cases bJ:(gA l (i:Int)==1)
 ·cases dW:(gA l (i:Int)==5)
  ·rw [bJ,dW] at nz;simp only [ae,vt,AS,lZ,hd,mw,aW,f2,f15,f16,f17,c5,cy,nO,eN,ir,bJ,dW,bS];exact ax ⟨(u,i+1),⟨f2,f3,f5,f7,f15,f16,rfl,by simp only;omega,no nz⟩,by simp only;omega⟩
  ·rw [bJ,dW] at nz;simp only [ae,vt,AS,lZ,hd,mw,js,aW,f2,f15,f16,f17,c5,cy,nO,eN,ir,bJ,dW];refine bW aml (aa4 l p (i:Int) aY (by omega) h1) ?_
   simp only [ae,vt,f3,f5];refine bW amk (aqb (ha (i:Int) 0 l) H.n (h.n+1) P part (fun u hu=>by
    obtain ⟨m,x,aC,bd,_⟩:=Ej.1 hu;have:=(List.getElem?_eq_some_iff.1 bd).1;omega) (by have:=Ek (v:=(i:Int)) (l:=l) (j:=0);omega) h1 abT KM) ?_
   cases cc:(ha (i:Int) 0 l).any fun u=>P.getD u.toNat 0==part
   ·rw [cc] at nz;simp only [ae,vt,f17,bS];exact ax ⟨(u,i+1),⟨f2,f3,f5,f7,f15,f16,rfl,by simp only;omega,no nz⟩,by simp only;omega⟩
   ·rw [cc] at nz;simp only [ae,vt,f7,f17,En,cX,bS];exact ax ⟨(v2,i+1),⟨f2,f3,f5,rfl,f15,f16,rfl,by simp only;omega,yes nz⟩,by simp only;omega⟩
 ·have dW:(gA l (i:Int)==5)=false:=by
   rw [beq_iff_eq] at bJ;rw [bJ];rfl
  rw [bJ,dW] at nz;cases b9:(P.getD i 0==part)
  ·rw [b9] at nz;simp only [ae,vt,AS,lZ,hd,mw,aW,f2,f3,f15,f16,f17,c5,cy,nO,KM,eN,ir,bJ,b9,bS];exact ax ⟨(u,i+1),⟨f2,f3,f5,f7,f15,f16,rfl,by simp only;omega,no nz⟩,by simp only;omega⟩
  ·rw [b9] at nz;simp only [ae,vt,AS,lZ,hd,mw,aW,f2,f3,f7,f15,f16,f17,c5,cy,nO,KM,eN,ir,bJ,b9,En,cX,bS];exact ax ⟨(v2,i+1),⟨f2,f3,f5,rfl,f15,f16,rfl,by simp only;omega,yes nz⟩,by simp only;omega⟩
def FB (cF rv rt acc:Int) (e:b4):V:=if c1 e=true then ox (cM cF rv rt acc 16 e) else .tuple [.int .i64 0,.int .i64 1]
theorem abW (e:b4) (cF rv rt acc:Int) (h:I) (az:gN h):Pure ds 175 [.agg (aE e),.agg [.int .i64 cF,.int .i64 rv,.int .i64 rt],.int .i64 acc] h (FB cF rv rt acc e):=by
 have:=Zs e cF rv rt acc h az;unfold FB;cases hm:c1 e with
 | false=>rw [hm] at this;exact this
 | true=>
  rw [hm] at this;cases aH:cM cF rv rt acc 16 e<;>(rw [aH] at this;exact this)
theorem KN (h:I) (k v t:Int):ie ds 25 1 [(0,.agg [.int .i64 k,.int .i64 v,.int .i64 t])] h=some (.bj h.n 0 1 1,h.push (.cells [.int .i64 k,.int .i64 v,.int .i64 t] 45 none)):=by rw [lY B9];rfl
def ss (r:Rec):Nat→List Rec
 | 0=>[]
 | i+1=>ss r i++[⟨r.k,ma (r.v+i),r.t⟩]
theorem KO (r:Rec):∀ i,(ss r i).length=i
 | 0=>rfl
 | i+1=>by simp [ss,KO r i]
theorem aqc (n:Int) (aG:n≤4) (r:Rec) (h:I):Pure ds 210 [.int .i64 n,.agg (aI r)] h (.ah n.toNat ((ss r n.toNat).flatMap aI)):=by
 refine Pure.of (a7.ah (AA J8 _)) ?_;refine af.au (c:=_) Tryz.func210 rfl (by kernel_rfl) (by simp) ?_
 simp only [ae,aI];obtain ⟨H,hH⟩:∃ x,x=h.push (.cells [.int .i64 r.k,.int .i64 r.v,.int .i64 r.t] 45 none):=⟨_,rfl⟩;have g3:H.get h.n=.cells [.int .i64 r.k,.int .i64 r.v,.int .i64 r.t] 45 none:=by rw [hH];exact ck
 have bw:J h H none_:=by rw [hH];exact J.push _ _ _
 have ju:h.n<H.n:=by rw [hH,dq];omega
 rw [←hH];refine aZ.bQ (α:=Nat×V) (fun x f h'=>f 0=.int .i64 n∧f 3=.ptr h.n 0∧f 5=x.2∧f 6=.int .i64 (x.1:Nat)∧x.1≤n.toNat∧Acc H h' 45 3 x.2 ((ss r x.1).flatMap aI)) (fun x=>n.toNat - x.1) (0,.ag) ⟨rfl,rfl,rfl,rfl,Dc _,Acc.nil (J.refl _ _)⟩ ?_
 rintro ⟨i,v⟩ f h1 ⟨f0,f3,f5,f6,hi,cb⟩
 simp only at f5 f6 hi cb;refine ee (by kernel_rfl) ?_
 by_cases aM:(i:Int)<n;rotate_left
 ·have c3:decide ((i:Int)<n)=false:=by simpa using aM
  have cU:i=n.toNat:=by omega
  obtain ⟨ad,c,k⟩:=cb.cast (n:=n.toNat) (by rw [gM zg,KO,cU]) (by decide)
  simp only [ae,vt,reduceCtorEq,f0,f5,f6,c3,aS,Tryz.results210,ac];exact ax ⟨ad,by rw [cU] at c;exact c,bw.trans' k⟩
 ·have c3:decide ((i:Int)<n)=true:=by simpa using aM
  have g1:=(cb.ai.get h.n ju (by simp [none_])).trans g3
  have bS:IntKind.i64.wrap (((i:Nat):Int)+1)=((i+1:Nat):Int):=by rw [Go.IntWalk.i64_in _ (by omega)];omega
  obtain ⟨v',ad,cX,dT⟩:=Acc.xb (P:=ds) B9 (cb.on (J.push h1 (.cells [.int .i64 r.k,.int .i64 (ma (r.v+i)),.int .i64 r.t] 45 none) _)) (xs:=[.int .i64 r.k,.int .i64 (ma (r.v+i)),.int .i64 r.t]) (by decide) rfl rfl (fun m hm=>by
   rw [gM zg,KO] at hm;have gF:m * 3=i * 3+3:=hm;show m * 24≤140737488355328∧m≤140737488355328;omega)
  have lit:=KN (h1.push (.cells [.int .i64 r.k,.int .i64 (ma (r.v+i)),.int .i64 r.t] 45 none)) r.k (ma (r.v+i)) r.t;unfold ma at cX dT lit;simp only [dq] at cX lit;simp only [ae,vt,AS,By,reduceCtorEq,Jh,du,dG,s0,r5,w0,f0,f3,f5,f6,c3,g1,lit,cX,bS];exact ax ⟨(i+1,v'),⟨f0,f3,rfl,rfl,by simp only;omega,by simp only [ss,avH,avj,List.flatMap_nil,avq];exact dT⟩,by simp only;omega⟩
def jP (kind n:Int) (r:Rec):List Rec :=
 if kind=2 then [⟨r.k,n,r.t⟩] else if kind=5 then [⟨n,r.v,r.t⟩] else if kind=3 then (if n=0 then [] else [r])
 else if kind=4 then ss r (min n 4).toNat else [r]
theorem KQ (l:List Rec):a7 (V.ah l.length (l.flatMap aI)):=a7.ah (AA J8 _)
theorem OE (h:I) (x:Rec):∃ ad,aA (.bj h.n 0 1 1) (h.push (.cells (aI x) 45 none)) (.ah [x].length ([x].flatMap aI)) ad∧J h ad none_:=by
 have:=aA.lit (h:=h) (c:=[x].flatMap aI) (e:=45) (n:=1) (sz:=3) rfl (by decide) (by decide)
 simpa using this
theorem aqd (kind n:Int) (r:Rec) (h:I):Pure ds 195 [.int .i64 kind,.int .i64 n,.agg (aI r)] h (.ah (jP kind n r).length ((jP kind n r).flatMap aI)):=by
 refine Pure.of (KQ _) ?_;refine af.au (c:=_) Tryz.func195 rfl (by kernel_rfl) (by simp) ?_
 by_cases ad:kind=2
 ·have c:(kind==2)=true:=by simp [ad]
  have bk:jP kind n r=[⟨r.k,n,r.t⟩]:=by simp [jP,ad]
  have lit:=KN (h.push (.cells [.int .i64 r.k,.int .i64 n,.int .i64 r.t] 45 none)) r.k n r.t;simp only [dq] at lit;simp only [ae,vt,AS,By,reduceCtorEq,Jh,dG,r5,aI,c,lit,aS,awY,ac];obtain ⟨U,cc,kk⟩:=OE (h.push (.cells [.int .i64 r.k,.int .i64 n,.int .i64 r.t] 45 none)) ⟨r.k,n,r.t⟩;exact ax ⟨U,by rw [bk];exact cc,(J.push _ _ _).trans' kk⟩
 have bt:(kind==2)=false:=by simp [ad]
 by_cases bN:kind=5
 ·have c:(kind==5)=true:=by simp [bN]
  have bk:jP kind n r=[⟨n,r.v,r.t⟩]:=by simp [jP,bN]
  have lit:=KN (h.push (.cells [.int .i64 n,.int .i64 r.v,.int .i64 r.t] 45 none)) n r.v r.t;simp only [dq] at lit;simp only [ae,vt,AS,By,reduceCtorEq,B4,dG,r5,aI,bt,c,lit,aS,awY,ac];obtain ⟨U,cc,kk⟩:=OE (h.push (.cells [.int .i64 n,.int .i64 r.v,.int .i64 r.t] 45 none)) ⟨n,r.v,r.t⟩;exact ax ⟨U,by rw [bk];exact cc,(J.push _ _ _).trans' kk⟩
 have c5:(kind==5)=false:=by simp [bN]
 have lit:=KN (h.push (.cells [.int .i64 r.k,.int .i64 r.v,.int .i64 r.t] 45 none)) r.k r.v r.t;simp only [dq] at lit;obtain ⟨U,cc,kk⟩:=OE (h.push (.cells [.int .i64 r.k,.int .i64 r.v,.int .i64 r.t] 45 none)) r;by_cases aD:kind=3
 ·have c:(kind==3)=true:=by simp [aD]
  by_cases aG:n=0
  ·have lU:(n==0)=true:=by simp [aG]
   have bk:jP kind n r=[]:=by simp [jP,aD,aG]
   simp only [ae,vt,reduceCtorEq,aI,bt,c5,c,lU,aS,awY,ac];exact ax ⟨_,by rw [bk];exact aA.hL _,J.push _ _ _⟩
  ·have lU:(n==0)=false:=by simp [aG]
   have bk:jP kind n r=[r]:=by simp [jP,aD,aG]
   simp only [ae,vt,AS,reduceCtorEq,dG,aI,bt,c5,c,lU,lit,aS,awY,ac];exact ax ⟨U,by rw [bk];exact cc,(J.push _ _ _).trans' kk⟩
 have c3:(kind==3)=false:=by simp [aD]
 by_cases bn:kind=4
 ·have c:(kind==4)=true:=by simp [bn]
  have bk:jP kind n r=ss r (min n 4).toNat:=by simp [jP,bn]
  simp only [ae,vt,AS,reduceCtorEq,dG,aI,bt,c5,c3,c];refine bW alV (aqc (min n 4) (by omega) r _) ?_
  simp only [ae,vt,aS,awY,ac];exact ax ⟨_,by rw [bk,KO];exact aA.refl _ _,J.push _ _ _⟩
 have eP:(kind==4)=false:=by simp [bn]
 have bk:jP kind n r=[r]:=by simp [jP,ad,bN,aD,bn]
 simp only [ae,vt,AS,reduceCtorEq,dG,aI,bt,c5,c3,eP,lit,aS,awY,ac];exact ax ⟨U,by rw [bk];exact cc,(J.push _ _ _).trans' kk⟩
def flatK (k:Int):Bool:=decide (k=2∨k=3∨k=4∨k=5)
def oZ (v:bD) (r:Rec):List Rec×Int :=
 if v.kind=1∨v.kind=10 then ([r],0)
 else if v.kind=2∨v.kind=3∨v.kind=4∨v.kind=5 then
  (if c1 v.e=true then (match cM r.k r.v r.t 0 16 v.e with | some n=>(jP v.kind n r,0) | none=>([],10)) else ([],1))
 else ([],1)
def FC (p:List Rec×Int):V:=.tuple [.ah p.1.length (p.1.flatMap aI),.int .i64 p.2]
theorem aqe (p:List Rec×Int):a7 (FC p):=a7.tuple (a1.cons (KQ _) (a1.cons (a7.int _ _) a1.nil))
theorem Be (h:I) (n:Int):aA (.tuple [.ag,.int .i64 n]) h (FC ([],n)) h:=aA.tuple (aq.cons (aA.hL h) (aq.refl _ _))
theorem aqf (v:bD) (r:Rec) (h:I) (az:gN h):Pure ds 172 [.agg (an v),.agg (aI r)] h (FC (oZ v r)):=by
 refine Pure.of (aqe _) ?_;refine af.au (c:=_) Tryz.func172 rfl (by kernel_rfl) (by simp) ?_
 obtain ⟨kind,bc,e,n⟩:=v;have ay:(V.agg (an ⟨kind,bc,e,n⟩)).cells=some (an ⟨kind,bc,e,n⟩):=rfl;simp only [ae,vt,hd,aW,aI,ay];obtain ⟨H,hH⟩:∃ x,x=(h.push (.cells (an ⟨kind,bc,e,n⟩) 68 none)).push (.cells [.int .i64 r.k,.int .i64 r.v,.int .i64 r.t] 45 none):=⟨_,rfl⟩;have g2:cP (H.get h.n) 0=some (an ⟨kind,bc,e,n⟩):=by rw [hH,xD];rfl
 have iR:cP (H.get h.n) 2=some (aE e++[.int .i64 n]):=by rw [hH,xD];rfl
 have g3:H.get (h.n+1)=.cells [.int .i64 r.k,.int .i64 r.v,.int .i64 r.t] 45 none:=by rw [hH];exact y5
 have bw:J h H none_:=by rw [hH];exact (J.push _ _ _).bH _
 have r8:gN H:=az.ai bw;have jQ:cO (some none) (some (an ⟨kind,bc,e,n⟩))=some (.int .i64 kind):=rfl;have nP:cO (some (some 3)) (some (aE e++[.int .i64 n]))=some (.agg (aE e)):=lz (qv e);rw [←hH];clear hH ay;obtain ⟨U,cc,kk⟩:=OE H r;have lit:=KN H r.k r.v r.t;by_cases h1:kind=1
 ·have c:(kind==1)=true:=by simp [h1]
  have bk:oZ ⟨kind,bc,e,n⟩ r=([r],0):=by simp [oZ,h1]
  simp only [ae,vt,AS,dG,g3,jQ,c,lit,aS,avN,c9];exact ax ⟨U,by rw [bk];exact aA.tuple (aq.cons cc (aq.refl _ _)),bw.trans' kk⟩
 have bb:(kind==1)=false:=by simp [h1]
 by_cases r7:kind=10
 ·have c:(kind==10)=true:=by simp [r7]
  have bk:oZ ⟨kind,bc,e,n⟩ r=([r],0):=by simp [oZ,r7]
  simp only [ae,vt,AS,dG,g3,jQ,bb,c,lit,aS,avN,c9];exact ax ⟨U,by rw [bk];exact aA.tuple (aq.cons cc (aq.refl _ _)),bw.trans' kk⟩
 have gZ:(kind==10)=false:=by simp [r7]
 by_cases hk:kind=2∨kind=3∨kind=4∨kind=5;rotate_left
 ·have bt:(kind==2)=false:=by simp;intro q;exact hk (.inl q)
  have c3:(kind==3)=false:=by simp;intro q;exact hk (.inr (.inl q))
  have eP:(kind==4)=false:=by simp;intro q;exact hk (.inr (.inr (.inl q)))
  have c5:(kind==5)=false:=by simp;intro q;exact hk (.inr (.inr (.inr q)))
  have bk:oZ ⟨kind,bc,e,n⟩ r=([],1):=by simp [oZ,h1,r7];intro q;exact absurd q hk
  simp only [ae,vt,jQ,bb,gZ,bt,c3,eP,c5,aS,avN,c9];exact ax ⟨_,by rw [bk];exact Be _ _,bw⟩
 have bk:oZ ⟨kind,bc,e,n⟩ r=(if c1 e=true then (match cM r.k r.v r.t 0 16 e with | some n=>(jP kind n r,(0:Int)) | none=>([],10)) else ([],1)):=by
  have:¬(kind=1∨kind=10):=fun q=>by rcases q with q | q;exact h1 q;exact r7 q
  simp only [oZ];rw [if_neg this,if_pos hk]
 have bL:=abW e r.k r.v r.t 0 H r8;have cs:((kind==2)=true)∨((kind==2)=false∧(kind==3)=true)∨((kind==2)=false∧(kind==3)=false∧(kind==4)=true)∨((kind==2)=false∧(kind==3)=false∧(kind==4)=false∧(kind==5)=true):=by
  rcases hk with q | q | q | q<;>subst q<;>decide
 unfold FB at bL;cases hm:c1 e with
 | false=>
  rw [hm] at bL bk;simp only [Bool.false_eq_true,if_false] at bL bk;rcases cs with d2 | ⟨d2,d3⟩ | ⟨d2,d3,d4⟩ | ⟨d2,d3,d4,d5⟩
  ·simp only [ae,vt,AS,qu,dG,fM,g3,iR,jQ,nP,bb,gZ,d2];refine bW wY bL ?_;simp only [ae,awh,vt,aS,avN,c9];exact ax ⟨_,by rw [bk];exact Be _ _,bw⟩
  ·simp only [ae,vt,AS,qu,dG,fM,g3,iR,jQ,nP,bb,gZ,d2,d3];refine bW wY bL ?_;simp only [ae,awh,vt,aS,avN,c9];exact ax ⟨_,by rw [bk];exact Be _ _,bw⟩
  ·simp only [ae,vt,AS,qu,dG,fM,g3,iR,jQ,nP,bb,gZ,d2,d3,d4];refine bW wY bL ?_;simp only [ae,awh,vt,aS,avN,c9];exact ax ⟨_,by rw [bk];exact Be _ _,bw⟩
  ·simp only [ae,vt,AS,qu,dG,fM,g3,iR,jQ,nP,bb,gZ,d2,d3,d4,d5];refine bW wY bL ?_;simp only [ae,awh,vt,aS,avN,c9];exact ax ⟨_,by rw [bk];exact Be _ _,bw⟩
 | true=>
  rw [hm] at bL bk;simp only [if_true] at bL bk;cases aH:cM r.k r.v r.t 0 16 e with
  | none=>
   rw [aH] at bL bk;rcases cs with d2 | ⟨d2,d3⟩ | ⟨d2,d3,d4⟩ | ⟨d2,d3,d4,d5⟩
   ·simp only [ae,vt,AS,qu,dG,fM,g3,iR,jQ,nP,bb,gZ,d2];refine bW wY bL ?_;simp only [ae,awh,vt,ox,aS,avN,c9];exact ax ⟨_,by rw [bk];exact Be _ _,bw⟩
   ·simp only [ae,vt,AS,qu,dG,fM,g3,iR,jQ,nP,bb,gZ,d2,d3];refine bW wY bL ?_;simp only [ae,awh,vt,ox,aS,avN,c9];exact ax ⟨_,by rw [bk];exact Be _ _,bw⟩
   ·simp only [ae,vt,AS,qu,dG,fM,g3,iR,jQ,nP,bb,gZ,d2,d3,d4];refine bW wY bL ?_;simp only [ae,awh,vt,ox,aS,avN,c9];exact ax ⟨_,by rw [bk];exact Be _ _,bw⟩
   ·simp only [ae,vt,AS,qu,dG,fM,g3,iR,jQ,nP,bb,gZ,d2,d3,d4,d5];refine bW wY bL ?_;simp only [ae,awh,vt,ox,aS,avN,c9];exact ax ⟨_,by rw [bk];exact Be _ _,bw⟩
  | some m=>
   rw [aH] at bL bk;have eC:=aqd kind m r H;rcases cs with d2 | ⟨d2,d3⟩ | ⟨d2,d3,d4⟩ | ⟨d2,d3,d4,d5⟩
   ·simp only [ae,vt,AS,qu,dG,fM,g3,iR,jQ,nP,bb,gZ,d2];refine bW wY bL ?_;simp only [ae,vt,AS,hd,aW,dG,ox,g2,g3,jQ];refine bW NF eC ?_;simp only [ae,vt,aS,avN,c9];exact ax ⟨_,by rw [bk];exact aA.refl _ _,bw⟩
   ·simp only [ae,vt,AS,qu,dG,fM,g3,iR,jQ,nP,bb,gZ,d2,d3];refine bW wY bL ?_;simp only [ae,vt,AS,hd,aW,dG,ox,g2,g3,jQ];refine bW NF eC ?_;simp only [ae,vt,aS,avN,c9];exact ax ⟨_,by rw [bk];exact aA.refl _ _,bw⟩
   ·simp only [ae,vt,AS,qu,dG,fM,g3,iR,jQ,nP,bb,gZ,d2,d3,d4];refine bW wY bL ?_;simp only [ae,vt,AS,hd,aW,dG,ox,g2,g3,jQ];refine bW NF eC ?_;simp only [ae,vt,aS,avN,c9];exact ax ⟨_,by rw [bk];exact aA.refl _ _,bw⟩
   ·simp only [ae,vt,AS,qu,dG,fM,g3,iR,jQ,nP,bb,gZ,d2,d3,d4,d5];refine bW wY bL ?_;simp only [ae,vt,AS,hd,aW,dG,ox,g2,g3,jQ];refine bW NF eC ?_;simp only [ae,vt,aS,avN,c9];exact ax ⟨_,by rw [bk];exact aA.refl _ _,bw⟩
structure bq where
 l:List bD
 p:Int
 part:Int
def bq.P (c:bq):List Int:=fC c.p c.l
def bq.ins (c:bq):List Int:=ru c.p c.l c.part
def bq.er (c:bq) (u:Nat):Option eI:=if c.P[u]?=some c.part then (match c.l[u]? with | some x=>o9 x.kind x.n | none=>none) else none
def bq.us (c:bq) (v:Int):List Nat:=((ha v 0 c.l).map avn).filter fun u=>c.P.getD u 0==c.part
structure eU where
 ms:Seen
 st:Nat→List aF
structure fy where
 outs:List (Int×Rec)
 verts:List Int
 chgs:List aF
 deads:List (Int×Rec×Int)
 n:Nat
def fy.none:fy:=⟨[],[],[],[],0⟩
abbrev b1:=eU×fy
def pE (u:Int) (r:Rec) (e:Int) (x:b1):b1:=(x.1,{ x.2 with deads:=x.2.deads++[(u,r,e)] })
def oF (u:Int) (r:Rec) (x:b1):b1:=(x.1,{ x.2 with outs:=x.2.outs++[(u,r)] })
def kW (u:Int) (cs:List aF) (x:b1):b1:=(x.1,{ x.2 with verts:=x.2.verts++avr cs.length u,chgs:=x.2.chgs++cs })
def kX (u:Nat) (l:List aF) (x:b1):b1:=({ x.1 with st:=fun v=>if v=u then l else x.1.st v },x.2)
def dd (x:b1):b1:=(x.1,{ x.2 with n:=x.2.n+1 })
def qK (v:bD) (u:Int) (th:Rec→b1→b1) (r:Rec) (x:b1):b1 :=
 if (oZ v r).2≠0 then pE u r (oZ v r).2 x else (oZ v r).1.foldl (fun x y=>th y x) x
def u1 (K:eI) (v:bD) (u:Nat) (snd:Rec→b1→b1) (r:Rec) (x:b1):b1 :=
 if Oo K r (leastOf x.1.ms) then pE u r 13 x else
 match mf K v.e (x.1.st u) r with
 | .error e=>pE u r e x
 | .ok N=>snd ⟨r.k,N,A1 K (x.1.st u) r.k r.t⟩ (kW u (si K (x.1.st u) r.k r.t N) (kX u (sj K (x.1.st u) r.k r.t N) x))
def bq.table (c:bq) (v:bD) (key:Int) (m:eU):Int :=
 match c.er (v.bc.getD 1 0).toNat with
 | some K=>A4 K (m.st (v.bc.getD 1 0).toNat) key
 | none=>0
def yr (c:bq) (v:bD) (u:Int) (snd:Rec→b1→b1) (r:Rec) (x:b1):b1 :=
 if c1 v.e=true then
  (match cM r.k r.v r.t (c.table v r.k x.1) 16 v.e with
  | some n=>snd ⟨r.k,n,r.t⟩ x
  | none=>pE u r 10 x)
 else pE u r 1 x
def su (c:bq) (snd:Int→Rec→b1→b1) (f:Int) (u:Nat) (r:Rec) (x:b1):b1 :=
 if x.2.n=1000 then pE u r 3 x else
 match c.l[u]? with
 | none=>dd x
 | some v=>
  if v.kind=10∨v.kind=5 then qK v u (oF u) r (dd x)
  else if v.kind=2∨v.kind=3∨v.kind=4 then qK v u (snd u) r (dd x)
  else if v.kind=6∨v.kind=7∨v.kind=8 then
   (match c.er u with
   | some K=>u1 K v u (snd u) r (dd x)
   | none=>dd x)
  else if v.kind=9 then (if f=v.bc.getD 0 0 then yr c v u (snd u) r (dd x) else dd x)
  else dd x
def ry (c:bq):Nat→Int→Rec→b1→b1
 | 0,_,_,x=>x
 | k+1,v,r,x=>(c.us v).foldl (fun x u=>su c (ry c k) v u r x) x
def di (c:bq) (u:Nat) (x:b1):b1 :=
 match c.er u with
 | some K=>kW u (je K (leastOf x.1.ms) (x.1.st u)) (kX u (jN K (leastOf x.1.ms) (x.1.st u)) x)
 | none=>x
def u2 (c:bq) (t:Int):aF:=⟨c.part,0,0,t,false⟩
def stepT (c:bq) (m:eU) (v:Int) (r:Rec):b1×Int :=
 if c.ins.contains v=false then ((m,fy.none),6) else
 if (gB m.ms v r.t).2≠0 then (pE v r (gB m.ms v r.t).2 (m,fy.none),0) else
 let ft:b1:=({ m with ms:=gP c.ins.length m.ms v r.t },fy.none)
 let cy:=if (gB m.ms v r.t).1 then kW v [u2 c r.t] ft else ft
 ((VT c.l.length).foldl (fun x u=>di c u x) (ry c 24 v r cy),0)
def eU.new (c:bq):eU:=⟨lb 0 c.ins,fun _=>[]⟩
abbrev cG:=Nat→Nat×Nat
def cD (ow:cG) (id:Nat):Nat→Prop:=fun q=>(ow q).1=id∧5≤(ow q).2
def Fr (h:I) (ow:cG):Prop:=∀ q,h.n≤q→ow q=(0,0)
structure fQ (id:Nat) (h:I) (ow:cG) (h':I) (ow':cG):Prop where
 bx:∀ q,q<h.n→ow' q=ow q
 ai:J h h' (cD ow id)
 bg:Fr h' ow'
 u3:True
theorem fQ.refl {id:Nat} {h:I} {ow:cG} (f:Fr h ow):fQ id h ow h ow:=⟨fun _ _=>rfl,J.refl _ _,f,trivial⟩
theorem fQ.trans {id:Nat} {h h1 ad:I} {ow dL fc:cG} (a:fQ id h ow h1 dL) (b:fQ id h1 dL ad fc):fQ id h ow ad fc :=
 ⟨fun q ab=>(b.bx q (MC ab a.ai.n)).trans (a.bx q ab),a.ai.trans b.ai fun q ab hm=>by unfold cD at *;rw [←a.bx q ab];exact hm,b.bg,trivial⟩
theorem fQ.push {id:Nat} {h:I} {ow:cG} (f:Fr h ow) {h':I} (k:J h h' none_):fQ id h ow h' ow:=⟨fun _ _=>rfl,k.up,fun q ab=>f q (OF k.n ab),trivial⟩
def dj (ow:cG) (a b:Nat) (t:Nat×Nat):cG:=fun q=>if a≤q∧q<b then t else ow q
theorem yt {ow:cG} {a b:Nat} {t:Nat×Nat} {q:Nat} (h:q<a):dj ow a b t q=ow q:=by unfold dj;rw [if_neg (by omega)]
theorem KS {ow:cG} {a b:Nat} {t:Nat×Nat} {q:Nat} (h1:a≤q) (ad:q<b):dj ow a b t q=t:=by unfold dj;rw [if_pos ⟨h1,ad⟩]
theorem fQ.dj {id:Nat} {h h':I} {ow:cG} {M:Nat→Prop} (f:Fr h ow) (k:J h h' M) (kf:∀ q,q<h.n→M q→cD ow id q) (t:Nat×Nat):fQ id h ow h' (Pk.dj ow h.n h'.n t) :=
 ⟨fun q ab=>yt ab,⟨k.n,fun q ab hm=>k.get q ab fun U=>hm (kf q ab U),k.glob⟩,fun q ab=>by
  have:=k.n;unfold Pk.dj;rw [if_neg (by omega)];exact f q (by omega),trivial⟩
def nc (ow:cG) (t:Nat×Nat) (O:List Nat):Prop:=∀ q ∈ O,ow q=t
theorem nc.new {h h':I} {ow:cG} {t:Nat×Nat} {O fa:List Nat} (o:nc ow t O) (aw:∀ q ∈ O,q<h.n) (nl:gk h O fa) (fX:∀ q ∈ fa,q<h'.n):nc (dj ow h.n h'.n t) t fa:=fun q ab=>by
 rcases nl q ab with U | U
 ·rw [yt (aw q U)];exact o q U
 ·exact KS U (fX q ab)
theorem nc.bx {h:I} {ow ow':cG} {t:Nat×Nat} {O:List Nat} (o:nc ow t O) (aw:∀ q ∈ O,q<h.n) (he:∀ q,q<h.n→ow' q=ow q):nc ow' t O:=fun q ab=>(he q (aw q ab)).trans (o q ab)
def v7 (a:Nat):V:=.ptr a 0
structure At where
 kC:Nat
 sv:Nat
 mp:Nat
 es:List (Nat×Int×Nat)
 cl:Nat
def bq.cells (c:bq) (b:At):List V:=cT c.l c.p++[.ah c.P.length (ar c.P),.int .i64 c.part,.ptr b.kC 0,.map b.mp]
structure gu (h:I) (ow:cG) (id m:Nat) (b:At) (c:bq) (s:eU):Prop where
 lt:m<h.n
 get:h.get m=.cells (c.cells b) 150 none
 own:ow m=(id,1)
 marks:d8 h (.ptr b.kC 0) s.ms b.kC b.sv c.ins.length
 gQ:ow b.kC=(id,2)∧ow b.sv=(id,3)
 kD:b.mp<h.n
 map:h.get b.mp=.map (mapOf .i64 v7 b.es) b.cl
 lJ:ow b.mp=(id,4)
 some:∀ u K,c.er u=some K→∃ a O x,dU b.es (u:Int)=Option.some a∧c.l[u]?=Option.some x∧hS h a O K x.e x.n (s.st u)∧nc ow (id,10+u) O∧c1 x.e=true
 none:∀ u,c.er u=Option.none→dU b.es (u:Int)=Option.none
section
variable {h h':I} {ow ow':cG} {id i2 m:Nat} {b:At} {c:bq} {s:eU}
theorem gu.ai {M:Nat→Prop} (k:gu h ow id m b c s) (hk:J h h' M) (hm:∀ q,q<h.n→M q→(ow q).1≠id) (he:∀ q,q<h.n→ow' q=ow q):gu h' ow' id m b c s:=by
 obtain ⟨aC,h9,nd,nQ,g1,g2,st⟩:=k.marks;have nf:∀ q,q<h.n→(ow q).1=id→h'.get q=h.get q:=fun q ab aN=>hk.get q ab fun U=>hm q ab U aN;refine ⟨MC k.lt hk.n,(nf _ k.lt (by rw [k.own])).trans k.get,(he _ k.lt).trans k.own,⟨aC,MC h9 hk.n,MC nd hk.n,nQ,(nf _ h9 (by rw [k.gQ.1])).trans g1,(nf _ nd (by rw [k.gQ.2])).trans g2,st⟩,
  ⟨(he _ h9).trans k.gQ.1,(he _ nd).trans k.gQ.2⟩,MC k.kD hk.n,(nf _ k.kD (by rw [k.lJ])).trans k.map,(he _ k.kD).trans k.lJ,fun u K hu=>?_,k.none⟩
 obtain ⟨a,O,x,h1,ad,aD,bn,bN⟩:=k.some u K hu;exact ⟨a,O,x,h1,ad,aD.ai hk fun q ab U=>hm q (aD.lt q ab) U (by rw [bn q ab]),bn.bx aD.lt he,bN⟩
theorem gu.br (k:gu h ow id m b c s) (hk:J h h' none_):gu h' ow id m b c s:=k.ai hk (fun _ _ U=>by simp [none_] at U) fun _ _=>rfl
theorem gu.part {M:Nat→Prop} (k:gu h ow id m b c s) (hk:J h h' M) (kf:∀ q,q<h.n→M q→∃ t,ow q=(id,t)∧5≤t∧t≤9) (he:∀ q,q<h.n→ow' q=ow q):gu h' ow' id m b c s:=by
 obtain ⟨aC,h9,nd,nQ,g1,g2,st⟩:=k.marks;have nf:∀ q t,q<h.n→ow q=(id,t)→(t<5∨9<t)→h'.get q=h.get q:=fun q t ab aN bE=>hk.get q ab fun U=>by
  obtain ⟨t2,h1,ad⟩:=kf q ab U;rw [aN] at h1;simp at h1;omega
 refine ⟨MC k.lt hk.n,(nf _ _ k.lt k.own (by omega)).trans k.get,(he _ k.lt).trans k.own,⟨aC,MC h9 hk.n,MC nd hk.n,nQ,(nf _ _ h9 k.gQ.1 (by omega)).trans g1,(nf _ _ nd k.gQ.2 (by omega)).trans g2,st⟩,
  ⟨(he _ h9).trans k.gQ.1,(he _ nd).trans k.gQ.2⟩,MC k.kD hk.n,(nf _ _ k.kD k.lJ (by omega)).trans k.map,(he _ k.kD).trans k.lJ,fun u K hu=>?_,k.none⟩
 obtain ⟨a,O,x,h1,ad,aD,bn,bN⟩:=k.some u K hu;exact ⟨a,O,x,h1,ad,aD.ai hk fun q ab U=>by
  obtain ⟨t2,aC,bd⟩:=kf q (aD.lt q ab) U;rw [bn q ab] at aC;simp at aC;omega,bn.bx aD.lt he,bN⟩
end
def gb (v:V):List Nat:=(a8 v).toList
theorem am {v:V} {q:Nat}:q ∈ gb v↔a8 v=some q:=by
 unfold gb;cases h:a8 v<;>simp [eq_comm]
theorem OG {h:I} {v v':V} (d:dm h v v'):gk h (gb v) (gb v'):=fun q ab=>by
 rcases d with d | d
 ·exact .inl (am.2 (by rw [←d];exact am.1 ab))
 ·exact .inr (d q (am.1 ab))
def hO (o:Int×Rec):List V:=.int .i64 o.1::aI o.2
def pF (o:Int×Rec×Int):List V:=.int .i64 o.1::(aI o.2.1++[.int .i64 o.2.2])
theorem OH (o:Int×Rec):(hO o).length=4:=rfl
theorem OI (o:Int×Rec×Int):(pF o).length=5:=rfl
theorem aqg (o:Int×Rec):(hO o).all (·.one)=true:=rfl
theorem aqh (o:Int×Rec×Int):(pF o).all (·.one)=true:=rfl
structure iS (h:I) (ow:cG) (id s m:Nat) (x:fy) (cz cv cK cQ:V):Prop where
 lt:s<h.n
 get:h.get s=.cells [.ptr m 0,cz,cv,cK,cQ,.int .i64 (x.n:Nat)] 163 none
 own:ow s=(id,5)
 o:Own h 173 4 cz (x.outs.flatMap hO)
 v:Own h 3 1 cv (ar x.verts)
 c:Own h 110 5 cK (x.chgs.flatMap bu)
 d:Own h 177 5 cQ (x.deads.flatMap pF)
 hZ:nc ow (id,6) (gb cz)
 cv:nc ow (id,7) (gb cv)
 cc:nc ow (id,8) (gb cK)
 mr:nc ow (id,9) (gb cQ)
section
variable {h h':I} {ow ow':cG} {id s m:Nat} {x:fy} {cz cv cK cQ:V}
theorem iS.ai {M:Nat→Prop} (k:iS h ow id s m x cz cv cK cQ) (hk:J h h' M) (hm:∀ q,q<h.n→M q→∀ t,5≤t→t≤9→ow q≠(id,t)) (he:∀ q,q<h.n→ow' q=ow q):iS h' ow' id s m x cz cv cK cQ:=by
 have k8:∀ {e sz cs v},Own h e sz v cs→∀ q ∈ gb v,q<h.n:=fun o q ab=>o.lt q (am.1 ab);exact ⟨MC k.lt hk.n,(hk.get _ k.lt fun U=>hm _ k.lt U 5 (by omega) (by omega) k.own).trans k.get,(he _ k.lt).trans k.own,
  k.o.ai hk fun q ab U=>hm q (k.o.lt q ab) U 6 (by omega) (by omega) (k.hZ q (am.2 ab)),
  k.v.ai hk fun q ab U=>hm q (k.v.lt q ab) U 7 (by omega) (by omega) (k.cv q (am.2 ab)),
  k.c.ai hk fun q ab U=>hm q (k.c.lt q ab) U 8 (by omega) (by omega) (k.cc q (am.2 ab)),
  k.d.ai hk fun q ab U=>hm q (k.d.lt q ab) U 9 (by omega) (by omega) (k.mr q (am.2 ab)),
  k.hZ.bx (k8 k.o) he,k.cv.bx (k8 k.v) he,k.cc.bx (k8 k.c) he,k.mr.bx (k8 k.d) he⟩
theorem iS.br (k:iS h ow id s m x cz cv cK cQ) (hk:J h h' none_):iS h' ow id s m x cz cv cK cQ:=k.ai hk (fun _ _ U=>by simp [none_] at U) fun _ _=>rfl
end
theorem iS.Uv {h h':I} {ow ow':cG} {id s m:Nat} {x:fy} {cz cv cK cQ lK:V} {l:List (Int×Rec×Int)} (k:iS h ow id s m x cz cv cK cQ) (hk:J h h' (fun q=>q=s∨a6 cQ q)) (he:∀ q,q<h.n→ow' q=ow q)
  (g:h'.get s=.cells [.ptr m 0,cz,cv,cK,lK,.int .i64 (x.n:Nat)] 163 none) (mr:nc ow' (id,9) (gb lK)) (d:Own h' 177 5 lK (l.flatMap pF)):iS h' ow' id s m { x with deads:=l } cz cv cK lK:=by
 have k8:∀ {e sz cs v},Own h e sz v cs→∀ q ∈ gb v,q<h.n:=fun o q ab=>o.lt q (am.1 ab);have ap:∀ {q t},ow q=(id,t)→t≠5→t≠9→¬(q=s∨a6 cQ q):=fun {q t} aN bN fU U=>by
  rcases U with rfl | U
  ·rw [k.own] at aN;simp at aN;omega
  ·rw [k.mr q (am.2 U)] at aN;simp at aN;omega
 exact ⟨MC k.lt hk.n,g,(he _ k.lt).trans k.own,
  k.o.ai hk fun q ab=>ap (k.hZ q (am.2 ab)) (by decide) (by decide),k.v.ai hk fun q ab=>ap (k.cv q (am.2 ab)) (by decide) (by decide),k.c.ai hk fun q ab=>ap (k.cc q (am.2 ab)) (by decide) (by decide),d,
  k.hZ.bx (k8 k.o) he,k.cv.bx (k8 k.v) he,k.cc.bx (k8 k.c) he,mr⟩
structure gC (h:I) (ow:cG) (id s m:Nat) (b:At) (c:bq) (x:b1):Prop where
 dD:gu h ow id m b c x.1
 oG:∃ cz cv cK cQ,iS h ow id s m x.2 cz cv cK cQ
 bg:Fr h ow
 u3:gN h
 mg:id≠0
section
variable {h h':I} {ow ow':cG} {id s m:Nat} {b:At} {c:bq} {x:b1}
theorem gC.br (k:gC h ow id s m b c x) (hk:J h h' none_):gC h' ow id s m b c x:=by
 obtain ⟨cz,cv,cK,cQ,aa⟩:=k.oG;exact ⟨k.dD.br hk,⟨cz,cv,cK,cQ,aa.br hk⟩,fun q ab=>k.bg q (OF hk.n ab),k.u3.ai hk,k.mg⟩
end
def kl (id s m:Nat) (b:At) (c:bq) (h:I) (ow:cG) (y:b1):V→I→Prop:=fun r h'=>r=.tuple []∧∃ ow',fQ id h ow h' ow'∧gC h' ow' id s m b c y
theorem Uw (h:I) (o:Int×Rec×Int):ie ds 99 1 [(0,.agg (pF o))] h=some (.bj h.n 0 1 1,h.push (.cells (pF o) 177 none)):=by rw [lY Y1];rfl
theorem Ux (h:I) (o:Int×Rec):ie ds 98 1 [(0,.agg (hO o))] h=some (.bj h.n 0 1 1,h.push (.cells (hO o) 173 none)):=by rw [lY Y0];rfl
theorem OJ {P:Program} {t:TypeId} {T:kx} (cd:fL P t=some T) (dg:0<T.sz) {α:Type} {enc:α→List V} (hlen:∀ a,(enc a).length=T.sz) (cm:∀ a,(enc a).all (·.one)=true) (hk:ef P t=some 1) (aa:T.sz * 8=T.ao) (kh:T.sz≤8)
  {h:I} {s:V} {cs:List α} (o:Own h T.e T.sz s (cs.flatMap enc)) (aw:cs.length≤2 ^ 40) (c:α) :
  ∃ cJ h',kO P t t s (.bj h.n 0 1 1) (h.push (.cells (enc c) T.e none))=some (cJ,h')∧Own h' T.e T.sz cJ ((cs++[c]).flatMap enc)∧J (h.push (.cells (enc c) T.e none)) h' (a6 s)∧dm (h.push (.cells (enc c) T.e none)) s cJ:=by
 have k:J h (h.push (.cells (enc c) T.e none)) none_:=J.push _ _ _;have Uy:Own (h.push (.cells (enc c) T.e none)) T.e T.sz (.bj h.n 0 1 1) (enc c):=Own.eZ _ 1 (by rw [hlen];omega) (by decide)
 have dR:=vJ (P:=P) (t:=t) hk Uy (n:=1) (by rw [hlen];omega) dg (cm c)
 obtain ⟨cJ,h',fh,hq,my,gW⟩:=vI (P:=P) (t:=t) (tx:=t) cd dg (o.br k) dR (by rw [hlen];omega) (fun m hm=>by
  rw [gM hlen,hlen] at hm;have:m=cs.length+1:=Nat.eq_of_mul_eq_mul_right dg (by rw [hm,Nat.add_mul];omega)
  subst this;have:T.ao≤64:=by omega
  have ad:(cs.length+1) * T.ao≤(2 ^ 40+1) * 64:=Nat.mul_le_mul (by omega) this
  exact ⟨by simp only [lim];omega,by simp only [lim];omega⟩)
 refine ⟨cJ,h',fh,?_,my,gW⟩;rw [avH];simpa using hq
theorem Ew {h:I} {ow:cG} {id s m:Nat} {b:At} {c:bq} {x:b1} (k:gC h ow id s m b c x) (u:Int) (r:Rec) (e:Int) (aw:x.2.deads.length≤2 ^ 30) :
  af ds 85 [.ptr s 0,.int .i64 u,.agg (aI r),.int .i64 e] h (kl id s m b c h ow (pE u r e x)):=by
 refine af.au (c:=_) Tryz.func85 rfl (by kernel_rfl) (by simp) ?_
 obtain ⟨cz,cv,cK,cQ,aa⟩:=k.oG;obtain ⟨H,hH⟩:∃ y,y=h.push (.cells (aI r) 45 none):=⟨_,rfl⟩;have bw:J h H none_:=by rw [hH];exact J.push _ _ _
 have lL:H.get h.n=.cells (aI r) 45 none:=by rw [hH];exact ck
 have ju:H.n=h.n+1:=by rw [hH];rfl
 have kE:=aa.br bw;have gs:=kE.get;have ld:cO (some (some 3)) (some (aI r))=some (.agg (aI r)):=rfl;have d0:cP (.cells (aI r) 45 none) 0=some (aI r):=rfl;have cc:(V.agg (aI r)).cells=some (aI r):=rfl;simp only [ae];rw [←hH];clear hH;have CE:(if (aI r).length=3 then if 5≤(rG [V.int IntKind.i64 u,V.int IntKind.i64 0,V.int IntKind.i64 0,V.int IntKind.i64 0,V.int IntKind.i64 0] 1 (aI r)).length then some ((rG [V.int IntKind.i64 u,V.int IntKind.i64 0,V.int IntKind.i64 0,V.int IntKind.i64 0,V.int IntKind.i64 0] 1 (aI r)).set 4 (V.int IntKind.i64 e)) else none else none)=some (pF (u,r,e)):=rfl
 obtain ⟨lK,ad,q,dZ,ba,dy⟩:=OJ (P:=ds) (t:=99) Y1 (by decide) OI aqh YN (by decide) (by decide) kE.d (cs:=x.2.deads) (OF aw (by decide)) (u,r,e)
 have hj:J H (H.push (.cells (pF (u,r,e)) 177 none)) none_:=J.push _ _ _;have u4:=(ba.get s (MC kE.lt hj.n) (fun U=>by have:=aa.mr s (am.2 U);rw [aa.own] at this;simp at this)).trans ((hj.get s kE.lt (by simp [none_])).trans gs)
 have f1:a6 cQ s=False:=eq_false fun U=>by have:=aa.mr s (am.2 U);rw [aa.own] at this;simp at this
 have f2:a6 cQ h.n=False:=eq_false fun U=>by have:=aa.d.lt _ U;omega
 have p9:J H ad (fun x=>a6 cQ x):=hj.up.trans' ba;have qy:lK.one=true:=by
  rcases dZ with ⟨rfl | rfl,_⟩ | ⟨_,_,_,_,_,rfl,_⟩<;>rfl
 have oA:lK.cells=some [lK]:=by
  rcases dZ with ⟨rfl | rfl,_⟩ | ⟨_,_,_,_,_,rfl,_⟩<;>rfl
 have dV:bF (some 1) (aO.cells [.ptr m 0,cz,cv,cK,cQ,.int .i64 (x.2.n:Nat)] 163 none) 4 [lK]=some (.cells [.ptr m 0,cz,cv,cK,lK,.int .i64 (x.2.n:Nat)] 163 none):=by rw [rU qy];rfl
 refine aZ.bB (fun x=>a6 cQ x) [10,11,15] (.q 0 (.q 1 (.q 2 (.q 3 (.q 4 (.q 5 (.q 6 (.q 7 (.q 8 (.q 9 (.e 10 (.e 11 (.q 12 (.q 13 (.q 14 (.a 15 .done)))) .stop) .stop))))))))))) (by kernel_rfl) (by kernel_rfl) (by kernel_rfl) ?_
 simp only [ae,bM,eH,vt,AS,By,reduceCtorEq,SC,B3,dG,SZ,am0,Y5,anF,gs,lL,ld,d0,cc,CE,Uw,q,u4,f1,f2,p9,oA,dV,kQ,Tryz.results85,hK];have rz:J h (ad.set s (.cells [.ptr m 0,cz,cv,cK,lK,.int .i64 (x.2.n:Nat)] 163 none)) (fun q=>q=s∨a6 cQ q) :=
  (bw.up.trans' (p9.mono fun q ab=>.inr ab)).trans' ((J.set _ _ _).mono fun q ab=>.inl ab)
 have n3:(ad.set s (.cells [.ptr m 0,cz,cv,cK,lK,.int .i64 (x.2.n:Nat)] 163 none)).n=ad.n:=rfl;have g3:(ad.set s (.cells [.ptr m 0,cz,cv,cK,lK,.int .i64 (x.2.n:Nat)] 163 none)).get s=.cells [.ptr m 0,cz,cv,cK,lK,.int .i64 (x.2.n:Nat)] 163 none:=aT;have pA:Own (ad.set s (.cells [.ptr m 0,cz,cv,cK,lK,.int .i64 (x.2.n:Nat)] 163 none)) 177 5 lK ((x.2.deads++[(u,r,e)]).flatMap pF):=Own.ai dZ (J.set _ _ _) fun q ab U=>by
  subst U;rcases dy with d | d
  ·rw [d] at ab;exact f1.mp ab
  ·have h1:(H.push (.cells (pF (u,r,e)) 177 none)).n≤q:=d q ab;have:=kE.lt;have:=hj.n;omega
 have CF:gk h (gb cQ) (gb lK):=fun q ab=>by
  rcases OG dy q ab with U | U
  ·exact .inl U
  ·exact .inr (by have:=hj.n;have:(H.push (.cells (pF (u,r,e)) 177 none)).n≤q:=U;omega)
 generalize ad.set s (.cells [.ptr m 0,cz,cv,cK,lK,.int .i64 (x.2.n:Nat)] 163 none)=aD at rz n3 g3 pA⊢;have kf:∀ q,q<h.n→(q=s∨a6 cQ q)→∃ t,ow q=(id,t)∧5≤t∧t≤9:=fun q ab U=>by
  rcases U with rfl | U
  ·exact ⟨5,aa.own,by omega,by omega⟩
  ·exact ⟨9,aa.mr q (am.2 U),by omega,by omega⟩
 have bz:=fQ.dj (id:=id) k.bg rz (fun q ab U=>by obtain ⟨t,h1,ad,_⟩:=kf q ab U;unfold cD;rw [h1];exact ⟨rfl,ad⟩) (id,9)
 exact ax ⟨rfl,_,bz,k.dD.part rz kf bz.bx,⟨cz,cv,cK,lK,aa.Uv rz bz.bx g3 (aa.mr.new (fun q ab=>aa.d.lt q (am.1 ab)) CF fun q ab=>pA.lt q (am.1 ab)) pA⟩,bz.bg,k.u3.ai rz,k.mg⟩
theorem iS.Uz {h h':I} {ow ow':cG} {id s m:Nat} {x:fy} {cz cv cK cQ lM:V} {l:List (Int×Rec)} (k:iS h ow id s m x cz cv cK cQ) (hk:J h h' (fun q=>q=s∨a6 cz q)) (he:∀ q,q<h.n→ow' q=ow q)
  (g:h'.get s=.cells [.ptr m 0,lM,cv,cK,cQ,.int .i64 (x.n:Nat)] 163 none) (hZ:nc ow' (id,6) (gb lM)) (o:Own h' 173 4 lM (l.flatMap hO)):iS h' ow' id s m { x with outs:=l } lM cv cK cQ:=by
 have k8:∀ {e sz cs v},Own h e sz v cs→∀ q ∈ gb v,q<h.n:=fun o q ab=>o.lt q (am.1 ab);have ap:∀ {q t},ow q=(id,t)→t≠5→t≠6→¬(q=s∨a6 cz q):=fun {q t} aN bN fU U=>by
  rcases U with rfl | U
  ·rw [k.own] at aN;simp at aN;omega
  ·rw [k.hZ q (am.2 U)] at aN;simp at aN;omega
 exact ⟨MC k.lt hk.n,g,(he _ k.lt).trans k.own,
  o,k.v.ai hk fun q ab=>ap (k.cv q (am.2 ab)) (by decide) (by decide),k.c.ai hk fun q ab=>ap (k.cc q (am.2 ab)) (by decide) (by decide),k.d.ai hk fun q ab=>ap (k.mr q (am.2 ab)) (by decide) (by decide),
  hZ,k.cv.bx (k8 k.v) he,k.cc.bx (k8 k.c) he,k.mr.bx (k8 k.d) he⟩
theorem KT {h:I} {ow:cG} {id s m:Nat} {b:At} {c:bq} {x:b1} (k:gC h ow id s m b c x) (u:Int) (r:Rec) (aw:x.2.outs.length≤2 ^ 30) :
  af ds 154 [.ptr s 0,.int .i64 u,.agg (aI r)] h (kl id s m b c h ow (oF u r x)):=by
 refine af.au (c:=_) Tryz.func154 rfl (by kernel_rfl) (by simp) ?_
 obtain ⟨cz,cv,cK,cQ,aa⟩:=k.oG;obtain ⟨H,hH⟩:∃ y,y=h.push (.cells (aI r) 45 none):=⟨_,rfl⟩;have bw:J h H none_:=by rw [hH];exact J.push _ _ _
 have lL:H.get h.n=.cells (aI r) 45 none:=by rw [hH];exact ck
 have ju:H.n=h.n+1:=by rw [hH];rfl
 have kE:=aa.br bw;have gs:=kE.get;have ld:cO (some (some 3)) (some (aI r))=some (.agg (aI r)):=rfl;have d0:cP (.cells (aI r) 45 none) 0=some (aI r):=rfl;have cc:(V.agg (aI r)).cells=some (aI r):=rfl;simp only [ae];rw [←hH];clear hH;have CE:(if (aI r).length=3 then some (rG [V.int IntKind.i64 u,V.int IntKind.i64 0,V.int IntKind.i64 0,V.int IntKind.i64 0] 1 (aI r)) else none)=some (hO (u,r)):=rfl
 obtain ⟨lM,ad,q,dZ,ba,dy⟩:=OJ (P:=ds) (t:=98) Y0 (by decide) OH aqg YM (by decide) (by decide) kE.o (cs:=x.2.outs) (OF aw (by decide)) (u,r)
 have hj:J H (H.push (.cells (hO (u,r)) 173 none)) none_:=J.push _ _ _;have u4:=(ba.get s (MC kE.lt hj.n) (fun U=>by have:=aa.hZ s (am.2 U);rw [aa.own] at this;simp at this)).trans ((hj.get s kE.lt (by simp [none_])).trans gs)
 have f1:a6 cz s=False:=eq_false fun U=>by have:=aa.hZ s (am.2 U);rw [aa.own] at this;simp at this
 have f2:a6 cz h.n=False:=eq_false fun U=>by have:=aa.o.lt _ U;omega
 have p9:J H ad (fun x=>a6 cz x):=hj.up.trans' ba;have qy:lM.one=true:=by
  rcases dZ with ⟨rfl | rfl,_⟩ | ⟨_,_,_,_,_,rfl,_⟩<;>rfl
 have oA:lM.cells=some [lM]:=by
  rcases dZ with ⟨rfl | rfl,_⟩ | ⟨_,_,_,_,_,rfl,_⟩<;>rfl
 have dV:bF (some 1) (aO.cells [.ptr m 0,cz,cv,cK,cQ,.int .i64 (x.2.n:Nat)] 163 none) 1 [lM]=some (.cells [.ptr m 0,lM,cv,cK,cQ,.int .i64 (x.2.n:Nat)] 163 none):=by rw [rU qy];rfl
 refine aZ.bB (fun x=>a6 cz x) [9,10,14] (.q 0 (.q 1 (.q 2 (.q 3 (.q 4 (.q 5 (.q 6 (.q 7 (.q 8 (.e 9 (.e 10 (.q 11 (.q 12 (.q 13 (.a 14 .done)))) .stop) .stop)))))))))) (by kernel_rfl) (by kernel_rfl) (by kernel_rfl) ?_
 simp only [ae,bM,eH,vt,AS,By,reduceCtorEq,Yu,B3,dG,YS,amZ,Y4,anE,gs,lL,ld,d0,cc,CE,Ux,q,u4,f1,f2,p9,oA,dV,kQ,Tryz.results154,hK];have rz:J h (ad.set s (.cells [.ptr m 0,lM,cv,cK,cQ,.int .i64 (x.2.n:Nat)] 163 none)) (fun q=>q=s∨a6 cz q) :=
  (bw.up.trans' (p9.mono fun q ab=>.inr ab)).trans' ((J.set _ _ _).mono fun q ab=>.inl ab)
 have n3:(ad.set s (.cells [.ptr m 0,lM,cv,cK,cQ,.int .i64 (x.2.n:Nat)] 163 none)).n=ad.n:=rfl;have g3:(ad.set s (.cells [.ptr m 0,lM,cv,cK,cQ,.int .i64 (x.2.n:Nat)] 163 none)).get s=.cells [.ptr m 0,lM,cv,cK,cQ,.int .i64 (x.2.n:Nat)] 163 none:=aT;have pA:Own (ad.set s (.cells [.ptr m 0,lM,cv,cK,cQ,.int .i64 (x.2.n:Nat)] 163 none)) 173 4 lM ((x.2.outs++[(u,r)]).flatMap hO):=Own.ai dZ (J.set _ _ _) fun q ab U=>by
  subst U;rcases dy with d | d
  ·rw [d] at ab;exact f1.mp ab
  ·have h1:(H.push (.cells (hO (u,r)) 173 none)).n≤q:=d q ab;have:=kE.lt;have:=hj.n;omega
 have CF:gk h (gb cz) (gb lM):=fun q ab=>by
  rcases OG dy q ab with U | U
  ·exact .inl U
  ·exact .inr (by have:=hj.n;have:(H.push (.cells (hO (u,r)) 173 none)).n≤q:=U;omega)
 generalize ad.set s (.cells [.ptr m 0,lM,cv,cK,cQ,.int .i64 (x.2.n:Nat)] 163 none)=aD at rz n3 g3 pA⊢;have kf:∀ q,q<h.n→(q=s∨a6 cz q)→∃ t,ow q=(id,t)∧5≤t∧t≤9:=fun q ab U=>by
  rcases U with rfl | U
  ·exact ⟨5,aa.own,by omega,by omega⟩
  ·exact ⟨6,aa.hZ q (am.2 U),by omega,by omega⟩
 have bz:=fQ.dj (id:=id) k.bg rz (fun q ab U=>by obtain ⟨t,h1,ad,_⟩:=kf q ab U;unfold cD;rw [h1];exact ⟨rfl,ad⟩) (id,6)
 exact ax ⟨rfl,_,bz,k.dD.part rz kf bz.bx,⟨lM,cv,cK,cQ,aa.Uz rz bz.bx g3 (aa.hZ.new (fun q ab=>aa.o.lt q (am.1 ab)) CF fun q ab=>pA.lt q (am.1 ab)) pA⟩,bz.bg,k.u3.ai rz,k.mg⟩
theorem iS.UA {h h':I} {ow ow':cG} {id s m:Nat} {x:fy} {cz cv cK cQ iT:V} {l:List Int} (k:iS h ow id s m x cz cv cK cQ) (hk:J h h' (fun q=>q=s∨a6 cv q)) (he:∀ q,q<h.n→ow' q=ow q)
  (g:h'.get s=.cells [.ptr m 0,cz,iT,cK,cQ,.int .i64 (x.n:Nat)] 163 none) (KU:nc ow' (id,7) (gb iT)) (Ex:Own h' 3 1 iT (ar l)):iS h' ow' id s m { x with verts:=l } cz iT cK cQ:=by
 have k8:∀ {e sz cs v},Own h e sz v cs→∀ q ∈ gb v,q<h.n:=fun o q ab=>o.lt q (am.1 ab);have ap:∀ {q t},ow q=(id,t)→t≠5→t≠7→¬(q=s∨a6 cv q):=fun {q t} aN bN fU U=>by
  rcases U with rfl | U
  ·rw [k.own] at aN;simp at aN;omega
  ·rw [k.cv q (am.2 U)] at aN;simp at aN;omega
 exact ⟨MC k.lt hk.n,g,(he _ k.lt).trans k.own,
  k.o.ai hk fun q ab=>ap (k.hZ q (am.2 ab)) (by decide) (by decide),Ex,k.c.ai hk fun q ab=>ap (k.cc q (am.2 ab)) (by decide) (by decide),k.d.ai hk fun q ab=>ap (k.mr q (am.2 ab)) (by decide) (by decide),k.hZ.bx (k8 k.o) he,KU,k.cc.bx (k8 k.c) he,k.mr.bx (k8 k.d) he⟩
theorem iS.UB {h h':I} {ow ow':cG} {id s m:Nat} {x:fy} {cz cv cK cQ pf:V} {l:List aF} (k:iS h ow id s m x cz cv cK cQ) (hk:J h h' (fun q=>q=s∨a6 cK q)) (he:∀ q,q<h.n→ow' q=ow q)
  (g:h'.get s=.cells [.ptr m 0,cz,cv,pf,cQ,.int .i64 (x.n:Nat)] 163 none) (KU:nc ow' (id,8) (gb pf)) (Ex:Own h' 110 5 pf (l.flatMap bu)):iS h' ow' id s m { x with chgs:=l } cz cv pf cQ:=by
 have k8:∀ {e sz cs v},Own h e sz v cs→∀ q ∈ gb v,q<h.n:=fun o q ab=>o.lt q (am.1 ab);have ap:∀ {q t},ow q=(id,t)→t≠5→t≠8→¬(q=s∨a6 cK q):=fun {q t} aN bN fU U=>by
  rcases U with rfl | U
  ·rw [k.own] at aN;simp at aN;omega
  ·rw [k.cc q (am.2 U)] at aN;simp at aN;omega
 exact ⟨MC k.lt hk.n,g,(he _ k.lt).trans k.own,
  k.o.ai hk fun q ab=>ap (k.hZ q (am.2 ab)) (by decide) (by decide),k.v.ai hk fun q ab=>ap (k.cv q (am.2 ab)) (by decide) (by decide),Ex,k.d.ai hk fun q ab=>ap (k.mr q (am.2 ab)) (by decide) (by decide),k.hZ.bx (k8 k.o) he,k.cv.bx (k8 k.v) he,KU,k.mr.bx (k8 k.d) he⟩
theorem abX (l:List Int):l.flatMap (fun a=>[V.int .i64 a])=ar l:=by
 induction l with
 | nil=>rfl
 | cons a r ih=>rw [avj,ih];rfl
theorem UC (h:I) (u:Int):ie ds 46 1 [(0,.int .i64 u)] h=some (.bj h.n 0 1 1,h.push (.cells [.int .i64 u] 3 none)):=by rw [lY oU];rfl
theorem u5 {h:I} {e:TypeId} {sz:Nat} {v:V} {cs:List V} (o:Own h e sz v cs):v.one=true∧v.cells=some [v]:=by
 rcases o with ⟨rfl | rfl,_⟩ | ⟨_,_,_,_,_,rfl,_⟩<;>exact ⟨rfl,rfl⟩
theorem aqi (u:Int) (cs:List aF) (c:aF) (x:b1):kW u [c] (kW u cs x)=kW u (cs++[c]) x:=by
 unfold kW;simp [List.append_assoc,List.replicate_succ']
theorem Hb {h:I} {ow:cG} {id s m:Nat} {b:At} {c:bq} {x:b1} (k:gC h ow id s m b c x) (u:Int) (cs:List aF) (aw:x.2.verts.length+x.2.chgs.length+cs.length≤2 ^ 30) :
  af ds 86 [.ptr s 0,.int .i64 u,iz cs] h (kl id s m b c h ow (kW u cs x)):=by
 unfold iz;refine af.au (c:=_) Tryz.func86 rfl (by kernel_rfl) (by simp) ?_
 simp only [ae,GM];refine aZ.bQ (α:=Nat×cG) (fun y f h'=>f 0=.ptr s 0∧f 1=.int .i64 u∧f 8=.ah cs.length (cs.flatMap bu)∧f 9=.int .i64 ((cs.length:Nat):Int)∧f 10=.int .i64 (y.1:Nat)∧y.1≤cs.length∧fQ id h ow h' y.2∧gC h' y.2 id s m b c (kW u (cs.take y.1) x)) (fun y=>cs.length - y.1) (0,ow)
  ⟨rfl,rfl,rfl,rfl,rfl,Dc _,fQ.refl k.bg,by simpa [kW] using k⟩ ?_
 rintro ⟨t,dL⟩ f h1 ⟨f0,f1,f8,f9,f10,bE,bz,kk⟩
 simp only at f10 bE bz kk;refine ee (by kernel_rfl) ?_
 by_cases aM:t<cs.length
 ·have d1:decide ((t:Int)<((cs.length:Nat):Int))=true:=decide_eq_true (by omega)
  have hw:=sU aM (by omega)
  obtain ⟨kV,cy⟩:=aoT (kk:=.i64) aM;have gH:(x.2.verts++avr (cs.take t).length u).length≤2 ^ 30∧(x.2.chgs++cs.take t).length≤2 ^ 30:=by
   simp only [IS,axv,List.length_take];omega
  have cd:kW u (cs.take (t+1)) x=kW u [cs[t]] (kW u (cs.take t) x):=by rw [aqi,avt aM]
  generalize cs[t]=C at cy cd;obtain ⟨cz,cv,cK,cQ,aa⟩:=kk.oG;obtain ⟨X,fT⟩:∃ X,X=kW u (cs.take t) x:=⟨_,rfl⟩;have IW:X.2.verts.length≤2 ^ 30:=by rw [fT];exact gH.1
  have wB:X.2.chgs.length≤2 ^ 30:=by rw [fT];exact gH.2
  rw [←fT] at kk aa cd;clear fT;have cc:(V.agg (bu C)).cells=some (bu C):=rfl;have st:bF (some 5) (aO.cells [V.int .i64 0,V.int .i64 0,V.int .i64 0,V.int .i64 0,V.bool false] 110 none) 0 (bu C)=some (.cells (bu C) 110 none):=rfl;have ld:cO (some (some 5)) (some (bu C++kV))=some (.agg (bu C)):=lz (zf C);obtain ⟨H,hH⟩:∃ y,y=h1.push (.cells (bu C) 110 none):=⟨_,rfl⟩;have bw:J h1 H none_:=by rw [hH];exact J.push _ _ _
  have lL:H.get h1.n=.cells (bu C) 110 none:=by rw [hH];exact ck
  have ju:H.n=h1.n+1:=by rw [hH];rfl
  have kE:=aa.br bw;have gs:=kE.get;simp only [ae,vt,AS,reduceCtorEq,SB,B3,vN,hz,Cb,AP,f0,f8,f9,f10,d1,cy,ld,cc,st];rw [←hH];clear hH;have rE:Own H 3 1 cv (X.2.verts.flatMap fun a=>[V.int .i64 a]):=by rw [abX];exact kE.v
  obtain ⟨iT,ad,q,dZ,ba,dy⟩:=OJ (P:=ds) (t:=46) (enc:=fun a:Int=>[V.int .i64 a]) oU (by decide) (fun _=>rfl) (fun _=>rfl) gy (by decide) (by decide) rE (cs:=X.2.verts) (OF IW (by decide)) u
  have hj:J H (H.push (.cells [.int .i64 u] 3 none)) none_:=J.push _ _ _;have aqj:kO ds 46 46 cv (.bj H.n 0 1 1) (H.push (.cells [.int .i64 u] 3 none))=some (iT,ad):=q;have Qs:a6 cv s=False:=eq_false fun U=>by have:=aa.cv s (am.2 U);rw [aa.own] at this;simp at this
  have abY:a6 cv h1.n=False:=eq_false fun U=>by have:=aa.v.lt _ U;omega
  have p9:J H ad (fun x=>a6 cv x):=hj.up.trans' ba;have u4:=(p9.get s kE.lt (fun U=>Qs.mp U)).trans gs;have qa:=(p9.get h1.n (by omega) (fun U=>abY.mp U)).trans lL
  obtain ⟨qy,oA⟩:=u5 dZ;have dV:bF (some 1) (aO.cells [.ptr m 0,cz,cv,cK,cQ,.int .i64 (X.2.n:Nat)] 163 none) 2 [iT]=some (.cells [.ptr m 0,cz,iT,cK,cQ,.int .i64 (X.2.n:Nat)] 163 none):=by rw [rU qy];rfl
  simp only [ae,vt,AS,By,SB,B3,Cc,f1,gs,UC,aqj,u4,oA,dV];have rz:J H (ad.set s (.cells [.ptr m 0,cz,iT,cK,cQ,.int .i64 (X.2.n:Nat)] 163 none)) (fun q=>q=s∨a6 cv q) :=
   (p9.mono fun q ab=>.inr ab).trans' ((J.set _ _ _).mono fun q ab=>.inl ab)
  have bI:h1.n≠s:=by have:=aa.lt;omega
  have lN:(ad.set s (.cells [.ptr m 0,cz,iT,cK,cQ,.int .i64 (X.2.n:Nat)] 163 none)).get h1.n=.cells (bu C) 110 none:=by rw [np bI];exact qa
  have g3:(ad.set s (.cells [.ptr m 0,cz,iT,cK,cQ,.int .i64 (X.2.n:Nat)] 163 none)).get s=(.cells [.ptr m 0,cz,iT,cK,cQ,.int .i64 (X.2.n:Nat)] 163 none):=aT;have pA:Own (ad.set s (.cells [.ptr m 0,cz,iT,cK,cQ,.int .i64 (X.2.n:Nat)] 163 none)) 3 1 iT (ar (X.2.verts++[u])):=by
   have yu:Own ad 3 1 iT (ar (X.2.verts++[u])):=by rw [←abX];exact dZ
   refine yu.ai (J.set _ _ _) fun q ab U=>?_;subst U;rcases dy with d | d
   ·rw [d] at ab;exact Qs.mp ab
   ·have h1:(H.push (.cells [.int .i64 u] 3 none)).n≤q:=d q ab;have:=kE.lt;have:=hj.n;omega
  have CF:gk H (gb cv) (gb iT):=fun q ab=>by
   rcases OG dy q ab with U | U
   ·exact .inl U
   ·exact .inr (by have:=hj.n;have:(H.push (.cells [.int .i64 u] 3 none)).n≤q:=U;omega)
  have n3:(ad.set s (.cells [.ptr m 0,cz,iT,cK,cQ,.int .i64 (X.2.n:Nat)] 163 none)).n=ad.n:=rfl;generalize ad.set s (.cells [.ptr m 0,cz,iT,cK,cQ,.int .i64 (X.2.n:Nat)] 163 none)=aD at rz n3 g3 pA lN⊢;have jR:=kk.br bw;have kf:∀ q,q<H.n→(q=s∨a6 cv q)→∃ t,dL q=(id,t)∧5≤t∧t≤9:=fun q ab U=>by
   rcases U with rfl | U
   ·exact ⟨5,aa.own,by omega,by omega⟩
   ·exact ⟨7,aa.cv q (am.2 U),by omega,by omega⟩
  have ng:=fQ.dj (id:=id) jR.bg rz (fun q ab U=>by obtain ⟨t,h1,ad,_⟩:=kf q ab U;unfold cD;rw [h1];exact ⟨rfl,ad⟩) (id,7)
  have wL:=kE.UA rz ng.bx g3 (aa.cv.new (fun q ab=>kE.v.lt q (am.1 ab)) CF fun q ab=>pA.lt q (am.1 ab)) pA;have abZ:=jR.dD.part rz kf ng.bx;have ab0:=jR.u3.ai rz;have qb:=(fQ.push (id:=id) kk.bg bw).trans ng;have auk:=rz.n;have fw:h1.n<aD.n:=by omega
  obtain ⟨pf,bn,AW,Cv,db,n4⟩:=OJ (P:=ds) (t:=52) NX (by decide) zf aag GM (by decide) (by decide) wL.c (cs:=X.2.chgs) (OF wB (by decide)) C
  have UD:J aD (aD.push (.cells (bu C) 110 none)) none_:=J.push _ _ _;have KV:a6 cK s=False:=eq_false fun U=>by have:=aa.cc s (am.2 U);rw [aa.own] at this;simp at this
  have ab1:a6 cK h1.n=False:=eq_false fun U=>by have:=aa.c.lt _ U;omega
  have UE:J aD bn (fun x=>a6 cK x):=UD.up.trans' db;have ab2:=(UE.get s wL.lt (fun U=>KV.mp U)).trans g3;obtain ⟨OK,KW⟩:=u5 Cv;have OL:bF (some 1) (.cells [.ptr m 0,cz,iT,cK,cQ,.int .i64 (X.2.n:Nat)] 163 none) 3 [pf]=some (.cells [.ptr m 0,cz,iT,pf,cQ,.int .i64 (X.2.n:Nat)] 163 none):=by rw [rU OK];rfl
  have d0:cP (.cells (bu C) 110 none) 0=some (bu C):=rfl;have jQ:cO (some (some 5)) (some (bu C))=some (.agg (bu C)):=rfl;refine aZ.bB (fun x=>a6 cK x) [7,8,12] (.q 0 (.q 1 (.q 2 (.q 3 (.q 4 (.q 5 (.q 6 (.e 7 (.e 8 (.q 9 (.q 10 (.q 11 (.a 12 .done)))) .stop) .stop)))))))) (by kernel_rfl) (by kernel_rfl) (by kernel_rfl) ?_
  simp only [ae,bM,eH,vt,AS,By,reduceCtorEq,Yv,B3,vN,YR,anD,f0,f10,g3,lN,d0,jQ,TH,AW,KV,ab1,UE,ab2,KW,OL,hw];have KX:J aD (bn.set s (.cells [.ptr m 0,cz,iT,pf,cQ,.int .i64 (X.2.n:Nat)] 163 none)) (fun q=>q=s∨a6 cK q) :=
   (UE.mono fun q ab=>.inr ab).trans' ((J.set _ _ _).mono fun q ab=>.inl ab)
  have g5:(bn.set s (.cells [.ptr m 0,cz,iT,pf,cQ,.int .i64 (X.2.n:Nat)] 163 none)).get s=(.cells [.ptr m 0,cz,iT,pf,cQ,.int .i64 (X.2.n:Nat)] 163 none):=aT;have UF:Own (bn.set s (.cells [.ptr m 0,cz,iT,pf,cQ,.int .i64 (X.2.n:Nat)] 163 none)) 110 5 pf ((X.2.chgs++[C]).flatMap bu):=Own.ai Cv (J.set _ _ _) fun q ab U=>by
   subst U;rcases n4 with d | d
   ·rw [d] at ab;exact KV.mp ab
   ·have h1:(aD.push (.cells (bu C) 110 none)).n≤q:=d q ab;have:=wL.lt;have:=UD.n;omega
  have ab3:gk aD (gb cK) (gb pf):=fun q ab=>by
   rcases OG n4 q ab with U | U
   ·exact .inl U
   ·exact .inr (by have:=UD.n;have:(aD.push (.cells (bu C) 110 none)).n≤q:=U;omega)
  generalize bn.set s (.cells [.ptr m 0,cz,iT,pf,cQ,.int .i64 (X.2.n:Nat)] 163 none)=bN at KX g5 UF⊢;have Qt:∀ q,q<aD.n→(q=s∨a6 cK q)→∃ t,dj dL H.n aD.n (id,7) q=(id,t)∧5≤t∧t≤9:=fun q ab U=>by
   rcases U with rfl | U
   ·exact ⟨5,wL.own,by omega,by omega⟩
   ·exact ⟨8,wL.cc q (am.2 U),by omega,by omega⟩
  have tt:=fQ.dj (id:=id) ng.bg KX (fun q ab U=>by obtain ⟨t,h1,ad,_⟩:=Qt q ab U;unfold cD;rw [h1];exact ⟨rfl,ad⟩) (id,8)
  have KY:=wL.UB KX tt.bx g5 (wL.cc.new (fun q ab=>wL.c.lt q (am.1 ab)) ab3 fun q ab=>UF.lt q (am.1 ab)) UF;have ab4:=abZ.part KX Qt tt.bx;have fin:gC bN (dj (dj dL H.n aD.n (id,7)) aD.n bN.n (id,8)) id s m b c (kW u [C] X):=⟨ab4,⟨_,_,_,_,KY⟩,tt.bg,ab0.ai KX,kk.mg⟩;exact ax ⟨(t+1,_),⟨f0,f1,f8,f9,rfl,aM,bz.trans (qb.trans tt),by rw [cd];exact fin⟩,by simp only;omega⟩
 ·have d1:decide ((t:Int)<((cs.length:Nat):Int))=false:=decide_eq_false (by omega)
  rw [are (by omega)] at kk
  simp only [ae,f9,f10,d1,kQ,Tryz.results86,hK];exact ax ⟨rfl,dL,bz,kk⟩
def sz (x:b1):Nat:=x.2.outs.length+x.2.verts.length+x.2.chgs.length+x.2.deads.length+4000 * (1000 - x.2.n)
structure Inv (c:bq) (x:b1):Prop where
 n:x.2.n≤1000
 wf:∀ u K,c.er u=some K→dP K (x.1.st u)
structure cA (c:bq) (j:Nat) (x y:b1):Prop where
 inv:Inv c y
 sz:sz y≤sz x+j
 ms:y.1.ms=x.1.ms
def gD (c:bq) (j:Nat) (F:b1→b1):Prop:=∀ x,Inv c x→cA c j x (F x)
theorem cA.refl {c:bq} {x:b1} (i:Inv c x):cA c 0 x x:=⟨i,BY _,rfl⟩
theorem cA.trans {c:bq} {j k:Nat} {x y z:b1} (a:cA c j x y) (b:cA c k y z):cA c (j+k) x z:=⟨b.inv,by have:=a.sz;have:=b.sz;omega,b.ms.trans a.ms⟩
theorem cA.mono {c:bq} {j k:Nat} {x y:b1} (a:cA c j x y) (h:j≤k):cA c k x y:=⟨a.inv,by have:=a.sz;omega,a.ms⟩
theorem gD.mono {c:bq} {j k:Nat} {F:b1→b1} (a:gD c j F) (h:j≤k):gD c k F:=fun x i=>(a x i).mono h
theorem Hc (c:bq) (u:Int) (r:Rec) (e:Int):gD c 1 (pE u r e):=fun x i=>⟨⟨i.n,i.wf⟩,by simp only [sz,pE,IS,ave,avi];omega,rfl⟩
theorem UG (c:bq) (u:Int) (r:Rec):gD c 1 (oF u r):=fun x i=>⟨⟨i.n,i.wf⟩,by simp only [sz,oF,IS,ave,avi];omega,rfl⟩
theorem Hd (c:bq) (u:Int) (cs:List aF):gD c (2 * cs.length) (kW u cs):=fun x i=>⟨⟨i.n,i.wf⟩,by simp only [sz,kW,IS,axv];omega,rfl⟩
theorem ab5 {c:bq} {x:b1} (i:Inv c x) (h:x.2.n≠1000):Inv c (dd x)∧sz (dd x)+4000=sz x∧(dd x).1=x.1:=by
 have aG:=i.n;refine ⟨⟨by simp only [dd];omega,i.wf⟩,?_,rfl⟩
 simp only [sz,dd];omega
theorem KZ {c:bq} {u:Nat} {l:List aF} (aw:∀ K,c.er u=some K→dP K l):gD c 0 (kX u l):=fun x i=>⟨⟨i.n,fun v K cq=>by
 simp only [kX];split
 ·rename_i e;subst e;exact aw K cq
 ·exact i.wf v K cq⟩,BY _,rfl⟩
theorem K0 {c:bq} {α:Type} {j:Nat} (f:b1→α→b1):∀ (l:List α),(∀ a ∈ l,gD c j fun x=>f x a)→gD c (j * l.length) fun x=>l.foldl f x
 | [],_=>fun x i=>cA.refl i
 | a::r,h=>fun x i=>by
  have h1:=h a (by simp) x i
  have ad:=K0 f r (fun b al=>h b (by simp [al])) (f x a) h1.inv
  have aD:=h1.trans ad;exact aD.mono (by rw [ave,Nat.mul_add];omega)
theorem ab6 (v:bD) (r:Rec):(oZ v r).1.length≤4:=by
 unfold oZ;split
 ·simp
 ·split
  ·split
   ·split
    ·simp only [jP];split
     ·simp
     ·split
      ·simp
      ·split
       ·split<;>simp
       ·split
        ·rw [KO];omega
        ·simp
    ·simp
   ·simp
  ·simp
theorem ab7 {c:bq} {v:bD} {u:Int} {r:Rec} {th:Rec→b1→b1} (h:∀ y,gD c 24 (th y)):gD c 96 (qK v u th r):=fun x i=>by
 unfold qK;split
 ·exact (Hc c u r _ x i).mono (by omega)
 ·have:=ab6 v r;exact (K0 (j:=24) (fun x y=>th y x) (oZ v r).1 (fun a _=>h a) x i).mono (by omega)
theorem ab8 {K:eI} {l:List aF} (w:dP K l) (k t v:Int):(si K l k t v).length≤1025:=by
 have:=w.len;cases K with
 | kv=>simp [si]
 | jo g=>simp [si]
 | kA g=>
  simp only [si,Ef,IS,VY,ave,avi];have h1:=awv (ip (hR g l k t v)) (found g l k t);have ad:=aoS g l k t;omega
theorem ab9 {K:eI} {e:b4} {l:List aF} {r:Rec} {N:Int} (w:dP K l) (h:mf K e l r=.ok N):mX K e l r=sj K l r.k r.t N∧dP K (sj K l r.k r.t N):=by
 have h1:mX K e l r=sj K l r.k r.t N:=by unfold mX;rw [h]
 exact ⟨h1,by rw [←h1];exact api w r⟩
theorem aqk {c:bq} {K:eI} {v:bD} {u:Nat} {r:Rec} {snd:Rec→b1→b1} (cq:c.er u=some K) (h:∀ y,gD c 24 (snd y)):gD c 2100 (u1 K v u snd r):=fun x i=>by
 unfold u1;split
 ·exact (Hc c u r _ x i).mono (by omega)
 ·have w:=i.wf u K cq;split
  ·exact (Hc c u r _ x i).mono (by omega)
  ·rename_i N tS;have h1:=KZ (c:=c) (u:=u) (l:=sj K (x.1.st u) r.k r.t N) (fun zh ad=>by rw [cq] at ad;cases ad;exact (ab9 w tS).2) x i
   have ad:=Hd c u (si K (x.1.st u) r.k r.t N) _ h1.inv;have aD:=h ⟨r.k,N,A1 K (x.1.st u) r.k r.t⟩ _ ad.inv;have:=ab8 w r.k r.t N;exact ((h1.trans ad).trans aD).mono (by omega)
theorem aql {c:bq} {v:bD} {u:Int} {r:Rec} {snd:Rec→b1→b1} (h:∀ y,gD c 24 (snd y)):gD c 24 (yr c v u snd r):=fun x i=>by
 unfold yr;split
 ·split
  ·exact h _ x i
  ·exact (Hc c u r _ x i).mono (by omega)
 ·exact (Hc c u r _ x i).mono (by omega)
theorem pm {c:bq} {snd:Int→Rec→b1→b1} (h:∀ u y,gD c 24 (snd u y)) (f:Int) (u:Nat) (r:Rec):gD c 1 (su c snd f u r):=fun x i=>by
 unfold su;split
 ·exact Hc c u r _ x i
 ·rename_i aG;obtain ⟨j,aa,hm⟩:=ab5 i aG;have fin:∀ {y:b1} {k:Nat},k≤4000→cA c k (dd x) y→cA c 1 x y:=fun hk bE=>⟨bE.inv,by have:=bE.sz;omega,bE.ms.trans (by rw [hm])⟩
  have f0:cA c 1 x (dd x):=fin (Dc _) (cA.refl j);split
  ·exact f0
  ·split
   ·exact fin (by omega) (ab7 (fun y=>(UG c u y).mono (by omega)) _ j)
   ·split
    ·exact fin (by omega) (ab7 (fun y=>h u y) _ j)
    ·split
     ·split
      ·rename_i K cq;exact fin (by omega) (aqk cq (fun y=>h u y) _ j)
      ·exact f0
     ·split
      ·split
       ·exact fin (by omega) (aql (fun y=>h u y) _ j)
       ·exact f0
      ·exact f0
theorem aqm {c:bq} (aw:c.l.length≤24) (v:Int):(c.us v).length≤24:=by
 unfold bq.us;have h1:=Ek (v:=v) (l:=c.l) (j:=0);have ad:=awv (fun u=>c.P.getD u 0==c.part) ((ha v 0 c.l).map avn);rw [VY] at ad;omega
theorem He {c:bq} (aw:c.l.length≤24):∀ (k:Nat) (v:Int) (r:Rec),gD c 24 (ry c k v r)
 | 0,v,r=>fun x i=>(cA.refl i).mono (by omega)
 | k+1,v,r=>fun x i=>by
  have:=aqm aw v;exact (K0 (j:=1) (fun x u=>su c (ry c k) v u r x) (c.us v) (fun u _=>pm (fun a y=>He aw k a y) v u r) x i).mono (by omega)
end Go.Proofs.YtemdgidnhgcafaaGreatDoor.Pk
